/-
  bytes.Cut at a separator of one byte 0.
-/
import Derived.Test.YtagigeacjendiaaEnCut
import Derived.Lib.BytesEntry
namespace Go.Proofs.Ytagigeacjendiaa
open Go.RowKit

def iz (l : List Nat) : Int := Lib.indexByte (Lib.bytesOf (l.map fun (x : Nat) => (x : Int))) 0
/-- How many bytes stand ahead of the first 0. -/
def preZ (l : List Nat) : Nat := if 0 ≤ iz l then (iz l).toNat else l.length
theorem indexByte_bd : ∀ (l : List UInt8) (c : UInt8), -1 ≤ Lib.indexByte l c ∧ Lib.indexByte l c < l.length
  | [], _ => by simp [Lib.indexByte]
  | b :: l, c => by
    obtain ⟨h1, h2⟩ := indexByte_bd l c
    rw [Lib.indexByte]
    split
    · exact ⟨by decide, by simp⟩
    · split
      · simp; omega
      · simp; omega
theorem iz_bd (l : List Nat) : -1 ≤ iz l ∧ iz l < l.length := by
  have := indexByte_bd (Lib.bytesOf (l.map fun (x : Nat) => (x : Int))) 0
  simpa [iz, Lib.bytesOf] using this
set_option maxHeartbeats 1000000 in
theorem indexByte_any (b o n c : Nat) (l : List Nat) (w : World) (hl : l.length = n) (hc : ∀ i, i < n → w.cell? ⟨b, o + i, none⟩ = some (.int .u8 (l.getD i 0 : Nat))) :
    Calls Try.prog 35 #[.slice (some ⟨b, o, none⟩) n c, .int .u8 0] w fun e w' => e = .returned (.int .i64 (iz l)) ∧ w = w' := by
  have hrun := Lib.run_indexByteSlice (P := Try.prog) w b o n c (l.map fun (x : Nat) => (x : Int)) (by simpa using hl) (fun i hi => by rw [hc i hi]; simp [List.getD_eq_getElem?_getD, List.getElem?_map]; cases l[i]? <;> rfl) 0
  go_enter Try.func35, Try.ntmps35
  go_wp2
  rw [run_callFunc_extern Try.func43 (by kernel_rfl) (by kernel_rfl) (by kernel_rfl) (e := Extern.BytealgIndexByte.indexByte) (by kernel_rfl), hrun]
  simp only [Result.andThen]
  rw [Oper.upon_value]
  go_wp2
  go_ret
  exact ⟨rfl, rfl⟩
set_option maxRecDepth 100000 in
set_option maxHeartbeats 1000000 in
theorem index_any (b o n c g gc : Nat) (l : List Nat) (w : World) (hl : l.length = n) (hc : ∀ i, i < n → w.cell? ⟨b, o + i, none⟩ = some (.int .u8 (l.getD i 0 : Nat))) (h0 : w.cell? ⟨g, 0, none⟩ = some (.int .u8 0)) :
    Calls Try.prog 33 #[.slice (some ⟨b, o, none⟩) n c, .slice (some ⟨g, 0, none⟩) 1 gc] w fun e w' => e = .returned (.int .i64 (iz l)) ∧ w = w' := by
  have HI := Lib.hid (indexByte_any b o n c l w hl hc)
  clear hc
  go_enter Try.func33, Try.ntmps33
  go_wp2_with fail
  refine HI.out.mono ?_
  rintro e w1 ⟨rfl, rfl⟩
  go_wp2
  go_ret
  exact ⟨rfl, rfl⟩
theorem cut_some (b o n cap lo : Nat) (v : Int) (hv : v = (lo : Int)) (hlo : lo ≤ n) (hn : n ≤ cap) (hc : n ≤ 1000000) : ∃ u, ∀ W,
    (Instr.slice 26 (.slice (some ⟨b, o, none⟩) n cap) (some (.int .i64 v)) none none).run Try.prog W = .ok u W := by
  have ht' : Try.prog.underlying 26 = some (.slice (Try.prog.elem 26)) := by simp [Program.elem, Try.underlying26]
  have he : Try.prog.elem 26 = 5 := by simp [Program.elem, Try.underlying26]
  subst hv
  exact ⟨sliced (some ⟨b, o, none⟩) lo n cap 1, fun W => by
    rw [run_slice_l W 26 _ _ _ ht' .i64 _ (by omega) (by omega), he, size_u8x]
    simp [Result.andThen]⟩
def CutO (w : World) (b o n c : Nat) (l : List Nat) (e : Ending) (w' : World) : Prop := (∃ v2 v3, e = .returned (.tuple #[.slice (some ⟨b, o, none⟩) (preZ l) c, v2, v3])) ∧ Below w.heap.size w w'
set_option maxHeartbeats 1000000 in
theorem cut_any (b o n c g gc : Nat) (l : List Nat) (w : World) (hl : l.length = n) (hcap : n ≤ c) (hp : 0 < c) (hn : n ≤ 1000000) (hc : ∀ i, i < n → w.cell? ⟨b, o + i, none⟩ = some (.int .u8 (l.getD i 0 : Nat))) (h0 : w.cell? ⟨g, 0, none⟩ = some (.int .u8 0)) :
    Calls Try.prog 30 #[.slice (some ⟨b, o, none⟩) n c, .slice (some ⟨g, 0, none⟩) 1 gc] w (CutO w b o n c l) := by
  have HI := Lib.hid (index_any b o n c g gc l w hl hc h0)
  obtain ⟨h1, h2⟩ := iz_bd l
  have HP : Hid (preZ l = if 0 ≤ iz l then (iz l).toNat else l.length) := rfl
  unfold CutO
  have HL := Lib.hid hl
  generalize preZ l = p at *
  generalize iz l = z at *
  clear hc h0
  by_cases hz : 0 ≤ z
  · obtain ⟨j, rfl⟩ : ∃ j : Nat, z = (j : Int) := ⟨z.toNat, by omega⟩
    have hp' : p = j := by rw [HP.out, if_pos hz]; simp
    subst hp'
    have hr1 := cut_upto b o n c p (p : Int) rfl (by omega) hcap hp hn
    obtain ⟨u, hr2⟩ := cut_some b o n c (p + 1) ((p : Int) + 1) (by omega) (by omega) hcap hn
    have hpn : (p : Int) < (n : Int) := by omega
    have hnn : (n : Int) ≤ 1000000 := by omega
    have hw : IntKind.i64.wrap ((p : Int) + 1) = (p : Int) + 1 := IntWalk.i64_in _ (by omega)
    clear hl
    go_enter Try.func30, Try.ntmps30
    go_wp2_with fail
    refine HI.out.mono ?_
    rintro e w1 ⟨rfl, rfl⟩
    go_wp2_with fail
    go_region
    all_goals
      go_wp2
      refine bodyPost_ret (v := .tuple #[.slice (some ⟨b, o, none⟩) p c, u, .bool true]) (by simp [results, Try.results30, go_sem]) rfl ⟨⟨_, _, rfl⟩, (Below.refl _ _).drew⟩
  · have hp' : p = n := by rw [HP.out, if_neg hz]; exact hl
    subst hp'
    clear hl
    go_enter Try.func30, Try.ntmps30
    go_wp2_with fail
    refine HI.out.mono ?_
    rintro e w1 ⟨rfl, rfl⟩
    go_wp2
    refine bodyPost_ret (v := .tuple #[.slice (some ⟨b, o, none⟩) p c, .slice none 0 0, .bool false]) (by simp [results, Try.results30, go_sem]) rfl ⟨⟨_, _, rfl⟩, Below.refl _ _⟩
end Go.Proofs.Ytagigeacjendiaa
