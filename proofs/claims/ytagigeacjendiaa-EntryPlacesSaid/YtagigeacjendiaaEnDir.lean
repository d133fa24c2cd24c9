/-
  Any directory entry: check, bytes, the block of four.
-/
import Derived.Test.YtagigeacjendiaaEnDirZ
import Derived.Test.YtagigeacjendiaaNmName
import Derived.Test.YtagigeacjendiaaEnSame
import Derived.Lib.LazyBuf
namespace Go.Proofs.Ytagigeacjendiaa
open Go.RowKit

def nb (n : ByteArray) : List Nat := n.data.toList.map UInt8.toNat
theorem nb_len (n : ByteArray) : (nb n).length = n.size := by unfold nb; rw [List.length_map, Lib.size_eq]
theorem nb_byte (n : ByteArray) : ∀ x ∈ nb n, x < 256 := fun x hx => by
  obtain ⟨c, _, rfl⟩ := List.mem_map.1 hx
  exact UInt8.toNat_lt c
def encD (i : Nat) (n : ByteArray) : List Nat := [i % 256, i / 256 % 256] ++ (nb n ++ List.replicate (14 - n.size) 0)
theorem encD_len {i : Nat} {n : ByteArray} (h : n.size ≤ 14) : (encD i n).length = 16 := by
  unfold encD; rw [List.length_append, List.length_append, nb_len, List.length_replicate]; simp; omega
theorem encD_byte (i : Nat) (n : ByteArray) : ∀ x ∈ encD i n, x < 256 := fun x hx => by
  unfold encD at hx
  rcases List.mem_append.1 hx with h | h
  · simp at h; omega
  · rcases List.mem_append.1 h with h | h
    · exact nb_byte n x h
    · have := List.eq_of_mem_replicate h; omega
def GoodD (i : Int) (n : ByteArray) : Prop := (i = 0 ∧ n = ⟨#[]⟩) ∨ (1 ≤ i ∧ i ≤ 200 ∧ nmE n = 0)
instance (i : Int) (n : ByteArray) : Decidable (GoodD i n) := by unfold GoodD; infer_instance
def chkD (i : Int) (n : ByteArray) : Int := if GoodD i n then 0 else 22
theorem good_size {i : Int} {n : ByteArray} (h : GoodD i n) : 0 ≤ i ∧ i ≤ 200 ∧ n.size ≤ 14 := by
  rcases h with ⟨h1, h2⟩ | ⟨h1, h2, h3⟩
  · subst h1 h2; exact ⟨by decide, by decide, by decide⟩
  · refine ⟨by omega, h2, ?_⟩
    rcases Nat.lt_or_ge 14 n.size with h4 | h4
    · rw [nmE_long h4] at h3; exact absurd h3 (by decide)
    · exact h4
theorem str_extE {s t : ByteArray} (h : s.data.toList = t.data.toList) : s = t := by
  cases s with | mk a => cases t with | mk b => simp at h; rw [h]
theorem cells_den : Try.prog.cellsOf DEN = 2 := by kernel_rfl
theorem cells_strd : Try.prog.cellsOf 9 = 1 := by kernel_rfl
theorem key_den : Try.prog.keyTypeAt 4 DEN = true := by kernel_rfl
theorem den_lits (i : Int) (n : ByteArray) (h : FitZ i) (hn : n.size ≤ maxLen) : Try.prog.keyLits 4 DEN [.int .i64 i, .string n] = some [.int .i64 i, .string n.data.toList] := by
  have wa := wf_i64 _ h
  have hn2 : n.data.toList.length ≤ maxLen := by rw [← Lib.size_eq]; exact hn
  simp [Program.keyLits, Try.underlying39, Try.underlying3, Try.underlying9, cells_int, cells_strd, cells_den, List.range, List.range.loop, wa, Lit.wf]
  rw [if_pos ⟨h.1, h.2⟩, if_pos hn]
  rfl
theorem equal_den (i j : Int) (n m : ByteArray) (hi : FitZ i) (hj : FitZ j) (hn : n.size ≤ maxLen) (hm : m.size ≤ maxLen) (W : World) :
    (Op.equalIn 10000 DEN (.agg #[.int .i64 i, .string n]) (.agg #[.int .i64 j, .string m])).run Try.prog W = .ok (decide (i = j ∧ n = m)) W := by
  obtain ⟨r, hr, hiff⟩ := run_equalIn_deep (P := Try.prog) 9996 4 DEN key_den W 4 4 (.agg #[.int .i64 i, .string n]) (.agg #[.int .i64 j, .string m]) _ _ (by simp [Value.formed, Try.underlying39, cells_den]) (by simp [Value.formed, Try.underlying39, cells_den]) (den_lits i n hi hn) (den_lits j m hj hm)
  have e : r = decide (i = j ∧ n = m) := by
    rw [Bool.eq_iff_iff, hiff, decide_eq_true_eq]
    constructor
    · intro h
      simp at h
      exact ⟨h.1, str_extE (by rw [h.2])⟩
    · rintro ⟨rfl, rfl⟩; rfl
  rw [e] at hr
  exact hr
set_option maxHeartbeats 4000000 in
theorem check_dir (i : Int) (n : ByteArray) (w : World) (hi : FitZ i) (hn : n.size ≤ maxLen) : Calls Try.prog 28 #[.agg #[.int .i64 i, .string n]] w fun e w' => e = .returned (.int .i64 (chkD i n)) ∧ Below w.heap.size w w' := by
  by_cases h0 : i = 0 ∧ n = ⟨#[]⟩
  · obtain ⟨rfl, rfl⟩ := h0
    exact check_dirZ w
  · have HB := Lib.hid (sup_en w (.cells #[.int .i64 i, .string n] DEN))
    have he : ∀ W, (Op.equalIn 10000 DEN (.agg #[.int .i64 i, .string n]) (.agg #[.int .i64 0, .string ⟨#[]⟩])).run Try.prog W = .ok false W := fun W => by
      have e := equal_den i 0 n ⟨#[]⟩ hi ⟨by decide, by decide⟩ hn (by decide) W
      rw [decide_eq_false h0] at e
      exact e
    have HG : Hid (∀ c, (1 ≤ i ∧ i ≤ 200 ∧ nmE n = 0 → c = 0) → (¬ (1 ≤ i ∧ i ≤ 200 ∧ nmE n = 0) → c = 22) → chkD i n = c) := fun c h1 h2 => by
      unfold chkD
      by_cases hg : 1 ≤ i ∧ i ≤ 200 ∧ nmE n = 0
      · rw [if_pos (.inr hg), h1 hg]
      · rw [if_neg (fun h => h.elim h0 hg), h2 hg]
    clear h0 hn
    by_cases h1 : i < 1
    · rw [HG.out 22 (fun h => by omega) (fun _ => rfl)]
      clear HG hi
      go_enter Try.func28, Try.ntmps28
      go_wp2
      go_ret
      exact ⟨rfl, HB.out⟩
    · by_cases h2 : 200 < i
      · rw [HG.out 22 (fun h => by omega) (fun _ => rfl)]
        clear HG hi
        go_enter Try.func28, Try.ntmps28
        go_wp2
        go_ret
        exact ⟨rfl, HB.out⟩
      · have HN := Lib.hid (name_any n)
        by_cases h3 : nmE n = 0
        · rw [HG.out 0 (fun _ => rfl) (fun h => absurd ⟨by omega, by omega, h3⟩ h)]
          rw [h3] at HN
          clear HG hi h3
          go_enter Try.func28, Try.ntmps28
          go_wp2_with fail
          refine (HN.out _).mono ?_
          rintro e w1 ⟨rfl, hb1⟩
          have HB1 := Lib.hid (HB.out.trans (hb1.mono HB.out.size))
          clear hb1
          go_wp2_with fail
          go_ret
          exact ⟨rfl, HB1.out⟩
        · rw [HG.out 22 (fun h => absurd h.2.2 h3) (fun _ => rfl)]
          have h4 : (nmE n == 0) = false := beq_eq_false_iff_ne.2 h3
          clear HG hi h3
          generalize nmE n = z at *
          go_enter Try.func28, Try.ntmps28
          go_wp2_with fail
          refine (HN.out _).mono ?_
          rintro e w1 ⟨rfl, hb1⟩
          have HB1 := Lib.hid (HB.out.trans (hb1.mono HB.out.size))
          clear hb1
          go_wp2_with fail
          go_ret
          exact ⟨rfl, HB1.out⟩
/-! bytes. -/
def putC (cs : Array Value) : Nat → List Value → Array Value
  | _, [] => cs
  | o, v :: r => putC (cs.setIfInBounds o v) (o + 1) r
theorem blo_setCells {g : Nat} {t : TypeId} : ∀ (vs : List Value) (o : Nat) (w : World) (cs : Array Value), Blo w g t cs → Blo (w.setCells g o vs) g t (putC cs o vs)
  | [], _, _, _, h => h
  | v :: r, o, w, cs, h => blo_setCells r (o + 1) _ _ (h.put o v)
theorem putC_list : ∀ (vs : List Value) (o : Nat) (cs : Array Value), o + vs.length ≤ cs.size → (putC cs o vs).toList = cs.toList.take o ++ (vs ++ cs.toList.drop (o + vs.length))
  | [], o, cs, _ => by simp [putC]
  | v :: r, o, cs, h => by
    simp only [List.length_cons] at h
    rw [putC, putC_list r (o + 1) _ (by simp; omega), Array.toList_setIfInBounds]
    have hl : o < cs.toList.length := by simp; omega
    have hm : min o cs.toList.length = o := Nat.min_eq_left (Nat.le_of_lt hl)
    have e0 : (cs.toList.set o v).take (o + 1) = cs.toList.take o ++ [v] := by
      rw [List.take_succ_eq_append_getElem (by simp; omega), List.getElem_set_self, List.take_set_of_le (Nat.le_refl o)]
    rw [e0, List.drop_set_of_lt (by omega), List.append_assoc, List.cons_append, List.nil_append, List.length_cons, show o + 1 + r.length = o + (r.length + 1) by omega]
    rfl
theorem bytes_cells (i : Nat) (n : ByteArray) (hn : n.size ≤ 14) : putC ((cellsB [i % 256, i / 256 % 256]) ++ (cellsB (List.replicate 14 0))).toArray 2 (cellsB (nb n)) = (cellsB (encD i n)).toArray := by
  apply Array.ext'
  have hl : (cellsB (nb n)).length = n.size := by rw [cellsB_length, nb_len]
  rw [putC_list _ _ _ (by rw [hl]; simp [cellsB]; omega), hl]
  simp only [encD, ← cellsB_append]
  rw [List.take_append_of_le_length (by simp [cellsB]), List.take_of_length_le (by simp [cellsB])]
  congr 2
  have e1 : cellsB (List.replicate 14 0) = List.replicate 14 (Value.int .u8 0) := by simp [cellsB]
  have e2 : cellsB (List.replicate (14 - n.size) 0) = List.replicate (14 - n.size) (Value.int .u8 0) := by simp [cellsB]
  rw [e1, e2]
  rw [List.drop_append, List.drop_eq_nil_of_le (by simp [cellsB]), List.nil_append, cellsB_length, List.drop_replicate]
  congr 1
  simp
end Go.Proofs.Ytagigeacjendiaa
