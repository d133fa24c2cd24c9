/-
  SgMod · DrStep · DrRow · DrRead · DrPut · DrTx · DkTear: these texts in one.
-/
import Derived.Test.YtlkgaefabahkoaaDoorPk07
import Derived.Test.YtlkgaefabahkoaaDoorPk00
import Derived.Test.YtlkgaefabahkoaaDoorPk04
import Derived.Laws.AppendOwnNone
import Derived.OwnWalk
import Derived.Test.YtlkgaefabahkoaaDoorPk01
import Derived.Deep.Cut
import Derived.BigRegion
/-
  Partial segments on the model's disk: what a Write that answers OK leaves; read back it is what was written; on a disk that is not armed it answers OK.
-/
namespace Go.Proofs.YtlkgaefabahkoaaDoor
open Go.RowKit

def setsB (F : Nat → List Nat) (k : Nat) (ls : List (List Nat)) : Nat → List Nat := fun j => if k ≤ j ∧ j < k + ls.length then nthL ls (j - k) else F j
theorem setsB_in (F : Nat → List Nat) (k : Nat) (ls : List (List Nat)) (i : Nat) (h : i < ls.length) : setsB F k ls (k + i) = nthL ls i := by
  unfold setsB
  rw [if_pos ⟨by omega, by omega⟩, Nat.add_sub_cancel_left]
theorem setsB_out (F : Nat → List Nat) (k : Nat) (ls : List (List Nat)) (j : Nat) (h : j < k ∨ k + ls.length ≤ j) : setsB F k ls j = F j := by
  unfold setsB
  rw [if_neg (by omega)]
theorem setsB_nil (F : Nat → List Nat) (k : Nat) : setsB F k [] = F := by
  funext j
  exact setsB_out F k [] j (by simp; omega)
theorem setsB_cons (F : Nat → List Nat) (k : Nat) (l : List Nat) (ls : List (List Nat)) : setsB F k (l :: ls) = setsB (updB F k l) (k + 1) ls := by
  funext j
  unfold setsB
  by_cases h0 : j = k
  · subst h0
    rw [if_pos ⟨Nat.le_refl _, by simp⟩, if_neg (by omega), updB_at, Nat.sub_self]
    rfl
  · by_cases h1 : k ≤ j ∧ j < k + (l :: ls).length
    · have h2 : k + 1 ≤ j ∧ j < k + 1 + ls.length := by simp at h1; omega
      rw [if_pos h1, if_pos h2, show j - k = (j - (k + 1)) + 1 by omega]
      rfl
    · rw [if_neg h1, if_neg (by simp at h1; omega), updB_ne _ _ h0]
theorem writeD_zero {d : Dm} {k : Nat} {l : List Nat} (h : (writeD d k l).2 = 0) : writeD d (k : Int) l = (putD d k l, 0) ∧ k < d.n ∧ l.length = 64 := by
  unfold writeD at h ⊢
  by_cases h1 : (k : Int) < 0 ∨ (d.n : Int) ≤ (k : Int) ∨ l.length ≠ 64
  · rw [if_pos h1] at h; cases h
  · rw [if_neg h1] at h ⊢
    by_cases h2 : deadB d = true
    · rw [if_pos h2] at h; cases h
    · rw [if_neg h2, Int.toNat_natCast]
      exact ⟨rfl, by omega, by omega⟩
theorem putsD_N : ∀ (ls : List (List Nat)) (d : Dm) (k : Nat), (putsD d k ls).2 = 0 → (putsD d k ls).1.N = setsB d.N k ls
  | [], d, k, _ => (setsB_nil _ _).symm
  | l :: ls, d, k, h => by
    rw [putsD_cons] at h ⊢
    by_cases hc : (writeD d k l).2 = 0
    · rw [if_pos hc] at h ⊢
      obtain ⟨hw, _, _⟩ := writeD_zero hc
      rw [hw] at h ⊢
      have e : ((k : Int) + 1) = ((k + 1 : Nat) : Int) := by omega
      rw [e] at h ⊢
      rw [putsD_N ls _ (k + 1) h, setsB_cons]
      rfl
    · rw [if_neg hc] at h
      exact absurd h hc
theorem barrD_N (d : Dm) : (barrD d).1.N = d.N := by
  unfold barrD
  split <;> rfl
theorem sureD_N {ls : List (List Nat)} {d : Dm} {k : Nat} (h : (sureD d k ls).2 = 0) : (sureD d k ls).1.N = setsB d.N k ls ∧ (putsD d k ls).2 = 0 := by
  unfold sureD at h ⊢
  by_cases hc : (putsD d k ls).2 = 0
  · rw [if_pos hc, barrD_N]
    exact ⟨putsD_N ls d k hc, hc⟩
  · rw [if_neg hc] at h
    exact absurd h hc
/-- What a Write that answers OK leaves. -/
theorem segW_zero {d : Dm} {addr : Int} {m : Sm} {ls : List (List Nat)} (h : (segW d addr m ls).2 = 0) :
    chkM m = 0 ∧ wrB d.n addr m.x m.fs m.is ls = true ∧ (segW d addr m ls).1.N = setsB (setsB (setsB d.N (addr.toNat + 2) ls) m.x.toNat [zeroB, zeroB]) addr.toNat [(headM m ls).take 64, (headM m ls).drop 64] := by
  unfold segW at h ⊢
  by_cases h1 : chkM m = 0
  · rw [if_neg (fun q => q h1)] at h ⊢
    by_cases h2 : wrB d.n addr m.x m.fs m.is ls = true
    · rw [if_neg (by rw [h2]; simp)] at h ⊢
      have hw := wrB_len h2
      obtain ⟨a0, rfl⟩ : ∃ a0 : Nat, addr = (a0 : Int) := ⟨addr.toNat, by omega⟩
      obtain ⟨x0, hx⟩ : ∃ x0 : Nat, m.x = (x0 : Int) := ⟨m.x.toNat, by omega⟩
      have e : ((a0 : Int) + 2) = ((a0 + 2 : Nat) : Int) := by omega
      rw [hx, e] at h ⊢
      by_cases h3 : (putsD d ((a0 + 2 : Nat) : Int) ls).2 = 0
      · rw [if_neg (fun q => q h3)] at h ⊢
        by_cases h4 : (cleanD (putsD d ((a0 + 2 : Nat) : Int) ls).1 (x0 : Int)).2 = 0
        · rw [if_neg (fun q => q h4)] at h ⊢
          refine ⟨h1, (by rw [← hx]; exact h2), ?_⟩
          rw [(sureD_N h).1, Int.toNat_natCast, Int.toNat_natCast]
          unfold cleanD at h4 ⊢
          rw [(sureD_N h4).1, putsD_N ls d (a0 + 2) h3]
        · rw [if_pos h4] at h; exact absurd h h4
      · rw [if_pos h3] at h; exact absurd h h3
    · rw [if_pos (bool_no h2)] at h; cases h
  · rw [if_pos h1] at h; exact absurd h h1
theorem segW_n (d : Dm) (addr : Int) (m : Sm) (ls : List (List Nat)) : (segW d addr m ls).1.n = d.n := by
  unfold segW
  split
  · rfl
  · split
    · rfl
    · split
      · exact putsD_n _ _ _
      · split
        · rw [cleanD_n, putsD_n]
        · rw [sureD_n, cleanD_n, putsD_n]
theorem Rm.seg {d : Dm} {addr : Int} {m : Sm} {ls : List (List Nat)} {k : Nat} (h : Rm d (ls.length + (k + 6))) : Rm (segW d addr m ls).1 k := by
  have h1 : Rm (putsD d (addr + 2) ls).1 (k + 6) := Rm.puts ls (addr + 2) h
  have h2 : Rm (cleanD (putsD d (addr + 2) ls).1 m.x).1 (k + 3) := Rm.clean m.x h1
  unfold segW
  split
  · exact h.mono (by omega)
  · split
    · exact h.mono (by omega)
    · split
      · exact h1.mono (by omega)
      · split
        · exact h2.mono (by omega)
        · exact Rm.sure _ addr (h2.mono (by simp; omega))
theorem lsF_nth (ls : List (List Nat)) {F : Nat → List Nat} (h : ∀ i, i < ls.length → F i = nthL ls i) : lsF F ls.length = ls := by
  apply List.ext_getElem
  · exact lsF_length _ _
  · intro i h1 h2
    have := h i h2
    unfold nthL at this
    rw [List.getD_eq_getElem?_getD, List.getElem?_eq_getElem h2] at this
    simp only [lsF, List.getElem_map, List.getElem_range]
    exact this
/-- What stands at an address as a Write left it is read back. -/
structure Back (d : Dm) (a0 : Nat) (m : Sm) (ls : List (List Nat)) : Prop where
  code : readC d (a0 : Int) = 0
  part : rdM d a0 = m
  many : rdN m = ls.length
  f : ∀ i, i < ls.length → rdF d a0 i = nthL ls i
structure Here (d : Dm) (a0 : Nat) (m : Sm) (ls : List (List Nat)) : Prop where
  chk : chkM m = 0
  len : ls.length + 2 = blks m.fs m.is
  bytes : ∀ l ∈ ls, ∀ x ∈ l, x < 256
  fits : a0 + 2 + ls.length ≤ d.n
  h1 : d.N a0 = (headM m ls).take 64
  h2 : d.N (a0 + 1) = (headM m ls).drop 64
  at_ : ∀ i, i < ls.length → d.N (a0 + 2 + i) = nthL ls i
theorem Here.back {d : Dm} {a0 : Nat} {m : Sm} {ls : List (List Nat)} (h : Here d a0 m ls) : Back d a0 m ls := by
  have hg := good_of h.chk
  have hc : crc ls.flatten < 4294967296 := crc_lt _ fun x hx => by
    obtain ⟨l, hl, hx⟩ := List.mem_flatten.1 hx
    exact h.bytes l hl x hx
  have hL : rdL d a0 = headM m ls := by unfold rdL; rw [h.h1, h.h2, List.take_append_drop]
  have hb := enc_back m (crc ls.flatten) hg hc
  have hM : rdM d a0 = m := by unfold rdM; rw [hL]; exact hb.1
  have hN : rdN m = ls.length := by have := h.len; unfold blks at this; unfold rdN; omega
  have hF : ∀ i, i < ls.length → rdF d a0 i = nthL ls i := fun i hi => h.at_ i hi
  refine ⟨?_, hM, hN, hF⟩
  unfold readC
  rw [Int.toNat_natCast, hM, hL, hN, lsF_nth ls hF]
  have hf := h.fits
  rw [if_neg (by simp [hasB]; omega), if_neg (by unfold headM; rw [ok_enc m _ h.chk hc]; simp), if_neg (by omega), if_neg (fun q => q (by unfold headM; rw [hb.2.2]))]
theorem segW_here {d : Dm} {a0 : Nat} {m : Sm} {ls : List (List Nat)} (h : (segW d (a0 : Int) m ls).2 = 0) (hb : ∀ l ∈ ls, ∀ x ∈ l, x < 256) : Here (segW d (a0 : Int) m ls).1 a0 m ls := by
  obtain ⟨h1, h2, h3⟩ := segW_zero h
  have hw := wrB_len h2
  rw [Int.toNat_natCast] at h3
  have q := hw.2.2.2.2.2.2
  refine ⟨h1, hw.2.2.2.2.2.1, hb, by rw [segW_n]; omega, ?_, ?_, fun i hi => ?_⟩
  · rw [h3]; exact setsB_in _ a0 _ 0 (by simp)
  · rw [h3]; exact setsB_in _ a0 _ 1 (by simp)
  · rw [h3, setsB_out _ a0 _ _ (.inr (by simp <;> omega)), setsB_out _ _ _ _ (by simp <;> omega), setsB_in _ _ _ i hi]
/-! A disk that is not armed. -/
theorem writeD_ok {d : Dm} {k : Nat} {l : List Nat} (ha : d.armed = false) (hk : k < d.n) (hl : l.length = 64) : writeD d (k : Int) l = (putD d k l, 0) := by
  unfold writeD
  rw [if_neg (by omega), if_neg (by simp [deadB, ha]), Int.toNat_natCast]
theorem putsD_ok : ∀ (ls : List (List Nat)) {d : Dm} {k : Nat} (_ : d.armed = false) (_ : k + ls.length ≤ d.n) (_ : ∀ l ∈ ls, l.length = 64),
    (putsD d (k : Int) ls).2 = 0 ∧ (putsD d (k : Int) ls).1.armed = false ∧ (putsD d (k : Int) ls).1.steps = d.steps + ls.length ∧ (putsD d (k : Int) ls).1.left = d.left
  | [], d, k, ha, _, _ => ⟨rfl, ha, by simp [putsD], rfl⟩
  | l :: ls, d, k, ha, hk, hl => by
    simp only [List.length_cons] at hk
    rw [putsD_cons, writeD_ok ha (by omega) (hl l (List.mem_cons_self ..)), if_pos rfl]
    have e : ((k : Int) + 1) = ((k + 1 : Nat) : Int) := by omega
    rw [e]
    have ha2 : (putD d k l).armed = false := ha
    obtain ⟨h1, h2, h3, h4⟩ := putsD_ok ls (d := putD d k l) (k := k + 1) ha2 (by show k + 1 + ls.length ≤ d.n; omega) (fun x hx => hl x (List.mem_cons_of_mem _ hx))
    refine ⟨h1, h2, ?_, ?_⟩
    · rw [h3]
      show d.steps + 1 + (ls.length : Int) = d.steps + ((ls.length + 1 : Nat) : Int)
      omega
    · rw [h4]
      show (if d.armed then d.left - 1 else d.left) = d.left
      rw [ha]; rfl
theorem barrD_ok {d : Dm} (ha : d.armed = false) : (barrD d).2 = 0 ∧ (barrD d).1.armed = false ∧ (barrD d).1.steps = d.steps + 1 ∧ (barrD d).1.left = d.left := by
  have : deadB d = false := by simp [deadB, ha]
  unfold barrD
  rw [if_neg (by rw [this]; simp)]
  refine ⟨rfl, ha, rfl, ?_⟩
  show (if d.armed then d.left - 1 else d.left) = d.left
  rw [ha]; rfl
theorem sureD_ok (ls : List (List Nat)) {d : Dm} {k : Nat} (ha : d.armed = false) (hk : k + ls.length ≤ d.n) (hl : ∀ l ∈ ls, l.length = 64) :
    (sureD d (k : Int) ls).2 = 0 ∧ (sureD d (k : Int) ls).1.armed = false ∧ (sureD d (k : Int) ls).1.steps = d.steps + ls.length + 1 ∧ (sureD d (k : Int) ls).1.left = d.left := by
  obtain ⟨h1, h2, h3, h4⟩ := putsD_ok ls ha hk hl
  obtain ⟨g1, g2, g3, g4⟩ := barrD_ok h2
  unfold sureD
  rw [if_pos h1]
  exact ⟨g1, g2, by rw [g3, h3], by rw [g4, h4]⟩
theorem segW_ok {d : Dm} {addr : Int} {m : Sm} {ls : List (List Nat)} (ha : d.armed = false) (hc : chkM m = 0) (hw : wrB d.n addr m.x m.fs m.is ls = true) :
    (segW d addr m ls).2 = 0 ∧ (segW d addr m ls).1.armed = false ∧ (segW d addr m ls).1.steps = d.steps + ls.length + 6 ∧ (segW d addr m ls).1.left = d.left := by
  have q := wrB_len hw
  obtain ⟨a0, rfl⟩ : ∃ a0 : Nat, addr = (a0 : Int) := ⟨addr.toNat, by omega⟩
  obtain ⟨x0, hx⟩ : ∃ x0 : Nat, m.x = (x0 : Int) := ⟨m.x.toNat, by omega⟩
  have e : ((a0 : Int) + 2) = ((a0 + 2 : Nat) : Int) := by omega
  have hl : ∀ l ∈ ls, l.length = 64 := fun l hl => by
    obtain ⟨i, hi, rfl⟩ := List.getElem_of_mem hl
    have := q.2.2.2.2.1 i hi
    unfold nthL at this
    rwa [List.getD_eq_getElem?_getD, List.getElem?_eq_getElem hi] at this
  obtain ⟨h1, h2, h3, h4⟩ := putsD_ok ls (d := d) (k := a0 + 2) ha (by omega) hl
  obtain ⟨g1, g2, g3, g4⟩ := sureD_ok [zeroB, zeroB] (d := (putsD d ((a0 + 2 : Nat) : Int) ls).1) (k := x0) h2 (by rw [putsD_n]; simp; omega) (by simp [zeroB])
  have hh := headM_len m ls hc
  obtain ⟨f1, f2, f3, f4⟩ := sureD_ok [(headM m ls).take 64, (headM m ls).drop 64] (d := (sureD (putsD d ((a0 + 2 : Nat) : Int) ls).1 (x0 : Int) [zeroB, zeroB]).1) (k := a0) g2 (by rw [sureD_n, putsD_n]; simp; omega) (by simp [hh])
  have hs : segW d (a0 : Int) m ls = sureD (sureD (putsD d ((a0 + 2 : Nat) : Int) ls).1 (x0 : Int) [zeroB, zeroB]).1 (a0 : Int) [(headM m ls).take 64, (headM m ls).drop 64] := by
    unfold segW
    rw [if_neg (fun h => h hc), if_neg (by rw [hw]; simp), e, if_neg (fun h => h h1), hx]
    unfold cleanD
    rw [if_neg (fun h => h g1)]
  rw [hs]
  refine ⟨f1, f2, ?_, by rw [f4, g4, h4]⟩
  rw [f3, g3, h3]
  simp only [List.length_cons, List.length_nil]
  omega
end Go.Proofs.YtlkgaefabahkoaaDoor
/-
  The document's disk: a step of it, and Arm.
-/
namespace Go.Proofs.YtlkgaefabahkoaaDoor
open Go.RowKit

abbrev RDT := 29
theorem dr_two (w : World) (o1 o2 : Obj) : Below w.heap.size w ((w.alloc o1).alloc o2) := ((Below.refl _ _).alloc (Nat.le_refl _) _).alloc (by simp) _
set_option maxHeartbeats 1000000 in
theorem rstep_dead (sa qa : Option Addr) (n sc m qc : Nat) (st : Int) (w : World) :
    Calls Tryd.prog 90 #[.agg #[.slice sa n sc, .slice qa m qc, .int .i64 st, .int .i64 0]] w fun e w' => e = .returned (.tuple #[.agg #[.slice sa n sc, .slice qa m qc, .int .i64 st, .int .i64 0], .bool false]) ∧ Below w.heap.size w w' := by
  go_enter Tryd.func90, Tryd.ntmps90
  go_wp2
  refine bodyPost_ret (v := .tuple #[.agg #[.slice sa n sc, .slice qa m qc, .int .i64 st, .int .i64 0], .bool false]) ?_ rfl ⟨rfl, dr_two _ _ _⟩
  simp [results, Tryd.results90, go_sem]
set_option maxHeartbeats 1000000 in
theorem rstep_arm (sa qa : Option Addr) (n sc m qc : Nat) (st lf : Int) (h1 : 0 ≤ st) (h2 : st < 1000000) (h3 : 0 < lf) (h4 : lf ≤ 9223372036854775807) (w : World) :
    Calls Tryd.prog 90 #[.agg #[.slice sa n sc, .slice qa m qc, .int .i64 st, .int .i64 lf]] w fun e w' => e = .returned (.tuple #[.agg #[.slice sa n sc, .slice qa m qc, .int .i64 (st + 1), .int .i64 (lf - 1)], .bool true]) ∧ Below w.heap.size w w' := by
  have h0 : (lf == 0) = false := by rw [beq_eq_false_iff_ne]; omega
  go_enter Tryd.func90, Tryd.ntmps90
  go_wp2
  refine bodyPost_ret (v := .tuple #[.agg #[.slice sa n sc, .slice qa m qc, .int .i64 (st + 1), .int .i64 (lf - 1)], .bool true]) ?_ rfl ⟨rfl, dr_two _ _ _⟩
  simp [results, Tryd.results90, go_sem]
set_option maxHeartbeats 1000000 in
theorem rstep_free (sa qa : Option Addr) (n sc m qc : Nat) (st : Int) (h1 : 0 ≤ st) (h2 : st < 1000000) (w : World) :
    Calls Tryd.prog 90 #[.agg #[.slice sa n sc, .slice qa m qc, .int .i64 st, .int .i64 (-1)]] w fun e w' => e = .returned (.tuple #[.agg #[.slice sa n sc, .slice qa m qc, .int .i64 (st + 1), .int .i64 (-1)], .bool true]) ∧ Below w.heap.size w w' := by
  go_enter Tryd.func90, Tryd.ntmps90
  go_wp2
  refine bodyPost_ret (v := .tuple #[.agg #[.slice sa n sc, .slice qa m qc, .int .i64 (st + 1), .int .i64 (-1)], .bool true]) ?_ rfl ⟨rfl, dr_two _ _ _⟩
  simp [results, Tryd.results90, go_sem]
end Go.Proofs.YtlkgaefabahkoaaDoor
/-
  The document's disk: rows of texts and of writes.
-/
namespace Go.Proofs.YtlkgaefabahkoaaDoor
open Go.RowKit

abbrev RWT := 94
theorem info_rwt : ∃ z, (Tryd.prog.info? RWT).map (fun i => (i.zero, i.size, i.bytes)) = some (some z, 2, 24) ∧ z.cells.size = 2 := by
  refine ⟨.agg #[.int .i64 0, .string ByteArray.empty], by kernel_rfl, rfl⟩
def wr2 (p : Nat × List Nat) : List Value := [.int .i64 p.1, .string (strOf p.2)]
def cells2 (Q : List (Nat × List Nat)) : List Value := Q.flatMap wr2
theorem cells2_length (Q : List (Nat × List Nat)) : (cells2 Q).length = Q.length * 2 := by
  unfold cells2
  induction Q with
  | nil => rfl
  | cons a l ih => rw [List.flatMap_cons, List.length_append, ih]; simp [wr2]; omega
theorem cells2_append (Q R : List (Nat × List Nat)) : cells2 Q ++ cells2 R = cells2 (Q ++ R) := by simp [cells2]
theorem cells2_one (Q : List (Nat × List Nat)) : ∀ u ∈ cells2 Q, u.oneCell' = true := fun u hu => by
  unfold cells2 at hu
  obtain ⟨p, _, hp⟩ := List.mem_flatMap.1 hu
  simp [wr2] at hp
  rcases hp with rfl | rfl <;> rfl
end Go.Proofs.YtlkgaefabahkoaaDoor
/-
  The document's disk: Read.
-/
namespace Go.Proofs.YtlkgaefabahkoaaDoor
open Go.RowKit

def cellsS (S : Nat → List Nat) (n : Nat) : List Value := (List.range n).map fun i => .string (strOf (S i))
theorem cellsS_at (S : Nat → List Nat) (n i : Nat) (h : i < n) : (cellsS S n)[i]? = some (.string (strOf (S i))) := by simp [cellsS, h]
theorem cells2_at : ∀ (Q : List (Nat × List Nat)) (k : Nat) (h : k < Q.length), (cells2 Q)[k * 2]? = some (.int .i64 (Q[k].1 : Int)) ∧ (cells2 Q)[k * 2 + 1]? = some (.string (strOf Q[k].2))
  | [], k, h => by cases h
  | p :: Q, 0, _ => ⟨rfl, rfl⟩
  | p :: Q, k + 1, h => by
    have := cells2_at Q k (by simpa using h)
    have e : cells2 (p :: Q) = .int .i64 p.1 :: .string (strOf p.2) :: cells2 Q := rfl
    rw [e, show (k + 1) * 2 = k * 2 + 1 + 1 by omega, show k * 2 + 1 + 1 + 1 = (k * 2 + 1) + 1 + 1 by omega]
    simpa using this
theorem flush_at (S : Nat → List Nat) (Q : List (Nat × List Nat)) (k i : Nat) (h : k < Q.length) : flushQ S (Q.take (k + 1)) i = if i = Q[k].1 then Q[k].2 else flushQ S (Q.take k) i := by
  rw [take_snoc' Q k h, flushQ_snoc]; rfl
def RrR (w0 : World) (S : Nat → List Nat) (Q : List (Nat × List Nat)) (i : Nat) (t b : Value) (wr : World) : Prop :=
  ∃ k : Nat, k ≤ Q.length ∧ t = .int .i64 k ∧ b = .string (strOf (flushQ S (Q.take k) i)) ∧ wr = w0
set_option maxRecDepth 100000 in
set_option maxHeartbeats 2000000 in
theorem rread_any (sa qa : Option Addr) (n sc m qc : Nat) (st lf : Int) (S : Nat → List Nat) (Q : List (Nat × List Nat)) (i : Nat) (hi : i < n) (w : World) (hm : m = Q.length) (hQ : Rds w qa (cells2 Q)) (hS : Rds w sa (cellsS S n)) (hroom : m ≤ 1000000) :
    Calls Tryd.prog 32 #[.agg #[.slice sa n sc, .slice qa m qc, .int .i64 st, .int .i64 lf], .int .i64 i] w fun e w' => e = .returned (.string (strOf (flushQ S Q i))) ∧ Below w.heap.size w w' := by
  have hb1 : Below w.heap.size w (w.alloc (.cells #[.slice sa n sc, .slice qa m qc, .int .i64 st, .int .i64 lf] RDT)) := (Below.refl _ _).alloc (Nat.le_refl _) _
  have HB := Lib.hid hb1
  have HX := Lib.hid (blo_laid w RDT #[.slice sa n sc, .slice qa m qc, .int .i64 st, .int .i64 lf])
  have HQ := Lib.hid (hQ.later hb1)
  have HM := Lib.hid hm
  obtain ⟨sb, so, rfl, hsc⟩ := (hS.later hb1) i _ (cellsS_at S n i hi)
  have i0 : (0 : Int) ≤ (i : Int) := by omega
  have i1 : (i : Int) < (n : Int) := by omega
  clear hb1 hQ hS hm
  go_enter Tryd.func32, Tryd.ntmps32
  go_wp2_with fail
  generalize hw0 : w.alloc (.cells #[.slice (some ⟨sb, so, none⟩) n sc, .slice qa m qc, .int .i64 st, .int .i64 lf] RDT) = w0 at *
  go_loopw [15, 5] (fun t b wr => RrR w0 S Q i t b wr) (fun t _ _ => m - (intOf t).toNat)
  case atStart => exact ⟨0, Nat.zero_le _, rfl, rfl, rfl⟩
  case round =>
    obtain ⟨k, hk, rfl, rfl, rfl⟩ := hrel
    have k0 : (0 : Int) ≤ (k : Int) := by omega
    have kb : (k : Int) ≤ 1000000 := by have := HM.out; omega
    by_cases hlt : k < m
    · have hkq : k < Q.length := by rw [← HM.out]; exact hlt
      have k1 : (k : Int) < (m : Int) := by omega
      obtain ⟨qb, qo, hqa, c0⟩ := HQ.out (k * 2) _ (cells2_at Q k hkq).1
      obtain ⟨qb', qo', hqa', c1⟩ := HQ.out (k * 2 + 1) _ (cells2_at Q k hkq).2
      rw [hqa] at hqa'
      cases hqa'
      subst hqa
      have x1 := HX.out.cell 1
      simp at x1
      have HFl := Lib.hid (flush_at S Q k i hkq)
      rw [← Nat.add_assoc] at c1
      generalize hq1 : Q[k].1 = q1 at *
      generalize hq2 : Q[k].2 = q2 at *
      by_cases he : i = q1
      · have h1 : ((q1 : Int) == (i : Int)) = true := by rw [he]; simp
        have HE : Hid (flushQ S (Q.take (k + 1)) i = q2) := by
          show _ = _
          rw [HFl.out, if_pos he]
        clear hq1 hq2 he HFl
        go_wp2_with fail
        go_roundw
        case rel => exact ⟨k + 1, hkq, by simp, by rw [HE.out], rfl⟩
        case measure => simp [intOf]; omega
      · have h1 : ((q1 : Int) == (i : Int)) = false := by rw [beq_eq_false_iff_ne]; omega
        have HE : Hid (flushQ S (Q.take (k + 1)) i = flushQ S (Q.take k) i) := by
          show _ = _
          rw [HFl.out, if_neg he]
        clear hq1 hq2 he HFl
        go_wp2_with fail
        go_roundw
        case rel => exact ⟨k + 1, hkq, by simp, by rw [HE.out], rfl⟩
        case measure => simp [intOf]; omega
    · have hke : k = Q.length := by have := HM.out; omega
      have HE : Hid (flushQ S (Q.take k) i = flushQ S Q i) := by
        show _ = _
        rw [hke, List.take_length]
      have k1 : ¬ (k : Int) < (m : Int) := by omega
      clear hke
      go_wp2
      rw [HE.out]
      go_ret
      exact ⟨rfl, HB.out⟩
end Go.Proofs.YtlkgaefabahkoaaDoor
/-
  The document's disk: Put.
-/
namespace Go.Proofs.YtlkgaefabahkoaaDoor
open Go.RowKit

theorem dr_four (w w1 : World) (a b c d : Value) (g : Nat) (h : Below w.heap.size w w1) (hg : w.heap.size ≤ g) : Below w.heap.size w ((((w1.setCell ⟨g, 0, none⟩ a).setCell ⟨g, 1, none⟩ b).setCell ⟨g, 2, none⟩ c).setCell ⟨g, 3, none⟩ d) :=
  (((h.setCell (p := ⟨g, 0, none⟩) hg a).setCell (p := ⟨g, 1, none⟩) hg b).setCell (p := ⟨g, 2, none⟩) hg c).setCell (p := ⟨g, 3, none⟩) hg d
set_option maxHeartbeats 1000000 in
theorem rput_low (sa qa : Option Addr) (n sc m qc : Nat) (st lf k : Int) (s : ByteArray) (hk : k < 0) (w : World) :
    Calls Tryd.prog 87 #[.agg #[.slice sa n sc, .slice qa m qc, .int .i64 st, .int .i64 lf], .int .i64 k, .string s] w fun e w' => e = .returned (.tuple #[.agg #[.slice sa n sc, .slice qa m qc, .int .i64 st, .int .i64 lf], .int .i64 22]) ∧ Below w.heap.size w w' := by
  go_enter Tryd.func87, Tryd.ntmps87
  go_wp2
  refine bodyPost_ret (v := .tuple #[.agg #[.slice sa n sc, .slice qa m qc, .int .i64 st, .int .i64 lf], .int .i64 22]) ?_ rfl ⟨rfl, dr_two _ _ _⟩
  simp [results, Tryd.results87, go_sem]
set_option maxHeartbeats 1000000 in
theorem rput_high (sa qa : Option Addr) (n sc m qc : Nat) (st lf k : Int) (s : ByteArray) (hk0 : ¬ k < 0) (hk : (n : Int) ≤ k) (w : World) :
    Calls Tryd.prog 87 #[.agg #[.slice sa n sc, .slice qa m qc, .int .i64 st, .int .i64 lf], .int .i64 k, .string s] w fun e w' => e = .returned (.tuple #[.agg #[.slice sa n sc, .slice qa m qc, .int .i64 st, .int .i64 lf], .int .i64 22]) ∧ Below w.heap.size w w' := by
  go_enter Tryd.func87, Tryd.ntmps87
  go_wp2
  refine bodyPost_ret (v := .tuple #[.agg #[.slice sa n sc, .slice qa m qc, .int .i64 st, .int .i64 lf], .int .i64 22]) ?_ rfl ⟨rfl, dr_two _ _ _⟩
  simp [results, Tryd.results87, go_sem]
set_option maxHeartbeats 1000000 in
theorem rput_len (sa qa : Option Addr) (n sc m qc : Nat) (st lf k : Int) (s : ByteArray) (hk0 : ¬ k < 0) (hk : ¬ (n : Int) ≤ k) (hs : ((s.size : Int) != 64) = true) (w : World) :
    Calls Tryd.prog 87 #[.agg #[.slice sa n sc, .slice qa m qc, .int .i64 st, .int .i64 lf], .int .i64 k, .string s] w fun e w' => e = .returned (.tuple #[.agg #[.slice sa n sc, .slice qa m qc, .int .i64 st, .int .i64 lf], .int .i64 22]) ∧ Below w.heap.size w w' := by
  go_enter Tryd.func87, Tryd.ntmps87
  go_wp2
  refine bodyPost_ret (v := .tuple #[.agg #[.slice sa n sc, .slice qa m qc, .int .i64 st, .int .i64 lf], .int .i64 22]) ?_ rfl ⟨rfl, dr_two _ _ _⟩
  simp [results, Tryd.results87, go_sem]
set_option maxRecDepth 100000 in
set_option maxHeartbeats 2000000 in
theorem rput_dead (sa qa : Option Addr) (n sc m qc : Nat) (st lf st2 lf2 k : Int) (s : ByteArray) (hk0 : ¬ k < 0) (hk : ¬ (n : Int) ≤ k) (hs : ((s.size : Int) != 64) = false) (w : World)
    (hstep : ∀ W, Calls Tryd.prog 90 #[.agg #[.slice sa n sc, .slice qa m qc, .int .i64 st, .int .i64 lf]] W fun e w' => e = .returned (.tuple #[.agg #[.slice sa n sc, .slice qa m qc, .int .i64 st2, .int .i64 lf2], .bool false]) ∧ Below W.heap.size W w') :
    Calls Tryd.prog 87 #[.agg #[.slice sa n sc, .slice qa m qc, .int .i64 st, .int .i64 lf], .int .i64 k, .string s] w fun e w' => e = .returned (.tuple #[.agg #[.slice sa n sc, .slice qa m qc, .int .i64 st2, .int .i64 lf2], .int .i64 102]) ∧ Below w.heap.size w w' := by
  have HS := Lib.hid hstep
  have hb2 := dr_two w (.cells #[.slice sa n sc, .slice qa m qc, .int .i64 st, .int .i64 lf] RDT) (.cells #[.slice none 0 0, .slice none 0 0, .int .i64 0, .int .i64 0] RDT)
  have HB2 := Lib.hid hb2
  have HX := Lib.hid ((blo_laid w RDT #[.slice sa n sc, .slice qa m qc, .int .i64 st, .int .i64 lf]).alloc (.cells #[.slice none 0 0, .slice none 0 0, .int .i64 0, .int .i64 0] RDT))
  have HZ : Hid (Blo ((w.alloc (.cells #[.slice sa n sc, .slice qa m qc, .int .i64 st, .int .i64 lf] RDT)).alloc (.cells #[.slice none 0 0, .slice none 0 0, .int .i64 0, .int .i64 0] RDT)) (w.heap.size + 1) RDT #[.slice none 0 0, .slice none 0 0, .int .i64 0, .int .i64 0]) := by
    have h := blo_laid (w.alloc (.cells #[.slice sa n sc, .slice qa m qc, .int .i64 st, .int .i64 lf] RDT)) RDT #[.slice none 0 0, .slice none 0 0, .int .i64 0, .int .i64 0]
    rw [show (w.alloc (.cells #[.slice sa n sc, .slice qa m qc, .int .i64 st, .int .i64 lf] RDT)).heap.size = w.heap.size + 1 by simp] at h
    exact h
  clear hstep hb2
  go_enter Tryd.func87, Tryd.ntmps87
  go_wp2_with fail
  refine (HS.out _).mono ?_
  rintro e w1 ⟨rfl, hb1⟩
  have HB3 := Lib.hid (HB2.out.trans (hb1.mono HB2.out.size))
  have HY := Lib.hid (HX.out.later hb1)
  have x0 := HY.out.cell 0
  have x1 := HY.out.cell 1
  have x2 := HY.out.cell 2
  have x3 := HY.out.cell 3
  have f0 := HY.out.frozen 0
  have f1 := HY.out.frozen 1
  have f2 := HY.out.frozen 2
  have f3 := HY.out.frozen 3
  have HW := Lib.hid (HZ.out.later hb1)
  have z0 := HW.out.cell 0
  have z1 := HW.out.cell 1
  have z2 := HW.out.cell 2
  have z3 := HW.out.cell 3
  have e0 := HW.out.frozen 0
  have e1 := HW.out.frozen 1
  have e2 := HW.out.frozen 2
  have e3 := HW.out.frozen 3
  simp at x0 x1 x2 x3 z0 z1 z2 z3
  clear hb1 HX HZ HS HB2 HY HW
  go_wp2
  refine bodyPost_ret (v := .tuple #[.agg #[.slice sa n sc, .slice qa m qc, .int .i64 st2, .int .i64 lf2], .int .i64 102]) ?_ rfl ⟨rfl, dr_four _ _ _ _ _ _ _ (dr_four _ _ _ _ _ _ _ HB3.out (Nat.le_refl _)) (Nat.le_succ _)⟩
  simp [results, Tryd.results87, go_sem, x0, x1, x2, x3, z0, z1, z2, z3]
theorem dr_fin {W : World} {g : Nat} {t : TypeId} {a b c d x0 x1 x2 x3 : Value} (h : Blo W g t #[x0, x1, x2, x3]) : Blo ((((W.setCell ⟨g, 0, none⟩ a).setCell ⟨g, 1, none⟩ b).setCell ⟨g, 2, none⟩ c).setCell ⟨g, 3, none⟩ d) g t #[a, b, c, d] :=
  (((h.put 0 a).put 1 b).put 2 c).put 3 d
theorem one2 (w : World) (i : Nat) (l : List Nat) : Rds (w.alloc (.cells #[.int .i64 (i : Int), .string (strOf l)] RWT)) (some ⟨w.heap.size, 0, none⟩) (cells2 [(i, l)]) := fun j u hj => by
  have hb := blo_laid w RWT #[.int .i64 (i : Int), .string (strOf l)]
  refine ⟨w.heap.size, 0, rfl, ?_⟩
  rw [Nat.zero_add, hb.cell]
  simpa [cells2, wr2] using hj
theorem own_off {w : World} {base : Nat} {e : TypeId} {size : Nat} {v : Value} {n : Nat} {xs : List Value} (h : w.ownsRow base e size v n xs) {p : Addr} (hp : p.block < base) (u : Value) : (w.setCell p u).ownsRow base e size v n xs :=
  own_far h (fun e => by have := (own_lt h e.symm).1; omega) u
set_option maxRecDepth 100000 in
set_option maxHeartbeats 2000000 in
theorem rput_yes (sa qa : Option Addr) (n sc m qc : Nat) (st lf st2 lf2 : Int) (i : Nat) (l : List Nat) (Q : List (Nat × List Nat)) (hk : ¬ (n : Int) ≤ (i : Int)) (hs : (((strOf l).size : Int) != 64) = false) (w : World)
    (hstep : ∀ W, Calls Tryd.prog 90 #[.agg #[.slice sa n sc, .slice qa m qc, .int .i64 st, .int .i64 lf]] W fun e w' => e = .returned (.tuple #[.agg #[.slice sa n sc, .slice qa m qc, .int .i64 st2, .int .i64 lf2], .bool true]) ∧ Below W.heap.size W w')
    (hm : m = Q.length) (hQ : Rds w qa (cells2 Q)) (hnone : qa = none → m = 0 ∧ qc = 0) (hroom : m ≤ 100000) :
    Calls Tryd.prog 87 #[.agg #[.slice sa n sc, .slice qa m qc, .int .i64 st, .int .i64 lf], .int .i64 i, .string (strOf l)] w fun e w' => ∃ a5 c5, e = .returned (.tuple #[.agg #[.slice sa n sc, .slice a5 (m + 1) c5, .int .i64 st2, .int .i64 lf2], .int .i64 0]) ∧ (∃ base, w'.ownsRow base RWT 2 (.slice a5 (m + 1) c5) (m + 1) (cells2 (Q ++ [(i, l)]))) ∧ (a5 = none → m + 1 = 0 ∧ c5 = 0) ∧ Below w.heap.size w w' := by
  obtain ⟨z, hzi, hzs⟩ := info_rwt
  have HS := Lib.hid hstep
  have HQ := Lib.hid hQ
  have HM : Hid ((cells2 Q).length = m * 2) := by
    show (cells2 Q).length = m * 2
    rw [cells2_length, hm]
  have HNn := Lib.hid hnone
  have k0 : ¬ (i : Int) < 0 := by omega
  have hb2 := dr_two w (.cells #[.slice sa n sc, .slice qa m qc, .int .i64 st, .int .i64 lf] RDT) (.cells #[.slice none 0 0, .slice none 0 0, .int .i64 0, .int .i64 0] RDT)
  have HB2 := Lib.hid hb2
  have HX := Lib.hid ((blo_laid w RDT #[.slice sa n sc, .slice qa m qc, .int .i64 st, .int .i64 lf]).alloc (.cells #[.slice none 0 0, .slice none 0 0, .int .i64 0, .int .i64 0] RDT))
  have HZ : Hid (Blo ((w.alloc (.cells #[.slice sa n sc, .slice qa m qc, .int .i64 st, .int .i64 lf] RDT)).alloc (.cells #[.slice none 0 0, .slice none 0 0, .int .i64 0, .int .i64 0] RDT)) (w.heap.size + 1) RDT #[.slice none 0 0, .slice none 0 0, .int .i64 0, .int .i64 0]) := by
    have h := blo_laid (w.alloc (.cells #[.slice sa n sc, .slice qa m qc, .int .i64 st, .int .i64 lf] RDT)) RDT #[.slice none 0 0, .slice none 0 0, .int .i64 0, .int .i64 0]
    rw [show (w.alloc (.cells #[.slice sa n sc, .slice qa m qc, .int .i64 st, .int .i64 lf] RDT)).heap.size = w.heap.size + 1 by simp] at h
    exact h
  clear hstep hb2 hQ hm hnone
  go_enter Tryd.func87, Tryd.ntmps87
  go_wp2_with fail
  refine (HS.out _).mono ?_
  rintro e w1 ⟨rfl, hb1⟩
  have HB3 := Lib.hid (HB2.out.trans (hb1.mono HB2.out.size))
  have HY := Lib.hid (HX.out.later hb1)
  have x0 := HY.out.cell 0
  have x1 := HY.out.cell 1
  have x2 := HY.out.cell 2
  have x3 := HY.out.cell 3
  have f0 := HY.out.frozen 0
  have f1 := HY.out.frozen 1
  have f2 := HY.out.frozen 2
  have f3 := HY.out.frozen 3
  have HW := Lib.hid (HZ.out.later hb1)
  simp at x0 x1 x2 x3
  clear hb1 HX HZ HS HB2
  go_upto_region 6 with (fail)
  have HY2 : Hid (Blo ((((w1.setCell ⟨w.heap.size, 0, none⟩ (.slice sa n sc)).setCell ⟨w.heap.size, 1, none⟩ (.slice qa m qc)).setCell ⟨w.heap.size, 2, none⟩ (.int .i64 st2)).setCell ⟨w.heap.size, 3, none⟩ (.int .i64 lf2)) w.heap.size RDT #[.slice sa n sc, .slice qa m qc, .int .i64 st2, .int .i64 lf2]) := dr_fin HY.out
  have HW2 : Hid (Blo ((((w1.setCell ⟨w.heap.size, 0, none⟩ (.slice sa n sc)).setCell ⟨w.heap.size, 1, none⟩ (.slice qa m qc)).setCell ⟨w.heap.size, 2, none⟩ (.int .i64 st2)).setCell ⟨w.heap.size, 3, none⟩ (.int .i64 lf2)) (w.heap.size + 1) RDT #[.slice none 0 0, .slice none 0 0, .int .i64 0, .int .i64 0]) := (((HW.out.far (p := ⟨w.heap.size, 0, none⟩) (by simp) _).far (p := ⟨w.heap.size, 1, none⟩) (by simp) _).far (p := ⟨w.heap.size, 2, none⟩) (by simp) _).far (p := ⟨w.heap.size, 3, none⟩) (by simp) _
  have HB4 : Hid (Below w.heap.size w ((((w1.setCell ⟨w.heap.size, 0, none⟩ (.slice sa n sc)).setCell ⟨w.heap.size, 1, none⟩ (.slice qa m qc)).setCell ⟨w.heap.size, 2, none⟩ (.int .i64 st2)).setCell ⟨w.heap.size, 3, none⟩ (.int .i64 lf2))) := dr_four _ _ _ _ _ _ _ HB3.out (Nat.le_refl _)
  have HQ2 := Lib.hid (HQ.out.later HB4.out)
  have hlt := HW2.out.lt
  clear x0 x1 x2 x3 f0 f1 f2 f3 HY HW HB3 HQ
  generalize ((((w1.setCell ⟨w.heap.size, 0, none⟩ (.slice sa n sc)).setCell ⟨w.heap.size, 1, none⟩ (.slice qa m qc)).setCell ⟨w.heap.size, 2, none⟩ (.int .i64 st2)).setCell ⟨w.heap.size, 3, none⟩ (.int .i64 lf2)) = w2 at *
  have y1 := HY2.out.cell 1
  simp at y1
  have hal : Below w2.heap.size w2 (w2.alloc (.cells #[] RWT)) := (Below.refl _ _).alloc (Nat.le_refl _) _
  have y1b := (HY2.out.later hal).cell 1
  simp at y1b
  go_wp2_with (first | (at_builtin; refine wp_append_row rfl (.tmp 32) (.tmp 34) 27 rfl w2.heap.size RWT z 2 24 Tryd.underlying27 hzi hzs (by decide) (by decide) _ 0 [] rfl (World.ownsRow_lit w2 #[] 0 (Nat.le_refl _) (by unfold maxLen; omega) rfl) qa m qc (cells2 Q) rfl HM.out (HQ2.out.later hal).add (cells2_one Q) HNn.out (by omega) (by simp) ?_; intro a3 c3 w3 hown hgrow; rw [Nat.zero_add, List.nil_append] at hown; rw [Nat.zero_add]; have HO3 := Lib.hid hown; have HB5 := Lib.hid (hal.grown hgrow (by simp) (fun q hq => by cases hq; exact Nat.le_refl _)); clear hown hgrow) | (at_builtin; refine wp_append_row rfl (.tmp 35) (.tmp 39) 27 rfl w2.heap.size RWT z 2 24 Tryd.underlying27 hzi hzs (by decide) (by decide) (.slice a3 m c3) m (cells2 Q) rfl (own_later HO3.out ((Below.refl _ _).alloc (Nat.le_refl _) (.cells #[.int .i64 (i : Int), .string (strOf l)] RWT))) (some ⟨w3.heap.size, 0, none⟩) 1 1 (cells2 [(i, l)]) rfl rfl (one2 w3 i l).add (cells2_one _) (fun h => by cases h) (by omega) (Nat.le_trans HB5.out.size (by simp)) ?_; intro a5 c5 w5 hown hgrow; rw [cells2_append] at hown; have HO5 := Lib.hid hown; have HB7 := Lib.hid ((HB5.out.trans (((Below.refl _ _).alloc (Nat.le_refl _) (.cells #[.int .i64 (i : Int), .string (strOf l)] RWT)).mono HB5.out.size)).grown hgrow (Nat.le_trans HB5.out.size (by simp)) (fun q hq => (own_lt HO3.out hq).1)); have HY7 := Lib.hid (HY2.out.later HB7.out); have HW7 := Lib.hid (HW2.out.later HB7.out); have y0 := HY7.out.cell 0; have y1 := HY7.out.cell 1; have y2 := HY7.out.cell 2; have y3 := HY7.out.cell 3; have f1 := HY7.out.frozen 1; have z0 := HW7.out.cell 0; have z1 := HW7.out.cell 1; have z2 := HW7.out.cell 2; have z3 := HW7.out.cell 3; have e0 := HW7.out.frozen 0; have e1 := HW7.out.frozen 1; have e2 := HW7.out.frozen 2; have e3 := HW7.out.frozen 3; simp at y0 y1 y2 y3 z0 z1 z2 z3; clear hown hgrow))
  refine bodyPost_ret (v := .tuple #[.agg #[.slice sa n sc, .slice a5 (m + 1) c5, .int .i64 st2, .int .i64 lf2], .int .i64 0]) ?_ rfl ⟨a5, c5, rfl, ?_, fun h => ?_, ?_⟩
  · simp [results, Tryd.results87, go_sem, y0, y1, y2, y3, z0, z1, z2, z3]
  · exact ⟨_, (own_off (own_off (own_off (own_off (own_off HO5.out (Nat.lt_of_succ_lt hlt) _) hlt _) hlt _) hlt _) hlt _)⟩
  · rcases id HO5.out.2 with ⟨h1, _⟩ | ⟨g, c, cur, h1, _⟩
    · cases h1
    · cases h1; cases h
  · exact dr_four _ _ _ _ _ _ _ ((HB4.out.trans (HB7.out.mono HB4.out.size)).setCell (p := ⟨w.heap.size, 1, none⟩) (Nat.le_refl _) _) (Nat.le_succ _)
end Go.Proofs.YtlkgaefabahkoaaDoor
/-
  The document's disk: a row of texts.
-/
namespace Go.Proofs.YtlkgaefabahkoaaDoor
open Go.RowKit

abbrev STR := 9
theorem info_str : (Tryd.prog.info? STR).map (fun i => (i.zero, i.size, i.bytes)) = some (some (.string ByteArray.empty), 1, 16) := by kernel_rfl
theorem cellsS_one (S : Nat → List Nat) (n : Nat) : ∀ u ∈ cellsS S n, u.oneCell' = true := fun u hu => by
  unfold cellsS at hu
  obtain ⟨p, _, rfl⟩ := List.mem_map.1 hu
  rfl
/-- A row of texts. -/
def Tx (w : World) (g n : Nat) (F : Nat → List Nat) : Prop := ∃ cur, Blo w g STR cur ∧ ∀ i, i < n → cur[i]? = some (.string (strOf (F i)))
theorem Tx.cell {w : World} {g n : Nat} {F : Nat → List Nat} (h : Tx w g n F) {i : Nat} (hi : i < n) : w.cell? ⟨g, i, none⟩ = some (.string (strOf (F i))) ∧ w.frozen? ⟨g, i, none⟩ = false := by
  obtain ⟨cur, hb, hc⟩ := h
  exact ⟨by rw [hb.cell, hc i hi], hb.frozen i⟩
theorem Tx.later {w w' : World} {g n : Nat} {F : Nat → List Nat} (h : Tx w g n F) (hb : Below w.heap.size w w') : Tx w' g n F := by
  obtain ⟨cur, h1, h2⟩ := h
  exact ⟨cur, h1.later hb, h2⟩
theorem Tx.far {w : World} {g n : Nat} {F : Nat → List Nat} (h : Tx w g n F) {p : Addr} (hp : p.block ≠ g) (u : Value) : Tx (w.setCell p u) g n F := by
  obtain ⟨cur, h1, h2⟩ := h
  exact ⟨cur, h1.far (Ne.symm hp) u, h2⟩
theorem Tx.put {w : World} {g n : Nat} {F : Nat → List Nat} (h : Tx w g n F) {i : Nat} (hi : i < n) (l : List Nat) : Tx (w.setCell ⟨g, i, none⟩ (.string (strOf l))) g n (updB F i l) := by
  obtain ⟨cur, h1, h2⟩ := h
  refine ⟨_, h1.put i _, fun j hj => ?_⟩
  have hs : i < cur.size := by
    rcases Nat.lt_or_ge i cur.size with h | h
    · exact h
    · have := h2 i hi; rw [Array.getElem?_eq_none h] at this; cases this
  by_cases e : j = i
  · subst e; rw [updB_at]; simp [hs]
  · rw [updB_ne _ _ e, ← h2 j hj]
    simp [Ne.symm e]
theorem tx_own {w : World} {base n cap : Nat} {a : Option Addr} {S : Nat → List Nat} (hn : 0 < n) (h : w.ownsRow base STR 1 (.slice a n cap) n (cellsS S n)) : ∃ g, a = some ⟨g, 0, none⟩ ∧ base ≤ g ∧ Tx w g n S := by
  rcases id h.2 with ⟨h1, h0⟩ | ⟨g, c, cur, h1, h2, h3, h4⟩
  · omega
  · cases h1
    have hb : Blo w g STR cur := h3
    refine ⟨g, rfl, h2, cur, hb, fun i hi => ?_⟩
    rw [← hb.cell, h.cellAt i (by omega)]
    exact cellsS_at S n i hi
theorem Tx.rds {w : World} {g n : Nat} {F : Nat → List Nat} (h : Tx w g n F) : Rds w (some ⟨g, 0, none⟩) (cellsS F n) := fun j u hj => by
  have hjn : j < n := by
    rcases Nat.lt_or_ge j n with h | h
    · exact h
    · rw [List.getElem?_eq_none (by simp [cellsS]; exact h)] at hj; cases hj
  rw [cellsS_at F n j hjn] at hj
  cases hj
  exact ⟨g, 0, rfl, by rw [Nat.zero_add]; exact (h.cell hjn).1⟩
end Go.Proofs.YtlkgaefabahkoaaDoor
/-
  The disk's walks: tear.
-/
namespace Go.Proofs.YtlkgaefabahkoaaDoor
open Go.RowKit

/-- Sixty-four numbers, told by their place. -/
def L64 (f : Nat → Nat) : List Nat := (List.range 64).map f
theorem L64_length (f : Nat → Nat) : (L64 f).length = 64 := by simp [L64]
theorem L64_get (f : Nat → Nat) (j : Nat) (h : j < 64) : (L64 f).getD j 0 = f j := by
  rw [List.getD_eq_getElem?_getD, L64, List.getElem?_map, List.getElem?_range h]; rfl
theorem L64_ext {f g : Nat → Nat} (h : ∀ j, j < 64 → f j = g j) : L64 f = L64 g := by
  apply List.map_congr_left
  intro j hj
  exact h j (List.mem_range.1 hj)
theorem L64_of (l : List Nat) (h : l.length = 64) : L64 (fun j => l.getD j 0) = l := by
  apply List.ext_getElem (by rw [L64_length, h])
  intro j h1 h2
  simp [L64, List.getD_eq_getElem?_getD, List.getElem?_eq_getElem h2]
theorem L64_byte {f : Nat → Nat} (h : ∀ j, j < 64 → f j < 256) : ∀ x ∈ L64 f, x < 256 := fun x hx => by
  simp only [L64, List.mem_map, List.mem_range] at hx
  obtain ⟨j, hj, rfl⟩ := hx
  exact h j hj
theorem getD_b {l : List Nat} (h : ∀ x ∈ l, x < 256) (j : Nat) : l.getD j 0 < 256 := by
  rw [List.getD_eq_getElem?_getD]
  cases e : l[j]? with
  | none => simp
  | some x => exact h x (List.mem_of_getElem? e)
def bitS (sec : Int) (s : Nat) : Bool := decide ((sec / 2 ^ s) % 2 = 1)
theorem and_one (x : Int) : (bits .and .i64 x 1 == 1) = decide (x % 2 = 1) := by
  have h1 : bits .and .i64 x 1 = IntKind.i64.wrap ((((x % 18446744073709551616).toNat % 2 : Nat)) : Int) := by
    show IntKind.i64.wrap ((BitVec.ofInt 64 x &&& BitVec.ofInt 64 1).toNat : Int) = _
    rw [BitVec.toNat_and, BitVec.toNat_ofInt, BitVec.toNat_ofInt]
    have e1 : ((1 : Int) % ((2 ^ 64 : Nat) : Int)).toNat = 1 := by decide
    have e2 : (((2 ^ 64 : Nat) : Int)) = 18446744073709551616 := by decide
    rw [e1, Nat.and_one_is_mod, e2]
  have h2 : 0 ≤ x % 18446744073709551616 := Int.emod_nonneg _ (by decide)
  have h3 : (((x % 18446744073709551616).toNat % 2 : Nat) : Int) = x % 2 := by omega
  rw [h1, h3, IntWalk.i64_in _ (by omega)]
  by_cases c : x % 2 = 1
  · rw [c]; rfl
  · rw [decide_eq_false c, beq_eq_false_iff_ne]; exact c
theorem bitS_walk (sec : Int) (k : Nat) : (bits .and .i64 (sec / 2 ^ k) 1 == 1) = bitS sec k := and_one _
def tearK (k : Nat) (t f : List Nat) (sec : Int) : List Nat := L64 fun j => if j / 16 < k ∧ bitS sec (j / 16) = true then f.getD j 0 else t.getD j 0
theorem tearK_zero (t f : List Nat) (sec : Int) (ht : t.length = 64) : tearK 0 t f sec = t := by
  refine Eq.trans (L64_ext fun j hj => ?_) (L64_of t ht)
  rw [if_neg (by omega)]
theorem tearK_byte {t f : List Nat} (k : Nat) (sec : Int) (ht : ∀ x ∈ t, x < 256) (hf : ∀ x ∈ f, x < 256) : ∀ x ∈ tearK k t f sec, x < 256 :=
  L64_byte fun j _ => by split <;> exact getD_b (by assumption) j
theorem tearK_no (k : Nat) (t f : List Nat) (sec : Int) (h : bitS sec k = false) : tearK (k + 1) t f sec = tearK k t f sec :=
  L64_ext fun j _ => by
    by_cases e : j / 16 = k
    · rw [if_neg (by rw [e, h]; simp), if_neg (by omega)]
    · by_cases c : j / 16 < k ∧ bitS sec (j / 16) = true
      · rw [if_pos ⟨by omega, c.2⟩, if_pos c]
      · rw [if_neg (fun q => c ⟨by omega, q.2⟩), if_neg c]
def spl (t : List Nat) (off : Nat) (m : List Nat) : List Nat := L64 fun j => if off ≤ j ∧ j < off + m.length then m.getD (j - off) 0 else t.getD j 0
theorem tearK_yes (k : Nat) (t f : List Nat) (sec : Int) (hk : k < 4) (hf : f.length = 64) (h : bitS sec k = true) : spl (tearK k t f sec) (16 * k) ((f.drop (16 * k)).take 16) = tearK (k + 1) t f sec :=
  L64_ext fun j hj => by
    have hm : ((f.drop (16 * k)).take 16).length = 16 := by rw [List.length_take, List.length_drop]; omega
    rw [hm]
    unfold tearK
    rw [L64_get _ _ hj]
    by_cases e : j / 16 = k
    · have hx : ((f.drop (16 * k)).take 16).getD (j - 16 * k) 0 = f.getD j 0 := by
        rw [List.getD_eq_getElem?_getD, List.getD_eq_getElem?_getD, List.getElem?_take_of_lt (by omega), List.getElem?_drop, show 16 * k + (j - 16 * k) = j by omega]
      rw [if_pos (by omega), hx, if_pos ⟨by omega, by rw [e]; exact h⟩]
    · rw [if_neg (by omega)]
      by_cases c : j / 16 < k ∧ bitS sec (j / 16) = true
      · rw [if_pos c, if_pos ⟨by omega, c.2⟩]
      · rw [if_neg c, if_neg (fun q => c ⟨by omega, q.2⟩)]
section
variable {w w' : World} {g n i : Nat} {F : Nat → List Nat}
theorem Rw.part (h : Rw w g n F) (hi : i < n) (off : Nat) (m : List Nat) (hm : off + m.length ≤ 64) (hb : ∀ x ∈ m, x < 256) : Rw (w.setCells g (i * 64 + off) (cellsB m)) g n (updB F i (spl (F i) off m)) := by
  obtain ⟨⟨cs, h1, h2, h3⟩, h4, h5⟩ := h
  obtain ⟨cs', k1, k2, k3⟩ := blo_cells (cellsB m) (i * 64 + off) w cs h1
  refine ⟨⟨cs', k1, by rw [k2, h2], fun a ha j hj => ?_⟩, fun a => ?_, fun a x hx => ?_⟩
  · rw [k3, cellsB_length]
    by_cases e : a = i
    · subst e
      rw [updB_at, spl, L64_get _ _ hj]
      by_cases c : off ≤ j ∧ j < off + m.length
      · rw [if_pos ⟨by omega, by omega, by omega⟩, if_pos c, show a * 64 + j - (a * 64 + off) = j - off by omega, cellsB_get _ _ (by omega)]
      · rw [if_neg (by omega), if_neg c]
        exact h3 a ha j hj
    · rw [if_neg (by omega), updB_ne _ _ e]
      exact h3 a ha j hj
  · by_cases e : a = i
    · subst e; rw [updB_at]; exact L64_length _
    · rw [updB_ne _ _ e]; exact h4 a
  · by_cases e : a = i
    · subst e
      rw [updB_at] at hx
      exact L64_byte (fun j _ => by split; · exact getD_b hb _
                                    · exact getD_b (h5 a) _) x hx
    · rw [updB_ne _ _ e] at hx; exact h5 a x hx
theorem range_part {b o : Nat} {cs : List Value} (h : w.rangeAt b o cs) (p m : Nat) : w.rangeAt b (o + p) ((cs.drop p).take m) := fun j v hv => by
  have hj : j < m := by
    have := (List.getElem?_eq_some_iff.1 hv).1
    rw [List.length_take] at this; omega
  rw [List.getElem?_take_of_lt hj, List.getElem?_drop] at hv
  rw [Nat.add_assoc]
  exact h (p + j) v hv
theorem cellsB_part (l : List Nat) (p m : Nat) : ((cellsB l).drop p).take m = cellsB ((l.drop p).take m) := by simp [cellsB, List.map_drop, List.map_take]
theorem len_blk : Tryd.prog.arrayLen BLK = 64 := by kernel_rfl
theorem elem_blk : Tryd.prog.elem BLK = U8 := by kernel_rfl
theorem size_u8w (W : World) : (Go.sizeOf U8).run Tryd.prog W = .ok 1 W := by kernel_rfl
theorem under_blk : Tryd.prog.underlying BLK = some (.array (Tryd.prog.arrayLen BLK) (Tryd.prog.elem BLK)) := by rw [len_blk, elem_blk]; exact Tryd.underlying123
theorem cutA_lh (g o s e : Nat) (hse : s ≤ e) (he : e ≤ 64) (hs : s < 64) (W : World) :
    (Instr.sliceAt BLK (.pointer (some ⟨g, o, none⟩)) (some (.int .i64 (s : Int))) (some (.int .i64 (e : Int))) none).run Tryd.prog W = .ok (.slice (some ⟨g, o + s, none⟩) (e - s) (64 - s)) W := by
  rw [run_sliceAt_array_lh W BLK _ under_blk .i64 .i64 _ _ (by omega) (by omega) (by rw [len_blk]; omega), elem_blk, size_u8w, len_blk]
  have e2 : ¬ 64 = s := by omega
  simp [Result.andThen, slicedAt, Addr.add_lit, e2]
theorem cutA_l (g o s : Nat) (hs : s < 64) (W : World) :
    (Instr.sliceAt BLK (.pointer (some ⟨g, o, none⟩)) (some (.int .i64 (s : Int))) none none).run Tryd.prog W = .ok (.slice (some ⟨g, o + s, none⟩) (64 - s) (64 - s)) W := by
  rw [run_sliceAt_array_l W BLK _ under_blk .i64 _ (by omega) (by rw [len_blk]; omega), elem_blk, size_u8w, len_blk]
  have e2 : ¬ 64 = s := by omega
  simp [Result.andThen, slicedAt, Addr.add_lit, e2]
theorem _root_.Go.World.rangeAt.out2 {b o : Nat} {cs : List Value} {X : Nat → Prop} (h : w.rangeAt b o cs) (ho : Out X w w') (hb : b < w.heap.size) (hx : ¬ X b) : w'.rangeAt b o cs := fun j v hv => ho.cell (h j v hv) hx
def TearR (w : World) (g n i gx : Nat) (F : Nat → List Nat) (f : List Nat) (sec : Int) (t : Value) (wr : World) : Prop :=
  ∃ k : Nat, k ≤ 4 ∧ t = .int .i64 k ∧ Rw wr g n (updB F i (tearK k (F i) f sec)) ∧ Out (fun j => j = g) w wr
set_option maxRecDepth 100000 in
set_option maxHeartbeats 2000000 in
theorem tear_any (h : Rw w g n F) (hi : i < n) (hn : n ≤ 5000) (gx : Nat) (f : List Nat) (sec : Int) (hx : w.rangeAt gx 1 (cellsB f)) (hxl : gx < w.heap.size) (hf : f.length = 64) (hfb : ∀ x ∈ f, x < 256) (hne : gx ≠ g) :
    Calls Tryd.prog 60 #[.pointer (some ⟨g, i * 64, none⟩), .pointer (some ⟨gx, 1, none⟩), .int .i64 sec] w fun e w' => e = .returned (.tuple #[]) ∧ Rw w' g n (updB F i (tearK 4 (F i) f sec)) ∧ Out (fun j => j = g) w w' := by
  have HSt : Hid (TearR w g n i gx F f sec (.int .i64 0) w) := ⟨0, by omega, rfl, by
    rw [tearK_zero _ _ _ (h.len i)]
    have : updB F i (F i) = F := by funext j; unfold updB; split <;> simp_all
    rw [this]; exact h, Out.refl _ _⟩
  have HX := Lib.hid hx
  have HFl := Lib.hid hf
  clear h hx hf
  go_enter Tryd.func60, Tryd.ntmps60
  go_wp2_with fail
  go_loopw [7] (fun t wr => TearR w g n i gx F f sec t wr) (fun t _ => 4 - (intOf t).toNat)
  case atStart => exact HSt.out
  case round =>
    clear HSt
    obtain ⟨k, hk, rfl, hR, hO⟩ := hrel
    by_cases hlt : k < 4
    · have HR := Lib.hid hR
      have HO := Lib.hid hO
      clear hR hO
      have k0 : (0 : Int) ≤ (k : Int) := by omega
      have k1 : (k : Int) < 4 := by omega
      have htest := bitS_walk sec k
      cases hb : bitS sec k with
      | false =>
        rw [hb] at htest
        have HRk : Hid (Rw wr g n (updB F i (tearK (k + 1) (F i) f sec))) := by rw [tearK_no _ _ _ _ hb]; exact HR.out
        clear hb HR
        go_wp2
        go_roundw
        case rel => exact ⟨k + 1, hlt, by simp, HRk.out, HO.out⟩
        case measure => simp [intOf]; omega
      | true =>
        rw [hb] at htest
        obtain ⟨s, hs⟩ : ∃ s, 16 * k = s := ⟨_, rfl⟩
        obtain ⟨t, ht⟩ : ∃ t, s + 16 = t := ⟨_, rfl⟩
        have hs48 : s ≤ 48 := by omega
        have HRk : Hid (∀ W, Rw W g n (updB F i (tearK k (F i) f sec)) → Rw (W.setCells g (i * 64 + s) (cellsB ((f.drop s).take 16))) g n (updB F i (tearK (k + 1) (F i) f sec))) := fun W hW => by
          have h1 := hW.part hi s ((f.drop s).take 16) (by rw [List.length_take]; omega) (fun x hx => hfb x (List.mem_of_mem_drop (List.mem_of_mem_take hx)))
          rw [updB_at] at h1
          have h2 := tearK_yes k (F i) f sec hlt HFl.out hb
          rw [hs] at h2
          rw [h2] at h1
          have h3 : updB (updB F i (tearK k (F i) f sec)) i (tearK (k + 1) (F i) f sec) = updB F i (tearK (k + 1) (F i) f sec) := by
            funext j; unfold updB; split <;> rfl
          rw [h3] at h1
          exact h1
        have HM : Hid (((f.drop s).take 16).length = 16) := by
          show ((f.drop s).take 16).length = 16
          rw [List.length_take, List.length_drop, HFl.out]; omega
        have hc1 := fun W => cutA_lh g (i * 64) s t (by omega) (by omega) (by omega) W
        have hc2 := fun W => cutA_l gx 1 s (by omega) W
        have HXr := Lib.hid ((HX.out).out2 HO.out hxl hne)
        have HTh := Lib.hid (HR.out.there hi)
        have HN1 : Hid ((cellsB ((f.drop s).take 16)).length = Nat.min (64 - s) (t - s) * 1) := by
          show (cellsB ((f.drop s).take 16)).length = min (64 - s) (t - s) * 1
          rw [cellsB_length, HM.out]; omega
        have HT1 : Hid (wr.drew.there g (i * 64 + s) (cellsB ((f.drop s).take 16)).length) := by
          show wr.drew.there g (i * 64 + s) (cellsB ((f.drop s).take 16)).length
          rw [cellsB_length, HM.out]
          exact (World.there_drew _ _ _ _).2 (fun j hj => by rw [Nat.add_assoc]; exact HTh.out (s + j) (by omega))
        have HS1 := Lib.hid (range_src (w := wr.drew) (b := gx) (o := 1 + s) (cs := cellsB ((f.drop s).take 16)) ((World.rangeAt_drew _ _ _ _).2 (by rw [← cellsB_part]; exact range_part HXr.out s 16)))
        have e0 : IntKind.i64.wrap ((k : Int) * 16) = (s : Int) := by rw [IntWalk.i64_in _ (by omega)]; omega
        have e1 : IntKind.i64.wrap ((k : Int) + 1) = (k : Int) + 1 := IntWalk.i64_in _ (by omega)
        have e2 : IntKind.i64.wrap (((k : Int) + 1) * 16) = (t : Int) := by rw [IntWalk.i64_in _ (by omega)]; omega
        have ets : t - s = 16 := by omega
        have ETS := Lib.hid ets
        clear hb hs ht ets
        go_wp2_with fail
        go_region_law (refine step_copy_many (by rfl) (.tmp 22) (.tmp 27) 49 49 (by rfl) U8 1 Tryd.underlying49 size_u8d g (i * 64 + s) (t - s) (64 - s) ⟨gx, 1 + s, none⟩ (64 - s) (64 - s) (by simp [go_sem]) (by simp [go_sem]) (cellsB ((f.drop s).take 16)) HN1.out HS1.out HT1.out (cellsB_one _) ?_)
        clear e0 e1 e2 hc1 hc2
        have HR2 := Lib.hid (HRk.out _ (HR.out.later ((Below.refl _ _).drew)))
        have HO2 := Lib.hid ((HO.out.trans (Out.of_below (X := fun j => j = g) ((Below.refl wr.heap.size wr).drew)) (fun _ _ h => h)).trans (out_cells (X := fun j => j = g) (cellsB ((f.drop s).take 16)) (i * 64 + s) wr.drew rfl) (fun _ _ h => h))
        clear HRk HR HO HXr HTh
        go_wp2_with fail
        go_roundw
        case rel => exact ⟨k + 1, hlt, by simp, HR2.out, HO2.out⟩
        case measure => simp [intOf]; omega
    · have hke : k = 4 := by omega
      subst hke
      have HR := Lib.hid hR
      have HO := Lib.hid hO
      clear hR hO
      go_wp2
      go_end0
      exact ⟨rfl, HR.out, HO.out⟩
end
end Go.Proofs.YtlkgaefabahkoaaDoor
