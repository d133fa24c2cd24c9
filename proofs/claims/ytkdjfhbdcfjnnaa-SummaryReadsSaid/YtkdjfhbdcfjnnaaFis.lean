/-
  A slice of files (a summary's) that is read; a summary's Size and Blocks.
-/
import Derived.Test.YtkdjfhbdcfjnnaaMem
import Derived.Test.YtkdjfhbdcfjnnaaRows
import Derived.Deep.QuietTactic
import Derived.BigQuiet
import Derived.StillTailTactics
namespace Go.Proofs.Ytkdjfhbdcfjnnaa
open Go.RowKit

abbrev FN := 46
abbrev IT := 3
theorem sup_pc (w : World) (o : Obj) : Below w.heap.size w (w.alloc o) := (Below.refl _ _).alloc (Nat.le_refl _) o
theorem info_fn : (Try.prog.info? FN).map (fun i => (i.zero, i.size, i.bytes)) = some (some (.agg #[.int .i64 0, .int .i64 0, .slice none 0 0]), 3, 40) := by kernel_rfl
theorem info_it : (Try.prog.info? IT).map (fun i => (i.zero, i.size, i.bytes)) = some (some (.int .i64 0), 1, 8) := by kernel_rfl
structure Fi where
  ino : Int
  ver : Int
  lb : List Int
def fi0 : Fi := ⟨0, 0, []⟩
/-- What a slice of files that is read holds. -/
def Fis (w : World) (a : Option Addr) (l : List Fi) : Prop := l ≠ [] → ∃ b o, a = some ⟨b, o, none⟩ ∧ ∀ i, i < l.length →
  w.cell? ⟨b, o + i * 3, none⟩ = some (.int .i64 (l.getD i fi0).ino) ∧ w.cell? ⟨b, o + i * 3 + 1, none⟩ = some (.int .i64 (l.getD i fi0).ver) ∧ ∃ c cp, w.cell? ⟨b, o + i * 3 + 2, none⟩ = some (.slice c (l.getD i fi0).lb.length cp) ∧ Ints w c (l.getD i fi0).lb
section
variable {w w' : World} {a : Option Addr} {l : List Fi}
theorem Fis.nil (w : World) (a : Option Addr) : Fis w a [] := fun h => absurd rfl h
theorem Fis.later (h : Fis w a l) (hb : Below w.heap.size w w') : Fis w' a l := fun hl => by
  obtain ⟨b, o, ha, hc⟩ := h hl
  refine ⟨b, o, ha, fun i hi => ?_⟩
  obtain ⟨h1, h2, c, cp, h3, h4⟩ := hc i hi
  exact ⟨cell_later hb h1, cell_later hb h2, c, cp, cell_later hb h3, h4.below hb⟩
theorem Fis.at (h : Fis w a l) {i : Nat} (hi : i < l.length) : ∃ b o c cp, a = some ⟨b, o, none⟩ ∧
    w.cell? ⟨b, o + i * 3, none⟩ = some (.int .i64 (l.getD i fi0).ino) ∧ w.cell? ⟨b, o + i * 3 + 1, none⟩ = some (.int .i64 (l.getD i fi0).ver) ∧ w.cell? ⟨b, o + i * 3 + 2, none⟩ = some (.slice c (l.getD i fi0).lb.length cp) ∧ Ints w c (l.getD i fi0).lb := by
  obtain ⟨b, o, ha, hc⟩ := h (fun e => by rw [e] at hi; cases hi)
  obtain ⟨h1, h2, c, cp, h3, h4⟩ := hc i hi
  exact ⟨b, o, c, cp, ha, h1, h2, h3, h4⟩
end
theorem take_snocF {α : Type} (l : List α) (d : α) (k : Nat) (h : k < l.length) : l.take (k + 1) = l.take k ++ [l.getD k d] := by
  rw [List.take_add_one, List.getElem?_eq_getElem h, List.getD_eq_getElem?_getD, List.getElem?_eq_getElem h]
  rfl
def szF (l : List Fi) : Nat := (l.map fun f => 4 + 2 * f.lb.length).sum
def blF (l : List Fi) : Nat := (l.map fun f => f.lb.length).sum
theorem szF_snoc (l : List Fi) (f : Fi) : szF (l ++ [f]) = szF l + (4 + 2 * f.lb.length) := by simp [szF]
theorem blF_snoc (l : List Fi) (f : Fi) : blF (l ++ [f]) = blF l + f.lb.length := by simp [blF]
theorem sum_take_le {α : Type} (g : α → Nat) (l : List α) (k : Nat) : ((l.take k).map g).sum ≤ (l.map g).sum := by
  conv => rhs; rw [← List.take_append_drop k l, List.map_append, List.sum_append]
  omega
theorem szF_take (l : List Fi) (k : Nat) : szF (l.take k) ≤ szF l := sum_take_le _ _ _
theorem blF_take (l : List Fi) (k : Nat) : blF (l.take k) ≤ blF l := sum_take_le _ _ _
theorem blF_szF (l : List Fi) : blF l ≤ szF l := by
  induction l with
  | nil => exact Nat.le_refl _
  | cons a l ih => simp only [blF, szF, List.map_cons, List.sum_cons] at ih ⊢; omega
theorem len_szF (l : List Fi) : 4 * l.length ≤ szF l := by
  induction l with
  | nil => exact Nat.le_refl _
  | cons a l ih => simp only [szF, List.map_cons, List.sum_cons, List.length_cons] at ih ⊢; omega
/-- A summary as a value. -/
abbrev part (e c i p x : Int) (fa : Option Addr) (fn fc : Nat) (ia : Option Addr) (inn ic : Nat) : Value := .agg #[.int .i64 e, .int .i64 c, .int .i64 i, .int .i64 p, .int .i64 x, .slice fa fn fc, .slice ia inn ic]
structure SzR (w : World) (a : Option Addr) (l : List Fi) (wr : World) : Prop where
  list : Fis wr a l
  below : Below w.heap.size w wr
theorem SzR.later {w w' wr : World} {a : Option Addr} {l : List Fi} (h : SzR w a l wr) (hb : Below wr.heap.size wr w') : SzR w a l w' := ⟨h.list.later hb, h.below.trans (hb.mono h.below.size)⟩
section
variable {w : World} {l : List Fi} (e c i p x : Int) (fa : Option Addr) (fn fc : Nat) (ia : Option Addr) (inn ic : Nat)
set_option maxHeartbeats 2000000 in
theorem size_any (hF : Fis w fa l) (hn : fn = l.length) (hs : szF l ≤ 1000000000) (hi : inn ≤ 1000000000) :
    Calls Try.prog 15 #[part e c i p x fa fn fc ia inn ic] w fun en w' => en = .returned (.int .i64 ((10 + inn + szF l : Nat) : Int)) ∧ Below w.heap.size w w' := by
  have HR := Lib.hid (show SzR w fa l (w.alloc (.cells #[.int .i64 e, .int .i64 c, .int .i64 i, .int .i64 p, .int .i64 x, .slice fa fn fc, .slice ia inn ic] 25)) from ⟨hF.later (sup_pc _ _), sup_pc _ _⟩)
  have hfn : fn ≤ 1000000000 := by have := len_szF l; omega
  have HN := Lib.hid hn
  have HS := Lib.hid hs
  clear hF hn hs
  go_enter Try.func15, Try.ntmps15
  go_wp2_with fail
  go_loopw [3, 5, 14] (fun m _ t wr => ∃ k : Nat, k ≤ fn ∧ t = .int .i64 k ∧ m = .int .i64 ((10 + inn + szF (l.take k) : Nat) : Int) ∧ SzR w fa l wr) (fun _ _ t _ => fn - (intOf t).toNat)
  case atStart => exact ⟨0, Nat.zero_le _, rfl, by simp [szF], HR.out⟩
  case round =>
    clear HR
    obtain ⟨k, hk, rfl, rfl, hR⟩ := hrel
    have HR := Lib.hid hR
    clear hR
    by_cases hlt : k < fn
    · have hkl : k < l.length := by rw [← HN.out]; exact hlt
      obtain ⟨b, o, cc, cp, rfl, q1, q2, q3, -⟩ := HR.out.list.at hkl
      have hsn := take_snocF l fi0 k hkl
      have hle := szF_take l (k + 1)
      have HSn : Hid (szF (l.take (k + 1)) = szF (l.take k) + (4 + 2 * (l.getD k fi0).lb.length)) := by show _ = _; rw [hsn, szF_snoc]
      have hle2 := HS.out
      rw [HSn.out] at hle
      have HR1 := Lib.hid (HR.out.later (sup_pc wr (.cells #[.int .i64 (l.getD k fi0).ino, .int .i64 (l.getD k fi0).ver, .slice cc (l.getD k fi0).lb.length cp] FN)))
      generalize (l.getD k fi0).lb.length = m at *
      generalize (l.getD k fi0).ino = y1 at *
      generalize (l.getD k fi0).ver = y2 at *
      obtain ⟨M, hM⟩ : ∃ M, szF (l.take k) = M := ⟨_, rfl⟩
      rw [hM] at hle HSn
      simp only [hM]
      have j1 : (k : Int) < (fn : Int) := by omega
      have j2 : M + (4 + 2 * m) ≤ 1000000000 := by omega
      clear HR hkl hsn hle hle2 hM
      go_wp2_with fail
      go_roundw
      case rel => exact ⟨k + 1, by omega, by simp, by rw [HSn.out]; congr 1; omega, HR1.out⟩
      case measure => simp [intOf]; omega
    · have hkn : l.take k = l := by rw [List.take_of_length_le]; have := HN.out; omega
      have HB := Lib.hid HR.out.below
      simp only [hkn]
      clear HR hkn
      go_wp2
      go_ret
      exact ⟨rfl, HB.out⟩
set_option maxHeartbeats 2000000 in
theorem sblocks_any (hF : Fis w fa l) (hn : fn = l.length) (hs : szF l ≤ 1000000000) (hi : inn ≤ 1000000000) :
    Calls Try.prog 17 #[part e c i p x fa fn fc ia inn ic] w fun en w' => en = .returned (.int .i64 ((2 + inn + blF l : Nat) : Int)) ∧ Below w.heap.size w w' := by
  have HR := Lib.hid (show SzR w fa l (w.alloc (.cells #[.int .i64 e, .int .i64 c, .int .i64 i, .int .i64 p, .int .i64 x, .slice fa fn fc, .slice ia inn ic] 25)) from ⟨hF.later (sup_pc _ _), sup_pc _ _⟩)
  have hfn : fn ≤ 1000000000 := by have := len_szF l; omega
  have HN := Lib.hid hn
  have HS : Hid (blF l ≤ 1000000000) := by have := blF_szF l; show _ ≤ _; omega
  clear hF hn hs
  go_enter Try.func17, Try.ntmps17
  go_wp2_with fail
  go_loopw [3, 5, 13] (fun m _ t wr => ∃ k : Nat, k ≤ fn ∧ t = .int .i64 k ∧ m = .int .i64 ((2 + inn + blF (l.take k) : Nat) : Int) ∧ SzR w fa l wr) (fun _ _ t _ => fn - (intOf t).toNat)
  case atStart => exact ⟨0, Nat.zero_le _, rfl, by simp [blF], HR.out⟩
  case round =>
    clear HR
    obtain ⟨k, hk, rfl, rfl, hR⟩ := hrel
    have HR := Lib.hid hR
    clear hR
    by_cases hlt : k < fn
    · have hkl : k < l.length := by rw [← HN.out]; exact hlt
      obtain ⟨b, o, cc, cp, rfl, q1, q2, q3, -⟩ := HR.out.list.at hkl
      have hsn := take_snocF l fi0 k hkl
      have hle := blF_take l (k + 1)
      have HSn : Hid (blF (l.take (k + 1)) = blF (l.take k) + (l.getD k fi0).lb.length) := by show _ = _; rw [hsn, blF_snoc]
      have hle2 := HS.out
      rw [HSn.out] at hle
      have HR1 := Lib.hid (HR.out.later (sup_pc wr (.cells #[.int .i64 (l.getD k fi0).ino, .int .i64 (l.getD k fi0).ver, .slice cc (l.getD k fi0).lb.length cp] FN)))
      generalize (l.getD k fi0).lb.length = m at *
      generalize (l.getD k fi0).ino = y1 at *
      generalize (l.getD k fi0).ver = y2 at *
      obtain ⟨M, hM⟩ : ∃ M, blF (l.take k) = M := ⟨_, rfl⟩
      rw [hM] at hle HSn
      simp only [hM]
      have j1 : (k : Int) < (fn : Int) := by omega
      have j2 : M + m ≤ 1000000000 := by omega
      clear HR hkl hsn hle hle2 hM
      go_wp2_with fail
      go_roundw
      case rel => exact ⟨k + 1, by omega, by simp, by rw [HSn.out]; congr 1; omega, HR1.out⟩
      case measure => simp [intOf]; omega
    · have hkn : l.take k = l := by rw [List.take_of_length_le]; have := HN.out; omega
      have HB := Lib.hid HR.out.below
      simp only [hkn]
      clear HR hkn
      go_wp2
      go_ret
      exact ⟨rfl, HB.out⟩
end
end Go.Proofs.Ytkdjfhbdcfjnnaa
