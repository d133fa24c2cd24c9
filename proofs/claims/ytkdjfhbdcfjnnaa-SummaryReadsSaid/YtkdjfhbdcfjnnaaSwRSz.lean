/-
  The document's Size and Blocks.
-/
import Derived.Test.YtkdjfhbdcfjnnaaFis
namespace Go.Proofs.Ytkdjfhbdcfjnnaa
open Go.RowKit

section
variable {w : World} {l : List Fi} (e c i p x : Int) (fa : Option Addr) (fn fc : Nat) (ia : Option Addr) (inn ic : Nat)
set_option maxHeartbeats 2000000 in
theorem rsize_any (hF : Fis w fa l) (hn : fn = l.length) (hs : szF l ≤ 1000000000) (hi : inn ≤ 1000000000) :
    Calls Try.prog 16 #[part e c i p x fa fn fc ia inn ic] w fun en w' => en = .returned (.int .i64 ((10 + inn + szF l : Nat) : Int)) ∧ Below w.heap.size w w' := by
  have HR := Lib.hid (show SzR w fa l (w.alloc (.cells #[.int .i64 e, .int .i64 c, .int .i64 i, .int .i64 p, .int .i64 x, .slice fa fn fc, .slice ia inn ic] 25)) from ⟨hF.later (sup_pc _ _), sup_pc _ _⟩)
  have HX := Lib.hid (blo_laid w 25 #[.int .i64 e, .int .i64 c, .int .i64 i, .int .i64 p, .int .i64 x, .slice fa fn fc, .slice ia inn ic])
  have hfn : fn ≤ 1000000000 := by have := len_szF l; omega
  have HN := Lib.hid hn
  have HS := Lib.hid hs
  clear hF hn hs
  go_enter Try.func16, Try.ntmps16
  go_wp2_with fail
  go_loopw [3, 4, 12] (fun m _ t wr => ∃ k : Nat, k ≤ fn ∧ t = .int .i64 k ∧ m = .int .i64 ((10 + inn + szF (l.take k) : Nat) : Int) ∧ SzR w fa l wr ∧ Blo wr w.heap.size 25 #[.int .i64 e, .int .i64 c, .int .i64 i, .int .i64 p, .int .i64 x, .slice fa fn fc, .slice ia inn ic]) (fun _ _ t _ => fn - (intOf t).toNat)
  case atStart => exact ⟨0, Nat.zero_le _, rfl, by simp [szF], HR.out, HX.out⟩
  case round =>
    clear HR HX
    obtain ⟨k, hk, rfl, rfl, hR, hX⟩ := hrel
    have HR := Lib.hid hR
    have HX := Lib.hid hX
    have c5 : wr.cell? ⟨w.heap.size, 5, none⟩ = some (.slice fa fn fc) := hX.cell 5
    clear hR hX
    by_cases hlt : k < fn
    · have hkl : k < l.length := by rw [← HN.out]; exact hlt
      obtain ⟨b, o, cc, cp, rfl, q1, q2, q3, -⟩ := HR.out.list.at hkl
      have hsn := take_snocF l fi0 k hkl
      have hle := szF_take l (k + 1)
      have HSn : Hid (szF (l.take (k + 1)) = szF (l.take k) + (4 + 2 * (l.getD k fi0).lb.length)) := by show _ = _; rw [hsn, szF_snoc]
      have hle2 := HS.out
      rw [HSn.out] at hle
      have HR1 := Lib.hid HR.out
      generalize (l.getD k fi0).lb.length = m at *
      generalize (l.getD k fi0).ino = y1 at *
      generalize (l.getD k fi0).ver = y2 at *
      obtain ⟨M, hM⟩ : ∃ M, szF (l.take k) = M := ⟨_, rfl⟩
      rw [hM] at hle HSn
      simp only [hM]
      have j1 : (k : Int) < (fn : Int) := by omega
      have j2 : M + (4 + 2 * m) ≤ 1000000000 := by omega
      clear HR hkl hsn hle hle2 hM
      go_wp2_with fail
      go_roundw
      case rel => exact ⟨k + 1, by omega, by simp, by rw [HSn.out]; congr 1; omega, HR1.out, HX.out⟩
      case measure => simp [intOf]; omega
    · have hkn : l.take k = l := by rw [List.take_of_length_le]; have := HN.out; omega
      have HB := Lib.hid HR.out.below
      simp only [hkn]
      clear HR hkn
      go_wp2
      go_ret
      exact ⟨rfl, HB.out⟩
set_option maxHeartbeats 2000000 in
theorem rblocks_any (hF : Fis w fa l) (hn : fn = l.length) (hs : szF l ≤ 1000000000) (hi : inn ≤ 1000000000) :
    Calls Try.prog 18 #[part e c i p x fa fn fc ia inn ic] w fun en w' => en = .returned (.int .i64 ((2 + inn + blF l : Nat) : Int)) ∧ Below w.heap.size w w' := by
  have HR := Lib.hid (show SzR w fa l (w.alloc (.cells #[.int .i64 e, .int .i64 c, .int .i64 i, .int .i64 p, .int .i64 x, .slice fa fn fc, .slice ia inn ic] 25)) from ⟨hF.later (sup_pc _ _), sup_pc _ _⟩)
  have HX := Lib.hid (blo_laid w 25 #[.int .i64 e, .int .i64 c, .int .i64 i, .int .i64 p, .int .i64 x, .slice fa fn fc, .slice ia inn ic])
  have hfn : fn ≤ 1000000000 := by have := len_szF l; omega
  have HN := Lib.hid hn
  have HS : Hid (blF l ≤ 1000000000) := by have := blF_szF l; show _ ≤ _; omega
  clear hF hn hs
  go_enter Try.func18, Try.ntmps18
  go_wp2_with fail
  go_loopw [3, 4, 12] (fun m _ t wr => ∃ k : Nat, k ≤ fn ∧ t = .int .i64 k ∧ m = .int .i64 ((2 + inn + blF (l.take k) : Nat) : Int) ∧ SzR w fa l wr ∧ Blo wr w.heap.size 25 #[.int .i64 e, .int .i64 c, .int .i64 i, .int .i64 p, .int .i64 x, .slice fa fn fc, .slice ia inn ic]) (fun _ _ t _ => fn - (intOf t).toNat)
  case atStart => exact ⟨0, Nat.zero_le _, rfl, by simp [blF], HR.out, HX.out⟩
  case round =>
    clear HR HX
    obtain ⟨k, hk, rfl, rfl, hR, hX⟩ := hrel
    have HR := Lib.hid hR
    have HX := Lib.hid hX
    have c5 : wr.cell? ⟨w.heap.size, 5, none⟩ = some (.slice fa fn fc) := hX.cell 5
    clear hR hX
    by_cases hlt : k < fn
    · have hkl : k < l.length := by rw [← HN.out]; exact hlt
      obtain ⟨b, o, cc, cp, rfl, q1, q2, q3, -⟩ := HR.out.list.at hkl
      have hsn := take_snocF l fi0 k hkl
      have hle := blF_take l (k + 1)
      have HSn : Hid (blF (l.take (k + 1)) = blF (l.take k) + (l.getD k fi0).lb.length) := by show _ = _; rw [hsn, blF_snoc]
      have hle2 := HS.out
      rw [HSn.out] at hle
      have HR1 := Lib.hid HR.out
      generalize (l.getD k fi0).lb.length = m at *
      generalize (l.getD k fi0).ino = y1 at *
      generalize (l.getD k fi0).ver = y2 at *
      obtain ⟨M, hM⟩ : ∃ M, blF (l.take k) = M := ⟨_, rfl⟩
      rw [hM] at hle HSn
      simp only [hM]
      have j1 : (k : Int) < (fn : Int) := by omega
      have j2 : M + m ≤ 1000000000 := by omega
      clear HR hkl hsn hle hle2 hM
      go_wp2_with fail
      go_roundw
      case rel => exact ⟨k + 1, by omega, by simp, by rw [HSn.out]; congr 1; omega, HR1.out, HX.out⟩
      case measure => simp [intOf]; omega
    · have hkn : l.take k = l := by rw [List.take_of_length_le]; have := HN.out; omega
      have HB := Lib.hid HR.out.below
      simp only [hkn]
      clear HR hkn
      go_wp2
      go_ret
      exact ⟨rfl, HB.out⟩
end
end Go.Proofs.Ytkdjfhbdcfjnnaa
