/-
  summary.Encode of what is no summary; what summary.parse answers, in numbers.
-/
import Derived.Test.YtkdjfhbdcfjnnaaSwEnc
import Derived.Test.YtkdjfhbdcfjnnaaSwPar
import Derived.Test.YtkdjfhbdcfjnnaaEqB
namespace Go.Proofs.Ytkdjfhbdcfjnnaa
open Go.RowKit

set_option maxHeartbeats 4000000 in
theorem encode_bad {w : World} (m : Sm) (s : Nat) (fa : Option Addr) (fn fc : Nat) (ia : Option Addr) (inn ic : Nat) (hchk : chkM m ≠ 0) (hF : Fis w fa m.fs) (hn : fn = m.fs.length) (hI : Ints w ia m.is) (hin : inn = m.is.length) (hsz : szF m.fs ≤ 1000000000) (hi9 : inn ≤ 1000000000) (hlb : ∀ x ∈ m.fs, ∀ n ∈ x.lb, -9223372036854775808 ≤ n) :
    Calls Try.prog 12 #[part m.e m.c m.i m.p m.x fa fn fc ia inn ic, .int .u32 s] w fun e w' => e = .returned (.tuple #[.slice none 0 0, .int .i64 (chkM m)]) ∧ Below w.heap.size w w' := by
  have HC := Lib.hid (fun W (hW : Below w.heap.size w W) => check_any (w := W) m.e m.c m.i m.p m.x m.fs m.is fa fn fc ia inn ic (hF.later hW) hn hsz (hI.below hW) hin hi9 hlb)
  have HCM : Hid (chkC m.e m.c m.i m.p m.x m.fs m.is = chkM m) := rfl
  clear hF hI hn hin hsz hlb
  generalize chkM m = z at *
  go_enter Try.func12, Try.ntmps12
  go_wp2_with fail
  refine (HC.out _ (sup_pc _ _)).mono ?_
  rintro e w1 ⟨rfl, hb1⟩
  have HB1 := Lib.hid ((sup_pc w (.cells #[.int .i64 m.e, .int .i64 m.c, .int .i64 m.i, .int .i64 m.p, .int .i64 m.x, .slice fa fn fc, .slice ia inn ic] 25)).trans (hb1.mono (sup_pc _ _).size))
  rw [HCM.out]
  clear hb1 HC
  go_wp2
  refine bodyPost_ret (results_tmp2 rfl _ _ _) rfl ?_
  exact ⟨rfl, HB1.out⟩
theorem szF_files (L : List Nat) (hL : ∀ i, at' L i < 256) (n : Nat) : szF (filesM L n) ≤ n * 514 := by
  induction n with
  | zero => exact Nat.le_refl _
  | succ n ih =>
    have e : filesM L (n + 1) = filesM L n ++ [fiAt L (pos L n)] := by simp [filesM, List.range_succ]
    rw [e, szF_snoc]
    have : (fiAt L (pos L n)).lb.length = at' L (pos L n + 3) := lbAt_len _ _ _
    have := hL (pos L n + 3)
    omega
theorem lb_files (L : List Nat) (n : Nat) : ∀ x ∈ filesM L n, ∀ k ∈ x.lb, -9223372036854775808 ≤ k := fun x hx k hk => by
  obtain ⟨j, _, rfl⟩ := List.mem_map.1 hx
  obtain ⟨i, _, rfl⟩ := List.mem_map.1 (show k ∈ lbAt L (pos L j + 4) (at' L (pos L j + 3)) from hk)
  omega
theorem gat_lt {l : List Nat} (h : ∀ x ∈ l, x < 256) (n : Nat) : ∀ x ∈ gat l n, x < 256 := fun x hx => by
  obtain ⟨k, _, h1⟩ := List.mem_flatMap.1 hx
  exact h x (List.mem_of_mem_drop (List.mem_of_mem_take h1))
theorem gat_len {l : List Nat} (hl : l.length = 128) : (gat l 8).length = 88 := by
  have := gatL_len hl (List.finRange 8)
  have e : ((List.finRange 8).map fun (y : Fin 8) => y.val) = List.range 8 := by decide
  rw [e, gatL_range] at this
  exact this
end Go.Proofs.Ytkdjfhbdcfjnnaa
