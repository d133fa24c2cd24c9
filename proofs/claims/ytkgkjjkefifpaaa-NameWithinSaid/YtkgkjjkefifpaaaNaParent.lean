/-
  Parent of the program.
-/
import Derived.Test.YtkgkjjkefifpaaaNaSplit
namespace Go.Proofs.Ytkgkjjkefifpaaa
open Go.RowKit

theorem size_strx (w : World) : (Go.sizeOf 9).run Try.prog w = .ok 1 w := by kernel_rfl
theorem und_sls : Try.prog.underlying SLS = some (.slice (Try.prog.elem SLS)) := by simp [Program.elem, Try.underlying23]
theorem elem_sls : Try.prog.elem SLS = STR := by simp [Program.elem, Try.underlying23]
theorem addr_zero (b o : Nat) : (⟨b, o, none⟩ : Addr).add 0 = ⟨b, o, none⟩ := rfl
/-- 'x[:hi:hi]'. -/
theorem cutS_hm (b o n cap hi : Nat) (v : Int) (hv : v = (hi : Int)) (hhi : hi ≤ cap) (W : World) :
    (Instr.slice SLS (.slice (some ⟨b, o, none⟩) n cap) none (some (.int .i64 v)) (some (.int .i64 v))).run Try.prog W = .ok (.slice (some ⟨b, o, none⟩) hi hi) W := by
  subst hv
  rw [run_slice_hm W SLS _ _ _ und_sls .i64 .i64 _ _ (by omega) (by omega) (by omega), elem_sls, size_strx]
  simp [Result.andThen, sliced, addr_zero]
/-- 'x[:hi]'. -/
theorem cutS_h (b o n cap hi : Nat) (v : Int) (hv : v = (hi : Int)) (hhi : hi ≤ cap) (W : World) :
    (Instr.slice SLS (.slice (some ⟨b, o, none⟩) n cap) none (some (.int .i64 v)) none).run Try.prog W = .ok (.slice (some ⟨b, o, none⟩) hi cap) W := by
  subst hv
  rw [run_slice_h W SLS _ _ _ und_sls .i64 _ (by omega) (by omega), elem_sls, size_strx]
  simp [Result.andThen, sliced, addr_zero]
/-- What Parent answers. -/
def paE (s : ByteArray) : Int := if spE s = 0 then (if nml s = [] then 22 else 0) else spE s
def paL (s : ByteArray) : List ByteArray := (spL s).take ((spL s).length - 1)
def paN (s : ByteArray) : ByteArray := (spL s).getD ((spL s).length - 1) ⟨#[]⟩
def PaO (w : World) (s : ByteArray) (e : Ending) (w' : World) : Prop := ∃ a n c, e = .returned (.tuple #[.slice a n c, .string (paN s), .int .i64 (paE s)]) ∧ n = (paL s).length ∧ n ≤ c ∧ Strs w' a (paL s) ∧ (a = none → n = 0 ∧ c = 0) ∧ Below w.heap.size w w'
theorem spL_nil {s : ByteArray} (h : spE s ≠ 0) : spL s = [] := by unfold spL; rw [if_neg h]
theorem paO_bad {w w' : World} {s : ByteArray} {z : Int} (h : paE s = z) (hl : spL s = []) (hb : Below w.heap.size w w') : PaO w s (.returned (.tuple #[.slice none 0 0, .string ⟨#[]⟩, .int .i64 z])) w' := by
  have h1 : paL s = [] := by unfold paL; rw [hl]; rfl
  have h2 : paN s = ⟨#[]⟩ := by unfold paN; rw [hl]; rfl
  exact ⟨none, 0, 0, by rw [h2, h], by rw [h1]; rfl, Nat.le_refl _, by rw [h1]; exact Strs.nil _ _, fun _ => ⟨rfl, rfl⟩, hb⟩
theorem paE_sp {s : ByteArray} (h : spE s ≠ 0) : paE s = spE s := by unfold paE; rw [if_neg h]
theorem paE_none {s : ByteArray} (h : spE s = 0) (h1 : spL s = []) : paE s = 22 := by
  unfold spL at h1; rw [if_pos h] at h1
  unfold paE; rw [if_pos h, if_pos h1]
theorem paE_ok {s : ByteArray} (h : spE s = 0) (h1 : spL s ≠ []) : paE s = 0 := by
  unfold spL at h1; rw [if_pos h] at h1
  unfold paE; rw [if_pos h, if_neg h1]
set_option maxRecDepth 100000 in
set_option maxHeartbeats 4000000 in
theorem parent_any (s : ByteArray) (w : World) : Calls Try.prog 13 #[.string s] w (PaO w s) := by
  have HS := Lib.hid (split_any s w)
  have HLen : Hid ((spL s).length < 1000000000) := by
    show _ < _
    have h1 := nml_len_le s
    unfold spL
    split
    · rename_i h0
      by_cases h2 : 255 < s.size
      · rw [spE_long h2] at h0; exact absurd h0 (by decide)
      · omega
    · simp
  by_cases hz : spE s = 0
  · by_cases hl : spL s = []
    · have HE := Lib.hid (paE_none hz hl)
      have HL := Lib.hid hl
      go_enter Try.func13, Try.ntmps13
      go_wp2_with fail
      refine HS.out.mono ?_
      rintro e w1 ⟨a, n, c, rfl, hn, -, -, -, hb1⟩
      rw [hl] at hn
      obtain rfl : n = 0 := hn
      rw [hz]
      have HB1 := Lib.hid hb1
      clear hz hl hb1 HLen HS
      generalize spD s = d at *
      go_wp2
      exact bodyPost_ret (v := .tuple #[.slice none 0 0, .string ⟨#[]⟩, .int .i64 22]) (by simp [results, Try.results13, go_sem]) rfl (paO_bad HE.out HL.out HB1.out)
    · have HE := Lib.hid (paE_ok hz hl)
      have hlen : (spL s).length ≠ 0 := fun e => hl (List.eq_nil_of_length_eq_zero e)
      have HPl : Hid (paL s = (spL s).take ((spL s).length - 1)) := rfl
      have HPn : Hid (paN s = (spL s).getD ((spL s).length - 1) ⟨#[]⟩) := rfl
      go_enter Try.func13, Try.ntmps13
      go_wp2_with fail
      refine HS.out.mono ?_
      rintro e w1 ⟨a, n, c, rfl, hn, hc, hst, -, hb1⟩
      rw [hz]
      have HB1 := Lib.hid hb1
      obtain ⟨b, o, rfl, hcell⟩ := hst hl
      rw [← hn] at hlen HLen HPl HPn hcell
      have HSt := Lib.hid hst
      have HN := Lib.hid hn
      have x1 := hcell (n - 1) (by omega)
      have z0 : (1 : Int) ≤ (n : Int) := by omega
      have z2 : (n : Int) < 1000000000 := by have := HLen.out; omega
      have z4 : IntKind.i64.wrap ((n : Int) - 1) = (n : Int) - 1 := IntWalk.i64_in _ (by omega)
      have z5 : (0 : Int) ≤ (n : Int) - 1 := by omega
      have z6 : (n : Int) - 1 < (n : Int) := by omega
      have z7 : ((n : Int) - 1).toNat = n - 1 := by omega
      have hcut := cutS_hm b o n c (n - 1) ((n : Int) - 1) (by omega) (by omega)
      have HPs : Hid (∀ e w', (∃ q, w' = w1.drewN q) → e = .returned (.tuple #[.slice (some ⟨b, o, none⟩) (n - 1) (n - 1), .string ((spL s).getD (n - 1) ⟨#[]⟩), .int .i64 0]) → PaO w s e w') := fun e w' ⟨q, hq⟩ he => by
        subst hq he
        refine ⟨some ⟨b, o, none⟩, n - 1, n - 1, by rw [HPn.out, HE.out], by rw [HPl.out, List.length_take, ← HN.out]; omega, Nat.le_refl _, ?_, (fun e => by cases e), sDrewN HB1.out q⟩
        rw [HPl.out]
        exact (hst.take (n - 1)).below (sDrewN (Below.refl _ _) q)
      clear hz hl hb1 HLen HS hlen hn HN hst hcell hc HE HPl HPn HSt HB1
      generalize spD s = d at *
      generalize (spL s).getD (n - 1) ⟨#[]⟩ = last at *
      clear z2
      go_wp2_with fail
      go_region
      go_wp2
      exact bodyPost_ret (v := .tuple #[.slice (some ⟨b, o, none⟩) (n - 1) (n - 1), .string last, .int .i64 0]) (by simp [results, Try.results13, go_sem]) rfl (HPs.out _ _ ⟨_, rfl⟩ rfl)
  · have HE := Lib.hid (paE_sp hz)
    have HL := Lib.hid (spL_nil hz)
    have h4 : (spE s == 0) = false := beq_eq_false_iff_ne.2 hz
    go_enter Try.func13, Try.ntmps13
    go_wp2_with fail
    refine HS.out.mono ?_
    rintro e w1 ⟨a, n, c, rfl, -, -, -, -, hb1⟩
    have HB1 := Lib.hid hb1
    clear hz hb1 HLen HS
    generalize spD s = d at *
    have HE2 : Hid (paE s = spE s) := HE
    generalize spE s = z at *
    go_wp2
    exact bodyPost_ret (v := .tuple #[.slice none 0 0, .string ⟨#[]⟩, .int .i64 z]) (by simp [results, Try.results13, go_sem]) rfl (paO_bad HE.out HL.out HB1.out)
end Go.Proofs.Ytkgkjjkefifpaaa
