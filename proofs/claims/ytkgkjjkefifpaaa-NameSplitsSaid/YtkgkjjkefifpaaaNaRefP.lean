/-
  Parent of the document.
-/
import Derived.Test.YtkgkjjkefifpaaaNaRefS
namespace Go.Proofs.Ytkgkjjkefifpaaa
open Go.RowKit

set_option maxRecDepth 100000 in
set_option maxHeartbeats 4000000 in
theorem refParent_any (s : ByteArray) (w : World) : Calls Try.prog 14 #[.string s] w (PaO w s) := by
  have HS := Lib.hid (refSplit_any s w)
  have HLen : Hid ((spL s).length ≤ 255) := by
    show _ ≤ _
    have h1 := nml_len_le s
    unfold spL
    split
    · rename_i h0
      by_cases h2 : 255 < s.size
      · rw [spE_long h2] at h0; exact absurd h0 (by decide)
      · omega
    · simp
  by_cases hz : spE s = 0
  · by_cases hl : spL s = []
    · have HE := Lib.hid (paE_none hz hl)
      have HL := Lib.hid hl
      go_enter Try.func14, Try.ntmps14
      go_wp2_with fail
      refine HS.out.mono ?_
      rintro e w1 ⟨a, n, c, rfl, hn, -, -, -, hb1⟩
      rw [hl] at hn
      obtain rfl : n = 0 := hn
      rw [hz]
      have HB1 := Lib.hid hb1
      clear hz hl hb1 HLen HS
      generalize spD s = d at *
      go_wp2
      exact bodyPost_ret (v := .tuple #[.slice none 0 0, .string ⟨#[]⟩, .int .i64 22]) (by simp [results, Try.results14, go_sem]) rfl (paO_bad HE.out HL.out HB1.out)
    · have HE := Lib.hid (paE_ok hz hl)
      have hlen : (spL s).length ≠ 0 := fun e => hl (List.eq_nil_of_length_eq_zero e)
      have HPl : Hid (paL s = (spL s).take ((spL s).length - 1)) := rfl
      have HPn : Hid (paN s = (spL s).getD ((spL s).length - 1) ⟨#[]⟩) := rfl
      go_enter Try.func14, Try.ntmps14
      go_wp2_with fail
      refine HS.out.mono ?_
      rintro e w1 ⟨a, n, c, rfl, hn, hc, hst, -, hb1⟩
      rw [hz]
      have HB1 := Lib.hid hb1
      obtain ⟨b, o, rfl, hcell⟩ := hst hl
      rw [← hn] at hlen HLen HPl HPn hcell
      have HSt := Lib.hid hst
      have HN := Lib.hid hn
      have x1 := hcell (n - 1) (by omega)
      have z0 : (1 : Int) ≤ (n : Int) := by omega
      have z4 : IntKind.i64.wrap ((n : Int) - 1) = (n : Int) - 1 := IntWalk.i64_in _ (by have := HLen.out; omega)
      have z5 : (0 : Int) ≤ (n : Int) - 1 := by omega
      have z6 : (n : Int) - 1 < (n : Int) := by omega
      have z7 : ((n : Int) - 1).toNat = n - 1 := by omega
      have z8 : ((n : Int) == 0) = false := beq_eq_false_iff_ne.2 (by omega)
      have hcut := cutS_h b o n c (n - 1) ((n : Int) - 1) (by omega) (by omega)
      have HPs : Hid (∀ e w', (∃ q, w' = w1.drewN q) → e = .returned (.tuple #[.slice (some ⟨b, o, none⟩) (n - 1) c, .string ((spL s).getD (n - 1) ⟨#[]⟩), .int .i64 0]) → PaO w s e w') := fun e w' ⟨q, hq⟩ he => by
        subst hq he
        refine ⟨some ⟨b, o, none⟩, n - 1, c, by rw [HPn.out, HE.out], by rw [HPl.out, List.length_take, ← HN.out]; omega, by omega, ?_, (fun e => by cases e), sDrewN HB1.out q⟩
        rw [HPl.out]
        exact (hst.take (n - 1)).below (sDrewN (Below.refl _ _) q)
      clear hz hl hb1 HLen HS hlen hn HN hst hcell hc HE HPl HPn HSt HB1
      generalize spD s = d at *
      generalize (spL s).getD (n - 1) ⟨#[]⟩ = last at *
      go_wp2_with fail
      go_region
      go_wp2
      exact bodyPost_ret (v := .tuple #[.slice (some ⟨b, o, none⟩) (n - 1) c, .string last, .int .i64 0]) (by simp [results, Try.results14, go_sem]) rfl (HPs.out _ _ ⟨_, rfl⟩ rfl)
  · have HE := Lib.hid (paE_sp hz)
    have HL := Lib.hid (spL_nil hz)
    have h4 : (spE s == 0) = false := beq_eq_false_iff_ne.2 hz
    go_enter Try.func14, Try.ntmps14
    go_wp2_with fail
    refine HS.out.mono ?_
    rintro e w1 ⟨a, n, c, rfl, -, -, -, -, hb1⟩
    have HB1 := Lib.hid hb1
    clear hz hb1 HLen HS
    generalize spD s = d at *
    generalize spE s = z at *
    go_wp2
    exact bodyPost_ret (v := .tuple #[.slice none 0 0, .string ⟨#[]⟩, .int .i64 z]) (by simp [results, Try.results14, go_sem]) rfl (paO_bad HE.out HL.out HB1.out)
end Go.Proofs.Ytkgkjjkefifpaaa
