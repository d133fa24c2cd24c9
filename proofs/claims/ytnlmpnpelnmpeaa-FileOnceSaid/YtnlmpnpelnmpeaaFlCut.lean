/-
  The walk of Cut.
-/
import Derived.Test.YtnlmpnpelnmpeaaFlSet
namespace Go.Proofs.Ytnlmpnpelnmpeaa
open Go.RowKit Go.Maps
/-- Behind the data ahead of i are cut. -/
def dC (d : Nat → Int) (fr i : Nat) : Nat → Int := fun j => if fr ≤ j ∧ j < i then 0 else d j
def aC (d : Nat → Int) (ad : Int → Int) (fr i : Nat) : Int → Int := fun x => if cov (dC d fr i) x = 0 then 0 else ad x
def clL (d : Nat → Int) (ad : Int → Int) (fr : Nat) : Nat → List Int
  | 0 => []
  | i + 1 => clL d ad fr i ++ if fr ≤ i then sdL (dC d fr i) (aC d ad fr i) i 0 else []
theorem dC_start (d : Nat → Int) (fr : Nat) : dC d fr fr = d := by funext j; unfold dC; rw [if_neg (by omega)]
theorem dC_succ (d : Nat → Int) (fr i : Nat) (h : fr ≤ i) : updN (dC d fr i) i 0 = dC d fr (i + 1) := by
  funext j
  unfold updN dC
  by_cases e : j = i
  · subst e; rw [if_pos rfl, if_pos (by omega)]
  · rw [if_neg e]
    by_cases h2 : fr ≤ j ∧ j < i
    · rw [if_pos h2, if_pos (by omega)]
    · rw [if_neg h2, if_neg (by omega)]
theorem cov_mono (d d' : Nat → Int) (h : ∀ n, d' n ≠ 0 → d n ≠ 0) (x : Int) (h0 : cov d x = 0) : cov d' x = 0 := by
  apply Classical.byContradiction
  intro hne
  have h1 := (cov_bd d' x).1
  obtain ⟨n, h2, h3, h4⟩ := (cov_pos d' x).1 (by omega)
  have := (cov_pos d x).2 ⟨n, h2, h n h3, h4⟩
  omega
theorem aC_start (d : Nat → Int) (ad : Int → Int) (fr : Nat) (h : ∀ x, cov d x = 0 → ad x = 0) : aC d ad fr fr = ad := by
  funext x
  unfold aC
  rw [dC_start]
  split
  · rename_i e; exact (h x e).symm
  · rfl
theorem aC_succ (d : Nat → Int) (ad : Int → Int) (fr i : Nat) (h : fr ≤ i) : sdA (dC d fr i) (aC d ad fr i) i 0 = aC d ad fr (i + 1) := by
  funext x
  unfold sdA
  rw [dC_succ d fr i h]
  show (if cov (dC d fr (i + 1)) x = 0 then 0 else aC d ad fr i x) = (if cov (dC d fr (i + 1)) x = 0 then 0 else ad x)
  split
  · rfl
  · rename_i hne
    unfold aC
    rw [if_neg]
    intro e
    exact hne (cov_mono (dC d fr i) (dC d fr (i + 1)) (fun n hn => by
      unfold dC at hn ⊢
      split at hn
      · exact absurd rfl hn
      · rename_i h2
        rw [if_neg (by omega)]; exact hn) x e)
theorem clL_low (d : Nat → Int) (ad : Int → Int) (fr : Nat) : ∀ i, i ≤ fr → clL d ad fr i = []
  | 0, _ => rfl
  | i + 1, h => by rw [clL, clL_low d ad fr i (by omega), if_neg (by omega)]; rfl
theorem clL_succ (d : Nat → Int) (ad : Int → Int) (fr i : Nat) (h : fr ≤ i) : clL d ad fr (i + 1) = clL d ad fr i ++ sdL (dC d fr i) (aC d ad fr i) i 0 := by rw [clL, if_pos h]
theorem clL_len (d : Nat → Int) (ad : Int → Int) (fr : Nat) : ∀ i, i ≤ 600 → (clL d ad fr i).length ≤ 4 * i
  | 0, _ => Nat.le_refl _
  | i + 1, h => by
    have := clL_len d ad fr i (by omega)
    rw [clL, List.length_append]
    split
    · have := sdL_len (dC d fr i) (aC d ad fr i) i (by omega) 0; omega
    · simp only [List.length_nil]; omega
section
variable {B M b n : Nat} {d : Nat → Int} {ad : Int → Int} {w w' : World}
theorem FX.az (h : FX B M b n d ad w) : ∀ x, cov d x = 0 → ad x = 0 := by obtain ⟨f, h⟩ := h; exact h.az
def CuR (w : World) (B M b n : Nat) (d : Nat → Int) (ad : Int → Int) (fr : Nat) (v t : Value) (wr : World) : Prop :=
  ∃ (i m : Nat), fr ≤ i ∧ i ≤ 600 ∧ t = .int .i64 i ∧ FX B M b (n + 3 * (i - fr)) (dC d fr i) (aC d ad fr i) wr ∧ FS B b w wr ∧ wr.ownsRow w.heap.size 3 1 v m (cellsI (clL d ad fr i)) ∧ m = (clL d ad fr i).length
set_option maxRecDepth 20000 in
set_option maxHeartbeats 1000000 in
theorem cut_any (fr : Nat) (hfr : fr ≤ 600) (h : FX B M b n d ad w) (hn : n < 800000) :
    Calls Try.prog 23 #[.pointer (some ⟨M, 0, none⟩), .int .i64 fr] w fun e w' => ∃ u m, e = .returned (.tuple #[u, .int .i64 0]) ∧ m = (srt (clL d ad fr 600)).length ∧ w'.ownsRow w.heap.size 3 1 u m (cellsI (srt (clL d ad fr 600))) ∧
      FX B M b (n + 1800) (dC d fr 600) (aC d ad fr 600) w' ∧ FS B b w w' := by
  have HF := Lib.hid h
  have hBw := h.hle
  have HS0 := Lib.hid (FS.refl (b := b) hBw)
  have hAz := h.az
  have h6 : ¬ (600 : Int) < (fr : Int) := by omega
  have hR0 : CuR w B M b n d ad fr (.slice none 0 0) (.int .i64 fr) w := ⟨fr, 0, Nat.le_refl _, hfr, rfl, by rw [dC_start, aC_start _ _ _ hAz, Nat.sub_self]; exact h, HS0.out, by rw [clL_low _ _ _ _ (Nat.le_refl _)]; exact ⟨rfl, .inl ⟨rfl, rfl⟩⟩, by rw [clL_low _ _ _ _ (Nat.le_refl _)]; rfl⟩
  have HR0 := Lib.hid hR0
  clear h hAz HF HS0 hR0
  have info_i : (Try.prog.info? 3).map (fun i => (i.zero, i.size, i.bytes)) = some (some (.int .i64 0), 1, 8) := by kernel_rfl
  go_enter Try.func23, Try.ntmps23
  go_wp2_with fail
  go_loopw [6, 7] (fun v t wr => CuR w B M b n d ad fr v t wr) (fun _ t _ => 600 - (intOf t).toNat)
  case atStart => exact HR0.out
  case round =>
    clear HR0
    obtain ⟨i, m, hi1, hi2, rfl, hf, hs, hr, hm⟩ := hrel
    have hlen := clL_len d ad fr i hi2
    have hz := hs.sz
    obtain ⟨va, vc, rfl, hvc⟩ := own_slice hr
    by_cases hlt : i < 600
    · have HS := Lib.hid hs
      have HR := Lib.hid hr
      have HM := Lib.hid hm
      have HF := Lib.hid hf
      have hl6 : (i : Int) < 600 := by omega
      have hsl := sdL_len (dC d fr i) (aC d ad fr i) i hlt 0
      rw [← hm] at hlen
      clear hf hs hr hm
      go_wp2_with fail
      refine (setData_any i hlt 0 (by decide) (by decide) HF.out (by omega)).mono ?_
      rintro e w1 ⟨u, k, rfl, hk, hru, hfu, hsu⟩
      rw [dC_succ d fr i hi1, aC_succ d ad fr i hi1] at hfu
      obtain ⟨ua, uc, rfl, huc⟩ := own_slice hru
      have HI := Lib.hid (Ints.own hru)
      have HN : Hid (ua = none → k = 0 ∧ uc = 0) := fun e => by
        rcases hru.2 with ⟨e2, e3⟩ | ⟨g, cap, cur, e2, _⟩
        · cases e2; exact ⟨rfl, rfl⟩
        · rw [e] at e2; cases e2
      have HR1 := Lib.hid (hsu.own HR.out (by decide) (by decide))
      have HF1 := Lib.hid hfu
      have HS1 := Lib.hid (HS.out.trans hsu)
      have HCl := Lib.hid (clL_succ d ad fr i hi1)
      have hz1 := hsu.sz
      rw [← hk] at hsl
      have HK := Lib.hid hk
      clear hru hfu hsu HF HR HS hk
      generalize sdL (dC d fr i) (aC d ad fr i) i 0 = lu at *
      have HLen : Hid ((cellsI lu).length = k * 1) := by show _ = _; rw [cellsI_length, HK.out]; omega
      go_wp2_with (at_builtin; refine wp_append_rowO rfl (.tmp 19) (.tmp 22) 22 rfl w.heap.size 3 _ 1 8 Try.underlying22 info_i (by kernel_rfl) (by decide) (by decide) (.slice va m vc) m (cellsI (clL d ad fr i)) rfl HR1.out ua k uc (cellsI lu) rfl HLen.out (ints_src HI.out) (ints_one lu) HN.out (by omega) (by omega) ?_; intro a5 c5 w5 hown5 hg5 _; have HR5 := Lib.hid hown5; have HG5 := Lib.hid hg5; clear hown5 hg5)
      rw [cellsI_append, ← HCl.out] at HR5
      have HF5 := Lib.hid (HF1.out.row HR1.out (by decide) (by decide) HG5.out)
      have HS5 := Lib.hid (HS1.out.row HR1.out (Nat.le_refl _) hBw HG5.out)
      have hmk : m + k = (clL d ad fr (i + 1)).length := by rw [HCl.out, List.length_append, HM.out, HK.out]
      go_roundw
      case rel => exact ⟨i + 1, m + k, by omega, by omega, by simp, by rw [show 3 * (i + 1 - fr) = 3 * (i - fr) + 3 by omega]; exact HF5.out, HS5.out, HR5.out, hmk⟩
      case measure => simp [intOf]; omega
    · obtain rfl : 600 = i := by omega
      have HS := Lib.hid hs
      have HR := Lib.hid hr
      have HM := Lib.hid hm
      have HF := Lib.hid hf
      rw [← hm] at hlen
      clear hf hs hr hm
      go_wp2_with fail
      refine (sort_own w.heap.size m _ (clL d ad fr 600) HR.out HM.out (by omega)).mono ?_
      rintro e w1 ⟨rfl, hr1, hg1⟩
      have HF1 := Lib.hid (HF.out.row HR.out (by decide) (by decide) hg1)
      have HS1 := Lib.hid (HS.out.row HR.out (Nat.le_refl _) hBw hg1)
      have HR1 := Lib.hid hr1
      clear hr1 hg1 HF HS HR
      go_wp2_with fail
      go_ret2
      exact ⟨_, m, rfl, by rw [srt_len]; exact HM.out, HR1.out, HF1.out.mono (by omega), HS1.out⟩
end
end Go.Proofs.Ytnlmpnpelnmpeaa
