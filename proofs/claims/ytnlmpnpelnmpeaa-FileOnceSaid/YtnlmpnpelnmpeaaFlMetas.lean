/-
  The walks of Metas and Places.
-/
import Derived.Test.YtnlmpnpelnmpeaaFlSet
namespace Go.Proofs.Ytnlmpnpelnmpeaa
open Go.RowKit Go.Maps

/-- The blocks of pointers that are there, in their order. -/
def metAll : List Int := mtsM 0 600 600
def metL (d : Nat → Int) : List Int := metAll.filter fun x => decide (0 < cov d x)
def allB : Bool := decide (metAll.length = 42) && decide (metAll.Nodup) && metAll.all (fun x => decide (-700 < x ∧ x < 0) && isB x && decide (0 < lvOf x)) && (List.range 600).all (fun n => (way n).all fun x => metAll.contains x)
theorem metAll_tried : allB = true := by kernel_rfl
theorem metAll_f : metAll.length = 42 ∧ metAll.Nodup ∧ (∀ x ∈ metAll, -700 < x ∧ x < 0 ∧ isB x = true ∧ 0 < lvOf x) ∧ (∀ n, n < 600 → ∀ x ∈ way n, x ∈ metAll) := by
  have h := metAll_tried
  simp only [allB, Bool.and_eq_true, decide_eq_true_eq, List.all_eq_true] at h
  refine ⟨h.1.1.1, h.1.1.2, fun x hx => ?_, fun n hn x hx => ?_⟩
  · have := h.1.2 x hx; exact ⟨this.1.1.1, this.1.1.2, this.1.2, this.2⟩
  · have := h.2 n (List.mem_range.2 hn) x hx; simpa using this
theorem metL_mem (d : Nat → Int) (x : Int) : x ∈ metL d ↔ 0 < cov d x := by
  unfold metL
  rw [List.mem_filter]
  constructor
  · intro h; simpa using h.2
  · intro h
    obtain ⟨n, h1, _, h3⟩ := (cov_pos d x).1 h
    exact ⟨metAll_f.2.2.2 n h1 x h3, by simpa using h⟩
theorem metL_nodup (d : Nat → Int) : (metL d).Nodup := metAll_f.2.1.filter _
theorem metL_len (d : Nat → Int) : (metL d).length ≤ 42 := by
  have := List.length_filter_le (fun x => decide (0 < cov d x)) metAll
  rw [metAll_f.1] at this
  exact this
theorem take_filter (p : Int → Bool) (l : List Int) (j : Nat) (hj : j < l.length) : (l.take (j + 1)).filter p = (l.take j).filter p ++ if p l[j] then [l[j]] else [] := by
  rw [List.take_succ_eq_append_getElem hj, List.filter_append]
  congr 1
  simp only [List.filter_cons, List.filter_nil]
section
variable {B M b n : Nat} {d : Nat → Int} {ad : Int → Int} {w w' : World}
def MeR (w : World) (B M b n : Nat) (d : Nat → Int) (ad : Int → Int) (f : Int → Option Nat) (v1 : Value) (B2 : Nat) (v t : Value) (wr : World) : Prop :=
  ∃ (j m : Nat), j ≤ 42 ∧ t = .int .i64 j ∧ FC B M b n d f ad (cov d) wr ∧ Below w.heap.size w wr ∧ wr.ownsRow w.heap.size 3 1 v1 42 (cellsI metAll) ∧ wr.ownsRow B2 3 1 v m (cellsI ((metAll.take j).filter fun x => decide (0 < cov d x))) ∧ m = ((metAll.take j).filter fun x => decide (0 < cov d x)).length ∧ m ≤ j ∧ B2 ≤ wr.heap.size
set_option maxRecDepth 20000 in
set_option maxHeartbeats 1000000 in
theorem metas_anyF (h : FX B M b n d ad w) : Calls Try.prog 13 #[.pointer (some ⟨M, 0, none⟩)] w fun e w' => ∃ u m, e = .returned u ∧ m = (metL d).length ∧ w'.ownsRow w.heap.size 3 1 u m (cellsI (metL d)) ∧ Below w.heap.size w w' := by
  obtain ⟨f, h⟩ := h
  have HF := Lib.hid h
  have HM := Lib.hid (metas_good 0 600 w (by decide) (by decide) (by decide))
  have HE : Hid (mtsM 0 600 (600 : Int).toNat = metAll) := rfl
  have HA := Lib.hid metAll_f
  have HPo : Hid (metL d = (metAll.take 42).filter fun x => decide (0 < cov d x)) := by
    show _ = _
    rw [List.take_of_length_le (by rw [metAll_f.1]; exact Nat.le_refl _)]; rfl
  have info_i : (Try.prog.info? 3).map (fun i => (i.zero, i.size, i.bytes)) = some (some (.int .i64 0), 1, 8) := by kernel_rfl
  rw [HE.out] at HM
  rw [HPo.out]
  have hl42 := HA.out.1
  clear h HE HPo
  go_enter Try.func13, Try.ntmps13
  go_wp2_with fail
  refine HM.out.mono ?_
  rintro e w1 ⟨v, rfl, hv, hb1⟩
  unfold OwnL at hv
  rw [hl42] at hv
  obtain ⟨va, vc, rfl, hvc⟩ := own_slice hv
  have HF1 := Lib.hid (HF.out.later hb1)
  have HV := Lib.hid hv
  have HB := Lib.hid hb1
  have HL : Hid (∀ y, (Value.slice va 42 vc).ownBlock = some y → y < w1.heap.size) := fun y e => by
    rcases hv.2 with ⟨e2, _⟩ | ⟨g, cap, cur, e2, _, h3, _⟩
    · rw [e2] at e; cases e
    · rw [e2] at e; cases e; exact Blo.lt h3
  have hz1 := hb1.size
  clear hv hb1 HF HM hl42
  obtain ⟨g1, rfl, -, -, -, -⟩ := own_some HV.out (by decide)
  go_wp2_with fail
  go_loopw [5, 16] (fun v t wr => MeR w B M b n d ad f (.slice (some ⟨g1, 0, none⟩) 42 vc) w1.heap.size v t wr) (fun _ t _ => 42 - (intOf t).toNat)
  case atStart => exact ⟨0, 0, by omega, rfl, HF1.out, HB.out, HV.out, ⟨rfl, .inl ⟨rfl, rfl⟩⟩, rfl, by omega, Nat.le_refl _⟩
  case round =>
    clear HF1 HB HV
    obtain ⟨j, m, hj, rfl, hf, hb, hv, ho, hm, hmj, hz⟩ := hrel
    obtain ⟨la, lc, rfl, -⟩ := own_slice ho
    by_cases hlt : j < 42
    · have hjl : j < metAll.length := by rw [HA.out.1]; exact hlt
      have cJ : wr.cell? ⟨g1, j, none⟩ = some (.int .i64 metAll[j]) := by
        rw [hv.cellAt j (by omega), cellsI_get metAll j hjl]; simp [List.getD_eq_getElem?_getD, hjl]
      have hbx := HA.out.2.2.1 metAll[j] (List.getElem_mem hjl)
      have HTk := Lib.hid (take_filter (fun x => decide (0 < cov d x)) metAll j hjl)
      have HWf := Lib.hid (wfI metAll[j] (by omega) (by omega))
      have HF := Lib.hid hf
      have HB := Lib.hid hb
      have HV := Lib.hid hv
      have HO := Lib.hid ho
      have HMm := Lib.hid hm
      have c600 := hf.bd
      have HP := Lib.hid hf.mp
      have his := hf.is metAll[j]
      clear hf hb hv ho hm hbx
      generalize metAll[j] = x at *
      clear hjl
      cases hc : decide (0 < cov d x) with
      | true =>
        rw [hc] at his HTk
        obtain ⟨g, hg⟩ := Option.isSome_iff_exists.1 his
        rw [if_pos rfl] at HTk
        go_wp2_with (first
          | (at_lookup; refine wp_look_ok_some _ rfl _ _ PT rfl _ undM (zeroM _) b _ _ rfl HP.out x rfl HWf.out g hg ?_)
          | (at_builtin; refine wp_append_int rfl (.tmp 30) (.tmp 32) 22 rfl w1.heap.size 3 Try.underlying22 info_i (.slice la m lc) m _ rfl (own_later HO.out (sup_below wr _)) _ x rfl (by simp) (by omega) (by simp <;> omega) ?_; intro g2 cap2 w6 hown hgrow hat hlt1; have HO6 := Lib.hid hown; have HG6 := Lib.hid hgrow; clear hown hgrow hat hlt1))
        rw [← HTk.out] at HO6
        have hsu := sup_below wr (.cells #[.int .i64 x] 3)
        have hmm : m + 1 = ((metAll.take (j + 1)).filter fun x => decide (0 < cov d x)).length := by rw [HTk.out, List.length_append, ← HMm.out]; rfl
        have HF6 := Lib.hid ((HF.out.later hsu).row (own_later HO.out hsu) (by decide) (by decide) HG6.out)
        have HB6 := Lib.hid ((HB.out.trans (hsu.mono HB.out.size)).grown HG6.out (by have := hsu.size; omega) (fun k e => by have := (own_later HO.out hsu).lt k e; omega))
        have HV6 := Lib.hid (own_grown_ne (own_later HV.out hsu) (own_later HO.out hsu) HL.out HG6.out)
        have hz6 := HG6.out.size
        have hz5 := hsu.size
        go_roundw
        case rel => exact ⟨j + 1, m + 1, by omega, by simp, HF6.out, HB6.out, HV6.out, HO6.out, hmm, by omega, by omega⟩
        case measure => simp [intOf]; omega
      | false =>
        rw [hc] at his HTk
        have hg : f x = none := by
          cases hq : f x with
          | none => rfl
          | some g => rw [hq] at his; cases his
        rw [if_neg (by simp), List.append_nil] at HTk
        rw [← HTk.out] at HO HMm
        go_wp2_with (at_lookup; refine wp_look_ok_none _ rfl _ _ PT rfl _ undM (zeroM _) b _ _ rfl HP.out x rfl HWf.out hg ?_)
        go_roundw
        case rel => exact ⟨j + 1, m, by omega, by simp, HF.out, HB.out, HV.out, HO.out, HMm.out, by omega, hz⟩
        case measure => simp [intOf]; omega
    · obtain rfl : 42 = j := by omega
      have HO := Lib.hid (own_weak ho hz1)
      have HMm := Lib.hid hm
      have HB := Lib.hid hb
      clear ho hm hb hf hv hmj
      go_wp2_with fail
      go_ret
      exact ⟨_, m, rfl, HMm.out, HO.out, HB.out⟩
end
end Go.Proofs.Ytnlmpnpelnmpeaa
