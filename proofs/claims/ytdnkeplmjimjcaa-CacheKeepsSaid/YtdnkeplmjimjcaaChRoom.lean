/-
  makeRoom.
-/
import Derived.Test.YtdnkeplmjimjcaaChGet
namespace Go.Proofs.Ytdnkeplmjimjcaa
open Go.RowKit

/-- The blocks behind makeRoom, and whether there is room. -/
def roomK (room : Int) (L : List Bk) : List Bk × Bool :=
  if (L.length : Int) < room then (L, true)
  else match L.find? goK with
    | none => (L, false)
    | some s => (woK L s.key, true)
section
variable {w w' : World} {bc bm base b : Nat} {room uses : Int} {N T T' : Nat} {x : Sx} {a : Int} {s : Bf} {v : Value} {p : Int × Int} {L L' : List Bk}
theorem CS.popped (hC : CS w bc bm base room N T x) {gr cap n : Nat} (hv : x.v = .slice (some ⟨gr, 0, none⟩) x.m cap) (hmn : n + 1 = x.m) {e : Ending} (hR : RmO w bc bm base gr cap room x.uses x.m n 0 x.h x.S e w') :
    ∃ v' h', LS w' bc bm base room N T { x with v := v', m := n, h := h' } (x.h 0) (-1) ∧ (∀ i, i < n → h' i ≠ x.h 0) ∧ Hq n (us x.S h') ∧ Out (XC w bc bm base) w w' := by
  obtain ⟨-, h', hH, hq, hr, hB, ho⟩ := hR
  have hm0 : 0 < x.m := by omega
  have hw0 := hC.who 0 hm0
  have hnb : ∀ i, i < n → h' i ≠ x.h 0 := fun i hi e => by
    obtain ⟨j, hj, hj0, e2⟩ := hr.1 i hi
    exact hj0 (hC.gs.inj hj hm0 (e2.symm.trans e))
  have hx : ∀ g, XB bc (.slice (some ⟨gr, 0, none⟩) x.m cap) x.m x.h g → XC w bc bm base g := fun g hg => by
    rcases hg with e | e
    · rw [e]; exact ⟨hC.low.1, .inl rfl⟩
    · exact hC.gs.xc hC.hl (by rw [hv]; exact e)
  have hmle := hC.mle
  have hrm := hC.ps.rm
  refine ⟨_, h', ⟨hH.cb, hC.km.out ho ?_, hH.gs, hB, .inr ⟨rfl, hnb, hq⟩, fun c hc hne hg => ?_, fun c hc hne hg => ?_, fun i hi _ => ?_, hC.ps, (show n ≤ 4096 by omega), hC.low, hC.ps.wf _ hw0.1, .inl ⟨hw0.1, (hC.ps.key _ _).2 ⟨hw0.1, rfl⟩⟩, hC.low.2.2 _ hw0.1⟩, hnb, hq, ho.mono fun g _ h => hx g h⟩
  · rintro (e | e)
    · exact hC.km.blo hC.cb e
    · exact hC.km.xg hC.gs (by rw [hv]; exact e)
  · have hB' := hC.off c hc hg
    refine hB'.out ho ?_
    rintro (e | e | ⟨i, hi, e⟩)
    · exact hB'.apart hC.cb (by decide) e
    · obtain ⟨cs, h1, -⟩ := hB'
      exact blo_own hC.gs.row h1 (by decide) (by rw [hv]; exact e)
    · have := (hC.who i hi).2
      have hg : goesB (x.S c) = false := hg
      rw [e, hg] at this
      cases this
  · obtain ⟨j, hj, e⟩ := hC.on c hc hg
    obtain ⟨k, hk, e2⟩ := hr.2 j hj (fun q => hne (by rw [← e, q]))
    exact ⟨k, hk, (show h' k = c by rw [e2, e])⟩
  · obtain ⟨j, hj, -, e⟩ := hr.1 i hi
    show h' i ∈ x.bs ∧ goesB (x.S (h' i)) = true
    rw [e]
    exact hC.who j hj
theorem LS.gone (hL : LS w bc bm base room N T x b a) (hb : b ∈ x.bs) (hfr : ∀ i, i < x.m → x.h i ≠ b) (hq : Hq x.m (us x.S x.h)) (hK : KM w' bm x.n (updP x.f (keyB (x.S b)) none) (x.ks.erase (keyB (x.S b)))) (hks : keyB (x.S b) ∈ x.ks) (hg : w.grownBy w' (some bm)) :
    CS w' bc bm base room N T { x with bs := x.bs.erase b, ks := x.ks.erase (keyB (x.S b)), f := updP x.f (keyB (x.S b)) none } := by
  have ho : Out (fun g => g = bm) w w' := Out.of_grown hg (fun g e => by cases e; rfl)
  have hnx : ∀ g, XG x.v x.m x.h g → ¬ g = bm := fun g hx e => by rw [e] at hx; exact hL.km.xg hL.gs hx
  have hN := hL.ps.nodup
  refine ⟨Out.blo ho hL.cb (fun e => hL.km.blo hL.cb e.symm), hK, hL.gs.out ho hnx, hq, fun c hc h3 => ?_, fun c hc h3 => ?_, fun i hi => ?_, hL.ps.drop hb hks, ⟨hL.low.1, hL.low.2.1, fun c hc => hL.low.2.2 c (hN.mem_erase_iff.1 hc).2⟩⟩
  · have hc' := hN.mem_erase_iff.1 hc
    have := hL.off c hc'.2 hc'.1 h3
    exact this.out ho (fun e => hL.km.buf this e.symm)
  · have hc' := hN.mem_erase_iff.1 hc
    exact hL.on c hc'.2 hc'.1 h3
  · obtain ⟨q1, q2⟩ := hL.who i hi (hfr i hi)
    exact ⟨hN.mem_erase_iff.2 ⟨hfr i hi, q1⟩, q2⟩
theorem CS.v0 (hC : CS w bc bm base room N T x) (hv : x.v = .slice none 0 0 ∨ ∃ gr cap, x.v = .slice (some ⟨gr, 0, none⟩) x.m cap) : ∃ ao cap, x.v = .slice ao x.m cap := by
  rcases hC.gs.row.2 with ⟨q, q2⟩ | ⟨g, cap, cur, q, _⟩
  · exact ⟨none, 0, by rw [q, q2]⟩
  · exact ⟨_, cap, q⟩
def RoO (w : World) (bc bm base : Nat) (room : Int) (N T : Nat) (x : Sx) (e : Ending) (w' : World) : Prop :=
  e = .returned (.bool (roomK room (lstK x.S x.bs)).2) ∧ (∃ x', CS w' bc bm base room N T x' ∧ (roomK room (lstK x.S x.bs)).1 = lstK x'.S x'.bs ∧ x'.n = x.n ∧ x'.uses = x.uses ∧ (∀ p, x.f p = none → x'.f p = none) ∧ ((roomK room (lstK x.S x.bs)).2 = true → (x'.bs.length : Int) < room)) ∧ Out (XC w bc bm base) w w'
set_option maxRecDepth 100000 in
set_option maxHeartbeats 4000000 in
theorem room_any (hC : CS w bc bm base room N T x) : Calls Try.prog 38 #[.pointer (some ⟨bc, 0, none⟩)] w (RoO w bc bm base room N T x) := by
  have hlen := hC.km.len 3
  rw [hC.ps.len] at hlen
  have hlr : (lstK x.S x.bs).length = x.bs.length := by simp [lstK]
  have hrm := hC.ps.rm
  obtain ⟨d0, d1, d2, -⟩ := hC.cb.cell
  have c0 : ∀ y : Kept w, y.at_.cell? ⟨bc, 0, none⟩ = some (.int .i64 room) := fun y => cell_later y.below d0
  have c1 : ∀ y : Kept w, y.at_.cell? ⟨bc, 1, none⟩ = some (.map (some bm)) := fun y => cell_later y.below d1
  have k1 : ∀ y : Kept w, (Builtin.len_ #[KMT] 3 #[.map (some bm)]).run Try.prog y.at_ = .ok (.int .i64 (x.bs.length : Nat)) y.at_ := fun y => by
    have := (hC.km.later y.below).len 3
    rw [hC.ps.len] at this
    exact this
  have HC := Lib.hid hC
  by_cases hlt : (x.bs.length : Int) < room
  · have HE : Hid (∀ w', Below w.heap.size w w' → RoO w bc bm base room N T x (.returned (.bool true)) w') := fun w' hb => by
      have e : roomK room (lstK x.S x.bs) = (lstK x.S x.bs, true) := by unfold roomK; rw [hlr, if_pos hlt]
      unfold RoO
      rw [e]
      exact ⟨rfl, ⟨x, HC.out.later hb, rfl, rfl, rfl, fun _ h => h, fun _ => hlt⟩, Out.of_below hb⟩
    clear hC hlen hlr hrm d0 d1 d2 HC
    go_enter Try.func38, Try.ntmps38
    go_upto_region 1 with (fail)
    refine wp_region_kept (by kernel_rfl) (by kernel_rfl) ?_
    repeat (go_big_quiet_step (fail))
    refine wpQuiet_nil ?_
    rintro W2 ⟨w2, rfl⟩
    have HE2 := Lib.hid (HE.out _ w2.below)
    clear c0 c1 k1 HE
    go_wp2_with fail
    go_ret
    exact HE2.out
  · obtain ⟨ao, cap, hv⟩ : ∃ ao cap, x.v = .slice ao x.m cap := by
      rcases hC.gs.row.2 with ⟨q, q2⟩ | ⟨g, cap, cur, q, _⟩
      · exact ⟨none, 0, by rw [q, q2]⟩
      · exact ⟨_, cap, q⟩
    have c2 : ∀ y : Kept w, y.at_.cell? ⟨bc, 2, none⟩ = some (.slice ao x.m cap) := fun y => cell_later y.below (by rw [← hv]; exact d2)
    by_cases hm0 : x.m = 0
    · have HE : Hid (∀ w', Below w.heap.size w w' → RoO w bc bm base room N T x (.returned (.bool false)) w') := fun w' hb => by
        have e : roomK room (lstK x.S x.bs) = (lstK x.S x.bs, false) := by
          unfold roomK
          rw [hlr, if_neg hlt, lst_nogo (fun c hc => ?_)]
          by_cases hg : goesB (x.S c) = true
          · obtain ⟨i, hi, _⟩ := HC.out.on c hc hg
            omega
          · simpa using hg
        unfold RoO
        rw [e]
        exact ⟨rfl, ⟨x, HC.out.later hb, rfl, rfl, rfl, fun _ h => h, fun q => by cases q⟩, Out.of_below hb⟩
      rw [hm0] at c2
      clear hC hlen hlr hrm d0 d1 d2 HC hv hm0
      go_enter Try.func38, Try.ntmps38
      go_upto_region 1 with (fail)
      refine wp_region_kept (by kernel_rfl) (by kernel_rfl) ?_
      repeat (go_big_quiet_step (fail))
      refine wpQuiet_nil ?_
      rintro W2 ⟨w2, rfl⟩
      have HE2 := Lib.hid (HE.out _ w2.below)
      have c2 := c2 w2
      clear c0 c1 k1 HE
      go_wp2_with fail
      refine (glen_any _ _ _ _).mono ?_
      rintro e w3 ⟨rfl, rfl⟩
      go_wp2_with fail
      go_ret
      exact HE2.out
    · obtain ⟨gr, hao⟩ : ∃ gr, x.v = .slice (some ⟨gr, 0, none⟩) x.m cap := by
        obtain ⟨gr, cap', q⟩ := hC.gs.form (by omega)
        rw [q] at hv
        cases hv
        exact ⟨gr, q⟩
      obtain rfl : ao = some ⟨gr, 0, none⟩ := by rw [hv] at hao; cases hao; rfl
      obtain ⟨n, hmn⟩ : ∃ n, n + 1 = x.m := ⟨x.m - 1, by omega⟩
      have hmle := hC.mle
      have HPop : Hid (∀ y : Kept w, Calls Try.prog 53 #[.iface 92 (.pointer (some ⟨bc, 2, none⟩))] y.at_ (RmO y.at_ bc bm base gr cap room x.uses x.m n 0 x.h x.S)) := fun y => by
        have hCy := HC.out.later y.below
        exact hpop_any ⟨by have := hCy.cb; rw [hv] at this; exact this, by have := hCy.gs; rw [hv] at this; exact this⟩ hCy.hq hmn (by omega)
      have e0 : ((x.m : Nat) : Int) ≠ 0 := by omega
      have e1 : (((x.m : Nat) : Int) == 0) = false := by simpa using hm0
      have hw0 := hC.who 0 (by omega)
      have HL : Hid ((roomK room (lstK x.S x.bs)) = (woK (lstK x.S x.bs) (keyB (x.S (x.h 0))), true)) := by
        show roomK room (lstK x.S x.bs) = _
        unfold roomK
        rw [hlr, if_neg hlt, lst_go hC.ps hw0.1 hw0.2 (fun c hc hg => ?_)]
        · rfl
        · obtain ⟨j, hj, e⟩ := hC.on c hc hg
          have := hC.hq.top j hj
          unfold us at this
          rw [e] at this
          exact this
      have HV := Lib.hid hv
      have HMn := Lib.hid hmn
      have HW := Lib.hid hw0
      clear hC hlen hlr hrm d0 d1 d2 hv hm0 hao hmn hmle hw0
      go_enter Try.func38, Try.ntmps38
      go_upto_region 1 with (fail)
      refine wp_region_kept (by kernel_rfl) (by kernel_rfl) ?_
      repeat (go_big_quiet_step (fail))
      refine wpQuiet_nil ?_
      rintro W2 ⟨w2, rfl⟩
      have c2 := c2 w2
      clear c0 c1 k1
      go_wp2_with fail
      refine (glen_any _ _ _ _).mono ?_
      rintro e w3 ⟨rfl, rfl⟩
      clear c2
      go_wp2_with fail
      refine (HPop.out w2).mono ?_
      intro e w4 hR
      have HB2 := Lib.hid w2.below
      obtain ⟨v', h', hL, hfr, hq, ho⟩ := (HC.out.later w2.below).popped HV.out HMn.out hR
      obtain ⟨rfl, -⟩ := hR
      have HO := Lib.hid (outC_trans (Out.of_below HB2.out) ho)
      have hLd := hL.later (show Below w4.heap.size w4 w4.drew from (Below.refl _ _).drew)
      have hkin := kin HC.out HW.out.1
      obtain ⟨w5, hrun, hK, hg⟩ := hLd.km.del (show wfK (keyB (x.S (x.h 0))) from HC.out.ps.wf _ HW.out.1) hkin 0
      have hCS := hLd.gone HW.out.1 hfr hq hK hkin hg
      have HE : Hid (RoO w bc bm base room N T x (.returned (.bool true)) w5) := by
        unfold RoO
        rw [HL.out]
        refine ⟨rfl, ⟨_, hCS, (lst_erase HC.out.ps HW.out.1).symm, rfl, rfl, fun p hp => ?_, fun _ => ?_⟩, outC_trans HO.out (outC_trans (Out.of_below (Below.refl _ _).drew) (Out.of_grown hg (fun g e => by cases e; exact ⟨HC.out.low.2.1, .inr (.inl rfl)⟩)))⟩
        · show updP x.f _ none p = none
          by_cases e : p = keyB (x.S (x.h 0))
          · rw [e, updP_at]
          · rw [updP_ne _ _ e]; exact hp
        show ((x.bs.erase (x.h 0)).length : Int) < room
        have := List.length_erase_of_mem HW.out.1
        have := List.length_pos_of_mem HW.out.1
        have := HC.out.ps.rm
        omega
      have k1 : (Builtin.delete_ #[KMT, KT] 0 #[.map (some bm), .agg #[.int .i64 (x.S (x.h 0)).ino, .int .i64 (x.S (x.h 0)).lbn]]).run Try.prog w4.drew = .ok (.tuple #[]) w5 := hrun
      obtain ⟨b0, b1, -, -, -, -⟩ := hL.buf.cells
      obtain ⟨-, c1, -, -⟩ := hL.cb.cell
      have c1' := cell_later (show Below w4.heap.size w4 w4.drew from (Below.refl _ _).drew) c1
      have b0 : w4.cell? ⟨x.h 0, 0, none⟩ = some (.int .i64 (x.S (x.h 0)).ino) := b0
      have b1 : w4.cell? ⟨x.h 0, 1, none⟩ = some (.int .i64 (x.S (x.h 0)).lbn) := b1
      have b0' := cell_later (show Below w4.heap.size w4 w4.drew from (Below.refl _ _).drew) b0
      have b1' := cell_later (show Below w4.heap.size w4 w4.drew from (Below.refl _ _).drew) b1
      clear hL hfr hq ho hLd hkin hrun hK hg hCS HO HPop HL HC HV HMn HW HB2
      generalize (x.S (x.h 0)).ino = ki at *
      generalize (x.S (x.h 0)).lbn = kl at *
      generalize x.h 0 = q at *
      have hta := run_assert_pb (.pointer (some ⟨q, 0, none⟩)) w4
      go_wp2_with fail
      go_region
      go_wp2_with fail
      go_ret
      exact HE.out
end
end Go.Proofs.Ytdnkeplmjimjcaa
