/-
  The walk of summary.gather.
-/
import Derived.Test.YtkdjfhbdcfjnnaaSwGath
import Derived.Test.YtkdjfhbdcfjnnaaOwnPart
import Derived.Deep.DeepCutAuto
namespace Go.Proofs.Ytkdjfhbdcfjnnaa
open Go.RowKit

attribute [local go_sem] Oper.semAt_some

theorem gr_own {w A B : World} {g n s u : Nat} {xs : List Nat} {row : Option Nat} (hB : w.heap.size ≤ s) (h : Gr w u g n xs A) (hg : A.grownBy B row) (hr : ∀ r, row = some r → s ≤ r ∧ ∃ o : Obj, A.heap[r]? = some o ∧ o.isCells = false) : Gr w u g n xs B := by
  have hr' := fun r e => (hr r e).2
  obtain ⟨v, h1, h2⟩ := h.row
  refine ⟨⟨v, blo_own h1 hg hr', h2.kept hg ?_⟩, h.below.grown hg h.below.size (fun k e => Nat.le_trans hB (hr k e).1), h.le, h.hs⟩
  cases hrow : row with
  | none => cases hv : v.ownBlock <;> simp
  | some r =>
    refine .inr fun e => ?_
    obtain ⟨o, ho, hc⟩ := hr' r hrow
    obtain ⟨-, -, cs, hb⟩ := oblo h2 e
    unfold Blo at hb
    rw [ho] at hb
    cases hb
    cases hc
theorem gat_end {w W x4 W0 : World} {s B L n1 : Nat} {A C ys1 ys2 : List Nat} {v v' : Value} {f : List Nat → List Nat} (hn : n1 = L + 1) (hm : ys1 = ys2) (hA : f ys1 = A ++ C) (hE : Gr w s B (11 * L) A W) (hsW : s ≤ W.heap.size) (hg : W.grownBy x4 v.ownBlock)
    (hr : x4.ownsRow s U8 1 v' (11 * L + 11) (cellsB (A ++ C))) (hX : Blo x4 B 30 #[v]) (hv : W.ownsRow s U8 1 v (11 * L) (cellsB A)) (hk : Kr (B + 1) W0 W) :
    KeepsOthers W0 (x4.setCell ⟨B, 0, none⟩ v') ∧ Kc (B + 1) W0 (x4.setCell ⟨B, 0, none⟩ v') ∧ Gr w s B (11 * n1) (f ys2) (x4.setCell ⟨B, 0, none⟩ v') ∧ s ≤ (x4.setCell ⟨B, 0, none⟩ v').heap.size := by
  have hh := hE.hs
  have h1 : Kr (B + 1) W x4 := by
    refine ⟨KeepsOthers.of_grownBy hg (fun j o e ho => ?_), hg.block _ (by omega) ?_, hg.block _ (by omega) ?_⟩
    · obtain ⟨-, -, cs, hb⟩ := oblo hv e
      unfold Blo at hb
      rw [hb] at ho; cases ho; rfl
    · intro e
      have := (oblo hv e.symm).1
      omega
    · intro e
      have := (oblo hv e.symm).1
      omega
  have h2 := (hk.trans h1).trans (Kr.set (B := B + 1) (k := B) (by omega) x4 v')
  have hap := hX.row_apart hr (by decide)
  subst hn hm
  refine ⟨h2.1, h2.2, ⟨⟨v', hX.put 0 v', ?_⟩, ?_, hE.le, hE.hs⟩, ?_⟩
  · rw [hA, show 11 * (L + 1) = 11 * L + 11 by omega]
    exact own_far hr (p := ⟨B, 0, none⟩) hap v'
  · exact (hE.below.grown hg hE.below.size (fun k e => by have := (oblo hv e).1; have := hE.le; omega)).setCell (p := ⟨B, 0, none⟩) hE.le v'
  · rw [World.size_setCell]; exact Nat.le_trans hsW hg.size
theorem bytes_own {A B : World} {row : Option Nat} {a : Option Addr} {l : List Nat} (h : Bytes A a l) (hg : A.grownBy B row) (hr : ∀ r, row = some r → ∃ o : Obj, A.heap[r]? = some o ∧ o.isCells = false) : Bytes B a l :=
  ⟨h.1, h.2.1, fun hl => by
    obtain ⟨b, o, e, hc⟩ := h.2.2 hl
    exact ⟨b, o, e, fun i hi => cell_kept (hc i hi) hg hr⟩⟩
set_option maxRecDepth 100000 in
set_option maxHeartbeats 4000000 in
theorem gather_any {w : World} (b o cap : Nat) (l : List Nat) (hl : l.length = 128) (hcap : 128 ≤ cap) (hY : Bytes w (some ⟨b, o, none⟩) l) :
    Calls Try.prog 33 #[.slice (some ⟨b, o, none⟩) 128 cap] w fun e w' => ∃ a c, e = .returned (.tuple #[.int .i64 (v2 l 0 : Nat), .int .i64 (v2 l 2 : Nat), .slice a 88 c]) ∧ Bytes w' a (gat l 8) ∧ 88 ≤ c ∧ Below w.heap.size w w' := by
  have HY := Lib.hid hY
  have HL := Lib.hid hl
  have hr0 : Hid (RdS (w.alloc (.cells #[.slice (some ⟨b, o, none⟩) 128 cap] TRD)) w.heap.size (some ⟨b, o, none⟩) 128 cap l) :=
    ⟨blo_laid w TRD #[.slice (some ⟨b, o, none⟩) 128 cap], hl.symm, hcap, by decide, hY.below (sup_pc _ _), fun h => by cases h⟩
  have HC := Lib.hid hcap
  clear hY hl hcap
  refine (callsIn_wide (n := 6)).1 ?_
  refine callsIn_of_wp_marks Try.func33 rfl trivial ?_ rfl
  simp only [Try.ntmps33, List.size_toArray, List.length_cons, List.length_nil, Nat.reduceAdd, Nat.reduceSub, Array.replicate_succ, Array.replicate_zero, List.push_toArray, List.append_toArray, List.nil_append, List.cons_append]
  refine wpIn_wide.2 ?_
  go_wp2_with fail
  refine (take_any 2 w.heap.size _ _ _ l hr0.out (by decide)).mono ?_
  rintro e w1 ⟨a1, n1, c1, rfl, hr, hg, -⟩
  have HR1 := Lib.hid hr
  have HB1 := Lib.hid ((sup_pc w (.cells #[.slice (some ⟨b, o, none⟩) 128 cap] TRD)).grown hg (by simp) (fun k e => by cases e; exact Nat.le_refl _))
  clear hr hg hr0
  go_wp2_with fail
  refine (take_any 2 w.heap.size _ _ _ _ HR1.out (by decide)).mono ?_
  rintro e w2 ⟨a2, n2, c2, rfl, hr, hg, -⟩
  have HB2 := Lib.hid (HB1.out.grown hg HB1.out.size (fun k e => by cases e; exact Nat.le_refl _))
  have hw2 := HB2.out.size
  rw [show val (l.take 2) = v2 l 0 from val_2 l 0, val_2 l 2]
  clear hr hg HR1 HB1
  go_wp2_with fail
  refine (chunk_any (some ⟨b, o, none⟩) 128 cap 16 (by decide) _).mono ?_
  rintro e w3 ⟨rfl, rfl⟩
  go_wp2_with fail
  have hv0 := blo_laid w2 30 #[.slice none 0 0]
  have hB1 := (blo_laid (w2.alloc (.cells #[.slice none 0 0] 30)) 30 #[.slice (some ⟨b, o, none⟩) 128 cap]).later (sup_pc _ (.cells #[.int .i64 16] 3))
  have hB2 := blo_laid ((w2.alloc (.cells #[.slice none 0 0] 30)).alloc (.cells #[.slice (some ⟨b, o, none⟩) 128 cap] 30)) 3 #[.int .i64 16]
  have hv1 := (hv0.later (sup_pc _ (.cells #[.slice (some ⟨b, o, none⟩) 128 cap] 30))).later (sup_pc _ (.cells #[.int .i64 16] 3))
  have hbw : Below w2.heap.size w2 (((w2.alloc (.cells #[.slice none 0 0] 30)).alloc (.cells #[.slice (some ⟨b, o, none⟩) 128 cap] 30)).alloc (.cells #[.int .i64 16] 3)) :=
    ((sup_pc w2 _).trans ((sup_pc _ _).mono (by simp))).trans ((sup_pc _ _).mono (by simp; omega))
  rw [World.size_alloc] at hB1
  rw [World.size_alloc, World.size_alloc] at hB2
  have hs4 : (((w2.alloc (.cells #[.slice none 0 0] 30)).alloc (.cells #[.slice (some ⟨b, o, none⟩) 128 cap] 30)).alloc (.cells #[.int .i64 16] 3)).heap.size = w2.heap.size + 3 := by simp
  generalize (((w2.alloc (.cells #[.slice none 0 0] 30)).alloc (.cells #[.slice (some ⟨b, o, none⟩) 128 cap] 30)).alloc (.cells #[.int .i64 16] 3)) = W4 at *
  have hg0 : Gr w W4.heap.size w2.heap.size 0 [] W4 := ⟨⟨_, hv1, by simp [World.ownsRow, cellsB]⟩, HB2.out.trans (hbw.mono hw2), hw2, by omega⟩
  have hw4 : w.heap.size ≤ W4.heap.size := hg0.below.size
  clear hv0 hv1 hbw HB2
  have HCap := HC.out
  generalize w2.heap.size = B at *
  refine (wpIn_wide (n := 6)).1 ?_
  refine wpIn_rangeFunc_ownF rfl (by decide) (gf := 39) (lb := #[.pointer (some ⟨B + 1, 0, none⟩), .pointer (some ⟨B + 1 + 1, 0, none⟩)]) rfl trivial (enters_of Try.func39 (by kernel_rfl) rfl)
    (chunk_stops 5 (by decide) (B + 1) b o 16 8 128 cap (by decide) (by decide) HCap (by decide) W4 hB1 hB2) (fun h k => Kc.trans h k) (Kc.put (by omega)) (Below.refl _ _) (fun _ => rfl)
    (fun (pre : List (Fin 8)) W => Gr w W4.heap.size B (11 * pre.length) (gatL l (pre.map fun (y : Fin 8) => y.val)) W ∧ W4.heap.size ≤ W.heap.size)
    (fun _ _ _ => False)
    (fun s A B row hs hg hr => ⟨gr_own (s := W4.heap.size) hw4 hs.1 hg hr, Nat.le_trans hs.2 hg.size⟩)
    (fun _ _ _ _ _ hs _ _ => hs)
    ⟨hg0, Nat.le_refl _⟩
    (fun x => { tmps := #[.slice (some ⟨b, o, none⟩) 128 cap, undef, .int .i64 0, .int .i64 0, .slice none 0 0, .pointer (some ⟨w.heap.size, 0, none⟩), .int .i64 (v2 l 0 : Nat), .int .i64 (v2 l 2 : Nat), .pointer (some ⟨B, 0, none⟩), Value.slice (some ⟨b, o + 16 * x.val, none⟩) 16 16, .slice (some ⟨b, o, none⟩) 128 cap, .agg #[.slice (some ⟨b, o, none⟩) 128 cap], .pointer (some ⟨w.heap.size, 0, none⟩), .pointer (some ⟨w.heap.size, 0, none⟩), .int .i64 (v2 l 0 : Nat), .pointer (some ⟨w.heap.size, 0, none⟩), .int .i64 (v2 l 2 : Nat), .slice (some ⟨b, o, none⟩) 128 cap, .func (.func 39) #[] #[.pointer (some ⟨B + 1, 0, none⟩), .pointer (some ⟨B + 1 + 1, 0, none⟩)], Value.slice (some ⟨b, o + 16 * x.val, none⟩) 16 16, undef, undef, undef, undef, undef, undef, undef], defers := [] }) ?assign ?body ?done ?stop
  case assign =>
    intro q x W K hK
    gi_wp2
    exact hK
  case body =>
    rintro q pre x W ⟨hE, hsW⟩ hlen
    obtain ⟨v, hbx, hrow⟩ := hE.row
    have HA := Lib.hid (gatL_snoc l (pre.map fun (y : Fin 8) => y.val) x.val)
    have HAL := Lib.hid (gatL_len HL.out pre)
    have hx8 : x.val < 8 := x.2
    have HME : Hid ((pre.map fun (y : Fin 8) => y.val) ++ [x.val] = (pre ++ [x]).map fun (y : Fin 8) => y.val) := by show _ = _; rw [List.map_append]; rfl
    have HPL : Hid ((pre ++ [x]).length = pre.length + 1) := by show _ = _; simp
    have cb := hbx.cell 0
    have fb := hbx.frozen 0
    simp at cb
    have HRow := Lib.hid hrow
    have HBx := Lib.hid hbx
    have HBe := Lib.hid hE.below
    have hle := hE.le
    have hhs := hE.hs
    have HNe : Hid (11 = ((l.drop (16 * x.val + 5)).take 11).length ∧ (l.drop (16 * x.val + 5)).take 11 ≠ []) := by
      have hlw := HL.out
      have : 11 = ((l.drop (16 * x.val + 5)).take 11).length := by rw [List.length_take, List.length_drop, hlw]; omega
      exact ⟨this, (fun e => by rw [e] at this; cases this)⟩
    have HAp := Lib.hid (hbx.row_apart hrow (by decide))
    have HP := Lib.hid (bytes_part (HY.out.below hE.below) (16 * x.val + 5) 11 (by have := HL.out; omega) (by decide))
    have hcut := fun W => chunk_from b (o + 16 * x.val) 16 16 5 (by decide) (by decide) (by decide) W
    clear hE hrow hbx hB1 hB2 hg0
    generalize gatL l (pre.map fun (y : Fin 8) => y.val) = A at *
    generalize pre.length = L at *
    gi_wp2
    refine wpIn_region_any (by kernel_rfl) ?_
    change wpAnyIn _ _ _ _ _ _ _ _ _ (World.drew _)
    refine wpAnyIn_ready (rs := [0, 1]) (by kernel_rfl) (by simp) (AllReadyIn.cons rfl (fun K hK => ?_) (AllReadyIn.cons rfl (fun K hK => ?_) AllReadyIn.nil))
    · go_simp
      refine hK _ _ ?_
      clear hK K
      refine wpAnyIn_ready (rs := [1]) (by kernel_rfl) (by simp) (AllReadyIn.cons rfl (fun K hK => ?_) AllReadyIn.nil)
      go_simp
      refine hK _ _ ?_
      clear hK K
      refine wpAnyIn_ready (rs := [2]) (by kernel_rfl) (by simp) (AllReadyIn.cons rfl (fun K hK => ?_) AllReadyIn.nil)
      go_simp
      refine hK _ _ ?_
      clear hK K
      refine wpAnyIn_ready (rs := [3]) (by kernel_rfl) (by simp) (AllReadyIn.cons rfl (fun K hK => ?_) AllReadyIn.nil)
      rw [if_pos (by rfl)]
      refine opIn_append_bytes (.tmp 20) (.tmp 22) 30 rfl W4.heap.size Try.underlying30 info_u8 v (11 * L) A rfl (show W.drew.ownsRow _ _ _ _ _ _ from HRow.out) (some ⟨b, o + (16 * x.val + 5), none⟩) 11 11 ((l.drop (16 * x.val + 5)).take 11) rfl HNe.out.1 (show Bytes W.drew _ _ from HP.out) HNe.out.2 (by omega) hsW ?_
      intro v' x4 hr4 hg4
      obtain ⟨a5, c5, rfl, -⟩ := own_slice hr4
      have HG4 := Lib.hid hg4
      have HR4 := Lib.hid hr4
      have HX4 := Lib.hid ((show Blo W.drew B _ _ from HBx.out).grown hg4 HAp.out)
      have cb4 := HX4.out.cell 0
      have fb4 := HX4.out.frozen 0
      simp at cb4
      clear hr4 hg4
      refine hK _ _ ?_
      clear hK K
      refine wpAnyIn_ready (rs := [4]) (by kernel_rfl) (by simp) (AllReadyIn.cons rfl (fun K hK => ?_) AllReadyIn.nil)
      go_simp
      refine hK _ _ ?_
      clear hK K
      refine wpAnyIn_done (by kernel_rfl) ?_ _
      refine gat_end HPL.out HME.out HA.out (show Gr w W4.heap.size B (11 * L) A W.drew from ⟨⟨v, HBx.out, HRow.out⟩, HBe.out.drew, hle, hhs⟩) hsW HG4.out HR4.out HX4.out (show W.drew.ownsRow _ _ _ _ _ _ from HRow.out) ⟨KeepsOthers.drew W, Kc.refl _ _⟩
    · go_simp
      refine hK _ _ ?_
      clear hK K
      refine wpAnyIn_ready (rs := [0, 2]) (by kernel_rfl) (by simp) (AllReadyIn.cons rfl (fun K hK => ?_) (AllReadyIn.cons rfl (fun K hK => ?_) AllReadyIn.nil))
      · go_simp
        refine hK _ _ ?_
        clear hK K
        refine wpAnyIn_ready (rs := [2]) (by kernel_rfl) (by simp) (AllReadyIn.cons rfl (fun K hK => ?_) AllReadyIn.nil)
        go_simp
        refine hK _ _ ?_
        clear hK K
        refine wpAnyIn_ready (rs := [3]) (by kernel_rfl) (by simp) (AllReadyIn.cons rfl (fun K hK => ?_) AllReadyIn.nil)
        rw [if_pos (by rfl)]
        refine opIn_append_bytes (.tmp 20) (.tmp 22) 30 rfl W4.heap.size Try.underlying30 info_u8 v (11 * L) A rfl (show W.drew.ownsRow _ _ _ _ _ _ from HRow.out) (some ⟨b, o + (16 * x.val + 5), none⟩) 11 11 ((l.drop (16 * x.val + 5)).take 11) rfl HNe.out.1 (show Bytes W.drew _ _ from HP.out) HNe.out.2 (by omega) hsW ?_
        intro v' x4 hr4 hg4
        obtain ⟨a5, c5, rfl, -⟩ := own_slice hr4
        have HG4 := Lib.hid hg4
        have HR4 := Lib.hid hr4
        have HX4 := Lib.hid ((show Blo W.drew B _ _ from HBx.out).grown hg4 HAp.out)
        have cb4 := HX4.out.cell 0
        have fb4 := HX4.out.frozen 0
        simp at cb4
        clear hr4 hg4
        refine hK _ _ ?_
        clear hK K
        refine wpAnyIn_ready (rs := [4]) (by kernel_rfl) (by simp) (AllReadyIn.cons rfl (fun K hK => ?_) AllReadyIn.nil)
        go_simp
        refine hK _ _ ?_
        clear hK K
        refine wpAnyIn_done (by kernel_rfl) ?_ _
        refine gat_end HPL.out HME.out HA.out (show Gr w W4.heap.size B (11 * L) A W.drew from ⟨⟨v, HBx.out, HRow.out⟩, HBe.out.drew, hle, hhs⟩) hsW HG4.out HR4.out HX4.out (show W.drew.ownsRow _ _ _ _ _ _ from HRow.out) ⟨KeepsOthers.drew W, Kc.refl _ _⟩
      · go_simp
        refine hK _ _ ?_
        clear hK K
        refine wpAnyIn_ready (rs := [0]) (by kernel_rfl) (by simp) (AllReadyIn.cons rfl (fun K hK => ?_) AllReadyIn.nil)
        go_simp
        refine hK _ _ ?_
        clear hK K
        refine wpAnyIn_ready (rs := [3]) (by kernel_rfl) (by simp) (AllReadyIn.cons rfl (fun K hK => ?_) AllReadyIn.nil)
        rw [if_pos (by rfl)]
        refine opIn_append_bytes (.tmp 20) (.tmp 22) 30 rfl W4.heap.size Try.underlying30 info_u8 v (11 * L) A rfl (show W.drew.ownsRow _ _ _ _ _ _ from HRow.out) (some ⟨b, o + (16 * x.val + 5), none⟩) 11 11 ((l.drop (16 * x.val + 5)).take 11) rfl HNe.out.1 (show Bytes W.drew _ _ from HP.out) HNe.out.2 (by omega) hsW ?_
        intro v' x4 hr4 hg4
        obtain ⟨a5, c5, rfl, -⟩ := own_slice hr4
        have HG4 := Lib.hid hg4
        have HR4 := Lib.hid hr4
        have HX4 := Lib.hid ((show Blo W.drew B _ _ from HBx.out).grown hg4 HAp.out)
        have cb4 := HX4.out.cell 0
        have fb4 := HX4.out.frozen 0
        simp at cb4
        clear hr4 hg4
        refine hK _ _ ?_
        clear hK K
        refine wpAnyIn_ready (rs := [4]) (by kernel_rfl) (by simp) (AllReadyIn.cons rfl (fun K hK => ?_) AllReadyIn.nil)
        go_simp
        refine hK _ _ ?_
        clear hK K
        refine wpAnyIn_done (by kernel_rfl) ?_ _
        refine gat_end HPL.out HME.out HA.out (show Gr w W4.heap.size B (11 * L) A W.drew from ⟨⟨v, HBx.out, HRow.out⟩, HBe.out.drew, hle, hhs⟩) hsW HG4.out HR4.out HX4.out (show W.drew.ownsRow _ _ _ _ _ _ from HRow.out) ⟨KeepsOthers.drew W, Kc.refl _ _⟩
  case done =>
    rintro D ys W hD hys ⟨hE, hsW⟩ hK
    obtain ⟨v, hbx, hrow⟩ := hE.row
    have hl8 : ys.length = 8 := by have := congrArg List.length hys; simpa using this
    rw [hys, gatL_range, hl8] at hrow
    have hgl : (gat l 8).length = 88 := by have := gatL_len HL.out ys; rw [hys, gatL_range, hl8] at this; exact this
    have hcp := own_slice hrow
    obtain ⟨a, c, rfl, hn, hBy, hnl⟩ := Bytes.own hrow (fun x hx => by
      obtain ⟨k, _, h⟩ := List.mem_flatMap.1 hx
      exact HY.out.1 x (List.mem_of_mem_drop (List.mem_of_mem_take h)))
    obtain ⟨a6, c6, e6, hc6⟩ := hcp
    cases e6
    have HBy := Lib.hid hBy
    have HBl := Lib.hid hE.below
    have hb0 := hbx.cell 0
    simp at hb0
    clear hE hrow hys hbx hn hnl
    go_wp2
    go_region
    go_wp2
    refine ⟨by simp, .inl ⟨_, _, rfl, run_takeDeferred hK, ?_⟩⟩
    refine ⟨.tuple #[.int .i64 (v2 l 0 : Nat), .int .i64 (v2 l 2 : Nat), .slice a 88 c], by simp [results, Try.f33, go_sem], a, c, rfl, bytes_own (show Bytes W.drew _ _ from HBy.out) (grownBy_putObj' _ D (.deferred none)) (fun r e => by cases e; exact ⟨_, hK, rfl⟩), hc6, HBl.out.drew.trans (belowK_b (w := w) (Nat.le_refl _) W.drew D _ _ (by omega) hK rfl rfl)⟩
  case stop =>
    rintro D c pre W _ _ h _
    exact h.elim
end Go.Proofs.Ytkdjfhbdcfjnnaa
