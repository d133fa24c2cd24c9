/-
  SwGatW · SwParM · SwPar: these texts in one.
-/
import Derived.Test.YtlkgaefabahkoaaDoorPk04
import Derived.Deep.DeepCutAuto
import Derived.Laws.Tables
import Derived.Laws.CopyOwn
/-
  The walk of summary.gather.
-/
namespace Go.Proofs.YtlkgaefabahkoaaDoor
open Go.RowKit

attribute [local go_sem] Oper.semAt_some

theorem gr_own {w A B : World} {g n s u : Nat} {xs : List Nat} {row : Option Nat} (hB : w.heap.size ≤ s) (h : Gr w u g n xs A) (hg : A.grownBy B row) (hr : ∀ r, row = some r → s ≤ r ∧ ∃ o : Obj, A.heap[r]? = some o ∧ o.isCells = false) : Gr w u g n xs B := by
  have hr' := fun r e => (hr r e).2
  obtain ⟨v, h1, h2⟩ := h.row
  refine ⟨⟨v, blo_own h1 hg hr', h2.kept hg ?_⟩, h.below.grown hg h.below.size (fun k e => Nat.le_trans hB (hr k e).1), h.le, h.hs⟩
  cases hrow : row with
  | none => cases hv : v.ownBlock <;> simp
  | some r =>
    refine .inr fun e => ?_
    obtain ⟨o, ho, hc⟩ := hr' r hrow
    obtain ⟨-, -, cs, hb⟩ := oblo h2 e
    unfold Blo at hb
    rw [ho] at hb
    cases hb
    cases hc
theorem gat_end {w W x4 W0 : World} {s B L n1 : Nat} {A C ys1 ys2 : List Nat} {v v' : Value} {f : List Nat → List Nat} (hn : n1 = L + 1) (hm : ys1 = ys2) (hA : f ys1 = A ++ C) (hE : Gr w s B (11 * L) A W) (hsW : s ≤ W.heap.size) (hg : W.grownBy x4 v.ownBlock)
    (hr : x4.ownsRow s U8 1 v' (11 * L + 11) (cellsB (A ++ C))) (hX : Blo x4 B 49 #[v]) (hv : W.ownsRow s U8 1 v (11 * L) (cellsB A)) (hk : Kr (B + 1) W0 W) :
    KeepsOthers W0 (x4.setCell ⟨B, 0, none⟩ v') ∧ Kc (B + 1) W0 (x4.setCell ⟨B, 0, none⟩ v') ∧ Gr w s B (11 * n1) (f ys2) (x4.setCell ⟨B, 0, none⟩ v') ∧ s ≤ (x4.setCell ⟨B, 0, none⟩ v').heap.size := by
  have hh := hE.hs
  have h1 : Kr (B + 1) W x4 := by
    refine ⟨KeepsOthers.of_grownBy hg (fun j o e ho => ?_), hg.block _ (by omega) ?_, hg.block _ (by omega) ?_⟩
    · obtain ⟨-, -, cs, hb⟩ := oblo hv e
      unfold Blo at hb
      rw [hb] at ho; cases ho; rfl
    · intro e
      have := (oblo hv e.symm).1
      omega
    · intro e
      have := (oblo hv e.symm).1
      omega
  have h2 := (hk.trans h1).trans (Kr.set (B := B + 1) (k := B) (by omega) x4 v')
  have hap := hX.row_apart hr (by decide)
  subst hn hm
  refine ⟨h2.1, h2.2, ⟨⟨v', hX.put 0 v', ?_⟩, ?_, hE.le, hE.hs⟩, ?_⟩
  · rw [hA, show 11 * (L + 1) = 11 * L + 11 by omega]
    exact own_far hr (p := ⟨B, 0, none⟩) hap v'
  · exact (hE.below.grown hg hE.below.size (fun k e => by have := (oblo hv e).1; have := hE.le; omega)).setCell (p := ⟨B, 0, none⟩) hE.le v'
  · rw [World.size_setCell]; exact Nat.le_trans hsW hg.size
theorem bytes_own {A B : World} {row : Option Nat} {a : Option Addr} {l : List Nat} (h : Bytes A a l) (hg : A.grownBy B row) (hr : ∀ r, row = some r → ∃ o : Obj, A.heap[r]? = some o ∧ o.isCells = false) : Bytes B a l :=
  ⟨h.1, h.2.1, fun hl => by
    obtain ⟨b, o, e, hc⟩ := h.2.2 hl
    exact ⟨b, o, e, fun i hi => cell_kept (hc i hi) hg hr⟩⟩
set_option maxRecDepth 100000 in
set_option maxHeartbeats 4000000 in
theorem gather_any {w : World} (b o cap : Nat) (l : List Nat) (hl : l.length = 128) (hcap : 128 ≤ cap) (hY : Bytes w (some ⟨b, o, none⟩) l) :
    Calls Tryd.prog 67 #[.slice (some ⟨b, o, none⟩) 128 cap] w fun e w' => ∃ a c, e = .returned (.tuple #[.int .i64 (v2 l 0 : Nat), .int .i64 (v2 l 2 : Nat), .slice a 88 c]) ∧ Bytes w' a (gat l 8) ∧ 88 ≤ c ∧ Below w.heap.size w w' := by
  have HY := Lib.hid hY
  have HL := Lib.hid hl
  have hr0 : Hid (RdS (w.alloc (.cells #[.slice (some ⟨b, o, none⟩) 128 cap] TRD)) w.heap.size (some ⟨b, o, none⟩) 128 cap l) :=
    ⟨blo_laid w TRD #[.slice (some ⟨b, o, none⟩) 128 cap], hl.symm, hcap, by decide, hY.below (sup_pc _ _), fun h => by cases h⟩
  have HC := Lib.hid hcap
  clear hY hl hcap
  refine (callsIn_wide (n := 6)).1 ?_
  refine callsIn_of_wp_marks Tryd.func67 rfl trivial ?_ rfl
  simp only [Tryd.ntmps67, List.size_toArray, List.length_cons, List.length_nil, Nat.reduceAdd, Nat.reduceSub, Array.replicate_succ, Array.replicate_zero, List.push_toArray, List.append_toArray, List.nil_append, List.cons_append]
  refine wpIn_wide.2 ?_
  go_wp2_with fail
  refine (take_any 2 w.heap.size _ _ _ l hr0.out (by decide)).mono ?_
  rintro e w1 ⟨a1, n1, c1, rfl, hr, hg, -⟩
  have HR1 := Lib.hid hr
  have HB1 := Lib.hid ((sup_pc w (.cells #[.slice (some ⟨b, o, none⟩) 128 cap] TRD)).grown hg (by simp) (fun k e => by cases e; exact Nat.le_refl _))
  clear hr hg hr0
  go_wp2_with fail
  refine (take_any 2 w.heap.size _ _ _ _ HR1.out (by decide)).mono ?_
  rintro e w2 ⟨a2, n2, c2, rfl, hr, hg, -⟩
  have HB2 := Lib.hid (HB1.out.grown hg HB1.out.size (fun k e => by cases e; exact Nat.le_refl _))
  have hw2 := HB2.out.size
  rw [show val (l.take 2) = v2 l 0 from val_2 l 0, val_2 l 2]
  clear hr hg HR1 HB1
  go_wp2_with fail
  refine (chunk_any (some ⟨b, o, none⟩) 128 cap 16 (by decide) _).mono ?_
  rintro e w3 ⟨rfl, rfl⟩
  go_wp2_with fail
  have hv0 := blo_laid w2 49 #[.slice none 0 0]
  have hB1 := (blo_laid (w2.alloc (.cells #[.slice none 0 0] 49)) 49 #[.slice (some ⟨b, o, none⟩) 128 cap]).later (sup_pc _ (.cells #[.int .i64 16] 3))
  have hB2 := blo_laid ((w2.alloc (.cells #[.slice none 0 0] 49)).alloc (.cells #[.slice (some ⟨b, o, none⟩) 128 cap] 49)) 3 #[.int .i64 16]
  have hv1 := (hv0.later (sup_pc _ (.cells #[.slice (some ⟨b, o, none⟩) 128 cap] 49))).later (sup_pc _ (.cells #[.int .i64 16] 3))
  have hbw : Below w2.heap.size w2 (((w2.alloc (.cells #[.slice none 0 0] 49)).alloc (.cells #[.slice (some ⟨b, o, none⟩) 128 cap] 49)).alloc (.cells #[.int .i64 16] 3)) :=
    ((sup_pc w2 _).trans ((sup_pc _ _).mono (by simp))).trans ((sup_pc _ _).mono (by simp; omega))
  rw [World.size_alloc] at hB1
  rw [World.size_alloc, World.size_alloc] at hB2
  have hs4 : (((w2.alloc (.cells #[.slice none 0 0] 49)).alloc (.cells #[.slice (some ⟨b, o, none⟩) 128 cap] 49)).alloc (.cells #[.int .i64 16] 3)).heap.size = w2.heap.size + 3 := by simp
  generalize (((w2.alloc (.cells #[.slice none 0 0] 49)).alloc (.cells #[.slice (some ⟨b, o, none⟩) 128 cap] 49)).alloc (.cells #[.int .i64 16] 3)) = W4 at *
  have hg0 : Gr w W4.heap.size w2.heap.size 0 [] W4 := ⟨⟨_, hv1, by simp [World.ownsRow, cellsB]⟩, HB2.out.trans (hbw.mono hw2), hw2, by omega⟩
  have hw4 : w.heap.size ≤ W4.heap.size := hg0.below.size
  clear hv0 hv1 hbw HB2
  have HCap := HC.out
  generalize w2.heap.size = B at *
  refine (wpIn_wide (n := 6)).1 ?_
  refine wpIn_rangeFunc_ownF rfl (by decide) (gf := 98) (lb := #[.pointer (some ⟨B + 1, 0, none⟩), .pointer (some ⟨B + 1 + 1, 0, none⟩)]) rfl trivial (enters_of Tryd.func98 (by kernel_rfl) rfl)
    (chunk_stops 5 (by decide) (B + 1) b o 16 8 128 cap (by decide) (by decide) HCap (by decide) W4 hB1 hB2) (fun h k => Kc.trans h k) (Kc.put (by omega)) (Below.refl _ _) (fun _ => rfl)
    (fun (pre : List (Fin 8)) W => Gr w W4.heap.size B (11 * pre.length) (gatL l (pre.map fun (y : Fin 8) => y.val)) W ∧ W4.heap.size ≤ W.heap.size)
    (fun _ _ _ => False)
    (fun s A B row hs hg hr => ⟨gr_own (s := W4.heap.size) hw4 hs.1 hg hr, Nat.le_trans hs.2 hg.size⟩)
    (fun _ _ _ _ _ hs _ _ => hs)
    ⟨hg0, Nat.le_refl _⟩
    (fun x => { tmps := #[.slice (some ⟨b, o, none⟩) 128 cap, undef, .int .i64 0, .int .i64 0, .slice none 0 0, .pointer (some ⟨w.heap.size, 0, none⟩), .int .i64 (v2 l 0 : Nat), .int .i64 (v2 l 2 : Nat), .pointer (some ⟨B, 0, none⟩), Value.slice (some ⟨b, o + 16 * x.val, none⟩) 16 16, .slice (some ⟨b, o, none⟩) 128 cap, .agg #[.slice (some ⟨b, o, none⟩) 128 cap], .pointer (some ⟨w.heap.size, 0, none⟩), .pointer (some ⟨w.heap.size, 0, none⟩), .int .i64 (v2 l 0 : Nat), .pointer (some ⟨w.heap.size, 0, none⟩), .int .i64 (v2 l 2 : Nat), .slice (some ⟨b, o, none⟩) 128 cap, .func (.func 98) #[] #[.pointer (some ⟨B + 1, 0, none⟩), .pointer (some ⟨B + 1 + 1, 0, none⟩)], Value.slice (some ⟨b, o + 16 * x.val, none⟩) 16 16, undef, undef, undef, undef, undef, undef, undef], defers := [] }) ?assign ?body ?done ?stop
  case assign =>
    intro q x W K hK
    gi_wp2
    exact hK
  case body =>
    rintro q pre x W ⟨hE, hsW⟩ hlen
    obtain ⟨v, hbx, hrow⟩ := hE.row
    have HA := Lib.hid (gatL_snoc l (pre.map fun (y : Fin 8) => y.val) x.val)
    have HAL := Lib.hid (gatL_len HL.out pre)
    have hx8 : x.val < 8 := x.2
    have HME : Hid ((pre.map fun (y : Fin 8) => y.val) ++ [x.val] = (pre ++ [x]).map fun (y : Fin 8) => y.val) := by show _ = _; rw [List.map_append]; rfl
    have HPL : Hid ((pre ++ [x]).length = pre.length + 1) := by show _ = _; simp
    have cb := hbx.cell 0
    have fb := hbx.frozen 0
    simp at cb
    have HRow := Lib.hid hrow
    have HBx := Lib.hid hbx
    have HBe := Lib.hid hE.below
    have hle := hE.le
    have hhs := hE.hs
    have HNe : Hid (11 = ((l.drop (16 * x.val + 5)).take 11).length ∧ (l.drop (16 * x.val + 5)).take 11 ≠ []) := by
      have hlw := HL.out
      have : 11 = ((l.drop (16 * x.val + 5)).take 11).length := by rw [List.length_take, List.length_drop, hlw]; omega
      exact ⟨this, (fun e => by rw [e] at this; cases this)⟩
    have HAp := Lib.hid (hbx.row_apart hrow (by decide))
    have HP := Lib.hid (bytes_part (HY.out.below hE.below) (16 * x.val + 5) 11 (by have := HL.out; omega) (by decide))
    have hcut := fun W => chunk_from b (o + 16 * x.val) 16 16 5 (by decide) (by decide) (by decide) W
    clear hE hrow hbx hB1 hB2 hg0
    generalize gatL l (pre.map fun (y : Fin 8) => y.val) = A at *
    generalize pre.length = L at *
    gi_wp2
    refine wpIn_region_any (by kernel_rfl) ?_
    change wpAnyIn _ _ _ _ _ _ _ _ _ (World.drew _)
    refine wpAnyIn_ready (rs := [0, 1]) (by kernel_rfl) (by simp) (AllReadyIn.cons rfl (fun K hK => ?_) (AllReadyIn.cons rfl (fun K hK => ?_) AllReadyIn.nil))
    · go_simp
      refine hK _ _ ?_
      clear hK K
      refine wpAnyIn_ready (rs := [1]) (by kernel_rfl) (by simp) (AllReadyIn.cons rfl (fun K hK => ?_) AllReadyIn.nil)
      go_simp
      refine hK _ _ ?_
      clear hK K
      refine wpAnyIn_ready (rs := [2]) (by kernel_rfl) (by simp) (AllReadyIn.cons rfl (fun K hK => ?_) AllReadyIn.nil)
      go_simp
      refine hK _ _ ?_
      clear hK K
      refine wpAnyIn_ready (rs := [3]) (by kernel_rfl) (by simp) (AllReadyIn.cons rfl (fun K hK => ?_) AllReadyIn.nil)
      rw [if_pos (by rfl)]
      refine opIn_append_bytes (.tmp 20) (.tmp 22) 49 rfl W4.heap.size Tryd.underlying49 info_u8f v (11 * L) A rfl (show W.drew.ownsRow _ _ _ _ _ _ from HRow.out) (some ⟨b, o + (16 * x.val + 5), none⟩) 11 11 ((l.drop (16 * x.val + 5)).take 11) rfl HNe.out.1 (show Bytes W.drew _ _ from HP.out) HNe.out.2 (by omega) hsW ?_
      intro v' x4 hr4 hg4
      obtain ⟨a5, c5, rfl, -⟩ := own_slice hr4
      have HG4 := Lib.hid hg4
      have HR4 := Lib.hid hr4
      have HX4 := Lib.hid ((show Blo W.drew B _ _ from HBx.out).grown hg4 HAp.out)
      have cb4 := HX4.out.cell 0
      have fb4 := HX4.out.frozen 0
      simp at cb4
      clear hr4 hg4
      refine hK _ _ ?_
      clear hK K
      refine wpAnyIn_ready (rs := [4]) (by kernel_rfl) (by simp) (AllReadyIn.cons rfl (fun K hK => ?_) AllReadyIn.nil)
      go_simp
      refine hK _ _ ?_
      clear hK K
      refine wpAnyIn_done (by kernel_rfl) ?_ _
      refine gat_end HPL.out HME.out HA.out (show Gr w W4.heap.size B (11 * L) A W.drew from ⟨⟨v, HBx.out, HRow.out⟩, HBe.out.drew, hle, hhs⟩) hsW HG4.out HR4.out HX4.out (show W.drew.ownsRow _ _ _ _ _ _ from HRow.out) ⟨KeepsOthers.drew W, Kc.refl _ _⟩
    · go_simp
      refine hK _ _ ?_
      clear hK K
      refine wpAnyIn_ready (rs := [0, 2]) (by kernel_rfl) (by simp) (AllReadyIn.cons rfl (fun K hK => ?_) (AllReadyIn.cons rfl (fun K hK => ?_) AllReadyIn.nil))
      · go_simp
        refine hK _ _ ?_
        clear hK K
        refine wpAnyIn_ready (rs := [2]) (by kernel_rfl) (by simp) (AllReadyIn.cons rfl (fun K hK => ?_) AllReadyIn.nil)
        go_simp
        refine hK _ _ ?_
        clear hK K
        refine wpAnyIn_ready (rs := [3]) (by kernel_rfl) (by simp) (AllReadyIn.cons rfl (fun K hK => ?_) AllReadyIn.nil)
        rw [if_pos (by rfl)]
        refine opIn_append_bytes (.tmp 20) (.tmp 22) 49 rfl W4.heap.size Tryd.underlying49 info_u8f v (11 * L) A rfl (show W.drew.ownsRow _ _ _ _ _ _ from HRow.out) (some ⟨b, o + (16 * x.val + 5), none⟩) 11 11 ((l.drop (16 * x.val + 5)).take 11) rfl HNe.out.1 (show Bytes W.drew _ _ from HP.out) HNe.out.2 (by omega) hsW ?_
        intro v' x4 hr4 hg4
        obtain ⟨a5, c5, rfl, -⟩ := own_slice hr4
        have HG4 := Lib.hid hg4
        have HR4 := Lib.hid hr4
        have HX4 := Lib.hid ((show Blo W.drew B _ _ from HBx.out).grown hg4 HAp.out)
        have cb4 := HX4.out.cell 0
        have fb4 := HX4.out.frozen 0
        simp at cb4
        clear hr4 hg4
        refine hK _ _ ?_
        clear hK K
        refine wpAnyIn_ready (rs := [4]) (by kernel_rfl) (by simp) (AllReadyIn.cons rfl (fun K hK => ?_) AllReadyIn.nil)
        go_simp
        refine hK _ _ ?_
        clear hK K
        refine wpAnyIn_done (by kernel_rfl) ?_ _
        refine gat_end HPL.out HME.out HA.out (show Gr w W4.heap.size B (11 * L) A W.drew from ⟨⟨v, HBx.out, HRow.out⟩, HBe.out.drew, hle, hhs⟩) hsW HG4.out HR4.out HX4.out (show W.drew.ownsRow _ _ _ _ _ _ from HRow.out) ⟨KeepsOthers.drew W, Kc.refl _ _⟩
      · go_simp
        refine hK _ _ ?_
        clear hK K
        refine wpAnyIn_ready (rs := [0]) (by kernel_rfl) (by simp) (AllReadyIn.cons rfl (fun K hK => ?_) AllReadyIn.nil)
        go_simp
        refine hK _ _ ?_
        clear hK K
        refine wpAnyIn_ready (rs := [3]) (by kernel_rfl) (by simp) (AllReadyIn.cons rfl (fun K hK => ?_) AllReadyIn.nil)
        rw [if_pos (by rfl)]
        refine opIn_append_bytes (.tmp 20) (.tmp 22) 49 rfl W4.heap.size Tryd.underlying49 info_u8f v (11 * L) A rfl (show W.drew.ownsRow _ _ _ _ _ _ from HRow.out) (some ⟨b, o + (16 * x.val + 5), none⟩) 11 11 ((l.drop (16 * x.val + 5)).take 11) rfl HNe.out.1 (show Bytes W.drew _ _ from HP.out) HNe.out.2 (by omega) hsW ?_
        intro v' x4 hr4 hg4
        obtain ⟨a5, c5, rfl, -⟩ := own_slice hr4
        have HG4 := Lib.hid hg4
        have HR4 := Lib.hid hr4
        have HX4 := Lib.hid ((show Blo W.drew B _ _ from HBx.out).grown hg4 HAp.out)
        have cb4 := HX4.out.cell 0
        have fb4 := HX4.out.frozen 0
        simp at cb4
        clear hr4 hg4
        refine hK _ _ ?_
        clear hK K
        refine wpAnyIn_ready (rs := [4]) (by kernel_rfl) (by simp) (AllReadyIn.cons rfl (fun K hK => ?_) AllReadyIn.nil)
        go_simp
        refine hK _ _ ?_
        clear hK K
        refine wpAnyIn_done (by kernel_rfl) ?_ _
        refine gat_end HPL.out HME.out HA.out (show Gr w W4.heap.size B (11 * L) A W.drew from ⟨⟨v, HBx.out, HRow.out⟩, HBe.out.drew, hle, hhs⟩) hsW HG4.out HR4.out HX4.out (show W.drew.ownsRow _ _ _ _ _ _ from HRow.out) ⟨KeepsOthers.drew W, Kc.refl _ _⟩
  case done =>
    rintro D ys W hD hys ⟨hE, hsW⟩ hK
    obtain ⟨v, hbx, hrow⟩ := hE.row
    have hl8 : ys.length = 8 := by have := congrArg List.length hys; simpa using this
    rw [hys, gatL_range, hl8] at hrow
    have hgl : (gat l 8).length = 88 := by have := gatL_len HL.out ys; rw [hys, gatL_range, hl8] at this; exact this
    have hcp := own_slice hrow
    obtain ⟨a, c, rfl, hn, hBy, hnl⟩ := Bytes.own hrow (fun x hx => by
      obtain ⟨k, _, h⟩ := List.mem_flatMap.1 hx
      exact HY.out.1 x (List.mem_of_mem_drop (List.mem_of_mem_take h)))
    obtain ⟨a6, c6, e6, hc6⟩ := hcp
    cases e6
    have HBy := Lib.hid hBy
    have HBl := Lib.hid hE.below
    have hb0 := hbx.cell 0
    simp at hb0
    clear hE hrow hys hbx hn hnl
    go_wp2
    go_region
    go_wp2
    refine ⟨by simp, .inl ⟨_, _, rfl, run_takeDeferred hK, ?_⟩⟩
    refine ⟨.tuple #[.int .i64 (v2 l 0 : Nat), .int .i64 (v2 l 2 : Nat), .slice a 88 c], by simp [results, Tryd.f67, go_sem], a, c, rfl, bytes_own (show Bytes W.drew _ _ from HBy.out) (grownBy_putObj' _ D (.deferred none)) (fun r e => by cases e; exact ⟨_, hK, rfl⟩), hc6, HBl.out.drew.trans (belowK_b (w := w) (Nat.le_refl _) W.drew D _ _ (by omega) hK rfl rfl)⟩
  case stop =>
    rintro D c pre W _ _ h _
    exact h.elim
end Go.Proofs.YtlkgaefabahkoaaDoor
/-
  What lies in memory while summary.parse goes on.
-/
namespace Go.Proofs.YtlkgaefabahkoaaDoor
open Go.RowKit

/-- A reader: its bytes came in. -/
def RdW (w : World) (R : Nat) (l : List Nat) (wr : World) : Prop := ∃ a n cap, RdS wr R a n cap l ∧ Bytes w a l
theorem RdW.move {w wr w' : World} {R : Nat} {l : List Nat} (h : RdW w R l wr) (hR : w'.heap[R]? = wr.heap[R]?) (hb : Below w.heap.size w w') : RdW w R l w' := by
  obtain ⟨a, n, c, h, hy⟩ := h
  exact ⟨a, n, c, ⟨hR.trans h.blo, h.len, h.le, h.lt, hy.below hb, h.nil⟩, hy⟩
theorem take_rd {w wr : World} (k R : Nat) (L : List Nat) (o : Nat) (h : RdW w R (L.drop o) wr) (hk : k ≤ 4) :
    Calls Tryd.prog 92 #[.pointer (some ⟨R, 0, none⟩), .int .i64 k] wr fun e w' => e = .returned (.int .i64 (val ((L.drop o).take k) : Nat)) ∧ RdW w R (L.drop (o + k)) w' ∧ wr.grownBy w' (some R) := by
  obtain ⟨a, n, cap, h, hy⟩ := h
  refine (take_any k R a n cap _ h hk).mono ?_
  rintro e w' ⟨a', n', cap', he, hr, hg, hW⟩
  have hy2 := hW _ hy
  rw [List.drop_drop] at hr hy2
  exact ⟨he, ⟨a', n', cap', hr, hy2⟩, hg⟩
/-- The result's box, the reader, the part that is built. -/
structure Pr (w : World) (L : List Nat) (i p x : Int) (P o : Nat) (fv iv : Value) (wr : World) : Prop where
  res : Blo wr w.heap.size 36 #[.int .i64 0, .int .i64 0, .int .i64 0, .int .i64 0, .int .i64 0, .slice none 0 0, .slice none 0 0]
  rd : RdW w (w.heap.size + 1) (L.drop o) wr
  pt : Blo wr P 36 #[.int .i64 0, .int .i64 0, .int .i64 i, .int .i64 p, .int .i64 x, fv, iv]
  below : Below w.heap.size w wr
  lo : w.heap.size + 1 < P
section
variable {w wr w' : World} {L : List Nat} {i p x : Int} {P o : Nat} {fv iv : Value} {X : Nat → Prop}
theorem Pr.out (h : Pr w L i p x P o fv iv wr) (hb : Out X wr w') (hX : ∀ g, X g → P < g) : Pr w L i p x P o fv iv w' := by
  have hl := h.lo
  have hB : Below w.heap.size w w' := h.below.trans (hb.below h.below.size (fun g _ hg => by have := hX g hg; omega))
  obtain ⟨a, n, c, hr, _⟩ := id h.rd
  exact ⟨hb.blo h.res (fun hx => by have := hX _ hx; omega), h.rd.move (hb.block _ hr.blo.lt (fun hx => by have := hX _ hx; omega)) hB, hb.blo h.pt (fun hx => by have := hX _ hx; omega), hB, hl⟩
theorem Pr.later (h : Pr w L i p x P o fv iv wr) (hb : Below wr.heap.size wr w') : Pr w L i p x P o fv iv w' := h.out (Out.of_below (X := fun _ => False) hb) (fun _ h => h.elim)
theorem Pr.drew (h : Pr w L i p x P o fv iv wr) : Pr w L i p x P o fv iv wr.drew := h.later ((Below.refl _ wr).drew)
theorem Pr.take {k : Nat} (h : Pr w L i p x P o fv iv wr) (hr : RdW w (w.heap.size + 1) (L.drop (o + k)) w') (hg : wr.grownBy w' (some (w.heap.size + 1))) : Pr w L i p x P (o + k) fv iv w' := by
  have hl := h.lo
  exact ⟨h.res.grown hg (by simp), hr, h.pt.grown hg (by simp; omega), h.below.grown hg h.below.size (fun k e => by cases e; omega), hl⟩
theorem Pr.put5 (h : Pr w L i p x P o fv iv wr) (u : Value) : Pr w L i p x P o u iv (wr.setCell ⟨P, 5, none⟩ u) := by
  have hl := h.lo
  have hB : Below w.heap.size w (wr.setCell ⟨P, 5, none⟩ u) := h.below.setCell (p := ⟨P, 5, none⟩) (by show _ ≤ P; omega) u
  refine ⟨h.res.far (by show _ ≠ P; omega) u, h.rd.move (Below.heap_setCell wr _ u _ (by show _ ≠ P; omega)) hB, ?_, hB, hl⟩
  exact h.pt.put 5 u
theorem Pr.put6 (h : Pr w L i p x P o fv iv wr) (u : Value) : Pr w L i p x P o fv u (wr.setCell ⟨P, 6, none⟩ u) := by
  have hl := h.lo
  have hB : Below w.heap.size w (wr.setCell ⟨P, 6, none⟩ u) := h.below.setCell (p := ⟨P, 6, none⟩) (by show _ ≤ P; omega) u
  refine ⟨h.res.far (by show _ ≠ P; omega) u, h.rd.move (Below.heap_setCell wr _ u _ (by show _ ≠ P; omega)) hB, ?_, hB, hl⟩
  exact h.pt.put 6 u
end
theorem Fo.out {w w' : World} {X : Nat → Prop} {base k : Nat} {v : Value} {av : Nat → Value} {l : List Fi} (h : Fo w base v av l k) (hb : Out X w w') (hX : ∀ g, X g → g < w.heap.size → g < base) : Fo w' base v av l k :=
  ⟨hb.own h.row (fun g e hx => by obtain ⟨h1, h2, -⟩ := oblo h.row e; have := hX g hx h2; omega), fun i hi => hb.own (h.its i hi) (fun g e hx => by obtain ⟨h1, h2, -⟩ := oblo (h.its i hi) e; have := hX g hx h2; omega)⟩
theorem own_weak {w : World} {b s : Nat} {e : TypeId} {size n : Nat} {v : Value} {xs : List Value} (h : w.ownsRow b e size v n xs) (hs : s ≤ b) : w.ownsRow s e size v n xs := by
  refine ⟨h.1, ?_⟩
  rcases h.2 with h1 | ⟨g, cap, cur, h1, h2, h3⟩
  · exact .inl h1
  · exact .inr ⟨g, cap, cur, h1, by omega, h3⟩
theorem own_out {w w' : World} {X : Nat → Prop} {b : Nat} {e : TypeId} {size n : Nat} {v : Value} {xs : List Value} (h : w.ownsRow b e size v n xs) (hb : Out X w w') (hX : ∀ g, X g → g < w.heap.size → g < b) : w'.ownsRow b e size v n xs :=
  hb.own h (fun g eg hx => by obtain ⟨h1, h2, -⟩ := oblo h eg; have := hX g hx h2; omega)
/-- The lists of two files lie in two blocks. -/
def SepAv (av : Nat → Value) (k : Nat) : Prop := ∀ i j, i < j → j < k → ∀ g, (av i).ownBlock = some g → (av j).ownBlock ≠ some g
theorem SepAv.next {w : World} {av : Nat → Value} {k FB n : Nat} {fv v : Value} {xs : List Value} (h : SepAv av k) (hl : ∀ i, i < k → ∀ g, (av i).ownBlock = some g → g < FB) (hO : w.ownsRow (FB + 1) IT 1 v n xs) : SepAv (updF av k v) (k + 1) := fun i j hij hj g e => by
  by_cases hjk : j = k
  · subst hjk
    rw [updF_ne _ _ _ (by omega)] at e
    rw [updF_at]
    intro e2
    have := hl i hij g e
    have := (oblo hO e2).1
    omega
  · rw [updF_ne _ _ _ (by omega)] at e
    rw [updF_ne _ _ _ hjk]
    exact h i j hij (by omega) g e
def FoLt (B : Nat) (v : Value) (av : Nat → Value) (k : Nat) : Prop := (∀ g, v.ownBlock = some g → g < B) ∧ ∀ i, i < k → ∀ g, (av i).ownBlock = some g → g < B
theorem Fo.lt {w : World} {base k : Nat} {v : Value} {av : Nat → Value} {l : List Fi} (h : Fo w base v av l k) : FoLt w.heap.size v av k := ⟨fun g e => (oblo h.row e).2.1, fun i hi g e => (oblo (h.its i hi) e).2.1⟩
theorem Fo.outB {w w' : World} {X : Nat → Prop} {base k B : Nat} {v : Value} {av : Nat → Value} {l : List Fi} (h : Fo w base v av l k) (hl : FoLt B v av k) (hb : Out X w w') (hX : ∀ g, X g → g < base ∨ B ≤ g) : Fo w' base v av l k :=
  ⟨hb.own h.row (fun g e hx => by have h1 := (oblo h.row e).1; have := hX g hx; have := hl.1 g e; omega), fun i hi => hb.own (h.its i hi) (fun g e hx => by have h1 := (oblo (h.its i hi) e).1; have := hX g hx; have := hl.2 i hi g e; omega)⟩
section
variable {w z0 z1 z2 z3 : World} {L : List Nat} {i p x : Int} {P o : Nat} {fv iv : Value}
theorem inner_end {FB k j : Nat} {av : Nat → Value} {fs : List Fi} {a0 a1 u : Value} {xs ys : List Int} {v v' : Value} {E : Obj} (hP : Pr w L i p x P o fv iv z1) (hPF : P < FB) (hX : Blo z1 FB FN #[a0, a1, v]) (hO : z1.ownsRow (FB + 1) IT 1 v j (cellsI xs)) (hF : Fo z1 (P + 1) fv av fs k) (hl : FoLt FB fv av k)
    (hr : z3.ownsRow (FB + 1) IT 1 v' (j + 1) (cellsI xs ++ [u])) (hg : (z1.alloc E).grownBy z3 v.ownBlock) (hys : cellsI ys = cellsI xs ++ [u]) :
    Pr w L i p x P o fv iv (z3.setCell ⟨FB, 2, none⟩ v') ∧ Blo (z3.setCell ⟨FB, 2, none⟩ v') FB FN #[a0, a1, v'] ∧ (z3.setCell ⟨FB, 2, none⟩ v').ownsRow (FB + 1) IT 1 v' (j + 1) (cellsI ys) ∧ Fo (z3.setCell ⟨FB, 2, none⟩ v') (P + 1) fv av fs k := by
  have o1 : Out (fun g => FB ≤ g) z1 (z1.alloc E) := Out.of_below (sup_pc z1 E)
  have o2 : Out (fun g => FB ≤ g) (z1.alloc E) z3 := Out.of_grown hg (fun g e => by have := (oblo hO e).1; omega)
  have o3 : Out (fun g => FB ≤ g) z3 (z3.setCell ⟨FB, 2, none⟩ v') := out_put z3 ⟨FB, 2, none⟩ v' (Nat.le_refl _)
  have o4 := (o1.trans o2 (fun _ _ h => h)).trans o3 (fun _ _ h => h)
  have hX3 : Blo z3 FB FN #[a0, a1, v] := (hX.alloc E).grown hg (fun e => by have := (oblo hO e.symm).1; omega)
  refine ⟨hP.out o4 (fun g hg => by omega), hX3.put 2 v', ?_, hF.outB hl o4 (fun g hg => .inr hg)⟩
  rw [hys]
  exact own_far hr (p := ⟨FB, 2, none⟩) (fun e => by have h5 := (oblo hr e.symm).1; simp at h5; omega) v'
theorem file_end {FB k nl : Nat} {av : Nat → Value} {fs : List Fi} {la : Option Addr} {lc : Nat} {v' : Value} {f : Fi} (hP : Pr w L i p x P o fv iv z0) (hPF : P < FB) (hO : z0.ownsRow (FB + 1) IT 1 (.slice la nl lc) nl (cellsI f.lb)) (hF : Fo z0 (P + 1) fv av fs k) (hf : fs.getD k fi0 = f) (hnl : f.lb.length = nl) (hz : P < z0.heap.size)
    (hl : FoLt FB fv av k) (hs : SepAv av k) (hr : z2.ownsRow (P + 1) FN 3 v' (k + 1) (flo fs av k ++ [.int .i64 f.ino, .int .i64 f.ver, .slice la nl lc])) (hg : (z0.alloc (.cells #[.int .i64 f.ino, .int .i64 f.ver, .slice la nl lc] FN)).grownBy z2 fv.ownBlock) :
    Pr w L i p x P o v' iv (z2.setCell ⟨P, 5, none⟩ v') ∧ (∃ av', Fo (z2.setCell ⟨P, 5, none⟩ v') (P + 1) v' av' fs (k + 1) ∧ SepAv av' (k + 1)) ∧ P < (z2.setCell ⟨P, 5, none⟩ v').heap.size := by
  have hb := sup_pc z0 (.cells #[.int .i64 f.ino, .int .i64 f.ver, .slice la nl lc] FN)
  have F1 := hF.later hb
  have F2 := F1.next (v' := v') (u := .slice la nl lc) (by rw [hf]; exact hr) hg (by rw [hf, hnl]; exact own_weak (own_later hO hb) (by omega))
  have o2 : Out (fun g => P < g) (z0.alloc (.cells #[.int .i64 f.ino, .int .i64 f.ver, .slice la nl lc] FN)) z2 := Out.of_grown hg (fun g e => by have := (oblo F1.row e).1; omega)
  refine ⟨((hP.later hb).out o2 (fun g hg => hg)).put5 v', ⟨_, F2.out (out_put z2 ⟨P, 5, none⟩ v' (X := fun g => g = P) rfl) (fun g e _ => by omega), hs.next (fv := fv) hl.2 hO⟩, ?_⟩
  rw [World.size_setCell]
  have := hb.size
  have := hg.size
  omega
theorem ino_end {SB k j : Nat} {av : Nat → Value} {fs : List Fi} {u : Value} {xs ys : List Int} {v' : Value} {E : Obj} (hP : Pr w L i p x P o fv iv z1) (hPF : P < SB) (hO : z1.ownsRow SB IT 1 iv j (cellsI xs)) (hF : Fo z1 (P + 1) fv av fs k) (hl : FoLt SB fv av k)
    (hr : z3.ownsRow SB IT 1 v' (j + 1) (cellsI xs ++ [u])) (hg : (z1.alloc E).grownBy z3 iv.ownBlock) (hys : cellsI ys = cellsI xs ++ [u]) :
    Pr w L i p x P o fv v' (z3.setCell ⟨P, 6, none⟩ v') ∧ (z3.setCell ⟨P, 6, none⟩ v').ownsRow SB IT 1 v' (j + 1) (cellsI ys) ∧ Fo (z3.setCell ⟨P, 6, none⟩ v') (P + 1) fv av fs k := by
  have o1 : Out (fun g => SB ≤ g) z1 (z1.alloc E) := Out.of_below (sup_pc z1 E)
  have o2 : Out (fun g => SB ≤ g) (z1.alloc E) z3 := Out.of_grown hg (fun g e => (oblo hO e).1)
  have o4 := o1.trans o2 (fun _ _ h => h)
  refine ⟨(hP.out o4 (fun g hg => by omega)).put6 v', ?_, (hF.outB hl o4 (fun g hg => .inr hg)).out (out_put z3 ⟨P, 6, none⟩ v' (X := fun g => g = P) rfl) (fun g e _ => by omega)⟩
  rw [hys]
  exact own_far hr (p := ⟨P, 6, none⟩) (fun e => by have h5 := (oblo hr e.symm).1; simp at h5; omega) v'
end
theorem Fo.weak {w : World} {b s k : Nat} {v : Value} {av : Nat → Value} {l : List Fi} (h : Fo w b v av l k) (hs : s ≤ b) : Fo w s v av l k := ⟨own_weak h.row hs, fun i hi => own_weak (h.its i hi) hs⟩
theorem par_end {w wq : World} {L : List Nat} {i p x : Int} {P o SB k j : Nat} {fv iv : Value} {av : Nat → Value} {fs : List Fi} {xs : List Int} (hP : Pr w L i p x P o fv iv wq) (hO : wq.ownsRow SB IT 1 iv j (cellsI xs)) (hF : Fo wq (P + 1) fv av fs k) (hS : P < SB) (cs : Array Value) :
    Blo (wq.setRow w.heap.size cs) w.heap.size 36 cs ∧ Fo (wq.setRow w.heap.size cs) w.heap.size fv av fs k ∧ (wq.setRow w.heap.size cs).ownsRow SB IT 1 iv j (cellsI xs) ∧ Below w.heap.size w (wq.setRow w.heap.size cs) := by
  have hl := hP.lo
  have o1 : Out (fun g => g = w.heap.size) wq (wq.setRow w.heap.size cs) := out_row wq w.heap.size cs rfl
  exact ⟨blo_row hP.res cs, (hF.out o1 (fun g e _ => by omega)).weak (by omega), own_out hO o1 (fun g e _ => by omega), below_setRow hP.below (Nat.le_refl _) cs⟩
theorem fi_oneP (a b : Int) (v : Value) (hv : v.oneCell' = true) : ∀ u ∈ [Value.int .i64 a, .int .i64 b, v], u.oneCell' = true := fun u hu => by
  rcases List.mem_cons.1 hu with e | hu
  · rw [e]; rfl
  · rcases List.mem_cons.1 hu with e | hu
    · rw [e]; rfl
    · rw [List.mem_singleton.1 hu]; exact hv
theorem results_row_tmp {P : Program} {fn : Func} {p u : Tmp} {ty : TypeId} (h : fn.results = #[.cell p ty, .tmp u]) (tmps : Array Value) (w : World) (g : Nat) (t : TypeId) (cs : Array Value) (d : TypeDesc)
    (hp : tmps.getD p undef = .pointer (some ⟨g, 0, none⟩)) (hg : Blo w g t cs)
    (hu : P.underlying ty = some d) (hd : (match d with | .struct _ | .array _ _ => true | _ => false) = true) (hi : (P.info? ty).map (·.size) = some cs.size) :
    (results fn tmps).run P w = .ok (.tuple #[.agg cs, tmps.getD u undef]) w := by
  have hp' : tmps[p]?.getD undef = .pointer (some ⟨g, 0, none⟩) := by simpa using hp
  simp [results, h, hp', asAddr, run_loadVar_row w g t ty cs (0, 0) d hg hu hd hi]
theorem results_row_tmp2 {P : Program} {fn : Func} {p u v : Tmp} {ty : TypeId} (h : fn.results = #[.cell p ty, .tmp u, .tmp v]) (tmps : Array Value) (w : World) (g : Nat) (t : TypeId) (cs : Array Value) (d : TypeDesc)
    (hp : tmps.getD p undef = .pointer (some ⟨g, 0, none⟩)) (hg : Blo w g t cs)
    (hu : P.underlying ty = some d) (hd : (match d with | .struct _ | .array _ _ => true | _ => false) = true) (hi : (P.info? ty).map (·.size) = some cs.size) :
    (results fn tmps).run P w = .ok (.tuple #[.agg cs, tmps.getD u undef, tmps.getD v undef]) w := by
  have hp' : tmps[p]?.getD undef = .pointer (some ⟨g, 0, none⟩) := by simpa using hp
  simp [results, h, hp', asAddr, run_loadVar_row w g t ty cs (0, 0) d hg hu hd hi]
theorem lbAt_snoc (w : List Nat) (o n : Nat) : lbAt w o (n + 1) = lbAt w o n ++ [((v2 w (o + 2 * n) : Nat) : Int) - 1000] := by simp [lbAt, List.range_succ]
theorem inosM_snoc (w : List Nat) (o n : Nat) : inosM w o (n + 1) = inosM w o n ++ [((at' w (o + n) : Nat) : Int)] := by simp [inosM, List.range_succ]
theorem lbAt_len (w : List Nat) (o n : Nat) : (lbAt w o n).length = n := by simp [lbAt]
theorem inosM_len (w : List Nat) (o n : Nat) : (inosM w o n).length = n := by simp [inosM]
theorem filesM_len (w : List Nat) (n : Nat) : (filesM w n).length = n := by simp [filesM]
theorem filesM_get (w : List Nat) {n k : Nat} (h : k < n) : (filesM w n).getD k fi0 = fiAt w (pos w k) := by simp [filesM, List.getD_eq_getElem?_getD, h]
end Go.Proofs.YtlkgaefabahkoaaDoor
/-
  The walk of summary.parse.
-/
namespace Go.Proofs.YtlkgaefabahkoaaDoor
open Go.RowKit

set_option maxRecDepth 100000 in
set_option maxHeartbeats 4000000 in
theorem parse_any {w : World} (a : Option Addr) (n cap : Nat) (L : List Nat) (hn : n = L.length) (h9 : n ≤ 1000) (hcap : n ≤ cap) (hY : Bytes w a L) (hnl : a = none → L = [] ∧ cap = 0) :
    Calls Tryd.prog 68 #[.slice a n cap] w fun e w' => ∃ fa fc av iv SB, e = .returned (.tuple #[.agg #[.int .i64 0, .int .i64 0, .int .i64 (at' L 0 : Nat), .int .i64 (at' L 1 : Nat), .int .i64 (v2 L 2 : Nat), .slice fa (at' L 4) fc, iv], .int .u32 (sumM L : Nat)]) ∧
      Fo w' w.heap.size (.slice fa (at' L 4) fc) av (filesM L (at' L 4)) (at' L 4) ∧ w'.ownsRow SB IT 1 iv (at' L 5) (cellsI (inosM L (pos L (at' L 4)) (at' L 5))) ∧ (∀ i g, i < at' L 4 → (av i).ownBlock = some g → g < SB) ∧ SepAv av (at' L 4) ∧ w.heap.size ≤ SB ∧ Below w.heap.size w w' := by
  have HN := Lib.hid hn
  have H9 := Lib.hid h9
  have HBL : Hid (∀ i, at' L i < 256) := fun i => at_lt hY.1 i
  have HR0 : Hid (RdW w (w.heap.size + 1) (L.drop 0) ((w.alloc (.cells #[.int .i64 0, .int .i64 0, .int .i64 0, .int .i64 0, .int .i64 0, .slice none 0 0, .slice none 0 0] 36)).alloc (.cells #[.slice a n cap] TRD))) := by
    have := blo_laid (w.alloc (.cells #[.int .i64 0, .int .i64 0, .int .i64 0, .int .i64 0, .int .i64 0, .slice none 0 0, .slice none 0 0] 36)) TRD #[.slice a n cap]
    rw [World.size_alloc] at this
    exact ⟨a, n, cap, ⟨this, hn, hcap, h9, (hY.below (sup_pc _ _)).below (sup_pc _ _), hnl⟩, hY⟩
  have HT0 : Hid (Blo ((w.alloc (.cells #[.int .i64 0, .int .i64 0, .int .i64 0, .int .i64 0, .int .i64 0, .slice none 0 0, .slice none 0 0] 36)).alloc (.cells #[.slice a n cap] TRD)) w.heap.size 36 #[.int .i64 0, .int .i64 0, .int .i64 0, .int .i64 0, .int .i64 0, .slice none 0 0, .slice none 0 0]) := (blo_laid w _ _).later (sup_pc _ _)
  have HB0 : Hid (Below w.heap.size w ((w.alloc (.cells #[.int .i64 0, .int .i64 0, .int .i64 0, .int .i64 0, .int .i64 0, .slice none 0 0, .slice none 0 0] 36)).alloc (.cells #[.slice a n cap] TRD))) := (sup_pc w _).trans ((sup_pc _ _).mono (by simp))
  have HS0 : Hid (((w.alloc (.cells #[.int .i64 0, .int .i64 0, .int .i64 0, .int .i64 0, .int .i64 0, .slice none 0 0, .slice none 0 0] 36)).alloc (.cells #[.slice a n cap] TRD)).heap.size = w.heap.size + 2) := by simp [Hid]
  clear hY hnl hcap h9 hn
  go_enter Tryd.func68, Tryd.ntmps68
  go_wp2_with fail
  generalize (w.alloc (.cells #[.int .i64 0, .int .i64 0, .int .i64 0, .int .i64 0, .int .i64 0, .slice none 0 0, .slice none 0 0] 36)).alloc (.cells #[.slice a n cap] TRD) = u0 at *
  refine (take_rd 1 (w.heap.size + 1) L 0 HR0.out (by decide)).mono ?_
  rintro e u1 ⟨rfl, hr, hg⟩
  have HR1 := Lib.hid hr
  have HT1 := Lib.hid (HT0.out.grown hg (by simp))
  have HB1 := Lib.hid (HB0.out.grown hg HB0.out.size (fun k e => by cases e; omega))
  have HS1 : Hid (w.heap.size + 2 ≤ u1.heap.size) := Nat.le_trans (by have := HS0.out; omega) hg.size
  rw [val_1 L 0]
  clear hr hg HR0 HT0 HB0 HS0
  go_wp2_with fail
  refine (take_rd 1 (w.heap.size + 1) L 1 HR1.out (by decide)).mono ?_
  rintro e u2 ⟨rfl, hr, hg⟩
  have HR2 := Lib.hid hr
  have HT2 := Lib.hid (HT1.out.grown hg (by simp))
  have HB2 := Lib.hid (HB1.out.grown hg HB1.out.size (fun k e => by cases e; omega))
  have HS2 : Hid (w.heap.size + 2 ≤ u2.heap.size) := Nat.le_trans (by exact HS1.out) hg.size
  rw [val_1 L 1]
  clear hr hg HR1 HT1 HB1 HS1
  go_wp2_with fail
  refine (take_rd 2 (w.heap.size + 1) L 2 HR2.out (by decide)).mono ?_
  rintro e u3 ⟨rfl, hr, hg⟩
  have HR3 := Lib.hid hr
  have HT3 := Lib.hid (HT2.out.grown hg (by simp))
  have HB3 := Lib.hid (HB2.out.grown hg HB2.out.size (fun k e => by cases e; omega))
  have HS3 : Hid (w.heap.size + 2 ≤ u3.heap.size) := Nat.le_trans (by exact HS2.out) hg.size
  rw [val_2 L 2]
  clear hr hg HR2 HT2 HB2 HS2
  go_wp2_with fail
  have HP : Hid (Pr w L (at' L 0 : Nat) (at' L 1 : Nat) (v2 L 2 : Nat) u3.heap.size 4 (.slice none 0 0) (.slice none 0 0) (u3.alloc (.cells #[.int .i64 0, .int .i64 0, .int .i64 (at' L 0 : Nat), .int .i64 (at' L 1 : Nat), .int .i64 (v2 L 2 : Nat), .slice none 0 0, .slice none 0 0] 36))) := by
    have hb := sup_pc u3 (.cells #[.int .i64 0, .int .i64 0, .int .i64 (at' L 0 : Nat), .int .i64 (at' L 1 : Nat), .int .i64 (v2 L 2 : Nat), .slice none 0 0, .slice none 0 0] 36)
    obtain ⟨a', n', c', hr, hy⟩ := HR3.out
    exact ⟨HT3.out.later hb, RdW.move ⟨a', n', c', hr, hy⟩ (hb.block _ hr.blo.lt) (HB3.out.trans (hb.mono HB3.out.size)), blo_laid u3 _ _, HB3.out.trans (hb.mono HB3.out.size), by have := HS3.out; omega⟩
  have HPs : Hid (u3.heap.size < (u3.alloc (.cells #[.int .i64 0, .int .i64 0, .int .i64 (at' L 0 : Nat), .int .i64 (at' L 1 : Nat), .int .i64 (v2 L 2 : Nat), .slice none 0 0, .slice none 0 0] 36)).heap.size) := by simp [Hid]
  clear HR3 HT3 HB3 HS3
  generalize u3.alloc (.cells #[.int .i64 0, .int .i64 0, .int .i64 (at' L 0 : Nat), .int .i64 (at' L 1 : Nat), .int .i64 (v2 L 2 : Nat), .slice none 0 0, .slice none 0 0] 36) = y0 at *
  generalize u3.heap.size = P at *
  refine (take_rd 1 (w.heap.size + 1) L 4 HP.out.rd (by decide)).mono ?_
  rintro e y1 ⟨rfl, hr, hg⟩
  have HP1 := Lib.hid (HP.out.take hr hg)
  have HQ1 : Hid (P < y1.heap.size) := Nat.lt_of_lt_of_le HPs.out hg.size
  rw [val_1 L 4]
  clear hr hg HP HPs
  go_wp2_with fail
  refine (take_rd 1 (w.heap.size + 1) L 5 HP1.out.rd (by decide)).mono ?_
  rintro e y2 ⟨rfl, hr, hg⟩
  have HP2 := Lib.hid (HP1.out.take hr hg)
  have HQ2 : Hid (P < y2.heap.size) := Nat.lt_of_lt_of_le HQ1.out hg.size
  rw [val_1 L 5]
  clear hr hg HP1 HQ1
  go_wp2_with fail
  refine (take_rd 4 (w.heap.size + 1) L 6 HP2.out.rd (by decide)).mono ?_
  rintro e y3 ⟨rfl, hr, hg⟩
  have HP3 := Lib.hid (HP2.out.take hr hg)
  have HQ3 : Hid (P < y3.heap.size) := Nat.lt_of_lt_of_le HQ2.out hg.size
  rw [show val ((L.drop 6).take 4) = sumM L from val_4 L 6]
  clear hr hg HP2 HQ2
  have hsum : sumM L < 4294967296 := by
    have b6 := HBL.out 6
    have b7 := HBL.out 7
    have b8 := HBL.out 8
    have b9 := HBL.out 9
    unfold sumM
    omega
  have hb4 := HBL.out 4
  have hb5 := HBL.out 5
  obtain ⟨nf, hnf⟩ : ∃ nf, at' L 4 = nf := ⟨_, rfl⟩
  obtain ⟨ni, hni⟩ : ∃ ni, at' L 5 = ni := ⟨_, rfl⟩
  obtain ⟨sm, hsm⟩ : ∃ sm, sumM L = sm := ⟨_, rfl⟩
  obtain ⟨pi, hpi⟩ : ∃ pi, at' L 0 = pi := ⟨_, rfl⟩
  obtain ⟨pp, hpp⟩ : ∃ pp, at' L 1 = pp := ⟨_, rfl⟩
  obtain ⟨px, hpx⟩ : ∃ px, v2 L 2 = px := ⟨_, rfl⟩
  have HEq := Lib.hid (show at' L 4 = nf ∧ at' L 5 = ni ∧ sumM L = sm ∧ at' L 0 = pi ∧ at' L 1 = pp ∧ v2 L 2 = px from ⟨hnf, hni, hsm, hpi, hpp, hpx⟩)
  simp only [hnf, hni, hsm, hpi, hpp, hpx] at hb4 hb5 hsum HP3 ⊢
  clear hpi hpp hpx hsm hnf hni
  go_wp2_with fail
  go_loopw [9, 29] (fun _ t wr => ∃ k : Nat, k ≤ nf ∧ t = .int .i64 k ∧ ∃ fa fc av, Pr w L (pi : Nat) (pp : Nat) (px : Nat) P (pos L k) (.slice fa k fc) (.slice none 0 0) wr ∧ Fo wr (P + 1) (.slice fa k fc) av (filesM L nf) k ∧ SepAv av k ∧ P < wr.heap.size) (fun _ t _ => nf - (intOf t).toNat)
  case atStart => exact ⟨0, Nat.zero_le _, rfl, none, 0, _, HP3.out, fo_nil _ _ _, (fun i j _ h => by omega), HQ3.out⟩
  case round =>
    clear HP3 HQ3
    obtain ⟨k, hk, rfl, fa, fc, av, hP, hFo, hSep, hsz⟩ := hrel
    have HSep := Lib.hid hSep
    clear hSep
    by_cases hlt : k < nf
    · obtain ⟨o, ho⟩ : ∃ o, pos L k = o := ⟨_, rfl⟩
      have HE1 : Hid (pos L (k + 1) = o + 4 + 2 * at' L (o + 3)) := by show nxt L (pos L k) = _; rw [ho]; rfl
      have HE2 : Hid ((filesM L nf).getD k fi0 = fiAt L o) := by show _ = _; rw [filesM_get L hlt, ho]
      rw [ho] at hP
      have HP := Lib.hid hP
      have HF := Lib.hid hFo
      have HZ := Lib.hid hsz
      clear hP hFo hsz ho
      have l1 := HP.out.lo
      go_wp2_with fail
      refine (take_rd 1 (w.heap.size + 1) L o HP.out.rd (by decide)).mono ?_
      rintro e x1 ⟨rfl, hr, hg⟩
      have HP1 := Lib.hid (HP.out.take hr hg)
      have HF1 := Lib.hid (HF.out.out (Out.of_grown (X := fun g => g = w.heap.size + 1) hg (fun g e => by cases e; rfl)) (fun g e _ => by omega))
      have HZ1 : Hid (P < x1.heap.size) := Nat.lt_of_lt_of_le HZ.out hg.size
      rw [val_1 L o]
      clear hr hg HP HF HZ
      go_wp2_with fail
      refine (take_rd 2 (w.heap.size + 1) L (o + 1) HP1.out.rd (by decide)).mono ?_
      rintro e x2 ⟨rfl, hr, hg⟩
      have HP2 := Lib.hid (HP1.out.take hr hg)
      have HF2 := Lib.hid (HF1.out.out (Out.of_grown (X := fun g => g = w.heap.size + 1) hg (fun g e => by cases e; rfl)) (fun g e _ => by omega))
      have HZ2 : Hid (P < x2.heap.size) := Nat.lt_of_lt_of_le HZ1.out hg.size
      rw [val_2 L (o + 1)]
      clear hr hg HP1 HF1 HZ1
      have HP3 := Lib.hid (HP2.out.later (sup_pc x2 (.cells #[.int .i64 (at' L o : Nat), .int .i64 (v2 L (o + 1) : Nat), .slice none 0 0] FN)))
      have HX3 := Lib.hid (blo_laid x2 FN #[.int .i64 (at' L o : Nat), .int .i64 (v2 L (o + 1) : Nat), .slice none 0 0])
      have HF3 := Lib.hid (HF2.out.later (sup_pc x2 (.cells #[.int .i64 (at' L o : Nat), .int .i64 (v2 L (o + 1) : Nat), .slice none 0 0] FN)))
      have HLt := Lib.hid HF2.out.lt
      have hPF : P < x2.heap.size := HZ2.out
      have HS3 : Hid ((x2.alloc (.cells #[.int .i64 (at' L o : Nat), .int .i64 (v2 L (o + 1) : Nat), .slice none 0 0] FN)).heap.size = x2.heap.size + 1) := by simp [Hid]
      go_wp2_with fail
      refine (take_rd 1 (w.heap.size + 1) L (o + 3) HP3.out.rd (by decide)).mono ?_
      rintro e x3 ⟨rfl, hr, hg⟩
      have HP4 : Hid (Pr w L (pi : Nat) (pp : Nat) (px : Nat) P (o + 4 + 2 * 0) (.slice fa k fc) (.slice none 0 0) x3) := HP3.out.take hr hg
      have HX4 := Lib.hid (HX3.out.grown hg (by simp; omega))
      have HF4 := Lib.hid (HF3.out.out (Out.of_grown (X := fun g => g = w.heap.size + 1) hg (fun g e => by cases e; rfl)) (fun g e _ => by omega))
      have HS4 : Hid (x2.heap.size < x3.heap.size) := by have := hg.size; have := HS3.out; show _ < _; omega
      rw [val_1 L (o + 3)]
      clear hr hg HP2 HF2 HZ2 HP3 HX3 HF3 HS3
      have hnb := HBL.out (o + 3)
      obtain ⟨nl, hnl⟩ : ∃ nl, at' L (o + 3) = nl := ⟨_, rfl⟩
      have HFI : Hid (fiAt L o = ⟨(at' L o : Nat), (v2 L (o + 1) : Nat), lbAt L (o + 4) nl⟩) := by show _ = _; rw [← hnl]; rfl
      rw [hnl] at HE1 hnb
      rw [hnl]
      clear hnl
      generalize x2.heap.size = FB at *
      obtain ⟨a0, ha0⟩ : ∃ a0, at' L o = a0 := ⟨_, rfl⟩
      obtain ⟨a1, ha1⟩ : ∃ a1, v2 L (o + 1) = a1 := ⟨_, rfl⟩
      simp only [ha0, ha1] at HX4 HFI ⊢
      clear ha0 ha1
      go_wp2_with fail
      go_loopw [38] (fun t wr => ∃ j : Nat, j ≤ nl ∧ t = .int .i64 j ∧ ∃ la lc, Pr w L (pi : Nat) (pp : Nat) (px : Nat) P (o + 4 + 2 * j) (.slice fa k fc) (.slice none 0 0) wr ∧ Blo wr FB FN #[.int .i64 (a0 : Nat), .int .i64 (a1 : Nat), .slice la j lc] ∧ wr.ownsRow (FB + 1) IT 1 (.slice la j lc) j (cellsI (lbAt L (o + 4) j)) ∧ Fo wr (P + 1) (.slice fa k fc) av (filesM L nf) k ∧ FB < wr.heap.size) (fun t _ => nl - (intOf t).toNat)
      case atStart => exact ⟨0, Nat.zero_le _, rfl, none, 0, HP4.out, HX4.out, ⟨by simp [lbAt, cellsI], .inl ⟨rfl, rfl⟩⟩, HF4.out, HS4.out⟩
      case round =>
        clear HP4 HX4 HF4 HS4
        obtain ⟨j, hj, rfl, la, lc, hP, hX, hO, hF, hsz⟩ := hrel
        have HP := Lib.hid hP
        have HX := Lib.hid hX
        have HO := Lib.hid hO
        have HF := Lib.hid hF
        have HZ := Lib.hid hsz
        by_cases hjl : j < nl
        · have d2 := hX.cell 2
          simp at d2
          clear hP hX hO hF hsz
          go_wp2_with fail
          refine wp_region_any (by kernel_rfl) ?_
          change wpAny _ _ _ _ _ _ _ (World.drew _)
          refine wpAny_take (i := 0) (v := Value.pointer (some ⟨FB, 2, none⟩)) rfl (by kernel_rfl) (by kernel_rfl) (by kernel_rfl) (fun _ _ _ h => h) (Or.inl ⟨by rfl, fun W => by first | (go_simp; done) | (go_simp; rfl) | (go_simp; rw [hwz]; done) | (go_simp; rw [hwz])⟩) ?_
          refine wpAny_take (i := 2) (v := Value.func (.func 92) #[.pointer (some ⟨w.heap.size + 1, 0, none⟩)] #[]) rfl (by kernel_rfl) (by kernel_rfl) (by kernel_rfl) (fun _ _ _ h => h) (Or.inl ⟨by rfl, fun W => by first | (go_simp; done) | (go_simp; rfl) | (go_simp; rw [hwz]; done) | (go_simp; rw [hwz])⟩) ?_
          refine wpAny_ready (rs := [1, 3]) (by kernel_rfl) (by simp) (AllReady.cons rfl (fun K hK => ?_) (AllReady.cons rfl (fun K hK => ?_) AllReady.nil))
          · go_simp
            refine hK _ _ ?_
            clear hK K
            refine wpAny_ready (rs := [3]) (by kernel_rfl) (by simp) (AllReady.cons rfl (fun K hK => ?_) AllReady.nil)
            go_simp
            refine (take_rd 2 (w.heap.size + 1) L (o + 4 + 2 * j) HP.out.drew.rd (by decide)).mono ?_
            rintro e z1 ⟨rfl, hr, hg⟩
            have HPz := Lib.hid (HP.out.drew.take hr hg)
            have HXz := Lib.hid ((show Blo wr.drew _ _ _ from HX.out).grown hg (by simp; omega))
            have HOz := Lib.hid (own_out (w := wr.drew) HO.out (Out.of_grown (X := fun g => g = w.heap.size + 1) hg (fun g e => by cases e; rfl)) (fun g e _ => by omega))
            have HFz := Lib.hid (Fo.out (show Fo wr.drew _ _ _ _ _ from ⟨HF.out.row, HF.out.its⟩) (Out.of_grown (X := fun g => g = w.heap.size + 1) hg (fun g e => by cases e; rfl)) (fun g e _ => by omega))
            have hzz : FB < z1.heap.size := Nat.lt_of_lt_of_le HZ.out hg.size
            have d3 := HXz.out.cell 2
            simp at d3
            have HV := Lib.hid (lbAt_snoc L (o + 4) j)
            have hv9 : v2 L (o + 4 + 2 * j) < 65536 := by
              have h1 := HBL.out (o + 4 + 2 * j)
              have h2 := HBL.out (o + 4 + 2 * j + 1)
              unfold v2
              omega
            rw [val_2 L (o + 4 + 2 * j)]
            clear hr hg
            generalize v2 L (o + 4 + 2 * j) = z at *
            have hwz : IntKind.i64.wrap ((z : Int) - 1000) = (z : Int) - 1000 := by rw [IntKind.wrap_i64]; omega
            refine hK _ _ ?_
            clear hK K
            refine wpAny_take (i := 4) (v := Value.int .i64 ((z : Int) - 1000)) rfl (by kernel_rfl) (by kernel_rfl) (by kernel_rfl) (fun _ _ _ h => h) (Or.inl ⟨by rfl, fun W => by first | (go_simp; done) | (go_simp; rfl) | (go_simp; rw [hwz]; done) | (go_simp; rw [hwz])⟩) ?_
            refine wpAny_ready (rs := [5]) (by kernel_rfl) (by simp) (AllReady.cons rfl (fun K hK => ?_) AllReady.nil)
            go_simp
            refine hK _ _ ?_
            clear hK K
            refine wpAny_ready (rs := [6]) (by kernel_rfl) (by simp) (AllReady.cons rfl (fun K hK => ?_) AllReady.nil)
            refine step_append_row rfl (.tmp 41) (.tmp 45) 34 rfl (FB + 1) IT _ 1 8 Tryd.underlying34 info_it (by kernel_rfl) (by decide) (by decide) (.slice la j lc) j (cellsI (lbAt L (o + 4) j)) rfl (own_later HOz.out (sup_pc z1 (.cells #[.int .i64 ((z : Int) - 1000)] IT))) (some ⟨z1.heap.size, 0, none⟩) 1 1 [.int .i64 ((z : Int) - 1000)] rfl rfl (laid_srcO z1 IT _ _ rfl) (by simp [Value.oneCell']) (fun h => by cases h) (by omega) (by simp; omega) ?_
            intro v' z3 hr3 hg3 _
            obtain ⟨a5, c5, rfl, -⟩ := own_slice hr3
            have HE := Lib.hid (inner_end (ys := lbAt L (o + 4) (j + 1)) HPz.out hPF HXz.out HOz.out HFz.out HLt.out hr3 hg3 (by rw [HV.out, ← cellsI_append]; rfl))
            have HX3 := Lib.hid ((HXz.out.alloc (.cells #[.int .i64 ((z : Int) - 1000)] IT)).grown hg3 (fun e => by have := (oblo HOz.out e.symm).1; omega))
            have hz3 : FB < z3.heap.size := by have := hg3.size; simp at this; omega
            have d4 := HX3.out.cell 2
            have e4 := HX3.out.frozen 2
            simp at d4
            clear hr3 hg3
            refine hK _ _ ?_
            clear hK K
            refine wpAny_take (i := 7) (v := Value.pointer (some ⟨FB, 2, none⟩)) rfl (by kernel_rfl) (by kernel_rfl) (by kernel_rfl) (fun _ _ _ h => h) (Or.inl ⟨by rfl, fun W => by first | (go_simp; done) | (go_simp; rfl) | (go_simp; rw [hwz]; done) | (go_simp; rw [hwz])⟩) ?_
            refine wpAny_ready (rs := [8]) (by kernel_rfl) (by simp) (AllReady.cons rfl (fun K hK => ?_) AllReady.nil)
            go_simp
            refine hK _ _ ?_
            clear hK K
            refine wpAny_done (by kernel_rfl) ?_ _
            go_wp2_with fail
            go_roundw
            case rel => exact ⟨j + 1, by omega, by simp, a5, c5, by have := HE.out.1; rwa [show o + 4 + 2 * j + 2 = o + 4 + 2 * (j + 1) by omega] at this, HE.out.2.1, HE.out.2.2.1, HE.out.2.2.2, by rw [World.size_setCell]; exact hz3⟩
            case measure => simp [intOf]; omega
          · go_simp
            refine (take_rd 2 (w.heap.size + 1) L (o + 4 + 2 * j) HP.out.drew.rd (by decide)).mono ?_
            rintro e z1 ⟨rfl, hr, hg⟩
            have HPz := Lib.hid (HP.out.drew.take hr hg)
            have HXz := Lib.hid ((show Blo wr.drew _ _ _ from HX.out).grown hg (by simp; omega))
            have HOz := Lib.hid (own_out (w := wr.drew) HO.out (Out.of_grown (X := fun g => g = w.heap.size + 1) hg (fun g e => by cases e; rfl)) (fun g e _ => by omega))
            have HFz := Lib.hid (Fo.out (show Fo wr.drew _ _ _ _ _ from ⟨HF.out.row, HF.out.its⟩) (Out.of_grown (X := fun g => g = w.heap.size + 1) hg (fun g e => by cases e; rfl)) (fun g e _ => by omega))
            have hzz : FB < z1.heap.size := Nat.lt_of_lt_of_le HZ.out hg.size
            have d3 := HXz.out.cell 2
            simp at d3
            have HV := Lib.hid (lbAt_snoc L (o + 4) j)
            have hv9 : v2 L (o + 4 + 2 * j) < 65536 := by
              have h1 := HBL.out (o + 4 + 2 * j)
              have h2 := HBL.out (o + 4 + 2 * j + 1)
              unfold v2
              omega
            rw [val_2 L (o + 4 + 2 * j)]
            clear hr hg
            generalize v2 L (o + 4 + 2 * j) = z at *
            have hwz : IntKind.i64.wrap ((z : Int) - 1000) = (z : Int) - 1000 := by rw [IntKind.wrap_i64]; omega
            refine hK _ _ ?_
            clear hK K
            refine wpAny_take (i := 4) (v := Value.int .i64 ((z : Int) - 1000)) rfl (by kernel_rfl) (by kernel_rfl) (by kernel_rfl) (fun _ _ _ h => h) (Or.inl ⟨by rfl, fun W => by first | (go_simp; done) | (go_simp; rfl) | (go_simp; rw [hwz]; done) | (go_simp; rw [hwz])⟩) ?_
            refine wpAny_ready (rs := [1, 5]) (by kernel_rfl) (by simp) (AllReady.cons rfl (fun K hK => ?_) (AllReady.cons rfl (fun K hK => ?_) AllReady.nil))
            · go_simp
              refine hK _ _ ?_
              clear hK K
              refine wpAny_ready (rs := [5]) (by kernel_rfl) (by simp) (AllReady.cons rfl (fun K hK => ?_) AllReady.nil)
              go_simp
              refine hK _ _ ?_
              clear hK K
              refine wpAny_ready (rs := [6]) (by kernel_rfl) (by simp) (AllReady.cons rfl (fun K hK => ?_) AllReady.nil)
              refine step_append_row rfl (.tmp 41) (.tmp 45) 34 rfl (FB + 1) IT _ 1 8 Tryd.underlying34 info_it (by kernel_rfl) (by decide) (by decide) (.slice la j lc) j (cellsI (lbAt L (o + 4) j)) rfl (own_later HOz.out (sup_pc z1 (.cells #[.int .i64 ((z : Int) - 1000)] IT))) (some ⟨z1.heap.size, 0, none⟩) 1 1 [.int .i64 ((z : Int) - 1000)] rfl rfl (laid_srcO z1 IT _ _ rfl) (by simp [Value.oneCell']) (fun h => by cases h) (by omega) (by simp; omega) ?_
              intro v' z3 hr3 hg3 _
              obtain ⟨a5, c5, rfl, -⟩ := own_slice hr3
              have HE := Lib.hid (inner_end (ys := lbAt L (o + 4) (j + 1)) HPz.out hPF HXz.out HOz.out HFz.out HLt.out hr3 hg3 (by rw [HV.out, ← cellsI_append]; rfl))
              have HX3 := Lib.hid ((HXz.out.alloc (.cells #[.int .i64 ((z : Int) - 1000)] IT)).grown hg3 (fun e => by have := (oblo HOz.out e.symm).1; omega))
              have hz3 : FB < z3.heap.size := by have := hg3.size; simp at this; omega
              have d4 := HX3.out.cell 2
              have e4 := HX3.out.frozen 2
              simp at d4
              clear hr3 hg3
              refine hK _ _ ?_
              clear hK K
              refine wpAny_take (i := 7) (v := Value.pointer (some ⟨FB, 2, none⟩)) rfl (by kernel_rfl) (by kernel_rfl) (by kernel_rfl) (fun _ _ _ h => h) (Or.inl ⟨by rfl, fun W => by first | (go_simp; done) | (go_simp; rfl) | (go_simp; rw [hwz]; done) | (go_simp; rw [hwz])⟩) ?_
              refine wpAny_ready (rs := [8]) (by kernel_rfl) (by simp) (AllReady.cons rfl (fun K hK => ?_) AllReady.nil)
              go_simp
              refine hK _ _ ?_
              clear hK K
              refine wpAny_done (by kernel_rfl) ?_ _
              go_wp2_with fail
              go_roundw
              case rel => exact ⟨j + 1, by omega, by simp, a5, c5, by have := HE.out.1; rwa [show o + 4 + 2 * j + 2 = o + 4 + 2 * (j + 1) by omega] at this, HE.out.2.1, HE.out.2.2.1, HE.out.2.2.2, by rw [World.size_setCell]; exact hz3⟩
              case measure => simp [intOf]; omega
            · go_simp
              refine hK _ _ ?_
              clear hK K
              refine wpAny_ready (rs := [1]) (by kernel_rfl) (by simp) (AllReady.cons rfl (fun K hK => ?_) AllReady.nil)
              go_simp
              refine hK _ _ ?_
              clear hK K
              refine wpAny_ready (rs := [6]) (by kernel_rfl) (by simp) (AllReady.cons rfl (fun K hK => ?_) AllReady.nil)
              refine step_append_row rfl (.tmp 41) (.tmp 45) 34 rfl (FB + 1) IT _ 1 8 Tryd.underlying34 info_it (by kernel_rfl) (by decide) (by decide) (.slice la j lc) j (cellsI (lbAt L (o + 4) j)) rfl (own_later HOz.out (sup_pc z1 (.cells #[.int .i64 ((z : Int) - 1000)] IT))) (some ⟨z1.heap.size, 0, none⟩) 1 1 [.int .i64 ((z : Int) - 1000)] rfl rfl (laid_srcO z1 IT _ _ rfl) (by simp [Value.oneCell']) (fun h => by cases h) (by omega) (by simp; omega) ?_
              intro v' z3 hr3 hg3 _
              obtain ⟨a5, c5, rfl, -⟩ := own_slice hr3
              have HE := Lib.hid (inner_end (ys := lbAt L (o + 4) (j + 1)) HPz.out hPF HXz.out HOz.out HFz.out HLt.out hr3 hg3 (by rw [HV.out, ← cellsI_append]; rfl))
              have HX3 := Lib.hid ((HXz.out.alloc (.cells #[.int .i64 ((z : Int) - 1000)] IT)).grown hg3 (fun e => by have := (oblo HOz.out e.symm).1; omega))
              have hz3 : FB < z3.heap.size := by have := hg3.size; simp at this; omega
              have d4 := HX3.out.cell 2
              have e4 := HX3.out.frozen 2
              simp at d4
              clear hr3 hg3
              refine hK _ _ ?_
              clear hK K
              refine wpAny_take (i := 7) (v := Value.pointer (some ⟨FB, 2, none⟩)) rfl (by kernel_rfl) (by kernel_rfl) (by kernel_rfl) (fun _ _ _ h => h) (Or.inl ⟨by rfl, fun W => by first | (go_simp; done) | (go_simp; rfl) | (go_simp; rw [hwz]; done) | (go_simp; rw [hwz])⟩) ?_
              refine wpAny_ready (rs := [8]) (by kernel_rfl) (by simp) (AllReady.cons rfl (fun K hK => ?_) AllReady.nil)
              go_simp
              refine hK _ _ ?_
              clear hK K
              refine wpAny_done (by kernel_rfl) ?_ _
              go_wp2_with fail
              go_roundw
              case rel => exact ⟨j + 1, by omega, by simp, a5, c5, by have := HE.out.1; rwa [show o + 4 + 2 * j + 2 = o + 4 + 2 * (j + 1) by omega] at this, HE.out.2.1, HE.out.2.2.1, HE.out.2.2.2, by rw [World.size_setCell]; exact hz3⟩
              case measure => simp [intOf]; omega
        · obtain rfl : j = nl := by omega
          have d0 := hX.cell 0
          have d1 := hX.cell 1
          have d2 := hX.cell 2
          have p5 := hP.pt.cell 5
          have f5 := hP.pt.frozen 5
          simp at d0 d1 d2 p5
          clear hP hX hO hF hsz
          go_wp2_with (at_builtin; refine wp_append_rowO rfl (.tmp 50) (.tmp 52) 33 rfl (P + 1) FN _ 3 40 Tryd.underlying33 info_fn (by kernel_rfl) (by decide) (by decide) (.slice fa k fc) k _ rfl (own_later HF.out.row (sup_pc wr (.cells #[.int .i64 (a0 : Nat), .int .i64 (a1 : Nat), .slice la j lc] FN))) (some ⟨wr.heap.size, 0, none⟩) 1 1 [.int .i64 (a0 : Nat), .int .i64 (a1 : Nat), .slice la j lc] rfl rfl (laid_srcO wr FN _ _ rfl) (fi_oneP _ _ _ rfl) (fun h => by cases h) (by omega) (by have := HZ.out; simp; omega) ?_; intro a3 cap3 z2 hown hgrow hat; have HE := Lib.hid (file_end (f := ⟨(a0 : Nat), (a1 : Nat), lbAt L (o + 4) j⟩) HP.out hPF HO.out HF.out (HE2.out.trans HFI.out) (lbAt_len _ _ _) (by have := HZ.out; omega) HLt.out HSep.out hown hgrow); have hpz := (HP.out.pt.alloc (.cells #[.int .i64 (a0 : Nat), .int .i64 (a1 : Nat), .slice la j lc] FN)).grown hgrow ((HP.out.pt.alloc _).row_apart (own_later HF.out.row (sup_pc wr (.cells #[.int .i64 (a0 : Nat), .int .i64 (a1 : Nat), .slice la j lc] FN))) (by decide)); have q5 := hpz.cell 5; have g5 := hpz.frozen 5; simp at q5; clear hown hgrow hat hpz)
          obtain ⟨av', hF', hS'⟩ := HE.out.2.1
          have HF' := Lib.hid hF'
          have HS' := Lib.hid hS'
          clear hF' hS'
          go_roundw
          case rel => exact ⟨k + 1, by omega, by simp, a3, cap3, av', by rw [HE1.out]; exact HE.out.1, HF'.out, HS'.out, HE.out.2.2⟩
          case measure => simp [intOf]; omega
    · obtain rfl : k = nf := by omega
      have HLt := Lib.hid hFo.lt
      have HP := Lib.hid hP
      have HF := Lib.hid hFo
      have hPS : P < wr.heap.size := hsz
      have l1 := hP.lo
      have HO0 : Hid (wr.ownsRow wr.heap.size IT 1 (.slice none 0 0) 0 (cellsI (inosM L (pos L k) 0))) := ⟨by simp [inosM, cellsI], .inl ⟨rfl, rfl⟩⟩
      have HZ0 : Hid (wr.heap.size ≤ wr.heap.size) := Nat.le_refl _
      clear hP hFo hsz
      generalize hSB : wr.heap.size = SB at hPS HO0 HZ0 HLt
      go_wp2_with fail
      go_loopw [57] (fun t wq => ∃ j : Nat, j ≤ ni ∧ t = .int .i64 j ∧ ∃ ia ic, Pr w L (pi : Nat) (pp : Nat) (px : Nat) P (pos L k + j) (.slice fa k fc) (.slice ia j ic) wq ∧ wq.ownsRow SB IT 1 (.slice ia j ic) j (cellsI (inosM L (pos L k) j)) ∧ Fo wq (P + 1) (.slice fa k fc) av (filesM L k) k ∧ SB ≤ wq.heap.size) (fun t _ => ni - (intOf t).toNat)
      case atStart => exact ⟨0, Nat.zero_le _, rfl, none, 0, HP.out, HO0.out, HF.out, by rw [hSB]; exact Nat.le_refl _⟩
      case round =>
        clear HP HO0 HF HZ0 hSB
        rename World => wq
        obtain ⟨j, hj, rfl, ia, ic, hP, hO, hF, hsz⟩ := hrel
        have HPq := Lib.hid hP
        have HOq := Lib.hid hO
        have HFq := Lib.hid hF
        have HZq := Lib.hid hsz
        by_cases hjl : j < ni
        · have d2 := hP.pt.cell 6
          simp at d2
          clear hP hO hF hsz
          go_wp2_with fail
          refine wp_region_any (by kernel_rfl) ?_
          change wpAny _ _ _ _ _ _ _ (World.drew _)
          refine wpAny_take (i := 0) (v := Value.pointer (some ⟨P, 6, none⟩)) rfl (by kernel_rfl) (by kernel_rfl) (by kernel_rfl) (fun _ _ _ h => h) (Or.inl ⟨by rfl, fun W => by first | (go_simp; done) | (go_simp; rfl) | (go_simp; rw [hwz]; done) | (go_simp; rw [hwz])⟩) ?_
          refine wpAny_take (i := 2) (v := Value.func (.func 92) #[.pointer (some ⟨w.heap.size + 1, 0, none⟩)] #[]) rfl (by kernel_rfl) (by kernel_rfl) (by kernel_rfl) (fun _ _ _ h => h) (Or.inl ⟨by rfl, fun W => by first | (go_simp; done) | (go_simp; rfl) | (go_simp; rw [hwz]; done) | (go_simp; rw [hwz])⟩) ?_
          refine wpAny_ready (rs := [1, 3]) (by kernel_rfl) (by simp) (AllReady.cons rfl (fun K hK => ?_) (AllReady.cons rfl (fun K hK => ?_) AllReady.nil))
          · go_simp
            refine hK _ _ ?_
            clear hK K
            refine wpAny_ready (rs := [3]) (by kernel_rfl) (by simp) (AllReady.cons rfl (fun K hK => ?_) AllReady.nil)
            go_simp
            refine (take_rd 1 (w.heap.size + 1) L (pos L k + j) HPq.out.drew.rd (by decide)).mono ?_
            rintro e z1 ⟨rfl, hr, hg⟩
            have HPz := Lib.hid (HPq.out.drew.take hr hg)
            have HOz := Lib.hid (own_out (w := wq.drew) HOq.out (Out.of_grown (X := fun g => g = w.heap.size + 1) hg (fun g e => by cases e; rfl)) (fun g e _ => by omega))
            have HFz := Lib.hid (Fo.out (show Fo wq.drew _ _ _ _ _ from ⟨HFq.out.row, HFq.out.its⟩) (Out.of_grown (X := fun g => g = w.heap.size + 1) hg (fun g e => by cases e; rfl)) (fun g e _ => by omega))
            have hzz : SB ≤ z1.heap.size := Nat.le_trans HZq.out hg.size
            have hpz : P < z1.heap.size := by omega
            have d3 := HPz.out.pt.cell 6
            simp at d3
            have HV := Lib.hid (inosM_snoc L (pos L k) j)
            have hv9 := HBL.out (pos L k + j)
            rw [val_1 L (pos L k + j)]
            clear hr hg
            generalize at' L (pos L k + j) = z at *
            refine hK _ _ ?_
            clear hK K
            refine wpAny_ready (rs := [4]) (by kernel_rfl) (by simp) (AllReady.cons rfl (fun K hK => ?_) AllReady.nil)
            go_simp
            refine hK _ _ ?_
            clear hK K
            refine wpAny_ready (rs := [5]) (by kernel_rfl) (by simp) (AllReady.cons rfl (fun K hK => ?_) AllReady.nil)
            refine step_append_row rfl (.tmp 60) (.tmp 63) 34 rfl SB IT _ 1 8 Tryd.underlying34 info_it (by kernel_rfl) (by decide) (by decide) (.slice ia j ic) j (cellsI (inosM L (pos L k) j)) rfl (own_later HOz.out (sup_pc z1 (.cells #[.int .i64 (z : Int)] IT))) (some ⟨z1.heap.size, 0, none⟩) 1 1 [.int .i64 (z : Int)] rfl rfl (laid_srcO z1 IT _ _ rfl) (by simp [Value.oneCell']) (fun h => by cases h) (by omega) (by simp; omega) ?_
            intro v' z3 hr3 hg3 _
            obtain ⟨a5, c5, rfl, -⟩ := own_slice hr3
            have HE := Lib.hid (ino_end (ys := inosM L (pos L k) (j + 1)) HPz.out hPS HOz.out HFz.out HLt.out hr3 hg3 (by rw [HV.out, ← cellsI_append]; rfl))
            have HX3 := Lib.hid ((HPz.out.pt.alloc (.cells #[.int .i64 (z : Int)] IT)).grown hg3 ((HPz.out.pt.alloc (.cells #[.int .i64 (z : Int)] IT)).row_apart (own_later HOz.out (sup_pc z1 (.cells #[.int .i64 (z : Int)] IT))) (by decide)))
            have hz3 : SB ≤ z3.heap.size := by have := hg3.size; simp at this; omega
            have d4 := HX3.out.cell 6
            have e4 := HX3.out.frozen 6
            simp at d4
            clear hr3 hg3
            refine hK _ _ ?_
            clear hK K
            refine wpAny_take (i := 6) (v := Value.pointer (some ⟨P, 6, none⟩)) rfl (by kernel_rfl) (by kernel_rfl) (by kernel_rfl) (fun _ _ _ h => h) (Or.inl ⟨by rfl, fun W => by first | (go_simp; done) | (go_simp; rfl) | (go_simp; rw [hwz]; done) | (go_simp; rw [hwz])⟩) ?_
            refine wpAny_ready (rs := [7]) (by kernel_rfl) (by simp) (AllReady.cons rfl (fun K hK => ?_) AllReady.nil)
            go_simp
            refine hK _ _ ?_
            clear hK K
            refine wpAny_done (by kernel_rfl) ?_ _
            go_wp2_with fail
            go_roundw
            case rel => exact ⟨j + 1, by omega, by simp, a5, c5, HE.out.1, HE.out.2.1, HE.out.2.2, by rw [World.size_setCell]; exact hz3⟩
            case measure => simp [intOf]; omega
          · go_simp
            refine (take_rd 1 (w.heap.size + 1) L (pos L k + j) HPq.out.drew.rd (by decide)).mono ?_
            rintro e z1 ⟨rfl, hr, hg⟩
            have HPz := Lib.hid (HPq.out.drew.take hr hg)
            have HOz := Lib.hid (own_out (w := wq.drew) HOq.out (Out.of_grown (X := fun g => g = w.heap.size + 1) hg (fun g e => by cases e; rfl)) (fun g e _ => by omega))
            have HFz := Lib.hid (Fo.out (show Fo wq.drew _ _ _ _ _ from ⟨HFq.out.row, HFq.out.its⟩) (Out.of_grown (X := fun g => g = w.heap.size + 1) hg (fun g e => by cases e; rfl)) (fun g e _ => by omega))
            have hzz : SB ≤ z1.heap.size := Nat.le_trans HZq.out hg.size
            have hpz : P < z1.heap.size := by omega
            have d3 := HPz.out.pt.cell 6
            simp at d3
            have HV := Lib.hid (inosM_snoc L (pos L k) j)
            have hv9 := HBL.out (pos L k + j)
            rw [val_1 L (pos L k + j)]
            clear hr hg
            generalize at' L (pos L k + j) = z at *
            refine hK _ _ ?_
            clear hK K
            refine wpAny_ready (rs := [1, 4]) (by kernel_rfl) (by simp) (AllReady.cons rfl (fun K hK => ?_) (AllReady.cons rfl (fun K hK => ?_) AllReady.nil))
            · go_simp
              refine hK _ _ ?_
              clear hK K
              refine wpAny_ready (rs := [4]) (by kernel_rfl) (by simp) (AllReady.cons rfl (fun K hK => ?_) AllReady.nil)
              go_simp
              refine hK _ _ ?_
              clear hK K
              refine wpAny_ready (rs := [5]) (by kernel_rfl) (by simp) (AllReady.cons rfl (fun K hK => ?_) AllReady.nil)
              refine step_append_row rfl (.tmp 60) (.tmp 63) 34 rfl SB IT _ 1 8 Tryd.underlying34 info_it (by kernel_rfl) (by decide) (by decide) (.slice ia j ic) j (cellsI (inosM L (pos L k) j)) rfl (own_later HOz.out (sup_pc z1 (.cells #[.int .i64 (z : Int)] IT))) (some ⟨z1.heap.size, 0, none⟩) 1 1 [.int .i64 (z : Int)] rfl rfl (laid_srcO z1 IT _ _ rfl) (by simp [Value.oneCell']) (fun h => by cases h) (by omega) (by simp; omega) ?_
              intro v' z3 hr3 hg3 _
              obtain ⟨a5, c5, rfl, -⟩ := own_slice hr3
              have HE := Lib.hid (ino_end (ys := inosM L (pos L k) (j + 1)) HPz.out hPS HOz.out HFz.out HLt.out hr3 hg3 (by rw [HV.out, ← cellsI_append]; rfl))
              have HX3 := Lib.hid ((HPz.out.pt.alloc (.cells #[.int .i64 (z : Int)] IT)).grown hg3 ((HPz.out.pt.alloc (.cells #[.int .i64 (z : Int)] IT)).row_apart (own_later HOz.out (sup_pc z1 (.cells #[.int .i64 (z : Int)] IT))) (by decide)))
              have hz3 : SB ≤ z3.heap.size := by have := hg3.size; simp at this; omega
              have d4 := HX3.out.cell 6
              have e4 := HX3.out.frozen 6
              simp at d4
              clear hr3 hg3
              refine hK _ _ ?_
              clear hK K
              refine wpAny_take (i := 6) (v := Value.pointer (some ⟨P, 6, none⟩)) rfl (by kernel_rfl) (by kernel_rfl) (by kernel_rfl) (fun _ _ _ h => h) (Or.inl ⟨by rfl, fun W => by first | (go_simp; done) | (go_simp; rfl) | (go_simp; rw [hwz]; done) | (go_simp; rw [hwz])⟩) ?_
              refine wpAny_ready (rs := [7]) (by kernel_rfl) (by simp) (AllReady.cons rfl (fun K hK => ?_) AllReady.nil)
              go_simp
              refine hK _ _ ?_
              clear hK K
              refine wpAny_done (by kernel_rfl) ?_ _
              go_wp2_with fail
              go_roundw
              case rel => exact ⟨j + 1, by omega, by simp, a5, c5, HE.out.1, HE.out.2.1, HE.out.2.2, by rw [World.size_setCell]; exact hz3⟩
              case measure => simp [intOf]; omega
            · go_simp
              refine hK _ _ ?_
              clear hK K
              refine wpAny_ready (rs := [1]) (by kernel_rfl) (by simp) (AllReady.cons rfl (fun K hK => ?_) AllReady.nil)
              go_simp
              refine hK _ _ ?_
              clear hK K
              refine wpAny_ready (rs := [5]) (by kernel_rfl) (by simp) (AllReady.cons rfl (fun K hK => ?_) AllReady.nil)
              refine step_append_row rfl (.tmp 60) (.tmp 63) 34 rfl SB IT _ 1 8 Tryd.underlying34 info_it (by kernel_rfl) (by decide) (by decide) (.slice ia j ic) j (cellsI (inosM L (pos L k) j)) rfl (own_later HOz.out (sup_pc z1 (.cells #[.int .i64 (z : Int)] IT))) (some ⟨z1.heap.size, 0, none⟩) 1 1 [.int .i64 (z : Int)] rfl rfl (laid_srcO z1 IT _ _ rfl) (by simp [Value.oneCell']) (fun h => by cases h) (by omega) (by simp; omega) ?_
              intro v' z3 hr3 hg3 _
              obtain ⟨a5, c5, rfl, -⟩ := own_slice hr3
              have HE := Lib.hid (ino_end (ys := inosM L (pos L k) (j + 1)) HPz.out hPS HOz.out HFz.out HLt.out hr3 hg3 (by rw [HV.out, ← cellsI_append]; rfl))
              have HX3 := Lib.hid ((HPz.out.pt.alloc (.cells #[.int .i64 (z : Int)] IT)).grown hg3 ((HPz.out.pt.alloc (.cells #[.int .i64 (z : Int)] IT)).row_apart (own_later HOz.out (sup_pc z1 (.cells #[.int .i64 (z : Int)] IT))) (by decide)))
              have hz3 : SB ≤ z3.heap.size := by have := hg3.size; simp at this; omega
              have d4 := HX3.out.cell 6
              have e4 := HX3.out.frozen 6
              simp at d4
              clear hr3 hg3
              refine hK _ _ ?_
              clear hK K
              refine wpAny_take (i := 6) (v := Value.pointer (some ⟨P, 6, none⟩)) rfl (by kernel_rfl) (by kernel_rfl) (by kernel_rfl) (fun _ _ _ h => h) (Or.inl ⟨by rfl, fun W => by first | (go_simp; done) | (go_simp; rfl) | (go_simp; rw [hwz]; done) | (go_simp; rw [hwz])⟩) ?_
              refine wpAny_ready (rs := [7]) (by kernel_rfl) (by simp) (AllReady.cons rfl (fun K hK => ?_) AllReady.nil)
              go_simp
              refine hK _ _ ?_
              clear hK K
              refine wpAny_done (by kernel_rfl) ?_ _
              go_wp2_with fail
              go_roundw
              case rel => exact ⟨j + 1, by omega, by simp, a5, c5, HE.out.1, HE.out.2.1, HE.out.2.2, by rw [World.size_setCell]; exact hz3⟩
              case measure => simp [intOf]; omega
        · obtain rfl : j = ni := by omega
          have hpt := hP.pt
          have hrs := hP.res
          have HE := Lib.hid (par_end hP hO hF hPS #[.int .i64 0, .int .i64 0, .int .i64 (pi : Nat), .int .i64 (pp : Nat), .int .i64 (px : Nat), .slice fa k fc, .slice ia j ic])
          clear hP hO hF hsz
          go_wp2_with (first | (refine wpList_load_row rfl 36 (.tmp 5) rfl P rfl 36 #[.int .i64 0, .int .i64 0, .int .i64 (pi : Nat), .int .i64 (pp : Nat), .int .i64 (px : Nat), .slice fa k fc, .slice ia j ic] (0, 0) _ hpt Tryd.underlying36 rfl (by kernel_rfl) ?_) | (refine wpList_store_row rfl 36 (.tmp 2) (.tmp 67) rfl w.heap.size (#[.int .i64 0, .int .i64 0, .int .i64 (pi : Nat), .int .i64 (pp : Nat), .int .i64 (px : Nat), .slice fa k fc, .slice ia j ic]) (by first | rfl | simp [go_sem]) (by first | rfl | simp [go_sem]) 36 _ hrs (by kernel_rfl) rfl (by simp [Value.oneCell']) ?_))
          (try simp only [Exit.inBlock, Exit.then])
          refine bodyPost_ret (results_row_tmp (p := 2) (u := 3) (ty := 36) rfl _ _ w.heap.size 36 #[.int .i64 0, .int .i64 0, .int .i64 (pi : Nat), .int .i64 (pp : Nat), .int .i64 (px : Nat), .slice fa k fc, .slice ia j ic] _ (by simp) HE.out.1 Tryd.underlying36 rfl (by kernel_rfl)) rfl ?hR
          case hR =>
            obtain ⟨e1, e2, e3, e4, e5, e6⟩ := HEq.out
            simp only [e1, e2, e3, e4, e5, e6]
            exact ⟨fa, fc, av, .slice ia j ic, SB, rfl, HE.out.2.1, HE.out.2.2.1, fun i g hi hg => HLt.out.2 i hi g hg, HSep.out, by omega, HE.out.2.2.2⟩
end Go.Proofs.YtlkgaefabahkoaaDoor
