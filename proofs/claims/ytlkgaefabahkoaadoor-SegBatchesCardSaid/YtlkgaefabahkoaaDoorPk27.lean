/-
  SgBat · SgScn · SgBaP · SgNxt · SgBtT: these texts in one.
-/
import Derived.Test.YtlkgaefabahkoaaDoorPk14
import Derived.Test.YtlkgaefabahkoaaDoorPk01
import Derived.BigQuiet
import Derived.Lib.SliceRun
import Derived.Deep.DeepCutAuto
/-
  Partial segments: a batch.
-/
namespace Go.Proofs.YtlkgaefabahkoaaDoor
open Go.RowKit

/-- A part in memory, its blocks by their types. -/
structure PtU (W : World) (m : Sm) (fa : Option Addr) (fc : Nat) (ia : Option Addr) (ic : Nat) : Prop where
  fo : ∃ base av, Fo W base (.slice fa m.fs.length fc) av m.fs m.fs.length
  ino : ∃ base, W.ownsRow base IT 1 (.slice ia m.is.length ic) m.is.length (cellsI m.is)
/-- Pieces of a batch, the first r of n; then it stops. -/
structure BtP (d : Dm) (B S I E cnt : Int) (r n : Nat) (A : Nat → Nat) (M : Nat → Sm) (LS : Nat → List (List Nat)) : Prop where
  back : ∀ i, i < r → Back d (A i) (M i) (LS i)
  ins : ∀ i, i < r → InSeg B S I ((A i : Nat) : Int) ∧ ((rdN (M i) + 2 : Nat) : Int) ≤ S - (((A i : Nat) : Int) - 3) % S
  e : ∀ i, i < r → (M i).e = E
  c : ∀ i, i < r → (M i).c = cnt + ((i : Nat) : Int)
  i : ∀ i, i < r → (M i).i = ((i : Nat) : Int)
  p : ∀ i, i < r → (M i).p = ((n : Nat) : Int)
  x : ∀ i, i < r → (M i).x = ((A (i + 1) : Nat) : Int)
  small : ∀ i, i < r → szF (M i).fs ≤ 1000000 ∧ (M i).is.length ≤ 1000000
  stop : r < n → readC d ((A r : Nat) : Int) ≠ 0
  le : r ≤ n
  pos : 1 ≤ n
  top : n ≤ 1000
  cb : 0 ≤ cnt ∧ cnt ≤ 1000000
/-- A row of what was found. -/
def BdRow (w : World) (base : Nat) (v : Value) (k : Nat) (A : Nat → Nat) (M : Nat → Sm) : Prop :=
  ∃ xs, w.ownsRow base FDT 9 v k xs ∧ ∀ q, q < k → ∃ fa fc ia ic ba nb bc, (∀ j, j < 9 → xs[q * 9 + j]? = (fdc ((A q : Nat) : Int) (M q) fa fc ia ic ba nb bc)[j]?) ∧ PtU w (M q) fa fc ia ic
section
variable {C base k : Nat} {w w' W : World} {L : Dl} {d : Dm} {v : Value} {A : Nat → Nat} {M : Nat → Sm}
theorem PtU.of {m : Sm} {fa : Option Addr} {fc : Nat} {ia : Option Addr} {ic : Nat} (h : PtO w base m fa fc ia ic) : PtU w m fa fc ia ic := by
  obtain ⟨⟨av, h1⟩, h2⟩ := h
  exact ⟨⟨base, av, h1⟩, ⟨base, h2⟩⟩
theorem PtU.later {m : Sm} {fa : Option Addr} {fc : Nat} {ia : Option Addr} {ic : Nat} (h : PtU w m fa fc ia ic) (hb : Below w.heap.size w w') : PtU w' m fa fc ia ic := by
  obtain ⟨⟨b, av, h1⟩, ⟨c, h2⟩⟩ := h
  exact ⟨⟨b, av, h1.later hb⟩, ⟨c, own_later h2 hb⟩⟩
theorem PtU.out {X : Nat → Prop} {m : Sm} {fa : Option Addr} {fc : Nat} {ia : Option Addr} {ic : Nat} (h : PtU w m fa fc ia ic) (ho : Out X w w') (hX : ∀ g, X g → ∃ t cs, Blo w g t cs ∧ t ≠ FN ∧ t ≠ IT) : PtU w' m fa fc ia ic := by
  obtain ⟨⟨b, av, h1⟩, ⟨c, h2⟩⟩ := h
  have own : ∀ {e : TypeId} {base size n : Nat} {v : Value} {xs : List Value}, e = FN ∨ e = IT → w.ownsRow base e size v n xs → w'.ownsRow base e size v n xs := fun {e base size n v xs} he hr => ho.own hr (fun q e1 e2 => by
    obtain ⟨-, -, cs, hb⟩ := oblo hr e1
    obtain ⟨t, cs2, hb2, n1, n2⟩ := hX q e2
    rcases he with rfl | rfl
    · exact hb.apart hb2 (fun e => n1 e.symm) rfl
    · exact hb.apart hb2 (fun e => n2 e.symm) rfl)
  exact ⟨⟨b, av, own (.inl rfl) h1.row, fun i hi => own (.inr rfl) (h1.its i hi)⟩, ⟨c, own (.inr rfl) h2⟩⟩
theorem BdRow.form (h : BdRow w base v k A M) : ∃ a c, v = .slice a k c := by
  obtain ⟨xs, h1, _⟩ := h
  obtain ⟨a, c, hv, _⟩ := own_slice h1
  exact ⟨a, c, hv⟩
theorem BdRow.later (h : BdRow w base v k A M) (hb : Below w.heap.size w w') : BdRow w' base v k A M := by
  obtain ⟨xs, h1, h2⟩ := h
  exact ⟨xs, own_later h1 hb, fun q hq => by
    obtain ⟨fa, fc, ia, ic, ba, nb, bc, e, hp⟩ := h2 q hq
    exact ⟨fa, fc, ia, ic, ba, nb, bc, e, hp.later hb⟩⟩
theorem BdRow.out {X : Nat → Prop} (h : BdRow w base v k A M) (ho : Out X w w') (hX : ∀ g, X g → ∃ t cs, Blo w g t cs ∧ t ≠ FN ∧ t ≠ IT ∧ t ≠ FDT) : BdRow w' base v k A M := by
  obtain ⟨xs, h1, h2⟩ := h
  refine ⟨xs, ho.own h1 (fun q e1 e2 => ?_), fun q hq => ?_⟩
  · obtain ⟨-, -, cs, hb⟩ := oblo h1 e1
    obtain ⟨t, cs2, hb2, -, -, n3⟩ := hX q e2
    exact hb.apart hb2 (fun e => n3 e.symm) rfl
  · obtain ⟨fa, fc, ia, ic, ba, nb, bc, e, hp⟩ := h2 q hq
    exact ⟨fa, fc, ia, ic, ba, nb, bc, e, hp.out ho (fun g hg => by
      obtain ⟨t, cs2, hb2, n1, n2, -⟩ := hX g hg
      exact ⟨t, cs2, hb2, n1, n2⟩)⟩
theorem BdRow.snoc {v' : Value} {fa : Option Addr} {fc : Nat} {ia : Option Addr} {ic : Nat} {ba : Option Addr} {nb bc : Nat} {xs : List Value} (hr : w.ownsRow base FDT 9 v k xs) (h2 : ∀ q, q < k → ∃ fa fc ia ic ba nb bc, (∀ j, j < 9 → xs[q * 9 + j]? = (fdc ((A q : Nat) : Int) (M q) fa fc ia ic ba nb bc)[j]?) ∧ PtU w (M q) fa fc ia ic)
    (hp : PtU w (M k) fa fc ia ic) (hg : w.grownBy w' v.ownBlock) (ho : w'.ownsRow base FDT 9 v' (k + 1) (xs ++ (fdc ((A k : Nat) : Int) (M k) fa fc ia ic ba nb bc).toList)) : BdRow w' base v' (k + 1) A M := by
  have hX : ∀ g, v.ownBlock = some g → ∃ t cs, Blo w g t cs ∧ t ≠ FN ∧ t ≠ IT := fun g hv => by
    obtain ⟨-, -, cs, hb⟩ := oblo hr hv
    exact ⟨FDT, cs, hb, by decide, by decide⟩
  have hO : Out (fun g => v.ownBlock = some g) w w' := Out.of_grown hg (fun g e => e)
  have hl : xs.length = k * 9 := hr.1
  refine ⟨_, ho, fun q hq => ?_⟩
  by_cases e : q = k
  · subst e
    refine ⟨fa, fc, ia, ic, ba, nb, bc, fun j hj => ?_, hp.out hO hX⟩
    rw [List.getElem?_append_right (by omega), hl, Nat.add_sub_cancel_left, Array.getElem?_toList]
  · obtain ⟨fa, fc, ia, ic, ba, nb, bc, e2, hp2⟩ := h2 q (by omega)
    refine ⟨fa, fc, ia, ic, ba, nb, bc, fun j hj => ?_, hp2.out hO hX⟩
    rw [List.getElem?_append_left (by omega)]
    exact e2 j hj
/-- What is read of one that was found. -/
theorem BdRow.at {a : Option Addr} {c : Nat} (h : BdRow w base (.slice a k c) k A M) {q : Nat} (hq : q < k) : ∃ b, a = some ⟨b, 0, none⟩ ∧ ∃ fa fc ia ic ba nb bc, (∀ j u, (fdc ((A q : Nat) : Int) (M q) fa fc ia ic ba nb bc)[j]? = some u → w.cell? ⟨b, q * 9 + j, none⟩ = some u) ∧ PtU w (M q) fa fc ia ic := by
  obtain ⟨xs, h1, h2⟩ := h
  obtain ⟨fa, fc, ia, ic, ba, nb, bc, e, hp⟩ := h2 q hq
  have hl : xs.length = k * 9 := h1.1
  rcases id h1.2 with ⟨h3, h0⟩ | ⟨g, cap, cur, hv, _⟩
  · omega
  · cases hv
    refine ⟨g, rfl, fa, fc, ia, ic, ba, nb, bc, fun j u hj => ?_, hp⟩
    have hj9 : j < 9 := (Array.getElem?_eq_some_iff.1 hj).1
    rw [h1.cellAt (q * 9 + j) (by omega), e j hj9, hj]
structure BtR (w : World) (B S I : Int) (A : Nat → Nat) (M : Nat → Sm) (k : Nat) (v : Value) (wr : World) : Prop where
  row : BdRow wr w.heap.size v k A M
  box : Blo wr w.heap.size 70 #[.int .i64 B, .int .i64 S, .int .i64 I]
  below : Below w.heap.size w wr
def BatO (w : World) (r n : Nat) (A : Nat → Nat) (M : Nat → Sm) (e : Ending) (w' : World) : Prop :=
  Below w.heap.size w w' ∧ (r < n → e = .returned (.slice none 0 0)) ∧ (r = n → ∃ a c, e = .returned (.slice a n c) ∧ BdRow w' w.heap.size (.slice a n c) n A M)
set_option maxRecDepth 100000 in
set_option maxHeartbeats 8000000 in
theorem batch_any (B S I E cnt : Int) (r n : Nat) (A : Nat → Nat) (M : Nat → Sm) (LS : Nat → List (List Nat)) (hp : BtP d B S I E cnt r n A M LS) (h : Dk C w L d) (ht : Tab w) (hz : 0 < w.heap.size) :
    Calls Tryd.prog 65 #[.pointer (some ⟨L.bd, 0, none⟩), sup B S I, .int .i64 ((A 0 : Nat) : Int), .int .i64 E, .int .i64 cnt] w (BatO w r n A M) := by
  have hb1 := sup_pc w (.cells #[.int .i64 B, .int .i64 S, .int .i64 I] 70)
  have hs1 := blo_laid w 70 #[.int .i64 B, .int .i64 S, .int .i64 I]
  have HT := Lib.hid (show ∀ W, Below w.heap.size w W → Tab W ∧ 0 < W.heap.size from fun W hb => ⟨ht.below hb hz, by have := hb.size; omega⟩)
  have H := Lib.hid h
  have HP := Lib.hid hp
  have HR0 : Hid (BtR w B S I A M 0 (.slice none 0 0) (w.alloc (.cells #[.int .i64 B, .int .i64 S, .int .i64 I] 70))) := ⟨⟨[], ⟨rfl, .inl ⟨rfl, rfl⟩⟩, fun i hi => by omega⟩, hs1, hb1⟩
  have hcb := hp.cb
  have htop := hp.top
  clear hb1 hs1 h ht hz hp
  go_enter Tryd.func65, Tryd.ntmps65
  go_upto_region 1 with (fail)
  generalize w.alloc (.cells #[.int .i64 B, .int .i64 S, .int .i64 I] 70) = w1 at *
  go_wp2_with fail
  go_loopw [2, 11] (fun t v wr => ∃ k : Nat, k ≤ r ∧ (k < n) ∧ t = .int .i64 ((A k : Nat) : Int) ∧ BtR w B S I A M k v wr) (fun _ v _ => 1001 - (match v with | .slice _ m _ => m | _ => 0))
  case atStart => exact ⟨0, Nat.zero_le _, HP.out.pos, rfl, HR0.out⟩
  case round =>
    clear HR0
    obtain ⟨k, hk, hkn, rfl, hR⟩ := hrel
    have HR := Lib.hid hR
    obtain ⟨va, vc, rfl⟩ := hR.row.form
    have c0 := hR.box.cell 0
    have c1 := hR.box.cell 1
    have c2 := hR.box.cell 2
    simp at c0 c1 c2
    clear hR
    by_cases hlt : k < r
    · have HW := Lib.hid (within_yes B S I (HP.out.back k hlt) (HP.out.ins k hlt).1 (HP.out.ins k hlt).2 (HP.out.small k hlt).1 (HP.out.small k hlt).2 (H.out.later HR.out.below) (HT.out _ HR.out.below).1 (HT.out _ HR.out.below).2)
      go_wp2_with fail
      refine HW.out.mono ?_
      rintro e w3 ⟨fa, fc, ia, ic, ba, bc, rfl, hP3, hb3⟩
      obtain ⟨nb, hnb⟩ : ∃ nb, (LS k).length = nb := ⟨_, rfl⟩
      rw [hnb]
      clear hnb HW
      have hE := HP.out.e k hlt
      have hC := HP.out.c k hlt
      have hI := HP.out.i k hlt
      have hPp := HP.out.p k hlt
      have hX := HP.out.x k hlt
      obtain ⟨m, hm⟩ : ∃ m, M k = m := ⟨_, rfl⟩
      rw [hm] at hE hC hI hPp hX hP3
      have HM := Lib.hid hm
      rw [hm]
      obtain ⟨me, mc, mi, mp, mx, mf, ms⟩ := m
      simp only at hE hC hI hPp hX
      subst hE hC hI hPp hX
      clear hm
      go_upto_region 3 with (fail)
      have hal := sup_pc w3 (.cells (fdc ((A k : Nat) : Int) ⟨me, cnt + ((k : Nat) : Int), ((k : Nat) : Int), ((n : Nat) : Int), ((A (k + 1) : Nat) : Int), mf, ms⟩ fa fc ia ic ba nb bc) FDT)
      have hb4 := hb3.trans (hal.mono hb3.size)
      have HB4 := Lib.hid (HR.out.below.trans (hb4.mono HR.out.below.size))
      have HX4 := Lib.hid (HR.out.box.later hb4)
      have HF4 := Lib.hid (blo_laid w3 FDT (fdc ((A k : Nat) : Int) ⟨me, cnt + ((k : Nat) : Int), ((k : Nat) : Int), ((n : Nat) : Int), ((A (k + 1) : Nat) : Int), mf, ms⟩ fa fc ia ic ba nb bc))
      have HU4 := Lib.hid ((PtU.of hP3).later hal)
      have HRow4 := Lib.hid (HR.out.row.later hb4)
      have HAge : Hid (∀ g, (Value.slice va k vc).ownBlock = some g → g < w3.heap.size) := fun g hg => by
        obtain ⟨xs, h1, _⟩ := HR.out.row
        have := (own_lt h1 hg).2
        have := hb3.size
        omega
      clear hb3 hb4 hal hP3 HR c0 c1 c2
      generalize w3.alloc (.cells #[.int .i64 ((A k : Nat) : Int), .int .i64 me, .int .i64 (cnt + ((k : Nat) : Int)), .int .i64 ((k : Nat) : Int), .int .i64 ((n : Nat) : Int), .int .i64 ((A (k + 1) : Nat) : Int), .slice fa mf.length fc, .slice ia ms.length ic, .slice ba nb bc] FDT) = w4 at *
      generalize w3.heap.size = g12 at *
      have d0 := HF4.out.cell 0
      have d1 := HF4.out.cell 1
      have d2 := HF4.out.cell 2
      have d3 := HF4.out.cell 3
      have d4 := HF4.out.cell 4
      have d5 := HF4.out.cell 5
      have d6 := HF4.out.cell 6
      have d7 := HF4.out.cell 7
      simp at d0 d1 d2 d3 d4 d5 d6 d7
      go_upto_region 4 with (fail)
      have hal := sup_pc w4 (.cells #[.int .i64 me, .int .i64 (cnt + ((k : Nat) : Int)), .int .i64 ((k : Nat) : Int), .int .i64 ((n : Nat) : Int), .int .i64 ((A (k + 1) : Nat) : Int), .slice fa mf.length fc, .slice ia ms.length ic] 36)
      have HB5 := Lib.hid (HB4.out.trans (hal.mono HB4.out.size))
      have HX5 := Lib.hid (HX4.out.later hal)
      have HF5 := Lib.hid (HF4.out.later hal)
      have HU5 := Lib.hid (HU4.out.later hal)
      have HRow5 := Lib.hid (HRow4.out.later hal)
      have HP5 := Lib.hid (blo_laid w4 36 #[.int .i64 me, .int .i64 (cnt + ((k : Nat) : Int)), .int .i64 ((k : Nat) : Int), .int .i64 ((n : Nat) : Int), .int .i64 ((A (k + 1) : Nat) : Int), .slice fa mf.length fc, .slice ia ms.length ic])
      clear hal HB4 HX4 HF4 HU4 HRow4 d0 d1 d2 d3 d4 d5 d6 d7
      generalize w4.alloc (.cells #[.int .i64 me, .int .i64 (cnt + ((k : Nat) : Int)), .int .i64 ((k : Nat) : Int), .int .i64 ((n : Nat) : Int), .int .i64 ((A (k + 1) : Nat) : Int), .slice fa mf.length fc, .slice ia ms.length ic] 36) = w5 at *
      generalize w4.heap.size = g14 at *
      have p0 := HP5.out.cell 0
      have p1 := HP5.out.cell 1
      have p2 := HP5.out.cell 2
      simp at p0 p1 p2
      have q1 : (me != me) = false := by simp
      have q2 : (cnt + ((k : Nat) : Int) != cnt + ((k : Nat) : Int)) = false := by simp
      have q3 : (((k : Nat) : Int) != ((k : Nat) : Int)) = false := by simp
      go_upto_region 6 with (fail)
      clear p0 p1 p2 q1 q2 q3
      have kp : ∀ x : Kept w5, x.at_.cell? ⟨g14, 3, none⟩ = some (.int .i64 ((n : Nat) : Int)) := fun x => (HP5.out.later x.below).cell 3
      have q4 : (((n : Nat) : Int) != ((n : Nat) : Int)) = false := by simp
      have hcs : k = 0 ∨ (0 < k ∧ ∃ bb, va = some ⟨bb, 0, none⟩ ∧ ∀ x : Kept w5, x.at_.cell? ⟨bb, 4, none⟩ = some (.int .i64 ((n : Nat) : Int))) := by
        by_cases h0 : k = 0
        · exact .inl h0
        · refine .inr ⟨by omega, ?_⟩
          obtain ⟨bb, hbb, _⟩ := HRow5.out.at (q := 0) (by omega)
          refine ⟨bb, hbb, fun x => ?_⟩
          obtain ⟨b2, hb2, f1, f2, f3, f4, f5, f6, f7, hcell, _⟩ := (HRow5.out.later x.below).at (q := 0) (by omega)
          rw [hbb] at hb2
          cases hb2
          have h4 : x.at_.cell? ⟨bb, 0 * 9 + 4, none⟩ = some (.int .i64 (M 0).p) := hcell 4 _ rfl
          rw [HP.out.p 0 (by omega)] at h4
          simpa using h4
      rcases hcs with hk0 | ⟨hk0, bb, hva, kr⟩
      all_goals
        first
          | (rw [hva]
             have h0 : (0 : Int) < ((k : Nat) : Int) := by omega
             refine wp_region_kept (by kernel_rfl) (by kernel_rfl) ?_
             repeat (first | go_big_quiet_step (fail) | simp only [q4]))
          | (have h0 : decide (0 < k) = false := decide_eq_false (by omega)
             clear hk0
             refine wp_region_kept (by kernel_rfl) (by kernel_rfl) ?_
             repeat (go_big_quiet_step (fail)))
        refine wpQuiet_nil ?_
        rintro W2 ⟨wx, rfl⟩
        have HB6 := Lib.hid (HB5.out.trans (wx.below.mono HB5.out.size))
        have HX6 := Lib.hid (HX5.out.later wx.below)
        have HF6 := Lib.hid (HF5.out.later wx.below)
        have HU6 := Lib.hid (HU5.out.later wx.below)
        have HRow6 := Lib.hid (HRow5.out.later wx.below)
        have HP6 := Lib.hid (HP5.out.later wx.below)
        clear HB5 HX5 HF5 HU5 HRow5 HP5 kp h0
        (try clear hk0)
        (try rw [← hva])
        (try clear hva kr)
        obtain ⟨wy, hwy⟩ : ∃ wy : World, wy = wx.at_ := ⟨_, rfl⟩
        rw [← hwy] at HB6 HX6 HF6 HU6 HRow6 HP6 ⊢
        clear hwy
        have d0 := HF6.out.cell 0
        have d1 := HF6.out.cell 1
        have d2 := HF6.out.cell 2
        have d3 := HF6.out.cell 3
        have d4 := HF6.out.cell 4
        have d5 := HF6.out.cell 5
        have d6 := HF6.out.cell 6
        have d7 := HF6.out.cell 7
        have d8 := HF6.out.cell 8
        simp at d0 d1 d2 d3 d4 d5 d6 d7 d8
        obtain ⟨xs, hrow, hxs⟩ := HRow6.out
        have HRw := Lib.hid hrow
        have ho1 : ∀ u ∈ (fdc ((A k : Nat) : Int) ⟨me, cnt + ((k : Nat) : Int), ((k : Nat) : Int), ((n : Nat) : Int), ((A (k + 1) : Nat) : Int), mf, ms⟩ fa fc ia ic ba nb bc).toList, u.oneCell' = true := by simp [fdc, Value.oneCell']
        have hwz : w.heap.size ≤ (wy.alloc (.cells (fdc ((A k : Nat) : Int) ⟨me, cnt + ((k : Nat) : Int), ((k : Nat) : Int), ((n : Nat) : Int), ((A (k + 1) : Nat) : Int), mf, ms⟩ fa fc ia ic ba nb bc) FDT)).heap.size := by have := HB6.out.size; rw [World.size_alloc]; omega
        have HSn : Hid (∀ v' w6, w6.ownsRow w.heap.size FDT 9 v' (k + 1) (xs ++ (fdc ((A k : Nat) : Int) ⟨me, cnt + ((k : Nat) : Int), ((k : Nat) : Int), ((n : Nat) : Int), ((A (k + 1) : Nat) : Int), mf, ms⟩ fa fc ia ic ba nb bc).toList) → (wy.alloc (.cells (fdc ((A k : Nat) : Int) ⟨me, cnt + ((k : Nat) : Int), ((k : Nat) : Int), ((n : Nat) : Int), ((A (k + 1) : Nat) : Int), mf, ms⟩ fa fc ia ic ba nb bc) FDT)).grownBy w6 (Value.slice va k vc).ownBlock → BdRow w6 w.heap.size v' (k + 1) A M) := fun v' w6 hown hgr =>
          BdRow.snoc (own_later HRw.out (sup_pc wy _)) (fun q hq => by
            obtain ⟨fa, fc, ia, ic, ba, nb, bc, e, hp⟩ := hxs q hq
            exact ⟨fa, fc, ia, ic, ba, nb, bc, e, hp.later (sup_pc wy _)⟩) (by rw [HM.out]; exact HU6.out.later (sup_pc wy _)) hgr (by rw [HM.out]; exact hown)
        clear hrow hxs HRow6
        by_cases hend : k + 1 = n
        · have q5 : (((k : Nat) : Int) + 1 == ((n : Nat) : Int)) = true := by rw [beq_iff_eq]; omega
          have HEnd := Lib.hid hend
          clear hend
          go_wp2_with (at_builtin; go_loud (refine wp_append_rowO rfl (.tmp 61) (.tmp 63) 83 rfl w.heap.size FDT _ 9 120 Tryd.underlying83 info_fd (by kernel_rfl) (by decide) (by decide) (.slice va k vc) k _ rfl (own_later HRw.out (sup_pc wy _)) (some ⟨wy.heap.size, 0, none⟩) 1 1 (fdc ((A k : Nat) : Int) ⟨me, cnt + ((k : Nat) : Int), ((k : Nat) : Int), ((n : Nat) : Int), ((A (k + 1) : Nat) : Int), mf, ms⟩ fa fc ia ic ba nb bc).toList rfl rfl (laid_srcO wy FDT _ _ rfl) ho1 (fun e => by cases e) (by omega) hwz ?_; intro a6 c6 w6 hown hgrow hat; have HR7 := Lib.hid (HSn.out _ _ hown hgrow); have HB7 := Lib.hid ((HB6.out.trans ((sup_pc wy (.cells (fdc ((A k : Nat) : Int) ⟨me, cnt + ((k : Nat) : Int), ((k : Nat) : Int), ((n : Nat) : Int), ((A (k + 1) : Nat) : Int), mf, ms⟩ fa fc ia ic ba nb bc) FDT)).mono HB6.out.size)).grown hgrow hwz (fun b hb => (own_lt HRw.out hb).1)); have HX7 := Lib.hid ((HX6.out.later (sup_pc wy (.cells (fdc ((A k : Nat) : Int) ⟨me, cnt + ((k : Nat) : Int), ((k : Nat) : Int), ((n : Nat) : Int), ((A (k + 1) : Nat) : Int), mf, ms⟩ fa fc ia ic ba nb bc) FDT))).grown hgrow ((HX6.out.later (sup_pc wy (.cells (fdc ((A k : Nat) : Int) ⟨me, cnt + ((k : Nat) : Int), ((k : Nat) : Int), ((n : Nat) : Int), ((A (k + 1) : Nat) : Int), mf, ms⟩ fa fc ia ic ba nb bc) FDT))).row_apart (own_later HRw.out (sup_pc wy _)) (by decide))); have HP7 := Lib.hid ((HP6.out.later (sup_pc wy (.cells (fdc ((A k : Nat) : Int) ⟨me, cnt + ((k : Nat) : Int), ((k : Nat) : Int), ((n : Nat) : Int), ((A (k + 1) : Nat) : Int), mf, ms⟩ fa fc ia ic ba nb bc) FDT))).grown hgrow ((HP6.out.later (sup_pc wy (.cells (fdc ((A k : Nat) : Int) ⟨me, cnt + ((k : Nat) : Int), ((k : Nat) : Int), ((n : Nat) : Int), ((A (k + 1) : Nat) : Int), mf, ms⟩ fa fc ia ic ba nb bc) FDT))).row_apart (own_later HRw.out (sup_pc wy _)) (by decide))); have p3 := HP7.out.cell 3; have p4 := HP7.out.cell 4; simp at p3 p4; clear hown hgrow hat d0 d1 d2 d3 d4 d5 d6 d7 d8))
          have hfin : BatO w r n A M (.returned (.slice a6 (k + 1) c6)) w6 := ⟨HB7.out, fun h => by have := HEnd.out; omega, fun _ => ⟨a6, c6, by rw [HEnd.out], by have h7 := HR7.out; rw [HEnd.out] at h7; exact h7⟩⟩
          exact bodyPost_ret (v := .slice a6 (k + 1) c6) (by simp [results, Tryd.results65, go_sem]) rfl hfin
        · have q5 : (((k : Nat) : Int) + 1 == ((n : Nat) : Int)) = false := by rw [beq_eq_false_iff_ne]; omega
          go_wp2_with (at_builtin; go_loud (refine wp_append_rowO rfl (.tmp 61) (.tmp 63) 83 rfl w.heap.size FDT _ 9 120 Tryd.underlying83 info_fd (by kernel_rfl) (by decide) (by decide) (.slice va k vc) k _ rfl (own_later HRw.out (sup_pc wy _)) (some ⟨wy.heap.size, 0, none⟩) 1 1 (fdc ((A k : Nat) : Int) ⟨me, cnt + ((k : Nat) : Int), ((k : Nat) : Int), ((n : Nat) : Int), ((A (k + 1) : Nat) : Int), mf, ms⟩ fa fc ia ic ba nb bc).toList rfl rfl (laid_srcO wy FDT _ _ rfl) ho1 (fun e => by cases e) (by omega) hwz ?_; intro a6 c6 w6 hown hgrow hat; have HR7 := Lib.hid (HSn.out _ _ hown hgrow); have HB7 := Lib.hid ((HB6.out.trans ((sup_pc wy (.cells (fdc ((A k : Nat) : Int) ⟨me, cnt + ((k : Nat) : Int), ((k : Nat) : Int), ((n : Nat) : Int), ((A (k + 1) : Nat) : Int), mf, ms⟩ fa fc ia ic ba nb bc) FDT)).mono HB6.out.size)).grown hgrow hwz (fun b hb => (own_lt HRw.out hb).1)); have HX7 := Lib.hid ((HX6.out.later (sup_pc wy (.cells (fdc ((A k : Nat) : Int) ⟨me, cnt + ((k : Nat) : Int), ((k : Nat) : Int), ((n : Nat) : Int), ((A (k + 1) : Nat) : Int), mf, ms⟩ fa fc ia ic ba nb bc) FDT))).grown hgrow ((HX6.out.later (sup_pc wy (.cells (fdc ((A k : Nat) : Int) ⟨me, cnt + ((k : Nat) : Int), ((k : Nat) : Int), ((n : Nat) : Int), ((A (k + 1) : Nat) : Int), mf, ms⟩ fa fc ia ic ba nb bc) FDT))).row_apart (own_later HRw.out (sup_pc wy _)) (by decide))); have HP7 := Lib.hid ((HP6.out.later (sup_pc wy (.cells (fdc ((A k : Nat) : Int) ⟨me, cnt + ((k : Nat) : Int), ((k : Nat) : Int), ((n : Nat) : Int), ((A (k + 1) : Nat) : Int), mf, ms⟩ fa fc ia ic ba nb bc) FDT))).grown hgrow ((HP6.out.later (sup_pc wy (.cells (fdc ((A k : Nat) : Int) ⟨me, cnt + ((k : Nat) : Int), ((k : Nat) : Int), ((n : Nat) : Int), ((A (k + 1) : Nat) : Int), mf, ms⟩ fa fc ia ic ba nb bc) FDT))).row_apart (own_later HRw.out (sup_pc wy _)) (by decide))); have p3 := HP7.out.cell 3; have p4 := HP7.out.cell 4; simp at p3 p4; clear hown hgrow hat d0 d1 d2 d3 d4 d5 d6 d7 d8))
          go_roundw
          case rel => exact ⟨k + 1, by omega, by omega, rfl, HR7.out, HX7.out, HB7.out⟩
          case measure => simp; omega
    · obtain rfl : k = r := by omega
      have HW := Lib.hid (within_no ((A k : Nat) : Int) B S I (HP.out.stop hkn) (H.out.later HR.out.below) (HT.out _ HR.out.below).1 (HT.out _ HR.out.below).2)
      go_wp2_with fail
      refine HW.out.mono ?_
      rintro e w3 ⟨rfl, hb3⟩
      have HB3 := Lib.hid (HR.out.below.trans (hb3.mono HR.out.below.size))
      clear hb3 HW HR c0 c1 c2
      go_wp2_with fail
      refine bodyPost_ret (results_tmp rfl _ _ _) rfl ⟨?_, fun _ => rfl, fun h => by omega⟩
      exact HB3.out.trans (((Below.refl _ _).alloc (Nat.le_refl _) _ |>.alloc (by simp) _).mono HB3.out.size)
end
end Go.Proofs.YtlkgaefabahkoaaDoor
/-
  Partial segments: Scan.
-/
namespace Go.Proofs.YtlkgaefabahkoaaDoor
open Go.RowKit

abbrev SFT := 83
theorem info_sf : (Tryd.prog.info? SFT).map (fun i => (i.zero, i.size, i.bytes)) = some (some (.slice none 0 0), 1, 24) := by kernel_rfl
/-- Batches one behind the other: whole ones, T b the number of pieces ahead of batch b; then one that isn't. -/
structure ScP (d : Dm) (B S I E C0 : Int) (nb : Nat) (T : Nat → Nat) (A : Nat → Nat) (M : Nat → Sm) (LS : Nat → List (List Nat)) (r n : Nat) : Prop where
  good : GoodG B S I
  size : B ≤ d.n
  bat : ∀ b, b < nb → BtP d B S I E (C0 + ((T b : Nat) : Int)) (T (b + 1) - T b) (T (b + 1) - T b) (fun q => A (T b + q)) (fun q => M (T b + q)) (fun q => LS (T b + q))
  mono : ∀ b, b < nb → T b < T (b + 1)
  stop : BtP d B S I E (C0 + ((T nb : Nat) : Int)) r n (fun q => A (T nb + q)) (fun q => M (T nb + q)) (fun q => LS (T nb + q))
  less : r < n
  zero : T 0 = 0
  nb1 : nb ≤ 1000
/-- A row of batches. -/
def SlRow (w : World) (base : Nat) (v : Value) (nb : Nat) (T : Nat → Nat) (A : Nat → Nat) (M : Nat → Sm) : Prop :=
  ∃ xs, w.ownsRow base SFT 1 v nb xs ∧ ∀ b, b < nb → ∃ bs a c, xs[b]? = some (.slice a (T (b + 1) - T b) c) ∧ BdRow w bs (.slice a (T (b + 1) - T b) c) (T (b + 1) - T b) (fun q => A (T b + q)) (fun q => M (T b + q))
section
variable {C base k : Nat} {w w' W : World} {L : Dl} {d : Dm} {v : Value} {A T : Nat → Nat} {M : Nat → Sm}
theorem SlRow.form (h : SlRow w base v k T A M) : ∃ a c, v = .slice a k c := by
  obtain ⟨xs, h1, _⟩ := h
  obtain ⟨a, c, hv, _⟩ := own_slice h1
  exact ⟨a, c, hv⟩
theorem SlRow.later (h : SlRow w base v k T A M) (hb : Below w.heap.size w w') : SlRow w' base v k T A M := by
  obtain ⟨xs, h1, h2⟩ := h
  exact ⟨xs, own_later h1 hb, fun q hq => by
    obtain ⟨bs, a, c, e, hp⟩ := h2 q hq
    exact ⟨bs, a, c, e, hp.later hb⟩⟩
theorem SlRow.snoc {v' : Value} {a : Option Addr} {c : Nat} {bs : Nat} {xs : List Value} (hr : w.ownsRow base SFT 1 v k xs) (h2 : ∀ b, b < k → ∃ bs a c, xs[b]? = some (.slice a (T (b + 1) - T b) c) ∧ BdRow w bs (.slice a (T (b + 1) - T b) c) (T (b + 1) - T b) (fun q => A (T b + q)) (fun q => M (T b + q)))
    (hp : BdRow w bs (.slice a (T (k + 1) - T k) c) (T (k + 1) - T k) (fun q => A (T k + q)) (fun q => M (T k + q))) (hg : w.grownBy w' v.ownBlock) (ho : w'.ownsRow base SFT 1 v' (k + 1) (xs ++ [.slice a (T (k + 1) - T k) c])) : SlRow w' base v' (k + 1) T A M := by
  have hX : ∀ g, v.ownBlock = some g → ∃ t cs, Blo w g t cs ∧ t ≠ FN ∧ t ≠ IT ∧ t ≠ FDT := fun g hv => by
    obtain ⟨-, -, cs, hb⟩ := oblo hr hv
    exact ⟨SFT, cs, hb, by decide, by decide, by decide⟩
  have hO : Out (fun g => v.ownBlock = some g) w w' := Out.of_grown hg (fun g e => e)
  have hl : xs.length = k := by have := hr.1; omega
  refine ⟨_, ho, fun q hq => ?_⟩
  by_cases e : q = k
  · subst e
    exact ⟨bs, a, c, by rw [List.getElem?_append_right (by omega), hl, Nat.sub_self]; rfl, hp.out hO hX⟩
  · obtain ⟨bs, a, c, e2, hp2⟩ := h2 q (by omega)
    exact ⟨bs, a, c, by rw [List.getElem?_append_left (by omega)]; exact e2, hp2.out hO hX⟩
structure ScR (w : World) (B S I : Int) (T : Nat → Nat) (A : Nat → Nat) (M : Nat → Sm) (k : Nat) (v : Value) (wr : World) : Prop where
  row : SlRow wr w.heap.size v k T A M
  box : Blo wr w.heap.size 70 #[.int .i64 B, .int .i64 S, .int .i64 I]
  below : Below w.heap.size w wr
theorem ScR.later {B S I : Int} (h : ScR w B S I T A M k v W) (hb : Below W.heap.size W w') : ScR w B S I T A M k v w' := ⟨h.row.later hb, h.box.later hb, h.below.trans (hb.mono h.below.size)⟩
def ScnO (w : World) (nb : Nat) (C0 : Int) (T : Nat → Nat) (A : Nat → Nat) (M : Nat → Sm) (e : Ending) (w' : World) : Prop :=
  ∃ a c, e = .returned (.tuple #[.slice a nb c, .int .i64 ((A (T nb) : Nat) : Int), .int .i64 (C0 + ((T nb : Nat) : Int))]) ∧ SlRow w' w.heap.size (.slice a nb c) nb T A M ∧ Below w.heap.size w w'
set_option maxRecDepth 100000 in
set_option maxHeartbeats 8000000 in
theorem scan_any (B S I E C0 : Int) (nb : Nat) (T : Nat → Nat) (A : Nat → Nat) (M : Nat → Sm) (LS : Nat → List (List Nat)) (r n : Nat) (hp : ScP d B S I E C0 nb T A M LS r n) (h : Dk C w L d) (ht : Tab w) (hz : 0 < w.heap.size) :
    Calls Tryd.prog 31 #[.pointer (some ⟨L.bd, 0, none⟩), sup B S I, .int .i64 ((A 0 : Nat) : Int), .int .i64 E, .int .i64 C0] w (ScnO w nb C0 T A M) := by
  have hb1 := sup_pc w (.cells #[.int .i64 B, .int .i64 S, .int .i64 I] 70)
  have hs1 := blo_laid w 70 #[.int .i64 B, .int .i64 S, .int .i64 I]
  have HT := Lib.hid (show ∀ W, Below w.heap.size w W → Tab W ∧ 0 < W.heap.size from fun W hb => ⟨ht.below hb hz, by have := hb.size; omega⟩)
  have H := Lib.hid h
  have HP := Lib.hid hp
  have HR0 : Hid (ScR w B S I T A M 0 (.slice none 0 0) (w.alloc (.cells #[.int .i64 B, .int .i64 S, .int .i64 I] 70))) := ⟨⟨[], ⟨rfl, .inl ⟨rfl, rfl⟩⟩, fun i hi => by omega⟩, hs1, hb1⟩
  have hsz := hp.size
  have qN : ∀ (w : World) (a : Option Addr) (n c : Nat), (binOp .eql 83 (.slice a n c) (.slice none 0 0)).run Tryd.prog w = .ok (.bool a.isNone) w := fun w a n c => Lib.run_eql_slice_nil w _ _ a n c 0 0 Tryd.underlying83
  clear hb1 hs1 h ht hz hp
  go_enter Tryd.func31, Tryd.ntmps31
  go_upto_region 1 with (fail)
  generalize w.alloc (.cells #[.int .i64 B, .int .i64 S, .int .i64 I] 70) = w1 at *
  have k0 : ∀ x : Kept w1, x.at_.cell? ⟨w.heap.size, 0, none⟩ = some (.int .i64 B) := fun x => (HR0.out.box.later x.below).cell 0
  have k1 : ∀ x : Kept w1, x.at_.cell? ⟨w.heap.size, 1, none⟩ = some (.int .i64 S) := fun x => (HR0.out.box.later x.below).cell 1
  have k2 : ∀ x : Kept w1, x.at_.cell? ⟨w.heap.size, 2, none⟩ = some (.int .i64 I) := fun x => (HR0.out.box.later x.below).cell 2
  have HC1 : Hid (∀ y : Kept w1, Calls Tryd.prog 64 #[.agg #[.int .i64 B, .int .i64 S, .int .i64 I]] y.at_ fun e w' => e = .returned (.int .i64 0) ∧ Below y.at_.heap.size y.at_ w') := fun y => check_good B S I y.at_ HP.out.good
  have HC2 : Hid (∀ y : Kept w1, Calls Tryd.prog 38 #[.pointer (some ⟨L.bd, 0, none⟩)] y.at_ fun e w' => e = .returned (.int .i64 ((d.n : Nat) : Int)) ∧ Below y.at_.heap.size y.at_ w') := fun y => (dsize_any (H.out.later (HR0.out.below.trans (y.below.mono HR0.out.below.size)))).mono fun e w' ⟨h1, h2⟩ => ⟨h1, by subst h2; exact Below.refl _ _⟩
  have hge : ¬ ((d.n : Nat) : Int) < B := by omega
  refine wp_region_kept (by kernel_rfl) (by kernel_rfl) ?_
  repeat (go_big_quiet_step (first | (go_at_call 64; with_reducible exact kept_call _ (HC1.out _)) | (go_at_call 38; with_reducible exact kept_call _ (HC2.out _))))
  refine wpQuiet_nil ?_
  rintro W2 ⟨wx, rfl⟩
  have HR1 := Lib.hid (HR0.out.later wx.below)
  clear HR0 k0 k1 k2 HC1 HC2 hge hsz
  obtain ⟨wy, hwy⟩ : ∃ wy : World, wy = wx.at_ := ⟨_, rfl⟩
  rw [← hwy] at HR1 ⊢
  clear hwy
  go_wp2_with fail
  go_loopw [2, 4, 13] (fun t c v wr => ∃ b : Nat, b ≤ nb ∧ t = .int .i64 ((A (T b) : Nat) : Int) ∧ c = .int .i64 (C0 + ((T b : Nat) : Int)) ∧ ScR w B S I T A M b v wr) (fun _ _ v _ => 1001 - (match v with | .slice _ m _ => m | _ => 0))
  case atStart => exact ⟨0, Nat.zero_le _, by rw [HP.out.zero], by rw [HP.out.zero]; simp, HR1.out⟩
  case round =>
    clear HR1
    obtain ⟨b, hb, rfl, rfl, hR⟩ := hrel
    have HR := Lib.hid hR
    obtain ⟨va, vc, rfl⟩ := hR.row.form
    have c0 := hR.box.cell 0
    have c1 := hR.box.cell 1
    have c2 := hR.box.cell 2
    simp at c0 c1 c2
    have hTw := HT.out _ hR.below
    clear hR
    by_cases hlt : b < nb
    · have hbp := HP.out.bat b hlt
      have hcb := hbp.cb
      have htop := hbp.top
      have hpos := hbp.pos
      have HBt := Lib.hid (batch_any (w := wr) B S I E (C0 + ((T b : Nat) : Int)) _ _ _ _ _ hbp (H.out.later HR.out.below) hTw.1 hTw.2)
      have HX := Lib.hid (fun q (hq : q < T (b + 1) - T b) => hbp.x q hq)
      rw [Nat.add_zero] at HBt
      have HMo := Lib.hid (HP.out.mono b hlt)
      obtain ⟨N, hN⟩ : ∃ N, T (b + 1) - T b = N := ⟨_, rfl⟩
      have HN := Lib.hid hN
      rw [hN] at htop hpos HBt HX
      clear hbp hTw hN
      obtain ⟨N1, rfl⟩ : ∃ N1, N = N1 + 1 := ⟨N - 1, by omega⟩
      have HTb : Hid (T b + (N1 + 1) = T (b + 1)) := by show _ = _; have := HN.out; have := HMo.out; omega
      go_wp2_with fail
      refine HBt.out.mono ?_
      rintro e w3 ⟨hb3, -, hyes⟩
      obtain ⟨a3, c3, rfl, hrow3⟩ := hyes rfl
      clear hyes HBt c0 c1 c2
      obtain ⟨g3, rfl, -⟩ := hrow3.at (q := 0) (by omega)
      have HRow3 := Lib.hid hrow3
      have HR3 := Lib.hid (HR.out.later hb3)
      obtain ⟨xs, hrow, hxs⟩ := HR3.out.row
      have HRw := Lib.hid hrow
      have hwz : w.heap.size ≤ (w3.alloc (.cells #[.slice (some ⟨g3, 0, none⟩) (N1 + 1) c3] SFT)).heap.size := by have := HR3.out.below.size; rw [World.size_alloc]; omega
      have HSn : Hid (∀ v' w6, w6.ownsRow w.heap.size SFT 1 v' (b + 1) (xs ++ [.slice (some ⟨g3, 0, none⟩) (N1 + 1) c3]) → (w3.alloc (.cells #[.slice (some ⟨g3, 0, none⟩) (N1 + 1) c3] SFT)).grownBy w6 (Value.slice va b vc).ownBlock → SlRow w6 w.heap.size v' (b + 1) T A M ∧ BdRow w6 wr.heap.size (.slice (some ⟨g3, 0, none⟩) (N1 + 1) c3) (N1 + 1) (fun q => A (T b + q)) (fun q => M (T b + q))) := fun v' w6 hown hgr => by
        have hrl := own_later HRw.out (sup_pc w3 (.cells #[.slice (some ⟨g3, 0, none⟩) (N1 + 1) c3] SFT))
        have hO : Out (fun g => (Value.slice va b vc).ownBlock = some g) (w3.alloc (.cells #[.slice (some ⟨g3, 0, none⟩) (N1 + 1) c3] SFT)) w6 := Out.of_grown hgr (fun g e => e)
        have hbd := HRow3.out.later (sup_pc w3 (.cells #[.slice (some ⟨g3, 0, none⟩) (N1 + 1) c3] SFT))
        refine ⟨SlRow.snoc (bs := wr.heap.size) (a := some ⟨g3, 0, none⟩) (c := c3) hrl (fun q hq => ?_) (by rw [HN.out]; exact hbd) hgr (by rw [HN.out]; exact hown), hbd.out hO (fun g hv => ?_)⟩
        · obtain ⟨bs, a, c, e, hp⟩ := hxs q hq
          exact ⟨bs, a, c, e, hp.later (sup_pc w3 _)⟩
        · obtain ⟨-, -, cs, hb⟩ := oblo hrl hv
          exact ⟨SFT, cs, hb, by decide, by decide, by decide⟩
      have HX6 : Hid (∀ w6, BdRow w6 wr.heap.size (.slice (some ⟨g3, 0, none⟩) (N1 + 1) c3) (N1 + 1) (fun q => A (T b + q)) (fun q => M (T b + q)) → w6.cell? ⟨g3, N1 * 9 + 1 + 4, none⟩ = some (.int .i64 ((A (T (b + 1)) : Nat) : Int))) := fun w6 hbd => by
        obtain ⟨g', hg', f1, f2, f3, f4, f5, f6, f7, hcell, _⟩ := hbd.at (q := N1) (by omega)
        cases hg'
        have h5 : w6.cell? ⟨g3, N1 * 9 + 5, none⟩ = some (.int .i64 (M (T b + N1)).x) := hcell 5 _ rfl
        have hx := HX.out N1 (by omega)
        rw [hx, show T b + (N1 + 1) = T (b + 1) from HTb.out] at h5
        exact h5
      have hi0 : (0 : Int) ≤ ((N1 : Nat) : Int) := by omega
      have ho1 : ∀ u ∈ [Value.slice (some ⟨g3, 0, none⟩) (N1 + 1) c3], u.oneCell' = true := by simp [Value.oneCell']
      clear hrow hxs hrow3 hb3 HR
      go_wp2_with (at_builtin; go_loud (refine wp_append_rowO rfl (.tmp 38) (.tmp 40) 80 rfl w.heap.size SFT _ 1 24 Tryd.underlying80 info_sf (by kernel_rfl) (by decide) (by decide) (.slice va b vc) b _ rfl (own_later HRw.out (sup_pc w3 _)) (some ⟨w3.heap.size, 0, none⟩) 1 1 [.slice (some ⟨g3, 0, none⟩) (N1 + 1) c3] rfl rfl (laid_srcO w3 SFT _ _ rfl) ho1 (fun e => by cases e) (by have := HP.out.nb1; omega) hwz ?_; intro a6 c6 w6 hown hgrow hat; have HR7 := Lib.hid (HSn.out _ _ hown hgrow).1; have hx6 := HX6.out w6 (HSn.out _ _ hown hgrow).2; have HB7 := Lib.hid ((HR3.out.below.trans ((sup_pc w3 (.cells #[.slice (some ⟨g3, 0, none⟩) (N1 + 1) c3] SFT)).mono HR3.out.below.size)).grown hgrow hwz (fun b hb => (own_lt HRw.out hb).1)); have HX7 := Lib.hid ((HR3.out.box.later (sup_pc w3 (.cells #[.slice (some ⟨g3, 0, none⟩) (N1 + 1) c3] SFT))).grown hgrow ((HR3.out.box.later (sup_pc w3 (.cells #[.slice (some ⟨g3, 0, none⟩) (N1 + 1) c3] SFT))).row_apart (own_later HRw.out (sup_pc w3 _)) (by decide))); clear hown hgrow hat))
      have ec : C0 + ((T b : Nat) : Int) + (((N1 : Nat) : Int) + 1) = C0 + ((T (b + 1) : Nat) : Int) := by have := HTb.out; omega
      rw [ec]
      refine ⟨⟨b + 1, hlt, rfl, rfl, HR7.out, HX7.out, HB7.out⟩, ?_⟩
      have := HP.out.nb1
      show 1001 - (b + 1) < 1001 - b
      omega
    · obtain rfl : b = nb := by omega
      have HBt := Lib.hid (batch_any (w := wr) B S I E (C0 + ((T b : Nat) : Int)) _ _ _ _ _ HP.out.stop (H.out.later HR.out.below) hTw.1 hTw.2)
      rw [Nat.add_zero] at HBt
      have HLs := Lib.hid HP.out.less
      clear hTw
      go_wp2_with fail
      refine HBt.out.mono ?_
      rintro e w3 ⟨hb3, hno, -⟩
      obtain rfl := hno HLs.out
      have HR3 := Lib.hid (HR.out.later hb3)
      clear hb3 hno HBt HR c0 c1 c2
      obtain ⟨xs, hrow⟩ := HR3.out.row
      have HRw := Lib.hid HR3.out.row
      clear hrow
      go_wp2_with fail
      have hfin : ScnO w b C0 T A M (.returned (.tuple #[.slice va b vc, .int .i64 ((A (T b) : Nat) : Int), .int .i64 (C0 + ((T b : Nat) : Int))])) w3 := ⟨va, vc, rfl, HRw.out, HR3.out.below⟩
      exact bodyPost_ret (v := .tuple #[.slice va b vc, .int .i64 ((A (T b) : Nat) : Int), .int .i64 (C0 + ((T b : Nat) : Int))]) (by simp [results, Tryd.results31, go_sem]) rfl hfin
end
end Go.Proofs.YtlkgaefabahkoaaDoor
/-
  Partial segments: the batches that the law writes, five pieces of three blocks in a segment.
-/
namespace Go.Proofs.YtlkgaefabahkoaaDoor
open Go.RowKit

def nnS (l : List Nat) (i : Nat) : Nat := l.getD i 0 % 4 + 1
/-- The pieces ahead of batch i. -/
def toS (l : List Nat) : Nat → Nat
  | 0 => 0
  | i + 1 => toS l i + nnS l i
/-- The batch that piece q is in. -/
def bOf (l : List Nat) : Nat → Nat
  | 0 => 0
  | q + 1 => if toS l (bOf l q + 1) = q + 1 then bOf l q + 1 else bOf l q
def adS (t : Nat) : Nat := 19 + 16 * (t / 5) + 3 * (t % 5)
def mS (E C : Int) (l : List Nat) (q : Nat) : Sm := ⟨E, C + ((q : Nat) : Int), ((q - toS l (bOf l q) : Nat) : Int), ((nnS l (bOf l q) : Nat) : Int), ((adS (q + 1) : Nat) : Int), [], [((bOf l q : Nat) : Int) + 1]⟩
def lsS (l : List Nat) (q : Nat) : List (List Nat) := lsF (rnd [q - toS l (bOf l q)]) 1
def dS (E C : Int) (l : List Nat) : Nat → Dm
  | 0 => newD 100
  | t + 1 => (segW (dS E C l t) ((adS t : Nat) : Int) (mS E C l t) (lsS l t)).1
theorem nnS_bd (l : List Nat) (i : Nat) : 1 ≤ nnS l i ∧ nnS l i ≤ 4 := by unfold nnS; omega
theorem toS_mono (l : List Nat) {i j : Nat} (h : i ≤ j) : toS l i ≤ toS l j := by
  induction j with
  | zero => have : i = 0 := by omega
            subst this; exact Nat.le_refl _
  | succ j ih =>
    by_cases e : i = j + 1
    · subst e; exact Nat.le_refl _
    · have := ih (by omega)
      show _ ≤ toS l j + nnS l j
      omega
theorem toS_succ (l : List Nat) (i : Nat) : toS l (i + 1) = toS l i + nnS l i := rfl
theorem bOf_bd (l : List Nat) : ∀ q, toS l (bOf l q) ≤ q ∧ q < toS l (bOf l q + 1)
  | 0 => by
    have := nnS_bd l 0
    show toS l 0 ≤ 0 ∧ 0 < toS l 0 + nnS l 0
    have h0 : toS l 0 = 0 := rfl
    omega
  | q + 1 => by
    obtain ⟨h1, h2⟩ := bOf_bd l q
    by_cases e : toS l (bOf l q + 1) = q + 1
    · have h3 : bOf l (q + 1) = bOf l q + 1 := if_pos e
      have := nnS_bd l (bOf l q + 1)
      rw [h3, toS_succ l (bOf l q + 1)]
      omega
    · have h3 : bOf l (q + 1) = bOf l q := if_neg e
      rw [h3]
      omega
theorem bOf_eq (l : List Nat) {b q : Nat} (h1 : toS l b ≤ q) (h2 : q < toS l (b + 1)) : bOf l q = b := by
  obtain ⟨h3, h4⟩ := bOf_bd l q
  by_cases e1 : bOf l q < b
  · have := toS_mono l (show bOf l q + 1 ≤ b from e1)
    omega
  · by_cases e2 : b < bOf l q
    · have := toS_mono l (show b + 1 ≤ bOf l q from e2)
      omega
    · omega
theorem adS_next (t : Nat) : adS t + 3 ≤ adS (t + 1) := by unfold adS; omega
theorem adS_lt {q t : Nat} (h : q < t) : adS q + 3 ≤ adS t := by
  induction t with
  | zero => omega
  | succ t ih =>
    have := adS_next t
    by_cases e : q = t
    · subst e; exact this
    · have := ih (by omega); omega
theorem adS_top {t : Nat} (h : t ≤ 24) : adS t ≤ 95 := by unfold adS; omega
theorem adS_low (t : Nat) : 19 ≤ adS t := by unfold adS; omega
theorem mS_chk (E C : Int) (l : List Nat) (q : Nat) (hE : 0 ≤ E ∧ E ≤ 65535) (hC : 0 ≤ C ∧ C ≤ 60000) (hq : q < 24) (hb : bOf l q ≤ 5) : chkM (mS E C l q) = 0 := by
  obtain ⟨h1, h2⟩ := bOf_bd l q
  rw [toS_succ] at h2
  have hn := nnS_bd l (bOf l q)
  have hx := adS_top (show q + 1 ≤ 24 by omega)
  show chkC E (C + ((q : Nat) : Int)) ((q - toS l (bOf l q) : Nat) : Int) ((nnS l (bOf l q) : Nat) : Int) ((adS (q + 1) : Nat) : Int) [] [((bOf l q : Nat) : Int) + 1] = 0
  unfold chkC
  have hbi : [((bOf l q : Nat) : Int) + 1].any badI = false := by
    have h : ∀ n : Nat, n ≤ 5 → [((n : Nat) : Int) + 1].any badI = false := by decide +kernel
    exact h _ hb
  rw [hbi]
  generalize bOf l q = b at *
  generalize adS (q + 1) = x at *
  generalize nnS l b = n at *
  generalize toS l b = T at *
  have e1 : outB E 0 65535 = false := by unfold outB; simp; omega
  have e2 : outB (C + ((q : Nat) : Int)) 0 65535 = false := by unfold outB; simp; omega
  have e3 : outB ((n : Nat) : Int) 1 64 = false := by unfold outB; simp; omega
  have e4 : outB ((q - T : Nat) : Int) 0 (((n : Nat) : Int) - 1) = false := by unfold outB; simp; omega
  have e5 : outB ((x : Nat) : Int) 0 4095 = false := by unfold outB; simp; omega
  rw [e1, e2, e3, e4, e5]
  rw [if_neg (by decide), if_neg (by decide), if_neg (by decide), if_neg (by decide), if_neg (by decide), if_neg (by simp [szF])]
theorem lsS_len (l : List Nat) (q : Nat) : (lsS l q).length = 1 := lsF_length _ _
theorem lsS_byte (l : List Nat) (q : Nat) : ∀ b ∈ lsS l q, ∀ x ∈ b, x < 256 := by
  obtain ⟨h1, h2⟩ := bOf_bd l q
  rw [toS_succ] at h2
  have hn := nnS_bd l (bOf l q)
  exact rnd_byte (by intro x hx; rcases List.mem_cons.1 hx with rfl | hx; omega; cases hx) _ (by omega)
/-- What stands on the disk once t of them are written. -/
structure BaI (E C : Int) (l : List Nat) (t : Nat) : Prop where
  arm : (dS E C l t).armed = false
  n : (dS E C l t).n = 100
  rm : Rm (dS E C l t) (400 - t * 10)
  here : ∀ q, q < t → Here (dS E C l t) (adS q) (mS E C l q) (lsS l q)
  zero : ∀ j, adS t ≤ j → (dS E C l t).N j = zeroB
theorem BaI.start (E C : Int) (l : List Nat) : BaI E C l 0 :=
  ⟨rfl, rfl, rm_new 100 400 (by decide), fun j hj => by omega, fun j _ => rfl⟩
theorem BaI.next {E C : Int} {l : List Nat} {t : Nat} (h : BaI E C l t) (ht : t < 24) (hE : 0 ≤ E ∧ E ≤ 65535) (hC : 0 ≤ C ∧ C ≤ 60000) (hb : bOf l t ≤ 5) :
    (segW (dS E C l t) ((adS t : Nat) : Int) (mS E C l t) (lsS l t)).2 = 0 ∧ BaI E C l (t + 1) := by
  obtain ⟨ha, hn, hr, hh, hz⟩ := h
  have hc := mS_chk E C l t hE hC ht hb
  have hx := adS_next t
  have hx2 := adS_top (show t + 1 ≤ 24 by omega)
  have hlow := adS_low t
  have e3 : (mS E C l t).x = ((adS (t + 1) : Nat) : Int) := rfl
  have hw : wrB (dS E C l t).n ((adS t : Nat) : Int) (mS E C l t).x (mS E C l t).fs (mS E C l t).is (lsS l t) = true := by
    rw [hn]
    unfold wrB
    have e1 : blks (mS E C l t).fs (mS E C l t).is = 3 := rfl
    have e2 : (lsS l t).all (fun b => b.length == 64) = true := by
      rw [List.all_eq_true]
      intro b hb
      obtain ⟨q, _, rfl⟩ := List.mem_map.1 hb
      simp [rnd, byt_len]
    rw [e1, e2, e3, lsS_len]
    simp only [hasB, Bool.and_eq_true, decide_eq_true_eq, Bool.or_eq_true]
    refine ⟨trivial, ⟨by omega, by omega, by omega⟩, ⟨by omega, by omega, by omega⟩, trivial, ?_⟩
    omega
  have hok := segW_ok ha hc hw
  refine ⟨hok.1, ?_⟩
  have hN := (segW_zero hok.1).2.2
  rw [Int.toNat_natCast, e3, Int.toNat_natCast] at hN
  have hhl := headM_len (mS E C l t) (lsS l t) hc
  have hlen := lsS_len l t
  have e : dS E C l (t + 1) = (segW (dS E C l t) ((adS t : Nat) : Int) (mS E C l t) (lsS l t)).1 := rfl
  have low : ∀ j, j < adS t → (dS E C l (t + 1)).N j = (dS E C l t).N j := by
    intro j hj
    rw [e, hN, setsB_out _ (adS t) _ j (by simp; omega), setsB_out _ (adS (t + 1)) _ j (by simp; omega), setsB_out _ _ _ j (by rw [hlen]; omega)]
  have high : ∀ j, adS t + 3 ≤ j → (dS E C l (t + 1)).N j = zeroB := by
    intro j hj
    rw [e, hN, setsB_out _ (adS t) _ j (by simp; omega)]
    by_cases hxj : adS (t + 1) ≤ j ∧ j < adS (t + 1) + 2
    · obtain ⟨q, rfl⟩ : ∃ q, j = adS (t + 1) + q := ⟨j - adS (t + 1), by omega⟩
      rw [setsB_in _ _ _ q (by simp; omega)]
      match q, (show q < 2 by omega) with
      | 0, _ => rfl
      | 1, _ => rfl
    · rw [setsB_out _ (adS (t + 1)) _ j (by simp; omega), setsB_out _ _ _ j (by rw [hlen]; omega)]
      exact hz j (by omega)
  refine ⟨?_, ?_, ?_, ?_, ?_⟩
  · exact hok.2.1
  · exact (segW_n _ _ _ _).trans hn
  · exact Rm.seg (k := 400 - (t + 1) * 10) (hr.mono (by rw [hlen]; omega))
  · intro j hj
    by_cases e : j = t
    · subst e
      exact segW_here hok.1 (lsS_byte l j)
    · have hj' : j < t := by omega
      obtain ⟨a1, a2, a3, a4, a5, a6, a7⟩ := hh j hj'
      have m1 := adS_lt hj'
      have hlj := lsS_len l j
      refine ⟨a1, a2, a3, ?_, ?_, ?_, fun q hq => ?_⟩
      · have e : (dS E C l (t + 1)).n = (dS E C l t).n := segW_n _ _ _ _
        rw [e]; exact a4
      · rw [low _ (by omega)]; exact a5
      · rw [low _ (by omega)]; exact a6
      · rw [low _ (by omega)]; exact a7 q hq
  · intro j hj
    exact high j (by omega)
theorem BaI.btp {E C : Int} {l : List Nat} {t b r : Nat} (h : BaI E C l t) (ht : t ≤ 24) (hC : 0 ≤ C ∧ C ≤ 60000) (hr : r ≤ nnS l b) (hrt : toS l b + r ≤ t) (hs : r < nnS l b → toS l b + r = t) :
    BtP (dS E C l t) 100 16 9 E (C + ((toS l b : Nat) : Int)) r (nnS l b) (fun q => adS (toS l b + q)) (fun q => mS E C l (toS l b + q)) (fun q => lsS l (toS l b + q)) := by
  have hG : GoodG 100 16 9 := by unfold GoodG; decide
  have hns : nsegs 100 16 9 = 6 := by rw [nsegs_good hG]; decide
  have hnb := nnS_bd l b
  have hbo : ∀ i, i < r → bOf l (toS l b + i) = b := fun i hi => bOf_eq l (by omega) (by rw [toS_succ]; omega)
  refine ⟨fun i hi => (h.here _ (by omega)).back, fun i hi => ?_, fun i _ => rfl, fun i _ => ?_, fun i hi => ?_, fun i hi => ?_, fun i _ => ?_, fun i _ => ⟨by simp [mS, szF], by simp [mS]⟩, fun hlt => ?_, hr, hnb.1, by omega, ?_⟩
  · have e : rdN (mS E C l (toS l b + i)) = 1 := rfl
    show InSeg 100 16 9 ((adS (toS l b + i) : Nat) : Int) ∧ ((rdN (mS E C l (toS l b + i)) + 2 : Nat) : Int) ≤ 16 - (((adS (toS l b + i) : Nat) : Int) - 3) % 16
    rw [e]
    have hq : toS l b + i < 24 := by omega
    generalize toS l b + i = q at *
    obtain ⟨a, ha⟩ : ∃ a, q / 5 = a := ⟨_, rfl⟩
    obtain ⟨s, hs⟩ : ∃ s, q % 5 = s := ⟨_, rfl⟩
    have hs4 : s ≤ 4 := by omega
    have ha4 : a ≤ 4 := by omega
    have he : ((adS q : Nat) : Int) = 19 + 16 * ((a : Nat) : Int) + 3 * ((s : Nat) : Int) := by unfold adS; omega
    unfold InSeg
    rw [hns, he]
    have h5 : s = 0 ∨ s = 1 ∨ s = 2 ∨ s = 3 ∨ s = 4 := by omega
    clear he hs ha hq e
    rcases h5 with rfl | rfl | rfl | rfl | rfl <;> omega
  · show C + ((toS l b + i : Nat) : Int) = _
    omega
  · show ((toS l b + i - toS l (bOf l (toS l b + i)) : Nat) : Int) = _
    rw [hbo i hi]
    omega
  · show ((nnS l (bOf l (toS l b + i)) : Nat) : Int) = _
    rw [hbo i hi]
  · rfl
  · have e0 := hs hlt
    show readC (dS E C l t) ((adS (toS l b + r) : Nat) : Int) ≠ 0
    rw [e0]
    have h1 := adS_top ht
    unfold readC
    rw [Int.toNat_natCast]
    have e1 : hasB (dS E C l t).n ((adS t : Nat) : Int) 2 = true := by rw [h.n]; simp [hasB]; omega
    have e2 : okB (rdL (dS E C l t) (adS t)) = false := by
      unfold rdL
      rw [h.zero _ (Nat.le_refl _), h.zero _ (Nat.le_succ _)]
      exact zero_no
    rw [e1, e2, if_neg (by decide), if_pos rfl]
    decide
  · omega
theorem BaI.scp {E C : Int} {l : List Nat} {t b : Nat} (h : BaI E C l t) (ht : t ≤ 24) (hC : 0 ≤ C ∧ C ≤ 60000) (h1 : toS l b ≤ t) (h2 : t < toS l (b + 1)) (hb : b ≤ 1000) :
    ScP (dS E C l t) 100 16 9 E C b (toS l) adS (mS E C l) (lsS l) (t - toS l b) (nnS l b) := by
  have hG : GoodG 100 16 9 := by unfold GoodG; decide
  have hd : ∀ j, toS l (j + 1) - toS l j = nnS l j := fun j => by rw [toS_succ]; omega
  rw [toS_succ] at h2
  refine ⟨hG, by rw [h.n]; decide, fun j hj => ?_, fun j hj => ?_, ?_, by omega, rfl, hb⟩
  · rw [hd]
    have := toS_mono l (show j + 1 ≤ b from hj)
    rw [toS_succ] at this
    exact h.btp ht hC (Nat.le_refl _) (by omega) (fun h => by omega)
  · have := nnS_bd l j
    rw [toS_succ]
    omega
  · exact h.btp ht hC (by omega) (by omega) (fun _ => by omega)
end Go.Proofs.YtlkgaefabahkoaaDoor
/-
  Partial segments: the closure that tells where the next piece of three blocks comes.
-/
namespace Go.Proofs.YtlkgaefabahkoaaDoor
open Go.RowKit

abbrev PLT := 74
theorem in_seg6 {x : Int} (h1 : 3 ≤ x) (h2 : x < 99) : InSeg 100 16 9 x := by
  have hns : nsegs 100 16 9 = 6 := by rw [nsegs_good (by unfold GoodG; decide)]; decide
  unfold InSeg
  rw [hns]
  omega
section
variable {w : World} {g : Nat}
structure NxS (w : World) (g : Nat) (z c : Int) (W : World) : Prop where
  sup : Blo W g 70 #[.int .i64 100, .int .i64 16, .int .i64 9]
  at_ : Blo W w.heap.size PLT #[.int .i64 z, .int .i64 c]
  res : Blo W (w.heap.size + 1) PLT #[.int .i64 0, .int .i64 0]
  below : Below w.heap.size w W
theorem NxS.later {w W W' : World} {g : Nat} {z c : Int} (h : NxS w g z c W) (hb : Below W.heap.size W W') : NxS w g z c W' := ⟨h.sup.later hb, h.at_.later hb, h.res.later hb, h.below.trans (hb.mono h.below.size)⟩
theorem NxS.cells {w W : World} {g : Nat} {z c : Int} (h : NxS w g z c W) : W.cell? ⟨g, 0, none⟩ = some (.int .i64 100) ∧ W.cell? ⟨g, 1, none⟩ = some (.int .i64 16) ∧ W.cell? ⟨g, 2, none⟩ = some (.int .i64 9) ∧ W.cell? ⟨w.heap.size, 0, none⟩ = some (.int .i64 z) ∧ W.cell? ⟨w.heap.size, 1, none⟩ = some (.int .i64 c) := ⟨h.sup.cell 0, h.sup.cell 1, h.sup.cell 2, h.at_.cell 0, h.at_.cell 1⟩
theorem NxS.start {w : World} {g : Nat} (z c : Int) (hx : Blo w g 70 #[.int .i64 100, .int .i64 16, .int .i64 9]) : NxS w g z c ((w.alloc (.cells #[.int .i64 z, .int .i64 c] PLT)).alloc (.cells #[.int .i64 0, .int .i64 0] PLT)) := by
  have h1 := sup_pc w (.cells #[.int .i64 z, .int .i64 c] PLT)
  have h2 := sup_pc (w.alloc (.cells #[.int .i64 z, .int .i64 c] PLT)) (.cells #[.int .i64 0, .int .i64 0] PLT)
  refine ⟨(hx.later h1).later h2, (blo_laid w PLT _).later h2, ?_, h1.trans (h2.mono h1.size)⟩
  have h3 := blo_laid (w.alloc (.cells #[.int .i64 z, .int .i64 c] PLT)) PLT #[.int .i64 0, .int .i64 0]
  rw [World.size_alloc] at h3
  exact h3
set_option maxRecDepth 100000 in
set_option maxHeartbeats 4000000 in
theorem next_any (t : Nat) (c : Int) (ht : t < 24) (hc : 0 ≤ c ∧ c ≤ 1000000) (hx : Blo w g 70 #[.int .i64 100, .int .i64 16, .int .i64 9]) :
    Calls Tryd.prog 27 #[.agg #[.int .i64 ((adS t : Nat) : Int), .int .i64 c], .pointer (some ⟨g, 0, none⟩)] w fun e w' => e = .returned (.agg #[.int .i64 ((adS (t + 1) : Nat) : Int), .int .i64 (c + 1)]) ∧ Below w.heap.size w w' := by
  have HX := Lib.hid hx
  have hlow := adS_low t
  have htop := adS_top (show t ≤ 24 by omega)
  have hns : nsegs 100 16 9 = 6 := by rw [nsegs_good (by unfold GoodG; decide)]; decide
  obtain ⟨z, hz⟩ : ∃ z, adS t = z := ⟨_, rfl⟩
  obtain ⟨y, hy⟩ : ∃ y, adS (t + 1) = y := ⟨_, rfl⟩
  rw [hz] at hlow htop
  rw [hz, hy]
  have HL : Hid (∀ W, Calls Tryd.prog 28 #[.agg #[.int .i64 100, .int .i64 16, .int .i64 9], .int .i64 (((z : Nat) : Int) + 3)] W fun e w' => e = .returned (.tuple #[.int .i64 (16 - (((z : Nat) : Int) + 3 - 3) % 16), .int .i64 0]) ∧ Below W.heap.size W w') := fun W => left_in 100 16 9 (((z : Nat) : Int) + 3) W (in_seg6 (by omega) (by omega))
  have HO : Hid (∀ W, Calls Tryd.prog 29 #[.agg #[.int .i64 100, .int .i64 16, .int .i64 9], .int .i64 ((z : Nat) : Int)] W fun e w' => e = .returned (.tuple #[.int .i64 ((((z : Nat) : Int) - 3) / 16), .int .i64 ((((z : Nat) : Int) - 3) % 16), .int .i64 0]) ∧ Below W.heap.size W w') := fun W => of_in 100 16 9 ((z : Nat) : Int) W (in_seg6 (by omega) (by omega))
  have HF : Hid (∀ q : Int, 0 ≤ q → q < 6 → ∀ W, Calls Tryd.prog 30 #[.agg #[.int .i64 100, .int .i64 16, .int .i64 9], .int .i64 q] W fun e w' => e = .returned (.tuple #[.int .i64 (3 + q * 16), .int .i64 0]) ∧ Below W.heap.size W w') := fun q h0 h1 W => first_ok 100 16 9 q W h0 (by rw [hns]; exact h1)
  have hcase : (¬ 16 - (((z : Nat) : Int) + 3 - 3) % 16 < 3 ∧ ((z : Nat) : Int) + 3 = ((y : Nat) : Int)) ∨ (16 - (((z : Nat) : Int) + 3 - 3) % 16 < 3 ∧ 0 ≤ ((((z : Nat) : Int) - 3) / 16 + 1) % 6 ∧ ((((z : Nat) : Int) - 3) / 16 + 1) % 6 < 6 ∧ 3 + ((((z : Nat) : Int) - 3) / 16 + 1) % 6 * 16 = ((y : Nat) : Int)) := by
    have h : ∀ t : Nat, t < 24 → ((¬ 16 - (((adS t : Nat) : Int) + 3 - 3) % 16 < 3 ∧ ((adS t : Nat) : Int) + 3 = ((adS (t + 1) : Nat) : Int)) ∨ (16 - (((adS t : Nat) : Int) + 3 - 3) % 16 < 3 ∧ 0 ≤ ((((adS t : Nat) : Int) - 3) / 16 + 1) % 6 ∧ ((((adS t : Nat) : Int) - 3) / 16 + 1) % 6 < 6 ∧ 3 + ((((adS t : Nat) : Int) - 3) / 16 + 1) % 6 * 16 = ((adS (t + 1) : Nat) : Int))) := by decide +kernel
    have := h t ht
    rw [hz, hy] at this
    exact this
  clear hz hy hns hx
  have hc1 : c + 1 ≤ 1000001 := by omega
  go_enter Tryd.func27, Tryd.ntmps27
  go_upto_region 1 with (fail)
  have HS := Lib.hid (NxS.start (g := g) ((z : Nat) : Int) c HX.out)
  clear HX
  generalize (w.alloc (.cells #[.int .i64 ((z : Nat) : Int), .int .i64 c] PLT)).alloc (.cells #[.int .i64 0, .int .i64 0] PLT) = w2 at *
  obtain ⟨c0, c1, c2, c3, c4⟩ := HS.out.cells
  go_wp2_with fail
  refine (HL.out w2).mono ?_
  rintro e w3 ⟨rfl, hb3⟩
  have HS3 := Lib.hid (HS.out.later hb3)
  clear HS c0 c1 c2 c3 c4 hb3 HL
  obtain ⟨c0, c1, c2, c3, c4⟩ := HS3.out.cells
  rcases hcase with ⟨h1, h2⟩ | ⟨h1, h2, h3, h4⟩
  · go_upto_region 6 with (fail)
    have HE := Lib.hid (show Below w.heap.size w (w3.setRow (w.heap.size + 1) #[.int .i64 ((y : Nat) : Int), .int .i64 (c + 1)]) from below_setRow HS3.out.below (by omega) _)
    have hg2 := HS3.out.res
    clear HS3
    go_wp2_with (refine wpList_store_row rfl PLT (.tmp 3) (.tmp 45) rfl (w.heap.size + 1) #[.int .i64 ((y : Nat) : Int), .int .i64 (c + 1)] (by first | rfl | simp [go_sem]) (by first | rfl | simp [go_sem]) PLT _ hg2 (by kernel_rfl) rfl (by simp [Value.oneCell']) ?_)
    (try simp only [Exit.inBlock, Exit.then])
    exact bodyPost_ret (results_cell_row (p := 3) (ty := PLT) rfl _ _ (w.heap.size + 1) PLT #[.int .i64 ((y : Nat) : Int), .int .i64 (c + 1)] (0, 0) _ (by simp [Act.put]) (blo_row hg2 _) Tryd.underlying74 rfl (by kernel_rfl)) rfl ⟨rfl, HE.out⟩
  · go_wp2_with fail
    refine (HO.out w3).mono ?_
    rintro e w4 ⟨rfl, hb4⟩
    have HS4 := Lib.hid (HS3.out.later hb4)
    clear HS3 c0 c1 c2 c3 c4 hb4 HO
    obtain ⟨c0, c1, c2, c3, c4⟩ := HS4.out.cells
    go_wp2_with fail
    refine (HF.out _ h2 h3 w4).mono ?_
    rintro e w5 ⟨rfl, hb5⟩
    have HS5 := Lib.hid (HS4.out.later hb5)
    clear HS4 c0 c1 c2 c3 c4 hb5 HF
    obtain ⟨c0, c1, c2, c3, c4⟩ := HS5.out.cells
    go_upto_region 6 with (fail)
    have HE := Lib.hid (show Below w.heap.size w (w5.setRow (w.heap.size + 1) #[.int .i64 ((y : Nat) : Int), .int .i64 (c + 1)]) from below_setRow HS5.out.below (by omega) _)
    have hg2 := HS5.out.res
    clear HS5
    go_wp2_with (refine wpList_store_row rfl PLT (.tmp 3) (.tmp 45) rfl (w.heap.size + 1) #[.int .i64 ((y : Nat) : Int), .int .i64 (c + 1)] (by first | rfl | simp [go_sem]) (by first | rfl | simp [go_sem]) PLT _ hg2 (by kernel_rfl) rfl (by simp [Value.oneCell']) ?_)
    (try simp only [Exit.inBlock, Exit.then])
    exact bodyPost_ret (results_cell_row (p := 3) (ty := PLT) rfl _ _ (w.heap.size + 1) PLT #[.int .i64 ((y : Nat) : Int), .int .i64 (c + 1)] (0, 0) _ (by simp [Act.put]) (blo_row hg2 _) Tryd.underlying74 rfl (by kernel_rfl)) rfl ⟨rfl, HE.out⟩
end
end Go.Proofs.YtlkgaefabahkoaaDoor
/-
  SegBatches: behind the Scan: what was read is tested.
-/
namespace Go.Proofs.YtlkgaefabahkoaaDoor
open Go.RowKit

def stCb (n : Nat) : Code → Bool
  | .region m _ _ => m == n
  | .seq a _ => stCb n a
  | _ => false
def tlCb (n : Nat) : Code → Option Code
  | .seq a b => match tlCb n b with
    | some c => some c
    | none => match stCb n a with
      | true => some b
      | false => none
  | _ => none
noncomputable def btTail (n : Nat) : Code := ((Tryd.f5.body.bind (tlCb n)).getD .skip)
theorem SlRow.at {w : World} {base k b : Nat} {a : Option Addr} {c : Nat} {T A : Nat → Nat} {M : Nat → Sm} (h : SlRow w base (.slice a k c) k T A M) (hb : b < k) : ∃ g, a = some ⟨g, 0, none⟩ ∧ ∃ bs a' c', w.cell? ⟨g, b, none⟩ = some (.slice a' (T (b + 1) - T b) c') ∧ BdRow w bs (.slice a' (T (b + 1) - T b) c') (T (b + 1) - T b) (fun q => A (T b + q)) (fun q => M (T b + q)) := by
  obtain ⟨xs, h1, h2⟩ := h
  obtain ⟨bs, a', c', e, hp⟩ := h2 b hb
  have hl : xs.length = k := by have := h1.1; omega
  rcases id h1.2 with ⟨h3, h0⟩ | ⟨g, cap, cur, hv, _⟩
  · omega
  · cases hv
    refine ⟨g, rfl, bs, a', c', ?_, hp⟩
    rw [h1.cellAt b (by omega), e]
/-- What the last loops keep. -/
structure BtE (w : World) (ge nb : Nat) (E C : Int) (l : List Nat) (base : Nat) (a : Option Addr) (c : Nat) (W : World) : Prop where
  row : SlRow W base (.slice a nb c) nb (toS l) adS (mS E C l)
  en : Blo W ge PLT #[.int .i64 ((adS (toS l nb) : Nat) : Int), .int .i64 (C + ((toS l nb : Nat) : Int))]
  below : Below w.heap.size w W
theorem BtE.later {w W w' : World} {ge nb base c : Nat} {E C : Int} {l : List Nat} {a : Option Addr} (h : BtE w ge nb E C l base a c W) (hb : Below W.heap.size W w') : BtE w ge nb E C l base a c w' := ⟨h.row.later hb, h.en.later hb, h.below.trans (hb.mono h.below.size)⟩
abbrev BtPost (w : World) : Exit → Act → World → Prop := bodyPost Tryd.prog Tryd.f5 (fun e w' => e = .returned (.bool true) ∧ Below w.heap.size w w')
theorem ms_of (E C : Int) (l : List Nat) (b q : Nat) (hq : q < nnS l b) : mS E C l (toS l b + q) = ⟨E, C + ((toS l b + q : Nat) : Int), ((q : Nat) : Int), ((nnS l b : Nat) : Int), ((adS (toS l b + q + 1) : Nat) : Int), [], [((b : Nat) : Int) + 1]⟩ := by
  have h : bOf l (toS l b + q) = b := bOf_eq l (by omega) (by rw [toS_succ]; omega)
  unfold mS
  rw [h, Nat.add_sub_cancel_left]
set_option maxRecDepth 1000000 in
set_option maxHeartbeats 16000000 in
theorem bat_28 {w W : World} (ge nb : Nat) (E C : Int) (l : List Nat) (base : Nat) (a : Option Addr) (c : Nat) (hS : BtE w ge nb E C l base a c W) (hn : nb ≤ 24)
    (s0 s1 s2 s3 s4 s5 s6 s7 s8 s9 s10 s11 s12 s13 s15 s17 s18 s19 s20 s24 s25 s26 s27 s28 s29 s30 s31 s32 s33 s34 s35 s36 s37 s38 s39 s40 s41 s42 s43 s44 s45 s46 s47 s48 s49 s50 s51 s52 s53 s54 s55 s56 s57 s58 s59 s60 s61 s62 s63 s64 s65 s66 s67 s68 s69 s70 s71 s72 s73 s74 s75 s76 s77 s78 s79 s80 s81 s82 s83 s84 s85 s86 s87 s88 s89 s90 s91 s92 s93 s94 s95 s96 s97 s98 s99 s100 s101 s102 s103 s104 s105 s106 s107 s108 s109 s110 s111 s112 s113 s114 s115 s116 s117 s118 s119 s120 s121 s122 s123 s124 s125 s126 s127 s128 s129 s130 s131 s132 s133 s134 s135 s136 s137 s138 s139 s140 s141 s142 s143 s144 s145 s146 s147 s148 s149 s150 s151 s152 s153 s154 s155 s156 s157 s158 s159 s160 s161 s162 s163 s164 s165 s166 s167 s168 s169 s170 s171 s172 s173 s174 s175 s176 s177 s178 s179 s180 s181 s182 s183 s184 s185 s186 s187 s188 s189 s190 s191 s192 s193 s194 s195 s196 s197 s198 s199 s200 s201 s202 : Value) : (btTail 28).wp Tryd.prog (BtPost w) ⟨#[s0, s1, s2, s3, s4, s5, s6, s7, s8, s9, s10, s11, s12, s13, .int .i64 ((nb : Nat) : Int), s15, .pointer (some ⟨ge, 0, none⟩), s17, s18, s19, s20, .slice a nb c, .int .i64 ((adS (toS l nb) : Nat) : Int), .int .i64 (C + ((toS l nb : Nat) : Int)), s24, s25, s26, s27, s28, s29, s30, s31, s32, s33, s34, s35, s36, s37, s38, s39, s40, s41, s42, s43, s44, s45, s46, s47, s48, s49, s50, s51, s52, s53, s54, s55, s56, s57, s58, s59, s60, s61, s62, s63, s64, s65, s66, s67, s68, s69, s70, s71, s72, s73, s74, s75, s76, s77, s78, s79, s80, s81, s82, s83, s84, s85, s86, s87, s88, s89, s90, s91, s92, s93, s94, s95, s96, s97, s98, s99, s100, s101, s102, s103, s104, s105, s106, s107, s108, s109, s110, s111, s112, s113, s114, s115, s116, s117, s118, s119, s120, s121, s122, s123, s124, s125, s126, s127, s128, s129, s130, s131, s132, s133, s134, s135, s136, s137, s138, s139, s140, s141, s142, s143, s144, s145, s146, s147, s148, s149, s150, s151, s152, s153, s154, s155, s156, s157, s158, s159, s160, s161, s162, s163, s164, s165, s166, s167, s168, s169, s170, s171, s172, s173, s174, s175, s176, s177, s178, s179, s180, s181, s182, s183, s184, s185, s186, s187, s188, s189, s190, s191, s192, s193, s194, s195, s196, s197, s198, s199, s200, s201, s202], []⟩ W := by
  have HS0 := Lib.hid hS
  obtain ⟨x0, hx0⟩ : ∃ x0 : Nat, adS (toS l nb) = x0 := ⟨_, rfl⟩
  obtain ⟨y0, hy0⟩ : ∃ y0 : Int, C + ((toS l nb : Nat) : Int) = y0 := ⟨_, rfl⟩
  have c0 := hS.en.cell 0
  have c1 := hS.en.cell 1
  simp at c0 c1
  rw [hx0] at c0 ⊢
  rw [hy0] at c1 ⊢
  have q0 : (((x0 : Nat) : Int) != ((x0 : Nat) : Int)) = false := by simp
  have q1 : (y0 != y0) = false := by simp
  have q2 : (((nb : Nat) : Int) != ((nb : Nat) : Int)) = false := by simp
  clear hS hx0 hy0
  conv => arg 2; whnf
  go_wp2_with fail
  clear c0 c1 q0 q1 q2
  go_loopw [159] (fun t wr => ∃ b : Nat, b ≤ nb ∧ t = .int .i64 ((b : Nat) : Int) ∧ BtE w ge nb E C l base a c wr) (fun t _ => 24 - (intOf t).toNat)
  case atStart => exact ⟨0, by omega, rfl, HS0.out⟩
  case round =>
    clear HS0
    obtain ⟨b, hb, rfl, hS⟩ := hrel
    have HS := Lib.hid hS
    by_cases hlt : b < nb
    · obtain ⟨g, rfl, bs, a', c', hcell, hrow⟩ := hS.row.at hlt
      have hd : toS l (b + 1) - toS l b = nnS l b := by rw [toS_succ]; omega
      rw [hd] at hcell hrow
      have HR := Lib.hid hrow
      have HM := Lib.hid (ms_of E C l b)
      have hnn := nnS_bd l b
      obtain ⟨n, hn'⟩ : ∃ n, nnS l b = n := ⟨_, rfl⟩
      rw [hn'] at hcell HR hnn HM
      clear hS hrow hd hn'
      obtain ⟨wo, rfl⟩ : ∃ wo, wo = wr := ⟨_, rfl⟩
      go_wp2_with fail
      clear hcell
      go_loopw [166] (fun t wr => ∃ q : Nat, q ≤ n ∧ t = .int .i64 ((q : Nat) : Int) ∧ Below wo.heap.size wo wr) (fun t _ => 4 - (intOf t).toNat)
      case atStart => exact ⟨0, by omega, rfl, Below.refl _ _⟩
      case round =>
        obtain ⟨q, hq, rfl, hbw⟩ := hrel
        have HBw := Lib.hid hbw
        clear hbw
        by_cases hqn : q < n
        · obtain ⟨g', rfl, fa, fc, ia, ic, ba, bn, bc, hf, hpt⟩ := (HR.out.later HBw.out).at hqn
          rw [HM.out q hqn] at hf hpt
          obtain ⟨bi, hbi⟩ := hpt.ino
          obtain ⟨bi2, oi, rfl, hbc⟩ := Rds.own hbi 0 (.int .i64 (((b : Nat) : Int) + 1)) rfl
          obtain ⟨x1, hx1⟩ : ∃ x1 : Nat, adS (toS l b + q) = x1 := ⟨_, rfl⟩
          obtain ⟨x2, hx2⟩ : ∃ x2 : Nat, adS (toS l b + q + 1) = x2 := ⟨_, rfl⟩
          obtain ⟨x3, hx3⟩ : ∃ x3 : Int, C + ((toS l b + q : Nat) : Int) = x3 := ⟨_, rfl⟩
          rw [hx1, hx2, hx3] at hf
          have d0 : wr.cell? ⟨g', q * 9, none⟩ = some (.int .i64 ((x1 : Nat) : Int)) := hf 0 _ rfl
          have d1 := hf 1 (.int .i64 E) rfl
          have d2 := hf 2 (.int .i64 x3) rfl
          have d3 := hf 3 (.int .i64 ((q : Nat) : Int)) rfl
          have d4 := hf 4 (.int .i64 ((n : Nat) : Int)) rfl
          have d5 := hf 5 (.int .i64 ((x2 : Nat) : Int)) rfl
          have d6 := hf 6 (.slice fa 0 fc) rfl
          have d7 := hf 7 (.slice (some ⟨bi2, oi, none⟩) 1 ic) rfl
          have d8 := hf 8 (.slice ba bn bc) rfl
          have HC := Lib.hid hbc
          clear hf hpt hbi hbc hx1 hx2 hx3
          go_upto_region 37 with (fail)
          have HBy := Lib.hid (sup_pc wr (.cells #[.int .i64 ((x1 : Nat) : Int), .int .i64 E, .int .i64 x3, .int .i64 ((q : Nat) : Int), .int .i64 ((n : Nat) : Int), .int .i64 ((x2 : Nat) : Int), .slice fa 0 fc, .slice (some ⟨bi2, oi, none⟩) 1 ic, .slice ba bn bc] FDT))
          have HXy := Lib.hid (blo_laid wr FDT #[.int .i64 ((x1 : Nat) : Int), .int .i64 E, .int .i64 x3, .int .i64 ((q : Nat) : Int), .int .i64 ((n : Nat) : Int), .int .i64 ((x2 : Nat) : Int), .slice fa 0 fc, .slice (some ⟨bi2, oi, none⟩) 1 ic, .slice ba bn bc])
          generalize wr.alloc (.cells #[.int .i64 ((x1 : Nat) : Int), .int .i64 E, .int .i64 x3, .int .i64 ((q : Nat) : Int), .int .i64 ((n : Nat) : Int), .int .i64 ((x2 : Nat) : Int), .slice fa 0 fc, .slice (some ⟨bi2, oi, none⟩) 1 ic, .slice ba bn bc] FDT) = wy at *
          have e0 : wy.cell? ⟨bi2, oi, none⟩ = some (.int .i64 (((b : Nat) : Int) + 1)) := cell_later HBy.out HC.out
          have e2 := HXy.out.cell 3
          have e3 := HXy.out.cell 4
          have e6 := HXy.out.cell 7
          simp at e2 e3 e6
          have HBz := Lib.hid (HBw.out.trans (HBy.out.mono HBw.out.size))
          clear HXy HC HBy d0 d1 d2 d3 d4 d5 d6 d7 d8 HBw
          have q0 : (((q : Nat) : Int) != ((q : Nat) : Int)) = false := by simp
          have q1 : (((n : Nat) : Int) != ((n : Nat) : Int)) = false := by simp
          have q2 : ((((b : Nat) : Int) + 1) != (((b : Nat) : Int) + 1)) = false := by simp
          go_wp2_with fail
          go_roundw
          case rel => exact ⟨q + 1, by omega, by simp, HBz.out⟩
          case measure => simp [intOf]; omega
        · obtain rfl : n = q := by omega
          go_wp2_with fail
          go_roundw
          case rel => exact ⟨b + 1, by omega, by simp, HS.out.later HBw.out⟩
          case measure => simp [intOf]; omega
    · obtain rfl : b = nb := by omega
      clear hS
      go_wp2_with fail
      go_ret
      exact ⟨rfl, HS.out.below⟩
end Go.Proofs.YtlkgaefabahkoaaDoor
