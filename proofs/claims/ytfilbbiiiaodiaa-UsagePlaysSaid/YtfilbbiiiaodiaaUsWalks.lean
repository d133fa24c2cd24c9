/-
  The walks of a table of segments: New, Release, Seize.
-/
import Derived.Test.YtfilbbiiiaodiaaUsMath
import Derived.Test.YtfilbbiiiaodiaaRows
namespace Go.Proofs.Ytfilbbiiiaodiaa
open Go.RowKit

abbrev TB := 61
abbrev IN := 52
theorem info_seg : (Try.prog.info? 52).map (fun i => (i.zero, i.size, i.bytes)) = some (some (.agg #[.int .i64 0, .int .i64 0, .int .i64 0]), 3, 24) := by kernel_rfl
theorem sup_us (w : World) (o : Obj) : Below w.heap.size w (w.alloc o) := (Below.refl _ _).alloc (Nat.le_refl _) o
def NewOut (w : World) (n : Nat) (size : Int) (e : Ending) (w' : World) : Prop :=
  ∃ bt g, e = .returned (.tuple #[.pointer (some ⟨bt, 0, none⟩), .int .i64 0]) ∧ Tb w' bt g TB IN n size (-1) (List.replicate (3 * n) 0) ∧ w.heap.size ≤ bt ∧ w.heap.size ≤ g ∧ Below w.heap.size w w'
set_option maxHeartbeats 400000 in
theorem new_any (n : Nat) (size : Int) (w : World) (h1 : 1 ≤ n) (h2 : n ≤ 512) (h3 : 1 ≤ size) (h4 : size ≤ 64) :
    Calls Try.prog 9 #[.int .i64 n, .int .i64 size] w (NewOut w n size) := by
  have hmk := run_make3 (P := Try.prog) 59 52 24 Try.underlying59 info_seg w n n rfl (by omega) (by decide)
  go_enter Try.func9, Try.ntmps9
  go_wp2
  go_ret2
  refine ⟨w.heap.size + 1, w.heap.size, rfl, ?_, by omega, by omega, ?_⟩
  · refine ⟨?_, ?_, by simp, by omega⟩
    · have := blo_laid (w.alloc (.cells (cellsI (List.replicate (3 * n) 0)).toArray IN)) TB #[.slice (some ⟨w.heap.size, 0, none⟩) n n, .int .i64 size, .int .i64 (-1)]
      simpa using this
    · exact (blo_laid w IN (cellsI (List.replicate (3 * n) 0)).toArray).alloc _
  · exact ((Below.refl _ _).alloc (Nat.le_refl _) _).alloc (by simp) _
section
variable {w : World} {bt g n seg B : Nat} {size hand : Int} {F : List Int}
set_option maxHeartbeats 400000 in
theorem release_stale (h : Tb w bt g TB IN n size hand F) (hs : seg < n) (h0 : F.getD (seg * 3 + 1) 0 = 0) :
    Calls Try.prog 37 #[.pointer (some ⟨g, seg * 3, none⟩)] w fun e w' => e = .returned (.int .i64 103) ∧ w = w' := by
  have c1 := h.cell (seg * 3 + 1) (by omega)
  rw [h0] at c1
  clear h h0
  go_enter Try.func37, Try.ntmps37
  go_wp2
  go_ret
  exact ⟨rfl, rfl⟩
set_option maxHeartbeats 400000 in
theorem release_busy (h : Tb w bt g TB IN n size hand F) (hs : seg < n) (h0 : F.getD (seg * 3 + 1) 0 = 2) :
    Calls Try.prog 37 #[.pointer (some ⟨g, seg * 3, none⟩)] w fun e w' => e = .returned (.int .i64 16) ∧ w = w' := by
  have c1 := h.cell (seg * 3 + 1) (by omega)
  rw [h0] at c1
  clear h h0
  go_enter Try.func37, Try.ntmps37
  go_wp2
  go_ret
  exact ⟨rfl, rfl⟩
set_option maxHeartbeats 400000 in
theorem release_done (h : Tb w bt g TB IN n size hand F) (hs : seg < n) (h0 : F.getD (seg * 3 + 1) 0 = 1) (hl : F.getD (seg * 3) 0 = 0) :
    Calls Try.prog 37 #[.pointer (some ⟨g, seg * 3, none⟩)] w fun e w' => e = .returned (.int .i64 0) ∧ w' = (w.setCell ⟨g, seg * 3 + 1, none⟩ (.int .i64 0)).setCell ⟨g, seg * 3 + 2, none⟩ (.int .i64 0) := by
  have c0 := h.cell (seg * 3) (by omega)
  have c1 := h.cell (seg * 3 + 1) (by omega)
  have c2 := h.cell (seg * 3 + 2) (by omega)
  have f1 := h.segs.frozen (seg * 3 + 1)
  have f2 := h.segs.frozen (seg * 3 + 2)
  rw [h0] at c1
  rw [hl] at c0
  clear h h0 hl
  go_enter Try.func37, Try.ntmps37
  go_wp2
  go_ret
  exact ⟨rfl, rfl⟩
set_option maxHeartbeats 400000 in
theorem with_rel (R : World → Prop) (c : Int) (h : Tb w bt g TB IN n size hand F) (hs : seg < n) (hn : n ≤ 512)
    (hc : Calls Try.prog 37 #[.pointer (some ⟨g, seg * 3, none⟩)] w fun e w' => e = .returned (.int .i64 c) ∧ R w') :
    Calls Try.prog 34 #[.pointer (some ⟨bt, 0, none⟩), .int .i64 seg, .func (.func 37) #[] #[]] w fun e w' => e = .returned (.int .i64 c) ∧ R w' := by
  have HC := Lib.hid hc
  have t0 := h.top.cell 0
  simp at t0
  have i1 : (0 : Int) ≤ (seg : Int) := by omega
  have i2 : (seg : Int) < (n : Int) := by omega
  clear h hc
  go_enter Try.func34, Try.ntmps34
  go_wp2_with fail
  refine HC.out.mono ?_
  rintro e w' ⟨rfl, hr⟩
  have HR := Lib.hid hr
  clear hr HC
  go_wp2
  go_ret
  exact ⟨rfl, HR.out⟩
/-- The table behind a Release. -/
def rel (F : List Int) (seg : Nat) : List Int := (F.set (seg * 3 + 1) 0).set (seg * 3 + 2) 0
set_option maxHeartbeats 400000 in
theorem rel_with (R : World → Prop) (c : Int) (hs : seg < n)
    (hc : Calls Try.prog 34 #[.pointer (some ⟨bt, 0, none⟩), .int .i64 seg, .func (.func 37) #[] #[]] w fun e w' => e = .returned (.int .i64 c) ∧ R w') :
    Calls Try.prog 17 #[.pointer (some ⟨bt, 0, none⟩), .int .i64 seg] w fun e w' => e = .returned (.int .i64 c) ∧ R w' := by
  have HC := Lib.hid hc
  clear hc
  go_enter Try.func17, Try.ntmps17
  go_wp2_with fail
  refine HC.out.mono ?_
  rintro e w' ⟨rfl, hr⟩
  have HR := Lib.hid hr
  clear hr HC
  go_wp2
  go_ret
  exact ⟨rfl, HR.out⟩
theorem rel_yes (h : Tb w bt g TB IN n size hand F) (hs : seg < n) (hn : n ≤ 512) (h0 : F.getD (seg * 3 + 1) 0 = 1) (hl : F.getD (seg * 3) 0 = 0) (hB : B ≤ g) :
    Calls Try.prog 17 #[.pointer (some ⟨bt, 0, none⟩), .int .i64 seg] w fun e w' => e = .returned (.int .i64 0) ∧ (Tb w' bt g TB IN n size hand (rel F seg) ∧ Below B w w') :=
  rel_with _ 0 hs (with_rel _ 0 h hs hn ((release_done h hs h0 hl).mono fun e w' ⟨he, hw⟩ => ⟨he, by
    subst hw
    exact ⟨(h.put (seg * 3 + 1) 0).put (seg * 3 + 2) 0, ((Below.refl B w).setCell (p := ⟨g, seg * 3 + 1, none⟩) hB _).setCell (p := ⟨g, seg * 3 + 2, none⟩) hB _⟩⟩))
theorem rel_busy (h : Tb w bt g TB IN n size hand F) (hs : seg < n) (hn : n ≤ 512) (h0 : F.getD (seg * 3 + 1) 0 = 2) :
    Calls Try.prog 17 #[.pointer (some ⟨bt, 0, none⟩), .int .i64 seg] w fun e w' => e = .returned (.int .i64 16) ∧ w = w' :=
  rel_with _ 16 hs (with_rel _ 16 h hs hn (release_busy h hs h0))
/-- The two variables that Seize's closure holds. -/
structure Box2 (w : World) (bt g seg b1 b2 : Nat) : Prop where
  p1 : Blo w b1 24 #[.pointer (some ⟨bt, 0, none⟩)]
  p2 : Blo w b2 3 #[.int .i64 seg]
  a1 : b1 ≠ g ∧ b1 ≠ bt
  a2 : b2 ≠ g ∧ b2 ≠ bt
theorem Box2.far {w : World} {bt g seg b1 b2 : Nat} (h : Box2 w bt g seg b1 b2) (j : Nat) (u : Value) : Box2 (w.setCell ⟨g, j, none⟩ u) bt g seg b1 b2 := ⟨h.p1.far h.a1.1 u, h.p2.far h.a2.1 u, h.a1, h.a2⟩
/-- All blocks but a table's two are as they were. -/
def Fr2 (bt g : Nat) (w w' : World) : Prop := ∀ (b : Nat) (t : TypeId) (cs : Array Value), b ≠ g → b ≠ bt → Blo w b t cs → Blo w' b t cs
def SRel (B : Nat) (w : World) (bt g n seg b1 b2 : Nat) (size hand : Int) (F : List Int) (i : Value) (wr : World) : Prop :=
  ∃ k : Nat, k ≤ n ∧ i = .int .i64 k ∧ Tb wr bt g TB IN n size hand (dem F k) ∧ Box2 wr bt g seg b1 b2 ∧ Below B w wr ∧ Fr2 bt g w wr
def SOut (B : Nat) (w : World) (bt g n : Nat) (size : Int) (F : List Int) (seg : Nat) (e : Ending) (w' : World) : Prop :=
  e = .returned (.int .i64 0) ∧ (Tb w' bt g TB IN n size seg (seiz F n seg) ∧ Below B w w' ∧ Fr2 bt g w w')
set_option maxHeartbeats 1000000 in
theorem seize_body (h : Tb w bt g TB IN n size hand F) (hs : seg < n) (hn : n ≤ 512) (hB : B ≤ g) (hB' : B ≤ bt) (b1 b2 : Nat) (hx : Box2 w bt g seg b1 b2) :
    Calls Try.prog 41 #[.pointer (some ⟨g, seg * 3, none⟩), .pointer (some ⟨b1, 0, none⟩), .pointer (some ⟨b2, 0, none⟩)] w (SOut B w bt g n size F seg) := by
  have H := Lib.hid h
  have HX := Lib.hid hx
  have t0 := h.top.cell 0
  have k1 := hx.p1.cell 0
  simp at t0 k1
  clear h hx
  go_enter Try.func41, Try.ntmps41
  go_wp2_with fail
  clear t0 k1
  go_loopw [11] (fun i wr => SRel B w bt g n seg b1 b2 size hand F i wr) (fun i _ => n - (intOf i).toNat)
  case atStart => exact ⟨0, by omega, rfl, by rw [dem_zero]; exact H.out, HX.out, Below.refl _ _, fun _ _ _ _ _ h => h⟩
  case round =>
    obtain ⟨k, hk, rfl, ht, hbx, hb, hfr⟩ := hrel
    have HFr := Lib.hid hfr
    clear hfr
    have HTb := Lib.hid ht
    have HBx := Lib.hid hbx
    have HB := Lib.hid hb
    have t0 := ht.top.cell 0
    have k1 := hbx.p1.cell 0
    simp at t0 k1
    by_cases hlt : k < n
    · have c1 := ht.cell (k * 3 + 1) (by omega)
      have f1 := ht.segs.frozen (k * 3 + 1)
      rw [dem_at] at c1
      have i1 : (0 : Int) ≤ (k : Int) := by omega
      have i2 : (k : Int) < (n : Int) := by omega
      clear ht hbx hb
      by_cases h2 : F.getD (k * 3 + 1) 0 = 2
      · have HN := Lib.hid (dem_turn F k h2)
        rw [h2] at c1
        clear h2
        go_wp2_with fail
        go_roundw
        case rel =>
          have h5 := HTb.out.put (k * 3 + 1) 1
          rw [HN.out] at h5
          exact ⟨k + 1, by omega, by simp, h5, HBx.out.far _ _, HB.out.setCell (p := ⟨g, k * 3 + 1, none⟩) hB _, fun b t cs h1 h2 h => (HFr.out b t cs h1 h2 h).far h1 _⟩
        case measure => simp [intOf]; omega
      · have HN := Lib.hid (dem_stay F k h2)
        have h3 : (F.getD (k * 3 + 1) 0 == 2) = false := by simpa using h2
        clear h2
        generalize F.getD (k * 3 + 1) 0 = x at *
        go_wp2_with fail
        go_roundw
        case rel =>
          have h5 := HTb.out
          rw [HN.out] at h5
          exact ⟨k + 1, by omega, by simp, h5, HBx.out, HB.out, HFr.out⟩
        case measure => simp [intOf]; omega
    · obtain rfl : k = n := by omega
      have c1 := ht.cell (seg * 3 + 1) (by omega)
      have f1 := ht.segs.frozen (seg * 3 + 1)
      have HT2 := Lib.hid (ht.put (seg * 3 + 1) 2)
      have HX2 := Lib.hid (hbx.far (seg * 3 + 1) (.int .i64 2))
      have t2 := ht.top.cell 2
      have k2 := hbx.p2.cell 0
      have f2 := ht.top.frozen 2
      simp at t2 k2
      have HA := Lib.hid ht.apart
      have HB2 : Hid (Below B w (wr.setCell ⟨g, seg * 3 + 1, none⟩ (.int .i64 2))) := hb.setCell (p := ⟨g, seg * 3 + 1, none⟩) hB _
      clear ht hbx hb hlt
      go_wp2_with fail
      go_ret
      exact ⟨rfl, HT2.out.hand' _, HB2.out.setCell (p := ⟨bt, 2, none⟩) hB' _, fun b t cs h1 h2 h => ((HFr.out b t cs h1 h2 h).far h1 _).far h2 _⟩
set_option maxHeartbeats 400000 in
theorem with_seize (b1 b2 : Nat) (h : Tb w bt g TB IN n size hand F) (hs : seg < n) (hn : n ≤ 512)
    (hc : Calls Try.prog 41 #[.pointer (some ⟨g, seg * 3, none⟩), .pointer (some ⟨b1, 0, none⟩), .pointer (some ⟨b2, 0, none⟩)] w (SOut B w bt g n size F seg)) :
    Calls Try.prog 34 #[.pointer (some ⟨bt, 0, none⟩), .int .i64 seg, .func (.func 41) #[] #[.pointer (some ⟨b1, 0, none⟩), .pointer (some ⟨b2, 0, none⟩)]] w (SOut B w bt g n size F seg) := by
  have HC := Lib.hid hc
  have t0 := h.top.cell 0
  simp at t0
  have i1 : (0 : Int) ≤ (seg : Int) := by omega
  have i2 : (seg : Int) < (n : Int) := by omega
  clear h hc
  go_enter Try.func34, Try.ntmps34
  go_wp2_with fail
  refine HC.out.mono ?_
  rintro e w' ⟨rfl, hr⟩
  have HR := Lib.hid hr
  clear hr HC
  go_wp2
  go_ret
  exact ⟨rfl, HR.out⟩
theorem Box2.laid (w : World) (bt g seg : Nat) (hg : g < w.heap.size) (hb : bt < w.heap.size) :
    Box2 ((w.alloc (.cells #[.pointer (some ⟨bt, 0, none⟩)] 24)).alloc (.cells #[.int .i64 seg] 3)) bt g seg w.heap.size (w.heap.size + 1) := by
  refine ⟨(blo_laid w _ _).alloc _, ?_, ⟨by omega, by omega⟩, ⟨by omega, by omega⟩⟩
  have := blo_laid (w.alloc (.cells #[.pointer (some ⟨bt, 0, none⟩)] 24)) 3 #[.int .i64 seg]
  simpa using this
set_option maxHeartbeats 400000 in
theorem seize_any (h : Tb w bt g TB IN n size hand F) (hs : seg < n) (hn : n ≤ 512) (hB : B ≤ g) (hB' : B ≤ bt) :
    Calls Try.prog 30 #[.pointer (some ⟨bt, 0, none⟩), .int .i64 seg] w (SOut B w bt g n size F seg) := by
  have hbt := h.top.lt
  have hbg := h.segs.lt
  have hb0 : Below w.heap.size w ((w.alloc (.cells #[.pointer (some ⟨bt, 0, none⟩)] 24)).alloc (.cells #[.int .i64 seg] 3)) := ((Below.refl _ _).alloc (Nat.le_refl _) _).alloc (by simp) _
  have H := Lib.hid (h.later hb0)
  have HB0 : Hid (Below B w ((w.alloc (.cells #[.pointer (some ⟨bt, 0, none⟩)] 24)).alloc (.cells #[.int .i64 seg] 3))) := hb0.mono (by omega)
  have HX := Lib.hid (Box2.laid w bt g seg hbg hbt)
  have hmf : ∀ (fn : Fn) (first cap : Array Value) (w : World), (Instr.makeFunc fn first cap).run Try.prog w = .ok (.func fn first cap) w := fun _ _ _ _ => rfl
  clear h hb0 hbt hbg
  go_enter Try.func30, Try.ntmps30
  go_wp2_with fail
  refine (with_seize _ _ H.out hs hn (seize_body H.out hs hn hB hB' _ _ HX.out)).mono ?_
  rintro e w' ⟨rfl, ht, hb, hf⟩
  have HT := Lib.hid ht
  have HF := Lib.hid hf
  have HB : Hid (Below B w w') := HB0.out.trans hb
  clear ht hb hf
  go_wp2
  go_ret
  exact ⟨rfl, HT.out, HB.out, fun b t cs h1 h2 h => HF.out b t cs h1 h2 ((h.alloc _).alloc _)⟩
end
end Go.Proofs.Ytfilbbiiiaodiaa
