/-
  change: Clean, Pin, Unpin, Drop.
-/
import Derived.Test.YtdnkeplmjimjcaaChAct
namespace Go.Proofs.Ytdnkeplmjimjcaa
open Go.RowKit

/-- 3 Clean, 4 Pin, 5 Unpin, 6 Drop: the blocks behind it, the error. -/
def doK (L : List Bk) (kind : Int) (p : Int × Int) : List Bk × Int :=
  match findK L p with
  | none => (L, 2)
  | some s =>
    if kind = 3 then (setK L p (fun s => { s with dirty := false }), 0)
    else if kind = 4 then (setK L p (fun s => { s with pins := s.pins + 1 }), 0)
    else if kind = 5 then (if s.pins = 0 then (L, 22) else (setK L p (fun s => { s with pins := s.pins - 1 }), 0))
    else (if 0 < s.pins then (L, 16) else (woK L p, 0))
/-- What a call on the cache leaves. -/
def CcO (w : World) (bc bm base : Nat) (room : Int) (N T : Nat) (L : List Bk) (v : Value) (e : Ending) (w' : World) : Prop :=
  e = .returned v ∧ CA w' bc bm base room N T L ∧ Out (XC w bc bm base) w w'
section
variable {w w' : World} {bc bm base b : Nat} {room uses : Int} {N T T' : Nat} {x : Sx} {a : Int} {s : Bf} {v : Value} {p : Int × Int} {L L' : List Bk}
theorem CA.mono (h : CA w bc bm base room N T L) {N' : Nat} (h1 : N ≤ N') (h2 : T ≤ T') : CA w bc bm base room N' T' L := by
  obtain ⟨x, hC, e⟩ := h
  exact ⟨x, hC.mono h1 h2, e⟩
theorem CA.later (h : CA w bc bm base room N T L) (hb : Below w.heap.size w w') : CA w' bc bm base room N T L := by
  obtain ⟨x, hC, e⟩ := h
  exact ⟨x, hC.later hb, e⟩
theorem LS.blt (hL : LS w bc bm base room N T x b a) : base ≤ w.heap.size := by
  have := hL.low.1
  have := Blo.lt hL.cb
  omega
theorem kept_in {w1 : World} (hb : Below w.heap.size w w1) : Below w.heap.size w w1.drew := hb.drew
/-- No such buffer. -/
theorem chg_none (hC : CS w bc bm base room N T x) (hp : wfK p) (hf : x.f p = none) (fv : Value) :
    Calls Try.prog 39 #[.pointer (some ⟨bc, 0, none⟩), keyV p, fv] w (CcO w bc bm base room N T (lstK x.S x.bs) (.int .i64 2)) := by
  obtain ⟨ki, kl⟩ := p
  obtain ⟨-, d1, -, -⟩ := hC.cb.cell
  obtain ⟨w1, hw1⟩ : ∃ w1, w1 = w.alloc (.cells #[.int .i64 ki, .int .i64 kl] KT) := ⟨_, rfl⟩
  have HB1 : Hid (Below w.heap.size w w1) := by rw [hw1]; exact sup_pc9 w _
  have hX : Blo w1 w.heap.size KT #[.int .i64 ki, .int .i64 kl] := by rw [hw1]; exact blo_laid w _ _
  have c0 : ∀ y : Kept w1, y.at_.cell? ⟨w.heap.size, 0, none⟩ = some (.int .i64 ki) := fun y => cell_later y.below (Blo.cell hX 0)
  have c1 : ∀ y : Kept w1, y.at_.cell? ⟨w.heap.size, 1, none⟩ = some (.int .i64 kl) := fun y => cell_later y.below (Blo.cell hX 1)
  have c2 : ∀ y : Kept w1, y.at_.cell? ⟨bc, 1, none⟩ = some (.map (some bm)) := fun y => cell_later y.below (cell_later HB1.out d1)
  have k1 : ∀ y : Kept w1, (Instr.lookup KMT (.map (some bm)) (.agg #[.int .i64 ki, .int .i64 kl]) true).run Try.prog y.at_ = .ok (.tuple #[.pointer none, .bool false]) y.at_ := fun y => by
    have := (hC.km.later (HB1.out.trans (y.below.mono HB1.out.size))).look_ok hp
    rw [hf] at this
    exact this
  have HC := Lib.hid hC
  clear hC hp hf hX d1
  unfold keyV
  go_enter Try.func39, Try.ntmps39
  go_upto_region 1 with (fail)
  rw [← hw1]
  clear hw1
  obtain ⟨g0, hg0⟩ : ∃ g0, w.heap.size = g0 := ⟨_, rfl⟩
  rw [hg0] at c0 c1 ⊢
  refine wp_region_kept (by kernel_rfl) (by kernel_rfl) ?_
  repeat (go_big_quiet_step (fail))
  refine wpQuiet_nil ?_
  rintro W2 ⟨w2, rfl⟩
  have HE : Hid (CcO w bc bm base room N T (lstK x.S x.bs) (.int .i64 2) (.returned (.int .i64 2)) w2.at_) := by
    have hb := HB1.out.trans (w2.below.mono HB1.out.size)
    exact ⟨rfl, ⟨x, HC.out.later hb, rfl⟩, Out.of_below hb⟩
  clear c0 c1 c2 k1 HC
  go_wp2_with fail
  go_ret
  exact HE.out
set_option maxRecDepth 100000 in
set_option maxHeartbeats 4000000 in
theorem chg_wash (hC : CS w bc bm base room N T x) (hp : wfK p) (hf : x.f p = some b) {code : Int}
    (hA : ∀ y : World, Below w.heap.size w y → Calls Try.prog 42 #[.pointer (some ⟨b, 0, none⟩)] y (AcO y bc bm base room N T' b code L')) :
    Calls Try.prog 39 #[.pointer (some ⟨bc, 0, none⟩), keyV p, .func (.func 42) #[] #[]] w (CcO w bc bm base room N T' L' (.int .i64 code)) := by
  obtain ⟨ki, kl⟩ := p
  obtain ⟨-, d1, -, -⟩ := hC.cb.cell
  obtain ⟨w1, hw1⟩ : ∃ w1, w1 = w.alloc (.cells #[.int .i64 ki, .int .i64 kl] KT) := ⟨_, rfl⟩
  have HB1 : Hid (Below w.heap.size w w1) := by rw [hw1]; exact sup_pc9 w _
  have hX : Blo w1 w.heap.size KT #[.int .i64 ki, .int .i64 kl] := by rw [hw1]; exact blo_laid w _ _
  have c0 : ∀ y : Kept w1, y.at_.cell? ⟨w.heap.size, 0, none⟩ = some (.int .i64 ki) := fun y => cell_later y.below (Blo.cell hX 0)
  have c1 : ∀ y : Kept w1, y.at_.cell? ⟨w.heap.size, 1, none⟩ = some (.int .i64 kl) := fun y => cell_later y.below (Blo.cell hX 1)
  have c2 : ∀ y : Kept w1, y.at_.cell? ⟨bc, 1, none⟩ = some (.map (some bm)) := fun y => cell_later y.below (cell_later HB1.out d1)
  have k1 : ∀ y : Kept w1, (Instr.lookup KMT (.map (some bm)) (.agg #[.int .i64 ki, .int .i64 kl]) true).run Try.prog y.at_ = .ok (.tuple #[.pointer (some ⟨b, 0, none⟩), .bool true]) y.at_ := fun y => by
    have := (hC.km.later (HB1.out.trans (y.below.mono HB1.out.size))).look_ok hp
    rw [hf] at this
    exact this
  have HA := Lib.hid hA
  clear hC hp hf hX d1 hA
  unfold keyV
  go_enter Try.func39, Try.ntmps39
  go_upto_region 1 with (fail)
  rw [← hw1]
  clear hw1
  obtain ⟨g0, hg0⟩ : ∃ g0, w.heap.size = g0 := ⟨_, rfl⟩
  rw [hg0] at c0 c1 ⊢
  refine wp_region_kept (by kernel_rfl) (by kernel_rfl) ?_
  repeat (go_big_quiet_step (fail))
  refine wpQuiet_nil ?_
  rintro W2 ⟨w2, rfl⟩
  have HB2 := Lib.hid (HB1.out.trans (w2.below.mono HB1.out.size))
  clear c0 c1 c2 k1
  go_wp2_with fail
  refine (HA.out _ HB2.out).mono ?_
  rintro e w3 ⟨rfl, a, x', hL, hL', ho⟩
  have HO := Lib.hid (outC_trans (Out.of_below HB2.out) ho)
  have HPl := Lib.hid (place_any hL hL.blt)
  have HL' := Lib.hid hL'
  clear HA hL ho hL'
  go_wp2_with fail
  refine HPl.out.mono ?_
  rintro e w4 ⟨rfl, v', m', h', hC, ho⟩
  have HE : Hid (CcO w bc bm base room N T' L' (.int .i64 code) (.returned (.int .i64 code)) w4) := ⟨rfl, ⟨_, hC, HL'.out⟩, outC_trans HO.out ho⟩
  clear HPl hC ho HL' HO HB2
  go_wp2_with fail
  go_ret
  exact HE.out
set_option maxRecDepth 100000 in
set_option maxHeartbeats 4000000 in
theorem chg_pin (hC : CS w bc bm base room N T x) (hp : wfK p) (hf : x.f p = some b) {code : Int}
    (hA : ∀ y : World, Below w.heap.size w y → Calls Try.prog 40 #[.pointer (some ⟨b, 0, none⟩)] y (AcO y bc bm base room N T' b code L')) :
    Calls Try.prog 39 #[.pointer (some ⟨bc, 0, none⟩), keyV p, .func (.func 40) #[] #[]] w (CcO w bc bm base room N T' L' (.int .i64 code)) := by
  obtain ⟨ki, kl⟩ := p
  obtain ⟨-, d1, -, -⟩ := hC.cb.cell
  obtain ⟨w1, hw1⟩ : ∃ w1, w1 = w.alloc (.cells #[.int .i64 ki, .int .i64 kl] KT) := ⟨_, rfl⟩
  have HB1 : Hid (Below w.heap.size w w1) := by rw [hw1]; exact sup_pc9 w _
  have hX : Blo w1 w.heap.size KT #[.int .i64 ki, .int .i64 kl] := by rw [hw1]; exact blo_laid w _ _
  have c0 : ∀ y : Kept w1, y.at_.cell? ⟨w.heap.size, 0, none⟩ = some (.int .i64 ki) := fun y => cell_later y.below (Blo.cell hX 0)
  have c1 : ∀ y : Kept w1, y.at_.cell? ⟨w.heap.size, 1, none⟩ = some (.int .i64 kl) := fun y => cell_later y.below (Blo.cell hX 1)
  have c2 : ∀ y : Kept w1, y.at_.cell? ⟨bc, 1, none⟩ = some (.map (some bm)) := fun y => cell_later y.below (cell_later HB1.out d1)
  have k1 : ∀ y : Kept w1, (Instr.lookup KMT (.map (some bm)) (.agg #[.int .i64 ki, .int .i64 kl]) true).run Try.prog y.at_ = .ok (.tuple #[.pointer (some ⟨b, 0, none⟩), .bool true]) y.at_ := fun y => by
    have := (hC.km.later (HB1.out.trans (y.below.mono HB1.out.size))).look_ok hp
    rw [hf] at this
    exact this
  have HA := Lib.hid hA
  clear hC hp hf hX d1 hA
  unfold keyV
  go_enter Try.func39, Try.ntmps39
  go_upto_region 1 with (fail)
  rw [← hw1]
  clear hw1
  obtain ⟨g0, hg0⟩ : ∃ g0, w.heap.size = g0 := ⟨_, rfl⟩
  rw [hg0] at c0 c1 ⊢
  refine wp_region_kept (by kernel_rfl) (by kernel_rfl) ?_
  repeat (go_big_quiet_step (fail))
  refine wpQuiet_nil ?_
  rintro W2 ⟨w2, rfl⟩
  have HB2 := Lib.hid (HB1.out.trans (w2.below.mono HB1.out.size))
  clear c0 c1 c2 k1
  go_wp2_with fail
  refine (HA.out _ HB2.out).mono ?_
  rintro e w3 ⟨rfl, a, x', hL, hL', ho⟩
  have HO := Lib.hid (outC_trans (Out.of_below HB2.out) ho)
  have HPl := Lib.hid (place_any hL hL.blt)
  have HL' := Lib.hid hL'
  clear HA hL ho hL'
  go_wp2_with fail
  refine HPl.out.mono ?_
  rintro e w4 ⟨rfl, v', m', h', hC, ho⟩
  have HE : Hid (CcO w bc bm base room N T' L' (.int .i64 code) (.returned (.int .i64 code)) w4) := ⟨rfl, ⟨_, hC, HL'.out⟩, outC_trans HO.out ho⟩
  clear HPl hC ho HL' HO HB2
  go_wp2_with fail
  go_ret
  exact HE.out
set_option maxRecDepth 100000 in
set_option maxHeartbeats 4000000 in
theorem chg_unpin (hC : CS w bc bm base room N T x) (hp : wfK p) (hf : x.f p = some b) {code : Int}
    (hA : ∀ y : World, Below w.heap.size w y → Calls Try.prog 41 #[.pointer (some ⟨b, 0, none⟩)] y (AcO y bc bm base room N T' b code L')) :
    Calls Try.prog 39 #[.pointer (some ⟨bc, 0, none⟩), keyV p, .func (.func 41) #[] #[]] w (CcO w bc bm base room N T' L' (.int .i64 code)) := by
  obtain ⟨ki, kl⟩ := p
  obtain ⟨-, d1, -, -⟩ := hC.cb.cell
  obtain ⟨w1, hw1⟩ : ∃ w1, w1 = w.alloc (.cells #[.int .i64 ki, .int .i64 kl] KT) := ⟨_, rfl⟩
  have HB1 : Hid (Below w.heap.size w w1) := by rw [hw1]; exact sup_pc9 w _
  have hX : Blo w1 w.heap.size KT #[.int .i64 ki, .int .i64 kl] := by rw [hw1]; exact blo_laid w _ _
  have c0 : ∀ y : Kept w1, y.at_.cell? ⟨w.heap.size, 0, none⟩ = some (.int .i64 ki) := fun y => cell_later y.below (Blo.cell hX 0)
  have c1 : ∀ y : Kept w1, y.at_.cell? ⟨w.heap.size, 1, none⟩ = some (.int .i64 kl) := fun y => cell_later y.below (Blo.cell hX 1)
  have c2 : ∀ y : Kept w1, y.at_.cell? ⟨bc, 1, none⟩ = some (.map (some bm)) := fun y => cell_later y.below (cell_later HB1.out d1)
  have k1 : ∀ y : Kept w1, (Instr.lookup KMT (.map (some bm)) (.agg #[.int .i64 ki, .int .i64 kl]) true).run Try.prog y.at_ = .ok (.tuple #[.pointer (some ⟨b, 0, none⟩), .bool true]) y.at_ := fun y => by
    have := (hC.km.later (HB1.out.trans (y.below.mono HB1.out.size))).look_ok hp
    rw [hf] at this
    exact this
  have HA := Lib.hid hA
  clear hC hp hf hX d1 hA
  unfold keyV
  go_enter Try.func39, Try.ntmps39
  go_upto_region 1 with (fail)
  rw [← hw1]
  clear hw1
  obtain ⟨g0, hg0⟩ : ∃ g0, w.heap.size = g0 := ⟨_, rfl⟩
  rw [hg0] at c0 c1 ⊢
  refine wp_region_kept (by kernel_rfl) (by kernel_rfl) ?_
  repeat (go_big_quiet_step (fail))
  refine wpQuiet_nil ?_
  rintro W2 ⟨w2, rfl⟩
  have HB2 := Lib.hid (HB1.out.trans (w2.below.mono HB1.out.size))
  clear c0 c1 c2 k1
  go_wp2_with fail
  refine (HA.out _ HB2.out).mono ?_
  rintro e w3 ⟨rfl, a, x', hL, hL', ho⟩
  have HO := Lib.hid (outC_trans (Out.of_below HB2.out) ho)
  have HPl := Lib.hid (place_any hL hL.blt)
  have HL' := Lib.hid hL'
  clear HA hL ho hL'
  go_wp2_with fail
  refine HPl.out.mono ?_
  rintro e w4 ⟨rfl, v', m', h', hC, ho⟩
  have HE : Hid (CcO w bc bm base room N T' L' (.int .i64 code) (.returned (.int .i64 code)) w4) := ⟨rfl, ⟨_, hC, HL'.out⟩, outC_trans HO.out ho⟩
  clear HPl hC ho HL' HO HB2
  go_wp2_with fail
  go_ret
  exact HE.out
set_option maxRecDepth 100000 in
set_option maxHeartbeats 4000000 in
theorem chg_drop (hC : CS w bc bm base room N T x) (hp : wfK p) (hf : x.f p = some b) {code : Int}
    (hA : ∀ y : World, Below w.heap.size w y → Calls Try.prog 43 #[.pointer (some ⟨bc, 0, none⟩), .pointer (some ⟨b, 0, none⟩)] y (AcO y bc bm base room N T' b code L')) :
    Calls Try.prog 39 #[.pointer (some ⟨bc, 0, none⟩), keyV p, .func (.func 43) #[.pointer (some ⟨bc, 0, none⟩)] #[]] w (CcO w bc bm base room N T' L' (.int .i64 code)) := by
  obtain ⟨ki, kl⟩ := p
  obtain ⟨-, d1, -, -⟩ := hC.cb.cell
  obtain ⟨w1, hw1⟩ : ∃ w1, w1 = w.alloc (.cells #[.int .i64 ki, .int .i64 kl] KT) := ⟨_, rfl⟩
  have HB1 : Hid (Below w.heap.size w w1) := by rw [hw1]; exact sup_pc9 w _
  have hX : Blo w1 w.heap.size KT #[.int .i64 ki, .int .i64 kl] := by rw [hw1]; exact blo_laid w _ _
  have c0 : ∀ y : Kept w1, y.at_.cell? ⟨w.heap.size, 0, none⟩ = some (.int .i64 ki) := fun y => cell_later y.below (Blo.cell hX 0)
  have c1 : ∀ y : Kept w1, y.at_.cell? ⟨w.heap.size, 1, none⟩ = some (.int .i64 kl) := fun y => cell_later y.below (Blo.cell hX 1)
  have c2 : ∀ y : Kept w1, y.at_.cell? ⟨bc, 1, none⟩ = some (.map (some bm)) := fun y => cell_later y.below (cell_later HB1.out d1)
  have k1 : ∀ y : Kept w1, (Instr.lookup KMT (.map (some bm)) (.agg #[.int .i64 ki, .int .i64 kl]) true).run Try.prog y.at_ = .ok (.tuple #[.pointer (some ⟨b, 0, none⟩), .bool true]) y.at_ := fun y => by
    have := (hC.km.later (HB1.out.trans (y.below.mono HB1.out.size))).look_ok hp
    rw [hf] at this
    exact this
  have HA := Lib.hid hA
  clear hC hp hf hX d1 hA
  unfold keyV
  go_enter Try.func39, Try.ntmps39
  go_upto_region 1 with (fail)
  rw [← hw1]
  clear hw1
  obtain ⟨g0, hg0⟩ : ∃ g0, w.heap.size = g0 := ⟨_, rfl⟩
  rw [hg0] at c0 c1 ⊢
  refine wp_region_kept (by kernel_rfl) (by kernel_rfl) ?_
  repeat (go_big_quiet_step (fail))
  refine wpQuiet_nil ?_
  rintro W2 ⟨w2, rfl⟩
  have HB2 := Lib.hid (HB1.out.trans (w2.below.mono HB1.out.size))
  clear c0 c1 c2 k1
  go_wp2_with fail
  refine (HA.out _ HB2.out).mono ?_
  rintro e w3 ⟨rfl, a, x', hL, hL', ho⟩
  have HO := Lib.hid (outC_trans (Out.of_below HB2.out) ho)
  have HPl := Lib.hid (place_any hL hL.blt)
  have HL' := Lib.hid hL'
  clear HA hL ho hL'
  go_wp2_with fail
  refine HPl.out.mono ?_
  rintro e w4 ⟨rfl, v', m', h', hC, ho⟩
  have HE : Hid (CcO w bc bm base room N T' L' (.int .i64 code) (.returned (.int .i64 code)) w4) := ⟨rfl, ⟨_, hC, HL'.out⟩, outC_trans HO.out ho⟩
  clear HPl hC ho HL' HO HB2
  go_wp2_with fail
  go_ret
  exact HE.out
theorem do_none (h : CA w bc bm base room N T L) (hp : wfK p) (hf : findK L p = none) (fv : Value) :
    Calls Try.prog 39 #[.pointer (some ⟨bc, 0, none⟩), keyV p, fv] w (CcO w bc bm base room N T L (.int .i64 2)) := by
  obtain ⟨x, hC, rfl⟩ := h
  refine chg_none hC hp ?_ fv
  rw [find_lst hC.ps p] at hf
  simpa using hf
theorem do_some (h : CA w bc bm base room N T L) {s : Bk} (hf : findK L p = some s) : ∃ x b, CS w bc bm base room N T x ∧ L = lstK x.S x.bs ∧ x.f p = some b ∧ s = bk (x.S b) ∧ b ∈ x.bs ∧ p = keyB (x.S b) := by
  obtain ⟨x, hC, rfl⟩ := h
  rw [find_lst hC.ps p] at hf
  cases hq : x.f p with
  | none => rw [hq] at hf; cases hf
  | some b =>
    rw [hq] at hf
    obtain ⟨h1, h2⟩ := (hC.ps.key p b).1 hq
    exact ⟨x, b, hC, rfl, hq, by simpa using hf.symm, h1, h2.symm⟩
end
end Go.Proofs.Ytdnkeplmjimjcaa
