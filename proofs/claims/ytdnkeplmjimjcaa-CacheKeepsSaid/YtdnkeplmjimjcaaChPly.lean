/-
  play: one call of the script.
-/
import Derived.Test.YtdnkeplmjimjcaaCOp
import Derived.Test.YtdnkeplmjimjcaaChLaw
import Derived.Deep.CutRange
namespace Go.Proofs.Ytdnkeplmjimjcaa
open Go.RowKit

/-- The bytes that a Put hands in. -/
def inB (x : OpC) : List Nat := if x.raw then x.b else byt x.b
/-- The blocks behind a call, its error, what it answers. -/
def playK (room : Int) (L : List Bk) (x : OpC) : List Bk × Int × Option (Nat → Nat) :=
  if x.k = 1 then ((putK room L x.key (inB x) x.dirty).1, (putK room L x.key (inB x) x.dirty).2, none)
  else if x.k = 2 then ((getK L x.key).1, 0, (getK L x.key).2)
  else if x.k = 3 then ((doK L 3 x.key).1, (doK L 3 x.key).2, none)
  else if x.k = 4 then ((doK L 4 x.key).1, (doK L 4 x.key).2, none)
  else if x.k = 5 then ((doK L 5 x.key).1, (doK L 5 x.key).2, none)
  else if x.k = 6 then ((doK L 6 x.key).1, (doK L 6 x.key).2, none)
  else (L, 0, none)
def PlyO (w : World) (bc bm base : Nat) (room : Int) (N T : Nat) (R : List Bk × Int × Option (Nat → Nat)) (e : Ending) (w' : World) : Prop :=
  CA w' bc bm base room N T R.1 ∧ Out (XC w bc bm base) w w' ∧
    ((R.2.2 = none ∧ e = .returned (.tuple #[.int .i64 R.2.1, .slice none 0 0, .bool false])) ∨
      ∃ d g c, R.2.2 = some d ∧ e = .returned (.tuple #[.int .i64 R.2.1, .slice (some ⟨g, 0, none⟩) 64 c, .bool true]) ∧ w'.ownsRow w.heap.size U8 1 (.slice (some ⟨g, 0, none⟩) 64 c) 64 (cellsB (dtL d)))
section
variable {w w' W : World} {bc bm base b : Nat} {room uses : Int} {N T T' : Nat} {L L' : List Bk}
theorem PlyO.before {w1 : World} {R : List Bk × Int × Option (Nat → Nat)} {e : Ending} (h : PlyO w1 bc bm base room N T R e w') (hb : Below w.heap.size w w1) : PlyO w bc bm base room N T R e w' := by
  obtain ⟨h1, h2, h3⟩ := h
  refine ⟨h1, outC_trans (Out.of_below hb) h2, ?_⟩
  rcases h3 with h3 | ⟨d, g, c, q1, q2, q3⟩
  · exact .inl h3
  · refine .inr ⟨d, g, c, q1, q2, q3.1, ?_⟩
    rcases q3.2 with q | ⟨g', c', cur, q, p1, p2⟩
    · exact .inl q
    · exact .inr ⟨g', c', cur, q, Nat.le_trans hb.size p1, p2⟩
theorem cc_ply {k : Int} {L0 : List Bk} {code : Int} {e : Ending} (h : CcO w bc bm base room N T L0 (.int .i64 code) e w') : e = .returned (.int .i64 code) ∧ CA w' bc bm base room N T L0 ∧ Out (XC w bc bm base) w w' := h
theorem xc_u8 {N T : Nat} {r : Int} {g : Nat} {cs : Array Value} (hC : CA W bc bm base r N T L) (h : Blo W g U8 cs) : ¬ XC W bc bm base g := by
  obtain ⟨n, f, ks, uses, v, hK, -, hB⟩ := hC.len
  rintro ⟨-, e | e | ⟨t, cs, q1, q2⟩⟩
  · exact h.apart hB (by decide) e
  · exact hK.blo h e.symm
  · unfold Blo at h q1
    rw [q1] at h
    cases h
    rcases q2 with e | e
    · exact absurd e (by decide)
    · exact absurd e (by decide)
theorem CA.out {r : Int} {X : Nat → Prop} (hC : CA w bc bm base r N T L) (ho : Out X w w') (hX : ∀ g, XC w bc bm base g → ¬ X g) : CA w' bc bm base r N T L := by
  obtain ⟨x, hC, e⟩ := hC
  exact ⟨x, hC.out ho hX, e⟩
theorem own_bloq {C : Nat} {e : TypeId} {sz n : Nat} {v : Value} {xs : List Value} (h : W.ownsRow C e sz v n xs) {g : Nat} (hg : v.ownBlock = some g) : C ≤ g ∧ ∃ cs, Blo W g e cs := by
  rcases h.2 with ⟨q, _⟩ | ⟨g', cap, cur, q, hb, hc, _⟩
  · rw [q] at hg; cases hg
  · rw [q] at hg
    obtain rfl : g' = g := by simpa [Value.ownBlock] using hg
    exact ⟨hb, cur, hc⟩
theorem own_din {C n : Nat} {a : Option Addr} {cap : Nat} {l : List Nat} {r : Int} (hC : CA W bc bm base r N T L) (h : W.ownsRow C U8 1 (.slice a n cap) n (cellsB l)) (hl : ∀ y ∈ l, y < 256) : DIn W bc bm base a l := by
  obtain ⟨a', cap', q1, -, q2, -⟩ := Bytes.own h hl
  cases q1
  refine ⟨q2, fun g o e => ?_⟩
  obtain ⟨-, cs, hb⟩ := own_bloq h (show (Value.slice a n cap).ownBlock = some g by rw [e]; rfl)
  exact ⟨hb.lt, xc_u8 hC hb⟩
set_option maxRecDepth 100000 in
set_option maxHeartbeats 4000000 in
theorem play_do (k : Int) (hk : k = 3 ∨ k = 4 ∨ k = 5 ∨ k = 6) (hC : CA w bc bm base room N T L) {ba : Option Addr} {bn bcap : Nat} {x : OpC} (hx : x.k = k) (hwf : wfK x.key) (hT : T ≤ 4000000000000000000) :
    Calls Try.prog 11 #[.pointer (some ⟨bc, 0, none⟩), .agg (opC ba bn bcap x)] w (PlyO w bc bm base room (N + 1) (T + 1) ((doK L k x.key).1, (doK L k x.key).2, none)) := by
  obtain ⟨xk, key, xb, raw, dirty⟩ := x
  have hx : xk = k := hx
  have hwf : wfK key := hwf
  subst hx
  show Calls Try.prog 11 #[.pointer (some ⟨bc, 0, none⟩), .agg #[.int .i64 xk, .int .i64 key.1, .int .i64 key.2, .slice ba bn bcap, .bool raw, .bool dirty]] w (PlyO w bc bm base room (N + 1) (T + 1) ((doK L xk key).1, (doK L xk key).2, none))
  obtain ⟨w1, hw1⟩ : ∃ w1, w1 = w.alloc (.cells #[.int .i64 xk, .int .i64 key.1, .int .i64 key.2, .slice ba bn bcap, .bool raw, .bool dirty] OpTy) := ⟨_, rfl⟩
  have HB1 : Hid (Below w.heap.size w w1) := by rw [hw1]; exact sup_pc9 w _
  have hX : Blo w1 w.heap.size OpTy #[.int .i64 xk, .int .i64 key.1, .int .i64 key.2, .slice ba bn bcap, .bool raw, .bool dirty] := by rw [hw1]; exact blo_laid w _ _
  have c0 : w1.cell? ⟨w.heap.size, 0, none⟩ = some (.int .i64 xk) := hX.cell 0
  have c1 : w1.cell? ⟨w.heap.size, 1, none⟩ = some (.int .i64 key.1) := hX.cell 1
  have c2 : w1.cell? ⟨w.heap.size, 2, none⟩ = some (.int .i64 key.2) := hX.cell 2
  have hC1 := hC.later HB1.out
  clear hX
  rcases hk with rfl | rfl | rfl | rfl
  · have HD : Hid (Calls Try.prog 26 #[.pointer (some ⟨bc, 0, none⟩), .agg #[.int .i64 key.1, .int .i64 key.2]] w1 (CcO w1 bc bm base room N (T + 1) (doK L 3 key).1 (.int .i64 (doK L 3 key).2))) := clean_any hC1 hwf
    clear hC hC1
    go_enter Try.func11, Try.ntmps11
    go_upto_region 1 with (fail)
    rw [← hw1]
    clear hw1
    go_wp2_with fail
    refine HD.out.mono ?_
    rintro e w2 ⟨rfl, hC2, ho⟩
    have HE : Hid (PlyO w bc bm base room (N + 1) (T + 1) ((doK L 3 key).1, (doK L 3 key).2, none) (.returned (.tuple #[.int .i64 (doK L 3 key).2, .slice none 0 0, .bool false])) w2) := ⟨hC2.mono (by omega) (Nat.le_refl _), outC_trans (Out.of_below HB1.out) ho, .inl ⟨rfl, rfl⟩⟩
    clear hC2 ho HD c0 c1 c2
    go_wp2_with fail
    go_ret3
    exact HE.out
  · have HD : Hid (Calls Try.prog 24 #[.pointer (some ⟨bc, 0, none⟩), .agg #[.int .i64 key.1, .int .i64 key.2]] w1 (CcO w1 bc bm base room N (T + 1) (doK L 4 key).1 (.int .i64 (doK L 4 key).2))) := pinc_any hC1 hwf hT
    clear hC hC1
    go_enter Try.func11, Try.ntmps11
    go_upto_region 1 with (fail)
    rw [← hw1]
    clear hw1
    go_wp2_with fail
    refine HD.out.mono ?_
    rintro e w2 ⟨rfl, hC2, ho⟩
    have HE : Hid (PlyO w bc bm base room (N + 1) (T + 1) ((doK L 4 key).1, (doK L 4 key).2, none) (.returned (.tuple #[.int .i64 (doK L 4 key).2, .slice none 0 0, .bool false])) w2) := ⟨hC2.mono (by omega) (Nat.le_refl _), outC_trans (Out.of_below HB1.out) ho, .inl ⟨rfl, rfl⟩⟩
    clear hC2 ho HD c0 c1 c2
    go_wp2_with fail
    go_ret3
    exact HE.out
  · have HD : Hid (Calls Try.prog 25 #[.pointer (some ⟨bc, 0, none⟩), .agg #[.int .i64 key.1, .int .i64 key.2]] w1 (CcO w1 bc bm base room N (T + 1) (doK L 5 key).1 (.int .i64 (doK L 5 key).2))) := unpinc_any hC1 hwf hT
    clear hC hC1
    go_enter Try.func11, Try.ntmps11
    go_upto_region 1 with (fail)
    rw [← hw1]
    clear hw1
    go_wp2_with fail
    refine HD.out.mono ?_
    rintro e w2 ⟨rfl, hC2, ho⟩
    have HE : Hid (PlyO w bc bm base room (N + 1) (T + 1) ((doK L 5 key).1, (doK L 5 key).2, none) (.returned (.tuple #[.int .i64 (doK L 5 key).2, .slice none 0 0, .bool false])) w2) := ⟨hC2.mono (by omega) (Nat.le_refl _), outC_trans (Out.of_below HB1.out) ho, .inl ⟨rfl, rfl⟩⟩
    clear hC2 ho HD c0 c1 c2
    go_wp2_with fail
    go_ret3
    exact HE.out
  · have HD : Hid (Calls Try.prog 27 #[.pointer (some ⟨bc, 0, none⟩), .agg #[.int .i64 key.1, .int .i64 key.2]] w1 (CcO w1 bc bm base room N (T + 1) (doK L 6 key).1 (.int .i64 (doK L 6 key).2))) := dropc_any hC1 hwf
    clear hC hC1
    go_enter Try.func11, Try.ntmps11
    go_upto_region 1 with (fail)
    rw [← hw1]
    clear hw1
    go_wp2_with fail
    refine HD.out.mono ?_
    rintro e w2 ⟨rfl, hC2, ho⟩
    have HE : Hid (PlyO w bc bm base room (N + 1) (T + 1) ((doK L 6 key).1, (doK L 6 key).2, none) (.returned (.tuple #[.int .i64 (doK L 6 key).2, .slice none 0 0, .bool false])) w2) := ⟨hC2.mono (by omega) (Nat.le_refl _), outC_trans (Out.of_below HB1.out) ho, .inl ⟨rfl, rfl⟩⟩
    clear hC2 ho HD c0 c1 c2
    go_wp2_with fail
    go_ret3
    exact HE.out
set_option maxRecDepth 100000 in
set_option maxHeartbeats 4000000 in
theorem play_none (hC : CA w bc bm base room N T L) {ba : Option Addr} {bn bcap : Nat} {x : OpC} (hwf : wfK x.key) (h1 : x.k ≠ 1) (h2 : x.k ≠ 2) (h3 : x.k ≠ 3) (h4 : x.k ≠ 4) (h5 : x.k ≠ 5) (h6 : x.k ≠ 6) :
    Calls Try.prog 11 #[.pointer (some ⟨bc, 0, none⟩), .agg (opC ba bn bcap x)] w (PlyO w bc bm base room (N + 1) (T + 1) (L, 0, none)) := by
  obtain ⟨xk, key, xb, raw, dirty⟩ := x
  have hwf : wfK key := hwf
  show Calls Try.prog 11 #[.pointer (some ⟨bc, 0, none⟩), .agg #[.int .i64 xk, .int .i64 key.1, .int .i64 key.2, .slice ba bn bcap, .bool raw, .bool dirty]] w (PlyO w bc bm base room (N + 1) (T + 1) (L, 0, none))
  obtain ⟨w1, hw1⟩ : ∃ w1, w1 = w.alloc (.cells #[.int .i64 xk, .int .i64 key.1, .int .i64 key.2, .slice ba bn bcap, .bool raw, .bool dirty] OpTy) := ⟨_, rfl⟩
  have HB1 : Hid (Below w.heap.size w w1) := by rw [hw1]; exact sup_pc9 w _
  have hX : Blo w1 w.heap.size OpTy #[.int .i64 xk, .int .i64 key.1, .int .i64 key.2, .slice ba bn bcap, .bool raw, .bool dirty] := by rw [hw1]; exact blo_laid w _ _
  have c0 : w1.cell? ⟨w.heap.size, 0, none⟩ = some (.int .i64 xk) := hX.cell 0
  have c1 : w1.cell? ⟨w.heap.size, 1, none⟩ = some (.int .i64 key.1) := hX.cell 1
  have c2 : w1.cell? ⟨w.heap.size, 2, none⟩ = some (.int .i64 key.2) := hX.cell 2
  have q1 : (xk == 1) = false := by simpa using h1
  have q2 : (xk == 2) = false := by simpa using h2
  have q3 : (xk == 3) = false := by simpa using h3
  have q4 : (xk == 4) = false := by simpa using h4
  have q5 : (xk == 5) = false := by simpa using h5
  have q6 : (xk == 6) = false := by simpa using h6
  have HE : Hid (PlyO w bc bm base room (N + 1) (T + 1) (L, 0, none) (.returned (.tuple #[.int .i64 0, .slice none 0 0, .bool false])) w1) := ⟨(hC.later HB1.out).mono (by omega) (by omega), Out.of_below HB1.out, .inl ⟨rfl, rfl⟩⟩
  clear hC hX h1 h2 h3 h4 h5 h6
  go_enter Try.func11, Try.ntmps11
  go_upto_region 1 with (fail)
  rw [← hw1]
  clear hw1
  go_wp2_with fail
  go_ret3
  exact HE.out
set_option maxRecDepth 100000 in
set_option maxHeartbeats 4000000 in
theorem play_get (hC : CA w bc bm base room N T L) {ba : Option Addr} {bn bcap : Nat} {x : OpC} (hx : x.k = 2) (hwf : wfK x.key) (hT : T ≤ 4000000000000000000) :
    Calls Try.prog 11 #[.pointer (some ⟨bc, 0, none⟩), .agg (opC ba bn bcap x)] w (PlyO w bc bm base room (N + 1) (T + 1) ((getK L x.key).1, 0, (getK L x.key).2)) := by
  obtain ⟨xk, key, xb, raw, dirty⟩ := x
  have hwf : wfK key := hwf
  show Calls Try.prog 11 #[.pointer (some ⟨bc, 0, none⟩), .agg #[.int .i64 xk, .int .i64 key.1, .int .i64 key.2, .slice ba bn bcap, .bool raw, .bool dirty]] w (PlyO w bc bm base room (N + 1) (T + 1) ((getK L key).1, 0, (getK L key).2))
  obtain ⟨w1, hw1⟩ : ∃ w1, w1 = w.alloc (.cells #[.int .i64 xk, .int .i64 key.1, .int .i64 key.2, .slice ba bn bcap, .bool raw, .bool dirty] OpTy) := ⟨_, rfl⟩
  have HB1 : Hid (Below w.heap.size w w1) := by rw [hw1]; exact sup_pc9 w _
  have hX : Blo w1 w.heap.size OpTy #[.int .i64 xk, .int .i64 key.1, .int .i64 key.2, .slice ba bn bcap, .bool raw, .bool dirty] := by rw [hw1]; exact blo_laid w _ _
  have c0 : w1.cell? ⟨w.heap.size, 0, none⟩ = some (.int .i64 xk) := hX.cell 0
  have c1 : w1.cell? ⟨w.heap.size, 1, none⟩ = some (.int .i64 key.1) := hX.cell 1
  have c2 : w1.cell? ⟨w.heap.size, 2, none⟩ = some (.int .i64 key.2) := hX.cell 2
  have hx : xk = 2 := hx
  subst hx
  have HD : Hid (Calls Try.prog 22 #[.pointer (some ⟨bc, 0, none⟩), .agg #[.int .i64 key.1, .int .i64 key.2]] w1 (GeO w1 bc bm base room N (T + 1) L key)) := get_any (hC.later HB1.out) hwf hT
  clear hC hX
  go_enter Try.func11, Try.ntmps11
  go_upto_region 1 with (fail)
  rw [← hw1]
  clear hw1
  go_wp2_with fail
  refine HD.out.mono ?_
  rintro e w2 ⟨hC2, ho, hr⟩
  rcases hr with ⟨hn, rfl⟩ | ⟨d, g, c, hs, rfl, hown⟩
  · have HE : Hid (PlyO w bc bm base room (N + 1) (T + 1) ((getK L key).1, 0, (getK L key).2) (.returned (.tuple #[.int .i64 0, .slice none 0 0, .bool false])) w2) := ⟨hC2.mono (by omega) (Nat.le_refl _), outC_trans (Out.of_below HB1.out) ho, .inl ⟨hn, rfl⟩⟩
    clear hC2 ho HD c0 c1 c2 hn
    go_wp2_with fail
    go_ret3
    exact HE.out
  · have HE : Hid (PlyO w bc bm base room (N + 1) (T + 1) ((getK L key).1, 0, (getK L key).2) (.returned (.tuple #[.int .i64 0, .slice (some ⟨g, 0, none⟩) 64 c, .bool true])) w2) := PlyO.before ⟨hC2.mono (by omega) (Nat.le_refl _), ho, .inr ⟨d, g, c, hs, rfl, hown⟩⟩ HB1.out
    clear hC2 ho HD c0 c1 c2 hs hown
    go_wp2_with fail
    go_ret3
    exact HE.out
theorem cellsB_setq (l : List Nat) (i y : Nat) : (cellsB l).set i (.int .u8 (y : Int)) = cellsB (l.set i y) := by
  unfold cellsB
  rw [List.map_set]
def PlyR (w : World) (bc bm base : Nat) (room : Int) (N T : Nat) (L : List Bk) (a : Option Addr) (c n : Nat) (v : Value) (wr : World) : Prop :=
  ∃ (i : Nat) (l : List Nat), i ≤ n ∧ v = .int .i64 (i : Int) ∧ l.length = n ∧ (∀ y ∈ l, y < 256) ∧ wr.ownsRow w.heap.size U8 1 (.slice a n c) n (cellsB l) ∧ CA wr bc bm base room N T L ∧ Out (XC w bc bm base) w wr
theorem ply_step {wr : World} {g5 c n i : Nat} {l : List Nat} (hown : wr.ownsRow w.heap.size U8 1 (.slice (some ⟨g5, 0, none⟩) n c) n (cellsB l)) (hl : l.length = n) (h256 : ∀ y ∈ l, y < 256) (hlt : i < n) (hC : CA wr bc bm base room N T L) (ho : Out (XC w bc bm base) w wr) (hg : w.heap.size ≤ g5) :
    ∃ l' : List Nat, i + 1 ≤ n ∧ Value.int .i64 ((i : Int) + 1) = .int .i64 ((i + 1 : Nat) : Int) ∧ l'.length = n ∧ (∀ y ∈ l', y < 256) ∧ (wr.setCell ⟨g5, i, none⟩ (.int .u8 ((((l.getD i 0 : Nat) : Int) + 1) % 256))).ownsRow w.heap.size U8 1 (.slice (some ⟨g5, 0, none⟩) n c) n (cellsB l') ∧ CA (wr.setCell ⟨g5, i, none⟩ (.int .u8 ((((l.getD i 0 : Nat) : Int) + 1) % 256))) bc bm base room N T L ∧ Out (XC w bc bm base) w (wr.setCell ⟨g5, i, none⟩ (.int .u8 ((((l.getD i 0 : Nat) : Int) + 1) % 256))) := by
  obtain ⟨-, cs, hb⟩ := own_bloq hown (g := g5) rfl
  have hv : (((l.getD i 0 : Nat) : Int) + 1) % 256 = (((l.getD i 0 + 1) % 256 : Nat) : Int) := by omega
  have ho2 : Out (fun g => g = g5) wr (wr.setCell ⟨g5, i, none⟩ (.int .u8 ((((l.getD i 0 : Nat) : Int) + 1) % 256))) := out_put _ _ _ rfl
  refine ⟨l.set i ((l.getD i 0 + 1) % 256), hlt, rfl, by simp [hl], fun y hy => ?_, ?_, hC.out ho2 (fun g hg e => by rw [e] at hg; exact xc_u8 hC hb hg), ho.trans ho2 (fun g hg e => by omega)⟩
  · rcases List.mem_or_eq_of_mem_set hy with q | q
    · exact h256 y q
    · omega
  · have := (hown.stored i (.int .u8 ((((l.getD i 0 : Nat) : Int) + 1) % 256))).1
    rw [hv] at this ⊢
    rw [cellsB_setq] at this
    exact this
set_option maxRecDepth 100000 in
set_option maxHeartbeats 8000000 in
theorem play_put (hC : CA w bc bm base room N T L) {ba : Option Addr} {bn bcap : Nat} {x : OpC} (hop : OpCIs w ba bn bcap x) (hx : x.k = 1) (hb : x.b.length ≤ 200) (hT : T ≤ 4000000000000000000) (hN : N < 1000000) :
    Calls Try.prog 11 #[.pointer (some ⟨bc, 0, none⟩), .agg (opC ba bn bcap x)] w (PlyO w bc bm base room (N + 1) (T + 1) ((putK room L x.key (inB x) x.dirty).1, (putK room L x.key (inB x) x.dirty).2, none)) := by
  obtain ⟨xk, key, xb, raw, dirty⟩ := x
  have hwf : wfK key := hop.wf
  have hx : xk = 1 := hx
  subst hx
  have hb : xb.length ≤ 200 := hb
  have hbi : BytesIn w ba bn bcap xb := hop.b
  show Calls Try.prog 11 #[.pointer (some ⟨bc, 0, none⟩), .agg #[.int .i64 1, .int .i64 key.1, .int .i64 key.2, .slice ba bn bcap, .bool raw, .bool dirty]] w (PlyO w bc bm base room (N + 1) (T + 1) ((putK room L key (if raw then xb else byt xb) dirty).1, (putK room L key (if raw then xb else byt xb) dirty).2, none))
  obtain ⟨w1, hw1⟩ : ∃ w1, w1 = w.alloc (.cells #[.int .i64 1, .int .i64 key.1, .int .i64 key.2, .slice ba bn bcap, .bool raw, .bool dirty] OpTy) := ⟨_, rfl⟩
  have HB1 : Hid (Below w.heap.size w w1) := by rw [hw1]; exact sup_pc9 w _
  have hX : Blo w1 w.heap.size OpTy #[.int .i64 1, .int .i64 key.1, .int .i64 key.2, .slice ba bn bcap, .bool raw, .bool dirty] := by rw [hw1]; exact blo_laid w _ _
  have c0 : w1.cell? ⟨w.heap.size, 0, none⟩ = some (.int .i64 1) := hX.cell 0
  have c3 : w1.cell? ⟨w.heap.size, 3, none⟩ = some (.slice ba bn bcap) := hX.cell 3
  have c4 : w1.cell? ⟨w.heap.size, 4, none⟩ = some (.bool raw) := hX.cell 4
  have HX := Lib.hid hX
  have HC1 := Lib.hid (hC.later HB1.out)
  have HBi := Lib.hid (hbi.below HB1.out)
  have HWf := Lib.hid hwf
  have HTN := Lib.hid (And.intro hT hN)
  have hbn : bn ≤ 200 := by rw [hbi.1]; exact hb
  have HCs1 : Hid (∀ W, Below w1.heap.size w1 W → W.cell? ⟨w.heap.size, 1, none⟩ = some (.int .i64 key.1) ∧ W.cell? ⟨w.heap.size, 2, none⟩ = some (.int .i64 key.2) ∧ W.cell? ⟨w.heap.size, 5, none⟩ = some (.bool dirty)) := fun W h => ⟨(HX.out.later h).cell 1, (HX.out.later h).cell 2, (HX.out.later h).cell 5⟩
  clear hC hX hbi hop hwf hT hN
  rcases raw with _ | _
  · have HBy := Lib.hid (bytes_any ba bn bcap xb w1 HBi.out.1 (by omega) HBi.out.2.1)
    go_enter Try.func11, Try.ntmps11
    go_upto_region 1 with (fail)
    rw [← hw1]
    clear hw1
    go_wp2_with fail
    refine HBy.out.mono ?_
    rintro e w2 ⟨g, rfl, hg, -, hb2⟩
    have HG := Lib.hid hg
    have HB2 := Lib.hid hb2
    have HAl := Lib.hid (sup_pc9 w2 (.cells #[] U8))
    have HSrc : Hid (∀ ad, some (⟨g, 0, none⟩ : Addr) = some ad → ∀ j u, (cellsB (byt xb))[j]? = some u → (w2.alloc (.cells #[] U8)).cell? (ad.add j) = some u) := fun ad e j u hj => by
      cases e
      rw [Addr.add_lit, Nat.zero_add, (hg.later HAl.out).1.cell, List.getElem?_toArray]
      exact hj
    have HLen : Hid ((cellsB (byt xb)).length = 64 * 1) := by show _ = 64 * 1; rw [cellsB_length, byt_length]
    clear hg hb2 HBy c0 c3 c4
    go_upto_region 7 with (at_builtin; refine wp_copy_in rfl (.tmp 25) (.tmp 26) BYS rfl w2.heap.size U8 (.int .u8 0) 1 1 Try.underlying35 info_u8c rfl (by decide) (.slice (some ⟨w2.heap.size, 0, none⟩) 0 0) rfl (own_empty w2 w2.heap.size U8 1 (Nat.le_refl _)) (some ⟨g, 0, none⟩) 64 64 (cellsB (byt xb)) rfl HLen.out HSrc.out (cellsB_oneC _) (fun h => by cases h) (by omega) (by omega) (by simp) ?_; intro a5 c5 w3 hown hgrow; have HO3 := Lib.hid hown; have HB23 : Hid (Below w2.heap.size w2 w3) := HAl.out.grown hgrow HAl.out.size (fun q hq => by simp [Value.ownBlock] at hq; omega); clear hown hgrow)
    have HB13 := Lib.hid (HB2.out.trans (HB23.out.mono HB2.out.size))
    have HB3 := Lib.hid (HB1.out.trans (HB13.out.mono HB1.out.size))
    have HC3 := Lib.hid (HC1.out.later HB13.out)
    have HWl : Hid (w.heap.size ≤ w2.heap.size) := Nat.le_trans HB1.out.size HB2.out.size
    have HCs := Lib.hid (fun W (_ : Below w.heap.size w W) => HCs1.out w3 HB13.out)
    have hln : 64 = (byt xb).length := (byt_length _).symm
    have hl256 : ∀ y ∈ byt xb, y < 256 := byt_byte HBi.out.2.1.1
    clear HSrc HLen HAl HB23 HG HB2 HB1 HC1 HX HCs1
    have HIn := Lib.hid (And.intro hln hl256)
    have HPu : Hid (Calls Try.prog 23 #[.pointer (some ⟨bc, 0, none⟩), .agg #[.int .i64 key.1, .int .i64 key.2], .slice a5 64 c5, .bool dirty] w3 (CcO w3 bc bm base room (N + 1) (T + 1) (putK room L key (byt xb) dirty).1 (.int .i64 (putK room L key (byt xb) dirty).2))) := put_any HC3.out HWf.out (own_din HC3.out HO3.out hl256) hln (by omega) HTN.out.1 HTN.out.2
    obtain ⟨c1, c2, c5'⟩ := HCs.out w3 HB3.out
    clear hln hl256
    go_wp2_with fail
    refine HPu.out.mono ?_
    rintro e w4 ⟨rfl, hC4, ho4⟩
    obtain ⟨R, hR⟩ : ∃ R, putK room L key (byt xb) dirty = R := ⟨_, rfl⟩
    rw [hR] at hC4 ⊢
    have HRq := Lib.hid hR
    have HO4 : Hid (w4.ownsRow w.heap.size U8 1 (.slice a5 64 c5) 64 (cellsB (byt xb))) := by
      have q := ho4.own HO3.out (fun g hg => by
        obtain ⟨-, cs, hb⟩ := own_bloq HO3.out hg
        exact xc_u8 HC3.out hb)
      refine ⟨q.1, ?_⟩
      rcases q.2 with q | ⟨g', c', cur, q, p1, p2⟩
      · exact .inl q
      · exact .inr ⟨g', c', cur, q, Nat.le_trans HWl.out p1, p2⟩
    have HSt : Hid (PlyR w bc bm base room (N + 1) (T + 1) R.1 a5 c5 64 (.int .i64 0) w4) := ⟨0, (byt xb), Nat.zero_le _, rfl, HIn.out.1.symm, HIn.out.2, HO4.out, hC4, outC_trans (Out.of_below HB3.out) ho4⟩
    clear hC4 ho4 HO4 HO3 HC3 HPu HIn hR c1 c2 c5'
    go_wp2_with fail
    go_loopw [37] (fun v wr => PlyR w bc bm base room (N + 1) (T + 1) R.1 a5 c5 64 v wr) (fun v _ => 64 - (intOf v).toNat)
    case atStart => exact HSt.out
    case round =>
      clear HSt
      obtain ⟨i, l', hi, rfl, hl', h256, hown, hCr, hor⟩ := hrel
      by_cases hlt : i < 64
      · have i0 : (0 : Int) ≤ (i : Int) := by omega
        have i1 : (i : Int) < 64 := by omega
        obtain ⟨g5, rfl⟩ : ∃ g5, a5 = some ⟨g5, 0, none⟩ := by
          rcases hown.2 with ⟨q, q2⟩ | ⟨g, c', cur, q, _⟩
          · omega
          · cases q; exact ⟨g, rfl⟩
        have HR := Lib.hid (ply_step hown hl' h256 hlt hCr hor (by
          have := own_bloq hown (g := g5) rfl
          exact this.1))
        have hc := hown.cellAt i (by omega)
        rw [cellsB_get l' i (by omega)] at hc
        have hf := hown.frozenAt i
        clear hown hCr hor hl' h256
        generalize l'.getD i 0 = y at *
        go_wp2_with fail
        go_roundw
        case rel => exact ⟨i + 1, HR.out⟩
        case measure => simp [intOf]; omega
      · have HE : Hid (PlyO w bc bm base room (N + 1) (T + 1) (R.1, R.2, none) (.returned (.tuple #[.int .i64 R.2, .slice none 0 0, .bool false])) wr) := ⟨hCr, hor, .inl ⟨rfl, rfl⟩⟩
        have hlt' : ¬ (i : Int) < 64 := by omega
        clear hown hCr hor hl' h256
        go_wp2_with fail
        go_ret3
        have hq := HRq.out
        subst hq
        exact HE.out
  · go_enter Try.func11, Try.ntmps11
    go_upto_region 1 with (fail)
    rw [← hw1]
    clear hw1
    have HAl := Lib.hid (sup_pc9 w1 (.cells #[] U8))
    have HSrc : Hid (∀ ad, ba = some ad → ∀ j u, (cellsB xb)[j]? = some u → (w1.alloc (.cells #[] U8)).cell? (ad.add j) = some u) := fun ad e j u hj => by
      have hj' : j < xb.length := by
        have := (List.getElem?_eq_some_iff.1 hj).1
        rwa [cellsB_length] at this
      obtain ⟨b, o, e2, hc⟩ := (HBi.out.2.1.below HAl.out).2.2 (fun q => by rw [q] at hj'; simp at hj')
      rw [e2] at e
      cases e
      rw [Addr.add_mid, hc j hj', ← cellsB_get xb j hj', hj]
    have HLen : Hid ((cellsB xb).length = bn * 1) := by show _ = bn * 1; rw [cellsB_length, HBi.out.1]; omega
    go_upto_region 7 with (at_builtin; refine wp_copy_in rfl (.tmp 25) (.tmp 26) BYS rfl w1.heap.size U8 (.int .u8 0) 1 1 Try.underlying35 info_u8c rfl (by decide) (.slice (some ⟨w1.heap.size, 0, none⟩) 0 0) rfl (own_empty w1 w1.heap.size U8 1 (Nat.le_refl _)) ba bn bcap (cellsB xb) rfl HLen.out HSrc.out (cellsB_oneC _) HBi.out.2.2.1 (by omega) (by omega) (by simp) ?_; intro a5 c5 w3 hown hgrow; have HO3 := Lib.hid hown; have HB13 : Hid (Below w1.heap.size w1 w3) := HAl.out.grown hgrow HAl.out.size (fun q hq => by simp [Value.ownBlock] at hq; omega); clear hown hgrow)
    have HB3 := Lib.hid (HB1.out.trans (HB13.out.mono HB1.out.size))
    have HC3 := Lib.hid (HC1.out.later HB13.out)
    have HWl : Hid (w.heap.size ≤ w1.heap.size) := HB1.out.size
    have HCs := Lib.hid (fun W (_ : Below w.heap.size w W) => HCs1.out w3 HB13.out)
    have hln : bn = xb.length := HBi.out.1
    have hl256 : ∀ y ∈ xb, y < 256 := HBi.out.2.1.1
    clear HSrc HLen HAl HB1 HC1 HX HCs1 c0 c3 c4
    have HIn := Lib.hid (And.intro hln hl256)
    have HPu : Hid (Calls Try.prog 23 #[.pointer (some ⟨bc, 0, none⟩), .agg #[.int .i64 key.1, .int .i64 key.2], .slice a5 bn c5, .bool dirty] w3 (CcO w3 bc bm base room (N + 1) (T + 1) (putK room L key xb dirty).1 (.int .i64 (putK room L key xb dirty).2))) := put_any HC3.out HWf.out (own_din HC3.out HO3.out hl256) hln (by omega) HTN.out.1 HTN.out.2
    obtain ⟨c1, c2, c5'⟩ := HCs.out w3 HB3.out
    clear hln hl256
    go_wp2_with fail
    refine HPu.out.mono ?_
    rintro e w4 ⟨rfl, hC4, ho4⟩
    obtain ⟨R, hR⟩ : ∃ R, putK room L key xb dirty = R := ⟨_, rfl⟩
    rw [hR] at hC4 ⊢
    have HRq := Lib.hid hR
    have HO4 : Hid (w4.ownsRow w.heap.size U8 1 (.slice a5 bn c5) bn (cellsB xb)) := by
      have q := ho4.own HO3.out (fun g hg => by
        obtain ⟨-, cs, hb⟩ := own_bloq HO3.out hg
        exact xc_u8 HC3.out hb)
      refine ⟨q.1, ?_⟩
      rcases q.2 with q | ⟨g', c', cur, q, p1, p2⟩
      · exact .inl q
      · exact .inr ⟨g', c', cur, q, Nat.le_trans HWl.out p1, p2⟩
    have HSt : Hid (PlyR w bc bm base room (N + 1) (T + 1) R.1 a5 c5 bn (.int .i64 0) w4) := ⟨0, xb, Nat.zero_le _, rfl, HIn.out.1.symm, HIn.out.2, HO4.out, hC4, outC_trans (Out.of_below HB3.out) ho4⟩
    clear hC4 ho4 HO4 HO3 HC3 HPu HIn hR c1 c2 c5'
    go_wp2_with fail
    go_loopw [37] (fun v wr => PlyR w bc bm base room (N + 1) (T + 1) R.1 a5 c5 bn v wr) (fun v _ => bn - (intOf v).toNat)
    case atStart => exact HSt.out
    case round =>
      clear HSt
      obtain ⟨i, l', hi, rfl, hl', h256, hown, hCr, hor⟩ := hrel
      by_cases hlt : i < bn
      · have i0 : (0 : Int) ≤ (i : Int) := by omega
        have i1 : (i : Int) < (bn : Int) := by omega
        obtain ⟨g5, rfl⟩ : ∃ g5, a5 = some ⟨g5, 0, none⟩ := by
          rcases hown.2 with ⟨q, q2⟩ | ⟨g, c', cur, q, _⟩
          · omega
          · cases q; exact ⟨g, rfl⟩
        have HR := Lib.hid (ply_step hown hl' h256 hlt hCr hor (by
          have := own_bloq hown (g := g5) rfl
          exact this.1))
        have hc := hown.cellAt i (by omega)
        rw [cellsB_get l' i (by omega)] at hc
        have hf := hown.frozenAt i
        clear hown hCr hor hl' h256
        generalize l'.getD i 0 = y at *
        go_wp2_with fail
        go_roundw
        case rel => exact ⟨i + 1, HR.out⟩
        case measure => simp [intOf]; omega
      · have HE : Hid (PlyO w bc bm base room (N + 1) (T + 1) (R.1, R.2, none) (.returned (.tuple #[.int .i64 R.2, .slice none 0 0, .bool false])) wr) := ⟨hCr, hor, .inl ⟨rfl, rfl⟩⟩
        have hlt' : ¬ (i : Int) < (bn : Int) := by omega
        clear hown hCr hor hl' h256
        go_wp2_with fail
        go_ret3
        have hq := HRq.out
        subst hq
        exact HE.out
/-- One call of the script. -/
theorem play_any (hC : CA w bc bm base room N T L) {ba : Option Addr} {bn bcap : Nat} {x : OpC} (hop : OpCIs w ba bn bcap x) (hb : x.b.length ≤ 200) (hT : T ≤ 4000000000000000000) (hN : N < 1000000) :
    Calls Try.prog 11 #[.pointer (some ⟨bc, 0, none⟩), .agg (opC ba bn bcap x)] w (PlyO w bc bm base room (N + 1) (T + 1) (playK room L x)) := by
  unfold playK
  by_cases h1 : x.k = 1
  · rw [if_pos h1]; exact play_put hC hop h1 hb hT hN
  rw [if_neg h1]
  by_cases h2 : x.k = 2
  · rw [if_pos h2]; exact play_get hC h2 hop.wf hT
  rw [if_neg h2]
  by_cases h3 : x.k = 3
  · rw [if_pos h3]; exact play_do 3 (.inl rfl) hC h3 hop.wf hT
  rw [if_neg h3]
  by_cases h4 : x.k = 4
  · rw [if_pos h4]; exact play_do 4 (.inr (.inl rfl)) hC h4 hop.wf hT
  rw [if_neg h4]
  by_cases h5 : x.k = 5
  · rw [if_pos h5]; exact play_do 5 (.inr (.inr (.inl rfl))) hC h5 hop.wf hT
  rw [if_neg h5]
  by_cases h6 : x.k = 6
  · rw [if_pos h6]; exact play_do 6 (.inr (.inr (.inr rfl))) hC h6 hop.wf hT
  rw [if_neg h6]
  exact play_none hC hop.wf h1 h2 h3 h4 h5 h6
end
end Go.Proofs.Ytdnkeplmjimjcaa
