/-
  ChPly · ChFuM · ChRwM · KGen · ChLaM · IntsIn: these texts in one.
-/
import Derived.Test.YtdnkeplmjimjcaaPk09
import Derived.Deep.CutRange
import Derived.Test.YtdnkeplmjimjcaaPk07
import Derived.Test.YtdnkeplmjimjcaaPk05
import Derived.Test.YtdnkeplmjimjcaaPk00
/-
  play: one call of the script.
-/
namespace Go.Proofs.Ytdnkeplmjimjcaa
open Go.RowKit

/-- The bytes that a Put hands in. -/
def inB (x : OpC) : List Nat := if x.raw then x.b else byt x.b
/-- The blocks behind a call, its error, what it answers. -/
def playK (room : Int) (L : List Bk) (x : OpC) : List Bk × Int × Option (Nat → Nat) :=
  if x.k = 1 then ((putK room L x.key (inB x) x.dirty).1, (putK room L x.key (inB x) x.dirty).2, none)
  else if x.k = 2 then ((getK L x.key).1, 0, (getK L x.key).2)
  else if x.k = 3 then ((doK L 3 x.key).1, (doK L 3 x.key).2, none)
  else if x.k = 4 then ((doK L 4 x.key).1, (doK L 4 x.key).2, none)
  else if x.k = 5 then ((doK L 5 x.key).1, (doK L 5 x.key).2, none)
  else if x.k = 6 then ((doK L 6 x.key).1, (doK L 6 x.key).2, none)
  else (L, 0, none)
def PlyO (w : World) (bc bm base : Nat) (room : Int) (N T : Nat) (R : List Bk × Int × Option (Nat → Nat)) (e : Ending) (w' : World) : Prop :=
  CA w' bc bm base room N T R.1 ∧ Out (XC w bc bm base) w w' ∧
    ((R.2.2 = none ∧ e = .returned (.tuple #[.int .i64 R.2.1, .slice none 0 0, .bool false])) ∨
      ∃ d g c, R.2.2 = some d ∧ e = .returned (.tuple #[.int .i64 R.2.1, .slice (some ⟨g, 0, none⟩) 64 c, .bool true]) ∧ w'.ownsRow w.heap.size U8 1 (.slice (some ⟨g, 0, none⟩) 64 c) 64 (cellsB (dtL d)))
section
variable {w w' W : World} {bc bm base b : Nat} {room uses : Int} {N T T' : Nat} {L L' : List Bk}
theorem PlyO.before {w1 : World} {R : List Bk × Int × Option (Nat → Nat)} {e : Ending} (h : PlyO w1 bc bm base room N T R e w') (hb : Below w.heap.size w w1) : PlyO w bc bm base room N T R e w' := by
  obtain ⟨h1, h2, h3⟩ := h
  refine ⟨h1, outC_trans (Out.of_below hb) h2, ?_⟩
  rcases h3 with h3 | ⟨d, g, c, q1, q2, q3⟩
  · exact .inl h3
  · refine .inr ⟨d, g, c, q1, q2, q3.1, ?_⟩
    rcases q3.2 with q | ⟨g', c', cur, q, p1, p2⟩
    · exact .inl q
    · exact .inr ⟨g', c', cur, q, Nat.le_trans hb.size p1, p2⟩
theorem cc_ply {k : Int} {L0 : List Bk} {code : Int} {e : Ending} (h : CcO w bc bm base room N T L0 (.int .i64 code) e w') : e = .returned (.int .i64 code) ∧ CA w' bc bm base room N T L0 ∧ Out (XC w bc bm base) w w' := h
theorem xc_u8 {N T : Nat} {r : Int} {g : Nat} {cs : Array Value} (hC : CA W bc bm base r N T L) (h : Blo W g U8 cs) : ¬ XC W bc bm base g := by
  obtain ⟨n, f, ks, uses, v, hK, -, hB⟩ := hC.len
  rintro ⟨-, e | e | ⟨t, cs, q1, q2⟩⟩
  · exact h.apart hB (by decide) e
  · exact hK.blo h e.symm
  · unfold Blo at h q1
    rw [q1] at h
    cases h
    rcases q2 with e | e
    · exact absurd e (by decide)
    · exact absurd e (by decide)
theorem CA.out {r : Int} {X : Nat → Prop} (hC : CA w bc bm base r N T L) (ho : Out X w w') (hX : ∀ g, XC w bc bm base g → ¬ X g) : CA w' bc bm base r N T L := by
  obtain ⟨x, hC, e⟩ := hC
  exact ⟨x, hC.out ho hX, e⟩
theorem own_bloq {C : Nat} {e : TypeId} {sz n : Nat} {v : Value} {xs : List Value} (h : W.ownsRow C e sz v n xs) {g : Nat} (hg : v.ownBlock = some g) : C ≤ g ∧ ∃ cs, Blo W g e cs := by
  rcases h.2 with ⟨q, _⟩ | ⟨g', cap, cur, q, hb, hc, _⟩
  · rw [q] at hg; cases hg
  · rw [q] at hg
    obtain rfl : g' = g := by simpa [Value.ownBlock] using hg
    exact ⟨hb, cur, hc⟩
theorem own_din {C n : Nat} {a : Option Addr} {cap : Nat} {l : List Nat} {r : Int} (hC : CA W bc bm base r N T L) (h : W.ownsRow C U8 1 (.slice a n cap) n (cellsB l)) (hl : ∀ y ∈ l, y < 256) : DIn W bc bm base a l := by
  obtain ⟨a', cap', q1, -, q2, -⟩ := Bytes.own h hl
  cases q1
  refine ⟨q2, fun g o e => ?_⟩
  obtain ⟨-, cs, hb⟩ := own_bloq h (show (Value.slice a n cap).ownBlock = some g by rw [e]; rfl)
  exact ⟨hb.lt, xc_u8 hC hb⟩
set_option maxRecDepth 100000 in
set_option maxHeartbeats 4000000 in
theorem play_do (k : Int) (hk : k = 3 ∨ k = 4 ∨ k = 5 ∨ k = 6) (hC : CA w bc bm base room N T L) {ba : Option Addr} {bn bcap : Nat} {x : OpC} (hx : x.k = k) (hwf : wfK x.key) (hT : T ≤ 4000000000000000000) :
    Calls Try.prog 11 #[.pointer (some ⟨bc, 0, none⟩), .agg (opC ba bn bcap x)] w (PlyO w bc bm base room (N + 1) (T + 1) ((doK L k x.key).1, (doK L k x.key).2, none)) := by
  obtain ⟨xk, key, xb, raw, dirty⟩ := x
  have hx : xk = k := hx
  have hwf : wfK key := hwf
  subst hx
  show Calls Try.prog 11 #[.pointer (some ⟨bc, 0, none⟩), .agg #[.int .i64 xk, .int .i64 key.1, .int .i64 key.2, .slice ba bn bcap, .bool raw, .bool dirty]] w (PlyO w bc bm base room (N + 1) (T + 1) ((doK L xk key).1, (doK L xk key).2, none))
  obtain ⟨w1, hw1⟩ : ∃ w1, w1 = w.alloc (.cells #[.int .i64 xk, .int .i64 key.1, .int .i64 key.2, .slice ba bn bcap, .bool raw, .bool dirty] OpTy) := ⟨_, rfl⟩
  have HB1 : Hid (Below w.heap.size w w1) := by rw [hw1]; exact sup_pc9 w _
  have hX : Blo w1 w.heap.size OpTy #[.int .i64 xk, .int .i64 key.1, .int .i64 key.2, .slice ba bn bcap, .bool raw, .bool dirty] := by rw [hw1]; exact blo_laid w _ _
  have c0 : w1.cell? ⟨w.heap.size, 0, none⟩ = some (.int .i64 xk) := hX.cell 0
  have c1 : w1.cell? ⟨w.heap.size, 1, none⟩ = some (.int .i64 key.1) := hX.cell 1
  have c2 : w1.cell? ⟨w.heap.size, 2, none⟩ = some (.int .i64 key.2) := hX.cell 2
  have hC1 := hC.later HB1.out
  clear hX
  rcases hk with rfl | rfl | rfl | rfl
  · have HD : Hid (Calls Try.prog 26 #[.pointer (some ⟨bc, 0, none⟩), .agg #[.int .i64 key.1, .int .i64 key.2]] w1 (CcO w1 bc bm base room N (T + 1) (doK L 3 key).1 (.int .i64 (doK L 3 key).2))) := clean_any hC1 hwf
    clear hC hC1
    go_enter Try.func11, Try.ntmps11
    go_upto_region 1 with (fail)
    rw [← hw1]
    clear hw1
    go_wp2_with fail
    refine HD.out.mono ?_
    rintro e w2 ⟨rfl, hC2, ho⟩
    have HE : Hid (PlyO w bc bm base room (N + 1) (T + 1) ((doK L 3 key).1, (doK L 3 key).2, none) (.returned (.tuple #[.int .i64 (doK L 3 key).2, .slice none 0 0, .bool false])) w2) := ⟨hC2.mono (by omega) (Nat.le_refl _), outC_trans (Out.of_below HB1.out) ho, .inl ⟨rfl, rfl⟩⟩
    clear hC2 ho HD c0 c1 c2
    go_wp2_with fail
    go_ret3
    exact HE.out
  · have HD : Hid (Calls Try.prog 24 #[.pointer (some ⟨bc, 0, none⟩), .agg #[.int .i64 key.1, .int .i64 key.2]] w1 (CcO w1 bc bm base room N (T + 1) (doK L 4 key).1 (.int .i64 (doK L 4 key).2))) := pinc_any hC1 hwf hT
    clear hC hC1
    go_enter Try.func11, Try.ntmps11
    go_upto_region 1 with (fail)
    rw [← hw1]
    clear hw1
    go_wp2_with fail
    refine HD.out.mono ?_
    rintro e w2 ⟨rfl, hC2, ho⟩
    have HE : Hid (PlyO w bc bm base room (N + 1) (T + 1) ((doK L 4 key).1, (doK L 4 key).2, none) (.returned (.tuple #[.int .i64 (doK L 4 key).2, .slice none 0 0, .bool false])) w2) := ⟨hC2.mono (by omega) (Nat.le_refl _), outC_trans (Out.of_below HB1.out) ho, .inl ⟨rfl, rfl⟩⟩
    clear hC2 ho HD c0 c1 c2
    go_wp2_with fail
    go_ret3
    exact HE.out
  · have HD : Hid (Calls Try.prog 25 #[.pointer (some ⟨bc, 0, none⟩), .agg #[.int .i64 key.1, .int .i64 key.2]] w1 (CcO w1 bc bm base room N (T + 1) (doK L 5 key).1 (.int .i64 (doK L 5 key).2))) := unpinc_any hC1 hwf hT
    clear hC hC1
    go_enter Try.func11, Try.ntmps11
    go_upto_region 1 with (fail)
    rw [← hw1]
    clear hw1
    go_wp2_with fail
    refine HD.out.mono ?_
    rintro e w2 ⟨rfl, hC2, ho⟩
    have HE : Hid (PlyO w bc bm base room (N + 1) (T + 1) ((doK L 5 key).1, (doK L 5 key).2, none) (.returned (.tuple #[.int .i64 (doK L 5 key).2, .slice none 0 0, .bool false])) w2) := ⟨hC2.mono (by omega) (Nat.le_refl _), outC_trans (Out.of_below HB1.out) ho, .inl ⟨rfl, rfl⟩⟩
    clear hC2 ho HD c0 c1 c2
    go_wp2_with fail
    go_ret3
    exact HE.out
  · have HD : Hid (Calls Try.prog 27 #[.pointer (some ⟨bc, 0, none⟩), .agg #[.int .i64 key.1, .int .i64 key.2]] w1 (CcO w1 bc bm base room N (T + 1) (doK L 6 key).1 (.int .i64 (doK L 6 key).2))) := dropc_any hC1 hwf
    clear hC hC1
    go_enter Try.func11, Try.ntmps11
    go_upto_region 1 with (fail)
    rw [← hw1]
    clear hw1
    go_wp2_with fail
    refine HD.out.mono ?_
    rintro e w2 ⟨rfl, hC2, ho⟩
    have HE : Hid (PlyO w bc bm base room (N + 1) (T + 1) ((doK L 6 key).1, (doK L 6 key).2, none) (.returned (.tuple #[.int .i64 (doK L 6 key).2, .slice none 0 0, .bool false])) w2) := ⟨hC2.mono (by omega) (Nat.le_refl _), outC_trans (Out.of_below HB1.out) ho, .inl ⟨rfl, rfl⟩⟩
    clear hC2 ho HD c0 c1 c2
    go_wp2_with fail
    go_ret3
    exact HE.out
set_option maxRecDepth 100000 in
set_option maxHeartbeats 4000000 in
theorem play_none (hC : CA w bc bm base room N T L) {ba : Option Addr} {bn bcap : Nat} {x : OpC} (hwf : wfK x.key) (h1 : x.k ≠ 1) (h2 : x.k ≠ 2) (h3 : x.k ≠ 3) (h4 : x.k ≠ 4) (h5 : x.k ≠ 5) (h6 : x.k ≠ 6) :
    Calls Try.prog 11 #[.pointer (some ⟨bc, 0, none⟩), .agg (opC ba bn bcap x)] w (PlyO w bc bm base room (N + 1) (T + 1) (L, 0, none)) := by
  obtain ⟨xk, key, xb, raw, dirty⟩ := x
  have hwf : wfK key := hwf
  show Calls Try.prog 11 #[.pointer (some ⟨bc, 0, none⟩), .agg #[.int .i64 xk, .int .i64 key.1, .int .i64 key.2, .slice ba bn bcap, .bool raw, .bool dirty]] w (PlyO w bc bm base room (N + 1) (T + 1) (L, 0, none))
  obtain ⟨w1, hw1⟩ : ∃ w1, w1 = w.alloc (.cells #[.int .i64 xk, .int .i64 key.1, .int .i64 key.2, .slice ba bn bcap, .bool raw, .bool dirty] OpTy) := ⟨_, rfl⟩
  have HB1 : Hid (Below w.heap.size w w1) := by rw [hw1]; exact sup_pc9 w _
  have hX : Blo w1 w.heap.size OpTy #[.int .i64 xk, .int .i64 key.1, .int .i64 key.2, .slice ba bn bcap, .bool raw, .bool dirty] := by rw [hw1]; exact blo_laid w _ _
  have c0 : w1.cell? ⟨w.heap.size, 0, none⟩ = some (.int .i64 xk) := hX.cell 0
  have c1 : w1.cell? ⟨w.heap.size, 1, none⟩ = some (.int .i64 key.1) := hX.cell 1
  have c2 : w1.cell? ⟨w.heap.size, 2, none⟩ = some (.int .i64 key.2) := hX.cell 2
  have q1 : (xk == 1) = false := by simpa using h1
  have q2 : (xk == 2) = false := by simpa using h2
  have q3 : (xk == 3) = false := by simpa using h3
  have q4 : (xk == 4) = false := by simpa using h4
  have q5 : (xk == 5) = false := by simpa using h5
  have q6 : (xk == 6) = false := by simpa using h6
  have HE : Hid (PlyO w bc bm base room (N + 1) (T + 1) (L, 0, none) (.returned (.tuple #[.int .i64 0, .slice none 0 0, .bool false])) w1) := ⟨(hC.later HB1.out).mono (by omega) (by omega), Out.of_below HB1.out, .inl ⟨rfl, rfl⟩⟩
  clear hC hX h1 h2 h3 h4 h5 h6
  go_enter Try.func11, Try.ntmps11
  go_upto_region 1 with (fail)
  rw [← hw1]
  clear hw1
  go_wp2_with fail
  go_ret3
  exact HE.out
set_option maxRecDepth 100000 in
set_option maxHeartbeats 4000000 in
theorem play_get (hC : CA w bc bm base room N T L) {ba : Option Addr} {bn bcap : Nat} {x : OpC} (hx : x.k = 2) (hwf : wfK x.key) (hT : T ≤ 4000000000000000000) :
    Calls Try.prog 11 #[.pointer (some ⟨bc, 0, none⟩), .agg (opC ba bn bcap x)] w (PlyO w bc bm base room (N + 1) (T + 1) ((getK L x.key).1, 0, (getK L x.key).2)) := by
  obtain ⟨xk, key, xb, raw, dirty⟩ := x
  have hwf : wfK key := hwf
  show Calls Try.prog 11 #[.pointer (some ⟨bc, 0, none⟩), .agg #[.int .i64 xk, .int .i64 key.1, .int .i64 key.2, .slice ba bn bcap, .bool raw, .bool dirty]] w (PlyO w bc bm base room (N + 1) (T + 1) ((getK L key).1, 0, (getK L key).2))
  obtain ⟨w1, hw1⟩ : ∃ w1, w1 = w.alloc (.cells #[.int .i64 xk, .int .i64 key.1, .int .i64 key.2, .slice ba bn bcap, .bool raw, .bool dirty] OpTy) := ⟨_, rfl⟩
  have HB1 : Hid (Below w.heap.size w w1) := by rw [hw1]; exact sup_pc9 w _
  have hX : Blo w1 w.heap.size OpTy #[.int .i64 xk, .int .i64 key.1, .int .i64 key.2, .slice ba bn bcap, .bool raw, .bool dirty] := by rw [hw1]; exact blo_laid w _ _
  have c0 : w1.cell? ⟨w.heap.size, 0, none⟩ = some (.int .i64 xk) := hX.cell 0
  have c1 : w1.cell? ⟨w.heap.size, 1, none⟩ = some (.int .i64 key.1) := hX.cell 1
  have c2 : w1.cell? ⟨w.heap.size, 2, none⟩ = some (.int .i64 key.2) := hX.cell 2
  have hx : xk = 2 := hx
  subst hx
  have HD : Hid (Calls Try.prog 22 #[.pointer (some ⟨bc, 0, none⟩), .agg #[.int .i64 key.1, .int .i64 key.2]] w1 (GeO w1 bc bm base room N (T + 1) L key)) := get_any (hC.later HB1.out) hwf hT
  clear hC hX
  go_enter Try.func11, Try.ntmps11
  go_upto_region 1 with (fail)
  rw [← hw1]
  clear hw1
  go_wp2_with fail
  refine HD.out.mono ?_
  rintro e w2 ⟨hC2, ho, hr⟩
  rcases hr with ⟨hn, rfl⟩ | ⟨d, g, c, hs, rfl, hown⟩
  · have HE : Hid (PlyO w bc bm base room (N + 1) (T + 1) ((getK L key).1, 0, (getK L key).2) (.returned (.tuple #[.int .i64 0, .slice none 0 0, .bool false])) w2) := ⟨hC2.mono (by omega) (Nat.le_refl _), outC_trans (Out.of_below HB1.out) ho, .inl ⟨hn, rfl⟩⟩
    clear hC2 ho HD c0 c1 c2 hn
    go_wp2_with fail
    go_ret3
    exact HE.out
  · have HE : Hid (PlyO w bc bm base room (N + 1) (T + 1) ((getK L key).1, 0, (getK L key).2) (.returned (.tuple #[.int .i64 0, .slice (some ⟨g, 0, none⟩) 64 c, .bool true])) w2) := PlyO.before ⟨hC2.mono (by omega) (Nat.le_refl _), ho, .inr ⟨d, g, c, hs, rfl, hown⟩⟩ HB1.out
    clear hC2 ho HD c0 c1 c2 hs hown
    go_wp2_with fail
    go_ret3
    exact HE.out
theorem cellsB_setq (l : List Nat) (i y : Nat) : (cellsB l).set i (.int .u8 (y : Int)) = cellsB (l.set i y) := by
  unfold cellsB
  rw [List.map_set]
def PlyR (w : World) (bc bm base : Nat) (room : Int) (N T : Nat) (L : List Bk) (a : Option Addr) (c n : Nat) (v : Value) (wr : World) : Prop :=
  ∃ (i : Nat) (l : List Nat), i ≤ n ∧ v = .int .i64 (i : Int) ∧ l.length = n ∧ (∀ y ∈ l, y < 256) ∧ wr.ownsRow w.heap.size U8 1 (.slice a n c) n (cellsB l) ∧ CA wr bc bm base room N T L ∧ Out (XC w bc bm base) w wr
theorem ply_step {wr : World} {g5 c n i : Nat} {l : List Nat} (hown : wr.ownsRow w.heap.size U8 1 (.slice (some ⟨g5, 0, none⟩) n c) n (cellsB l)) (hl : l.length = n) (h256 : ∀ y ∈ l, y < 256) (hlt : i < n) (hC : CA wr bc bm base room N T L) (ho : Out (XC w bc bm base) w wr) (hg : w.heap.size ≤ g5) :
    ∃ l' : List Nat, i + 1 ≤ n ∧ Value.int .i64 ((i : Int) + 1) = .int .i64 ((i + 1 : Nat) : Int) ∧ l'.length = n ∧ (∀ y ∈ l', y < 256) ∧ (wr.setCell ⟨g5, i, none⟩ (.int .u8 ((((l.getD i 0 : Nat) : Int) + 1) % 256))).ownsRow w.heap.size U8 1 (.slice (some ⟨g5, 0, none⟩) n c) n (cellsB l') ∧ CA (wr.setCell ⟨g5, i, none⟩ (.int .u8 ((((l.getD i 0 : Nat) : Int) + 1) % 256))) bc bm base room N T L ∧ Out (XC w bc bm base) w (wr.setCell ⟨g5, i, none⟩ (.int .u8 ((((l.getD i 0 : Nat) : Int) + 1) % 256))) := by
  obtain ⟨-, cs, hb⟩ := own_bloq hown (g := g5) rfl
  have hv : (((l.getD i 0 : Nat) : Int) + 1) % 256 = (((l.getD i 0 + 1) % 256 : Nat) : Int) := by omega
  have ho2 : Out (fun g => g = g5) wr (wr.setCell ⟨g5, i, none⟩ (.int .u8 ((((l.getD i 0 : Nat) : Int) + 1) % 256))) := out_put _ _ _ rfl
  refine ⟨l.set i ((l.getD i 0 + 1) % 256), hlt, rfl, by simp [hl], fun y hy => ?_, ?_, hC.out ho2 (fun g hg e => by rw [e] at hg; exact xc_u8 hC hb hg), ho.trans ho2 (fun g hg e => by omega)⟩
  · rcases List.mem_or_eq_of_mem_set hy with q | q
    · exact h256 y q
    · omega
  · have := (hown.stored i (.int .u8 ((((l.getD i 0 : Nat) : Int) + 1) % 256))).1
    rw [hv] at this ⊢
    rw [cellsB_setq] at this
    exact this
set_option maxRecDepth 100000 in
set_option maxHeartbeats 8000000 in
theorem play_put (hC : CA w bc bm base room N T L) {ba : Option Addr} {bn bcap : Nat} {x : OpC} (hop : OpCIs w ba bn bcap x) (hx : x.k = 1) (hb : x.b.length ≤ 200) (hT : T ≤ 4000000000000000000) (hN : N < 1000000) :
    Calls Try.prog 11 #[.pointer (some ⟨bc, 0, none⟩), .agg (opC ba bn bcap x)] w (PlyO w bc bm base room (N + 1) (T + 1) ((putK room L x.key (inB x) x.dirty).1, (putK room L x.key (inB x) x.dirty).2, none)) := by
  obtain ⟨xk, key, xb, raw, dirty⟩ := x
  have hwf : wfK key := hop.wf
  have hx : xk = 1 := hx
  subst hx
  have hb : xb.length ≤ 200 := hb
  have hbi : BytesIn w ba bn bcap xb := hop.b
  show Calls Try.prog 11 #[.pointer (some ⟨bc, 0, none⟩), .agg #[.int .i64 1, .int .i64 key.1, .int .i64 key.2, .slice ba bn bcap, .bool raw, .bool dirty]] w (PlyO w bc bm base room (N + 1) (T + 1) ((putK room L key (if raw then xb else byt xb) dirty).1, (putK room L key (if raw then xb else byt xb) dirty).2, none))
  obtain ⟨w1, hw1⟩ : ∃ w1, w1 = w.alloc (.cells #[.int .i64 1, .int .i64 key.1, .int .i64 key.2, .slice ba bn bcap, .bool raw, .bool dirty] OpTy) := ⟨_, rfl⟩
  have HB1 : Hid (Below w.heap.size w w1) := by rw [hw1]; exact sup_pc9 w _
  have hX : Blo w1 w.heap.size OpTy #[.int .i64 1, .int .i64 key.1, .int .i64 key.2, .slice ba bn bcap, .bool raw, .bool dirty] := by rw [hw1]; exact blo_laid w _ _
  have c0 : w1.cell? ⟨w.heap.size, 0, none⟩ = some (.int .i64 1) := hX.cell 0
  have c3 : w1.cell? ⟨w.heap.size, 3, none⟩ = some (.slice ba bn bcap) := hX.cell 3
  have c4 : w1.cell? ⟨w.heap.size, 4, none⟩ = some (.bool raw) := hX.cell 4
  have HX := Lib.hid hX
  have HC1 := Lib.hid (hC.later HB1.out)
  have HBi := Lib.hid (hbi.below HB1.out)
  have HWf := Lib.hid hwf
  have HTN := Lib.hid (And.intro hT hN)
  have hbn : bn ≤ 200 := by rw [hbi.1]; exact hb
  have HCs1 : Hid (∀ W, Below w1.heap.size w1 W → W.cell? ⟨w.heap.size, 1, none⟩ = some (.int .i64 key.1) ∧ W.cell? ⟨w.heap.size, 2, none⟩ = some (.int .i64 key.2) ∧ W.cell? ⟨w.heap.size, 5, none⟩ = some (.bool dirty)) := fun W h => ⟨(HX.out.later h).cell 1, (HX.out.later h).cell 2, (HX.out.later h).cell 5⟩
  clear hC hX hbi hop hwf hT hN
  rcases raw with _ | _
  · have HBy := Lib.hid (bytes_any ba bn bcap xb w1 HBi.out.1 (by omega) HBi.out.2.1)
    go_enter Try.func11, Try.ntmps11
    go_upto_region 1 with (fail)
    rw [← hw1]
    clear hw1
    go_wp2_with fail
    refine HBy.out.mono ?_
    rintro e w2 ⟨g, rfl, hg, -, hb2⟩
    have HG := Lib.hid hg
    have HB2 := Lib.hid hb2
    have HAl := Lib.hid (sup_pc9 w2 (.cells #[] U8))
    have HSrc : Hid (∀ ad, some (⟨g, 0, none⟩ : Addr) = some ad → ∀ j u, (cellsB (byt xb))[j]? = some u → (w2.alloc (.cells #[] U8)).cell? (ad.add j) = some u) := fun ad e j u hj => by
      cases e
      rw [Addr.add_lit, Nat.zero_add, (hg.later HAl.out).1.cell, List.getElem?_toArray]
      exact hj
    have HLen : Hid ((cellsB (byt xb)).length = 64 * 1) := by show _ = 64 * 1; rw [cellsB_length, byt_length]
    clear hg hb2 HBy c0 c3 c4
    go_upto_region 7 with (at_builtin; refine wp_copy_in rfl (.tmp 25) (.tmp 26) BYS rfl w2.heap.size U8 (.int .u8 0) 1 1 Try.underlying35 info_u8c rfl (by decide) (.slice (some ⟨w2.heap.size, 0, none⟩) 0 0) rfl (own_empty w2 w2.heap.size U8 1 (Nat.le_refl _)) (some ⟨g, 0, none⟩) 64 64 (cellsB (byt xb)) rfl HLen.out HSrc.out (cellsB_oneC _) (fun h => by cases h) (by omega) (by omega) (by simp) ?_; intro a5 c5 w3 hown hgrow; have HO3 := Lib.hid hown; have HB23 : Hid (Below w2.heap.size w2 w3) := HAl.out.grown hgrow HAl.out.size (fun q hq => by simp [Value.ownBlock] at hq; omega); clear hown hgrow)
    have HB13 := Lib.hid (HB2.out.trans (HB23.out.mono HB2.out.size))
    have HB3 := Lib.hid (HB1.out.trans (HB13.out.mono HB1.out.size))
    have HC3 := Lib.hid (HC1.out.later HB13.out)
    have HWl : Hid (w.heap.size ≤ w2.heap.size) := Nat.le_trans HB1.out.size HB2.out.size
    have HCs := Lib.hid (fun W (_ : Below w.heap.size w W) => HCs1.out w3 HB13.out)
    have hln : 64 = (byt xb).length := (byt_length _).symm
    have hl256 : ∀ y ∈ byt xb, y < 256 := byt_byte HBi.out.2.1.1
    clear HSrc HLen HAl HB23 HG HB2 HB1 HC1 HX HCs1
    have HIn := Lib.hid (And.intro hln hl256)
    have HPu : Hid (Calls Try.prog 23 #[.pointer (some ⟨bc, 0, none⟩), .agg #[.int .i64 key.1, .int .i64 key.2], .slice a5 64 c5, .bool dirty] w3 (CcO w3 bc bm base room (N + 1) (T + 1) (putK room L key (byt xb) dirty).1 (.int .i64 (putK room L key (byt xb) dirty).2))) := put_any HC3.out HWf.out (own_din HC3.out HO3.out hl256) hln (by omega) HTN.out.1 HTN.out.2
    obtain ⟨c1, c2, c5'⟩ := HCs.out w3 HB3.out
    clear hln hl256
    go_wp2_with fail
    refine HPu.out.mono ?_
    rintro e w4 ⟨rfl, hC4, ho4⟩
    obtain ⟨R, hR⟩ : ∃ R, putK room L key (byt xb) dirty = R := ⟨_, rfl⟩
    rw [hR] at hC4 ⊢
    have HRq := Lib.hid hR
    have HO4 : Hid (w4.ownsRow w.heap.size U8 1 (.slice a5 64 c5) 64 (cellsB (byt xb))) := by
      have q := ho4.own HO3.out (fun g hg => by
        obtain ⟨-, cs, hb⟩ := own_bloq HO3.out hg
        exact xc_u8 HC3.out hb)
      refine ⟨q.1, ?_⟩
      rcases q.2 with q | ⟨g', c', cur, q, p1, p2⟩
      · exact .inl q
      · exact .inr ⟨g', c', cur, q, Nat.le_trans HWl.out p1, p2⟩
    have HSt : Hid (PlyR w bc bm base room (N + 1) (T + 1) R.1 a5 c5 64 (.int .i64 0) w4) := ⟨0, (byt xb), Nat.zero_le _, rfl, HIn.out.1.symm, HIn.out.2, HO4.out, hC4, outC_trans (Out.of_below HB3.out) ho4⟩
    clear hC4 ho4 HO4 HO3 HC3 HPu HIn hR c1 c2 c5'
    go_wp2_with fail
    go_loopw [37] (fun v wr => PlyR w bc bm base room (N + 1) (T + 1) R.1 a5 c5 64 v wr) (fun v _ => 64 - (intOf v).toNat)
    case atStart => exact HSt.out
    case round =>
      clear HSt
      obtain ⟨i, l', hi, rfl, hl', h256, hown, hCr, hor⟩ := hrel
      by_cases hlt : i < 64
      · have i0 : (0 : Int) ≤ (i : Int) := by omega
        have i1 : (i : Int) < 64 := by omega
        obtain ⟨g5, rfl⟩ : ∃ g5, a5 = some ⟨g5, 0, none⟩ := by
          rcases hown.2 with ⟨q, q2⟩ | ⟨g, c', cur, q, _⟩
          · omega
          · cases q; exact ⟨g, rfl⟩
        have HR := Lib.hid (ply_step hown hl' h256 hlt hCr hor (by
          have := own_bloq hown (g := g5) rfl
          exact this.1))
        have hc := hown.cellAt i (by omega)
        rw [cellsB_get l' i (by omega)] at hc
        have hf := hown.frozenAt i
        clear hown hCr hor hl' h256
        generalize l'.getD i 0 = y at *
        go_wp2_with fail
        go_roundw
        case rel => exact ⟨i + 1, HR.out⟩
        case measure => simp [intOf]; omega
      · have HE : Hid (PlyO w bc bm base room (N + 1) (T + 1) (R.1, R.2, none) (.returned (.tuple #[.int .i64 R.2, .slice none 0 0, .bool false])) wr) := ⟨hCr, hor, .inl ⟨rfl, rfl⟩⟩
        have hlt' : ¬ (i : Int) < 64 := by omega
        clear hown hCr hor hl' h256
        go_wp2_with fail
        go_ret3
        have hq := HRq.out
        subst hq
        exact HE.out
  · go_enter Try.func11, Try.ntmps11
    go_upto_region 1 with (fail)
    rw [← hw1]
    clear hw1
    have HAl := Lib.hid (sup_pc9 w1 (.cells #[] U8))
    have HSrc : Hid (∀ ad, ba = some ad → ∀ j u, (cellsB xb)[j]? = some u → (w1.alloc (.cells #[] U8)).cell? (ad.add j) = some u) := fun ad e j u hj => by
      have hj' : j < xb.length := by
        have := (List.getElem?_eq_some_iff.1 hj).1
        rwa [cellsB_length] at this
      obtain ⟨b, o, e2, hc⟩ := (HBi.out.2.1.below HAl.out).2.2 (fun q => by rw [q] at hj'; simp at hj')
      rw [e2] at e
      cases e
      rw [Addr.add_mid, hc j hj', ← cellsB_get xb j hj', hj]
    have HLen : Hid ((cellsB xb).length = bn * 1) := by show _ = bn * 1; rw [cellsB_length, HBi.out.1]; omega
    go_upto_region 7 with (at_builtin; refine wp_copy_in rfl (.tmp 25) (.tmp 26) BYS rfl w1.heap.size U8 (.int .u8 0) 1 1 Try.underlying35 info_u8c rfl (by decide) (.slice (some ⟨w1.heap.size, 0, none⟩) 0 0) rfl (own_empty w1 w1.heap.size U8 1 (Nat.le_refl _)) ba bn bcap (cellsB xb) rfl HLen.out HSrc.out (cellsB_oneC _) HBi.out.2.2.1 (by omega) (by omega) (by simp) ?_; intro a5 c5 w3 hown hgrow; have HO3 := Lib.hid hown; have HB13 : Hid (Below w1.heap.size w1 w3) := HAl.out.grown hgrow HAl.out.size (fun q hq => by simp [Value.ownBlock] at hq; omega); clear hown hgrow)
    have HB3 := Lib.hid (HB1.out.trans (HB13.out.mono HB1.out.size))
    have HC3 := Lib.hid (HC1.out.later HB13.out)
    have HWl : Hid (w.heap.size ≤ w1.heap.size) := HB1.out.size
    have HCs := Lib.hid (fun W (_ : Below w.heap.size w W) => HCs1.out w3 HB13.out)
    have hln : bn = xb.length := HBi.out.1
    have hl256 : ∀ y ∈ xb, y < 256 := HBi.out.2.1.1
    clear HSrc HLen HAl HB1 HC1 HX HCs1 c0 c3 c4
    have HIn := Lib.hid (And.intro hln hl256)
    have HPu : Hid (Calls Try.prog 23 #[.pointer (some ⟨bc, 0, none⟩), .agg #[.int .i64 key.1, .int .i64 key.2], .slice a5 bn c5, .bool dirty] w3 (CcO w3 bc bm base room (N + 1) (T + 1) (putK room L key xb dirty).1 (.int .i64 (putK room L key xb dirty).2))) := put_any HC3.out HWf.out (own_din HC3.out HO3.out hl256) hln (by omega) HTN.out.1 HTN.out.2
    obtain ⟨c1, c2, c5'⟩ := HCs.out w3 HB3.out
    clear hln hl256
    go_wp2_with fail
    refine HPu.out.mono ?_
    rintro e w4 ⟨rfl, hC4, ho4⟩
    obtain ⟨R, hR⟩ : ∃ R, putK room L key xb dirty = R := ⟨_, rfl⟩
    rw [hR] at hC4 ⊢
    have HRq := Lib.hid hR
    have HO4 : Hid (w4.ownsRow w.heap.size U8 1 (.slice a5 bn c5) bn (cellsB xb)) := by
      have q := ho4.own HO3.out (fun g hg => by
        obtain ⟨-, cs, hb⟩ := own_bloq HO3.out hg
        exact xc_u8 HC3.out hb)
      refine ⟨q.1, ?_⟩
      rcases q.2 with q | ⟨g', c', cur, q, p1, p2⟩
      · exact .inl q
      · exact .inr ⟨g', c', cur, q, Nat.le_trans HWl.out p1, p2⟩
    have HSt : Hid (PlyR w bc bm base room (N + 1) (T + 1) R.1 a5 c5 bn (.int .i64 0) w4) := ⟨0, xb, Nat.zero_le _, rfl, HIn.out.1.symm, HIn.out.2, HO4.out, hC4, outC_trans (Out.of_below HB3.out) ho4⟩
    clear hC4 ho4 HO4 HO3 HC3 HPu HIn hR c1 c2 c5'
    go_wp2_with fail
    go_loopw [37] (fun v wr => PlyR w bc bm base room (N + 1) (T + 1) R.1 a5 c5 bn v wr) (fun v _ => bn - (intOf v).toNat)
    case atStart => exact HSt.out
    case round =>
      clear HSt
      obtain ⟨i, l', hi, rfl, hl', h256, hown, hCr, hor⟩ := hrel
      by_cases hlt : i < bn
      · have i0 : (0 : Int) ≤ (i : Int) := by omega
        have i1 : (i : Int) < (bn : Int) := by omega
        obtain ⟨g5, rfl⟩ : ∃ g5, a5 = some ⟨g5, 0, none⟩ := by
          rcases hown.2 with ⟨q, q2⟩ | ⟨g, c', cur, q, _⟩
          · omega
          · cases q; exact ⟨g, rfl⟩
        have HR := Lib.hid (ply_step hown hl' h256 hlt hCr hor (by
          have := own_bloq hown (g := g5) rfl
          exact this.1))
        have hc := hown.cellAt i (by omega)
        rw [cellsB_get l' i (by omega)] at hc
        have hf := hown.frozenAt i
        clear hown hCr hor hl' h256
        generalize l'.getD i 0 = y at *
        go_wp2_with fail
        go_roundw
        case rel => exact ⟨i + 1, HR.out⟩
        case measure => simp [intOf]; omega
      · have HE : Hid (PlyO w bc bm base room (N + 1) (T + 1) (R.1, R.2, none) (.returned (.tuple #[.int .i64 R.2, .slice none 0 0, .bool false])) wr) := ⟨hCr, hor, .inl ⟨rfl, rfl⟩⟩
        have hlt' : ¬ (i : Int) < (bn : Int) := by omega
        clear hown hCr hor hl' h256
        go_wp2_with fail
        go_ret3
        have hq := HRq.out
        subst hq
        exact HE.out
/-- One call of the script. -/
theorem play_any (hC : CA w bc bm base room N T L) {ba : Option Addr} {bn bcap : Nat} {x : OpC} (hop : OpCIs w ba bn bcap x) (hb : x.b.length ≤ 200) (hT : T ≤ 4000000000000000000) (hN : N < 1000000) :
    Calls Try.prog 11 #[.pointer (some ⟨bc, 0, none⟩), .agg (opC ba bn bcap x)] w (PlyO w bc bm base room (N + 1) (T + 1) (playK room L x)) := by
  unfold playK
  by_cases h1 : x.k = 1
  · rw [if_pos h1]; exact play_put hC hop h1 hb hT hN
  rw [if_neg h1]
  by_cases h2 : x.k = 2
  · rw [if_pos h2]; exact play_get hC h2 hop.wf hT
  rw [if_neg h2]
  by_cases h3 : x.k = 3
  · rw [if_pos h3]; exact play_do 3 (.inl rfl) hC h3 hop.wf hT
  rw [if_neg h3]
  by_cases h4 : x.k = 4
  · rw [if_pos h4]; exact play_do 4 (.inr (.inl rfl)) hC h4 hop.wf hT
  rw [if_neg h4]
  by_cases h5 : x.k = 5
  · rw [if_pos h5]; exact play_do 5 (.inr (.inr (.inl rfl))) hC h5 hop.wf hT
  rw [if_neg h5]
  by_cases h6 : x.k = 6
  · rw [if_pos h6]; exact play_do 6 (.inr (.inr (.inr rfl))) hC h6 hop.wf hT
  rw [if_neg h6]
  exact play_none hC hop.wf h1 h2 h3 h4 h5 h6
end
end Go.Proofs.Ytdnkeplmjimjcaa
/-
  CacheFull's lists of blocks.
-/
namespace Go.Proofs.Ytdnkeplmjimjcaa
open Go.RowKit

/-- No block of this key. -/
def NoK (L : List Bk) (p : Int × Int) : Prop := ∀ s ∈ L, s.key ≠ p
def NoG (L : List Bk) : Prop := ∀ s ∈ L, goK s = false
section
variable {L W : List Bk} {p q : Int × Int} {s : Bk}
theorem findK_none (h : NoK L p) : findK L p = none := by
  unfold findK
  rw [List.find?_eq_none]
  intro s hs
  simpa using h s hs
theorem findK_last (h : NoK W s.key) : findK (W ++ [s]) s.key = some s := by
  unfold findK
  rw [List.find?_append, show List.find? (fun t : Bk => decide (t.key = s.key)) W = none from findK_none h]
  simp
theorem woK_no (h : NoK L p) : woK L p = L := by
  unfold woK
  rw [List.filter_eq_self]
  intro s hs
  simpa using h s hs
theorem woK_last (h : NoK W s.key) : woK (W ++ [s]) s.key = W := by
  have := woK_no h
  unfold woK at this ⊢
  rw [List.filter_append, this]
  simp
theorem woK_nok (L : List Bk) (p : Int × Int) : NoK (woK L p) p := fun s hs => by
  unfold woK at hs
  simpa using (List.mem_filter.1 hs).2
theorem woK_sub {L : List Bk} {p : Int × Int} {s : Bk} (hs : s ∈ woK L p) : s ∈ L := (List.mem_filter.1 hs).1
theorem setK_last (h : NoK W s.key) (g : Bk → Bk) : setK (W ++ [s]) s.key g = W ++ [g s] := by
  unfold setK
  rw [List.map_append]
  congr 1
  · conv => rhs; rw [← List.map_id W]
    apply List.map_congr_left
    intro t ht
    rw [if_neg (h t ht)]
    rfl
  · simp
theorem find_nog (h : NoG L) : L.find? goK = none := by
  rw [List.find?_eq_none]
  intro s hs
  rw [h s hs]
  decide
theorem find_nog_last (h : NoG W) (hs : goK s = true) : (W ++ [s]).find? goK = some s := by
  rw [List.find?_append, find_nog h]
  simp [hs]
/-- The key's block, in the list. -/
theorem findK_mem (h : findK L p = some s) : s ∈ L ∧ s.key = p := by
  unfold findK at h
  exact ⟨List.mem_of_find?_eq_some h, by simpa using List.find?_some h⟩
theorem findK_some (hs : s ∈ L) (hp : s.key = p) : ∃ t, findK L p = some t := by
  cases hf : findK L p with
  | some t => exact ⟨t, rfl⟩
  | none =>
    unfold findK at hf
    exact absurd hp (by simpa using List.find?_eq_none.1 hf s hs)
end
theorem doK3 {L : List Bk} {p : Int × Int} {s : Bk} (h : findK L p = some s) : doK L 3 p = (setK L p (fun s => { s with dirty := false }), 0) := by unfold doK; rw [h]; rfl
theorem doK4 {L : List Bk} {p : Int × Int} {s : Bk} (h : findK L p = some s) : doK L 4 p = (setK L p (fun s => { s with pins := s.pins + 1 }), 0) := by unfold doK; rw [h]; rfl
theorem doK5 {L : List Bk} {p : Int × Int} {s : Bk} (h : findK L p = some s) (hs : s.pins ≠ 0) : doK L 5 p = (setK L p (fun s => { s with pins := s.pins - 1 }), 0) := by
  have : doK L 5 p = if s.pins = 0 then (L, 22) else (setK L p (fun s => { s with pins := s.pins - 1 }), 0) := by unfold doK; rw [h]; rfl
  rw [this, if_neg hs]
/-- All room taken. -/
def fuB (pin : Bool) (j : Nat) : Bk := ⟨(0, (j : Int)), gd (byt []), !pin, if pin then 1 else 0⟩
def fuL (pin : Bool) (i : Nat) : List Bk := (List.range i).map (fuB pin)
theorem fuL_len (pin : Bool) (i : Nat) : (fuL pin i).length = i := by simp [fuL]
theorem fuL_succ (pin : Bool) (i : Nat) : fuL pin (i + 1) = fuL pin i ++ [fuB pin i] := by simp [fuL, List.range_succ]
theorem fuL_key {pin : Bool} {i : Nat} {s : Bk} (h : s ∈ fuL pin i) : ∃ j, j < i ∧ s = fuB pin j := by
  unfold fuL at h
  simp at h
  obtain ⟨j, hj, e⟩ := h
  exact ⟨j, hj, e.symm⟩
theorem fuL_nok {pin : Bool} {i k : Nat} (h : i ≤ k) : NoK (fuL pin i) (0, (k : Int)) := fun s hs => by
  obtain ⟨j, hj, rfl⟩ := fuL_key hs
  unfold fuB
  intro e
  have : (j : Int) = k := congrArg Prod.snd e
  omega
theorem fuL_nog (pin : Bool) (i : Nat) : NoG (fuL pin i) := fun s hs => by
  obtain ⟨j, hj, rfl⟩ := fuL_key hs
  cases pin <;> rfl
theorem byt_len (l : List Nat) : (byt l).length = 64 := byt_length l
/-- A Put of the next one. -/
theorem fu_put (pin : Bool) (i r : Nat) (h : i < r) : putK r (fuL pin i) (0, (i : Int)) (byt []) (!pin) = (fuL pin i ++ [⟨(0, (i : Int)), gd (byt []), !pin, 0⟩], 0) := by
  have hr : roomK r (fuL pin i) = (fuL pin i, true) := by
    unfold roomK
    rw [fuL_len, if_pos (by omega)]
  unfold putK
  rw [if_neg (by rw [byt_len]; decide), findK_none (fuL_nok (Nat.le_refl _)), hr]
  rfl
theorem fu_pin (i : Nat) : doK (fuL true i ++ [⟨(0, (i : Int)), gd (byt []), false, 0⟩]) 4 (0, (i : Int)) = (fuL true (i + 1), 0) := by
  have hn : NoK (fuL true i) (Bk.mk (0, (i : Int)) (gd (byt [])) false 0).key := fuL_nok (Nat.le_refl _)
  have h1 := findK_last hn
  have h2 := setK_last hn (fun s => { s with pins := s.pins + 1 })
  rw [doK4 h1, fuL_succ]
  exact congrArg (fun q => (q, (0 : Int))) h2
theorem fu_full (pin : Bool) (r : Nat) : putK r (fuL pin r) (0, 1000) (byt []) false = (fuL pin r, 28) ∨ 1000 < r := by
  by_cases h : 1000 < r
  · exact .inr h
  · have hr : roomK r (fuL pin r) = (fuL pin r, false) := by
      unfold roomK
      rw [fuL_len, if_neg (by omega), find_nog (fuL_nog pin r)]
    left
    unfold putK
    rw [if_neg (by rw [byt_len]; decide), findK_none (by have := fuL_nok (pin := pin) (show r ≤ 1000 by omega); exact this), hr]
    rfl
/-- The list without one. -/
def fuW (pin : Bool) (r k : Nat) : List Bk := woK (fuL pin r) (0, (k : Int))
theorem fuW_nok (pin : Bool) (r k : Nat) : NoK (fuW pin r k) (0, (k : Int)) := woK_nok _ _
theorem fuW_no (pin : Bool) {r k q : Nat} (h : r ≤ q) : NoK (fuW pin r k) (0, (q : Int)) := fun s hs => fuL_nok h s (woK_sub hs)
theorem fuW_nog (pin : Bool) (r k : Nat) : NoG (fuW pin r k) := fun s hs => fuL_nog pin r s (woK_sub hs)
theorem fuW_len (pin : Bool) (r k : Nat) (h : k < r) : (fuW pin r k).length + 1 = r := by
  induction r with
  | zero => omega
  | succ r ih =>
    unfold fuW woK
    rw [fuL_succ, List.filter_append]
    by_cases e : k = r
    · subst e
      have h1 : List.filter (fun s => decide (s.key ≠ ((0 : Int), (k : Int)))) (fuL pin k) = fuL pin k := woK_no (fuL_nok (Nat.le_refl _))
      rw [h1]
      simp [fuB, fuL_len]
    · have := ih (by omega)
      unfold fuW woK at this
      have h2 : ¬ (r : Int) = (k : Int) := by omega
      simp [fuB, h2] at this ⊢
      omega
theorem fu_find (pin : Bool) {r k : Nat} (h : k < r) : findK (fuL pin r) (0, (k : Int)) = some (fuB pin k) := by
  obtain ⟨t, ht⟩ := findK_some (L := fuL pin r) (s := fuB pin k) (p := (0, (k : Int))) (by unfold fuL; simp; exact ⟨k, h, rfl⟩) rfl
  rw [ht]
  obtain ⟨h1, h2⟩ := findK_mem ht
  obtain ⟨j, hj, rfl⟩ := fuL_key h1
  have : (j : Int) = k := congrArg Prod.snd h2
  have : j = k := by omega
  rw [this]
/-- The one's block behind its Put. -/
def fuS (pin : Bool) (k : Nat) : Bk := ⟨(0, (k : Int)), gd (byt [3]), !pin || false, if pin then 1 else 0⟩
def fuT (k : Nat) : Bk := ⟨(0, (k : Int)), gd (byt [3]), false, 0⟩
def fuF : Bk := ⟨(0, 1000), gd (byt []), true, 0⟩
theorem fu_again (pin : Bool) {r k : Nat} (h : k < r) : putK r (fuL pin r) (0, (k : Int)) (byt [3]) false = (fuW pin r k ++ [fuS pin k], 0) := by
  unfold putK
  rw [if_neg (by rw [byt_len]; decide), fu_find pin h]
  rfl
theorem fu_clean (r k : Nat) : doK (fuW false r k ++ [fuS false k]) 3 (0, (k : Int)) = (fuW false r k ++ [fuT k], 0) := by
  have hn : NoK (fuW false r k) (fuS false k).key := fuW_nok _ _ _
  have h1 := findK_last hn
  have h2 := setK_last hn (fun s => { s with dirty := false })
  have e : (fuS false k).key = (0, (k : Int)) := rfl
  rw [e] at h1 h2
  rw [doK3 h1, h2]
  rfl
theorem fu_unpin (r k : Nat) : doK (fuW true r k ++ [fuS true k]) 5 (0, (k : Int)) = (fuW true r k ++ [fuT k], 0) := by
  have hn : NoK (fuW true r k) (fuS true k).key := fuW_nok _ _ _
  have h1 := findK_last hn
  have h2 := setK_last hn (fun s => { s with pins := s.pins - 1 })
  have e : (fuS true k).key = (0, (k : Int)) := rfl
  rw [e] at h1 h2
  rw [doK5 h1 (show (1 : Int) ≠ 0 by decide), h2]
  rfl
theorem fu_get (pin : Bool) (r k : Nat) : getK (fuW pin r k ++ [fuT k]) (0, (k : Int)) = (fuW pin r k ++ [fuT k], some (gd (byt [3]))) := by
  have hn : NoK (fuW pin r k) (fuT k).key := fuW_nok _ _ _
  have h1 := findK_last hn
  have h2 := woK_last hn
  have e : (fuT k).key = (0, (k : Int)) := rfl
  rw [e] at h1 h2
  unfold getK
  rw [h1]
  simp only
  rw [h2]
  rfl
theorem fu_in (pin : Bool) {r k : Nat} (h : k < r) (hr : r ≤ 1000) : putK r (fuW pin r k ++ [fuT k]) (0, 1000) (byt []) true = (fuW pin r k ++ [fuF], 0) := by
  have hl := fuW_len pin r k h
  have hn : NoK (fuW pin r k) (fuT k).key := fuW_nok _ _ _
  have h2 := woK_last hn
  have hk : roomK r (fuW pin r k ++ [fuT k]) = (fuW pin r k, true) := by
    unfold roomK
    rw [if_neg (by simp; omega), find_nog_last (fuW_nog pin r k) rfl]
    simp only
    rw [h2]
  have hno : NoK (fuW pin r k ++ [fuT k]) (0, 1000) := fun s hs => by
    rcases List.mem_append.1 hs with q | q
    · have := fuW_no pin (k := k) hr s q
      exact this
    · obtain rfl : s = fuT k := by simpa using q
      intro e
      have : (k : Int) = 1000 := congrArg Prod.snd e
      omega
  unfold putK
  rw [if_neg (by rw [byt_len]; decide), findK_none hno, hk]
  rfl
theorem fu_gone (pin : Bool) {r k : Nat} (h : k < r) (hr : r ≤ 1000) : getK (fuW pin r k ++ [fuF]) (0, (k : Int)) = (fuW pin r k ++ [fuF], none) := by
  have hno : NoK (fuW pin r k ++ [fuF]) (0, (k : Int)) := fun s hs => by
    rcases List.mem_append.1 hs with q | q
    · exact fuW_nok pin r k s q
    · obtain rfl : s = fuF := by simpa using q
      intro e
      have : (1000 : Int) = k := congrArg Prod.snd e
      omega
  unfold getK
  rw [findK_none hno]
theorem fu_len (pin : Bool) {r k : Nat} (h : k < r) (s : Bk) : (fuW pin r k ++ [s]).length = r := by
  have := fuW_len pin r k h
  simp
  omega
end Go.Proofs.Ytdnkeplmjimjcaa
/-
  CacheRow's lists of blocks.
-/
namespace Go.Proofs.Ytdnkeplmjimjcaa
open Go.RowKit

def rwB (j : Nat) : Bk := ⟨(7, (j : Int)), gd (byt [j, 1]), false, 0⟩
def rwL (lo i : Nat) : List Bk := (List.range' lo (i - lo)).map rwB
theorem rwL_len (lo i : Nat) : (rwL lo i).length = i - lo := by simp [rwL]
theorem rwL_get {lo i t : Nat} (h : t < i - lo) : (rwL lo i)[t]? = some (rwB (lo + t)) := by
  unfold rwL
  rw [List.getElem?_map, List.getElem?_range' h]
  simp
theorem rwL_mem {lo i : Nat} {s : Bk} (h : s ∈ rwL lo i) : ∃ j, lo ≤ j ∧ j < i ∧ s = rwB j := by
  unfold rwL at h
  rw [List.mem_map] at h
  obtain ⟨j, hj, e⟩ := h
  rw [List.mem_range'_1] at hj
  exact ⟨j, hj.1, by omega, e.symm⟩
theorem rwL_in {lo i j : Nat} (h1 : lo ≤ j) (h2 : j < i) : rwB j ∈ rwL lo i := by
  unfold rwL
  rw [List.mem_map]
  exact ⟨j, by rw [List.mem_range'_1]; omega, rfl⟩
theorem rwB_key {j k : Nat} (h : (rwB j).key = (7, (k : Int))) : j = k := by
  have : (j : Int) = k := congrArg Prod.snd h
  omega
theorem rwL_succ {lo i : Nat} (h : lo ≤ i) : rwL lo (i + 1) = rwL lo i ++ [rwB i] := by
  unfold rwL
  rw [show i + 1 - lo = (i - lo) + 1 by omega, List.range'_1_concat, List.map_append, show lo + (i - lo) = i by omega]
  rfl
theorem rwL_cons {lo i : Nat} (h : lo < i) : rwL lo i = rwB lo :: rwL (lo + 1) i := by
  unfold rwL
  rw [show i - lo = (i - (lo + 1)) + 1 by omega, List.range'_succ]
  rfl
theorem rwL_nok {lo i k : Nat} (h : i ≤ k ∨ k < lo) : NoK (rwL lo i) (7, (k : Int)) := fun s hs => by
  obtain ⟨j, h1, h2, rfl⟩ := rwL_mem hs
  intro e
  have := rwB_key e
  omega
/-- A Put of the next one. -/
theorem rw_put (r lo i : Nat) (h1 : lo ≤ i) (h2 : i - lo ≤ r) (h3 : 0 < r) : putK r (rwL lo i) (7, (i : Int)) (byt [i, 1]) false = (rwL (if i - lo < r then lo else lo + 1) (i + 1), 0) := by
  unfold putK
  rw [if_neg (by rw [byt_len]; decide), findK_none (rwL_nok (.inl (Nat.le_refl _)))]
  by_cases h : i - lo < r
  · have hr : roomK r (rwL lo i) = (rwL lo i, true) := by
      unfold roomK
      rw [rwL_len, if_pos (by omega)]
    rw [hr, if_pos h, rwL_succ h1]
    rfl
  · have hlt : lo < i := by omega
    have hw : woK (rwL lo i) (rwB lo).key = rwL (lo + 1) i := by
      rw [rwL_cons hlt]
      have := woK_no (L := rwL (lo + 1) i) (p := (rwB lo).key) (rwL_nok (.inr (Nat.lt_succ_self _)))
      unfold woK at this ⊢
      rw [List.filter_cons_of_neg (by simp), this]
    have hr : roomK r (rwL lo i) = (rwL (lo + 1) i, true) := by
      unfold roomK
      rw [rwL_len, if_neg (by omega)]
      have hf : (rwL lo i).find? goK = some (rwB lo) := by
        rw [rwL_cons hlt, List.find?_cons_of_pos rfl]
      rw [hf]
      simp only
      rw [hw]
    rw [hr, if_neg h, rwL_succ (show lo + 1 ≤ i by omega)]
    rfl
/-- What stays while blocks are got: the same ones, and the last one got. -/
structure RwI (lo n : Nat) (L : List Bk) (last : Int) : Prop where
  len : L.length = n - lo
  all : ∀ s ∈ L, ∃ j, lo ≤ j ∧ j < n ∧ s = rwB j
  has : ∀ j, lo ≤ j → j < n → rwB j ∈ L
  end_ : last < 0 ∨ ∃ (L0 : List Bk) (j : Nat), last = (j : Int) ∧ L = L0 ++ [rwB j]
theorem RwI.start {lo n : Nat} : RwI lo n (rwL lo n) (-1) := ⟨rwL_len _ _, fun _ h => rwL_mem h, fun _ h1 h2 => rwL_in h1 h2, .inl (by decide)⟩
theorem find_only {L : List Bk} {p : Int × Int} {s : Bk} (hs : s ∈ L) (hk : s.key = p) (hu : ∀ t ∈ L, t.key = p → t = s) : findK L p = some s := by
  obtain ⟨t, ht⟩ := findK_some hs hk
  obtain ⟨h1, h2⟩ := findK_mem ht
  rw [ht, hu t h1 h2]
theorem wo_len : ∀ {L : List Bk} {p : Int × Int}, (L.map Bk.key).Nodup → (∃ s ∈ L, s.key = p) → (woK L p).length + 1 = L.length
  | [], _, _, ⟨s, hs, _⟩ => by cases hs
  | a :: L, p, hn, ⟨s, hs, hk⟩ => by
    rw [List.map_cons, List.nodup_cons] at hn
    by_cases e : a.key = p
    · have hno : NoK L p := fun t ht q => hn.1 (by rw [e, ← q]; exact List.mem_map_of_mem ht)
      have := woK_no hno
      unfold woK at this ⊢
      rw [List.filter_cons_of_neg (by simp [e]), this]
      rfl
    · have hs' : s ∈ L := by
        rcases List.mem_cons.1 hs with q | q
        · rw [q] at hk; exact absurd hk e
        · exact q
      have := wo_len hn.2 ⟨s, hs', hk⟩
      unfold woK at this ⊢
      rw [List.filter_cons_of_pos (by simp [e]), List.length_cons, List.length_cons, this]
theorem RwI.get {lo n : Nat} {L : List Bk} {last : Int} (h : RwI lo n L last) (hn : (L.map Bk.key).Nodup) {j : Nat} (h1 : lo ≤ j) (h2 : j < n) :
    getK L (7, (j : Int)) = (woK L (7, (j : Int)) ++ [rwB j], some (gd (byt [j, 1]))) ∧ RwI lo n (woK L (7, (j : Int)) ++ [rwB j]) (j : Int) := by
  have hf : findK L (7, (j : Int)) = some (rwB j) := find_only (h.has j h1 h2) rfl (fun t ht hk => by
    obtain ⟨i, _, _, rfl⟩ := h.all t ht
    rw [rwB_key hk])
  refine ⟨by unfold getK; rw [hf]; rfl, ?_, fun s hs => ?_, fun i h3 h4 => ?_, .inr ⟨_, j, rfl, rfl⟩⟩
  · have := wo_len hn ⟨rwB j, h.has j h1 h2, rfl⟩
    rw [List.length_append, ← h.len, ← this]
    rfl
  · rcases List.mem_append.1 hs with q | q
    · exact h.all s (woK_sub q)
    · exact ⟨j, h1, h2, by simpa using q⟩
  · by_cases e : i = j
    · rw [e]; simp
    · refine List.mem_append_left _ ?_
      unfold woK
      rw [List.mem_filter]
      exact ⟨h.has i h3 h4, by simpa using fun q => e (rwB_key q)⟩
end Go.Proofs.Ytdnkeplmjimjcaa
/-
  A map from pairs of integers to elements of any kind, told by a function; its keys.
-/
namespace Go.Proofs.Ytdnkeplmjimjcaa
open Go.RowKit Go.Maps

/-- A kind of elements: how it is read, how it is made, its zero, its map's type. -/
structure Elm (E : Type) where
  R : Value → Option (DataW E × List MemPlace)
  val : E → Value
  z : E
  ty : TypeId
  el : TypeId
  und : Try.prog.underlying ty = some (.map KT el)
  zr : ∀ w : World, (zeroValue el).run Try.prog w = .ok (val z) w
  rd : ∀ e, R (val e) = some (.held e, [])
  inv : ∀ {v y}, R v = some y → ∃ e, v = val e ∧ y = (.held e, [])
/-- Block g is a map that leads from f's keys to f's elements; ks are its keys, each once. -/
def KG {E : Type} (M : Elm E) (w : World) (g n : Nat) (f : Int × Int → Option E) (ks : List (Int × Int)) : Prop :=
  ∃ D : DataW E, w.ownsMap Try.prog KT M.R g n D ∧ (∀ p, wfK p → Maps.has D (klit p) = (f p).isSome ∧ D.atKey (klit p) (.held M.z) = .held ((f p).getD M.z)) ∧
    ks.Nodup ∧ (∀ p, p ∈ ks ↔ (f p).isSome = true) ∧ (∀ p, (f p).isSome = true → wfK p) ∧ Maps.size D = ks.length
section
variable {E : Type} {M : Elm E} {w w' : World} {g n : Nat} {f : Int × Int → Option E} {ks : List (Int × Int)}
theorem KG.made (M : Elm E) (w : World) : KG M (w.alloc (.map #[] 0)) w.heap.size 0 (fun _ => none) [] :=
  ⟨_, World.ownsMap_made w Try.prog KT M.R, fun x _ => ⟨by simp [Maps.has], rfl⟩, List.nodup_nil, fun x => (by simp), ⟨fun x h => (by simp at h), rfl⟩⟩
theorem KG.obj (h : KG M w g n f ks) : ∃ es c, w.heap[g]? = some (.map es c) := by
  obtain ⟨D, ⟨es, c, hx, _⟩, _⟩ := h
  exact ⟨es, c, hx⟩
theorem KG.same (h : KG M w g n f ks) (he : ∀ o, w.heap[g]? = some o → w'.heap[g]? = some o) : KG M w' g n f ks := by
  obtain ⟨D, ⟨es, c, hx, hr⟩, h2⟩ := h
  exact ⟨D, ⟨es, c, he _ hx, hr⟩, h2⟩
theorem KG.lt (h : KG M w g n f ks) : g < w.heap.size := by
  obtain ⟨es, c, hx⟩ := h.obj
  exact (Array.getElem?_eq_some_iff.1 hx).1
theorem KG.later (h : KG M w g n f ks) (hb : Below w.heap.size w w') : KG M w' g n f ks := h.same (fun o e => (hb.block g h.lt).trans e)
theorem KG.blo (h : KG M w g n f ks) {k : Nat} {t : TypeId} {cs : Array Value} (hb : Blo w k t cs) : g ≠ k := by
  rintro rfl
  obtain ⟨es, c, hx⟩ := h.obj
  unfold Blo at hb
  rw [hx] at hb
  cases hb
theorem KG.look_ok (h : KG M w g n f ks) {p : Int × Int} (hp : wfK p) : (Instr.lookup M.ty (.map (some g)) (keyV p) true).run Try.prog w = .ok (.tuple #[M.val ((f p).getD M.z), .bool (f p).isSome]) w := by
  obtain ⟨D, h1, h2, _⟩ := h
  obtain ⟨v, ps, hrun, hv⟩ := h1.look_ok keyedK M.und (M.zr w) (zd := .held M.z) (zp := []) (M.rd _) (keyOfK hp)
  obtain ⟨e, rfl, hq⟩ := M.inv hv
  have e1 := (h2 p hp).2
  have e2 : D.atKey (klit p) (.held M.z) = .held e := congrArg Prod.fst hq
  rw [e2] at e1
  cases e1
  rw [hrun, (h2 p hp).1]
theorem KG.look (h : KG M w g n f ks) {p : Int × Int} (hp : wfK p) : (Instr.lookup M.ty (.map (some g)) (keyV p) false).run Try.prog w = .ok (M.val ((f p).getD M.z)) w := by
  obtain ⟨D, h1, h2, _⟩ := h
  obtain ⟨v, ps, hrun, hv⟩ := h1.lookup keyedK M.und (M.zr w) (zd := .held M.z) (zp := []) (M.rd _) (keyOfK hp)
  obtain ⟨e, rfl, hq⟩ := M.inv hv
  have e1 := (h2 p hp).2
  have e2 : D.atKey (klit p) (.held M.z) = .held e := congrArg Prod.fst hq
  rw [e2] at e1
  cases e1
  exact hrun
theorem KG.len (h : KG M w g n f ks) (ty : TypeId) : (Builtin.len_ #[M.ty] ty #[.map (some g)]).run Try.prog w = .ok (.int .i64 (ks.length : Nat)) w := by
  obtain ⟨D, h1, h2, h5, h6, h8, h7⟩ := h
  rw [h1.len M.und ty, h7]
theorem KG.put (h : KG M w g n f ks) (hn : n < 1000000) {p : Int × Int} (hp : wfK p) (e : E) : ∃ w', (Instr.mapUpdate M.ty (.map (some g)) (keyV p) (M.val e)).run Try.prog w = .ok () w' ∧ KG M w' g (n + 1) (updP f p (some e)) (addP ks p) ∧ w.grownBy w' (some g) := by
  obtain ⟨D, h1, h2, h5, h6, h8, h7⟩ := h
  obtain ⟨w', hrun, h3, h4⟩ := h1.update keyedK M.und (by unfold maxLen; omega) (keyOfK hp) (M.rd e)
  have hT := h1.tidy keyedK
  refine ⟨w', hrun, ⟨_, h3, fun z hz => ?_, ?_, fun z => ?_, fun z hz => ?_, ?_⟩, h4⟩
  · by_cases e : z = p
    · subst e
      rw [updP_at, has_put_same hT.isMap (klit_key hz), atKey_put_same hT.isMap (klit_key hz)]
      exact ⟨rfl, rfl⟩
    · have en : klit z ≠ klit p := fun q => e (klit_inj hz hp q)
      rw [updP_ne _ _ e, has_put_other en, atKey_put_other en]
      exact h2 z hz
  · unfold addP
    split
    · exact h5
    · rename_i hk
      rw [List.nodup_append]
      exact ⟨h5, by simp, fun a ha b hb => by simp at hb; subst hb; intro e; subst e; exact hk ha⟩
  · rw [addP_mem, h6]
    by_cases e : z = p
    · subst e; rw [updP_at]; simp
    · rw [updP_ne _ _ e]; simp [e]
  · by_cases e : z = p
    · subst e; exact hp
    · rw [updP_ne _ _ e] at hz; exact h8 z hz
  · rw [size_put hT, (h2 p hp).1, h7]
    unfold addP
    by_cases hk : p ∈ ks
    · rw [if_pos hk, if_pos ((h6 p).1 hk)]
    · rw [if_neg hk, if_neg (fun e => hk ((h6 p).2 e)), List.length_append]; rfl
theorem KG.del (h : KG M w g n f ks) {p : Int × Int} (hp : wfK p) (hin : p ∈ ks) (ty : TypeId) : ∃ w', (Builtin.delete_ #[M.ty, KT] ty #[.map (some g), keyV p]).run Try.prog w = .ok (.tuple #[]) w' ∧ KG M w' g n (updP f p none) (ks.erase p) ∧ w.grownBy w' (some g) := by
  obtain ⟨D, h1, h2, h5, h6, h8, h7⟩ := h
  obtain ⟨w', hrun, h3, h4⟩ := h1.drop keyedK M.und (keyOfK hp) ty
  have hT := h1.tidy keyedK
  refine ⟨w', hrun, ⟨_, h3, fun z hz => ?_, h5.erase p, fun z => ?_, fun z hz => ?_, ?_⟩, h4.grown⟩
  · by_cases e : z = p
    · subst e
      rw [updP_at, has_del_same, atKey_del_same]
      exact ⟨rfl, rfl⟩
    · have en : klit z ≠ klit p := fun q => e (klit_inj hz hp q)
      rw [updP_ne _ _ e, has_del_other en, atKey_del_other en]
      exact h2 z hz
  · rw [h5.mem_erase_iff, h6]
    by_cases e : z = p
    · subst e; rw [updP_at]; simp
    · rw [updP_ne _ _ e]; simp [e]
  · by_cases e : z = p
    · subst e; rw [updP_at] at hz; cases hz
    · rw [updP_ne _ _ e] at hz; exact h8 z hz
  · have e := size_del (k := klit p) hT
    have hpos := List.length_pos_of_mem hin
    rw [(h2 p hp).1, if_pos ((h6 p).1 hin), h7] at e
    rw [List.length_erase_of_mem hin]
    omega
/-- delete of a key that is not there. -/
theorem KG.del_none (h : KG M w g n f ks) {p : Int × Int} (hp : wfK p) (hin : p ∉ ks) (ty : TypeId) : ∃ w', (Builtin.delete_ #[M.ty, KT] ty #[.map (some g), keyV p]).run Try.prog w = .ok (.tuple #[]) w' ∧ KG M w' g n f ks ∧ w.grownBy w' (some g) := by
  obtain ⟨D, h1, h2, h5, h6, h8, h7⟩ := h
  obtain ⟨w', hrun, h3, h4⟩ := h1.drop keyedK M.und (keyOfK hp) ty
  have hT := h1.tidy keyedK
  have hf : (f p).isSome = false := by
    cases hq : (f p).isSome with
    | false => rfl
    | true => exact absurd ((h6 p).2 hq) hin
  have hfn : f p = none := by simpa using hf
  refine ⟨w', hrun, ⟨_, h3, fun z hz => ?_, h5, h6, h8, ?_⟩, h4.grown⟩
  · by_cases e : z = p
    · subst e
      rw [has_del_same, atKey_del_same, hfn]
      exact ⟨rfl, rfl⟩
    · have en : klit z ≠ klit p := fun q => e (klit_inj hz hp q)
      rw [has_del_other en, atKey_del_other en]
      exact h2 z hz
  · have e := size_del (k := klit p) hT
    rw [(h2 p hp).1, hf, if_neg (by decide), h7] at e
    exact e
end
/-- Texts. -/
def strE (v : Value) : Option (DataW ByteArray × List MemPlace) :=
  match v with
  | .string s => some (.held s, [])
  | _ => none
def elS : Elm ByteArray where
  R := strE
  val := .string
  z := ⟨#[]⟩
  ty := 63
  el := 9
  und := Try.underlying63
  zr := fun w => by kernel_rfl
  rd := fun _ => rfl
  inv := fun {v y} h => by
    unfold strE at h
    split at h
    · cases h; exact ⟨_, rfl, rfl⟩
    · cases h
/-- Numbers. -/
def intE (v : Value) : Option (DataW Int × List MemPlace) :=
  match v with
  | .int .i64 s => some (.held s, [])
  | _ => none
def elI : Elm Int where
  R := intE
  val := .int .i64
  z := 0
  ty := 55
  el := 3
  und := Try.underlying55
  zr := fun w => by kernel_rfl
  rd := fun _ => rfl
  inv := fun {v y} h => by
    unfold intE at h
    split at h
    · cases h; exact ⟨_, rfl, rfl⟩
    · cases h
end Go.Proofs.Ytdnkeplmjimjcaa
/-
  CacheLast's numbers: what was put last under a key is what lies there.
-/
namespace Go.Proofs.Ytdnkeplmjimjcaa
open Go.RowKit

/-- Every block holds what was put last under its key. -/
def LaI (L : List Bk) (f : Int × Int → Option ByteArray) : Prop := ∀ s ∈ L, f s.key = some (strOf (dtL s.data)) ∧ ∀ y ∈ dtL s.data, y < 256
theorem LaI.sub {L L' : List Bk} {f : Int × Int → Option ByteArray} (h : LaI L f) (hs : ∀ t ∈ L', ∃ s ∈ L, t.key = s.key ∧ t.data = s.data) : LaI L' f := fun t ht => by
  obtain ⟨s, h1, h2, h3⟩ := hs t ht
  rw [h2, h3]
  exact h s h1
theorem room_sub {room : Int} {L : List Bk} : ∀ s ∈ (roomK room L).1, s ∈ L := fun s hs => by
  unfold roomK at hs
  split at hs
  · exact hs
  · split at hs
    · exact hs
    · exact woK_sub hs
theorem room_no {room : Int} {L : List Bk} (h : (roomK room L).2 = false) : (roomK room L).1 = L := by
  unfold roomK at h ⊢
  by_cases q1 : (L.length : Int) < room
  · rw [if_pos q1]
  · rw [if_neg q1] at h ⊢
    cases q2 : L.find? goK with
    | none => rfl
    | some s => rw [q2] at h; cases h
/-- Put: what it leaves where it was let in; where not. -/
theorem put_yes {room : Int} {L : List Bk} {p : Int × Int} {l : List Nat} {d : Bool} (h : (putK room L p l d).2 = 0) : l.length = 64 ∧ ∀ s ∈ (putK room L p l d).1, (s.key = p ∧ s.data = gd l) ∨ (s.key ≠ p ∧ s ∈ L) := by
  unfold putK at h ⊢
  by_cases hl : l.length = 64
  · refine ⟨hl, ?_⟩
    rw [if_neg (by omega)] at h ⊢
    cases hf : findK L p with
    | some t =>
      rw [hf] at h
      simp only
      intro s hs
      rcases List.mem_append.1 hs with q | q
      · exact .inr ⟨woK_nok L p s q, woK_sub q⟩
      · have : s = ⟨p, gd l, t.dirty || d, t.pins⟩ := by simpa using q
        rw [this]
        exact .inl ⟨rfl, rfl⟩
    | none =>
      rw [hf] at h
      simp only at h ⊢
      by_cases hr : (roomK room L).2 = true
      · rw [if_pos hr] at h ⊢
        intro s hs
        rcases List.mem_append.1 hs with q | q
        · have hsl := room_sub s q
          refine .inr ⟨fun e => ?_, hsl⟩
          obtain ⟨t, ht⟩ := findK_some hsl e
          rw [hf] at ht
          cases ht
        · have : s = ⟨p, gd l, d, 0⟩ := by simpa using q
          rw [this]
          exact .inl ⟨rfl, rfl⟩
      · rw [if_neg hr] at h
        cases h
  · rw [if_pos hl] at h
    cases h
theorem put_no {room : Int} {L : List Bk} {p : Int × Int} {l : List Nat} {d : Bool} (h : (putK room L p l d).2 ≠ 0) : (putK room L p l d).1 = L := by
  unfold putK at h ⊢
  by_cases hl : l.length = 64
  · rw [if_neg (by omega)] at h ⊢
    cases hf : findK L p with
    | some t =>
      rw [hf] at h
      exact absurd rfl h
    | none =>
      rw [hf] at h
      simp only at h ⊢
      by_cases hr : (roomK room L).2 = true
      · rw [if_pos hr] at h
        exact absurd rfl h
      · rw [if_neg hr]
        exact room_no (by simpa using hr)
  · rw [if_pos hl]
theorem do_sub {L : List Bk} {k : Int} {p : Int × Int} : ∀ t ∈ (doK L k p).1, ∃ s ∈ L, t.key = s.key ∧ t.data = s.data := fun t ht => by
  have hset : ∀ g : Bk → Bk, (∀ s, (g s).key = s.key ∧ (g s).data = s.data) → ∀ t ∈ setK L p g, ∃ s ∈ L, t.key = s.key ∧ t.data = s.data := fun g hg t ht => by
    unfold setK at ht
    obtain ⟨s, hs, e⟩ := List.mem_map.1 ht
    refine ⟨s, hs, ?_⟩
    rw [← e]
    split
    · exact hg s
    · exact ⟨rfl, rfl⟩
  have hid : t ∈ L → ∃ s ∈ L, t.key = s.key ∧ t.data = s.data := fun h => ⟨t, h, rfl, rfl⟩
  unfold doK at ht
  split at ht
  · exact hid ht
  · split at ht
    · exact hset (fun s => { s with dirty := false }) (fun _ => ⟨rfl, rfl⟩) t ht
    · split at ht
      · exact hset (fun s => { s with pins := s.pins + 1 }) (fun _ => ⟨rfl, rfl⟩) t ht
      · split at ht
        · split at ht
          · exact hid ht
          · exact hset (fun s => { s with pins := s.pins - 1 }) (fun _ => ⟨rfl, rfl⟩) t ht
        · split at ht
          · exact hid ht
          · exact hid (woK_sub ht)
theorem get_sub {L : List Bk} {p : Int × Int} : ∀ t ∈ (getK L p).1, ∃ s ∈ L, t.key = s.key ∧ t.data = s.data := fun t ht => by
  unfold getK at ht
  split at ht
  · exact ⟨t, ht, rfl, rfl⟩
  · rename_i s hs
    rcases List.mem_append.1 ht with q | q
    · exact ⟨t, woK_sub q, rfl, rfl⟩
    · have : t = s := by simpa using q
      rw [this]
      exact ⟨s, (findK_mem hs).1, rfl, rfl⟩
theorem get_dat {L : List Bk} {p : Int × Int} {d : Nat → Nat} (h : (getK L p).2 = some d) : ∃ s ∈ L, s.key = p ∧ d = s.data := by
  unfold getK at h
  split at h
  · cases h
  · rename_i s hs
    cases h
    exact ⟨s, (findK_mem hs).1, (findK_mem hs).2, rfl⟩
/-- What a call that is no Put leaves. -/
theorem play_sub {room : Int} {L : List Bk} {x : OpC} (h : x.k ≠ 1) : ∀ t ∈ (playK room L x).1, ∃ s ∈ L, t.key = s.key ∧ t.data = s.data := fun t ht => by
  unfold playK at ht
  rw [if_neg h] at ht
  split at ht
  · exact get_sub t ht
  · split at ht
    · exact do_sub t ht
    · split at ht
      · exact do_sub t ht
      · split at ht
        · exact do_sub t ht
        · split at ht
          · exact do_sub t ht
          · exact ⟨t, ht, rfl, rfl⟩
theorem LaI.put {L : List Bk} {f : Int × Int → Option ByteArray} (h : LaI L f) {room : Int} {p : Int × Int} {l : List Nat} {d : Bool} (hl : ∀ y ∈ l, y < 256) (h0 : (putK room L p l d).2 = 0) : LaI (putK room L p l d).1 (updP f p (some (strOf l))) := fun s hs => by
  obtain ⟨h64, h1⟩ := put_yes h0
  rcases h1 s hs with ⟨e1, e2⟩ | ⟨e1, e2⟩
  · rw [e1, e2, updP_at, dtL_gd h64]
    exact ⟨rfl, hl⟩
  · rw [updP_ne _ _ e1]
    exact h s e2
/-- The same blocks, in whatever order. -/
def SmL (L0 L : List Bk) : Prop := ∀ s, s ∈ L ↔ s ∈ L0
theorem nodup_key : ∀ {L : List Bk}, (L.map Bk.key).Nodup → ∀ {s t : Bk}, s ∈ L → t ∈ L → s.key = t.key → s = t
  | [], _, s, t, hs, _, _ => by cases hs
  | a :: L, hn, s, t, hs, ht, e => by
    rw [List.map_cons, List.nodup_cons] at hn
    rcases List.mem_cons.1 hs with q1 | q1 <;> rcases List.mem_cons.1 ht with q2 | q2
    · rw [q1, q2]
    · exact absurd (by rw [← q1, e]; exact List.mem_map_of_mem q2) hn.1
    · exact absurd (by rw [← q2, ← e]; exact List.mem_map_of_mem q1) hn.1
    · exact nodup_key hn.2 q1 q2 e
theorem SmL.get {L0 L : List Bk} (h : SmL L0 L) (hn : (L.map Bk.key).Nodup) {s : Bk} (hs : s ∈ L0) : getK L s.key = (woK L s.key ++ [s], some s.data) ∧ SmL L0 (woK L s.key ++ [s]) := by
  have hsl := (h s).2 hs
  have hf : findK L s.key = some s := find_only hsl rfl (fun t ht e => nodup_key hn ht hsl e)
  refine ⟨by unfold getK; rw [hf], fun t => ?_⟩
  rw [← h t, List.mem_append, List.mem_singleton]
  constructor
  · rintro (q | q)
    · exact woK_sub q
    · rw [q]; exact hsl
  · intro q
    by_cases e : t.key = s.key
    · exact .inr (nodup_key hn q hsl e)
    · refine .inl ?_
      unfold woK
      rw [List.mem_filter]
      exact ⟨q, by simpa using e⟩
end Go.Proofs.Ytdnkeplmjimjcaa
/-
  A slice of integers that came in.
-/
namespace Go.Proofs.Ytdnkeplmjimjcaa
open Go.RowKit

structure IntsIn (w : World) (a : Option Addr) (len cap : Nat) (l : List Int) : Prop where
  ints : Ints w a l
  leq : len = l.length
  lenm : len ≤ 9223372036854775807
  nil : a = .none → len = 0 ∧ cap = 0
  wf : ∀ n ∈ l, (Lit.int .i64 n).wf = true
section
open Go.ChangeShapes Go.WideShapes Go.Deep
variable {H : Type} {enc : TypeId × Value → H} {P : Program} {w : World} {base : Nat} {held : Bool} {spare : Nat → Bool}
theorem intsIn_of_trod {t e : TypeId} {fuel : Nat} {cs : List Value} {x : DataW H × List MemPlace} (ht : P.underlying t = some (.slice e)) (he : P.underlying e = some (.int .i64)) (hc : P.cellsOf e = 1)
    (h : DataW.trod enc P w base (fun _ => true) held fuel t cs = some x) : ∃ a n cap l, cs = [.slice a n cap] ∧ IntsIn w a n cap l := by
  have hmx : (maxLen : Nat) = 9223372036854775807 := by decide
  rcases open_ints ht he hc h with ⟨hcs, _⟩ | ⟨a, n, cap, zs, hcs, h0, h1, h2, h3, hx, hcell, hwz⟩
  · exact ⟨none, 0, 0, [], hcs, Ints.nil _ _, rfl, by decide, fun _ => ⟨rfl, rfl⟩, fun n hn => by cases hn⟩
  · have h3' : zs.length = cap := by simpa using h3
    refine ⟨some a, n, cap, zs.take n, hcs, fun hne => ?_, by rw [List.length_take]; omega, by omega, (fun h => by cases h), fun m hm => hwz m (List.mem_of_mem_take hm)⟩
    have hlen : 0 < n := by
      rcases Nat.eq_zero_or_pos n with h | h
      · subst h; simp at hne
      · exact h
    obtain ⟨b, off, rfl, hcl⟩ := Go.ints_at hcell (by omega)
    refine ⟨b, off, rfl, fun i hi => ?_⟩
    rw [List.length_take] at hi
    rw [hcl i (by omega), List.getD_eq_getElem?_getD, List.getD_eq_getElem?_getD, List.getElem?_take_of_lt (by omega)]
end
end Go.Proofs.Ytdnkeplmjimjcaa
