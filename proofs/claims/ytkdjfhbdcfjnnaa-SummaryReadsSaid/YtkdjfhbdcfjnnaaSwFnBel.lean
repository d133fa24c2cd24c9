/-
  The document's list of blocks of pointers: one level above another.
-/
import Derived.Test.YtkdjfhbdcfjnnaaSwFnM
import Derived.Deep.CutBlock
import Derived.Deep.DeepCutAuto
namespace Go.Proofs.Ytkdjfhbdcfjnnaa
open Go.RowKit

/-- What stands in below's loop. -/
structure BelS (w : World) (lv : Nat) (f r : Int) (ms ss : List Int) (am as_ : Option Addr) (nm ns cm cs_ : Nat) (k : Nat) (v : Value) (W : World) : Prop where
  o : ∃ cs, W.ownsRow w.heap.size MET 6 v (belK lv f r ms ss k).length cs ∧ MtsC W (belK lv f r ms ss k) cs
  p : Blo W w.heap.size PTH #[.int .i64 r, .slice am nm cm, .slice as_ ns cs_]
  m : Blo W (w.heap.size + 1) MET #[.int .i64 (-f - (lv : Int)), .int .i64 ((lv : Int) + 1), .int .i64 f, .int .i64 r, .slice am nm cm, .slice as_ ns cs_]
  b : Below w.heap.size w W
  ap : v.ownBlock ≠ some (w.heap.size + 1)
abbrev zp8 : Array Value := #[.int .i64 0, .slice none 0 0, .slice none 0 0]
def BelR (w : World) (lv : Nat) (f r : Int) (ms ss : List Int) (am as_ : Option Addr) (nm ns cm cs_ : Nat) (v t : Value) (W : World) : Prop :=
  ∃ k : Nat, k ≤ 16 ∧ t = .int .i64 k ∧ BelS w lv f r ms ss am as_ nm ns cm cs_ k v W
theorem BelS.later {w W W' : World} {lv : Nat} {f r : Int} {ms ss : List Int} {am as_ : Option Addr} {nm ns cm cs_ k : Nat} {v : Value} (h : BelS w lv f r ms ss am as_ nm ns cm cs_ k v W) (hb : Below W.heap.size W W') : BelS w lv f r ms ss am as_ nm ns cm cs_ k v W' := by
  obtain ⟨cs, h1, h2⟩ := h.o
  exact ⟨⟨cs, own_later h1 hb, h2.later hb⟩, h.p.later hb, h.m.later hb, h.b.trans (hb.mono h.b.size), h.ap⟩
theorem bel_start (w : World) (lv : Nat) (f r : Int) (ms ss : List Int) (am as_ : Option Addr) (nm ns cm cs_ : Nat) (hm : nm = ms.length) (hs : ns = ss.length) (h1 : IntB w am ms) (h2 : IntB w as_ ss) (h3 : am = none → nm = 0 ∧ cm = 0) (h4 : as_ = none → ns = 0 ∧ cs_ = 0) :
    BelS w lv f r ms ss am as_ nm ns cm cs_ 0 (.slice (some ⟨w.heap.size + 1 + 1, 0, none⟩) 1 1) (((w.alloc (.cells #[.int .i64 r, .slice am nm cm, .slice as_ ns cs_] PTH)).alloc (.cells #[.int .i64 (-f - (lv : Int)), .int .i64 ((lv : Int) + 1), .int .i64 f, .int .i64 r, .slice am nm cm, .slice as_ ns cs_] MET)).alloc (.cells #[.int .i64 (-f - (lv : Int)), .int .i64 ((lv : Int) + 1), .int .i64 f, .int .i64 r, .slice am nm cm, .slice as_ ns cs_] MET)) := by
  subst hm hs
  have b1 : Below w.heap.size w (w.alloc (.cells #[.int .i64 r, .slice am ms.length cm, .slice as_ ss.length cs_] PTH)) := (Below.refl _ _).alloc (Nat.le_refl _) _
  have b2 := b1.alloc b1.size (.cells #[.int .i64 (-f - (lv : Int)), .int .i64 ((lv : Int) + 1), .int .i64 f, .int .i64 r, .slice am ms.length cm, .slice as_ ss.length cs_] MET)
  have b3 := b2.alloc b2.size (.cells #[.int .i64 (-f - (lv : Int)), .int .i64 ((lv : Int) + 1), .int .i64 f, .int .i64 r, .slice am ms.length cm, .slice as_ ss.length cs_] MET)
  refine ⟨⟨[.int .i64 (-f - (lv : Int)), .int .i64 ((lv : Int) + 1), .int .i64 f, .int .i64 r, .slice am ms.length cm, .slice as_ ss.length cs_], ?_, ?_⟩, ((blo_laid w _ _).alloc _).alloc _, ?_, b3, by simp [Value.ownBlock]⟩
  · have := heap_alloc_new ((w.alloc (.cells #[.int .i64 r, .slice am ms.length cm, .slice as_ ss.length cs_] PTH)).alloc (.cells #[.int .i64 (-f - (lv : Int)), .int .i64 ((lv : Int) + 1), .int .i64 f, .int .i64 r, .slice am ms.length cm, .slice as_ ss.length cs_] MET)) (.cells #[.int .i64 (-f - (lv : Int)), .int .i64 ((lv : Int) + 1), .int .i64 f, .int .i64 r, .slice am ms.length cm, .slice as_ ss.length cs_] MET)
    refine ⟨by simp [belK], .inr ⟨_, 1, #[.int .i64 (-f - (lv : Int)), .int .i64 ((lv : Int) + 1), .int .i64 f, .int .i64 r, .slice am ms.length cm, .slice as_ ss.length cs_], rfl, by omega, by simpa using this, by simp [belK], by decide, by simp, by simp [belK]⟩⟩
  · refine ⟨_, [], rfl, ⟨am, cm, as_, cs_, rfl, h1.later b3, h2.later b3, h3, h4⟩, ?_⟩
    show _ = _
    simp
  · have := (blo_laid (w.alloc (.cells #[.int .i64 r, .slice am ms.length cm, .slice as_ ss.length cs_] PTH)) MET #[.int .i64 (-f - (lv : Int)), .int .i64 ((lv : Int) + 1), .int .i64 f, .int .i64 r, .slice am ms.length cm, .slice as_ ss.length cs_])
    rw [show (w.alloc (.cells #[.int .i64 r, .slice am ms.length cm, .slice as_ ss.length cs_] PTH)).heap.size = w.heap.size + 1 by simp] at this
    exact this.alloc _
theorem width_any (lv : Nat) (h : lv < 3) (w : World) : Calls Try.prog 47 #[.int .i64 (lv : Int)] w fun e w' => e = .returned (.int .i64 (widM lv)) ∧ Below w.heap.size w w' := by
  have hb := sup_below w (.cells #[.int .i64 1, .int .i64 16, .int .i64 256, .int .i64 4096] 89)
  have hu := Try.underlying89
  have hc : Try.prog.cellsOf 3 = 1 := by kernel_rfl
  have hr : ∀ (i : Nat) (hi : i < 4) (W : World), (Instr.index 89 (.agg #[.int .i64 1, .int .i64 16, .int .i64 256, .int .i64 4096]) (.int .i64 (i : Int))).run Try.prog W = .ok ((#[Value.int .i64 1, .int .i64 16, .int .i64 256, .int .i64 4096])[i]'hi) W := by
    intro i hi W
    have : i = 0 ∨ i = 1 ∨ i = 2 ∨ i = 3 := by omega
    rcases this with rfl | rfl | rfl | rfl <;> simp [go_sem, Instr.index, hu, hc]
  match lv, h with
  | 0, _ =>
    have h0 : ∀ W : World, (Instr.index 89 (.agg #[.int .i64 1, .int .i64 16, .int .i64 256, .int .i64 4096]) (.int .i64 0)).run Try.prog W = .ok (.int .i64 1) W := fun W => hr 0 (by decide) W
    clear hr hu hc
    show Calls Try.prog 47 #[.int .i64 0] w _
    go_enter Try.func47, Try.ntmps47
    go_wp2
    go_ret
    exact ⟨rfl, by first | exact Below.refl _ _ | exact (Below.refl _ _).drew | exact hb⟩
  | 1, _ =>
    have h0 : ∀ W : World, (Instr.index 89 (.agg #[.int .i64 1, .int .i64 16, .int .i64 256, .int .i64 4096]) (.int .i64 1)).run Try.prog W = .ok (.int .i64 16) W := fun W => hr 1 (by decide) W
    clear hr hu hc
    show Calls Try.prog 47 #[.int .i64 1] w _
    go_enter Try.func47, Try.ntmps47
    go_wp2
    go_ret
    exact ⟨rfl, by first | exact Below.refl _ _ | exact (Below.refl _ _).drew | exact hb⟩
  | 2, _ =>
    have h0 : ∀ W : World, (Instr.index 89 (.agg #[.int .i64 1, .int .i64 16, .int .i64 256, .int .i64 4096]) (.int .i64 2)).run Try.prog W = .ok (.int .i64 256) W := fun W => hr 2 (by decide) W
    clear hr hu hc
    show Calls Try.prog 47 #[.int .i64 2] w _
    go_enter Try.func47, Try.ntmps47
    go_wp2
    go_ret
    exact ⟨rfl, by first | exact Below.refl _ _ | exact (Below.refl _ _).drew | exact hb⟩
theorem below_zero : BelC 0 := by
  intro f r ms ss am as_ nm ns cm cs_ w h1 h2 h3 h4 h5 h6 h7 h8 h9 h10
  clear h1 h2 h3 h4 h5 h6 h7 h8 h9 h10
  have hb := sup_below w (.cells #[.int .i64 r, .slice am nm cm, .slice as_ ns cs_] PTH)
  go_enter Try.func45, Try.ntmps45
  go_wp2
  go_ret
  exact ⟨_, [], rfl, ⟨rfl, .inl ⟨rfl, rfl⟩⟩, rfl, hb⟩
/-- Behind region 8: the child's path. -/
structure BelQ (w : World) (lv : Nat) (f r : Int) (ms ss : List Int) (am as_ : Option Addr) (nm ns cm cs_ : Nat) (k : Nat) (v : Value) (g g9 c9 g16 c16 : Nat) (W : World) : Prop where
  s : BelS w lv f r ms ss am as_ nm ns cm cs_ k v W
  q : Blo W g PTH #[.int .i64 r, .slice (some ⟨g9, 0, none⟩) (ms.length + 1) c9, .slice (some ⟨g16, 0, none⟩) (ss.length + 1) c16]
  i9 : IntB W (some ⟨g9, 0, none⟩) (ms ++ [(-f - (lv : Int))])
  i16 : IntB W (some ⟨g16, 0, none⟩) (ss ++ [(k : Int)])
section
variable {w wr W W' : World} {lv : Nat} {f r : Int} {ms ss : List Int} {am as_ : Option Addr} {nm ns cm cs_ k g g9 c9 g16 c16 : Nat} {v : Value}
theorem BelQ.later (h : BelQ w lv f r ms ss am as_ nm ns cm cs_ k v g g9 c9 g16 c16 W) (hb : Below W.heap.size W W') : BelQ w lv f r ms ss am as_ nm ns cm cs_ k v g g9 c9 g16 c16 W' := ⟨h.s.later hb, h.q.later hb, h.i9.later hb, h.i16.later hb⟩
theorem bel_q (h : BelS w lv f r ms ss am as_ nm ns cm cs_ k v wr) (hb : Below wr.heap.size wr W) (hg : Blo W g PTH zp8) (hge : wr.heap.size ≤ g)
    (r9 : W.ownsRow wr.heap.size INT 1 (.slice (some ⟨g9, 0, none⟩) (ms ++ [(-f - (lv : Int))]).length c9) (ms ++ [(-f - (lv : Int))]).length (cellsI (ms ++ [(-f - (lv : Int))])))
    (r16 : W.ownsRow wr.heap.size INT 1 (.slice (some ⟨g16, 0, none⟩) (ss ++ [(k : Int)]).length c16) (ss ++ [(k : Int)]).length (cellsI (ss ++ [(k : Int)]))) :
    BelQ w lv f r ms ss am as_ nm ns cm cs_ k v g g9 c9 g16 c16 (((W.setCell ⟨g, 0, none⟩ (.int .i64 r)).setCell ⟨g, 1, none⟩ (.slice (some ⟨g9, 0, none⟩) (ms.length + 1) c9)).setCell ⟨g, 2, none⟩ (.slice (some ⟨g16, 0, none⟩) (ss.length + 1) c16)) := by
  have b3 := ((hb.setCell (p := ⟨g, 0, none⟩) hge (.int .i64 r)).setCell (p := ⟨g, 1, none⟩) hge (.slice (some ⟨g9, 0, none⟩) (ms.length + 1) c9)).setCell (p := ⟨g, 2, none⟩) hge (.slice (some ⟨g16, 0, none⟩) (ss.length + 1) c16)
  have q1 := hg.put 0 (.int .i64 r)
  have q2 := q1.put 1 (.slice (some ⟨g9, 0, none⟩) (ms.length + 1) c9)
  have q3 := q2.put 2 (.slice (some ⟨g16, 0, none⟩) (ss.length + 1) c16)
  have x9 := own_far (own_far (own_far r9 (hg.row_apart r9 (by decide)) (p := ⟨g, 0, none⟩) (.int .i64 r)) (p := ⟨g, 1, none⟩) (hg.row_apart r9 (by decide)) (.slice (some ⟨g9, 0, none⟩) (ms.length + 1) c9)) (p := ⟨g, 2, none⟩) (hg.row_apart r9 (by decide)) (.slice (some ⟨g16, 0, none⟩) (ss.length + 1) c16)
  have x16 := own_far (own_far (own_far r16 (hg.row_apart r16 (by decide)) (p := ⟨g, 0, none⟩) (.int .i64 r)) (p := ⟨g, 1, none⟩) (hg.row_apart r16 (by decide)) (.slice (some ⟨g9, 0, none⟩) (ms.length + 1) c9)) (p := ⟨g, 2, none⟩) (hg.row_apart r16 (by decide)) (.slice (some ⟨g16, 0, none⟩) (ss.length + 1) c16)
  exact ⟨h.later b3, q3, IntB.own x9, IntB.own x16⟩
theorem own_nil {base : Nat} {e : TypeId} {size n cap : Nat} {a : Option Addr} {xs : List Value} (h : W.ownsRow base e size (.slice a n cap) n xs) : a = none → n = 0 ∧ cap = 0 := fun ha => by
  rcases h.2 with ⟨h1, h2⟩ | ⟨g, c, cur, h1, _⟩
  · cases h1; exact ⟨rfl, rfl⟩
  · cases h1; cases ha
theorem bel_app {v' : Value} {cs cs7 : List Value} {l : List Mt} (h : BelQ w lv f r ms ss am as_ nm ns cm cs_ k v g g9 c9 g16 c16 W) (ho : W.ownsRow w.heap.size MET 6 v (belK lv f r ms ss k).length cs) (hm : MtsC W (belK lv f r ms ss k) cs) (hl : MtsC W l cs7) (hl2 : l = belM lv (f + (k : Int) * widM lv) r (ms ++ [(-f - (lv : Int))]) (ss ++ [(k : Int)]))
    (hg : W.grownBy W' v.ownBlock) (hn : W'.ownsRow w.heap.size MET 6 v' ((belK lv f r ms ss k).length + l.length) (cs ++ cs7)) (hat : v'.ownBlock = v.ownBlock ∨ v'.ownBlock = some W.heap.size) : BelS w lv f r ms ss am as_ nm ns cm cs_ (k + 1) v' W' ∧ Blo W' g PTH #[.int .i64 r, .slice (some ⟨g9, 0, none⟩) (ms.length + 1) c9, .slice (some ⟨g16, 0, none⟩) (ss.length + 1) c16] := by
  subst hl2
  have him : ∀ a l, IntB W a l → IntB W' a l := fun a l hi => hi.grown hg ho (by decide)
  refine ⟨⟨⟨cs ++ cs7, ?_, ?_⟩, h.s.p.grown hg (h.s.p.row_apart ho (by decide)), h.s.m.grown hg (fun e => h.s.ap e.symm), h.s.b.grown hg h.s.b.size (fun q hq => (ho.lt q hq).1), ?_⟩, h.q.grown hg (h.q.row_apart ho (by decide))⟩
  · rw [belK_succ, List.length_append]; exact hn
  · rw [belK_succ]; exact (hm.imp him).append (hl.imp him)
  · have hm2 := h.s.m.lt
    rcases hat with e | e
    · rw [e]; exact h.s.ap
    · rw [e]
      intro e2
      have e3 := Option.some.inj e2
      omega
end
def R8 (N k : Int) (ms ss : List Int) : List (Nat × RowT) := [(2, ⟨[], 0, 0⟩), (5, ⟨ms, 0, 1⟩), (8, ⟨[N], 2, 0⟩), (9, ⟨ms ++ [N], 0, 2⟩), (10, ⟨[], 1, 0⟩), (13, ⟨ss, 1, 1⟩), (15, ⟨[k], 3, 0⟩), (16, ⟨ss ++ [k], 1, 2⟩)]
theorem keys8 (N k : Int) (ms ss : List Int) : keysB (R8 N k ms ss) := by
  intro x hx y hy e
  simp [R8] at hx hy
  rcases hx with rfl | rfl | rfl | rfl | rfl | rfl | rfl | rfl <;> rcases hy with rfl | rfl | rfl | rfl | rfl | rfl | rfl | rfl <;> first | rfl | (simp at e)
def T8 (hp : Nat) (N k r : Int) (am as_ : Option Addr) (nm ns cm cs_ : Nat) : List (Nat × Value) :=
  [(0, .pointer (some ⟨hp, 0, none⟩)), (1, .int .i64 r), (3, .pointer (some ⟨hp, 1, none⟩)), (4, .slice am nm cm), (6, .pointer (some ⟨hp + 1, 0, none⟩)), (7, .int .i64 N), (11, .pointer (some ⟨hp, 2, none⟩)), (12, .slice as_ ns cs_), (14, .int .i64 k)]
structure B8 (w0 : World) (hp : Nat) (N k r : Int) (ms ss : List Int) (am as_ : Option Addr) (nm ns cm cs_ : Nat) (D : Nat → Bool) (X : Nat → Value) (W : World) : Prop where
  ri : RI (R8 N k ms ss) w0 INT D X W
  dt : Det (T8 hp N k r am as_ nm ns cm cs_) D X
  e1 : D 9 = true → D 5 = true
  e2 : D 16 = true → D 13 = true
  e3 : D 17 = true → X 17 = .agg #[.int .i64 r, X 9, X 16] ∧ D 9 = true ∧ D 16 = true
  e4 : D 18 = true → ∃ g, X 18 = .pointer (some ⟨g, 0, none⟩) ∧ w0.heap.size ≤ g ∧ Blo W g PTH zp8
section
variable {w0 W W' : World} {hp : Nat} {N k r : Int} {ms ss : List Int} {am as_ : Option Addr} {nm ns cm cs_ : Nat} {D : Nat → Bool} {X : Nat → Value}
theorem B8.start : B8 w0 hp N k r ms ss am as_ nm ns cm cs_ (fun _ => false) X w0.drew :=
  ⟨RI.start (Below.refl _ _).drew, fun _ _ h => (by cases h), fun h => (by cases h), fun h => (by cases h), fun h => (by cases h), fun h => (by cases h)⟩
/-- What an operation leaves that is no row. -/
theorem B8.set (h : B8 w0 hp N k r ms ss am as_ nm ns cm cs_ D X W) (i : Nat) (v : Value) (hr : RI (R8 N k ms ss) w0 INT (updD D i) (updV X i v) W') (hv : ∀ x ∈ T8 hp N k r am as_ nm ns cm cs_, x.1 = i → x.2 = v)
    (h9 : i = 9 → D 5 = true) (h16 : i = 16 → D 13 = true) (hb9 : D i = false) (h17 : i = 17 → v = .agg #[.int .i64 r, X 9, X 16] ∧ D 9 = true ∧ D 16 = true) (h18 : i = 18 → ∃ g, v = .pointer (some ⟨g, 0, none⟩) ∧ w0.heap.size ≤ g ∧ Blo W' g PTH zp8)
    (hk : ∀ g, Blo W g PTH zp8 → Blo W' g PTH zp8) : B8 w0 hp N k r ms ss am as_ nm ns cm cs_ (updD D i) (updV X i v) W' := by
  have up : ∀ {j : Nat}, D j = true → updD D i j = true := fun {j} hj => by
    by_cases e : j = i
    · rw [e, updD_at]
    · rw [updD_ne D i e]; exact hj
  refine ⟨hr, h.dt.set i v hv, fun h1 => ?_, fun h1 => ?_, fun h1 => ?_, fun h1 => ?_⟩
  · rcases updD_of h1 with e | ⟨_, e⟩
    · exact up (h9 e.symm)
    · exact up (h.e1 e)
  · rcases updD_of h1 with e | ⟨_, e⟩
    · exact up (h16 e.symm)
    · exact up (h.e2 e)
  · rcases updD_of h1 with e | ⟨e0, e⟩
    · obtain ⟨a1, a2, a3⟩ := h17 e.symm
      subst e
      exact ⟨by rw [updV_at, updV_ne X 17 v (by decide), updV_ne X 17 v (by decide)]; exact a1, up a2, up a3⟩
    · obtain ⟨a1, a2, a3⟩ := h.e3 e
      refine ⟨?_, up a2, up a3⟩
      rw [updV_ne X i v e0, updV_ne X i v (fun e => by rw [← e, a2] at hb9; cases hb9), updV_ne X i v (fun e => by rw [← e, a3] at hb9; cases hb9)]
      exact a1
  · rcases updD_of h1 with e | ⟨e0, e⟩
    · subst e
      rw [updV_at]
      exact h18 rfl
    · rw [updV_ne X i v e0]
      obtain ⟨g, a1, a2, a3⟩ := h.e4 e
      exact ⟨g, a1, a2, hk g a3⟩
/-- An operation whose value is told. -/
theorem B8.tell (h : B8 w0 hp N k r ms ss am as_ nm ns cm cs_ D X W) (i : Nat) (v : Value) (hi : i ∈ [0, 1, 3, 4, 6, 7, 11, 12, 14]) (hD : D i = false) (hv : ∀ x ∈ T8 hp N k r am as_ nm ns cm cs_, x.1 = i → x.2 = v) : B8 w0 hp N k r ms ss am as_ nm ns cm cs_ (updD D i) (updV X i v) W := by
  have hne : i ≠ 9 ∧ i ≠ 16 ∧ i ≠ 17 ∧ i ≠ 18 ∧ ∀ x ∈ R8 N k ms ss, x.1 ≠ i := by
    simp at hi
    rcases hi with rfl | rfl | rfl | rfl | rfl | rfl | rfl | rfl | rfl <;> simp [R8]
  exact h.set i v (h.ri.still i v hne.2.2.2.2 (Below.refl _ _)) hv (fun e => absurd e hne.1) (fun e => absurd e hne.2.1) hD (fun e => absurd e hne.2.2.1) (fun e => absurd e hne.2.2.2.1) (fun _ h => h)
end
set_option maxRecDepth 100000 in
set_option maxHeartbeats 4000000 in
theorem below_succ (lv : Nat) (hlv : lv < 3) (H : BelC lv) : BelC (lv + 1) := by
  intro f r ms ss am as_ nm ns cm cs_ w hnm hns hm100 hs100 h0 hf him his hmn hsn
  rw [show (((lv + 1 : Nat) : Nat) : Int) = (lv : Int) + 1 by omega]
  have l0 : ¬ (lv : Int) + 1 = 0 := by omega
  have l0b : ((lv : Int) + 1 == 0) = false := by simpa using l0
  have l1 : (0 : Int) ≤ (lv : Int) := by omega
  have l2 : (lv : Int) < 3 := by omega
  by_cases h6 : 600 ≤ f
  · rw [belM_no _ f r ms ss h6]
    have hb := sup_below w (.cells #[.int .i64 r, .slice am nm cm, .slice as_ ns cs_] PTH)
    clear hnm hns him his hmn hsn H hf
    go_enter Try.func45, Try.ntmps45
    go_wp2
    go_ret
    exact ⟨_, [], rfl, ⟨rfl, .inl ⟨rfl, rfl⟩⟩, rfl, hb⟩
  · have h6b : f < 600 := by omega
    rw [belM_all lv f r ms ss h6b]
    have HSt := Lib.hid (bel_start w lv f r ms ss am as_ nm ns cm cs_ hnm hns him his hmn hsn)
    have HLv := Lib.hid hlv
    have HNm := Lib.hid hnm
    have HNs := Lib.hid hns
    have HIm := Lib.hid him
    have HIs := Lib.hid his
    have HMn := Lib.hid hmn
    have HSn := Lib.hid hsn
    have HH := Lib.hid H
    have hsub : (lv : Int) + 1 - 1 = (lv : Int) := by omega
    clear hnm hns him his hmn hsn H l0 hlv h6 hf
    go_enter Try.func45, Try.ntmps45
    go_wp2_with fail
    go_loopw [8, 9] (fun v t wr => BelR w lv f r ms ss am as_ nm ns cm cs_ v t wr) (fun _ t _ => 16 - (intOf t).toNat)
    case atStart => exact ⟨0, by decide, rfl, HSt.out⟩
    case round =>
      clear HSt
      obtain ⟨k, hk, rfl, hS⟩ := hrel
      have k0 : (0 : Int) ≤ (k : Int) := by omega
      have HS := Lib.hid hS
      clear hS
      by_cases hlt : k < 16
      · have k1 : (k : Int) < 16 := by omega
        have HKn : Hid (k < 16) := hlt
        have p0 := HS.out.p.cell 0
        have p1 := HS.out.p.cell 1
        have p2 := HS.out.p.cell 2
        have m0 := HS.out.m.cell 0
        simp at p0 p1 p2 m0
        clear hlt hk
        go_upto_region 8 with fail
        have bm : ms.length + (lv + 1) < 100 := by have := HNm.out; omega
        have bs : ss.length + (lv + 1) < 100 := by have := HNs.out; omega
        refine wp_region_inv (n := 19) [(0, 32), (1, 33), (2, 34), (3, 35), (4, 36), (5, 37), (6, 38), (7, 39), (8, 40), (9, 41), (10, 42), (11, 43), (12, 44), (13, 45), (14, 46), (15, 47), (16, 48), (17, 49), (18, 10)] (B8 wr w.heap.size (-f - (lv : Int)) k r ms ss am as_ nm ns cm cs_) (by kernel_rfl) (by kernel_rfl) (by kernel_rfl) (fun X => by simp only [putL, Act.put, List.setIfInBounds_toArray, List.set_cons_zero, List.set_cons_succ]; rfl) (fun X => B8.start) ?_ ?_
        · show StepsI _ _ _ _ _ 0 [_, _, _, _, _, _, _, _, _, _, _, _, _, _, _, _, _, _, _]
          refine ⟨fun D X W hD hd hI K hK => ?_, ?_⟩
          · exact step_of_run rfl (v := .pointer (some ⟨w.heap.size, 0, none⟩)) (w' := W) (by simp [go_sem, execOp]) (hK _ _ (hI.tell 0 _ (by simp) hD (by simp [T8])))
          refine ⟨fun D X W hD hd hI K hK => ?_, ?_⟩
          · have a0 := hI.dt (0, _) (by simp [T8]; rfl) (hd ⟨0, .data⟩ (by simp) rfl)
            have qW := cell_later hI.ri.b p0
            exact step_of_run rfl (v := .int .i64 r) (w' := W) (by simp [go_sem, execOp, a0, qW]) (hK _ _ (hI.tell 1 _ (by simp) hD (by simp [T8])))
          refine ⟨fun D X W hD hd hI K hK => ?_, ?_⟩
          · refine step_of_run rfl (v := .slice (some ⟨W.heap.size, 0, none⟩) 0 0) (w' := W.alloc (.cells #[] INT)) (by simp [go_sem, execOp]) (hK _ _ ?_)
            exact hI.set 2 _ (hI.ri.fresh (keys8 _ _ _ _) 2 _ ⟨[], 0, 0⟩ (by simp [R8]) (sup_below W _) rfl (by simp) ⟨rfl, .inr ⟨W.heap.size, 0, #[], rfl, hI.ri.b.size, heap_alloc_new W _, Nat.le_refl _, by decide, rfl, rfl⟩⟩) (by simp [T8]) (fun e => absurd e (by decide)) (fun e => absurd e (by decide)) hD (fun e => absurd e (by decide)) (fun e => absurd e (by decide)) (fun g hb => hb.later (sup_below W _))
          refine ⟨fun D X W hD hd hI K hK => ?_, ?_⟩
          · exact step_of_run rfl (v := .pointer (some ⟨w.heap.size, 1, none⟩)) (w' := W) (by simp [go_sem, execOp]) (hK _ _ (hI.tell 3 _ (by simp) hD (by simp [T8])))
          refine ⟨fun D X W hD hd hI K hK => ?_, ?_⟩
          · have a3 := hI.dt (3, _) (by simp [T8]; rfl) (hd ⟨3, .data⟩ (by simp) rfl)
            have qW := cell_later hI.ri.b p1
            exact step_of_run rfl (v := .slice am nm cm) (w' := W) (by simp [go_sem, execOp, a3, qW]) (hK _ _ (hI.tell 4 _ (by simp) hD (by simp [T8])))
          refine ⟨fun D X W hD hd hI K hK => ?_, ?_⟩
          · have hL : D 9 = false := by cases hh : D 9 with
              | false => rfl
              | true => have := hI.e1 hh; rw [hD] at this; cases this
            have dp : D 2 = true := hd ⟨2, .data⟩ (by simp) rfl
            have r2 := hI.ri.rows (2, ⟨[], 0, 0⟩) (by simp [R8]) (hd ⟨2, .data⟩ (by simp) rfl) (by intro y hy e1 e2; simp [R8] at hy; rcases hy with rfl | rfl | rfl | rfl | rfl | rfl | rfl | rfl <;> first | exact hD | exact hL | (exfalso; simp at e1; done) | (exfalso; simp at e2; done) | fail)
            have a4 := hI.dt (4, _) (by simp [T8]; rfl) (hd ⟨4, .data⟩ (by simp) rfl)
            obtain ⟨xa, xn, xc, hxe, hxl, hxi, hxn⟩ : ∃ xa xn xc, X 4 = .slice xa xn xc ∧ xn = ms.length ∧ Ints W xa ms ∧ (xa = none → xn = 0 ∧ xc = 0) := ⟨am, nm, cm, a4, HNm.out, HIm.out.ints.below (HS.out.b.trans (hI.ri.b.mono HS.out.b.size)), HMn.out⟩
            refine step_append_ints rfl (.tmp 34) (.tmp 36) 23 rfl wr.heap.size INT Try.underlying23 info_int (X 2) [] rfl r2 xa xn xc ms hxl hxe hxi hxn (by rw [hxl]; simp only [List.length_cons, List.length_nil, List.length_append]; omega) hI.ri.b.size (fun v' W' ho hg hat => hK _ _ ?_)
            exact hI.set 5 v' (hI.ri.append (keys8 _ _ _ _) 5 2 v' ⟨ms, 0, 1⟩ ⟨[], 0, 0⟩ (by simp [R8]) (by simp [R8]) rfl dp (by intro y hy e1 e2; simp [R8] at hy; rcases hy with rfl | rfl | rfl | rfl | rfl | rfl | rfl | rfl <;> first | (exfalso; simp at e2; done) | (refine .inl ?_; simp; done) | exact .inr hL | (exfalso; simp at e1; done) | fail) hg hat (by simpa using ho)) (by simp [T8]) (fun e => absurd e (by decide)) (fun e => absurd e (by decide)) hD (fun e => absurd e (by decide)) (fun e => absurd e (by decide)) (fun g hb => hb.grown hg (hb.row_apart r2 (by decide)))
          refine ⟨fun D X W hD hd hI K hK => ?_, ?_⟩
          · exact step_of_run rfl (v := .pointer (some ⟨w.heap.size + 1, 0, none⟩)) (w' := W) (by simp [go_sem, execOp]) (hK _ _ (hI.tell 6 _ (by simp) hD (by simp [T8])))
          refine ⟨fun D X W hD hd hI K hK => ?_, ?_⟩
          · have a6 := hI.dt (6, _) (by simp [T8]; rfl) (hd ⟨6, .data⟩ (by simp) rfl)
            have qW := cell_later hI.ri.b m0
            exact step_of_run rfl (v := .int .i64 (-f - (lv : Int))) (w' := W) (by simp [go_sem, execOp, a6, qW]) (hK _ _ (hI.tell 7 _ (by simp) hD (by simp [T8])))
          refine ⟨fun D X W hD hd hI K hK => ?_, ?_⟩
          · have a7 := hI.dt (7, _) (by simp [T8]; rfl) (hd ⟨7, .data⟩ (by simp) rfl)
            refine step_of_run rfl (v := .slice (some ⟨W.heap.size, 0, none⟩) 1 1) (w' := W.alloc (.cells #[.int .i64 (-f - (lv : Int))] INT)) (by simp [go_sem, execOp, a7]) (hK _ _ ?_)
            exact hI.set 8 _ (hI.ri.fresh (keys8 _ _ _ _) 8 _ ⟨[(-f - (lv : Int))], 2, 0⟩ (by simp [R8]) (sup_below W _) rfl (by simp) ⟨rfl, .inr ⟨W.heap.size, 1, #[.int .i64 (-f - (lv : Int))], rfl, hI.ri.b.size, heap_alloc_new W _, Nat.le_refl _, by decide, rfl, rfl⟩⟩) (by simp [T8]) (fun e => absurd e (by decide)) (fun e => absurd e (by decide)) hD (fun e => absurd e (by decide)) (fun e => absurd e (by decide)) (fun g hb => hb.later (sup_below W _))
          refine ⟨fun D X W hD hd hI K hK => ?_, ?_⟩
          · have hL := hD
            have dp : D 5 = true := hd ⟨5, .data⟩ (by simp) rfl
            have r5 := hI.ri.rows (5, ⟨ms, 0, 1⟩) (by simp [R8]) (hd ⟨5, .data⟩ (by simp) rfl) (by intro y hy e1 e2; simp [R8] at hy; rcases hy with rfl | rfl | rfl | rfl | rfl | rfl | rfl | rfl <;> first | exact hD | exact hL | (exfalso; simp at e1; done) | (exfalso; simp at e2; done) | fail)
            have rq := hI.ri.rows (8, ⟨[(-f - (lv : Int))], 2, 0⟩) (by simp [R8]) (hd ⟨8, .data⟩ (by simp) rfl) (by intro y hy e1 e2; simp [R8] at hy; rcases hy with rfl | rfl | rfl | rfl | rfl | rfl | rfl | rfl <;> first | (exfalso; simp at e1; done) | (exfalso; simp at e2; done) | fail)
            obtain ⟨xg, xc, hxe, _, _⟩ := rq.form (by simp)
            obtain ⟨xa, xn, hxe, hxl, hxi, hxn⟩ : ∃ xa xn, X 8 = .slice xa xn xc ∧ xn = [(-f - (lv : Int))].length ∧ Ints W xa [(-f - (lv : Int))] ∧ (xa = none → xn = 0 ∧ xc = 0) := ⟨_, _, hxe, rfl, Ints.own (by rw [hxe] at rq; exact rq), fun e => by cases e⟩
            refine step_append_ints rfl (.tmp 37) (.tmp 40) 23 rfl wr.heap.size INT Try.underlying23 info_int (X 5) ms rfl r5 xa xn xc [(-f - (lv : Int))] hxl hxe hxi hxn (by rw [hxl]; simp only [List.length_cons, List.length_nil, List.length_append]; omega) hI.ri.b.size (fun v' W' ho hg hat => hK _ _ ?_)
            exact hI.set 9 v' (hI.ri.append (keys8 _ _ _ _) 9 5 v' ⟨ms ++ [(-f - (lv : Int))], 0, 2⟩ ⟨ms, 0, 1⟩ (by simp [R8]) (by simp [R8]) rfl dp (by intro y hy e1 e2; simp [R8] at hy; rcases hy with rfl | rfl | rfl | rfl | rfl | rfl | rfl | rfl <;> first | (exfalso; simp at e2; done) | (refine .inl ?_; simp; done) | exact .inr hL | (exfalso; simp at e1; done) | fail) hg hat (by simpa using ho)) (by simp [T8]) (fun _ => dp) (fun e => absurd e (by decide)) hD (fun e => absurd e (by decide)) (fun e => absurd e (by decide)) (fun g hb => hb.grown hg (hb.row_apart r5 (by decide)))
          refine ⟨fun D X W hD hd hI K hK => ?_, ?_⟩
          · refine step_of_run rfl (v := .slice (some ⟨W.heap.size, 0, none⟩) 0 0) (w' := W.alloc (.cells #[] INT)) (by simp [go_sem, execOp]) (hK _ _ ?_)
            exact hI.set 10 _ (hI.ri.fresh (keys8 _ _ _ _) 10 _ ⟨[], 1, 0⟩ (by simp [R8]) (sup_below W _) rfl (by simp) ⟨rfl, .inr ⟨W.heap.size, 0, #[], rfl, hI.ri.b.size, heap_alloc_new W _, Nat.le_refl _, by decide, rfl, rfl⟩⟩) (by simp [T8]) (fun e => absurd e (by decide)) (fun e => absurd e (by decide)) hD (fun e => absurd e (by decide)) (fun e => absurd e (by decide)) (fun g hb => hb.later (sup_below W _))
          refine ⟨fun D X W hD hd hI K hK => ?_, ?_⟩
          · exact step_of_run rfl (v := .pointer (some ⟨w.heap.size, 2, none⟩)) (w' := W) (by simp [go_sem, execOp]) (hK _ _ (hI.tell 11 _ (by simp) hD (by simp [T8])))
          refine ⟨fun D X W hD hd hI K hK => ?_, ?_⟩
          · have a11 := hI.dt (11, _) (by simp [T8]; rfl) (hd ⟨11, .data⟩ (by simp) rfl)
            have qW := cell_later hI.ri.b p2
            exact step_of_run rfl (v := .slice as_ ns cs_) (w' := W) (by simp [go_sem, execOp, a11, qW]) (hK _ _ (hI.tell 12 _ (by simp) hD (by simp [T8])))
          refine ⟨fun D X W hD hd hI K hK => ?_, ?_⟩
          · have hL : D 16 = false := by cases hh : D 16 with
              | false => rfl
              | true => have := hI.e2 hh; rw [hD] at this; cases this
            have dp : D 10 = true := hd ⟨10, .data⟩ (by simp) rfl
            have r10 := hI.ri.rows (10, ⟨[], 1, 0⟩) (by simp [R8]) (hd ⟨10, .data⟩ (by simp) rfl) (by intro y hy e1 e2; simp [R8] at hy; rcases hy with rfl | rfl | rfl | rfl | rfl | rfl | rfl | rfl <;> first | exact hD | exact hL | (exfalso; simp at e1; done) | (exfalso; simp at e2; done) | fail)
            have a12 := hI.dt (12, _) (by simp [T8]; rfl) (hd ⟨12, .data⟩ (by simp) rfl)
            obtain ⟨xa, xn, xc, hxe, hxl, hxi, hxn⟩ : ∃ xa xn xc, X 12 = .slice xa xn xc ∧ xn = ss.length ∧ Ints W xa ss ∧ (xa = none → xn = 0 ∧ xc = 0) := ⟨as_, ns, cs_, a12, HNs.out, HIs.out.ints.below (HS.out.b.trans (hI.ri.b.mono HS.out.b.size)), HSn.out⟩
            refine step_append_ints rfl (.tmp 42) (.tmp 44) 23 rfl wr.heap.size INT Try.underlying23 info_int (X 10) [] rfl r10 xa xn xc ss hxl hxe hxi hxn (by rw [hxl]; simp only [List.length_cons, List.length_nil, List.length_append]; omega) hI.ri.b.size (fun v' W' ho hg hat => hK _ _ ?_)
            exact hI.set 13 v' (hI.ri.append (keys8 _ _ _ _) 13 10 v' ⟨ss, 1, 1⟩ ⟨[], 1, 0⟩ (by simp [R8]) (by simp [R8]) rfl dp (by intro y hy e1 e2; simp [R8] at hy; rcases hy with rfl | rfl | rfl | rfl | rfl | rfl | rfl | rfl <;> first | (exfalso; simp at e2; done) | (refine .inl ?_; simp; done) | exact .inr hL | (exfalso; simp at e1; done) | fail) hg hat (by simpa using ho)) (by simp [T8]) (fun e => absurd e (by decide)) (fun e => absurd e (by decide)) hD (fun e => absurd e (by decide)) (fun e => absurd e (by decide)) (fun g hb => hb.grown hg (hb.row_apart r10 (by decide)))
          refine ⟨fun D X W hD hd hI K hK => ?_, ?_⟩
          · exact step_of_run rfl (v := .int .i64 (k : Int)) (w' := W) (by simp [go_sem, execOp]) (hK _ _ (hI.tell 14 _ (by simp) hD (by simp [T8])))
          refine ⟨fun D X W hD hd hI K hK => ?_, ?_⟩
          · have a14 := hI.dt (14, _) (by simp [T8]; rfl) (hd ⟨14, .data⟩ (by simp) rfl)
            refine step_of_run rfl (v := .slice (some ⟨W.heap.size, 0, none⟩) 1 1) (w' := W.alloc (.cells #[.int .i64 (k : Int)] INT)) (by simp [go_sem, execOp, a14]) (hK _ _ ?_)
            exact hI.set 15 _ (hI.ri.fresh (keys8 _ _ _ _) 15 _ ⟨[(k : Int)], 3, 0⟩ (by simp [R8]) (sup_below W _) rfl (by simp) ⟨rfl, .inr ⟨W.heap.size, 1, #[.int .i64 (k : Int)], rfl, hI.ri.b.size, heap_alloc_new W _, Nat.le_refl _, by decide, rfl, rfl⟩⟩) (by simp [T8]) (fun e => absurd e (by decide)) (fun e => absurd e (by decide)) hD (fun e => absurd e (by decide)) (fun e => absurd e (by decide)) (fun g hb => hb.later (sup_below W _))
          refine ⟨fun D X W hD hd hI K hK => ?_, ?_⟩
          · have hL := hD
            have dp : D 13 = true := hd ⟨13, .data⟩ (by simp) rfl
            have r13 := hI.ri.rows (13, ⟨ss, 1, 1⟩) (by simp [R8]) (hd ⟨13, .data⟩ (by simp) rfl) (by intro y hy e1 e2; simp [R8] at hy; rcases hy with rfl | rfl | rfl | rfl | rfl | rfl | rfl | rfl <;> first | exact hD | exact hL | (exfalso; simp at e1; done) | (exfalso; simp at e2; done) | fail)
            have rq := hI.ri.rows (15, ⟨[(k : Int)], 3, 0⟩) (by simp [R8]) (hd ⟨15, .data⟩ (by simp) rfl) (by intro y hy e1 e2; simp [R8] at hy; rcases hy with rfl | rfl | rfl | rfl | rfl | rfl | rfl | rfl <;> first | (exfalso; simp at e1; done) | (exfalso; simp at e2; done) | fail)
            obtain ⟨xg, xc, hxe, _, _⟩ := rq.form (by simp)
            obtain ⟨xa, xn, hxe, hxl, hxi, hxn⟩ : ∃ xa xn, X 15 = .slice xa xn xc ∧ xn = [(k : Int)].length ∧ Ints W xa [(k : Int)] ∧ (xa = none → xn = 0 ∧ xc = 0) := ⟨_, _, hxe, rfl, Ints.own (by rw [hxe] at rq; exact rq), fun e => by cases e⟩
            refine step_append_ints rfl (.tmp 45) (.tmp 47) 23 rfl wr.heap.size INT Try.underlying23 info_int (X 13) ss rfl r13 xa xn xc [(k : Int)] hxl hxe hxi hxn (by rw [hxl]; simp only [List.length_cons, List.length_nil, List.length_append]; omega) hI.ri.b.size (fun v' W' ho hg hat => hK _ _ ?_)
            exact hI.set 16 v' (hI.ri.append (keys8 _ _ _ _) 16 13 v' ⟨ss ++ [(k : Int)], 1, 2⟩ ⟨ss, 1, 1⟩ (by simp [R8]) (by simp [R8]) rfl dp (by intro y hy e1 e2; simp [R8] at hy; rcases hy with rfl | rfl | rfl | rfl | rfl | rfl | rfl | rfl <;> first | (exfalso; simp at e2; done) | (refine .inl ?_; simp; done) | exact .inr hL | (exfalso; simp at e1; done) | fail) hg hat (by simpa using ho)) (by simp [T8]) (fun e => absurd e (by decide)) (fun _ => dp) hD (fun e => absurd e (by decide)) (fun e => absurd e (by decide)) (fun g hb => hb.grown hg (hb.row_apart r13 (by decide)))
          refine ⟨fun D X W hD hd hI K hK => ?_, ?_⟩
          · have hL := hD
            have a1 := hI.dt (1, _) (by simp [T8]; rfl) (hd ⟨1, .data⟩ (by simp) rfl)
            have d9 : D 9 = true := hd ⟨9, .data⟩ (by simp) rfl
            have d16 : D 16 = true := hd ⟨16, .data⟩ (by simp) rfl
            have r9 := hI.ri.rows (9, ⟨ms ++ [(-f - (lv : Int))], 0, 2⟩) (by simp [R8]) (hd ⟨9, .data⟩ (by simp) rfl) (by intro y hy e1 e2; simp [R8] at hy; rcases hy with rfl | rfl | rfl | rfl | rfl | rfl | rfl | rfl <;> first | exact hD | exact hL | (exfalso; simp at e1; done) | (exfalso; simp at e2; done) | fail)
            have r16 := hI.ri.rows (16, ⟨ss ++ [(k : Int)], 1, 2⟩) (by simp [R8]) (hd ⟨16, .data⟩ (by simp) rfl) (by intro y hy e1 e2; simp [R8] at hy; rcases hy with rfl | rfl | rfl | rfl | rfl | rfl | rfl | rfl <;> first | exact hD | exact hL | (exfalso; simp at e1; done) | (exfalso; simp at e2; done) | fail)
            obtain ⟨a9, c9, h9, _⟩ := own_slice r9
            obtain ⟨a16, c16, h16, _⟩ := own_slice r16
            exact step_of_run rfl (v := .agg #[.int .i64 r, X 9, X 16]) (w' := W) (by simp [go_sem, execOp, a1, h9, h16]) (hK _ _ (hI.set 17 _ (hI.ri.still 17 _ (by simp [R8]) (Below.refl _ _)) (by simp [T8]) (fun e => absurd e (by decide)) (fun e => absurd e (by decide)) hD (fun _ => ⟨rfl, d9, d16⟩) (fun e => absurd e (by decide)) (fun _ h => h)))
          refine ⟨fun D X W hD hd hI K hK => ?_, ?_⟩
          · refine step_of_run rfl (v := .pointer (some ⟨W.heap.size, 0, none⟩)) (w' := W.alloc (.cells zp8 PTH)) (by simp [go_sem, execOp]) (hK _ _ ?_)
            exact hI.set 18 _ (hI.ri.still 18 _ (by simp [R8]) (sup_below W _)) (by simp [T8]) (fun e => absurd e (by decide)) (fun e => absurd e (by decide)) hD (fun e => absurd e (by decide)) (fun _ => ⟨_, rfl, hI.ri.b.size, blo_laid W PTH zp8⟩) (fun g hb => hb.later (sup_below W _))
          exact True.intro
        · intro D X W hD hI
          have r9 := hI.ri.rows (9, ⟨ms ++ [(-f - (lv : Int))], 0, 2⟩) (by simp [R8]) (hD 9 (by decide)) (by intro y hy e1 e2; simp [R8] at hy; rcases hy with rfl | rfl | rfl | rfl | rfl | rfl | rfl | rfl <;> first | (exfalso; simp at e1; done) | (exfalso; simp at e2; done) | fail)
          have r16 := hI.ri.rows (16, ⟨ss ++ [(k : Int)], 1, 2⟩) (by simp [R8]) (hD 16 (by decide)) (by intro y hy e1 e2; simp [R8] at hy; rcases hy with rfl | rfl | rfl | rfl | rfl | rfl | rfl | rfl <;> first | (exfalso; simp at e1; done) | (exfalso; simp at e2; done) | fail)
          obtain ⟨g9, c9, h9, _, _⟩ := r9.form (by simp)
          obtain ⟨g16, c16, h16, _, _⟩ := r16.form (by simp)
          obtain ⟨g, x18, hg, hb⟩ := hI.e4 (hD 18 (by decide))
          obtain ⟨x17, _, _⟩ := hI.e3 (hD 17 (by decide))
          rw [h9, h16] at x17
          have H5 := Lib.hid (bel_q HS.out hI.ri.b hb hg (by rw [← h9]; exact r9) (by rw [← h16]; exact r16))
          have z0 := hb.cell 0
          have z1 := hb.cell 1
          have z2 := hb.cell 2
          have f0 := hb.frozen 0
          have f1 := hb.frozen 1
          have f2 := hb.frozen 2
          simp [zp8] at z0 z1 z2
          clear hI r9 r16 hb hD hg p0 p1 p2 m0
          simp only [List.drop_succ_cons, List.drop_zero]
          rw [x18, x17]
          clear x18 x17 h9 h16
          go_upto_region 9 with fail
          clear z0 z1 z2 f0 f1 f2
          generalize (((W.setCell ⟨g, 0, none⟩ (.int .i64 r)).setCell ⟨g, 1, none⟩ (.slice (some ⟨g9, 0, none⟩) (ms.length + 1) c9)).setCell ⟨g, 2, none⟩ (.slice (some ⟨g16, 0, none⟩) (ss.length + 1) c16)) = w5 at *
          have hw1 := widM_bd lv HLv.out
          have hpr : 0 ≤ (k : Int) * widM lv ∧ (k : Int) * widM lv ≤ 15 * 256 := ⟨Int.mul_nonneg k0 (by omega), Int.mul_le_mul (by omega) hw1.2 (by omega) (by omega)⟩
          obtain ⟨hpr1, hpr2⟩ := hpr
          have hwl : IntKind.i64.wrap (lv : Int) = (lv : Int) := IntWalk.i64_in _ (by omega)
          have hwp : IntKind.i64.wrap ((k : Int) * widM lv) = (k : Int) * widM lv := IntWalk.i64_in _ (by omega)
          have hws : IntKind.i64.wrap (f + (k : Int) * widM lv) = f + (k : Int) * widM lv := IntWalk.i64_in _ (by omega)
          have HWd := Lib.hid (width_any lv HLv.out)
          have hlen1 : (belK lv f r ms ss k).length ≤ 300 := by
            have h1 := belK_len lv f r ms ss (capM lv) (fun f r ms ss => belM_len lv f r ms ss) k
            have h2 := capM_bd lv HLv.out
            have h3 := Nat.mul_le_mul (Nat.le_of_lt HKn.out) h2
            omega
          have hlen2 : (belM lv (f + (k : Int) * widM lv) r (ms ++ [-f - (lv : Int)]) (ss ++ [(k : Int)])).length ≤ 17 := Nat.le_trans (belM_len _ _ _ _ _) (capM_bd lv HLv.out)
          have HBel := Lib.hid (fun W => HH.out (f + (k : Int) * widM lv) r (ms ++ [-f - (lv : Int)]) (ss ++ [(k : Int)]) (some ⟨g9, 0, none⟩) (some ⟨g16, 0, none⟩) (ms.length + 1) (ss.length + 1) c9 c16 W (by simp) (by simp) (by omega) (by omega) (by omega) (by omega))
          have HBel : Hid (∀ W, IntB W (some ⟨g9, 0, none⟩) (ms ++ [-f - (lv : Int)]) → IntB W (some ⟨g16, 0, none⟩) (ss ++ [(k : Int)]) → Calls Try.prog 45 #[.int .i64 (lv : Int), .int .i64 (f + (k : Int) * widM lv), .agg #[.int .i64 r, .slice (some ⟨g9, 0, none⟩) (ms.length + 1) c9, .slice (some ⟨g16, 0, none⟩) (ss.length + 1) c16]] W (BelO W (belM lv (f + (k : Int) * widM lv) r (ms ++ [-f - (lv : Int)]) (ss ++ [(k : Int)])))) :=
            fun W i1 i2 => HBel.out W i1 i2 (fun e => by cases e) (fun e => by cases e)
          generalize hl7 : belM lv (f + (k : Int) * widM lv) r (ms ++ [-f - (lv : Int)]) (ss ++ [(k : Int)]) = l7 at *
          have HL7 : Hid (l7 = belM lv (f + (k : Int) * widM lv) r (ms ++ [-f - (lv : Int)]) (ss ++ [(k : Int)])) := hl7.symm
          obtain ⟨z, hz, hz6⟩ := info_met
          have HZ := Lib.hid hz
          clear hl7 hz
          go_upto_region 9 with fail
          refine wp_region_held_drew (S := fun W => W.cell? ⟨g, 0, none⟩ = some (.int .i64 r) ∧ W.cell? ⟨g, 1, none⟩ = some (.slice (some ⟨g9, 0, none⟩) (ms.length + 1) c9) ∧ W.cell? ⟨g, 2, none⟩ = some (.slice (some ⟨g16, 0, none⟩) (ss.length + 1) c16)) (by kernel_rfl) ⟨(H5.out.later ((Below.refl _ _).drew)).q.cell 0, (H5.out.later ((Below.refl _ _).drew)).q.cell 1, (H5.out.later ((Below.refl _ _).drew)).q.cell 2⟩ (fun hHeld => ?_)
          refine wpAnyH_take (i := 0) (oi := ⟨some 50, _, _, _, _, _⟩) (v := ?_) rfl (by kernel_rfl) (by kernel_rfl) (by kernel_rfl) (fun _ _ _ h => h) (Or.inl ⟨by rfl, fun W hW => ?_⟩) (by assumption) ?_
          rotate_left
          · obtain ⟨q0, q1, q2⟩ := hW; go_simp; try with_reducible rfl
          simp only [Act.put, List.setIfInBounds_toArray, List.set_cons_zero, List.set_cons_succ]
          refine wpAnyH_take (i := 1) (oi := ⟨some 51, _, _, _, _, _⟩) (v := ?_) rfl (by kernel_rfl) (by kernel_rfl) (by kernel_rfl) (fun _ _ _ h => h) (Or.inl ⟨by rfl, fun W hW => ?_⟩) (by assumption) ?_
          rotate_left
          · obtain ⟨q0, q1, q2⟩ := hW; go_simp; try with_reducible rfl
          simp only [Act.put, List.setIfInBounds_toArray, List.set_cons_zero, List.set_cons_succ]
          refine wpAnyH_take (i := 2) (oi := ⟨some 52, _, _, _, _, _⟩) (v := ?_) rfl (by kernel_rfl) (by kernel_rfl) (by kernel_rfl) (fun _ _ _ h => h) (Or.inl ⟨by rfl, fun W hW => ?_⟩) (by assumption) ?_
          rotate_left
          · obtain ⟨q0, q1, q2⟩ := hW; go_simp; try with_reducible rfl
          simp only [Act.put, List.setIfInBounds_toArray, List.set_cons_zero, List.set_cons_succ]
          refine wpAnyH_take (i := 3) (oi := ⟨some 53, _, _, _, _, _⟩) (v := ?_) rfl (by kernel_rfl) (by kernel_rfl) (by kernel_rfl) (fun _ _ _ h => h) (Or.inl ⟨by rfl, fun W hW => ?_⟩) (by assumption) ?_
          rotate_left
          · obtain ⟨q0, q1, q2⟩ := hW; go_simp; try with_reducible rfl
          simp only [Act.put, List.setIfInBounds_toArray, List.set_cons_zero, List.set_cons_succ]
          refine wpAnyH_take (i := 4) (oi := ⟨some 54, _, _, _, _, _⟩) (v := ?_) rfl (by kernel_rfl) (by kernel_rfl) (by kernel_rfl) (fun _ _ _ h => h) (Or.inl ⟨by rfl, fun W hW => ?_⟩) (by assumption) ?_
          rotate_left
          · obtain ⟨q0, q1, q2⟩ := hW; go_simp; try with_reducible rfl
          simp only [Act.put, List.setIfInBounds_toArray, List.set_cons_zero, List.set_cons_succ]
          refine wpAnyH_take (i := 5) (oi := ⟨some 55, _, _, _, _, _⟩) (v := ?_) rfl (by kernel_rfl) (by kernel_rfl) (by kernel_rfl) (fun _ _ _ h => h) (Or.inl ⟨by rfl, fun W hW => ?_⟩) (by assumption) ?_
          rotate_left
          · obtain ⟨q0, q1, q2⟩ := hW; go_simp; try with_reducible rfl
          simp only [Act.put, List.setIfInBounds_toArray, List.set_cons_zero, List.set_cons_succ]
          refine wpAnyH_take (i := 6) (oi := ⟨some 56, _, _, _, _, _⟩) (v := ?_) rfl (by kernel_rfl) (by kernel_rfl) (by kernel_rfl) (fun _ _ _ h => h) (Or.inl ⟨by rfl, fun W hW => ?_⟩) (by assumption) ?_
          rotate_left
          · obtain ⟨q0, q1, q2⟩ := hW; go_simp; try with_reducible rfl
          simp only [Act.put, List.setIfInBounds_toArray, List.set_cons_zero, List.set_cons_succ]
          refine wpAnyH_take (i := 10) (oi := ⟨some 60, _, _, _, _, _⟩) (v := ?_) rfl (by kernel_rfl) (by kernel_rfl) (by kernel_rfl) (fun _ _ _ h => h) (Or.inl ⟨by rfl, fun W hW => ?_⟩) (by assumption) ?_
          rotate_left
          · obtain ⟨q0, q1, q2⟩ := hW; go_simp; try with_reducible rfl
          simp only [Act.put, List.setIfInBounds_toArray, List.set_cons_zero, List.set_cons_succ]
          refine wpAnyH_ready (rs := [7]) (by kernel_rfl) (by simp) ?_
          refine AllReadyH.cons (o := ⟨some 57, _, _, _, _, _⟩) rfl (fun K hK => ?_) AllReadyH.nil
          go_simp
          go_wp2_with (go_at_call 47; (refine (HWd.out _).mono ?_); rintro e w6 ⟨rfl, hb6⟩)
          have H6 := Lib.hid (H5.out.later (((Below.refl _ _).drew).trans hb6))
          clear hb6
          refine hK.out _ _ ⟨H6.out.q.cell 0, H6.out.q.cell 1, H6.out.q.cell 2⟩ (fun hHeld => ?_)
          clear hK K
          try simp only [Act.put, List.setIfInBounds_toArray, List.set_cons_zero, List.set_cons_succ]
          refine wpAnyH_take (i := 8) (oi := ⟨some 58, _, _, _, _, _⟩) (v := ?_) rfl (by kernel_rfl) (by kernel_rfl) (by kernel_rfl) (fun _ _ _ h => h) (Or.inl ⟨by rfl, fun W hW => ?_⟩) (by assumption) ?_
          rotate_left
          · obtain ⟨q0, q1, q2⟩ := hW; go_simp; try with_reducible rfl
          simp only [Act.put, List.setIfInBounds_toArray, List.set_cons_zero, List.set_cons_succ]
          refine wpAnyH_take (i := 9) (oi := ⟨some 59, _, _, _, _, _⟩) (v := ?_) rfl (by kernel_rfl) (by kernel_rfl) (by kernel_rfl) (fun _ _ _ h => h) (Or.inl ⟨by rfl, fun W hW => ?_⟩) (by assumption) ?_
          rotate_left
          · obtain ⟨q0, q1, q2⟩ := hW; go_simp; try with_reducible rfl
          simp only [Act.put, List.setIfInBounds_toArray, List.set_cons_zero, List.set_cons_succ]
          refine wpAnyH_ready (rs := [11]) (by kernel_rfl) (by simp) ?_
          refine AllReadyH.cons (o := ⟨some 61, _, _, _, _, _⟩) rfl (fun K hK => ?_) AllReadyH.nil
          go_simp
          go_wp2_with (go_at_call 45; (refine (HBel.out _ H6.out.i9 H6.out.i16).mono ?_); rintro e w7 ⟨v7, cs7, rfl, ho7, hm7, hb7⟩; obtain ⟨a7, c7, rfl, _⟩ := own_slice ho7)
          have H7 := Lib.hid (H6.out.later hb7)
          have HO7 := Lib.hid ho7
          have HM7 := Lib.hid hm7
          clear hb7 ho7 hm7
          refine hK.out _ _ ⟨H7.out.q.cell 0, H7.out.q.cell 1, H7.out.q.cell 2⟩ (fun hHeld => ?_)
          clear hK K
          try simp only [Act.put, List.setIfInBounds_toArray, List.set_cons_zero, List.set_cons_succ]
          refine wpAnyH_ready (rs := [12]) (by kernel_rfl) (by simp) ?_
          refine AllReadyH.cons (o := ⟨some 62, _, _, _, _, _⟩) rfl (fun K hK => ?_) AllReadyH.nil
          obtain ⟨cs, ho, hm⟩ := H7.out.s.o
          refine step_append_row rfl (.tmp 50) (.tmp 61) 74 rfl w.heap.size MET _ 6 80 Try.underlying74 HZ.out hz6 (by decide) (by decide) u8 _ cs rfl ho a7 _ c7 cs7 rfl HM7.out.len (Rds.own HO7.out).add HM7.out.one (own_nil HO7.out) (by omega) H7.out.s.b.size (fun v8 w8 ho8 hg8 hat8 => ?_)
          have H8 := Lib.hid (bel_app H7.out ho hm HM7.out HL7.out hg8 ho8 hat8)
          clear ho hm ho8 hg8 hat8
          refine hK.out _ _ ⟨H8.out.2.cell 0, H8.out.2.cell 1, H8.out.2.cell 2⟩ (fun hHeld => ?_)
          clear hK K
          try simp only [Act.put, List.setIfInBounds_toArray, List.set_cons_zero, List.set_cons_succ]
          refine wpAnyH_take (i := 13) (oi := ⟨some 8, _, _, _, _, _⟩) (v := ?_) rfl (by kernel_rfl) (by kernel_rfl) (by kernel_rfl) (fun _ _ _ h => h) (Or.inl ⟨by rfl, fun W hW => ?_⟩) (by assumption) ?_
          rotate_left
          · obtain ⟨q0, q1, q2⟩ := hW; go_simp; try with_reducible rfl
          simp only [Act.put, List.setIfInBounds_toArray, List.set_cons_zero, List.set_cons_succ]
          refine wpAnyH_done (by kernel_rfl) ?_ _
          go_wp2_with fail
          go_roundw
          case rel => exact ⟨k + 1, HKn.out, by simp, H8.out.1⟩
          case measure => simp [intOf]; have := HKn.out; omega
      · have k1 : ¬ (k : Int) < 16 := by omega
        obtain rfl : k = 16 := by omega
        have HO := Lib.hid HS.out.o
        have HB := Lib.hid HS.out.b
        clear HS
        go_wp2
        go_ret
        obtain ⟨cs, h1, h2⟩ := HO.out
        exact ⟨_, cs, rfl, h1, h2, HB.out⟩
end Go.Proofs.Ytkdjfhbdcfjnnaa
