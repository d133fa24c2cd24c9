/-
  SwFnBel · SwFnAll · SwFnFind · SwRChk · SwRdM · SwAt · SwRDm · SwFour: these texts in one.
-/
import Derived.Test.YtlkgaefabahkoaaDoorPk17
import Derived.Deep.CutBlock
import Derived.Deep.DeepCutAuto
import Derived.Test.YtlkgaefabahkoaaDoorPk02
import Derived.Test.YtlkgaefabahkoaaDoorPk05
/-
  The document's list of blocks of pointers: one level above another.
-/
namespace Go.Proofs.YtlkgaefabahkoaaDoor
open Go.RowKit

/-- What stands in below's loop. -/
structure BelS (w : World) (lv : Nat) (f r : Int) (ms ss : List Int) (am as_ : Option Addr) (nm ns cm cs_ : Nat) (k : Nat) (v : Value) (W : World) : Prop where
  o : ∃ cs, W.ownsRow w.heap.size MET 6 v (belK lv f r ms ss k).length cs ∧ MtsC W (belK lv f r ms ss k) cs
  p : Blo W w.heap.size PTH #[.int .i64 r, .slice am nm cm, .slice as_ ns cs_]
  m : Blo W (w.heap.size + 1) MET #[.int .i64 (-f - (lv : Int)), .int .i64 ((lv : Int) + 1), .int .i64 f, .int .i64 r, .slice am nm cm, .slice as_ ns cs_]
  b : Below w.heap.size w W
  ap : v.ownBlock ≠ some (w.heap.size + 1)
abbrev zp8 : Array Value := #[.int .i64 0, .slice none 0 0, .slice none 0 0]
def BelR (w : World) (lv : Nat) (f r : Int) (ms ss : List Int) (am as_ : Option Addr) (nm ns cm cs_ : Nat) (v t : Value) (W : World) : Prop :=
  ∃ k : Nat, k ≤ 16 ∧ t = .int .i64 k ∧ BelS w lv f r ms ss am as_ nm ns cm cs_ k v W
theorem BelS.later {w W W' : World} {lv : Nat} {f r : Int} {ms ss : List Int} {am as_ : Option Addr} {nm ns cm cs_ k : Nat} {v : Value} (h : BelS w lv f r ms ss am as_ nm ns cm cs_ k v W) (hb : Below W.heap.size W W') : BelS w lv f r ms ss am as_ nm ns cm cs_ k v W' := by
  obtain ⟨cs, h1, h2⟩ := h.o
  exact ⟨⟨cs, own_later h1 hb, h2.later hb⟩, h.p.later hb, h.m.later hb, h.b.trans (hb.mono h.b.size), h.ap⟩
theorem bel_start (w : World) (lv : Nat) (f r : Int) (ms ss : List Int) (am as_ : Option Addr) (nm ns cm cs_ : Nat) (hm : nm = ms.length) (hs : ns = ss.length) (h1 : IntB w am ms) (h2 : IntB w as_ ss) (h3 : am = none → nm = 0 ∧ cm = 0) (h4 : as_ = none → ns = 0 ∧ cs_ = 0) :
    BelS w lv f r ms ss am as_ nm ns cm cs_ 0 (.slice (some ⟨w.heap.size + 1 + 1, 0, none⟩) 1 1) (((w.alloc (.cells #[.int .i64 r, .slice am nm cm, .slice as_ ns cs_] PTH)).alloc (.cells #[.int .i64 (-f - (lv : Int)), .int .i64 ((lv : Int) + 1), .int .i64 f, .int .i64 r, .slice am nm cm, .slice as_ ns cs_] MET)).alloc (.cells #[.int .i64 (-f - (lv : Int)), .int .i64 ((lv : Int) + 1), .int .i64 f, .int .i64 r, .slice am nm cm, .slice as_ ns cs_] MET)) := by
  subst hm hs
  have b1 : Below w.heap.size w (w.alloc (.cells #[.int .i64 r, .slice am ms.length cm, .slice as_ ss.length cs_] PTH)) := (Below.refl _ _).alloc (Nat.le_refl _) _
  have b2 := b1.alloc b1.size (.cells #[.int .i64 (-f - (lv : Int)), .int .i64 ((lv : Int) + 1), .int .i64 f, .int .i64 r, .slice am ms.length cm, .slice as_ ss.length cs_] MET)
  have b3 := b2.alloc b2.size (.cells #[.int .i64 (-f - (lv : Int)), .int .i64 ((lv : Int) + 1), .int .i64 f, .int .i64 r, .slice am ms.length cm, .slice as_ ss.length cs_] MET)
  refine ⟨⟨[.int .i64 (-f - (lv : Int)), .int .i64 ((lv : Int) + 1), .int .i64 f, .int .i64 r, .slice am ms.length cm, .slice as_ ss.length cs_], ?_, ?_⟩, ((blo_laid w _ _).alloc _).alloc _, ?_, b3, by simp [Value.ownBlock]⟩
  · have := heap_alloc_new ((w.alloc (.cells #[.int .i64 r, .slice am ms.length cm, .slice as_ ss.length cs_] PTH)).alloc (.cells #[.int .i64 (-f - (lv : Int)), .int .i64 ((lv : Int) + 1), .int .i64 f, .int .i64 r, .slice am ms.length cm, .slice as_ ss.length cs_] MET)) (.cells #[.int .i64 (-f - (lv : Int)), .int .i64 ((lv : Int) + 1), .int .i64 f, .int .i64 r, .slice am ms.length cm, .slice as_ ss.length cs_] MET)
    refine ⟨by simp [belK], .inr ⟨_, 1, #[.int .i64 (-f - (lv : Int)), .int .i64 ((lv : Int) + 1), .int .i64 f, .int .i64 r, .slice am ms.length cm, .slice as_ ss.length cs_], rfl, by omega, by simpa using this, by simp [belK], by decide, by simp, by simp [belK]⟩⟩
  · refine ⟨_, [], rfl, ⟨am, cm, as_, cs_, rfl, h1.later b3, h2.later b3, h3, h4⟩, ?_⟩
    show _ = _
    simp
  · have := (blo_laid (w.alloc (.cells #[.int .i64 r, .slice am ms.length cm, .slice as_ ss.length cs_] PTH)) MET #[.int .i64 (-f - (lv : Int)), .int .i64 ((lv : Int) + 1), .int .i64 f, .int .i64 r, .slice am ms.length cm, .slice as_ ss.length cs_])
    rw [show (w.alloc (.cells #[.int .i64 r, .slice am ms.length cm, .slice as_ ss.length cs_] PTH)).heap.size = w.heap.size + 1 by simp] at this
    exact this.alloc _
theorem width_any (lv : Nat) (h : lv < 3) (w : World) : Calls Tryd.prog 104 #[.int .i64 (lv : Int)] w fun e w' => e = .returned (.int .i64 (widM lv)) ∧ Below w.heap.size w w' := by
  have hb := sup_below w (.cells #[.int .i64 1, .int .i64 16, .int .i64 256, .int .i64 4096] 57)
  have hu := Tryd.underlying57
  have hc : Tryd.prog.cellsOf 3 = 1 := by kernel_rfl
  have hr : ∀ (i : Nat) (hi : i < 4) (W : World), (Instr.index 57 (.agg #[.int .i64 1, .int .i64 16, .int .i64 256, .int .i64 4096]) (.int .i64 (i : Int))).run Tryd.prog W = .ok ((#[Value.int .i64 1, .int .i64 16, .int .i64 256, .int .i64 4096])[i]'hi) W := by
    intro i hi W
    have : i = 0 ∨ i = 1 ∨ i = 2 ∨ i = 3 := by omega
    rcases this with rfl | rfl | rfl | rfl <;> simp [go_sem, Instr.index, hu, hc]
  match lv, h with
  | 0, _ =>
    have h0 : ∀ W : World, (Instr.index 57 (.agg #[.int .i64 1, .int .i64 16, .int .i64 256, .int .i64 4096]) (.int .i64 0)).run Tryd.prog W = .ok (.int .i64 1) W := fun W => hr 0 (by decide) W
    clear hr hu hc
    show Calls Tryd.prog 104 #[.int .i64 0] w _
    go_enter Tryd.func104, Tryd.ntmps104
    go_wp2
    go_ret
    exact ⟨rfl, by first | exact Below.refl _ _ | exact (Below.refl _ _).drew | exact hb⟩
  | 1, _ =>
    have h0 : ∀ W : World, (Instr.index 57 (.agg #[.int .i64 1, .int .i64 16, .int .i64 256, .int .i64 4096]) (.int .i64 1)).run Tryd.prog W = .ok (.int .i64 16) W := fun W => hr 1 (by decide) W
    clear hr hu hc
    show Calls Tryd.prog 104 #[.int .i64 1] w _
    go_enter Tryd.func104, Tryd.ntmps104
    go_wp2
    go_ret
    exact ⟨rfl, by first | exact Below.refl _ _ | exact (Below.refl _ _).drew | exact hb⟩
  | 2, _ =>
    have h0 : ∀ W : World, (Instr.index 57 (.agg #[.int .i64 1, .int .i64 16, .int .i64 256, .int .i64 4096]) (.int .i64 2)).run Tryd.prog W = .ok (.int .i64 256) W := fun W => hr 2 (by decide) W
    clear hr hu hc
    show Calls Tryd.prog 104 #[.int .i64 2] w _
    go_enter Tryd.func104, Tryd.ntmps104
    go_wp2
    go_ret
    exact ⟨rfl, by first | exact Below.refl _ _ | exact (Below.refl _ _).drew | exact hb⟩
theorem below_zero : BelC 0 := by
  intro f r ms ss am as_ nm ns cm cs_ w h1 h2 h3 h4 h5 h6 h7 h8 h9 h10
  clear h1 h2 h3 h4 h5 h6 h7 h8 h9 h10
  have hb := sup_below w (.cells #[.int .i64 r, .slice am nm cm, .slice as_ ns cs_] PTH)
  go_enter Tryd.func102, Tryd.ntmps102
  go_wp2
  go_ret
  exact ⟨_, [], rfl, ⟨rfl, .inl ⟨rfl, rfl⟩⟩, rfl, hb⟩
/-- Behind region 8: the child's path. -/
structure BelQ (w : World) (lv : Nat) (f r : Int) (ms ss : List Int) (am as_ : Option Addr) (nm ns cm cs_ : Nat) (k : Nat) (v : Value) (g g9 c9 g16 c16 : Nat) (W : World) : Prop where
  s : BelS w lv f r ms ss am as_ nm ns cm cs_ k v W
  q : Blo W g PTH #[.int .i64 r, .slice (some ⟨g9, 0, none⟩) (ms.length + 1) c9, .slice (some ⟨g16, 0, none⟩) (ss.length + 1) c16]
  i9 : IntB W (some ⟨g9, 0, none⟩) (ms ++ [(-f - (lv : Int))])
  i16 : IntB W (some ⟨g16, 0, none⟩) (ss ++ [(k : Int)])
section
variable {w wr W W' : World} {lv : Nat} {f r : Int} {ms ss : List Int} {am as_ : Option Addr} {nm ns cm cs_ k g g9 c9 g16 c16 : Nat} {v : Value}
theorem BelQ.later (h : BelQ w lv f r ms ss am as_ nm ns cm cs_ k v g g9 c9 g16 c16 W) (hb : Below W.heap.size W W') : BelQ w lv f r ms ss am as_ nm ns cm cs_ k v g g9 c9 g16 c16 W' := ⟨h.s.later hb, h.q.later hb, h.i9.later hb, h.i16.later hb⟩
theorem bel_q (h : BelS w lv f r ms ss am as_ nm ns cm cs_ k v wr) (hb : Below wr.heap.size wr W) (hg : Blo W g PTH zp8) (hge : wr.heap.size ≤ g)
    (r9 : W.ownsRow wr.heap.size INT 1 (.slice (some ⟨g9, 0, none⟩) (ms ++ [(-f - (lv : Int))]).length c9) (ms ++ [(-f - (lv : Int))]).length (cellsI (ms ++ [(-f - (lv : Int))])))
    (r16 : W.ownsRow wr.heap.size INT 1 (.slice (some ⟨g16, 0, none⟩) (ss ++ [(k : Int)]).length c16) (ss ++ [(k : Int)]).length (cellsI (ss ++ [(k : Int)]))) :
    BelQ w lv f r ms ss am as_ nm ns cm cs_ k v g g9 c9 g16 c16 (((W.setCell ⟨g, 0, none⟩ (.int .i64 r)).setCell ⟨g, 1, none⟩ (.slice (some ⟨g9, 0, none⟩) (ms.length + 1) c9)).setCell ⟨g, 2, none⟩ (.slice (some ⟨g16, 0, none⟩) (ss.length + 1) c16)) := by
  have b3 := ((hb.setCell (p := ⟨g, 0, none⟩) hge (.int .i64 r)).setCell (p := ⟨g, 1, none⟩) hge (.slice (some ⟨g9, 0, none⟩) (ms.length + 1) c9)).setCell (p := ⟨g, 2, none⟩) hge (.slice (some ⟨g16, 0, none⟩) (ss.length + 1) c16)
  have q1 := hg.put 0 (.int .i64 r)
  have q2 := q1.put 1 (.slice (some ⟨g9, 0, none⟩) (ms.length + 1) c9)
  have q3 := q2.put 2 (.slice (some ⟨g16, 0, none⟩) (ss.length + 1) c16)
  have x9 := own_far (own_far (own_far r9 (hg.row_apart r9 (by decide)) (p := ⟨g, 0, none⟩) (.int .i64 r)) (p := ⟨g, 1, none⟩) (hg.row_apart r9 (by decide)) (.slice (some ⟨g9, 0, none⟩) (ms.length + 1) c9)) (p := ⟨g, 2, none⟩) (hg.row_apart r9 (by decide)) (.slice (some ⟨g16, 0, none⟩) (ss.length + 1) c16)
  have x16 := own_far (own_far (own_far r16 (hg.row_apart r16 (by decide)) (p := ⟨g, 0, none⟩) (.int .i64 r)) (p := ⟨g, 1, none⟩) (hg.row_apart r16 (by decide)) (.slice (some ⟨g9, 0, none⟩) (ms.length + 1) c9)) (p := ⟨g, 2, none⟩) (hg.row_apart r16 (by decide)) (.slice (some ⟨g16, 0, none⟩) (ss.length + 1) c16)
  exact ⟨h.later b3, q3, IntB.own x9, IntB.own x16⟩
theorem own_nil {base : Nat} {e : TypeId} {size n cap : Nat} {a : Option Addr} {xs : List Value} (h : W.ownsRow base e size (.slice a n cap) n xs) : a = none → n = 0 ∧ cap = 0 := fun ha => by
  rcases h.2 with ⟨h1, h2⟩ | ⟨g, c, cur, h1, _⟩
  · cases h1; exact ⟨rfl, rfl⟩
  · cases h1; cases ha
theorem bel_app {v' : Value} {cs cs7 : List Value} {l : List Mt} (h : BelQ w lv f r ms ss am as_ nm ns cm cs_ k v g g9 c9 g16 c16 W) (ho : W.ownsRow w.heap.size MET 6 v (belK lv f r ms ss k).length cs) (hm : MtsC W (belK lv f r ms ss k) cs) (hl : MtsC W l cs7) (hl2 : l = belM lv (f + (k : Int) * widM lv) r (ms ++ [(-f - (lv : Int))]) (ss ++ [(k : Int)]))
    (hg : W.grownBy W' v.ownBlock) (hn : W'.ownsRow w.heap.size MET 6 v' ((belK lv f r ms ss k).length + l.length) (cs ++ cs7)) (hat : v'.ownBlock = v.ownBlock ∨ v'.ownBlock = some W.heap.size) : BelS w lv f r ms ss am as_ nm ns cm cs_ (k + 1) v' W' ∧ Blo W' g PTH #[.int .i64 r, .slice (some ⟨g9, 0, none⟩) (ms.length + 1) c9, .slice (some ⟨g16, 0, none⟩) (ss.length + 1) c16] := by
  subst hl2
  have him : ∀ a l, IntB W a l → IntB W' a l := fun a l hi => hi.grown hg ho (by decide)
  refine ⟨⟨⟨cs ++ cs7, ?_, ?_⟩, h.s.p.grown hg (h.s.p.row_apart ho (by decide)), h.s.m.grown hg (fun e => h.s.ap e.symm), h.s.b.grown hg h.s.b.size (fun q hq => (ho.lt q hq).1), ?_⟩, h.q.grown hg (h.q.row_apart ho (by decide))⟩
  · rw [belK_succ, List.length_append]; exact hn
  · rw [belK_succ]; exact (hm.imp him).append (hl.imp him)
  · have hm2 := h.s.m.lt
    rcases hat with e | e
    · rw [e]; exact h.s.ap
    · rw [e]
      intro e2
      have e3 := Option.some.inj e2
      omega
end
def R8 (N k : Int) (ms ss : List Int) : List (Nat × RowT) := [(2, ⟨[], 0, 0⟩), (5, ⟨ms, 0, 1⟩), (8, ⟨[N], 2, 0⟩), (9, ⟨ms ++ [N], 0, 2⟩), (10, ⟨[], 1, 0⟩), (13, ⟨ss, 1, 1⟩), (15, ⟨[k], 3, 0⟩), (16, ⟨ss ++ [k], 1, 2⟩)]
theorem keys8 (N k : Int) (ms ss : List Int) : keysB (R8 N k ms ss) := by
  intro x hx y hy e
  simp [R8] at hx hy
  rcases hx with rfl | rfl | rfl | rfl | rfl | rfl | rfl | rfl <;> rcases hy with rfl | rfl | rfl | rfl | rfl | rfl | rfl | rfl <;> first | rfl | (simp at e)
def T8 (hp : Nat) (N k r : Int) (am as_ : Option Addr) (nm ns cm cs_ : Nat) : List (Nat × Value) :=
  [(0, .pointer (some ⟨hp, 0, none⟩)), (1, .int .i64 r), (3, .pointer (some ⟨hp, 1, none⟩)), (4, .slice am nm cm), (6, .pointer (some ⟨hp + 1, 0, none⟩)), (7, .int .i64 N), (11, .pointer (some ⟨hp, 2, none⟩)), (12, .slice as_ ns cs_), (14, .int .i64 k)]
structure B8 (w0 : World) (hp : Nat) (N k r : Int) (ms ss : List Int) (am as_ : Option Addr) (nm ns cm cs_ : Nat) (D : Nat → Bool) (X : Nat → Value) (W : World) : Prop where
  ri : RI (R8 N k ms ss) w0 INT D X W
  dt : Det (T8 hp N k r am as_ nm ns cm cs_) D X
  e1 : D 9 = true → D 5 = true
  e2 : D 16 = true → D 13 = true
  e3 : D 17 = true → X 17 = .agg #[.int .i64 r, X 9, X 16] ∧ D 9 = true ∧ D 16 = true
  e4 : D 18 = true → ∃ g, X 18 = .pointer (some ⟨g, 0, none⟩) ∧ w0.heap.size ≤ g ∧ Blo W g PTH zp8
section
variable {w0 W W' : World} {hp : Nat} {N k r : Int} {ms ss : List Int} {am as_ : Option Addr} {nm ns cm cs_ : Nat} {D : Nat → Bool} {X : Nat → Value}
theorem B8.start : B8 w0 hp N k r ms ss am as_ nm ns cm cs_ (fun _ => false) X w0.drew :=
  ⟨RI.start (Below.refl _ _).drew, fun _ _ h => (by cases h), fun h => (by cases h), fun h => (by cases h), fun h => (by cases h), fun h => (by cases h)⟩
/-- What an operation leaves that is no row. -/
theorem B8.set (h : B8 w0 hp N k r ms ss am as_ nm ns cm cs_ D X W) (i : Nat) (v : Value) (hr : RI (R8 N k ms ss) w0 INT (updD D i) (updV X i v) W') (hv : ∀ x ∈ T8 hp N k r am as_ nm ns cm cs_, x.1 = i → x.2 = v)
    (h9 : i = 9 → D 5 = true) (h16 : i = 16 → D 13 = true) (hb9 : D i = false) (h17 : i = 17 → v = .agg #[.int .i64 r, X 9, X 16] ∧ D 9 = true ∧ D 16 = true) (h18 : i = 18 → ∃ g, v = .pointer (some ⟨g, 0, none⟩) ∧ w0.heap.size ≤ g ∧ Blo W' g PTH zp8)
    (hk : ∀ g, Blo W g PTH zp8 → Blo W' g PTH zp8) : B8 w0 hp N k r ms ss am as_ nm ns cm cs_ (updD D i) (updV X i v) W' := by
  have up : ∀ {j : Nat}, D j = true → updD D i j = true := fun {j} hj => by
    by_cases e : j = i
    · rw [e, updD_at]
    · rw [updD_ne D i e]; exact hj
  refine ⟨hr, h.dt.set i v hv, fun h1 => ?_, fun h1 => ?_, fun h1 => ?_, fun h1 => ?_⟩
  · rcases updD_of h1 with e | ⟨_, e⟩
    · exact up (h9 e.symm)
    · exact up (h.e1 e)
  · rcases updD_of h1 with e | ⟨_, e⟩
    · exact up (h16 e.symm)
    · exact up (h.e2 e)
  · rcases updD_of h1 with e | ⟨e0, e⟩
    · obtain ⟨a1, a2, a3⟩ := h17 e.symm
      subst e
      exact ⟨by rw [updV_at, updV_ne X 17 v (by decide), updV_ne X 17 v (by decide)]; exact a1, up a2, up a3⟩
    · obtain ⟨a1, a2, a3⟩ := h.e3 e
      refine ⟨?_, up a2, up a3⟩
      rw [updV_ne X i v e0, updV_ne X i v (fun e => by rw [← e, a2] at hb9; cases hb9), updV_ne X i v (fun e => by rw [← e, a3] at hb9; cases hb9)]
      exact a1
  · rcases updD_of h1 with e | ⟨e0, e⟩
    · subst e
      rw [updV_at]
      exact h18 rfl
    · rw [updV_ne X i v e0]
      obtain ⟨g, a1, a2, a3⟩ := h.e4 e
      exact ⟨g, a1, a2, hk g a3⟩
/-- An operation whose value is told. -/
theorem B8.tell (h : B8 w0 hp N k r ms ss am as_ nm ns cm cs_ D X W) (i : Nat) (v : Value) (hi : i ∈ [0, 1, 3, 4, 6, 7, 11, 12, 14]) (hD : D i = false) (hv : ∀ x ∈ T8 hp N k r am as_ nm ns cm cs_, x.1 = i → x.2 = v) : B8 w0 hp N k r ms ss am as_ nm ns cm cs_ (updD D i) (updV X i v) W := by
  have hne : i ≠ 9 ∧ i ≠ 16 ∧ i ≠ 17 ∧ i ≠ 18 ∧ ∀ x ∈ R8 N k ms ss, x.1 ≠ i := by
    simp at hi
    rcases hi with rfl | rfl | rfl | rfl | rfl | rfl | rfl | rfl | rfl <;> simp [R8]
  exact h.set i v (h.ri.still i v hne.2.2.2.2 (Below.refl _ _)) hv (fun e => absurd e hne.1) (fun e => absurd e hne.2.1) hD (fun e => absurd e hne.2.2.1) (fun e => absurd e hne.2.2.2.1) (fun _ h => h)
end
set_option maxRecDepth 100000 in
set_option maxHeartbeats 4000000 in
theorem below_succ (lv : Nat) (hlv : lv < 3) (H : BelC lv) : BelC (lv + 1) := by
  intro f r ms ss am as_ nm ns cm cs_ w hnm hns hm100 hs100 h0 hf him his hmn hsn
  rw [show (((lv + 1 : Nat) : Nat) : Int) = (lv : Int) + 1 by omega]
  have l0 : ¬ (lv : Int) + 1 = 0 := by omega
  have l0b : ((lv : Int) + 1 == 0) = false := by simpa using l0
  have l1 : (0 : Int) ≤ (lv : Int) := by omega
  have l2 : (lv : Int) < 3 := by omega
  by_cases h6 : 600 ≤ f
  · rw [belM_no _ f r ms ss h6]
    have hb := sup_below w (.cells #[.int .i64 r, .slice am nm cm, .slice as_ ns cs_] PTH)
    clear hnm hns him his hmn hsn H hf
    go_enter Tryd.func102, Tryd.ntmps102
    go_wp2
    go_ret
    exact ⟨_, [], rfl, ⟨rfl, .inl ⟨rfl, rfl⟩⟩, rfl, hb⟩
  · have h6b : f < 600 := by omega
    rw [belM_all lv f r ms ss h6b]
    have HSt := Lib.hid (bel_start w lv f r ms ss am as_ nm ns cm cs_ hnm hns him his hmn hsn)
    have HLv := Lib.hid hlv
    have HNm := Lib.hid hnm
    have HNs := Lib.hid hns
    have HIm := Lib.hid him
    have HIs := Lib.hid his
    have HMn := Lib.hid hmn
    have HSn := Lib.hid hsn
    have HH := Lib.hid H
    have hsub : (lv : Int) + 1 - 1 = (lv : Int) := by omega
    clear hnm hns him his hmn hsn H l0 hlv h6 hf
    go_enter Tryd.func102, Tryd.ntmps102
    go_wp2_with fail
    go_loopw [8, 9] (fun v t wr => BelR w lv f r ms ss am as_ nm ns cm cs_ v t wr) (fun _ t _ => 16 - (intOf t).toNat)
    case atStart => exact ⟨0, by decide, rfl, HSt.out⟩
    case round =>
      clear HSt
      obtain ⟨k, hk, rfl, hS⟩ := hrel
      have k0 : (0 : Int) ≤ (k : Int) := by omega
      have HS := Lib.hid hS
      clear hS
      by_cases hlt : k < 16
      · have k1 : (k : Int) < 16 := by omega
        have HKn : Hid (k < 16) := hlt
        have p0 := HS.out.p.cell 0
        have p1 := HS.out.p.cell 1
        have p2 := HS.out.p.cell 2
        have m0 := HS.out.m.cell 0
        simp at p0 p1 p2 m0
        clear hlt hk
        go_upto_region 8 with fail
        have bm : ms.length + (lv + 1) < 100 := by have := HNm.out; omega
        have bs : ss.length + (lv + 1) < 100 := by have := HNs.out; omega
        refine wp_region_inv (n := 19) [(0, 32), (1, 33), (2, 34), (3, 35), (4, 36), (5, 37), (6, 38), (7, 39), (8, 40), (9, 41), (10, 42), (11, 43), (12, 44), (13, 45), (14, 46), (15, 47), (16, 48), (17, 49), (18, 10)] (B8 wr w.heap.size (-f - (lv : Int)) k r ms ss am as_ nm ns cm cs_) (by kernel_rfl) (by kernel_rfl) (by kernel_rfl) (fun X => by simp only [putL, Act.put, List.setIfInBounds_toArray, List.set_cons_zero, List.set_cons_succ]; rfl) (fun X => B8.start) ?_ ?_
        · show StepsI _ _ _ _ _ 0 [_, _, _, _, _, _, _, _, _, _, _, _, _, _, _, _, _, _, _]
          refine ⟨fun D X W hD hd hI K hK => ?_, ?_⟩
          · exact step_of_run rfl (v := .pointer (some ⟨w.heap.size, 0, none⟩)) (w' := W) (by simp [go_sem, execOp]) (hK _ _ (hI.tell 0 _ (by simp) hD (by simp [T8])))
          refine ⟨fun D X W hD hd hI K hK => ?_, ?_⟩
          · have a0 := hI.dt (0, _) (by simp [T8]; rfl) (hd ⟨0, .data⟩ (by simp) rfl)
            have qW := cell_later hI.ri.b p0
            exact step_of_run rfl (v := .int .i64 r) (w' := W) (by simp [go_sem, execOp, a0, qW]) (hK _ _ (hI.tell 1 _ (by simp) hD (by simp [T8])))
          refine ⟨fun D X W hD hd hI K hK => ?_, ?_⟩
          · refine step_of_run rfl (v := .slice (some ⟨W.heap.size, 0, none⟩) 0 0) (w' := W.alloc (.cells #[] INT)) (by simp [go_sem, execOp]) (hK _ _ ?_)
            exact hI.set 2 _ (hI.ri.fresh (keys8 _ _ _ _) 2 _ ⟨[], 0, 0⟩ (by simp [R8]) (sup_below W _) rfl (by simp) ⟨rfl, .inr ⟨W.heap.size, 0, #[], rfl, hI.ri.b.size, heap_alloc_new W _, Nat.le_refl _, by decide, rfl, rfl⟩⟩) (by simp [T8]) (fun e => absurd e (by decide)) (fun e => absurd e (by decide)) hD (fun e => absurd e (by decide)) (fun e => absurd e (by decide)) (fun g hb => hb.later (sup_below W _))
          refine ⟨fun D X W hD hd hI K hK => ?_, ?_⟩
          · exact step_of_run rfl (v := .pointer (some ⟨w.heap.size, 1, none⟩)) (w' := W) (by simp [go_sem, execOp]) (hK _ _ (hI.tell 3 _ (by simp) hD (by simp [T8])))
          refine ⟨fun D X W hD hd hI K hK => ?_, ?_⟩
          · have a3 := hI.dt (3, _) (by simp [T8]; rfl) (hd ⟨3, .data⟩ (by simp) rfl)
            have qW := cell_later hI.ri.b p1
            exact step_of_run rfl (v := .slice am nm cm) (w' := W) (by simp [go_sem, execOp, a3, qW]) (hK _ _ (hI.tell 4 _ (by simp) hD (by simp [T8])))
          refine ⟨fun D X W hD hd hI K hK => ?_, ?_⟩
          · have hL : D 9 = false := by cases hh : D 9 with
              | false => rfl
              | true => have := hI.e1 hh; rw [hD] at this; cases this
            have dp : D 2 = true := hd ⟨2, .data⟩ (by simp) rfl
            have r2 := hI.ri.rows (2, ⟨[], 0, 0⟩) (by simp [R8]) (hd ⟨2, .data⟩ (by simp) rfl) (by intro y hy e1 e2; simp [R8] at hy; rcases hy with rfl | rfl | rfl | rfl | rfl | rfl | rfl | rfl <;> first | exact hD | exact hL | (exfalso; simp at e1; done) | (exfalso; simp at e2; done) | fail)
            have a4 := hI.dt (4, _) (by simp [T8]; rfl) (hd ⟨4, .data⟩ (by simp) rfl)
            obtain ⟨xa, xn, xc, hxe, hxl, hxi, hxn⟩ : ∃ xa xn xc, X 4 = .slice xa xn xc ∧ xn = ms.length ∧ Ints W xa ms ∧ (xa = none → xn = 0 ∧ xc = 0) := ⟨am, nm, cm, a4, HNm.out, HIm.out.ints.below (HS.out.b.trans (hI.ri.b.mono HS.out.b.size)), HMn.out⟩
            refine step_append_ints rfl (.tmp 34) (.tmp 36) 34 rfl wr.heap.size INT Tryd.underlying34 info_int (X 2) [] rfl r2 xa xn xc ms hxl hxe hxi hxn (by rw [hxl]; simp only [List.length_cons, List.length_nil, List.length_append]; omega) hI.ri.b.size (fun v' W' ho hg hat => hK _ _ ?_)
            exact hI.set 5 v' (hI.ri.append (keys8 _ _ _ _) 5 2 v' ⟨ms, 0, 1⟩ ⟨[], 0, 0⟩ (by simp [R8]) (by simp [R8]) rfl dp (by intro y hy e1 e2; simp [R8] at hy; rcases hy with rfl | rfl | rfl | rfl | rfl | rfl | rfl | rfl <;> first | (exfalso; simp at e2; done) | (refine .inl ?_; simp; done) | exact .inr hL | (exfalso; simp at e1; done) | fail) hg hat (by simpa using ho)) (by simp [T8]) (fun e => absurd e (by decide)) (fun e => absurd e (by decide)) hD (fun e => absurd e (by decide)) (fun e => absurd e (by decide)) (fun g hb => hb.grown hg (hb.row_apart r2 (by decide)))
          refine ⟨fun D X W hD hd hI K hK => ?_, ?_⟩
          · exact step_of_run rfl (v := .pointer (some ⟨w.heap.size + 1, 0, none⟩)) (w' := W) (by simp [go_sem, execOp]) (hK _ _ (hI.tell 6 _ (by simp) hD (by simp [T8])))
          refine ⟨fun D X W hD hd hI K hK => ?_, ?_⟩
          · have a6 := hI.dt (6, _) (by simp [T8]; rfl) (hd ⟨6, .data⟩ (by simp) rfl)
            have qW := cell_later hI.ri.b m0
            exact step_of_run rfl (v := .int .i64 (-f - (lv : Int))) (w' := W) (by simp [go_sem, execOp, a6, qW]) (hK _ _ (hI.tell 7 _ (by simp) hD (by simp [T8])))
          refine ⟨fun D X W hD hd hI K hK => ?_, ?_⟩
          · have a7 := hI.dt (7, _) (by simp [T8]; rfl) (hd ⟨7, .data⟩ (by simp) rfl)
            refine step_of_run rfl (v := .slice (some ⟨W.heap.size, 0, none⟩) 1 1) (w' := W.alloc (.cells #[.int .i64 (-f - (lv : Int))] INT)) (by simp [go_sem, execOp, a7]) (hK _ _ ?_)
            exact hI.set 8 _ (hI.ri.fresh (keys8 _ _ _ _) 8 _ ⟨[(-f - (lv : Int))], 2, 0⟩ (by simp [R8]) (sup_below W _) rfl (by simp) ⟨rfl, .inr ⟨W.heap.size, 1, #[.int .i64 (-f - (lv : Int))], rfl, hI.ri.b.size, heap_alloc_new W _, Nat.le_refl _, by decide, rfl, rfl⟩⟩) (by simp [T8]) (fun e => absurd e (by decide)) (fun e => absurd e (by decide)) hD (fun e => absurd e (by decide)) (fun e => absurd e (by decide)) (fun g hb => hb.later (sup_below W _))
          refine ⟨fun D X W hD hd hI K hK => ?_, ?_⟩
          · have hL := hD
            have dp : D 5 = true := hd ⟨5, .data⟩ (by simp) rfl
            have r5 := hI.ri.rows (5, ⟨ms, 0, 1⟩) (by simp [R8]) (hd ⟨5, .data⟩ (by simp) rfl) (by intro y hy e1 e2; simp [R8] at hy; rcases hy with rfl | rfl | rfl | rfl | rfl | rfl | rfl | rfl <;> first | exact hD | exact hL | (exfalso; simp at e1; done) | (exfalso; simp at e2; done) | fail)
            have rq := hI.ri.rows (8, ⟨[(-f - (lv : Int))], 2, 0⟩) (by simp [R8]) (hd ⟨8, .data⟩ (by simp) rfl) (by intro y hy e1 e2; simp [R8] at hy; rcases hy with rfl | rfl | rfl | rfl | rfl | rfl | rfl | rfl <;> first | (exfalso; simp at e1; done) | (exfalso; simp at e2; done) | fail)
            obtain ⟨xg, xc, hxe, _, _⟩ := rq.form (by simp)
            obtain ⟨xa, xn, hxe, hxl, hxi, hxn⟩ : ∃ xa xn, X 8 = .slice xa xn xc ∧ xn = [(-f - (lv : Int))].length ∧ Ints W xa [(-f - (lv : Int))] ∧ (xa = none → xn = 0 ∧ xc = 0) := ⟨_, _, hxe, rfl, Ints.own (by rw [hxe] at rq; exact rq), fun e => by cases e⟩
            refine step_append_ints rfl (.tmp 37) (.tmp 40) 34 rfl wr.heap.size INT Tryd.underlying34 info_int (X 5) ms rfl r5 xa xn xc [(-f - (lv : Int))] hxl hxe hxi hxn (by rw [hxl]; simp only [List.length_cons, List.length_nil, List.length_append]; omega) hI.ri.b.size (fun v' W' ho hg hat => hK _ _ ?_)
            exact hI.set 9 v' (hI.ri.append (keys8 _ _ _ _) 9 5 v' ⟨ms ++ [(-f - (lv : Int))], 0, 2⟩ ⟨ms, 0, 1⟩ (by simp [R8]) (by simp [R8]) rfl dp (by intro y hy e1 e2; simp [R8] at hy; rcases hy with rfl | rfl | rfl | rfl | rfl | rfl | rfl | rfl <;> first | (exfalso; simp at e2; done) | (refine .inl ?_; simp; done) | exact .inr hL | (exfalso; simp at e1; done) | fail) hg hat (by simpa using ho)) (by simp [T8]) (fun _ => dp) (fun e => absurd e (by decide)) hD (fun e => absurd e (by decide)) (fun e => absurd e (by decide)) (fun g hb => hb.grown hg (hb.row_apart r5 (by decide)))
          refine ⟨fun D X W hD hd hI K hK => ?_, ?_⟩
          · refine step_of_run rfl (v := .slice (some ⟨W.heap.size, 0, none⟩) 0 0) (w' := W.alloc (.cells #[] INT)) (by simp [go_sem, execOp]) (hK _ _ ?_)
            exact hI.set 10 _ (hI.ri.fresh (keys8 _ _ _ _) 10 _ ⟨[], 1, 0⟩ (by simp [R8]) (sup_below W _) rfl (by simp) ⟨rfl, .inr ⟨W.heap.size, 0, #[], rfl, hI.ri.b.size, heap_alloc_new W _, Nat.le_refl _, by decide, rfl, rfl⟩⟩) (by simp [T8]) (fun e => absurd e (by decide)) (fun e => absurd e (by decide)) hD (fun e => absurd e (by decide)) (fun e => absurd e (by decide)) (fun g hb => hb.later (sup_below W _))
          refine ⟨fun D X W hD hd hI K hK => ?_, ?_⟩
          · exact step_of_run rfl (v := .pointer (some ⟨w.heap.size, 2, none⟩)) (w' := W) (by simp [go_sem, execOp]) (hK _ _ (hI.tell 11 _ (by simp) hD (by simp [T8])))
          refine ⟨fun D X W hD hd hI K hK => ?_, ?_⟩
          · have a11 := hI.dt (11, _) (by simp [T8]; rfl) (hd ⟨11, .data⟩ (by simp) rfl)
            have qW := cell_later hI.ri.b p2
            exact step_of_run rfl (v := .slice as_ ns cs_) (w' := W) (by simp [go_sem, execOp, a11, qW]) (hK _ _ (hI.tell 12 _ (by simp) hD (by simp [T8])))
          refine ⟨fun D X W hD hd hI K hK => ?_, ?_⟩
          · have hL : D 16 = false := by cases hh : D 16 with
              | false => rfl
              | true => have := hI.e2 hh; rw [hD] at this; cases this
            have dp : D 10 = true := hd ⟨10, .data⟩ (by simp) rfl
            have r10 := hI.ri.rows (10, ⟨[], 1, 0⟩) (by simp [R8]) (hd ⟨10, .data⟩ (by simp) rfl) (by intro y hy e1 e2; simp [R8] at hy; rcases hy with rfl | rfl | rfl | rfl | rfl | rfl | rfl | rfl <;> first | exact hD | exact hL | (exfalso; simp at e1; done) | (exfalso; simp at e2; done) | fail)
            have a12 := hI.dt (12, _) (by simp [T8]; rfl) (hd ⟨12, .data⟩ (by simp) rfl)
            obtain ⟨xa, xn, xc, hxe, hxl, hxi, hxn⟩ : ∃ xa xn xc, X 12 = .slice xa xn xc ∧ xn = ss.length ∧ Ints W xa ss ∧ (xa = none → xn = 0 ∧ xc = 0) := ⟨as_, ns, cs_, a12, HNs.out, HIs.out.ints.below (HS.out.b.trans (hI.ri.b.mono HS.out.b.size)), HSn.out⟩
            refine step_append_ints rfl (.tmp 42) (.tmp 44) 34 rfl wr.heap.size INT Tryd.underlying34 info_int (X 10) [] rfl r10 xa xn xc ss hxl hxe hxi hxn (by rw [hxl]; simp only [List.length_cons, List.length_nil, List.length_append]; omega) hI.ri.b.size (fun v' W' ho hg hat => hK _ _ ?_)
            exact hI.set 13 v' (hI.ri.append (keys8 _ _ _ _) 13 10 v' ⟨ss, 1, 1⟩ ⟨[], 1, 0⟩ (by simp [R8]) (by simp [R8]) rfl dp (by intro y hy e1 e2; simp [R8] at hy; rcases hy with rfl | rfl | rfl | rfl | rfl | rfl | rfl | rfl <;> first | (exfalso; simp at e2; done) | (refine .inl ?_; simp; done) | exact .inr hL | (exfalso; simp at e1; done) | fail) hg hat (by simpa using ho)) (by simp [T8]) (fun e => absurd e (by decide)) (fun e => absurd e (by decide)) hD (fun e => absurd e (by decide)) (fun e => absurd e (by decide)) (fun g hb => hb.grown hg (hb.row_apart r10 (by decide)))
          refine ⟨fun D X W hD hd hI K hK => ?_, ?_⟩
          · exact step_of_run rfl (v := .int .i64 (k : Int)) (w' := W) (by simp [go_sem, execOp]) (hK _ _ (hI.tell 14 _ (by simp) hD (by simp [T8])))
          refine ⟨fun D X W hD hd hI K hK => ?_, ?_⟩
          · have a14 := hI.dt (14, _) (by simp [T8]; rfl) (hd ⟨14, .data⟩ (by simp) rfl)
            refine step_of_run rfl (v := .slice (some ⟨W.heap.size, 0, none⟩) 1 1) (w' := W.alloc (.cells #[.int .i64 (k : Int)] INT)) (by simp [go_sem, execOp, a14]) (hK _ _ ?_)
            exact hI.set 15 _ (hI.ri.fresh (keys8 _ _ _ _) 15 _ ⟨[(k : Int)], 3, 0⟩ (by simp [R8]) (sup_below W _) rfl (by simp) ⟨rfl, .inr ⟨W.heap.size, 1, #[.int .i64 (k : Int)], rfl, hI.ri.b.size, heap_alloc_new W _, Nat.le_refl _, by decide, rfl, rfl⟩⟩) (by simp [T8]) (fun e => absurd e (by decide)) (fun e => absurd e (by decide)) hD (fun e => absurd e (by decide)) (fun e => absurd e (by decide)) (fun g hb => hb.later (sup_below W _))
          refine ⟨fun D X W hD hd hI K hK => ?_, ?_⟩
          · have hL := hD
            have dp : D 13 = true := hd ⟨13, .data⟩ (by simp) rfl
            have r13 := hI.ri.rows (13, ⟨ss, 1, 1⟩) (by simp [R8]) (hd ⟨13, .data⟩ (by simp) rfl) (by intro y hy e1 e2; simp [R8] at hy; rcases hy with rfl | rfl | rfl | rfl | rfl | rfl | rfl | rfl <;> first | exact hD | exact hL | (exfalso; simp at e1; done) | (exfalso; simp at e2; done) | fail)
            have rq := hI.ri.rows (15, ⟨[(k : Int)], 3, 0⟩) (by simp [R8]) (hd ⟨15, .data⟩ (by simp) rfl) (by intro y hy e1 e2; simp [R8] at hy; rcases hy with rfl | rfl | rfl | rfl | rfl | rfl | rfl | rfl <;> first | (exfalso; simp at e1; done) | (exfalso; simp at e2; done) | fail)
            obtain ⟨xg, xc, hxe, _, _⟩ := rq.form (by simp)
            obtain ⟨xa, xn, hxe, hxl, hxi, hxn⟩ : ∃ xa xn, X 15 = .slice xa xn xc ∧ xn = [(k : Int)].length ∧ Ints W xa [(k : Int)] ∧ (xa = none → xn = 0 ∧ xc = 0) := ⟨_, _, hxe, rfl, Ints.own (by rw [hxe] at rq; exact rq), fun e => by cases e⟩
            refine step_append_ints rfl (.tmp 45) (.tmp 47) 34 rfl wr.heap.size INT Tryd.underlying34 info_int (X 13) ss rfl r13 xa xn xc [(k : Int)] hxl hxe hxi hxn (by rw [hxl]; simp only [List.length_cons, List.length_nil, List.length_append]; omega) hI.ri.b.size (fun v' W' ho hg hat => hK _ _ ?_)
            exact hI.set 16 v' (hI.ri.append (keys8 _ _ _ _) 16 13 v' ⟨ss ++ [(k : Int)], 1, 2⟩ ⟨ss, 1, 1⟩ (by simp [R8]) (by simp [R8]) rfl dp (by intro y hy e1 e2; simp [R8] at hy; rcases hy with rfl | rfl | rfl | rfl | rfl | rfl | rfl | rfl <;> first | (exfalso; simp at e2; done) | (refine .inl ?_; simp; done) | exact .inr hL | (exfalso; simp at e1; done) | fail) hg hat (by simpa using ho)) (by simp [T8]) (fun e => absurd e (by decide)) (fun _ => dp) hD (fun e => absurd e (by decide)) (fun e => absurd e (by decide)) (fun g hb => hb.grown hg (hb.row_apart r13 (by decide)))
          refine ⟨fun D X W hD hd hI K hK => ?_, ?_⟩
          · have hL := hD
            have a1 := hI.dt (1, _) (by simp [T8]; rfl) (hd ⟨1, .data⟩ (by simp) rfl)
            have d9 : D 9 = true := hd ⟨9, .data⟩ (by simp) rfl
            have d16 : D 16 = true := hd ⟨16, .data⟩ (by simp) rfl
            have r9 := hI.ri.rows (9, ⟨ms ++ [(-f - (lv : Int))], 0, 2⟩) (by simp [R8]) (hd ⟨9, .data⟩ (by simp) rfl) (by intro y hy e1 e2; simp [R8] at hy; rcases hy with rfl | rfl | rfl | rfl | rfl | rfl | rfl | rfl <;> first | exact hD | exact hL | (exfalso; simp at e1; done) | (exfalso; simp at e2; done) | fail)
            have r16 := hI.ri.rows (16, ⟨ss ++ [(k : Int)], 1, 2⟩) (by simp [R8]) (hd ⟨16, .data⟩ (by simp) rfl) (by intro y hy e1 e2; simp [R8] at hy; rcases hy with rfl | rfl | rfl | rfl | rfl | rfl | rfl | rfl <;> first | exact hD | exact hL | (exfalso; simp at e1; done) | (exfalso; simp at e2; done) | fail)
            obtain ⟨a9, c9, h9, _⟩ := own_slice r9
            obtain ⟨a16, c16, h16, _⟩ := own_slice r16
            exact step_of_run rfl (v := .agg #[.int .i64 r, X 9, X 16]) (w' := W) (by simp [go_sem, execOp, a1, h9, h16]) (hK _ _ (hI.set 17 _ (hI.ri.still 17 _ (by simp [R8]) (Below.refl _ _)) (by simp [T8]) (fun e => absurd e (by decide)) (fun e => absurd e (by decide)) hD (fun _ => ⟨rfl, d9, d16⟩) (fun e => absurd e (by decide)) (fun _ h => h)))
          refine ⟨fun D X W hD hd hI K hK => ?_, ?_⟩
          · refine step_of_run rfl (v := .pointer (some ⟨W.heap.size, 0, none⟩)) (w' := W.alloc (.cells zp8 PTH)) (by simp [go_sem, execOp]) (hK _ _ ?_)
            exact hI.set 18 _ (hI.ri.still 18 _ (by simp [R8]) (sup_below W _)) (by simp [T8]) (fun e => absurd e (by decide)) (fun e => absurd e (by decide)) hD (fun e => absurd e (by decide)) (fun _ => ⟨_, rfl, hI.ri.b.size, blo_laid W PTH zp8⟩) (fun g hb => hb.later (sup_below W _))
          exact True.intro
        · intro D X W hD hI
          have r9 := hI.ri.rows (9, ⟨ms ++ [(-f - (lv : Int))], 0, 2⟩) (by simp [R8]) (hD 9 (by decide)) (by intro y hy e1 e2; simp [R8] at hy; rcases hy with rfl | rfl | rfl | rfl | rfl | rfl | rfl | rfl <;> first | (exfalso; simp at e1; done) | (exfalso; simp at e2; done) | fail)
          have r16 := hI.ri.rows (16, ⟨ss ++ [(k : Int)], 1, 2⟩) (by simp [R8]) (hD 16 (by decide)) (by intro y hy e1 e2; simp [R8] at hy; rcases hy with rfl | rfl | rfl | rfl | rfl | rfl | rfl | rfl <;> first | (exfalso; simp at e1; done) | (exfalso; simp at e2; done) | fail)
          obtain ⟨g9, c9, h9, _, _⟩ := r9.form (by simp)
          obtain ⟨g16, c16, h16, _, _⟩ := r16.form (by simp)
          obtain ⟨g, x18, hg, hb⟩ := hI.e4 (hD 18 (by decide))
          obtain ⟨x17, _, _⟩ := hI.e3 (hD 17 (by decide))
          rw [h9, h16] at x17
          have H5 := Lib.hid (bel_q HS.out hI.ri.b hb hg (by rw [← h9]; exact r9) (by rw [← h16]; exact r16))
          have z0 := hb.cell 0
          have z1 := hb.cell 1
          have z2 := hb.cell 2
          have f0 := hb.frozen 0
          have f1 := hb.frozen 1
          have f2 := hb.frozen 2
          simp [zp8] at z0 z1 z2
          clear hI r9 r16 hb hD hg p0 p1 p2 m0
          simp only [List.drop_succ_cons, List.drop_zero]
          rw [x18, x17]
          clear x18 x17 h9 h16
          go_upto_region 9 with fail
          clear z0 z1 z2 f0 f1 f2
          generalize (((W.setCell ⟨g, 0, none⟩ (.int .i64 r)).setCell ⟨g, 1, none⟩ (.slice (some ⟨g9, 0, none⟩) (ms.length + 1) c9)).setCell ⟨g, 2, none⟩ (.slice (some ⟨g16, 0, none⟩) (ss.length + 1) c16)) = w5 at *
          have hw1 := widM_bd lv HLv.out
          have hpr : 0 ≤ (k : Int) * widM lv ∧ (k : Int) * widM lv ≤ 15 * 256 := ⟨Int.mul_nonneg k0 (by omega), Int.mul_le_mul (by omega) hw1.2 (by omega) (by omega)⟩
          obtain ⟨hpr1, hpr2⟩ := hpr
          have hwl : IntKind.i64.wrap (lv : Int) = (lv : Int) := IntWalk.i64_in _ (by omega)
          have hwp : IntKind.i64.wrap ((k : Int) * widM lv) = (k : Int) * widM lv := IntWalk.i64_in _ (by omega)
          have hws : IntKind.i64.wrap (f + (k : Int) * widM lv) = f + (k : Int) * widM lv := IntWalk.i64_in _ (by omega)
          have HWd := Lib.hid (width_any lv HLv.out)
          have hlen1 : (belK lv f r ms ss k).length ≤ 300 := by
            have h1 := belK_len lv f r ms ss (capM lv) (fun f r ms ss => belM_len lv f r ms ss) k
            have h2 := capM_bd lv HLv.out
            have h3 := Nat.mul_le_mul (Nat.le_of_lt HKn.out) h2
            omega
          have hlen2 : (belM lv (f + (k : Int) * widM lv) r (ms ++ [-f - (lv : Int)]) (ss ++ [(k : Int)])).length ≤ 17 := Nat.le_trans (belM_len _ _ _ _ _) (capM_bd lv HLv.out)
          have HBel := Lib.hid (fun W => HH.out (f + (k : Int) * widM lv) r (ms ++ [-f - (lv : Int)]) (ss ++ [(k : Int)]) (some ⟨g9, 0, none⟩) (some ⟨g16, 0, none⟩) (ms.length + 1) (ss.length + 1) c9 c16 W (by simp) (by simp) (by omega) (by omega) (by omega) (by omega))
          have HBel : Hid (∀ W, IntB W (some ⟨g9, 0, none⟩) (ms ++ [-f - (lv : Int)]) → IntB W (some ⟨g16, 0, none⟩) (ss ++ [(k : Int)]) → Calls Tryd.prog 102 #[.int .i64 (lv : Int), .int .i64 (f + (k : Int) * widM lv), .agg #[.int .i64 r, .slice (some ⟨g9, 0, none⟩) (ms.length + 1) c9, .slice (some ⟨g16, 0, none⟩) (ss.length + 1) c16]] W (BelO W (belM lv (f + (k : Int) * widM lv) r (ms ++ [-f - (lv : Int)]) (ss ++ [(k : Int)])))) :=
            fun W i1 i2 => HBel.out W i1 i2 (fun e => by cases e) (fun e => by cases e)
          generalize hl7 : belM lv (f + (k : Int) * widM lv) r (ms ++ [-f - (lv : Int)]) (ss ++ [(k : Int)]) = l7 at *
          have HL7 : Hid (l7 = belM lv (f + (k : Int) * widM lv) r (ms ++ [-f - (lv : Int)]) (ss ++ [(k : Int)])) := hl7.symm
          obtain ⟨z, hz, hz6⟩ := info_met
          have HZ := Lib.hid hz
          clear hl7 hz
          go_upto_region 9 with fail
          refine wp_region_held_drew (S := fun W => W.cell? ⟨g, 0, none⟩ = some (.int .i64 r) ∧ W.cell? ⟨g, 1, none⟩ = some (.slice (some ⟨g9, 0, none⟩) (ms.length + 1) c9) ∧ W.cell? ⟨g, 2, none⟩ = some (.slice (some ⟨g16, 0, none⟩) (ss.length + 1) c16)) (by kernel_rfl) ⟨(H5.out.later ((Below.refl _ _).drew)).q.cell 0, (H5.out.later ((Below.refl _ _).drew)).q.cell 1, (H5.out.later ((Below.refl _ _).drew)).q.cell 2⟩ (fun hHeld => ?_)
          refine wpAnyH_take (i := 0) (oi := ⟨some 50, _, _, _, _, _⟩) (v := ?_) rfl (by kernel_rfl) (by kernel_rfl) (by kernel_rfl) (fun _ _ _ h => h) (Or.inl ⟨by rfl, fun W hW => ?_⟩) (by assumption) ?_
          rotate_left
          · obtain ⟨q0, q1, q2⟩ := hW; go_simp; try with_reducible rfl
          simp only [Act.put, List.setIfInBounds_toArray, List.set_cons_zero, List.set_cons_succ]
          refine wpAnyH_take (i := 1) (oi := ⟨some 51, _, _, _, _, _⟩) (v := ?_) rfl (by kernel_rfl) (by kernel_rfl) (by kernel_rfl) (fun _ _ _ h => h) (Or.inl ⟨by rfl, fun W hW => ?_⟩) (by assumption) ?_
          rotate_left
          · obtain ⟨q0, q1, q2⟩ := hW; go_simp; try with_reducible rfl
          simp only [Act.put, List.setIfInBounds_toArray, List.set_cons_zero, List.set_cons_succ]
          refine wpAnyH_take (i := 2) (oi := ⟨some 52, _, _, _, _, _⟩) (v := ?_) rfl (by kernel_rfl) (by kernel_rfl) (by kernel_rfl) (fun _ _ _ h => h) (Or.inl ⟨by rfl, fun W hW => ?_⟩) (by assumption) ?_
          rotate_left
          · obtain ⟨q0, q1, q2⟩ := hW; go_simp; try with_reducible rfl
          simp only [Act.put, List.setIfInBounds_toArray, List.set_cons_zero, List.set_cons_succ]
          refine wpAnyH_take (i := 3) (oi := ⟨some 53, _, _, _, _, _⟩) (v := ?_) rfl (by kernel_rfl) (by kernel_rfl) (by kernel_rfl) (fun _ _ _ h => h) (Or.inl ⟨by rfl, fun W hW => ?_⟩) (by assumption) ?_
          rotate_left
          · obtain ⟨q0, q1, q2⟩ := hW; go_simp; try with_reducible rfl
          simp only [Act.put, List.setIfInBounds_toArray, List.set_cons_zero, List.set_cons_succ]
          refine wpAnyH_take (i := 4) (oi := ⟨some 54, _, _, _, _, _⟩) (v := ?_) rfl (by kernel_rfl) (by kernel_rfl) (by kernel_rfl) (fun _ _ _ h => h) (Or.inl ⟨by rfl, fun W hW => ?_⟩) (by assumption) ?_
          rotate_left
          · obtain ⟨q0, q1, q2⟩ := hW; go_simp; try with_reducible rfl
          simp only [Act.put, List.setIfInBounds_toArray, List.set_cons_zero, List.set_cons_succ]
          refine wpAnyH_take (i := 5) (oi := ⟨some 55, _, _, _, _, _⟩) (v := ?_) rfl (by kernel_rfl) (by kernel_rfl) (by kernel_rfl) (fun _ _ _ h => h) (Or.inl ⟨by rfl, fun W hW => ?_⟩) (by assumption) ?_
          rotate_left
          · obtain ⟨q0, q1, q2⟩ := hW; go_simp; try with_reducible rfl
          simp only [Act.put, List.setIfInBounds_toArray, List.set_cons_zero, List.set_cons_succ]
          refine wpAnyH_take (i := 6) (oi := ⟨some 56, _, _, _, _, _⟩) (v := ?_) rfl (by kernel_rfl) (by kernel_rfl) (by kernel_rfl) (fun _ _ _ h => h) (Or.inl ⟨by rfl, fun W hW => ?_⟩) (by assumption) ?_
          rotate_left
          · obtain ⟨q0, q1, q2⟩ := hW; go_simp; try with_reducible rfl
          simp only [Act.put, List.setIfInBounds_toArray, List.set_cons_zero, List.set_cons_succ]
          refine wpAnyH_take (i := 10) (oi := ⟨some 60, _, _, _, _, _⟩) (v := ?_) rfl (by kernel_rfl) (by kernel_rfl) (by kernel_rfl) (fun _ _ _ h => h) (Or.inl ⟨by rfl, fun W hW => ?_⟩) (by assumption) ?_
          rotate_left
          · obtain ⟨q0, q1, q2⟩ := hW; go_simp; try with_reducible rfl
          simp only [Act.put, List.setIfInBounds_toArray, List.set_cons_zero, List.set_cons_succ]
          refine wpAnyH_ready (rs := [7]) (by kernel_rfl) (by simp) ?_
          refine AllReadyH.cons (o := ⟨some 57, _, _, _, _, _⟩) rfl (fun K hK => ?_) AllReadyH.nil
          go_simp
          go_wp2_with (go_at_call 104; (refine (HWd.out _).mono ?_); rintro e w6 ⟨rfl, hb6⟩)
          have H6 := Lib.hid (H5.out.later (((Below.refl _ _).drew).trans hb6))
          clear hb6
          refine hK.out _ _ ⟨H6.out.q.cell 0, H6.out.q.cell 1, H6.out.q.cell 2⟩ (fun hHeld => ?_)
          clear hK K
          try simp only [Act.put, List.setIfInBounds_toArray, List.set_cons_zero, List.set_cons_succ]
          refine wpAnyH_take (i := 8) (oi := ⟨some 58, _, _, _, _, _⟩) (v := ?_) rfl (by kernel_rfl) (by kernel_rfl) (by kernel_rfl) (fun _ _ _ h => h) (Or.inl ⟨by rfl, fun W hW => ?_⟩) (by assumption) ?_
          rotate_left
          · obtain ⟨q0, q1, q2⟩ := hW; go_simp; try with_reducible rfl
          simp only [Act.put, List.setIfInBounds_toArray, List.set_cons_zero, List.set_cons_succ]
          refine wpAnyH_take (i := 9) (oi := ⟨some 59, _, _, _, _, _⟩) (v := ?_) rfl (by kernel_rfl) (by kernel_rfl) (by kernel_rfl) (fun _ _ _ h => h) (Or.inl ⟨by rfl, fun W hW => ?_⟩) (by assumption) ?_
          rotate_left
          · obtain ⟨q0, q1, q2⟩ := hW; go_simp; try with_reducible rfl
          simp only [Act.put, List.setIfInBounds_toArray, List.set_cons_zero, List.set_cons_succ]
          refine wpAnyH_ready (rs := [11]) (by kernel_rfl) (by simp) ?_
          refine AllReadyH.cons (o := ⟨some 61, _, _, _, _, _⟩) rfl (fun K hK => ?_) AllReadyH.nil
          go_simp
          go_wp2_with (go_at_call 102; (refine (HBel.out _ H6.out.i9 H6.out.i16).mono ?_); rintro e w7 ⟨v7, cs7, rfl, ho7, hm7, hb7⟩; obtain ⟨a7, c7, rfl, _⟩ := own_slice ho7)
          have H7 := Lib.hid (H6.out.later hb7)
          have HO7 := Lib.hid ho7
          have HM7 := Lib.hid hm7
          clear hb7 ho7 hm7
          refine hK.out _ _ ⟨H7.out.q.cell 0, H7.out.q.cell 1, H7.out.q.cell 2⟩ (fun hHeld => ?_)
          clear hK K
          try simp only [Act.put, List.setIfInBounds_toArray, List.set_cons_zero, List.set_cons_succ]
          refine wpAnyH_ready (rs := [12]) (by kernel_rfl) (by simp) ?_
          refine AllReadyH.cons (o := ⟨some 62, _, _, _, _, _⟩) rfl (fun K hK => ?_) AllReadyH.nil
          obtain ⟨cs, ho, hm⟩ := H7.out.s.o
          refine step_append_row rfl (.tmp 50) (.tmp 61) 169 rfl w.heap.size MET _ 6 80 Tryd.underlying169 HZ.out hz6 (by decide) (by decide) u8 _ cs rfl ho a7 _ c7 cs7 rfl HM7.out.len (Rds.own HO7.out).add HM7.out.one (own_nil HO7.out) (by omega) H7.out.s.b.size (fun v8 w8 ho8 hg8 hat8 => ?_)
          have H8 := Lib.hid (bel_app H7.out ho hm HM7.out HL7.out hg8 ho8 hat8)
          clear ho hm ho8 hg8 hat8
          refine hK.out _ _ ⟨H8.out.2.cell 0, H8.out.2.cell 1, H8.out.2.cell 2⟩ (fun hHeld => ?_)
          clear hK K
          try simp only [Act.put, List.setIfInBounds_toArray, List.set_cons_zero, List.set_cons_succ]
          refine wpAnyH_take (i := 13) (oi := ⟨some 8, _, _, _, _, _⟩) (v := ?_) rfl (by kernel_rfl) (by kernel_rfl) (by kernel_rfl) (fun _ _ _ h => h) (Or.inl ⟨by rfl, fun W hW => ?_⟩) (by assumption) ?_
          rotate_left
          · obtain ⟨q0, q1, q2⟩ := hW; go_simp; try with_reducible rfl
          simp only [Act.put, List.setIfInBounds_toArray, List.set_cons_zero, List.set_cons_succ]
          refine wpAnyH_done (by kernel_rfl) ?_ _
          go_wp2_with fail
          go_roundw
          case rel => exact ⟨k + 1, HKn.out, by simp, H8.out.1⟩
          case measure => simp [intOf]; have := HKn.out; omega
      · have k1 : ¬ (k : Int) < 16 := by omega
        obtain rfl : k = 16 := by omega
        have HO := Lib.hid HS.out.o
        have HB := Lib.hid HS.out.b
        clear HS
        go_wp2
        go_ret
        obtain ⟨cs, h1, h2⟩ := HO.out
        exact ⟨_, cs, rfl, h1, h2, HB.out⟩
end Go.Proofs.YtlkgaefabahkoaaDoor
/-
  The document's whole list of blocks of pointers, and one found in it: in numbers.
-/
namespace Go.Proofs.YtlkgaefabahkoaaDoor
open Go.RowKit

theorem below_all : ∀ lv : Nat, lv ≤ 3 → BelC lv
  | 0, _ => below_zero
  | lv + 1, h => below_succ lv (by omega) (below_all lv (by omega))
def allM : List Mt := belM 1 6 6 [] [] ++ belM 2 22 7 [] [] ++ belM 3 278 8 [] []
theorem allM_len : allM.length = 42 := by decide +kernel
theorem own_app {w w' : World} {l : List Mt} {cs : List Value} {base : Nat} {v : Value} (hm : MtsC w l cs) (ho : w.ownsRow base MET 6 v l.length cs) {w2 : World} (hg : w.grownBy w2 v.ownBlock) : MtsC w2 l cs := hm.imp fun _ _ hi => hi.grown hg ho (by decide)
set_option maxHeartbeats 2000000 in
theorem all_any (w : World) : Calls Tryd.prog 100 #[] w (BelO w allM) := by
  have H1 : Hid (∀ W, Calls Tryd.prog 102 #[.int .i64 1, .int .i64 6, .agg #[.int .i64 6, .slice none 0 0, .slice none 0 0]] W (BelO W (belM 1 6 6 [] []))) := fun W => below_all 1 (by decide) 6 6 [] [] none none 0 0 0 0 W rfl rfl (by decide) (by decide) (by decide) (by decide) (fun h => absurd rfl h) (fun h => absurd rfl h) (fun _ => ⟨rfl, rfl⟩) (fun _ => ⟨rfl, rfl⟩)
  have H2 : Hid (∀ W, Calls Tryd.prog 102 #[.int .i64 2, .int .i64 22, .agg #[.int .i64 7, .slice none 0 0, .slice none 0 0]] W (BelO W (belM 2 22 7 [] []))) := fun W => below_all 2 (by decide) 22 7 [] [] none none 0 0 0 0 W rfl rfl (by decide) (by decide) (by decide) (by decide) (fun h => absurd rfl h) (fun h => absurd rfl h) (fun _ => ⟨rfl, rfl⟩) (fun _ => ⟨rfl, rfl⟩)
  have H3 : Hid (∀ W, Calls Tryd.prog 102 #[.int .i64 3, .int .i64 278, .agg #[.int .i64 8, .slice none 0 0, .slice none 0 0]] W (BelO W (belM 3 278 8 [] []))) := fun W => below_all 3 (by decide) 278 8 [] [] none none 0 0 0 0 W rfl rfl (by decide) (by decide) (by decide) (by decide) (fun h => absurd rfl h) (fun h => absurd rfl h) (fun _ => ⟨rfl, rfl⟩) (fun _ => ⟨rfl, rfl⟩)
  have n1 : (belM 1 6 6 [] []).length = 1 := by decide +kernel
  have n2 : (belM 2 22 7 [] []).length = 17 := by decide +kernel
  have n3 : (belM 3 278 8 [] []).length = 24 := by decide +kernel
  have HA : Hid (allM = belM 1 6 6 [] [] ++ belM 2 22 7 [] [] ++ belM 3 278 8 [] []) := rfl
  rw [HA.out]
  obtain ⟨z, hz, hz6⟩ := info_met
  have HZ := Lib.hid hz
  generalize belM 1 6 6 [] [] = l1 at *
  generalize belM 2 22 7 [] [] = l2 at *
  generalize belM 3 278 8 [] [] = l3 at *
  have N1 := Lib.hid n1
  have N2 := Lib.hid n2
  have N3 := Lib.hid n3
  clear HA hz n1 n2 n3
  go_enter Tryd.func100, Tryd.ntmps100
  go_wp2_with fail
  refine (H1.out _).mono ?_
  rintro e w1 ⟨v1, cs1, rfl, ho1, hm1, hb1⟩
  have HO1 := Lib.hid ho1
  have HM1 := Lib.hid hm1
  have HB1 := Lib.hid hb1
  clear ho1 hm1 hb1 H1
  go_wp2_with fail
  refine (H2.out _).mono ?_
  rintro e w2 ⟨v2, cs2, rfl, ho2, hm2, hb2⟩
  obtain ⟨a2, c2, rfl, _⟩ := own_slice ho2
  have HO1' := Lib.hid (own_later HO1.out hb2)
  have HM1' := Lib.hid (HM1.out.later hb2)
  have HO2 := Lib.hid ho2
  have HM2 := Lib.hid hm2
  have HB2 := Lib.hid (HB1.out.trans (hb2.mono HB1.out.size))
  clear ho2 hm2 hb2 H2 HO1 HM1 HB1
  go_wp2_with (refine wp_append_row rfl (.tmp 4) (.tmp 6) 169 rfl w.heap.size MET z 6 80 Tryd.underlying169 HZ.out hz6 (by decide) (by decide) v1 _ cs1 rfl HO1'.out a2 _ c2 cs2 rfl HM2.out.len (Rds.own HO2.out).add HM2.out.one (own_nil HO2.out) (by rw [N1.out, N2.out]; decide) HB2.out.size ?_; intro a5 c5 w5 ho5 hg5)
  have HO5 := Lib.hid ho5
  have HM5 := Lib.hid ((own_app (w' := w5) HM1'.out HO1'.out hg5).append (HM2.out.imp fun _ _ hi => hi.grown hg5 HO1'.out (by decide)))
  have HB5 := Lib.hid (HB2.out.grown hg5 HB2.out.size (fun q hq => (HO1'.out.lt q hq).1))
  clear ho5 hg5 HO1' HM1' HO2 HM2 HB2
  go_wp2_with fail
  refine (H3.out _).mono ?_
  rintro e w6 ⟨v6, cs6, rfl, ho6, hm6, hb6⟩
  obtain ⟨a6, c6, rfl, _⟩ := own_slice ho6
  have HO5' := Lib.hid (own_later HO5.out hb6)
  have HM5' := Lib.hid (HM5.out.later hb6)
  have HO6 := Lib.hid ho6
  have HM6 := Lib.hid hm6
  have HB6 := Lib.hid (HB5.out.trans (hb6.mono HB5.out.size))
  clear ho6 hm6 hb6 H3 HO5 HM5 HB5
  go_wp2_with (refine wp_append_row rfl (.tmp 8) (.tmp 10) 169 rfl w.heap.size MET z 6 80 Tryd.underlying169 HZ.out hz6 (by decide) (by decide) (.slice a5 (l1.length + l2.length) c5) _ (cs1 ++ cs2) rfl HO5'.out a6 _ c6 cs6 rfl HM6.out.len (Rds.own HO6.out).add HM6.out.one (own_nil HO6.out) (by rw [N1.out, N2.out, N3.out]; decide) HB6.out.size ?_; intro a7 c7 w7 ho7 hg7)
  have HO7 := Lib.hid ho7
  have HM7 := Lib.hid ((HM5'.out.imp fun _ _ hi => hi.grown hg7 HO5'.out (by decide)).append (HM6.out.imp fun _ _ hi => hi.grown hg7 HO5'.out (by decide)))
  have HB7 := Lib.hid (HB6.out.grown hg7 HB6.out.size (fun q hq => (HO5'.out.lt q hq).1))
  clear ho7 hg7 HO5' HM5' HO6 HM6 HB6
  go_wp2
  go_ret
  refine ⟨_, _, rfl, ?_, HM7.out, HB7.out⟩
  rw [List.length_append, List.length_append]
  exact HO7.out
/-- An entry at its place. -/
theorem MtsC.at_ {W : World} : ∀ {l : List Mt} {cs : List Value} (_ : MtsC W l cs) (i : Nat) (hi : i < l.length), ∃ c, mtC W l[i] c ∧ ∀ j u, c[j]? = some u → cs[i * 6 + j]? = some u
  | m :: l, _, h, 0, _ => by
    obtain ⟨c, r, rfl, hc, _⟩ := h
    exact ⟨c, hc, fun j u hj => by
      rw [Nat.zero_mul, Nat.zero_add, List.getElem?_append_left (List.getElem?_eq_some_iff.1 hj).1]; exact hj⟩
  | m :: l, _, h, i + 1, hi => by
    obtain ⟨c, r, rfl, hc, hr⟩ := h
    obtain ⟨c2, h1, h2⟩ := hr.at_ i (by simpa using hi)
    have hlen : c.length = 6 := by obtain ⟨_, _, _, _, rfl, _⟩ := hc; rfl
    refine ⟨c2, by simpa using h1, fun j u hj => ?_⟩
    rw [List.getElem?_append_right (by omega), show (i + 1) * 6 + j - c.length = i * 6 + j by omega]
    exact h2 j u hj
def findL (n : Int) : List Mt → Option Mt
  | [] => none
  | m :: l => if m.n = n then some m else if m.lv = 1 ∧ m.f ≤ n ∧ n < m.f + 16 ∧ n < 600 then some ⟨n, 0, n, m.r, m.ms ++ [m.n], m.ss ++ [n - m.f]⟩ else findL n l
def findM (n : Int) : Option Mt := if 0 ≤ n ∧ n < 6 then some ⟨n, 0, n, n, [], []⟩ else findL n allM
def wantM (n : Int) : Option Mt := if isB n = true then some ⟨n, lvOf n, fOf n, rPtr (fOf n), metasM (fOf n) (lvOf n), slotsM (fOf n) (lvOf n)⟩ else none
theorem find_in : (List.range 1400).all (fun i => decide (findM ((i : Int) - 700) = wantM ((i : Int) - 700))) = true := by decide +kernel
theorem allM_bd : allM.all (fun m => decide (-700 ≤ m.n ∧ m.n < 600 ∧ 0 ≤ m.f ∧ m.f < 600 ∧ 0 ≤ m.lv ∧ m.lv ≤ 3 ∧ 0 ≤ m.r ∧ m.r ≤ 8 ∧ m.ms.length ≤ 3 ∧ m.ss.length = m.ms.length)) = true := by decide +kernel
theorem findL_far {n : Int} (h : n < -700 ∨ 600 ≤ n) : ∀ (l : List Mt), (∀ m ∈ l, -700 ≤ m.n ∧ m.n < 600 ∧ 0 ≤ m.f) → findL n l = none
  | [], _ => rfl
  | m :: l, hl => by
    have := hl m List.mem_cons_self
    rw [findL, if_neg (by omega), if_neg (by omega)]
    exact findL_far h l (fun x hx => hl x (List.mem_cons_of_mem _ hx))
theorem isB_far {n : Int} (h : n < -700 ∨ 600 ≤ n) : isB n = false := by
  unfold isB
  rcases h with h | h
  · rw [if_neg (by omega)]
    simp only [startsB, Bool.or_eq_false_iff, decide_eq_false_iff_not]
    exact ⟨⟨by omega, by omega⟩, by omega⟩
  · rw [if_pos (by omega)]
    exact decide_eq_false (by omega)
theorem find_want (n : Int) : findM n = wantM n := by
  by_cases h : n < -700 ∨ 600 ≤ n
  · rw [wantM, isB_far h, findM, if_neg (by omega)]
    exact findL_far h allM (fun m hm => by
      have := List.all_eq_true.1 allM_bd m hm
      simp only [decide_eq_true_eq] at this
      omega)
  · have := List.all_eq_true.1 find_in (n + 700).toNat (List.mem_range.2 (by omega))
    rw [decide_eq_true_eq] at this
    rwa [show (((n + 700).toNat : Nat) : Int) - 700 = n by omega] at this
end Go.Proofs.YtlkgaefabahkoaaDoor
/-
  A block found in the document's list.
-/
namespace Go.Proofs.YtlkgaefabahkoaaDoor
open Go.RowKit

abbrev zm8 : Array Value := #[.int .i64 0, .int .i64 0, .int .i64 0, .int .i64 0, .slice none 0 0, .slice none 0 0]
/-- What Find answers. -/
def FindO (w : World) (o : Option Mt) (e : Ending) (w' : World) : Prop :=
  match o with
  | none => e = .returned (.tuple #[.agg zm8, .bool false]) ∧ Below w.heap.size w w'
  | some m => ∃ am cm as_ cs_, e = .returned (.tuple #[.agg #[.int .i64 m.n, .int .i64 m.lv, .int .i64 m.f, .int .i64 m.r, .slice am m.ms.length cm, .slice as_ m.ss.length cs_], .bool true]) ∧ Ints w' am m.ms ∧ Ints w' as_ m.ss ∧ (am = none → m.ms.length = 0 ∧ cm = 0) ∧ (as_ = none → m.ss.length = 0 ∧ cs_ = 0) ∧ Below w.heap.size w w'
/-- What stands in Find's loop. -/
structure FnS (w : World) (g c4 : Nat) (W : World) : Prop where
  o : ∃ cs, W.ownsRow w.heap.size MET 6 (.slice (some ⟨g, 0, none⟩) 42 c4) 42 cs ∧ MtsC W allM cs
  z : Blo W w.heap.size MET zm8
  b : Below w.heap.size w W
theorem FnS.later {w W W' : World} {g c4 : Nat} (h : FnS w g c4 W) (hb : Below W.heap.size W W') : FnS w g c4 W' := by
  obtain ⟨cs, h1, h2⟩ := h.o
  exact ⟨⟨cs, own_later h1 hb, h2.later hb⟩, h.z.later hb, h.b.trans (hb.mono h.b.size)⟩
def FnR (w : World) (n : Int) (fm : Option Mt) (g c4 : Nat) (t : Value) (W : World) : Prop := ∃ k : Nat, k ≤ 42 ∧ t = .int .i64 k ∧ findL n (allM.drop k) = fm ∧ FnS w g c4 W
theorem findL_at (n : Int) (k : Nat) (hk : k < allM.length) : findL n (allM.drop k) = if allM[k].n = n then some allM[k] else if allM[k].lv = 1 ∧ allM[k].f ≤ n ∧ n < allM[k].f + 16 ∧ n < 600 then some ⟨n, 0, n, allM[k].r, allM[k].ms ++ [allM[k].n], allM[k].ss ++ [n - allM[k].f]⟩ else findL n (allM.drop (k + 1)) := by
  rw [List.drop_eq_getElem_cons hk, findL]
theorem own_base {W : World} {b b' : Nat} {e : TypeId} {size n : Nat} {v : Value} {xs : List Value} (h : W.ownsRow b' e size v n xs) (hb : b ≤ b') : W.ownsRow b e size v n xs :=
  ⟨h.1, h.2.imp id (fun ⟨g, cap, cur, h1, h2, h3⟩ => ⟨g, cap, cur, h1, Nat.le_trans hb h2, h3⟩)⟩
theorem below_6 {B : Nat} {w0 W : World} {g : Nat} {a b c d e f : Value} (h : Below B w0 W) (hg : B ≤ g) : Below B w0 ((((((W.setCell ⟨g, 0, none⟩ a).setCell ⟨g, 1, none⟩ b).setCell ⟨g, 2, none⟩ c).setCell ⟨g, 3, none⟩ d).setCell ⟨g, 4, none⟩ e).setCell ⟨g, 5, none⟩ f) :=
  (((((h.setCell (p := ⟨g, 0, none⟩) hg a).setCell (p := ⟨g, 1, none⟩) hg b).setCell (p := ⟨g, 2, none⟩) hg c).setCell (p := ⟨g, 3, none⟩) hg d).setCell (p := ⟨g, 4, none⟩) hg e).setCell (p := ⟨g, 5, none⟩) hg f
theorem intb_six {W : World} {g : Nat} {cs : Array Value} {a : Option Addr} {l : List Int} {v0 v1 v2 v3 v4 v5 : Value} (hz : Blo W g MET cs) (hi : IntB W a l) : Ints ((((((W.setCell ⟨g, 0, none⟩ v0).setCell ⟨g, 1, none⟩ v1).setCell ⟨g, 2, none⟩ v2).setCell ⟨g, 3, none⟩ v3).setCell ⟨g, 4, none⟩ v4).setCell ⟨g, 5, none⟩ v5) a l := by
  refine IntB.ints (fun hl => ?_)
  obtain ⟨g', cs', ha, hb, hc⟩ := hi hl
  have hne : g' ≠ g := hb.apart hz (by decide)
  exact ⟨g', cs', ha, (((((hb.far (p := ⟨g, 0, none⟩) hne v0).far (p := ⟨g, 1, none⟩) hne v1).far (p := ⟨g, 2, none⟩) hne v2).far (p := ⟨g, 3, none⟩) hne v3).far (p := ⟨g, 4, none⟩) hne v4).far (p := ⟨g, 5, none⟩) hne v5, hc⟩
set_option maxHeartbeats 2000000 in
theorem find_small (n : Int) (w : World) (h0 : 0 ≤ n) (h6 : n < 6) : Calls Tryd.prog 85 #[.int .i64 n] w (FindO w (some ⟨n, 0, n, n, [], []⟩)) := by
  have hz := Lib.hid (blo_laid w MET zm8)
  have hb := Lib.hid (sup_below w (.cells zm8 MET))
  go_enter Tryd.func85, Tryd.ntmps85
  go_upto_region 2 with fail
  generalize (w.alloc (.cells zm8 MET)) = w0 at *
  have z0 := hz.out.cell 0
  have z1 := hz.out.cell 1
  have z2 := hz.out.cell 2
  have z3 := hz.out.cell 3
  have z4 := hz.out.cell 4
  have z5 := hz.out.cell 5
  have f0 := hz.out.frozen 0
  have f1 := hz.out.frozen 1
  have f2 := hz.out.frozen 2
  have f3 := hz.out.frozen 3
  have f4 := hz.out.frozen 4
  have f5 := hz.out.frozen 5
  simp [zm8] at z0 z1 z2 z3 z4 z5
  go_wp2
  refine bodyPost_ret (v := .tuple #[.agg #[.int .i64 n, .int .i64 0, .int .i64 n, .int .i64 n, .slice none 0 0, .slice none 0 0], .bool true]) ?_ rfl ⟨none, 0, none, 0, rfl, fun h => absurd rfl h, fun h => absurd rfl h, fun _ => ⟨rfl, rfl⟩, fun _ => ⟨rfl, rfl⟩, below_6 hb.out (Nat.le_refl _)⟩
  simp [results, Tryd.results85, go_sem, z0, z1, z2, z3, z4, z5]
set_option maxRecDepth 100000 in
set_option maxHeartbeats 4000000 in
theorem find_neg (n : Int) (w : World) (hc : n < 0) (hn1 : -9223372036854775808 ≤ n) (hn2 : n ≤ 9223372036854775807) (fm : Option Mt) (hfm : findL n allM = fm) : Calls Tryd.prog 85 #[.int .i64 n] w (FindO w fm) := by
  have HAll := Lib.hid all_any
  have HZ0 := Lib.hid (blo_laid w MET zm8)
  have HB0 := Lib.hid (sup_below w (.cells zm8 MET))
  have HFm := Lib.hid hfm
  obtain ⟨PO, hPO⟩ : ∃ PO, PO = FindO w fm := ⟨_, rfl⟩
  rw [← hPO]
  have HPO := Lib.hid hPO
  clear hfm hPO
  have hc1 : (decide (0 ≤ n) && decide (n < 6)) = false := by simp; omega
  go_enter Tryd.func85, Tryd.ntmps85
  go_wp2_with fail
  refine (HAll.out _).mono ?_
  rintro e w1 ⟨v4, cs4, rfl, ho4, hm4, hb4⟩
  rw [allM_len] at ho4
  obtain ⟨g, c4, rfl, hg4, _⟩ := ho4.form (by decide)
  have HS1 : Hid (FnS w g c4 w1) := ⟨⟨cs4, own_base ho4 HB0.out.size, hm4⟩, HZ0.out.later hb4, HB0.out.trans (hb4.mono HB0.out.size)⟩
  clear ho4 hm4 hb4 HAll HZ0 HB0 hg4
  go_wp2_with fail
  go_loopw [21] (fun t wr => FnR w n fm g c4 t wr) (fun t _ => 42 - (intOf t).toNat)
  case atStart => exact ⟨0, by decide, rfl, HFm.out, HS1.out⟩
  case round =>
    clear HS1
    obtain ⟨k, hk, rfl, hF, hS⟩ := hrel
    have HF := Lib.hid hF
    have HS := Lib.hid hS
    clear hF hS
    have k0 : (0 : Int) ≤ (k : Int) := by omega
    by_cases hlt : k < 42
    · have k1 : (k : Int) < 42 := by omega
      have HKn : Hid (k < 42) := hlt
      have hkl : k < allM.length := by rw [allM_len]; exact hlt
      obtain ⟨cs, hrow, hmt⟩ := HS.out.o
      obtain ⟨c, ⟨am, cm, as_, cs_, rfl, him, his, hmn, hsn⟩, hc⟩ := hmt.at_ k hkl
      have hbd := List.all_eq_true.1 allM_bd allM[k] (List.getElem_mem hkl)
      simp only [decide_eq_true_eq] at hbd
      have hF := HF.out
      rw [findL_at n k hkl] at hF
      have cell : ∀ j u, cs[k * 6 + j]? = some u → wr.cell? ⟨g, k * 6 + j, none⟩ = some u := fun j u hj => by
        have hjl := (List.getElem?_eq_some_iff.1 hj).1
        have := hrow.cellAt (k * 6 + j) (by have := hrow.1; omega)
        rw [this]; exact hj
      generalize allM[k] = m at *
      have e0 : wr.cell? ⟨g, k * 6, none⟩ = some (.int .i64 m.n) := cell 0 _ (hc 0 _ rfl)
      have e1 : wr.cell? ⟨g, k * 6 + 1, none⟩ = some (.int .i64 m.lv) := cell 1 _ (hc 1 _ rfl)
      have e2 : wr.cell? ⟨g, k * 6 + 2, none⟩ = some (.int .i64 m.f) := cell 2 _ (hc 2 _ rfl)
      have e3 : wr.cell? ⟨g, k * 6 + 3, none⟩ = some (.int .i64 m.r) := cell 3 _ (hc 3 _ rfl)
      have e4 : wr.cell? ⟨g, k * 6 + 4, none⟩ = some (.slice am m.ms.length cm) := cell 4 _ (hc 4 _ rfl)
      have e5 : wr.cell? ⟨g, k * 6 + 5, none⟩ = some (.slice as_ m.ss.length cs_) := cell 5 _ (hc 5 _ rfl)
      have HIm := Lib.hid him
      have HIs := Lib.hid his
      have HMn := Lib.hid hmn
      have HSn := Lib.hid hsn
      have HFx := Lib.hid hF
      obtain ⟨m1, m2, m3, m4, m5, m6, m7, m8, m9, m10⟩ := hbd
      have HSl := Lib.hid m10
      have hal := sup_below wr (.cells #[.int .i64 m.n, .int .i64 m.lv, .int .i64 m.f, .int .i64 m.r, .slice am m.ms.length cm, .slice as_ m.ss.length cs_] MET)
      have HS5 := Lib.hid (HS.out.later hal)
      have HM5 := Lib.hid (blo_laid wr MET #[.int .i64 m.n, .int .i64 m.lv, .int .i64 m.f, .int .i64 m.r, .slice am m.ms.length cm, .slice as_ m.ss.length cs_])
      have HIm5 := Lib.hid (HIm.out.later hal)
      have HIs5 := Lib.hid (HIs.out.later hal)
      clear cell hc hmt hrow him his hmn hsn hF hlt hkl HF HIm HIs m10
      by_cases hnn : m.n = n
      · have hF := HFx.out
        rw [if_pos hnn] at hF
        subst hF
        have HNn := Lib.hid hnn
        have hbn : (m.n == n) = true := by simpa using hnn
        clear HFx hnn
        go_upto_region 9 with fail
        clear e0 e1 e2 e3 e4 e5 HS
        generalize (wr.alloc (.cells #[.int .i64 m.n, .int .i64 m.lv, .int .i64 m.f, .int .i64 m.r, .slice am m.ms.length cm, .slice as_ m.ss.length cs_] MET)) = w5 at *
        generalize wr.heap.size = gm at *
        have z0 := HS5.out.z.cell 0
        have z1 := HS5.out.z.cell 1
        have z2 := HS5.out.z.cell 2
        have z3 := HS5.out.z.cell 3
        have z4 := HS5.out.z.cell 4
        have z5 := HS5.out.z.cell 5
        have f0 := HS5.out.z.frozen 0
        have f1 := HS5.out.z.frozen 1
        have f2 := HS5.out.z.frozen 2
        have f3 := HS5.out.z.frozen 3
        have f4 := HS5.out.z.frozen 4
        have f5 := HS5.out.z.frozen 5
        simp [zm8] at z0 z1 z2 z3 z4 z5
        have x0 := HM5.out.cell 0
        have x1 := HM5.out.cell 1
        have x2 := HM5.out.cell 2
        have x3 := HM5.out.cell 3
        have x4 := HM5.out.cell 4
        have x5 := HM5.out.cell 5
        simp at x0 x1 x2 x3 x4 x5
        go_wp2
        refine bodyPost_ret (v := .tuple #[.agg #[.int .i64 m.n, .int .i64 m.lv, .int .i64 m.f, .int .i64 m.r, .slice am m.ms.length cm, .slice as_ m.ss.length cs_], .bool true]) ?_ rfl ?_
        · simp [results, Tryd.results85, go_sem, z0, z1, z2, z3, z4, z5]
        · rw [HPO.out]
          exact ⟨am, cm, as_, cs_, rfl, intb_six HS5.out.z HIm5.out, intb_six HS5.out.z HIs5.out, HMn.out, HSn.out, below_6 HS5.out.b (Nat.le_refl _)⟩
      · have hF := HFx.out
        rw [if_neg hnn] at hF
        have hbn : (m.n == n) = false := by simpa using hnn
        clear HFx hnn
        by_cases hd : m.lv = 1 ∧ m.f ≤ n ∧ n < m.f + 16 ∧ n < 600
        · rw [if_pos hd] at hF
          subst hF
          obtain ⟨d1, d2, d3, d4⟩ := hd
          exfalso; omega
        · rw [if_neg hd] at hF
          have HF := Lib.hid hF
          clear hF HS HM5
          by_cases d1 : m.lv = 1
          · have b1 : (m.lv == 1) = true := by simpa using d1
            by_cases d2 : m.f ≤ n
            · exfalso; omega
            · clear d1 hd
              go_wp2_with fail
              go_roundw
              case rel => exact ⟨k + 1, HKn.out, by simp, HF.out, HS5.out⟩
              case measure => simp [intOf]; have := HKn.out; omega
          · have b1 : (m.lv == 1) = false := by simpa using d1
            clear d1 hd
            go_wp2_with fail
            go_roundw
            case rel => exact ⟨k + 1, HKn.out, by simp, HF.out, HS5.out⟩
            case measure => simp [intOf]; have := HKn.out; omega
    · have k1 : ¬ (k : Int) < 42 := by omega
      obtain rfl : k = 42 := by omega
      have hF := HF.out
      rw [show allM.drop 42 = [] from List.drop_eq_nil_of_le (by rw [allM_len]; decide)] at hF
      have hF2 : fm = none := hF.symm
      subst hF2
      have z0 := HS.out.z.cell 0
      have z1 := HS.out.z.cell 1
      have z2 := HS.out.z.cell 2
      have z3 := HS.out.z.cell 3
      have z4 := HS.out.z.cell 4
      have z5 := HS.out.z.cell 5
      have f0 := HS.out.z.frozen 0
      have f1 := HS.out.z.frozen 1
      have f2 := HS.out.z.frozen 2
      have f3 := HS.out.z.frozen 3
      have f4 := HS.out.z.frozen 4
      have f5 := HS.out.z.frozen 5
      simp [zm8] at z0 z1 z2 z3 z4 z5
      have HB := Lib.hid HS.out.b
      clear HS HF hF
      go_wp2
      refine bodyPost_ret (v := .tuple #[.agg zm8, .bool false]) ?_ rfl ?_
      · simp [results, Tryd.results85, go_sem, z0, z1, z2, z3, z4, z5, zm8]
      · rw [HPO.out]
        exact ⟨rfl, below_6 HB.out (Nat.le_refl _)⟩
set_option maxRecDepth 100000 in
set_option maxHeartbeats 4000000 in
theorem find_pos (n : Int) (w : World) (hc : 6 ≤ n) (hn1 : -9223372036854775808 ≤ n) (hn2 : n ≤ 9223372036854775807) (fm : Option Mt) (hfm : findL n allM = fm) : Calls Tryd.prog 85 #[.int .i64 n] w (FindO w fm) := by
  have HAll := Lib.hid all_any
  have HZ0 := Lib.hid (blo_laid w MET zm8)
  have HB0 := Lib.hid (sup_below w (.cells zm8 MET))
  have HFm := Lib.hid hfm
  obtain ⟨PO, hPO⟩ : ∃ PO, PO = FindO w fm := ⟨_, rfl⟩
  rw [← hPO]
  have HPO := Lib.hid hPO
  clear hfm hPO
  have hc1 : (decide (0 ≤ n) && decide (n < 6)) = false := by simp; omega
  go_enter Tryd.func85, Tryd.ntmps85
  go_wp2_with fail
  refine (HAll.out _).mono ?_
  rintro e w1 ⟨v4, cs4, rfl, ho4, hm4, hb4⟩
  rw [allM_len] at ho4
  obtain ⟨g, c4, rfl, hg4, _⟩ := ho4.form (by decide)
  have HS1 : Hid (FnS w g c4 w1) := ⟨⟨cs4, own_base ho4 HB0.out.size, hm4⟩, HZ0.out.later hb4, HB0.out.trans (hb4.mono HB0.out.size)⟩
  clear ho4 hm4 hb4 HAll HZ0 HB0 hg4
  go_wp2_with fail
  go_loopw [21] (fun t wr => FnR w n fm g c4 t wr) (fun t _ => 42 - (intOf t).toNat)
  case atStart => exact ⟨0, by decide, rfl, HFm.out, HS1.out⟩
  case round =>
    clear HS1
    obtain ⟨k, hk, rfl, hF, hS⟩ := hrel
    have HF := Lib.hid hF
    have HS := Lib.hid hS
    clear hF hS
    have k0 : (0 : Int) ≤ (k : Int) := by omega
    by_cases hlt : k < 42
    · have k1 : (k : Int) < 42 := by omega
      have HKn : Hid (k < 42) := hlt
      have hkl : k < allM.length := by rw [allM_len]; exact hlt
      obtain ⟨cs, hrow, hmt⟩ := HS.out.o
      obtain ⟨c, ⟨am, cm, as_, cs_, rfl, him, his, hmn, hsn⟩, hc⟩ := hmt.at_ k hkl
      have hbd := List.all_eq_true.1 allM_bd allM[k] (List.getElem_mem hkl)
      simp only [decide_eq_true_eq] at hbd
      have hF := HF.out
      rw [findL_at n k hkl] at hF
      have cell : ∀ j u, cs[k * 6 + j]? = some u → wr.cell? ⟨g, k * 6 + j, none⟩ = some u := fun j u hj => by
        have hjl := (List.getElem?_eq_some_iff.1 hj).1
        have := hrow.cellAt (k * 6 + j) (by have := hrow.1; omega)
        rw [this]; exact hj
      generalize allM[k] = m at *
      have e0 : wr.cell? ⟨g, k * 6, none⟩ = some (.int .i64 m.n) := cell 0 _ (hc 0 _ rfl)
      have e1 : wr.cell? ⟨g, k * 6 + 1, none⟩ = some (.int .i64 m.lv) := cell 1 _ (hc 1 _ rfl)
      have e2 : wr.cell? ⟨g, k * 6 + 2, none⟩ = some (.int .i64 m.f) := cell 2 _ (hc 2 _ rfl)
      have e3 : wr.cell? ⟨g, k * 6 + 3, none⟩ = some (.int .i64 m.r) := cell 3 _ (hc 3 _ rfl)
      have e4 : wr.cell? ⟨g, k * 6 + 4, none⟩ = some (.slice am m.ms.length cm) := cell 4 _ (hc 4 _ rfl)
      have e5 : wr.cell? ⟨g, k * 6 + 5, none⟩ = some (.slice as_ m.ss.length cs_) := cell 5 _ (hc 5 _ rfl)
      have HIm := Lib.hid him
      have HIs := Lib.hid his
      have HMn := Lib.hid hmn
      have HSn := Lib.hid hsn
      have HFx := Lib.hid hF
      obtain ⟨m1, m2, m3, m4, m5, m6, m7, m8, m9, m10⟩ := hbd
      have HSl := Lib.hid m10
      have hal := sup_below wr (.cells #[.int .i64 m.n, .int .i64 m.lv, .int .i64 m.f, .int .i64 m.r, .slice am m.ms.length cm, .slice as_ m.ss.length cs_] MET)
      have HS5 := Lib.hid (HS.out.later hal)
      have HM5 := Lib.hid (blo_laid wr MET #[.int .i64 m.n, .int .i64 m.lv, .int .i64 m.f, .int .i64 m.r, .slice am m.ms.length cm, .slice as_ m.ss.length cs_])
      have HIm5 := Lib.hid (HIm.out.later hal)
      have HIs5 := Lib.hid (HIs.out.later hal)
      clear cell hc hmt hrow him his hmn hsn hF hlt hkl HF HIm HIs m10
      by_cases hnn : m.n = n
      · have hF := HFx.out
        rw [if_pos hnn] at hF
        subst hF
        have HNn := Lib.hid hnn
        have hbn : (m.n == n) = true := by simpa using hnn
        clear HFx hnn
        go_upto_region 9 with fail
        clear e0 e1 e2 e3 e4 e5 HS
        generalize (wr.alloc (.cells #[.int .i64 m.n, .int .i64 m.lv, .int .i64 m.f, .int .i64 m.r, .slice am m.ms.length cm, .slice as_ m.ss.length cs_] MET)) = w5 at *
        generalize wr.heap.size = gm at *
        have z0 := HS5.out.z.cell 0
        have z1 := HS5.out.z.cell 1
        have z2 := HS5.out.z.cell 2
        have z3 := HS5.out.z.cell 3
        have z4 := HS5.out.z.cell 4
        have z5 := HS5.out.z.cell 5
        have f0 := HS5.out.z.frozen 0
        have f1 := HS5.out.z.frozen 1
        have f2 := HS5.out.z.frozen 2
        have f3 := HS5.out.z.frozen 3
        have f4 := HS5.out.z.frozen 4
        have f5 := HS5.out.z.frozen 5
        simp [zm8] at z0 z1 z2 z3 z4 z5
        have x0 := HM5.out.cell 0
        have x1 := HM5.out.cell 1
        have x2 := HM5.out.cell 2
        have x3 := HM5.out.cell 3
        have x4 := HM5.out.cell 4
        have x5 := HM5.out.cell 5
        simp at x0 x1 x2 x3 x4 x5
        go_wp2
        refine bodyPost_ret (v := .tuple #[.agg #[.int .i64 m.n, .int .i64 m.lv, .int .i64 m.f, .int .i64 m.r, .slice am m.ms.length cm, .slice as_ m.ss.length cs_], .bool true]) ?_ rfl ?_
        · simp [results, Tryd.results85, go_sem, z0, z1, z2, z3, z4, z5]
        · rw [HPO.out]
          exact ⟨am, cm, as_, cs_, rfl, intb_six HS5.out.z HIm5.out, intb_six HS5.out.z HIs5.out, HMn.out, HSn.out, below_6 HS5.out.b (Nat.le_refl _)⟩
      · have hF := HFx.out
        rw [if_neg hnn] at hF
        have hbn : (m.n == n) = false := by simpa using hnn
        clear HFx hnn
        by_cases hd : m.lv = 1 ∧ m.f ≤ n ∧ n < m.f + 16 ∧ n < 600
        · rw [if_pos hd] at hF
          subst hF
          obtain ⟨d1, d2, d3, d4⟩ := hd
          have b1 : (m.lv == 1) = true := by simpa using d1
          clear d1
          have hws : IntKind.i64.wrap (n - m.f) = n - m.f := IntWalk.i64_in _ (by omega)
          go_upto_region 11 with fail
          have hsl := HSl.out
          clear e0 e1 e2 e3 e4 e5 HS
          generalize (wr.alloc (.cells #[.int .i64 m.n, .int .i64 m.lv, .int .i64 m.f, .int .i64 m.r, .slice am m.ms.length cm, .slice as_ m.ss.length cs_] MET)) = w5 at *
          generalize wr.heap.size = gm at *
          have z0 := HS5.out.z.cell 0
          have z1 := HS5.out.z.cell 1
          have z2 := HS5.out.z.cell 2
          have z3 := HS5.out.z.cell 3
          have z4 := HS5.out.z.cell 4
          have z5 := HS5.out.z.cell 5
          have f0 := HS5.out.z.frozen 0
          have f1 := HS5.out.z.frozen 1
          have f2 := HS5.out.z.frozen 2
          have f3 := HS5.out.z.frozen 3
          have f4 := HS5.out.z.frozen 4
          have f5 := HS5.out.z.frozen 5
          simp [zm8] at z0 z1 z2 z3 z4 z5
          have x0 := HM5.out.cell 0
          have x1 := HM5.out.cell 1
          have x2 := HM5.out.cell 2
          have x3 := HM5.out.cell 3
          have x4 := HM5.out.cell 4
          have x5 := HM5.out.cell 5
          simp at x0 x1 x2 x3 x4 x5
          obtain ⟨RL, hRL⟩ : ∃ RL : List (Nat × RowT), RL = [(5, ⟨[], 0, 0⟩), (9, ⟨m.ms, 0, 1⟩), (12, ⟨[m.n], 2, 0⟩), (13, ⟨m.ms ++ [m.n], 0, 2⟩), (14, ⟨[], 1, 0⟩), (18, ⟨m.ss, 1, 1⟩), (23, ⟨[n - m.f], 3, 0⟩), (24, ⟨m.ss ++ [n - m.f], 1, 2⟩)] := ⟨_, rfl⟩
          obtain ⟨TL, hTL⟩ : ∃ TL : List (Nat × Value), TL = [(0, .int .i64 n), (1, .int .i64 n), (2, .pointer (some ⟨gm, 3, none⟩)), (3, .pointer (some ⟨gm, 3, none⟩)), (4, .int .i64 m.r), (6, .pointer (some ⟨gm, 3, none⟩)), (7, .pointer (some ⟨gm, 4, none⟩)), (8, .slice am m.ms.length cm), (10, .pointer (some ⟨gm, 0, none⟩)), (11, .int .i64 m.n), (15, .pointer (some ⟨gm, 3, none⟩)), (16, .pointer (some ⟨gm, 5, none⟩)), (17, .slice as_ m.ss.length cs_), (19, .int .i64 n), (20, .pointer (some ⟨gm, 2, none⟩)), (21, .int .i64 m.f), (22, .int .i64 (n - m.f))] := ⟨_, rfl⟩
          obtain ⟨UL, hUL⟩ : ∃ UL : List UseT, UL = [⟨25, fun X => .agg #[.int .i64 m.r, X 13, X 24], [13, 24]⟩, ⟨26, fun X => .agg #[.int .i64 n, .int .i64 0, .int .i64 n, .int .i64 m.r, X 13, X 24], [25, 13, 24]⟩] := ⟨_, rfl⟩
          obtain ⟨CL, hCL⟩ : ∃ CL : List (Nat × Nat), CL = [(13, 9), (24, 18)] := ⟨_, rfl⟩
          have hKB : keysB RL := by intro x hx y hy e; simp [hRL] at hx hy; rcases hx with rfl | rfl | rfl | rfl | rfl | rfl | rfl | rfl <;> rcases hy with rfl | rfl | rfl | rfl | rfl | rfl | rfl | rfl <;> first | rfl | (exfalso; simp at e; done) | fail
          have hUB : usesB UL := by
            intro x hx X Y h
            simp [hUL] at hx
            rcases hx with rfl | rfl
            · simp [h 13 (by simp), h 24 (by simp)]
            · simp [h 25 (by simp), h 13 (by simp), h 24 (by simp)]
          refine wp_region_inv (n := 27) [(0, 53), (1, 54), (2, 55), (3, 56), (4, 57), (5, 58), (6, 59), (7, 60), (8, 61), (9, 62), (10, 63), (11, 64), (12, 65), (13, 66), (14, 67), (15, 68), (16, 69), (17, 70), (18, 71), (19, 72), (20, 73), (21, 74), (22, 75), (23, 76), (24, 77), (25, 78), (26, 79)] (BG RL TL UL CL w5 INT) (by kernel_rfl) (by kernel_rfl) (by kernel_rfl) (fun X => by simp only [putL, Act.put, List.setIfInBounds_toArray, List.set_cons_zero, List.set_cons_succ]; rfl) (fun X => BG.start) ?_ ?_
          · show StepsI _ _ _ _ _ 0 [_, _, _, _, _, _, _, _, _, _, _, _, _, _, _, _, _, _, _, _, _, _, _, _, _, _, _]
            refine ⟨fun D X W hD hd hI K hK => ?_, ?_⟩
            · exact step_of_run rfl (v := .int .i64 n) (w' := W) (by simp [go_sem, execOp]) (hK _ _ (hI.tell hUB 0 _ hD (by simp [hRL]) (by simp [hTL]) (by intro x hx e; simp [hUL] at hx; exfalso; rcases hx with rfl | rfl <;> simp at e) (by simp [hCL])))
            refine ⟨fun D X W hD hd hI K hK => ?_, ?_⟩
            · exact step_of_run rfl (v := .int .i64 n) (w' := W) (by simp [go_sem, execOp]) (hK _ _ (hI.tell hUB 1 _ hD (by simp [hRL]) (by simp [hTL]) (by intro x hx e; simp [hUL] at hx; exfalso; rcases hx with rfl | rfl <;> simp at e) (by simp [hCL])))
            refine ⟨fun D X W hD hd hI K hK => ?_, ?_⟩
            · exact step_of_run rfl (v := .pointer (some ⟨gm, 3, none⟩)) (w' := W) (by simp [go_sem, execOp]) (hK _ _ (hI.tell hUB 2 _ hD (by simp [hRL]) (by simp [hTL]) (by intro x hx e; simp [hUL] at hx; exfalso; rcases hx with rfl | rfl <;> simp at e) (by simp [hCL])))
            refine ⟨fun D X W hD hd hI K hK => ?_, ?_⟩
            · have a2 := hI.dt (2, _) (by simp [hTL]; rfl) (hd ⟨2, .data⟩ (by simp) rfl)
              exact step_of_run rfl (v := .pointer (some ⟨gm, 3, none⟩)) (w' := W) (by simp [go_sem, execOp, a2]) (hK _ _ (hI.tell hUB 3 _ hD (by simp [hRL]) (by simp [hTL]) (by intro x hx e; simp [hUL] at hx; exfalso; rcases hx with rfl | rfl <;> simp at e) (by simp [hCL])))
            refine ⟨fun D X W hD hd hI K hK => ?_, ?_⟩
            · have a3 := hI.dt (3, _) (by simp [hTL]; rfl) (hd ⟨3, .data⟩ (by simp) rfl)
              have x3W := cell_later hI.ri.b x3
              exact step_of_run rfl (v := .int .i64 m.r) (w' := W) (by simp [go_sem, execOp, a3, x3W]) (hK _ _ (hI.tell hUB 4 _ hD (by simp [hRL]) (by simp [hTL]) (by intro x hx e; simp [hUL] at hx; exfalso; rcases hx with rfl | rfl <;> simp at e) (by simp [hCL])))
            refine ⟨fun D X W hD hd hI K hK => ?_, ?_⟩
            · refine step_of_run rfl (v := .slice (some ⟨W.heap.size, 0, none⟩) 0 0) (w' := W.alloc (.cells #[] INT)) (by simp [go_sem, execOp]) (hK _ _ ?_)
              exact hI.set hUB 5 _ hD (hI.ri.fresh hKB 5 _ ⟨[], 0, 0⟩ (by simp [hRL]) (sup_below W _) rfl (by simp) ⟨rfl, .inr ⟨W.heap.size, 0, #[], rfl, hI.ri.b.size, heap_alloc_new W _, Nat.le_refl _, by decide, rfl, rfl⟩⟩) (by simp [hTL]) (by intro x hx e; simp [hUL] at hx; exfalso; rcases hx with rfl | rfl <;> simp at e) (by intro x hx e; simp [hCL] at hx; first | (exfalso; simp [hx] at e; done) | (rcases hx with rfl | rfl <;> first | (exfalso; simp at e; done) | (first | exact dp | exact dq) | fail) | (subst hx; first | exact dp | exact dq) | fail)
            refine ⟨fun D X W hD hd hI K hK => ?_, ?_⟩
            · exact step_of_run rfl (v := .pointer (some ⟨gm, 3, none⟩)) (w' := W) (by simp [go_sem, execOp]) (hK _ _ (hI.tell hUB 6 _ hD (by simp [hRL]) (by simp [hTL]) (by intro x hx e; simp [hUL] at hx; exfalso; rcases hx with rfl | rfl <;> simp at e) (by simp [hCL])))
            refine ⟨fun D X W hD hd hI K hK => ?_, ?_⟩
            · have a6 := hI.dt (6, _) (by simp [hTL]; rfl) (hd ⟨6, .data⟩ (by simp) rfl)
              exact step_of_run rfl (v := .pointer (some ⟨gm, 4, none⟩)) (w' := W) (by simp [go_sem, execOp, a6]) (hK _ _ (hI.tell hUB 7 _ hD (by simp [hRL]) (by simp [hTL]) (by intro x hx e; simp [hUL] at hx; exfalso; rcases hx with rfl | rfl <;> simp at e) (by simp [hCL])))
            refine ⟨fun D X W hD hd hI K hK => ?_, ?_⟩
            · have a7 := hI.dt (7, _) (by simp [hTL]; rfl) (hd ⟨7, .data⟩ (by simp) rfl)
              have x4W := cell_later hI.ri.b x4
              exact step_of_run rfl (v := .slice am m.ms.length cm) (w' := W) (by simp [go_sem, execOp, a7, x4W]) (hK _ _ (hI.tell hUB 8 _ hD (by simp [hRL]) (by simp [hTL]) (by intro x hx e; simp [hUL] at hx; exfalso; rcases hx with rfl | rfl <;> simp at e) (by simp [hCL])))
            refine ⟨fun D X W hD hd hI K hK => ?_, ?_⟩
            · have dp : D 5 = true := hd ⟨5, .data⟩ (by simp) rfl
              have hL13 : D 13 = false := by cases hh : D 13 with
                | false => rfl
                | true => have := hI.cl (13, 9) (by simp [hCL]) hh; rw [hD] at this; cases this
              have r5 := hI.ri.rows (5, ⟨[], 0, 0⟩) (by simp [hRL]) (dp) (by intro y hy e1 e2; simp [hRL] at hy; rcases hy with rfl | rfl | rfl | rfl | rfl | rfl | rfl | rfl <;> first | exact hD | exact hL13 | (exfalso; simp at e1; done) | (exfalso; simp at e2; done) | fail)
              have a8 := hI.dt (8, _) (by simp [hTL]; rfl) (hd ⟨8, .data⟩ (by simp) rfl)
              obtain ⟨xa, xn, xc, hxe, hxl, hxi, hxn⟩ : ∃ xa xn xc, X 8 = .slice xa xn xc ∧ xn = (m.ms).length ∧ Ints W xa (m.ms) ∧ (xa = none → xn = 0 ∧ xc = 0) := ⟨_, _, _, a8, rfl, HIm5.out.ints.below hI.ri.b, HMn.out⟩
              refine step_append_ints rfl (.tmp 58) (.tmp 61) 34 rfl w5.heap.size INT Tryd.underlying34 info_int (X 5) [] rfl r5 xa xn xc (m.ms) hxl hxe hxi hxn (by rw [hxl]; simp only [List.length_cons, List.length_nil, List.length_append]; omega) hI.ri.b.size (fun v' W' ho hg hat => hK _ _ ?_)
              exact hI.set hUB 9 v' hD (hI.ri.append hKB 9 5 v' ⟨m.ms, 0, 1⟩ ⟨[], 0, 0⟩ (by simp [hRL]) (by simp [hRL]) rfl dp (by intro y hy e1 e2; simp [hRL] at hy; rcases hy with rfl | rfl | rfl | rfl | rfl | rfl | rfl | rfl <;> first | (exfalso; simp at e2; done) | (refine .inl ?_; simp; done) | exact .inr hL13 | (exfalso; simp at e1; done) | fail) hg hat (by simpa using ho)) (by simp [hTL]) (by intro x hx e; simp [hUL] at hx; exfalso; rcases hx with rfl | rfl <;> simp at e) (by intro x hx e; simp [hCL] at hx; first | (exfalso; simp [hx] at e; done) | (rcases hx with rfl | rfl <;> first | (exfalso; simp at e; done) | (first | exact dp | exact dq) | fail) | (subst hx; first | exact dp | exact dq) | fail)
            refine ⟨fun D X W hD hd hI K hK => ?_, ?_⟩
            · exact step_of_run rfl (v := .pointer (some ⟨gm, 0, none⟩)) (w' := W) (by simp [go_sem, execOp]) (hK _ _ (hI.tell hUB 10 _ hD (by simp [hRL]) (by simp [hTL]) (by intro x hx e; simp [hUL] at hx; exfalso; rcases hx with rfl | rfl <;> simp at e) (by simp [hCL])))
            refine ⟨fun D X W hD hd hI K hK => ?_, ?_⟩
            · have a10 := hI.dt (10, _) (by simp [hTL]; rfl) (hd ⟨10, .data⟩ (by simp) rfl)
              have x0W := cell_later hI.ri.b x0
              exact step_of_run rfl (v := .int .i64 m.n) (w' := W) (by simp [go_sem, execOp, a10, x0W]) (hK _ _ (hI.tell hUB 11 _ hD (by simp [hRL]) (by simp [hTL]) (by intro x hx e; simp [hUL] at hx; exfalso; rcases hx with rfl | rfl <;> simp at e) (by simp [hCL])))
            refine ⟨fun D X W hD hd hI K hK => ?_, ?_⟩
            · have a11 := hI.dt (11, _) (by simp [hTL]; rfl) (hd ⟨11, .data⟩ (by simp) rfl)
              refine step_of_run rfl (v := .slice (some ⟨W.heap.size, 0, none⟩) 1 1) (w' := W.alloc (.cells #[.int .i64 (m.n)] INT)) (by simp [go_sem, execOp, a11]) (hK _ _ ?_)
              exact hI.set hUB 12 _ hD (hI.ri.fresh hKB 12 _ ⟨[m.n], 2, 0⟩ (by simp [hRL]) (sup_below W _) rfl (by simp) ⟨rfl, .inr ⟨W.heap.size, 1, #[.int .i64 (m.n)], rfl, hI.ri.b.size, heap_alloc_new W _, Nat.le_refl _, by decide, rfl, rfl⟩⟩) (by simp [hTL]) (by intro x hx e; simp [hUL] at hx; exfalso; rcases hx with rfl | rfl <;> simp at e) (by intro x hx e; simp [hCL] at hx; first | (exfalso; simp [hx] at e; done) | (rcases hx with rfl | rfl <;> first | (exfalso; simp at e; done) | (first | exact dp | exact dq) | fail) | (subst hx; first | exact dp | exact dq) | fail)
            refine ⟨fun D X W hD hd hI K hK => ?_, ?_⟩
            · have dp : D 9 = true := hd ⟨9, .data⟩ (by simp) rfl
              have r9 := hI.ri.rows (9, ⟨m.ms, 0, 1⟩) (by simp [hRL]) (dp) (by intro y hy e1 e2; simp [hRL] at hy; rcases hy with rfl | rfl | rfl | rfl | rfl | rfl | rfl | rfl <;> first | exact hD | (exfalso; simp at e1; done) | (exfalso; simp at e2; done) | fail)
              have rq := hI.ri.rows (12, ⟨[m.n], 2, 0⟩) (by simp [hRL]) (hd ⟨12, .data⟩ (by simp) rfl) (by intro y hy e1 e2; simp [hRL] at hy; rcases hy with rfl | rfl | rfl | rfl | rfl | rfl | rfl | rfl <;> first | (exfalso; simp at e1; done) | (exfalso; simp at e2; done) | fail)
              obtain ⟨xg, xc, hxe, _, _⟩ := rq.form (by simp)
              obtain ⟨xa, xn, hxe, hxl, hxi, hxn⟩ : ∃ xa xn, X 12 = .slice xa xn xc ∧ xn = ([m.n]).length ∧ Ints W xa ([m.n]) ∧ (xa = none → xn = 0 ∧ xc = 0) := ⟨_, _, hxe, rfl, Ints.own (by rw [hxe] at rq; exact rq), fun e => by cases e⟩
              refine step_append_ints rfl (.tmp 62) (.tmp 65) 34 rfl w5.heap.size INT Tryd.underlying34 info_int (X 9) m.ms rfl r9 xa xn xc ([m.n]) hxl hxe hxi hxn (by rw [hxl]; simp only [List.length_cons, List.length_nil, List.length_append]; omega) hI.ri.b.size (fun v' W' ho hg hat => hK _ _ ?_)
              exact hI.set hUB 13 v' hD (hI.ri.append hKB 13 9 v' ⟨m.ms ++ [m.n], 0, 2⟩ ⟨m.ms, 0, 1⟩ (by simp [hRL]) (by simp [hRL]) rfl dp (by intro y hy e1 e2; simp [hRL] at hy; rcases hy with rfl | rfl | rfl | rfl | rfl | rfl | rfl | rfl <;> first | (exfalso; simp at e2; done) | (refine .inl ?_; simp; done)  | (exfalso; simp at e1; done) | fail) hg hat (by simpa using ho)) (by simp [hTL]) (by intro x hx e; simp [hUL] at hx; exfalso; rcases hx with rfl | rfl <;> simp at e) (by intro x hx e; simp [hCL] at hx; first | (exfalso; simp [hx] at e; done) | (rcases hx with rfl | rfl <;> first | (exfalso; simp at e; done) | (first | exact dp | exact dq) | fail) | (subst hx; first | exact dp | exact dq) | fail)
            refine ⟨fun D X W hD hd hI K hK => ?_, ?_⟩
            · refine step_of_run rfl (v := .slice (some ⟨W.heap.size, 0, none⟩) 0 0) (w' := W.alloc (.cells #[] INT)) (by simp [go_sem, execOp]) (hK _ _ ?_)
              exact hI.set hUB 14 _ hD (hI.ri.fresh hKB 14 _ ⟨[], 1, 0⟩ (by simp [hRL]) (sup_below W _) rfl (by simp) ⟨rfl, .inr ⟨W.heap.size, 0, #[], rfl, hI.ri.b.size, heap_alloc_new W _, Nat.le_refl _, by decide, rfl, rfl⟩⟩) (by simp [hTL]) (by intro x hx e; simp [hUL] at hx; exfalso; rcases hx with rfl | rfl <;> simp at e) (by intro x hx e; simp [hCL] at hx; first | (exfalso; simp [hx] at e; done) | (rcases hx with rfl | rfl <;> first | (exfalso; simp at e; done) | (first | exact dp | exact dq) | fail) | (subst hx; first | exact dp | exact dq) | fail)
            refine ⟨fun D X W hD hd hI K hK => ?_, ?_⟩
            · exact step_of_run rfl (v := .pointer (some ⟨gm, 3, none⟩)) (w' := W) (by simp [go_sem, execOp]) (hK _ _ (hI.tell hUB 15 _ hD (by simp [hRL]) (by simp [hTL]) (by intro x hx e; simp [hUL] at hx; exfalso; rcases hx with rfl | rfl <;> simp at e) (by simp [hCL])))
            refine ⟨fun D X W hD hd hI K hK => ?_, ?_⟩
            · have a15 := hI.dt (15, _) (by simp [hTL]; rfl) (hd ⟨15, .data⟩ (by simp) rfl)
              exact step_of_run rfl (v := .pointer (some ⟨gm, 5, none⟩)) (w' := W) (by simp [go_sem, execOp, a15]) (hK _ _ (hI.tell hUB 16 _ hD (by simp [hRL]) (by simp [hTL]) (by intro x hx e; simp [hUL] at hx; exfalso; rcases hx with rfl | rfl <;> simp at e) (by simp [hCL])))
            refine ⟨fun D X W hD hd hI K hK => ?_, ?_⟩
            · have a16 := hI.dt (16, _) (by simp [hTL]; rfl) (hd ⟨16, .data⟩ (by simp) rfl)
              have x5W := cell_later hI.ri.b x5
              exact step_of_run rfl (v := .slice as_ m.ss.length cs_) (w' := W) (by simp [go_sem, execOp, a16, x5W]) (hK _ _ (hI.tell hUB 17 _ hD (by simp [hRL]) (by simp [hTL]) (by intro x hx e; simp [hUL] at hx; exfalso; rcases hx with rfl | rfl <;> simp at e) (by simp [hCL])))
            refine ⟨fun D X W hD hd hI K hK => ?_, ?_⟩
            · have dp : D 14 = true := hd ⟨14, .data⟩ (by simp) rfl
              have hL24 : D 24 = false := by cases hh : D 24 with
                | false => rfl
                | true => have := hI.cl (24, 18) (by simp [hCL]) hh; rw [hD] at this; cases this
              have r14 := hI.ri.rows (14, ⟨[], 1, 0⟩) (by simp [hRL]) (dp) (by intro y hy e1 e2; simp [hRL] at hy; rcases hy with rfl | rfl | rfl | rfl | rfl | rfl | rfl | rfl <;> first | exact hD | exact hL24 | (exfalso; simp at e1; done) | (exfalso; simp at e2; done) | fail)
              have a17 := hI.dt (17, _) (by simp [hTL]; rfl) (hd ⟨17, .data⟩ (by simp) rfl)
              obtain ⟨xa, xn, xc, hxe, hxl, hxi, hxn⟩ : ∃ xa xn xc, X 17 = .slice xa xn xc ∧ xn = (m.ss).length ∧ Ints W xa (m.ss) ∧ (xa = none → xn = 0 ∧ xc = 0) := ⟨_, _, _, a17, rfl, HIs5.out.ints.below hI.ri.b, HSn.out⟩
              refine step_append_ints rfl (.tmp 67) (.tmp 70) 34 rfl w5.heap.size INT Tryd.underlying34 info_int (X 14) [] rfl r14 xa xn xc (m.ss) hxl hxe hxi hxn (by rw [hxl]; simp only [List.length_cons, List.length_nil, List.length_append]; omega) hI.ri.b.size (fun v' W' ho hg hat => hK _ _ ?_)
              exact hI.set hUB 18 v' hD (hI.ri.append hKB 18 14 v' ⟨m.ss, 1, 1⟩ ⟨[], 1, 0⟩ (by simp [hRL]) (by simp [hRL]) rfl dp (by intro y hy e1 e2; simp [hRL] at hy; rcases hy with rfl | rfl | rfl | rfl | rfl | rfl | rfl | rfl <;> first | (exfalso; simp at e2; done) | (refine .inl ?_; simp; done) | exact .inr hL24 | (exfalso; simp at e1; done) | fail) hg hat (by simpa using ho)) (by simp [hTL]) (by intro x hx e; simp [hUL] at hx; exfalso; rcases hx with rfl | rfl <;> simp at e) (by intro x hx e; simp [hCL] at hx; first | (exfalso; simp [hx] at e; done) | (rcases hx with rfl | rfl <;> first | (exfalso; simp at e; done) | (first | exact dp | exact dq) | fail) | (subst hx; first | exact dp | exact dq) | fail)
            refine ⟨fun D X W hD hd hI K hK => ?_, ?_⟩
            · exact step_of_run rfl (v := .int .i64 n) (w' := W) (by simp [go_sem, execOp]) (hK _ _ (hI.tell hUB 19 _ hD (by simp [hRL]) (by simp [hTL]) (by intro x hx e; simp [hUL] at hx; exfalso; rcases hx with rfl | rfl <;> simp at e) (by simp [hCL])))
            refine ⟨fun D X W hD hd hI K hK => ?_, ?_⟩
            · exact step_of_run rfl (v := .pointer (some ⟨gm, 2, none⟩)) (w' := W) (by simp [go_sem, execOp]) (hK _ _ (hI.tell hUB 20 _ hD (by simp [hRL]) (by simp [hTL]) (by intro x hx e; simp [hUL] at hx; exfalso; rcases hx with rfl | rfl <;> simp at e) (by simp [hCL])))
            refine ⟨fun D X W hD hd hI K hK => ?_, ?_⟩
            · have a20 := hI.dt (20, _) (by simp [hTL]; rfl) (hd ⟨20, .data⟩ (by simp) rfl)
              have x2W := cell_later hI.ri.b x2
              exact step_of_run rfl (v := .int .i64 m.f) (w' := W) (by simp [go_sem, execOp, a20, x2W]) (hK _ _ (hI.tell hUB 21 _ hD (by simp [hRL]) (by simp [hTL]) (by intro x hx e; simp [hUL] at hx; exfalso; rcases hx with rfl | rfl <;> simp at e) (by simp [hCL])))
            refine ⟨fun D X W hD hd hI K hK => ?_, ?_⟩
            · have a19 := hI.dt (19, _) (by simp [hTL]; rfl) (hd ⟨19, .data⟩ (by simp) rfl)
              have a21 := hI.dt (21, _) (by simp [hTL]; rfl) (hd ⟨21, .data⟩ (by simp) rfl)
              exact step_of_run rfl (v := .int .i64 (n - m.f)) (w' := W) (by simp [go_sem, execOp, a19, a21, hws]) (hK _ _ (hI.tell hUB 22 _ hD (by simp [hRL]) (by simp [hTL]) (by intro x hx e; simp [hUL] at hx; exfalso; rcases hx with rfl | rfl <;> simp at e) (by simp [hCL])))
            refine ⟨fun D X W hD hd hI K hK => ?_, ?_⟩
            · have a22 := hI.dt (22, _) (by simp [hTL]; rfl) (hd ⟨22, .data⟩ (by simp) rfl)
              refine step_of_run rfl (v := .slice (some ⟨W.heap.size, 0, none⟩) 1 1) (w' := W.alloc (.cells #[.int .i64 (n - m.f)] INT)) (by simp [go_sem, execOp, a22]) (hK _ _ ?_)
              exact hI.set hUB 23 _ hD (hI.ri.fresh hKB 23 _ ⟨[n - m.f], 3, 0⟩ (by simp [hRL]) (sup_below W _) rfl (by simp) ⟨rfl, .inr ⟨W.heap.size, 1, #[.int .i64 (n - m.f)], rfl, hI.ri.b.size, heap_alloc_new W _, Nat.le_refl _, by decide, rfl, rfl⟩⟩) (by simp [hTL]) (by intro x hx e; simp [hUL] at hx; exfalso; rcases hx with rfl | rfl <;> simp at e) (by intro x hx e; simp [hCL] at hx; first | (exfalso; simp [hx] at e; done) | (rcases hx with rfl | rfl <;> first | (exfalso; simp at e; done) | (first | exact dp | exact dq) | fail) | (subst hx; first | exact dp | exact dq) | fail)
            refine ⟨fun D X W hD hd hI K hK => ?_, ?_⟩
            · have dp : D 18 = true := hd ⟨18, .data⟩ (by simp) rfl
              have r18 := hI.ri.rows (18, ⟨m.ss, 1, 1⟩) (by simp [hRL]) (dp) (by intro y hy e1 e2; simp [hRL] at hy; rcases hy with rfl | rfl | rfl | rfl | rfl | rfl | rfl | rfl <;> first | exact hD | (exfalso; simp at e1; done) | (exfalso; simp at e2; done) | fail)
              have rq := hI.ri.rows (23, ⟨[n - m.f], 3, 0⟩) (by simp [hRL]) (hd ⟨23, .data⟩ (by simp) rfl) (by intro y hy e1 e2; simp [hRL] at hy; rcases hy with rfl | rfl | rfl | rfl | rfl | rfl | rfl | rfl <;> first | (exfalso; simp at e1; done) | (exfalso; simp at e2; done) | fail)
              obtain ⟨xg, xc, hxe, _, _⟩ := rq.form (by simp)
              obtain ⟨xa, xn, hxe, hxl, hxi, hxn⟩ : ∃ xa xn, X 23 = .slice xa xn xc ∧ xn = ([n - m.f]).length ∧ Ints W xa ([n - m.f]) ∧ (xa = none → xn = 0 ∧ xc = 0) := ⟨_, _, hxe, rfl, Ints.own (by rw [hxe] at rq; exact rq), fun e => by cases e⟩
              refine step_append_ints rfl (.tmp 71) (.tmp 76) 34 rfl w5.heap.size INT Tryd.underlying34 info_int (X 18) m.ss rfl r18 xa xn xc ([n - m.f]) hxl hxe hxi hxn (by rw [hxl]; simp only [List.length_cons, List.length_nil, List.length_append]; omega) hI.ri.b.size (fun v' W' ho hg hat => hK _ _ ?_)
              exact hI.set hUB 24 v' hD (hI.ri.append hKB 24 18 v' ⟨m.ss ++ [n - m.f], 1, 2⟩ ⟨m.ss, 1, 1⟩ (by simp [hRL]) (by simp [hRL]) rfl dp (by intro y hy e1 e2; simp [hRL] at hy; rcases hy with rfl | rfl | rfl | rfl | rfl | rfl | rfl | rfl <;> first | (exfalso; simp at e2; done) | (refine .inl ?_; simp; done)  | (exfalso; simp at e1; done) | fail) hg hat (by simpa using ho)) (by simp [hTL]) (by intro x hx e; simp [hUL] at hx; exfalso; rcases hx with rfl | rfl <;> simp at e) (by intro x hx e; simp [hCL] at hx; first | (exfalso; simp [hx] at e; done) | (rcases hx with rfl | rfl <;> first | (exfalso; simp at e; done) | (first | exact dp | exact dq) | fail) | (subst hx; first | exact dp | exact dq) | fail)
            refine ⟨fun D X W hD hd hI K hK => ?_, ?_⟩
            · have a4 := hI.dt (4, _) (by simp [hTL]; rfl) (hd ⟨4, .data⟩ (by simp) rfl)
              have d13 : D 13 = true := hd ⟨13, .data⟩ (by simp) rfl
              have d24 : D 24 = true := hd ⟨24, .data⟩ (by simp) rfl
              have r13 := hI.ri.rows (13, ⟨m.ms ++ [m.n], 0, 2⟩) (by simp [hRL]) (d13) (by intro y hy e1 e2; simp [hRL] at hy; rcases hy with rfl | rfl | rfl | rfl | rfl | rfl | rfl | rfl <;> first | (exfalso; simp at e1; done) | (exfalso; simp at e2; done) | fail)
              obtain ⟨xa13, xc13, h13, _⟩ := own_slice r13
              have r24 := hI.ri.rows (24, ⟨m.ss ++ [n - m.f], 1, 2⟩) (by simp [hRL]) (d24) (by intro y hy e1 e2; simp [hRL] at hy; rcases hy with rfl | rfl | rfl | rfl | rfl | rfl | rfl | rfl <;> first | (exfalso; simp at e1; done) | (exfalso; simp at e2; done) | fail)
              obtain ⟨xa24, xc24, h24, _⟩ := own_slice r24
              exact step_of_run rfl (v := .agg #[.int .i64 m.r, X 13, X 24]) (w' := W) (by simp [go_sem, execOp, a4, h13, h24]) (hK _ _ (hI.tell hUB 25 _ hD (by simp [hRL]) (by simp [hTL]) (by intro x hx e; simp [hUL] at hx; rcases hx with rfl | rfl <;> first | (exfalso; simp at e; done) | exact ⟨rfl, by simp [d13, d24]⟩ | fail) (by simp [hCL])))
            refine ⟨fun D X W hD hd hI K hK => ?_, ?_⟩
            · have a0 := hI.dt (0, _) (by simp [hTL]; rfl) (hd ⟨0, .data⟩ (by simp) rfl)
              have a1 := hI.dt (1, _) (by simp [hTL]; rfl) (hd ⟨1, .data⟩ (by simp) rfl)
              have d25 : D 25 = true := hd ⟨25, .data⟩ (by simp) rfl
              have u25 := (hI.us _ (show (⟨25, fun X => .agg #[.int .i64 m.r, X 13, X 24], [13, 24]⟩ : UseT) ∈ UL by simp [hUL]) d25).1
              have d13 := (hI.us _ (show (⟨25, fun X => .agg #[.int .i64 m.r, X 13, X 24], [13, 24]⟩ : UseT) ∈ UL by simp [hUL]) d25).2 13 (by simp)
              have r13 := hI.ri.rows (13, ⟨m.ms ++ [m.n], 0, 2⟩) (by simp [hRL]) (d13) (by intro y hy e1 e2; simp [hRL] at hy; rcases hy with rfl | rfl | rfl | rfl | rfl | rfl | rfl | rfl <;> first | (exfalso; simp at e1; done) | (exfalso; simp at e2; done) | fail)
              obtain ⟨xa13, xc13, h13, _⟩ := own_slice r13
              have d24 := (hI.us _ (show (⟨25, fun X => .agg #[.int .i64 m.r, X 13, X 24], [13, 24]⟩ : UseT) ∈ UL by simp [hUL]) d25).2 24 (by simp)
              have r24 := hI.ri.rows (24, ⟨m.ss ++ [n - m.f], 1, 2⟩) (by simp [hRL]) (d24) (by intro y hy e1 e2; simp [hRL] at hy; rcases hy with rfl | rfl | rfl | rfl | rfl | rfl | rfl | rfl <;> first | (exfalso; simp at e1; done) | (exfalso; simp at e2; done) | fail)
              obtain ⟨xa24, xc24, h24, _⟩ := own_slice r24
              exact step_of_run rfl (v := .agg #[.int .i64 n, .int .i64 0, .int .i64 n, .int .i64 m.r, X 13, X 24]) (w' := W) (by simp [go_sem, execOp, a0, a1, u25, h13, h24]) (hK _ _ (hI.tell hUB 26 _ hD (by simp [hRL]) (by simp [hTL]) (by intro x hx e; simp [hUL] at hx; rcases hx with rfl | rfl <;> first | (exfalso; simp at e; done) | exact ⟨rfl, by simp [d25, d13, d24]⟩ | fail) (by simp [hCL])))
            exact True.intro
          · intro D X W hD hI
            have r13 := hI.ri.rows (13, ⟨m.ms ++ [m.n], 0, 2⟩) (by simp [hRL]) (hD 13 (by decide)) (by intro y hy e1 e2; simp [hRL] at hy; rcases hy with rfl | rfl | rfl | rfl | rfl | rfl | rfl | rfl <;> first | (exfalso; simp at e1; done) | (exfalso; simp at e2; done) | fail)
            have r24 := hI.ri.rows (24, ⟨m.ss ++ [n - m.f], 1, 2⟩) (by simp [hRL]) (hD 24 (by decide)) (by intro y hy e1 e2; simp [hRL] at hy; rcases hy with rfl | rfl | rfl | rfl | rfl | rfl | rfl | rfl <;> first | (exfalso; simp at e1; done) | (exfalso; simp at e2; done) | fail)
            obtain ⟨g9, c9, h9, _, _⟩ := r13.form (by simp)
            obtain ⟨g16, c16, h16, _, _⟩ := r24.form (by simp)
            have x26 := (hI.us _ (show (⟨26, fun X => .agg #[.int .i64 n, .int .i64 0, .int .i64 n, .int .i64 m.r, X 13, X 24], [25, 13, 24]⟩ : UseT) ∈ UL by simp [hUL]) (hD 26 (by decide))).1
            have h9b : X 13 = _ := h9
            have h16b : X 24 = _ := h16
            have x26b : X 26 = .agg #[.int .i64 n, .int .i64 0, .int .i64 n, .int .i64 m.r, X 13, X 24] := x26
            rw [h9b, h16b] at x26b
            have HSw := Lib.hid (HS5.out.later hI.ri.b)
            have HR9 := Lib.hid (IntB.own (by rw [← h9]; exact r13))
            have HR16 := Lib.hid (IntB.own (by rw [← h16]; exact r24))
            clear hI r13 r24 hD z0 z1 z2 z3 z4 z5 f0 f1 f2 f3 f4 f5 x0 x1 x2 x3 x4 x5
            simp only [List.drop_succ_cons, List.drop_zero]
            rw [x26b]
            have z0 := HSw.out.z.cell 0
            have z1 := HSw.out.z.cell 1
            have z2 := HSw.out.z.cell 2
            have z3 := HSw.out.z.cell 3
            have z4 := HSw.out.z.cell 4
            have z5 := HSw.out.z.cell 5
            have f0 := HSw.out.z.frozen 0
            have f1 := HSw.out.z.frozen 1
            have f2 := HSw.out.z.frozen 2
            have f3 := HSw.out.z.frozen 3
            have f4 := HSw.out.z.frozen 4
            have f5 := HSw.out.z.frozen 5
            simp [zm8] at z0 z1 z2 z3 z4 z5
            go_wp2_with fail
            refine bodyPost_ret (v := .tuple #[.agg #[.int .i64 n, .int .i64 0, .int .i64 n, .int .i64 m.r, .slice (some ⟨g9, 0, none⟩) (m.ms.length + 1) c9, .slice (some ⟨g16, 0, none⟩) (m.ms.length + 1) c16], .bool true]) ?_ rfl ?_
            · simp [results, Tryd.results85, go_sem, z0, z1, z2, z3, z4, z5]
            · rw [HPO.out]
              exact ⟨some ⟨g9, 0, none⟩, c9, some ⟨g16, 0, none⟩, c16, by simp [hsl], intb_six HSw.out.z HR9.out, intb_six HSw.out.z HR16.out, fun e => (by cases e), fun e => (by cases e), below_6 HSw.out.b (Nat.le_refl _)⟩
        · rw [if_neg hd] at hF
          have HF := Lib.hid hF
          clear hF HS HM5
          by_cases d1 : m.lv = 1
          · have b1 : (m.lv == 1) = true := by simpa using d1
            by_cases d2 : m.f ≤ n
            · by_cases d3 : n < m.f + 16
              · have d4 : ¬ n < 600 := fun h => hd ⟨d1, d2, d3, h⟩
                clear d1 hd
                go_wp2_with fail
                go_roundw
                case rel => exact ⟨k + 1, HKn.out, by simp, HF.out, HS5.out⟩
                case measure => simp [intOf]; have := HKn.out; omega
              · clear d1 hd
                go_wp2_with fail
                go_roundw
                case rel => exact ⟨k + 1, HKn.out, by simp, HF.out, HS5.out⟩
                case measure => simp [intOf]; have := HKn.out; omega
            · clear d1 hd
              go_wp2_with fail
              go_roundw
              case rel => exact ⟨k + 1, HKn.out, by simp, HF.out, HS5.out⟩
              case measure => simp [intOf]; have := HKn.out; omega
          · have b1 : (m.lv == 1) = false := by simpa using d1
            clear d1 hd
            go_wp2_with fail
            go_roundw
            case rel => exact ⟨k + 1, HKn.out, by simp, HF.out, HS5.out⟩
            case measure => simp [intOf]; have := HKn.out; omega
    · have k1 : ¬ (k : Int) < 42 := by omega
      obtain rfl : k = 42 := by omega
      have hF := HF.out
      rw [show allM.drop 42 = [] from List.drop_eq_nil_of_le (by rw [allM_len]; decide)] at hF
      have hF2 : fm = none := hF.symm
      subst hF2
      have z0 := HS.out.z.cell 0
      have z1 := HS.out.z.cell 1
      have z2 := HS.out.z.cell 2
      have z3 := HS.out.z.cell 3
      have z4 := HS.out.z.cell 4
      have z5 := HS.out.z.cell 5
      have f0 := HS.out.z.frozen 0
      have f1 := HS.out.z.frozen 1
      have f2 := HS.out.z.frozen 2
      have f3 := HS.out.z.frozen 3
      have f4 := HS.out.z.frozen 4
      have f5 := HS.out.z.frozen 5
      simp [zm8] at z0 z1 z2 z3 z4 z5
      have HB := Lib.hid HS.out.b
      clear HS HF hF
      go_wp2
      refine bodyPost_ret (v := .tuple #[.agg zm8, .bool false]) ?_ rfl ?_
      · simp [results, Tryd.results85, go_sem, z0, z1, z2, z3, z4, z5, zm8]
      · rw [HPO.out]
        exact ⟨rfl, below_6 HB.out (Nat.le_refl _)⟩
/-- Find, whatever the number. -/
theorem find_any (n : Int) (w : World) (hn1 : -9223372036854775808 ≤ n) (hn2 : n ≤ 9223372036854775807) : Calls Tryd.prog 85 #[.int .i64 n] w (FindO w (wantM n)) := by
  rw [← find_want, findM]
  by_cases h : 0 ≤ n ∧ n < 6
  · rw [if_pos h]; exact find_small n w h.1 h.2
  · rw [if_neg h]
    by_cases h0 : n < 0
    · exact find_neg n w h0 hn1 hn2 _ rfl
    · exact find_pos n w (by omega) hn1 hn2 _ rfl
end Go.Proofs.YtlkgaefabahkoaaDoor
/-
  The document's Check of any summary.
-/
namespace Go.Proofs.YtlkgaefabahkoaaDoor
open Go.RowKit

theorem rfind_ok (n : Int) (w : World) (hn1 : -9223372036854775808 ≤ n) (hn2 : n ≤ 9223372036854775807) (h : isB n = true) : Calls Tryd.prog 85 #[.int .i64 n] w fun e w' =>
    ∃ (x1 x2 x3 x4 : Int) (a1 : Option Addr) (n1 c1 : Nat) (a2 : Option Addr) (n2 c2 : Nat), e = .returned (.tuple #[.agg #[.int .i64 x1, .int .i64 x2, .int .i64 x3, .int .i64 x4, .slice a1 n1 c1, .slice a2 n2 c2], .bool true]) ∧ Below w.heap.size w w' := by
  refine (find_any n w hn1 hn2).mono ?_
  intro e w' hf
  rw [wantM, if_pos h] at hf
  obtain ⟨am, cm, as_, cs_, he, _, _, _, _, hb⟩ := hf
  exact ⟨_, _, _, _, _, _, _, _, _, _, he, hb⟩
theorem rfind_no (n : Int) (w : World) (hn1 : -9223372036854775808 ≤ n) (hn2 : n ≤ 9223372036854775807) (h : isB n = false) : Calls Tryd.prog 85 #[.int .i64 n] w fun e w' =>
    e = .returned (.tuple #[.agg #[.int .i64 0, .int .i64 0, .int .i64 0, .int .i64 0, .slice none 0 0, .slice none 0 0], .bool false]) ∧ Below w.heap.size w w' := by
  refine (find_any n w hn1 hn2).mono ?_
  intro e w' hf
  rw [wantM, if_neg (by rw [h]; decide)] at hf
  exact hf
section
variable {e c i p x : Int} {l : List Fi} {is : List Int}
theorem chk_num (h : ¬ (0 ≤ e ∧ e ≤ 65535 ∧ 0 ≤ c ∧ c ≤ 65535 ∧ 1 ≤ p ∧ p ≤ 64 ∧ 0 ≤ i ∧ i < p ∧ 0 ≤ x ∧ x ≤ 4095)) : chkC e c i p x l is = 22 := by
  unfold chkC outB
  simp only [Bool.or_eq_true, decide_eq_true_eq]
  split
  · rfl
  · split
    · rfl
    · split
      · rfl
      · exact absurd (by omega) h
theorem chk_rest (h : 0 ≤ e ∧ e ≤ 65535 ∧ 0 ≤ c ∧ c ≤ 65535 ∧ 1 ≤ p ∧ p ≤ 64 ∧ 0 ≤ i ∧ i < p ∧ 0 ≤ x ∧ x ≤ 4095) : chkC e c i p x l is = if l.any badF then 22 else if is.any badI then 22 else if 88 < 10 + is.length + szF l then 27 else 0 := by
  unfold chkC outB
  simp only [Bool.or_eq_true, decide_eq_true_eq]
  rw [if_neg (by omega), if_neg (by omega), if_neg (by omega)]
theorem chk_file {f : Fi} (hf : f ∈ l) (hb : badF f = true) : chkC e c i p x l is = 22 := by
  by_cases h : 0 ≤ e ∧ e ≤ 65535 ∧ 0 ≤ c ∧ c ≤ 65535 ∧ 1 ≤ p ∧ p ≤ 64 ∧ 0 ≤ i ∧ i < p ∧ 0 ≤ x ∧ x ≤ 4095
  · rw [chk_rest h, if_pos (List.any_eq_true.2 ⟨f, hf, hb⟩)]
  · exact chk_num h
theorem chk_int {n : Int} (hl : l.any badF = false) (hf : n ∈ is) (hb : badI n = true) : chkC e c i p x l is = 22 := by
  by_cases h : 0 ≤ e ∧ e ≤ 65535 ∧ 0 ≤ c ∧ c ≤ 65535 ∧ 1 ≤ p ∧ p ≤ 64 ∧ 0 ≤ i ∧ i < p ∧ 0 ≤ x ∧ x ≤ 4095
  · rw [chk_rest h, if_neg (by rw [hl]; decide), if_pos (List.any_eq_true.2 ⟨n, hf, hb⟩)]
  · exact chk_num h
end
theorem out_ge {v a b : Int} (h : v < a ∨ b < v) : outB v a b = true := by
  unfold outB
  simp only [Bool.or_eq_true, decide_eq_true_eq]; exact h
theorem out_in {v a b : Int} (h1 : ¬ v < a) (h2 : ¬ b < v) : outB v a b = false := by
  unfold outB
  simp only [Bool.or_eq_false_iff, decide_eq_false_iff_not]; exact ⟨h1, h2⟩

set_option maxRecDepth 20000 in
set_option maxHeartbeats 8000000 in
theorem rcheck_any {w : World} (e c i p x : Int) (l : List Fi) (is : List Int) (fa : Option Addr) (fn fc : Nat) (ia : Option Addr) (inn ic : Nat) (hF : Fis w fa l) (hn : fn = l.length) (hs : szF l ≤ 1000000000) (hI : Ints w ia is) (hin : inn = is.length) (hi9 : inn ≤ 1000000000) (hlb : ∀ x ∈ l, ∀ n ∈ x.lb, -9223372036854775808 ≤ n ∧ n ≤ 9223372036854775807) :
    Calls Tryd.prog 54 #[part e c i p x fa fn fc ia inn ic] w fun en w' => en = .returned (.int .i64 (chkC e c i p x l is)) ∧ Below w.heap.size w w' := by
  have hsup := sup_pc w (.cells #[.int .i64 e, .int .i64 c, .int .i64 i, .int .i64 p, .int .i64 x, .slice fa fn fc, .slice ia inn ic] 36)
  have HB := Lib.hid hsup
  have HX := Lib.hid (blo_laid w 36 #[.int .i64 e, .int .i64 c, .int .i64 i, .int .i64 p, .int .i64 x, .slice fa fn fc, .slice ia inn ic])
  have hF0 := Lib.hid (hF.later hsup)
  have hI0 := Lib.hid (hI.below hsup)
  have hfn9 : fn ≤ 1000000000 := by have := len_szF l; omega
  have HSz := Lib.hid (fun W (hW : Below w.heap.size w W) => rsize_any (w := W) (l := l) e c i p x fa fn fc ia inn ic (hF.later hW) hn hs hi9)
  have HN := Lib.hid hn
  have HIn := Lib.hid hin
  have HLb := Lib.hid hlb
  have HNum : Hid (¬ (0 ≤ e ∧ e ≤ 65535 ∧ 0 ≤ c ∧ c ≤ 65535 ∧ 1 ≤ p ∧ p ≤ 64 ∧ 0 ≤ i ∧ i < p ∧ 0 ≤ x ∧ x ≤ 4095) → chkC e c i p x l is = 22) := chk_num
  have HRest : Hid (0 ≤ e ∧ e ≤ 65535 ∧ 0 ≤ c ∧ c ≤ 65535 ∧ 1 ≤ p ∧ p ≤ 64 ∧ 0 ≤ i ∧ i < p ∧ 0 ≤ x ∧ x ≤ 4095 → chkC e c i p x l is = if l.any badF then 22 else if is.any badI then 22 else if 88 < 10 + is.length + szF l then 27 else 0) := chk_rest
  have HFl : Hid (∀ f, f ∈ l → badF f = true → chkC e c i p x l is = 22) := fun f => chk_file
  have HIl : Hid (l.any badF = false → ∀ n, n ∈ is → badI n = true → chkC e c i p x l is = 22) := fun h n => chk_int h
  have HSl : Hid (∀ x ∈ l, x.lb.length ≤ 1000000000) := fun x hx => by
    have h1 : 4 + 2 * x.lb.length ≤ szF l := by
      unfold szF
      have : ∀ (l : List Nat) (y : Nat), y ∈ l → y ≤ l.sum := fun l y hy => by
        induction l with
        | nil => cases hy
        | cons a l ih =>
          rw [List.sum_cons]
          rcases List.mem_cons.1 hy with rfl | hy
          · omega
          · have := ih hy; omega
      exact this _ _ (List.mem_map.2 ⟨x, hx, rfl⟩)
    omega
  clear hF hn hs hI hin hlb hsup
  obtain ⟨V, hV⟩ : ∃ V, chkC e c i p x l is = V := ⟨_, rfl⟩
  rw [hV] at HNum HRest HFl HIl
  rw [hV]
  clear hV
  by_cases t0 : e < 0
  · have HV := Lib.hid (HNum.out (by omega))
    clear HNum HRest HFl HIl HSz
    go_enter Tryd.func54, Tryd.ntmps54
    go_wp2
    go_ret
    exact ⟨by rw [HV.out]; rfl, HB.out⟩
  by_cases t1 : 65535 < e
  · have HV := Lib.hid (HNum.out (by omega))
    clear HNum HRest HFl HIl HSz
    go_enter Tryd.func54, Tryd.ntmps54
    go_wp2
    go_ret
    exact ⟨by rw [HV.out]; rfl, HB.out⟩
  by_cases t2 : c < 0
  · have HV := Lib.hid (HNum.out (by omega))
    clear HNum HRest HFl HIl HSz
    go_enter Tryd.func54, Tryd.ntmps54
    go_wp2
    go_ret
    exact ⟨by rw [HV.out]; rfl, HB.out⟩
  by_cases t3 : 65535 < c
  · have HV := Lib.hid (HNum.out (by omega))
    clear HNum HRest HFl HIl HSz
    go_enter Tryd.func54, Tryd.ntmps54
    go_wp2
    go_ret
    exact ⟨by rw [HV.out]; rfl, HB.out⟩
  by_cases t4 : p < 1
  · have HV := Lib.hid (HNum.out (by omega))
    clear HNum HRest HFl HIl HSz
    go_enter Tryd.func54, Tryd.ntmps54
    go_wp2
    go_ret
    exact ⟨by rw [HV.out]; rfl, HB.out⟩
  by_cases t5 : 64 < p
  · have HV := Lib.hid (HNum.out (by omega))
    clear HNum HRest HFl HIl HSz
    go_enter Tryd.func54, Tryd.ntmps54
    go_wp2
    go_ret
    exact ⟨by rw [HV.out]; rfl, HB.out⟩
  by_cases t6 : i < 0
  · have HV := Lib.hid (HNum.out (by omega))
    clear HNum HRest HFl HIl HSz
    go_enter Tryd.func54, Tryd.ntmps54
    go_wp2
    go_ret
    exact ⟨by rw [HV.out]; rfl, HB.out⟩
  by_cases t7 : p ≤ i
  · have HV := Lib.hid (HNum.out (by omega))
    clear HNum HRest HFl HIl HSz
    go_enter Tryd.func54, Tryd.ntmps54
    go_wp2
    go_ret
    exact ⟨by rw [HV.out]; rfl, HB.out⟩
  by_cases t8 : x < 0
  · have HV := Lib.hid (HNum.out (by omega))
    clear HNum HRest HFl HIl HSz
    go_enter Tryd.func54, Tryd.ntmps54
    go_wp2
    go_ret
    exact ⟨by rw [HV.out]; rfl, HB.out⟩
  by_cases t9 : 4095 < x
  · have HV := Lib.hid (HNum.out (by omega))
    clear HNum HRest HFl HIl HSz
    go_enter Tryd.func54, Tryd.ntmps54
    go_wp2
    go_ret
    exact ⟨by rw [HV.out]; rfl, HB.out⟩
  have HRs := Lib.hid (HRest.out (by omega))
  clear HNum HRest
  go_enter Tryd.func54, Tryd.ntmps54
  go_wp2_with fail
  generalize (w.alloc (.cells #[.int .i64 e, .int .i64 c, .int .i64 i, .int .i64 p, .int .i64 x, .slice fa fn fc, .slice ia inn ic] 36)) = w0 at *
  clear t0 t1 t2 t3 t4 t5 t6 t7 t8 t9
  go_loopw [62] (fun t wr => ∃ k : Nat, k ≤ fn ∧ t = .int .i64 k ∧ (l.take k).any badF = false ∧ Below w0.heap.size w0 wr) (fun t _ => fn - (intOf t).toNat)
  case atStart => exact ⟨0, Nat.zero_le _, rfl, rfl, Below.refl _ _⟩
  case round =>
    obtain ⟨k, hk, rfl, hno, hB⟩ := hrel
    have HNo := Lib.hid hno
    have HBr := Lib.hid hB
    have HW := Lib.hid (HB.out.trans (hB.mono HB.out.size))
    have c5 : wr.cell? ⟨w.heap.size, 5, none⟩ = some (.slice fa fn fc) := (HX.out.later hB).cell 5
    clear hno hB
    by_cases hlt : k < fn
    · have hkl : k < l.length := by rw [← HN.out]; exact hlt
      obtain ⟨b, o, cc, cp, rfl, q1, q2, q3, q4⟩ := (hF0.out.later HBr.out).at hkl
      have htk := take_snocF l fi0 k hkl
      have hmem : l.getD k fi0 ∈ l := by rw [List.getD_eq_getElem?_getD, List.getElem?_eq_getElem hkl]; exact List.getElem_mem _
      obtain ⟨f, hf⟩ : ∃ f, l.getD k fi0 = f := ⟨_, rfl⟩
      rw [hf] at q1 q2 q3 q4 htk hmem
      have HTk := Lib.hid htk
      have HBad := Lib.hid (HFl.out f hmem)
      have HLf := Lib.hid (HLb.out f hmem)
      have hmm := HSl.out f hmem
      have HQ := Lib.hid (q4.below (sup_pc wr (.cells #[.int .i64 f.ino, .int .i64 f.ver, .slice cc f.lb.length cp] FN)))
      have HFb := Lib.hid (blo_laid wr FN #[.int .i64 f.ino, .int .i64 f.ver, .slice cc f.lb.length cp])
      have HBa := Lib.hid (sup_pc wr (.cells #[.int .i64 f.ino, .int .i64 f.ver, .slice cc f.lb.length cp] FN))
      have HBf : Hid (badF f = (outB f.ino 1 200 || outB f.ver 0 65535 || outB (f.lb.length : Int) 1 30 || f.lb.any (fun n => !isB n))) := rfl
      obtain ⟨ys, hys⟩ : ∃ ys, f.lb = ys := ⟨_, rfl⟩
      obtain ⟨v1, hv1⟩ : ∃ v1, f.ino = v1 := ⟨_, rfl⟩
      obtain ⟨v2, hv2⟩ : ∃ v2, f.ver = v2 := ⟨_, rfl⟩
      rw [hys] at q3 HLf hmm HQ HFb HBa HBf
      rw [hv1] at q1 HQ HFb HBa HBf
      rw [hv2] at q2 HQ HFb HBa HBf
      obtain ⟨m, hm⟩ : ∃ m, ys.length = m := ⟨_, rfl⟩
      rw [hm] at q3 hmm HQ HFb HBa HBf
      have HM := Lib.hid hm
      have k0 : (0 : Int) ≤ (k : Int) := by omega
      have k1 : (k : Int) < (fn : Int) := by omega
      clear hkl htk hmem hf q4 hys hv1 hv2 hm
      by_cases s0 : v1 < 1
      · have HV := Lib.hid (HBad.out (by rw [HBf.out, out_ge (v := v1) (a := 1) (b := 200) (.inl s0)]; simp))
        have HBx := Lib.hid (HW.out.trans (HBa.out.mono HW.out.size))
        clear HSz HRs HBad HBf HFl HIl
        go_wp2
        go_ret
        exact ⟨by rw [HV.out]; rfl, HBx.out⟩
      by_cases s1 : 200 < v1
      · have HV := Lib.hid (HBad.out (by rw [HBf.out, out_ge (v := v1) (a := 1) (b := 200) (.inr s1)]; simp))
        have HBx := Lib.hid (HW.out.trans (HBa.out.mono HW.out.size))
        clear HSz HRs HBad HBf HFl HIl
        go_wp2
        go_ret
        exact ⟨by rw [HV.out]; rfl, HBx.out⟩
      by_cases s2 : v2 < 0
      · have HV := Lib.hid (HBad.out (by rw [HBf.out, out_ge (v := v2) (a := 0) (b := 65535) (.inl s2)]; simp))
        have HBx := Lib.hid (HW.out.trans (HBa.out.mono HW.out.size))
        clear HSz HRs HBad HBf HFl HIl
        go_wp2
        go_ret
        exact ⟨by rw [HV.out]; rfl, HBx.out⟩
      by_cases s3 : 65535 < v2
      · have HV := Lib.hid (HBad.out (by rw [HBf.out, out_ge (v := v2) (a := 0) (b := 65535) (.inr s3)]; simp))
        have HBx := Lib.hid (HW.out.trans (HBa.out.mono HW.out.size))
        clear HSz HRs HBad HBf HFl HIl
        go_wp2
        go_ret
        exact ⟨by rw [HV.out]; rfl, HBx.out⟩
      by_cases s4 : (m : Int) < 1
      · have HV := Lib.hid (HBad.out (by rw [HBf.out, out_ge (v := (m : Int)) (a := 1) (b := 30) (.inl s4)]; simp))
        have HBx := Lib.hid (HW.out.trans (HBa.out.mono HW.out.size))
        clear HSz HRs HBad HBf HFl HIl
        go_wp2
        go_ret
        exact ⟨by rw [HV.out]; rfl, HBx.out⟩
      by_cases s5 : (30 : Int) < (m : Int)
      · have HV := Lib.hid (HBad.out (by rw [HBf.out, out_ge (v := (m : Int)) (a := 1) (b := 30) (.inr s5)]; simp))
        have HBx := Lib.hid (HW.out.trans (HBa.out.mono HW.out.size))
        clear HSz HRs HBad HBf HFl HIl
        go_wp2
        go_ret
        exact ⟨by rw [HV.out]; rfl, HBx.out⟩
      have HG : Hid (badF f = ys.any (fun n => !isB n)) := by show _ = _; rw [HBf.out, out_in s0 s1, out_in s2 s3, out_in s4 s5]; simp
      clear HBf
      go_wp2_with fail
      have HBk := Lib.hid (HBr.out.trans (HBa.out.mono HBr.out.size))
      have HWk := Lib.hid (HW.out.trans (HBa.out.mono HW.out.size))
      have hsz1 : wr.heap.size < (wr.alloc (.cells #[.int .i64 v1, .int .i64 v2, .slice cc m cp] FN)).heap.size := by simp
      generalize (wr.alloc (.cells #[.int .i64 v1, .int .i64 v2, .slice cc m cp] FN)) = wa at *
      clear q1 q2 q3 c5 s0 s1 s2 s3 s4 s5 HBr
      generalize wr.heap.size = gf at *
      go_loopw [103] (fun t wx => ∃ j : Nat, j ≤ m ∧ t = .int .i64 j ∧ (ys.take j).any (fun n => !isB n) = false ∧ Below wa.heap.size wa wx) (fun t _ => m - (intOf t).toNat)
      case atStart => exact ⟨0, Nat.zero_le _, rfl, rfl, Below.refl _ _⟩
      case round =>
        obtain ⟨j, hj, rfl, hno2, hB2⟩ := hrel
        have HNo2 := Lib.hid hno2
        have HB2 := Lib.hid hB2
        clear hno2 hB2
        by_cases hlj : j < m
        · have hjl : j < ys.length := by rw [HM.out]; exact hlj
          obtain ⟨eb, eo, rfl, he⟩ := HQ.out (fun h => by rw [h] at hjl; cases hjl)
          have e0 := cell_later HB2.out (he j hjl)
          have e2 : World.cell? _ ⟨gf, 2, none⟩ = some (.slice (some ⟨eb, eo, none⟩) m cp) := (HFb.out.later HB2.out).cell 2
          have hyk := take_snocF ys 0 j hjl
          have hym : ys.getD j 0 ∈ ys := by rw [List.getD_eq_getElem?_getD, List.getElem?_eq_getElem hjl]; exact List.getElem_mem _
          obtain ⟨y, hy⟩ : ∃ y, ys.getD j 0 = y := ⟨_, rfl⟩
          rw [hy] at e0 hyk hym
          have HYk := Lib.hid hyk
          have hlo := HLf.out y hym
          have HYm := Lib.hid hym
          have j0 : (0 : Int) ≤ (j : Int) := by omega
          have j1 : (j : Int) < (m : Int) := by omega
          clear hjl he hyk hym hy
          cases hyb : isB y with
          | false =>
            have HV := Lib.hid (HBad.out (by rw [HG.out]; exact List.any_eq_true.2 ⟨y, HYm.out, by rw [hyb]; rfl⟩))
            have HFd := Lib.hid (fun W => rfind_no y W hlo.1 hlo.2 hyb)
            clear hyb hlo HSz HRs HBad HFl HIl
            go_wp2_with fail
            refine (HFd.out _).mono ?_
            rintro en w1 ⟨rfl, hb1⟩
            have HE := Lib.hid ((HWk.out.trans (HB2.out.mono HWk.out.size)).trans (hb1.mono (HWk.out.trans (HB2.out.mono HWk.out.size)).size))
            clear hb1 e0 e2
            go_wp2
            go_ret
            exact ⟨by rw [HV.out]; rfl, HE.out.alloc HE.out.size _⟩
          | true =>
            have HFd := Lib.hid (fun W => rfind_ok y W hlo.1 hlo.2 hyb)
            have HA : Hid ((ys.take (j + 1)).any (fun n => !isB n) = false) := by
              show _ = _
              rw [HYk.out, List.any_append, HNo2.out, List.any_cons, hyb]; rfl
            clear hyb hlo
            go_wp2_with fail
            refine (HFd.out _).mono ?_
            rintro en w1 ⟨x1, x2, x3, x4, a1, n1, c1, a2, n2, c2, rfl, hb1⟩
            have HE := Lib.hid (HB2.out.trans (hb1.mono HB2.out.size))
            clear hb1 e0 e2 HFd
            go_wp2_with fail
            go_roundw
            case rel => exact ⟨j + 1, by omega, by simp, HA.out, HE.out.alloc HE.out.size _⟩
            case measure => simp [intOf]; omega
        · have hkn : ys.take j = ys := by rw [List.take_of_length_le]; have := HM.out; omega
          rw [hkn] at HNo2
          have j1 : ¬ (j : Int) < (m : Int) := by omega
          have HA : Hid ((l.take (k + 1)).any badF = false) := by
            show _ = _
            rw [HTk.out, List.any_append, HNo.out, List.any_cons, HG.out, HNo2.out]; rfl
          have HE := Lib.hid (HBk.out.trans (HB2.out.mono HBk.out.size))
          clear hkn
          go_wp2_with fail
          go_roundw
          case rel => exact ⟨k + 1, by omega, by simp, HA.out, HE.out⟩
          case measure => simp [intOf]; omega
    · have hkn : l.take k = l := by rw [List.take_of_length_le]; have := HN.out; omega
      rw [hkn] at HNo
      have k1 : ¬ (k : Int) < (fn : Int) := by omega
      have c6 : wr.cell? ⟨w.heap.size, 6, none⟩ = some (.slice ia inn ic) := (HX.out.later HBr.out).cell 6
      clear hkn
      go_wp2_with fail
      clear c5 c6
      go_loopw [122] (fun t wx => ∃ j : Nat, j ≤ inn ∧ t = .int .i64 j ∧ (is.take j).any badI = false ∧ Below w0.heap.size w0 wx) (fun t _ => inn - (intOf t).toNat)
      case atStart => exact ⟨0, Nat.zero_le _, rfl, rfl, HBr.out⟩
      case round =>
        obtain ⟨j, hj, rfl, hno2, hB2⟩ := hrel
        have HNo2 := Lib.hid hno2
        have HB2 := Lib.hid hB2
        have HW2 := Lib.hid (HB.out.trans (hB2.mono HB.out.size))
        have HX2 := Lib.hid (HX.out.later hB2)
        have HI2 := Lib.hid (hI0.out.below hB2)
        clear hno2 hB2
        by_cases hlj : j < inn
        · have hjl : j < is.length := by rw [← HIn.out]; exact hlj
          obtain ⟨eb, eo, rfl, he⟩ := HI2.out (fun h => by rw [h] at hjl; cases hjl)
          have e0 := he j hjl
          have e2 : World.cell? _ ⟨w.heap.size, 6, none⟩ = some (.slice (some ⟨eb, eo, none⟩) inn ic) := HX2.out.cell 6
          have hyk := take_snocF is 0 j hjl
          have hym : is.getD j 0 ∈ is := by rw [List.getD_eq_getElem?_getD, List.getElem?_eq_getElem hjl]; exact List.getElem_mem _
          obtain ⟨y, hy⟩ : ∃ y, is.getD j 0 = y := ⟨_, rfl⟩
          rw [hy] at e0 hyk hym
          have HYk := Lib.hid hyk
          have HBad := Lib.hid (HIl.out HNo.out y hym)
          have j0 : (0 : Int) ≤ (j : Int) := by omega
          have j1 : (j : Int) < (inn : Int) := by omega
          clear hjl he hyk hym hy
          by_cases s0 : y < 1
          · have HV := Lib.hid (HBad.out (out_ge (.inl s0)))
            clear HSz HRs HBad HFl HIl
            go_wp2
            go_ret
            exact ⟨by rw [HV.out]; rfl, HW2.out⟩
          by_cases s1 : 200 < y
          · have HV := Lib.hid (HBad.out (out_ge (.inr s1)))
            clear HSz HRs HBad HFl HIl
            go_wp2
            go_ret
            exact ⟨by rw [HV.out]; rfl, HW2.out⟩
          have HA : Hid ((is.take (j + 1)).any badI = false) := by
            show _ = _
            rw [HYk.out, List.any_append, HNo2.out, List.any_cons, show badI y = false from out_in s0 s1]; rfl
          go_wp2_with fail
          go_roundw
          case rel => exact ⟨j + 1, by omega, by simp, HA.out, HB2.out⟩
          case measure => simp [intOf]; omega
        · have hkn : is.take j = is := by rw [List.take_of_length_le]; have := HIn.out; omega
          rw [hkn] at HNo2
          have j1 : ¬ (j : Int) < (inn : Int) := by omega
          have d0 := HX2.out.cell 0
          have d1 := HX2.out.cell 1
          have d2 := HX2.out.cell 2
          have d3 := HX2.out.cell 3
          have d4 := HX2.out.cell 4
          have d5 := HX2.out.cell 5
          have d6 := HX2.out.cell 6
          simp only [List.getElem?_toArray, List.getElem?_cons_zero, List.getElem?_cons_succ] at d0 d1 d2 d3 d4 d5 d6
          have hrs := HRs.out
          rw [HNo.out, HNo2.out, if_neg (by decide), if_neg (by decide), ← HIn.out] at hrs
          clear hkn
          by_cases g8 : 88 < 10 + inn + szF l
          · have j8 : (88 : Int) < ((10 + inn + szF l : Nat) : Int) := by omega
            rw [if_pos g8] at hrs
            have HV := Lib.hid hrs
            clear hrs g8
            go_wp2_with fail
            refine (HSz.out _ HW2.out).mono ?_
            rintro en w8 ⟨rfl, hb8⟩
            have HB8 := Lib.hid (HW2.out.trans (hb8.mono HW2.out.size))
            clear hb8 d0 d1 d2 d3 d4 d5 d6
            go_wp2
            go_ret
            exact ⟨by rw [HV.out]; rfl, HB8.out⟩
          · have j8 : ¬ (88 : Int) < ((10 + inn + szF l : Nat) : Int) := by omega
            rw [if_neg g8] at hrs
            have HV := Lib.hid hrs
            clear hrs g8
            go_wp2_with fail
            refine (HSz.out _ HW2.out).mono ?_
            rintro en w8 ⟨rfl, hb8⟩
            have HB8 := Lib.hid (HW2.out.trans (hb8.mono HW2.out.size))
            clear hb8 d0 d1 d2 d3 d4 d5 d6
            go_wp2
            go_ret
            exact ⟨by rw [HV.out]; rfl, HB8.out⟩
end Go.Proofs.YtlkgaefabahkoaaDoor
/-
  What the document's Decode of a summary's words tells, in numbers; of a summary's own words it is that summary.
-/
namespace Go.Proofs.YtlkgaefabahkoaaDoor
open Go.RowKit

/-- How many numbers are read, where 88 bytes are all. -/
def cntD (o n : Nat) : Nat := min n ((89 - o) / 2)
def fiD (w : List Nat) (o : Nat) : Fi := ⟨(at' w o : Nat), (v2 w (o + 1) : Nat), lbAt w (o + 4) (cntD (o + 4) (at' w (o + 3)))⟩
def nxtD (w : List Nat) (o : Nat) : Nat := o + 4 + 2 * cntD (o + 4) (at' w (o + 3))
def posD (w : List Nat) : Nat → Nat
  | 0 => 10
  | k + 1 => nxtD w (posD w k)
def filesD (w : List Nat) (n : Nat) : List Fi := (List.range n).map fun k => fiD w (posD w k)
structure DocP (w : List Nat) (k kk : Nat) : Prop where
  le : k ≤ at' w 4
  lt : ∀ i, i < k → posD w i < 88
  stop : k = at' w 4 ∨ 88 ≤ posD w k
  le2 : kk ≤ at' w 5
  lt2 : ∀ j, j < kk → posD w k + j < 88
  stop2 : kk = at' w 5 ∨ 88 ≤ posD w k + kk
/-- What the document reads of 128 bytes. -/
def docM (b : List Nat) (k kk : Nat) : Sm := ⟨(v2 b 0 : Nat), (v2 b 2 : Nat), (at' (gat b 8) 0 : Nat), (at' (gat b 8) 1 : Nat), (v2 (gat b 8) 2 : Nat), filesD (gat b 8) k, inosM (gat b 8) (posD (gat b 8) k) kk⟩
theorem posD_pos {w : List Nat} {l : List Fi} {r : List Nat} (hw : w.drop 10 = l.flatMap wF ++ r) (hg : ∀ f ∈ l, goodF f) (hs : 10 + szF l ≤ 88) : ∀ k, k ≤ l.length → posD w k = pos w k ∧ (k < l.length → fiD w (posD w k) = fiAt w (pos w k) ∧ posD w k < 88)
  | k, hk => by
    have hP : posD w k = pos w k := by
      match k, hk with
      | 0, _ => rfl
      | k + 1, hk =>
        obtain ⟨h1, h2⟩ := posD_pos hw hg hs k (by omega)
        obtain ⟨h3, h4⟩ := h2 (by omega)
        show nxtD w (posD w k) = nxt w (pos w k)
        have := congrArg (fun f => f.lb.length) h3
        simp only [fiD, fiAt, lbAt, List.length_map, List.length_range] at this
        unfold nxtD nxt
        rw [this, h1]
    refine ⟨hP, fun hlt => ?_⟩
    obtain ⟨i1, i2⟩ := flat_pos hw hg k hk
    have e1 : l.drop k = l[k] :: l.drop (k + 1) := by rw [List.drop_eq_getElem_cons hlt]
    have i2' := i2
    rw [e1, List.flatMap_cons, List.append_assoc] at i2'
    have hg' := hg _ (List.getElem_mem hlt)
    have e2 : at' w (pos w k + 3) = l[k].lb.length := by
      have := wF_n l[k] ((l.drop (k + 1)).flatMap wF ++ r) hg'.2.2.2.2.1
      rw [← i2', at_drop] at this
      exact this
    have hsz : szF (l.take k) + (4 + 2 * l[k].lb.length) ≤ szF l := by
      have h5 : l.take (k + 1) = l.take k ++ [l.getD k fi0] := take_snocF l fi0 k hlt
      have h6 : l.getD k fi0 = l[k] := by simp [List.getD_eq_getElem?_getD, hlt]
      have h7 : szF (l.take (k + 1)) = szF (l.take k) + (4 + 2 * l[k].lb.length) := by rw [h5, szF_snoc, h6]
      have h8 : szF l = szF (l.take (k + 1)) + szF (l.drop (k + 1)) := by
        rw [← flat_szF l, ← flat_szF (l.take (k + 1)), ← flat_szF (l.drop (k + 1)), ← List.length_append, ← List.flatMap_append, List.take_append_drop]
      omega
    rw [hP, i1]
    refine ⟨?_, by omega⟩
    rw [← i1]
    have hc : cntD (pos w k + 4) (at' w (pos w k + 3)) = at' w (pos w k + 3) := by
      unfold cntD
      rw [e2, i1]
      omega
    unfold fiD fiAt
    rw [hc]
theorem doc_back (m : Sm) (s : Nat) (h : Good m) {k kk : Nat} (hd : DocP (zpad 88 (wds m s)) k kk) : filesD (zpad 88 (wds m s)) k = m.fs ∧ inosM (zpad 88 (wds m s)) (posD (zpad 88 (wds m s)) k) kk = m.is := by
  have hw := wds_app m s 88
  generalize zpad 88 (wds m s) = w at *
  have hl : m.fs.length ≤ 22 := by have := len_szF m.fs; have := h.size; omega
  have hi : m.is.length ≤ 78 := by have := h.size; omega
  have hg : ∀ f ∈ m.fs, goodF f := fun f hf => (goodF_of (h.fs f hf)).1
  have hi' : ∀ n ∈ m.is, 0 ≤ n ∧ n < 256 := fun n hn => by have := out_yes (h.is n hn); omega
  have h4 : at' w 4 = m.fs.length := by rw [hw]; show m.fs.length % 256 = _; omega
  have h5 : at' w 5 = m.is.length := by rw [hw]; show m.is.length % 256 = _; omega
  have hdr : w.drop 10 = m.fs.flatMap wF ++ (m.is.flatMap wI ++ List.replicate (88 - (wds m s).length) 0) := by rw [hw]; rfl
  have hsz := h.size
  have hP := posD_pos hdr hg (by omega)
  have hk : k = m.fs.length := by
    have := hd.le
    rcases hd.stop with e | e
    · omega
    · by_cases hlt : k < m.fs.length
      · have := ((hP k (by omega)).2 hlt).2; omega
      · omega
  subst hk
  have hpe : posD w m.fs.length = pos w m.fs.length := (hP _ (Nat.le_refl _)).1
  have hpv := (flat_pos hdr hg m.fs.length (Nat.le_refl _)).1
  rw [List.take_of_length_le (Nat.le_refl _)] at hpv
  have hkk : kk = m.is.length := by
    have := hd.le2
    rcases hd.stop2 with e | e
    · omega
    · omega
  subst hkk
  refine ⟨?_, by rw [hpe]; exact inos_back hdr hg hi'⟩
  have : filesD w m.fs.length = filesM w m.fs.length := List.map_congr_left fun i hi => by
    have hi2 := List.mem_range.1 hi
    exact ((hP i (by omega)).2 hi2).1
  rw [this]
  exact files_back hdr hg
/-- Where the bytes are a summary's, the document reads that one; else it refuses. -/
theorem doc_same {b : List Nat} (hb : ∀ x ∈ b, x < 256) (hl : b.length = 128) {k kk : Nat} (hd : DocP (gat b 8) k kk) : (okB b = true ↔ (chkM (docM b k kk) = 0 ∧ encM (docM b k kk) (sumM (gat b 8)) = b)) ∧ (okB b = true → docM b k kk = decM b) := by
  have hs : sumM (gat b 8) < 4294967296 := by
    have hg : ∀ i, at' (gat b 8) i < 256 := fun i => at_lt (fun x hx => by
      obtain ⟨j, _, h1⟩ := List.mem_flatMap.1 hx
      exact hb x (List.mem_of_mem_drop (List.mem_of_mem_take h1))) i
    have := hg 6; have := hg 7; have := hg 8; have := hg 9
    unfold sumM; omega
  have key : okB b = true → docM b k kk = decM b := fun h => by
    unfold okB at h
    simp only [Bool.and_eq_true, decide_eq_true_eq] at h
    obtain ⟨-, h1, h2⟩ := h
    have hG := good_of h1
    have e := enc_back (decM b) (sumM (gat b 8)) hG hs
    rw [h2] at e
    have hd2 := hd
    rw [e.2.1] at hd2
    have hh := doc_back (decM b) _ hG hd2
    rw [← e.2.1] at hh
    unfold docM
    rw [hh.1, hh.2]
    rfl
  refine ⟨⟨fun h => ?_, fun h => ?_⟩, key⟩
  · rw [key h]
    unfold okB at h
    simp only [Bool.and_eq_true, decide_eq_true_eq] at h
    exact h.2
  · have := ok_enc (docM b k kk) _ h.1 hs
    rwa [h.2] at this
end Go.Proofs.YtlkgaefabahkoaaDoor
/-
  marlref06.at: the byte at a place, 0 behind the end.
-/
namespace Go.Proofs.YtlkgaefabahkoaaDoor
open Go.RowKit

theorem at_any {w : World} (a : Option Addr) (n c : Nat) (l : List Nat) (i : Nat) (hn : n = l.length) (hy : Bytes w a l) (h9 : n ≤ 1000000) (hi : i ≤ 1000000) :
    Calls Tryd.prog 72 #[.slice a n c, .int .i64 i] w fun e w' => e = .returned (.int .i64 (at' l i : Nat)) ∧ w = w' := by
  by_cases h : i < n
  · obtain ⟨b, o, rfl, hc⟩ := hy.2.2 (fun e => by rw [e] at hn; simp at hn; omega)
    have c0 := hc i (by omega)
    have hlt := at_lt hy.1 i
    have e1 : l.getD i 0 = at' l i := rfl
    rw [e1] at c0
    generalize at' l i = z at *
    have h1 : (i : Int) < (n : Int) := by omega
    clear hn hy hc e1
    go_enter Tryd.func72, Tryd.ntmps72
    go_wp2
    go_ret
    exact ⟨by simp, rfl⟩
  · have e1 : at' l i = 0 := by unfold at'; rw [List.getD_eq_getElem?_getD, List.getElem?_eq_none (by omega)]; rfl
    rw [e1]
    have h1 : ¬ (i : Int) < (n : Int) := by omega
    clear hn hy e1
    go_enter Tryd.func72, Tryd.ntmps72
    go_wp2
    go_ret
    exact ⟨rfl, rfl⟩
end Go.Proofs.YtlkgaefabahkoaaDoor
/-
  What lies in memory while the document reads a summary.
-/
namespace Go.Proofs.YtlkgaefabahkoaaDoor
open Go.RowKit

abbrev zP7 : Array Value := #[.int .i64 0, .int .i64 0, .int .i64 0, .int .i64 0, .int .i64 0, .slice none 0 0, .slice none 0 0]
/-- The result's box, the part that is built, the words. -/
structure Dr (w : World) (W : List Nat) (e c i p x : Int) (P : Nat) (fv iv wv : Value) (wr : World) : Prop where
  res : Blo wr w.heap.size 36 zP7
  pt : Blo wr P 36 #[.int .i64 e, .int .i64 c, .int .i64 i, .int .i64 p, .int .i64 x, fv, iv]
  row : wr.ownsRow (P + 1) U8 1 wv 88 (cellsB W)
  below : Below w.heap.size w wr
  lo : w.heap.size < P
section
variable {w wr w' : World} {W : List Nat} {e c i p x : Int} {P : Nat} {fv iv wv : Value} {X : Nat → Prop}
theorem Dr.out (h : Dr w W e c i p x P fv iv wv wr) (hb : Out X wr w') (hX : ∀ g, X g → P < g ∧ wv.ownBlock ≠ some g) : Dr w W e c i p x P fv iv wv w' := by
  have hl := h.lo
  exact ⟨hb.blo h.res (fun hx => by have := (hX _ hx).1; omega), hb.blo h.pt (fun hx => by have := (hX _ hx).1; omega), hb.own h.row (fun g e hx => (hX g hx).2 e), h.below.trans (hb.below h.below.size (fun g _ hg => by have := (hX g hg).1; omega)), hl⟩
theorem Dr.later (h : Dr w W e c i p x P fv iv wv wr) (hb : Below wr.heap.size wr w') : Dr w W e c i p x P fv iv wv w' := h.out (Out.of_below (X := fun _ => False) hb) (fun _ h => h.elim)
theorem Dr.drew (h : Dr w W e c i p x P fv iv wv wr) : Dr w W e c i p x P fv iv wv wr.drew := h.later ((Below.refl _ wr).drew)
theorem Dr.rowP (h : Dr w W e c i p x P fv iv wv wr) : wv.ownBlock ≠ some P := fun e => by have := (oblo h.row e).1; omega
theorem Dr.put (h : Dr w W e c i p x P fv iv wv wr) (k : Nat) (u : Value) : Blo (wr.setCell ⟨P, k, none⟩ u) w.heap.size 36 zP7 ∧ (wr.setCell ⟨P, k, none⟩ u).ownsRow (P + 1) U8 1 wv 88 (cellsB W) ∧ Below w.heap.size w (wr.setCell ⟨P, k, none⟩ u) := by
  have hl := h.lo
  exact ⟨h.res.far (by show _ ≠ P; omega) u, own_far h.row (p := ⟨P, k, none⟩) (fun e => h.rowP e.symm) u, h.below.setCell (p := ⟨P, k, none⟩) (by show _ ≤ P; omega) u⟩
theorem Dr.put2 (h : Dr w W e c i p x P fv iv wv wr) (u : Int) : Dr w W e c u p x P fv iv wv (wr.setCell ⟨P, 2, none⟩ (.int .i64 u)) := ⟨(h.put 2 _).1, h.pt.put 2 _, (h.put 2 _).2.1, (h.put 2 _).2.2, h.lo⟩
theorem Dr.put3 (h : Dr w W e c i p x P fv iv wv wr) (u : Int) : Dr w W e c i u x P fv iv wv (wr.setCell ⟨P, 3, none⟩ (.int .i64 u)) := ⟨(h.put 3 _).1, h.pt.put 3 _, (h.put 3 _).2.1, (h.put 3 _).2.2, h.lo⟩
theorem Dr.put4 (h : Dr w W e c i p x P fv iv wv wr) (u : Int) : Dr w W e c i p u P fv iv wv (wr.setCell ⟨P, 4, none⟩ (.int .i64 u)) := ⟨(h.put 4 _).1, h.pt.put 4 _, (h.put 4 _).2.1, (h.put 4 _).2.2, h.lo⟩
theorem Dr.put5 (h : Dr w W e c i p x P fv iv wv wr) (u : Value) : Dr w W e c i p x P u iv wv (wr.setCell ⟨P, 5, none⟩ u) := ⟨(h.put 5 _).1, h.pt.put 5 _, (h.put 5 _).2.1, (h.put 5 _).2.2, h.lo⟩
theorem Dr.put6 (h : Dr w W e c i p x P fv iv wv wr) (u : Value) : Dr w W e c i p x P fv u wv (wr.setCell ⟨P, 6, none⟩ u) := ⟨(h.put 6 _).1, h.pt.put 6 _, (h.put 6 _).2.1, (h.put 6 _).2.2, h.lo⟩
theorem Dr.lt (h : Dr w W e c i p x P fv iv wv wr) : ∀ g, wv.ownBlock = some g → g < wr.heap.size := fun g e => (oblo h.row e).2.1
end
section
variable {w z0 z1 z2 z3 : World} {W : List Nat} {e c i p x : Int} {P : Nat} {fv iv wv : Value}
theorem inner_endD {FB k j : Nat} {av : Nat → Value} {fs : List Fi} {a0 a1 u : Value} {xs ys : List Int} {v v' : Value} {E : Obj} (hP : Dr w W e c i p x P fv iv wv z1) (hPF : P < FB) (hwF : ∀ g, wv.ownBlock = some g → g < FB) (hX : Blo z1 FB FN #[a0, a1, v]) (hO : z1.ownsRow (FB + 1) IT 1 v j (cellsI xs)) (hF : Fo z1 (P + 1) fv av fs k) (hl : FoLt FB fv av k)
    (hr : z3.ownsRow (FB + 1) IT 1 v' (j + 1) (cellsI xs ++ [u])) (hg : (z1.alloc E).grownBy z3 v.ownBlock) (hys : cellsI ys = cellsI xs ++ [u]) :
    Dr w W e c i p x P fv iv wv (z3.setCell ⟨FB, 2, none⟩ v') ∧ Blo (z3.setCell ⟨FB, 2, none⟩ v') FB FN #[a0, a1, v'] ∧ (z3.setCell ⟨FB, 2, none⟩ v').ownsRow (FB + 1) IT 1 v' (j + 1) (cellsI ys) ∧ Fo (z3.setCell ⟨FB, 2, none⟩ v') (P + 1) fv av fs k := by
  have o1 : Out (fun g => FB ≤ g) z1 (z1.alloc E) := Out.of_below (sup_pc z1 E)
  have o2 : Out (fun g => FB ≤ g) (z1.alloc E) z3 := Out.of_grown hg (fun g e => by have := (oblo hO e).1; omega)
  have o3 : Out (fun g => FB ≤ g) z3 (z3.setCell ⟨FB, 2, none⟩ v') := out_put z3 ⟨FB, 2, none⟩ v' (Nat.le_refl _)
  have o4 := (o1.trans o2 (fun _ _ h => h)).trans o3 (fun _ _ h => h)
  have hX3 : Blo z3 FB FN #[a0, a1, v] := (hX.alloc E).grown hg (fun e => by have := (oblo hO e.symm).1; omega)
  refine ⟨hP.out o4 (fun g hg => ⟨by omega, fun e => by have := hwF g e; omega⟩), hX3.put 2 v', ?_, hF.outB hl o4 (fun g hg => .inr hg)⟩
  rw [hys]
  exact own_far hr (p := ⟨FB, 2, none⟩) (fun e => by have h5 := (oblo hr e.symm).1; simp at h5; omega) v'
theorem file_endD {FB k nl : Nat} {av : Nat → Value} {fs : List Fi} {la : Option Addr} {lc : Nat} {v' : Value} {f : Fi} (hP : Dr w W e c i p x P fv iv wv z0) (hPF : P < FB) (hO : z0.ownsRow (FB + 1) IT 1 (.slice la nl lc) nl (cellsI f.lb)) (hF : Fo z0 (P + 1) fv av fs k) (hf : fs.getD k fi0 = f) (hnl : f.lb.length = nl) (hz : P < z0.heap.size)
    (hl : FoLt FB fv av k) (hs : SepAv av k) (hr : z2.ownsRow (P + 1) FN 3 v' (k + 1) (flo fs av k ++ [.int .i64 f.ino, .int .i64 f.ver, .slice la nl lc])) (hg : (z0.alloc (.cells #[.int .i64 f.ino, .int .i64 f.ver, .slice la nl lc] FN)).grownBy z2 fv.ownBlock) :
    Dr w W e c i p x P v' iv wv (z2.setCell ⟨P, 5, none⟩ v') ∧ (∃ av', Fo (z2.setCell ⟨P, 5, none⟩ v') (P + 1) v' av' fs (k + 1) ∧ SepAv av' (k + 1)) ∧ P < (z2.setCell ⟨P, 5, none⟩ v').heap.size := by
  have hb := sup_pc z0 (.cells #[.int .i64 f.ino, .int .i64 f.ver, .slice la nl lc] FN)
  have F1 := hF.later hb
  have F2 := F1.next (v' := v') (u := .slice la nl lc) (by rw [hf]; exact hr) hg (by rw [hf, hnl]; exact own_weak (own_later hO hb) (by omega))
  have P1 := hP.later hb
  have o2 : Out (fun g => fv.ownBlock = some g) (z0.alloc (.cells #[.int .i64 f.ino, .int .i64 f.ver, .slice la nl lc] FN)) z2 := Out.of_grown hg (fun g e => e)
  refine ⟨(P1.out o2 (fun g hg => ⟨by have := (oblo F1.row hg).1; omega, fun e => by
    obtain ⟨-, -, c1, b1⟩ := oblo F1.row hg
    obtain ⟨-, -, c2, b2⟩ := oblo P1.row e
    exact b1.apart b2 (by decide) rfl⟩)).put5 v', ⟨_, F2.out (out_put z2 ⟨P, 5, none⟩ v' (X := fun g => g = P) rfl) (fun g e _ => by omega), hs.next (fv := fv) hl.2 hO⟩, ?_⟩
  rw [World.size_setCell]
  have := hb.size
  have := hg.size
  omega
theorem ino_endD {SB k j : Nat} {av : Nat → Value} {fs : List Fi} {u : Value} {xs ys : List Int} {v' : Value} {E : Obj} (hP : Dr w W e c i p x P fv iv wv z1) (hPF : P < SB) (hO : z1.ownsRow SB IT 1 iv j (cellsI xs)) (hF : Fo z1 (P + 1) fv av fs k) (hl : FoLt SB fv av k) (hwS : ∀ g, wv.ownBlock = some g → g < SB)
    (hr : z3.ownsRow SB IT 1 v' (j + 1) (cellsI xs ++ [u])) (hg : (z1.alloc E).grownBy z3 iv.ownBlock) (hys : cellsI ys = cellsI xs ++ [u]) :
    Dr w W e c i p x P fv v' wv (z3.setCell ⟨P, 6, none⟩ v') ∧ (z3.setCell ⟨P, 6, none⟩ v').ownsRow SB IT 1 v' (j + 1) (cellsI ys) ∧ Fo (z3.setCell ⟨P, 6, none⟩ v') (P + 1) fv av fs k := by
  have o1 : Out (fun g => SB ≤ g) z1 (z1.alloc E) := Out.of_below (sup_pc z1 E)
  have o2 : Out (fun g => SB ≤ g) (z1.alloc E) z3 := Out.of_grown hg (fun g e => (oblo hO e).1)
  have o4 := o1.trans o2 (fun _ _ h => h)
  refine ⟨(hP.out o4 (fun g hg => ⟨by omega, fun e => by have := hwS g e; omega⟩)).put6 v', ?_, (hF.outB hl o4 (fun g hg => .inr hg)).out (out_put z3 ⟨P, 6, none⟩ v' (X := fun g => g = P) rfl) (fun g e _ => by omega)⟩
  rw [hys]
  exact own_far hr (p := ⟨P, 6, none⟩) (fun e => by have h5 := (oblo hr e.symm).1; simp at h5; omega) v'
end
end Go.Proofs.YtlkgaefabahkoaaDoor
/-
  The four bytes of a number as the document has them, and two of them.
-/
namespace Go.Proofs.YtlkgaefabahkoaaDoor
open Go.RowKit

set_option maxHeartbeats 400000 in
theorem four_any (n : Nat) (w : World) (hn : n < 4294967296) :
    Calls Tryd.prog 89 #[.int .i64 n] w fun e w' => e = .returned (.slice (some ⟨w.heap.size, 0, none⟩) 4 4) ∧ w' = w.alloc (.cells (cellsB (num 4 n)).toArray U8) := by
  go_enter Tryd.func89, Tryd.ntmps89
  go_wp2
  go_ret
  refine ⟨rfl, ?_⟩
  rw [num_4]
  first
    | rfl
    | (have e3 : n / 16777216 % 256 = n / 16777216 := by omega
       rw [e3]; rfl)
theorem size_u8f (w : World) : (Go.sizeOf 5).run Tryd.prog w = .ok 1 w := by kernel_rfl
theorem cut_two (g : Nat) (W : World) :
    (Instr.slice 49 (.slice (some ⟨g, 0, none⟩) 4 4) none (some (.int .i64 2)) none).run Tryd.prog W = .ok (.slice (some ⟨g, 0, none⟩) 2 4) W := by
  have ht' : Tryd.prog.underlying 49 = some (.slice (Tryd.prog.elem 49)) := by simp [Program.elem, Tryd.underlying49]
  have he : Tryd.prog.elem 49 = 5 := by simp [Program.elem, Tryd.underlying49]

  rw [run_slice_h W 49 _ _ _ ht' .i64 2 (by omega) (by omega), he, size_u8f]
  simp [Result.andThen, sliced, Addr.add]
theorem num_42 (n : Nat) : (num 4 n).take 2 = num 2 n := by rw [num_4, num_2]; rfl
set_option maxHeartbeats 1000000 in
theorem two_any (n : Nat) (w : World) (hn : n < 4294967296) :
    Calls Tryd.prog 88 #[.int .i64 n] w fun e w' => ∃ g, e = .returned (.slice (some ⟨g, 0, none⟩) 2 4) ∧ Bytes w' (some ⟨g, 0, none⟩) (num 2 n) ∧ w.heap.size ≤ g ∧ Blo w' g U8 (cellsB (num 4 n)).toArray ∧ Below w.heap.size w w' := by
  go_enter Tryd.func88, Tryd.ntmps88
  go_wp2_with fail
  refine (four_any n _ hn).mono ?_
  rintro e w1 ⟨rfl, rfl⟩
  have hs1 := fun W => cut_two w.heap.size W
  have HBl := Lib.hid (blo_laid w U8 (cellsB (num 4 n)).toArray)
  have HB := Lib.hid (sup_pc w (.cells (cellsB (num 4 n)).toArray U8))
  go_wp2
  go_ret
  refine ⟨w.heap.size, rfl, ?_, Nat.le_refl _, HBl.out, HB.out⟩
  refine ⟨num_lt _ _, by simp [num_len], fun _ => ⟨w.heap.size, 0, rfl, fun i hi => ?_⟩⟩
  rw [num_len] at hi
  rw [HBl.out.cell, Nat.zero_add, ← Array.getElem?_toList]
  show (cellsB (num 4 n))[i]? = _
  rw [cellsB_get (num 4 n) i (by rw [num_len]; omega), ← num_42]
  simp [List.getD_eq_getElem?_getD, List.getElem?_take_of_lt hi]
end Go.Proofs.YtlkgaefabahkoaaDoor
