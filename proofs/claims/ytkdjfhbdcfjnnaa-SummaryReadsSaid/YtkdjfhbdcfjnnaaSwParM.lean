/-
  What lies in memory while summary.parse goes on.
-/
import Derived.Test.YtkdjfhbdcfjnnaaSwGatW
import Derived.Test.YtkdjfhbdcfjnnaaOwnPart
import Derived.Laws.Tables
import Derived.Laws.CopyOwn
namespace Go.Proofs.Ytkdjfhbdcfjnnaa
open Go.RowKit

/-- A reader: its bytes came in. -/
def RdW (w : World) (R : Nat) (l : List Nat) (wr : World) : Prop := ∃ a n cap, RdS wr R a n cap l ∧ Bytes w a l
theorem RdW.move {w wr w' : World} {R : Nat} {l : List Nat} (h : RdW w R l wr) (hR : w'.heap[R]? = wr.heap[R]?) (hb : Below w.heap.size w w') : RdW w R l w' := by
  obtain ⟨a, n, c, h, hy⟩ := h
  exact ⟨a, n, c, ⟨hR.trans h.blo, h.len, h.le, h.lt, hy.below hb, h.nil⟩, hy⟩
theorem take_rd {w wr : World} (k R : Nat) (L : List Nat) (o : Nat) (h : RdW w R (L.drop o) wr) (hk : k ≤ 4) :
    Calls Try.prog 44 #[.pointer (some ⟨R, 0, none⟩), .int .i64 k] wr fun e w' => e = .returned (.int .i64 (val ((L.drop o).take k) : Nat)) ∧ RdW w R (L.drop (o + k)) w' ∧ wr.grownBy w' (some R) := by
  obtain ⟨a, n, cap, h, hy⟩ := h
  refine (take_any k R a n cap _ h hk).mono ?_
  rintro e w' ⟨a', n', cap', he, hr, hg, hW⟩
  have hy2 := hW _ hy
  rw [List.drop_drop] at hr hy2
  exact ⟨he, ⟨a', n', cap', hr, hy2⟩, hg⟩
/-- The result's box, the reader, the part that is built. -/
structure Pr (w : World) (L : List Nat) (i p x : Int) (P o : Nat) (fv iv : Value) (wr : World) : Prop where
  res : Blo wr w.heap.size 25 #[.int .i64 0, .int .i64 0, .int .i64 0, .int .i64 0, .int .i64 0, .slice none 0 0, .slice none 0 0]
  rd : RdW w (w.heap.size + 1) (L.drop o) wr
  pt : Blo wr P 25 #[.int .i64 0, .int .i64 0, .int .i64 i, .int .i64 p, .int .i64 x, fv, iv]
  below : Below w.heap.size w wr
  lo : w.heap.size + 1 < P
section
variable {w wr w' : World} {L : List Nat} {i p x : Int} {P o : Nat} {fv iv : Value} {X : Nat → Prop}
theorem Pr.out (h : Pr w L i p x P o fv iv wr) (hb : Out X wr w') (hX : ∀ g, X g → P < g) : Pr w L i p x P o fv iv w' := by
  have hl := h.lo
  have hB : Below w.heap.size w w' := h.below.trans (hb.below h.below.size (fun g _ hg => by have := hX g hg; omega))
  obtain ⟨a, n, c, hr, _⟩ := id h.rd
  exact ⟨hb.blo h.res (fun hx => by have := hX _ hx; omega), h.rd.move (hb.block _ hr.blo.lt (fun hx => by have := hX _ hx; omega)) hB, hb.blo h.pt (fun hx => by have := hX _ hx; omega), hB, hl⟩
theorem Pr.later (h : Pr w L i p x P o fv iv wr) (hb : Below wr.heap.size wr w') : Pr w L i p x P o fv iv w' := h.out (Out.of_below (X := fun _ => False) hb) (fun _ h => h.elim)
theorem Pr.drew (h : Pr w L i p x P o fv iv wr) : Pr w L i p x P o fv iv wr.drew := h.later ((Below.refl _ wr).drew)
theorem Pr.take {k : Nat} (h : Pr w L i p x P o fv iv wr) (hr : RdW w (w.heap.size + 1) (L.drop (o + k)) w') (hg : wr.grownBy w' (some (w.heap.size + 1))) : Pr w L i p x P (o + k) fv iv w' := by
  have hl := h.lo
  exact ⟨h.res.grown hg (by simp), hr, h.pt.grown hg (by simp; omega), h.below.grown hg h.below.size (fun k e => by cases e; omega), hl⟩
theorem Pr.put5 (h : Pr w L i p x P o fv iv wr) (u : Value) : Pr w L i p x P o u iv (wr.setCell ⟨P, 5, none⟩ u) := by
  have hl := h.lo
  have hB : Below w.heap.size w (wr.setCell ⟨P, 5, none⟩ u) := h.below.setCell (p := ⟨P, 5, none⟩) (by show _ ≤ P; omega) u
  refine ⟨h.res.far (by show _ ≠ P; omega) u, h.rd.move (Below.heap_setCell wr _ u _ (by show _ ≠ P; omega)) hB, ?_, hB, hl⟩
  exact h.pt.put 5 u
theorem Pr.put6 (h : Pr w L i p x P o fv iv wr) (u : Value) : Pr w L i p x P o fv u (wr.setCell ⟨P, 6, none⟩ u) := by
  have hl := h.lo
  have hB : Below w.heap.size w (wr.setCell ⟨P, 6, none⟩ u) := h.below.setCell (p := ⟨P, 6, none⟩) (by show _ ≤ P; omega) u
  refine ⟨h.res.far (by show _ ≠ P; omega) u, h.rd.move (Below.heap_setCell wr _ u _ (by show _ ≠ P; omega)) hB, ?_, hB, hl⟩
  exact h.pt.put 6 u
end
theorem Fo.out {w w' : World} {X : Nat → Prop} {base k : Nat} {v : Value} {av : Nat → Value} {l : List Fi} (h : Fo w base v av l k) (hb : Out X w w') (hX : ∀ g, X g → g < w.heap.size → g < base) : Fo w' base v av l k :=
  ⟨hb.own h.row (fun g e hx => by obtain ⟨h1, h2, -⟩ := oblo h.row e; have := hX g hx h2; omega), fun i hi => hb.own (h.its i hi) (fun g e hx => by obtain ⟨h1, h2, -⟩ := oblo (h.its i hi) e; have := hX g hx h2; omega)⟩
theorem own_weak {w : World} {b s : Nat} {e : TypeId} {size n : Nat} {v : Value} {xs : List Value} (h : w.ownsRow b e size v n xs) (hs : s ≤ b) : w.ownsRow s e size v n xs := by
  refine ⟨h.1, ?_⟩
  rcases h.2 with h1 | ⟨g, cap, cur, h1, h2, h3⟩
  · exact .inl h1
  · exact .inr ⟨g, cap, cur, h1, by omega, h3⟩
theorem own_out {w w' : World} {X : Nat → Prop} {b : Nat} {e : TypeId} {size n : Nat} {v : Value} {xs : List Value} (h : w.ownsRow b e size v n xs) (hb : Out X w w') (hX : ∀ g, X g → g < w.heap.size → g < b) : w'.ownsRow b e size v n xs :=
  hb.own h (fun g eg hx => by obtain ⟨h1, h2, -⟩ := oblo h eg; have := hX g hx h2; omega)
/-- The lists of two files lie in two blocks. -/
def SepAv (av : Nat → Value) (k : Nat) : Prop := ∀ i j, i < j → j < k → ∀ g, (av i).ownBlock = some g → (av j).ownBlock ≠ some g
theorem SepAv.next {w : World} {av : Nat → Value} {k FB n : Nat} {fv v : Value} {xs : List Value} (h : SepAv av k) (hl : ∀ i, i < k → ∀ g, (av i).ownBlock = some g → g < FB) (hO : w.ownsRow (FB + 1) IT 1 v n xs) : SepAv (updF av k v) (k + 1) := fun i j hij hj g e => by
  by_cases hjk : j = k
  · subst hjk
    rw [updF_ne _ _ _ (by omega)] at e
    rw [updF_at]
    intro e2
    have := hl i hij g e
    have := (oblo hO e2).1
    omega
  · rw [updF_ne _ _ _ (by omega)] at e
    rw [updF_ne _ _ _ hjk]
    exact h i j hij (by omega) g e
def FoLt (B : Nat) (v : Value) (av : Nat → Value) (k : Nat) : Prop := (∀ g, v.ownBlock = some g → g < B) ∧ ∀ i, i < k → ∀ g, (av i).ownBlock = some g → g < B
theorem Fo.lt {w : World} {base k : Nat} {v : Value} {av : Nat → Value} {l : List Fi} (h : Fo w base v av l k) : FoLt w.heap.size v av k := ⟨fun g e => (oblo h.row e).2.1, fun i hi g e => (oblo (h.its i hi) e).2.1⟩
theorem Fo.outB {w w' : World} {X : Nat → Prop} {base k B : Nat} {v : Value} {av : Nat → Value} {l : List Fi} (h : Fo w base v av l k) (hl : FoLt B v av k) (hb : Out X w w') (hX : ∀ g, X g → g < base ∨ B ≤ g) : Fo w' base v av l k :=
  ⟨hb.own h.row (fun g e hx => by have h1 := (oblo h.row e).1; have := hX g hx; have := hl.1 g e; omega), fun i hi => hb.own (h.its i hi) (fun g e hx => by have h1 := (oblo (h.its i hi) e).1; have := hX g hx; have := hl.2 i hi g e; omega)⟩
section
variable {w z0 z1 z2 z3 : World} {L : List Nat} {i p x : Int} {P o : Nat} {fv iv : Value}
theorem inner_end {FB k j : Nat} {av : Nat → Value} {fs : List Fi} {a0 a1 u : Value} {xs ys : List Int} {v v' : Value} {E : Obj} (hP : Pr w L i p x P o fv iv z1) (hPF : P < FB) (hX : Blo z1 FB FN #[a0, a1, v]) (hO : z1.ownsRow (FB + 1) IT 1 v j (cellsI xs)) (hF : Fo z1 (P + 1) fv av fs k) (hl : FoLt FB fv av k)
    (hr : z3.ownsRow (FB + 1) IT 1 v' (j + 1) (cellsI xs ++ [u])) (hg : (z1.alloc E).grownBy z3 v.ownBlock) (hys : cellsI ys = cellsI xs ++ [u]) :
    Pr w L i p x P o fv iv (z3.setCell ⟨FB, 2, none⟩ v') ∧ Blo (z3.setCell ⟨FB, 2, none⟩ v') FB FN #[a0, a1, v'] ∧ (z3.setCell ⟨FB, 2, none⟩ v').ownsRow (FB + 1) IT 1 v' (j + 1) (cellsI ys) ∧ Fo (z3.setCell ⟨FB, 2, none⟩ v') (P + 1) fv av fs k := by
  have o1 : Out (fun g => FB ≤ g) z1 (z1.alloc E) := Out.of_below (sup_pc z1 E)
  have o2 : Out (fun g => FB ≤ g) (z1.alloc E) z3 := Out.of_grown hg (fun g e => by have := (oblo hO e).1; omega)
  have o3 : Out (fun g => FB ≤ g) z3 (z3.setCell ⟨FB, 2, none⟩ v') := out_put z3 ⟨FB, 2, none⟩ v' (Nat.le_refl _)
  have o4 := (o1.trans o2 (fun _ _ h => h)).trans o3 (fun _ _ h => h)
  have hX3 : Blo z3 FB FN #[a0, a1, v] := (hX.alloc E).grown hg (fun e => by have := (oblo hO e.symm).1; omega)
  refine ⟨hP.out o4 (fun g hg => by omega), hX3.put 2 v', ?_, hF.outB hl o4 (fun g hg => .inr hg)⟩
  rw [hys]
  exact own_far hr (p := ⟨FB, 2, none⟩) (fun e => by have h5 := (oblo hr e.symm).1; simp at h5; omega) v'
theorem file_end {FB k nl : Nat} {av : Nat → Value} {fs : List Fi} {la : Option Addr} {lc : Nat} {v' : Value} {f : Fi} (hP : Pr w L i p x P o fv iv z0) (hPF : P < FB) (hO : z0.ownsRow (FB + 1) IT 1 (.slice la nl lc) nl (cellsI f.lb)) (hF : Fo z0 (P + 1) fv av fs k) (hf : fs.getD k fi0 = f) (hnl : f.lb.length = nl) (hz : P < z0.heap.size)
    (hl : FoLt FB fv av k) (hs : SepAv av k) (hr : z2.ownsRow (P + 1) FN 3 v' (k + 1) (flo fs av k ++ [.int .i64 f.ino, .int .i64 f.ver, .slice la nl lc])) (hg : (z0.alloc (.cells #[.int .i64 f.ino, .int .i64 f.ver, .slice la nl lc] FN)).grownBy z2 fv.ownBlock) :
    Pr w L i p x P o v' iv (z2.setCell ⟨P, 5, none⟩ v') ∧ (∃ av', Fo (z2.setCell ⟨P, 5, none⟩ v') (P + 1) v' av' fs (k + 1) ∧ SepAv av' (k + 1)) ∧ P < (z2.setCell ⟨P, 5, none⟩ v').heap.size := by
  have hb := sup_pc z0 (.cells #[.int .i64 f.ino, .int .i64 f.ver, .slice la nl lc] FN)
  have F1 := hF.later hb
  have F2 := F1.next (v' := v') (u := .slice la nl lc) (by rw [hf]; exact hr) hg (by rw [hf, hnl]; exact own_weak (own_later hO hb) (by omega))
  have o2 : Out (fun g => P < g) (z0.alloc (.cells #[.int .i64 f.ino, .int .i64 f.ver, .slice la nl lc] FN)) z2 := Out.of_grown hg (fun g e => by have := (oblo F1.row e).1; omega)
  refine ⟨((hP.later hb).out o2 (fun g hg => hg)).put5 v', ⟨_, F2.out (out_put z2 ⟨P, 5, none⟩ v' (X := fun g => g = P) rfl) (fun g e _ => by omega), hs.next (fv := fv) hl.2 hO⟩, ?_⟩
  rw [World.size_setCell]
  have := hb.size
  have := hg.size
  omega
theorem ino_end {SB k j : Nat} {av : Nat → Value} {fs : List Fi} {u : Value} {xs ys : List Int} {v' : Value} {E : Obj} (hP : Pr w L i p x P o fv iv z1) (hPF : P < SB) (hO : z1.ownsRow SB IT 1 iv j (cellsI xs)) (hF : Fo z1 (P + 1) fv av fs k) (hl : FoLt SB fv av k)
    (hr : z3.ownsRow SB IT 1 v' (j + 1) (cellsI xs ++ [u])) (hg : (z1.alloc E).grownBy z3 iv.ownBlock) (hys : cellsI ys = cellsI xs ++ [u]) :
    Pr w L i p x P o fv v' (z3.setCell ⟨P, 6, none⟩ v') ∧ (z3.setCell ⟨P, 6, none⟩ v').ownsRow SB IT 1 v' (j + 1) (cellsI ys) ∧ Fo (z3.setCell ⟨P, 6, none⟩ v') (P + 1) fv av fs k := by
  have o1 : Out (fun g => SB ≤ g) z1 (z1.alloc E) := Out.of_below (sup_pc z1 E)
  have o2 : Out (fun g => SB ≤ g) (z1.alloc E) z3 := Out.of_grown hg (fun g e => (oblo hO e).1)
  have o4 := o1.trans o2 (fun _ _ h => h)
  refine ⟨(hP.out o4 (fun g hg => by omega)).put6 v', ?_, (hF.outB hl o4 (fun g hg => .inr hg)).out (out_put z3 ⟨P, 6, none⟩ v' (X := fun g => g = P) rfl) (fun g e _ => by omega)⟩
  rw [hys]
  exact own_far hr (p := ⟨P, 6, none⟩) (fun e => by have h5 := (oblo hr e.symm).1; simp at h5; omega) v'
end
theorem Fo.weak {w : World} {b s k : Nat} {v : Value} {av : Nat → Value} {l : List Fi} (h : Fo w b v av l k) (hs : s ≤ b) : Fo w s v av l k := ⟨own_weak h.row hs, fun i hi => own_weak (h.its i hi) hs⟩
theorem par_end {w wq : World} {L : List Nat} {i p x : Int} {P o SB k j : Nat} {fv iv : Value} {av : Nat → Value} {fs : List Fi} {xs : List Int} (hP : Pr w L i p x P o fv iv wq) (hO : wq.ownsRow SB IT 1 iv j (cellsI xs)) (hF : Fo wq (P + 1) fv av fs k) (hS : P < SB) (cs : Array Value) :
    Blo (wq.setRow w.heap.size cs) w.heap.size 25 cs ∧ Fo (wq.setRow w.heap.size cs) w.heap.size fv av fs k ∧ (wq.setRow w.heap.size cs).ownsRow SB IT 1 iv j (cellsI xs) ∧ Below w.heap.size w (wq.setRow w.heap.size cs) := by
  have hl := hP.lo
  have o1 : Out (fun g => g = w.heap.size) wq (wq.setRow w.heap.size cs) := out_row wq w.heap.size cs rfl
  exact ⟨blo_row hP.res cs, (hF.out o1 (fun g e _ => by omega)).weak (by omega), own_out hO o1 (fun g e _ => by omega), below_setRow hP.below (Nat.le_refl _) cs⟩
theorem fi_oneP (a b : Int) (v : Value) (hv : v.oneCell' = true) : ∀ u ∈ [Value.int .i64 a, .int .i64 b, v], u.oneCell' = true := fun u hu => by
  rcases List.mem_cons.1 hu with e | hu
  · rw [e]; rfl
  · rcases List.mem_cons.1 hu with e | hu
    · rw [e]; rfl
    · rw [List.mem_singleton.1 hu]; exact hv
theorem results_row_tmp {P : Program} {fn : Func} {p u : Tmp} {ty : TypeId} (h : fn.results = #[.cell p ty, .tmp u]) (tmps : Array Value) (w : World) (g : Nat) (t : TypeId) (cs : Array Value) (d : TypeDesc)
    (hp : tmps.getD p undef = .pointer (some ⟨g, 0, none⟩)) (hg : Blo w g t cs)
    (hu : P.underlying ty = some d) (hd : (match d with | .struct _ | .array _ _ => true | _ => false) = true) (hi : (P.info? ty).map (·.size) = some cs.size) :
    (results fn tmps).run P w = .ok (.tuple #[.agg cs, tmps.getD u undef]) w := by
  have hp' : tmps[p]?.getD undef = .pointer (some ⟨g, 0, none⟩) := by simpa using hp
  simp [results, h, hp', asAddr, run_loadVar_row w g t ty cs (0, 0) d hg hu hd hi]
theorem results_row_tmp2 {P : Program} {fn : Func} {p u v : Tmp} {ty : TypeId} (h : fn.results = #[.cell p ty, .tmp u, .tmp v]) (tmps : Array Value) (w : World) (g : Nat) (t : TypeId) (cs : Array Value) (d : TypeDesc)
    (hp : tmps.getD p undef = .pointer (some ⟨g, 0, none⟩)) (hg : Blo w g t cs)
    (hu : P.underlying ty = some d) (hd : (match d with | .struct _ | .array _ _ => true | _ => false) = true) (hi : (P.info? ty).map (·.size) = some cs.size) :
    (results fn tmps).run P w = .ok (.tuple #[.agg cs, tmps.getD u undef, tmps.getD v undef]) w := by
  have hp' : tmps[p]?.getD undef = .pointer (some ⟨g, 0, none⟩) := by simpa using hp
  simp [results, h, hp', asAddr, run_loadVar_row w g t ty cs (0, 0) d hg hu hd hi]
theorem lbAt_snoc (w : List Nat) (o n : Nat) : lbAt w o (n + 1) = lbAt w o n ++ [((v2 w (o + 2 * n) : Nat) : Int) - 1000] := by simp [lbAt, List.range_succ]
theorem inosM_snoc (w : List Nat) (o n : Nat) : inosM w o (n + 1) = inosM w o n ++ [((at' w (o + n) : Nat) : Int)] := by simp [inosM, List.range_succ]
theorem lbAt_len (w : List Nat) (o n : Nat) : (lbAt w o n).length = n := by simp [lbAt]
theorem inosM_len (w : List Nat) (o n : Nat) : (inosM w o n).length = n := by simp [inosM]
theorem filesM_len (w : List Nat) (n : Nat) : (filesM w n).length = n := by simp [filesM]
theorem filesM_get (w : List Nat) {n k : Nat} (h : k < n) : (filesM w n).getD k fi0 = fiAt w (pos w k) := by simp [filesM, List.getD_eq_getElem?_getD, h]
end Go.Proofs.Ytkdjfhbdcfjnnaa
