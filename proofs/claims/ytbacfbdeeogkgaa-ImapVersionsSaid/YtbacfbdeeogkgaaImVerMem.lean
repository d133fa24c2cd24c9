/-
  What ImapVersions keeps: the map, which are given, and what version each had.
-/
import Derived.Test.YtbacfbdeeogkgaaImSet
import Derived.Test.YtbacfbdeeogkgaaQuads
namespace Go.Proofs.Ytbacfbdeeogkgaa
open Go.RowKit Go.Maps

theorem run_make_z {P : Program} (T e : TypeId) (z : Value) (b : Nat) (ht : P.underlying T = some (.slice e)) (hi : (P.info? e).map (fun i => (i.zero, i.size, i.bytes)) = some (some z, 1, b)) (hz1 : z.cells = #[z]) (hb : b ≤ 8)
    (w : World) (m : Int) (n : Nat) (hm : m = (n : Int)) (hn : n ≤ 1000000) :
    (Instr.makeSlice T (.int .i64 m) (.int .i64 m)).run P w = .ok (.slice (some ⟨w.heap.size, 0, none⟩) n n) (w.alloc (.cells (List.replicate n z).toArray e)) := by
  subst hm
  obtain ⟨i, hi0, hz, hs1, hb1⟩ := info_parts hi
  have hbn : b * n ≤ 8 * 1000000 := Nat.mul_le_mul hb hn
  have hr := run_make (P := P) w T e i z ht hi0 hz .i64 .i64 n n (by omega) (Int.le_refl _) (by rw [hb1]; have : ((b * n : Nat) : Int) = (b : Int) * (n : Int) := Int.natCast_mul b n; omega) (by omega)
  simp only [Int.toNat_natCast] at hr
  rw [hr, hs1]
  congr 3
  apply Array.toList_inj.1
  rw [hz1, Nat.mul_one, toList_madeCells_one]
theorem info_bool : (Try.prog.info? 4).map (fun i => (i.zero, i.size, i.bytes)) = some (some (.bool false), 1, 1) := by kernel_rfl
theorem rep_get (n : Nat) (z : Value) (j : Nat) (h : j < n) : (List.replicate n z).toArray[j]? = some z := by
  rw [List.getElem?_toArray, List.getElem?_replicate, if_pos h]
structure VM (w : World) (bm gs gd n bg bw N : Nat) (A V : Nat → Int) (B g : Nat → Bool) (u : Nat → Int) (wr : World) : Prop where
  im : Im wr bm gs gd n N A V B
  gv : ∃ cs, Blo wr bg 4 cs ∧ ∀ j, j ≤ n → cs[j]? = some (.bool (g j))
  ws : ∃ cs, Blo wr bw 3 cs ∧ ∀ j, j ≤ n → cs[j]? = some (.int .i64 (u j))
  below : Below w.heap.size w wr
structure VP (n k : Nat) (V : Nat → Int) (B g : Nat → Bool) (u : Nat → Int) : Prop where
  g1 : g 1 = false
  gb : ∀ j, 1 ≤ j → j < n → g (j + 1) = B j
  uv : ∀ j, 1 ≤ j → j < n → 0 ≤ V j ∧ V j ≤ k ∧ (B j = true → u (j + 1) = V j) ∧ (B j = false → u (j + 1) < V j)
section
variable {w wr w' : World} {bm gs gd n bg bw N k : Nat} {A V : Nat → Int} {B g : Nat → Bool} {u : Nat → Int}
theorem VM.later (h : VM w bm gs gd n bg bw N A V B g u wr) (hb : Below wr.heap.size wr w') : VM w bm gs gd n bg bw N A V B g u w' := by
  obtain ⟨h1, ⟨c1, h2, h3⟩, ⟨c2, h4, h5⟩, h6⟩ := h
  exact ⟨h1.later hb, ⟨c1, h2.later hb, h3⟩, ⟨c2, h4.later hb, h5⟩, h6.trans (hb.mono h6.size)⟩
/-- Behind a call of the map's. -/
theorem VM.call {N' : Nat} {A' V' : Nat → Int} {B' : Nat → Bool} (h : VM w bm gs gd n bg bw N A V B g u wr) (hI : Im w' bm gs gd n N' A' V' B') (hb : Below w.heap.size wr w') (hf : Fr1 gs wr w') : VM w bm gs gd n bg bw N' A' V' B' g u w' := by
  obtain ⟨h1, ⟨c1, h2, h3⟩, ⟨c2, h4, h5⟩, h6⟩ := h
  obtain ⟨_, ⟨cs, hs, _⟩, _, _⟩ := h1
  exact ⟨hI, ⟨c1, hf _ _ _ (h2.apart hs (by decide)) h2, h3⟩, ⟨c2, hf _ _ _ (h4.apart hs (by decide)) h4, h5⟩, h6.trans hb⟩
theorem VM.cellG (h : VM w bm gs gd n bg bw N A V B g u wr) (j : Nat) (hj : j ≤ n) : wr.cell? ⟨bg, j, none⟩ = some (.bool (g j)) ∧ wr.frozen? ⟨bg, j, none⟩ = false := by
  obtain ⟨cs, h2, h3⟩ := h.gv
  exact ⟨(h2.cell j).trans (h3 j hj), h2.frozen j⟩
theorem VM.cellW (h : VM w bm gs gd n bg bw N A V B g u wr) (j : Nat) (hj : j ≤ n) : wr.cell? ⟨bw, j, none⟩ = some (.int .i64 (u j)) ∧ wr.frozen? ⟨bw, j, none⟩ = false := by
  obtain ⟨cs, h2, h3⟩ := h.ws
  exact ⟨(h2.cell j).trans (h3 j hj), h2.frozen j⟩
theorem row_upd {α : Type} (mk : α → Value) (cs : Array Value) (n : Nat) (f : Nat → α) (h : ∀ j, j ≤ n → cs[j]? = some (mk (f j))) (i : Nat) (x : α) (hi : i ≤ n) : ∀ j, j ≤ n → (cs.setIfInBounds i (mk x))[j]? = some (mk (upd f i x j)) := fun j hj => by
  have hs : i < cs.size := by
    rcases Nat.lt_or_ge i cs.size with q | q
    · exact q
    · have := h i hi
      rw [Array.getElem?_eq_none q] at this; cases this
  rw [Array.getElem?_setIfInBounds]
  by_cases e : i = j
  · subst e; rw [if_pos rfl, if_pos hs, upd_at]
  · rw [if_neg e, upd_ne _ _ _ (fun q => e q.symm)]; exact h j hj
theorem VM.setG (h : VM w bm gs gd n bg bw N A V B g u wr) (hg : w.heap.size ≤ bg) (i : Nat) (x : Bool) (hi : i ≤ n) : VM w bm gs gd n bg bw N A V B (upd g i x) u (wr.setCell ⟨bg, i, none⟩ (.bool x)) := by
  obtain ⟨h1, ⟨c1, h2, h3⟩, ⟨c2, h4, h5⟩, h6⟩ := h
  obtain ⟨a1, ⟨cs, a2, a3⟩, ⟨D, a4⟩, a5⟩ := h1
  exact ⟨Im.far ⟨a1, ⟨cs, a2, a3⟩, ⟨D, a4⟩, a5⟩ (a1.apart h2 (by decide)) (a2.apart h2 (by decide)) (fun e => blo_ne_map h2 a4 e.symm) _, ⟨_, h2.put i _, row_upd Value.bool c1 n g h3 i x hi⟩, ⟨c2, h4.far (p := ⟨bg, i, none⟩) (h4.apart h2 (by decide)) _, h5⟩, h6.setCell (p := ⟨bg, i, none⟩) hg _⟩
theorem VM.setW (h : VM w bm gs gd n bg bw N A V B g u wr) (hw : w.heap.size ≤ bw) (i : Nat) (x : Int) (hi : i ≤ n) : VM w bm gs gd n bg bw N A V B g (upd u i x) (wr.setCell ⟨bw, i, none⟩ (.int .i64 x)) := by
  obtain ⟨h1, ⟨c1, h2, h3⟩, ⟨c2, h4, h5⟩, h6⟩ := h
  obtain ⟨a1, ⟨cs, a2, a3⟩, ⟨D, a4⟩, a5⟩ := h1
  exact ⟨Im.far ⟨a1, ⟨cs, a2, a3⟩, ⟨D, a4⟩, a5⟩ (a1.apart h4 (by decide)) (a2.apart h4 (by decide)) (fun e => blo_ne_map h4 a4 e.symm) _, ⟨c1, h2.far (p := ⟨bw, i, none⟩) (h2.apart h4 (by decide)) _, h3⟩, ⟨_, h4.put i _, row_upd (Value.int .i64) c2 n u h5 i x hi⟩, h6.setCell (p := ⟨bw, i, none⟩) hw _⟩
theorem VP.can (h : VP n k V B g u) (hk : k ≤ 100) (j : Nat) (h1 : 1 ≤ j) (hj : j < n) : canB V B j = !B j := by
  have := (h.uv j h1 hj).2.1
  unfold canB
  rw [decide_eq_true (show V j < 65535 by omega), Bool.and_true]
theorem VP.more (h : VP n k V B g u) : VP n (k + 1) V B g u := ⟨h.g1, h.gb, fun j a b => by have := h.uv j a b; exact ⟨this.1, by omega, this.2.2⟩⟩
theorem VP.alloc (h : VP n k V B g u) (p : Nat) (h1 : 1 ≤ p) : VP n (k + 1) V (upd B p true) (upd g (p + 1) true) (upd u (p + 1) (V p)) := by
  refine ⟨by rw [upd_ne _ _ _ (by omega)]; exact h.g1, fun j a b => ?_, fun j a b => ?_⟩
  · by_cases e : j = p
    · subst e; rw [upd_at, upd_at]
    · rw [upd_ne _ _ _ (by omega), upd_ne _ _ _ e]; exact h.gb j a b
  · have hu := h.uv j a b
    by_cases e : j = p
    · subst e
      rw [upd_at, upd_at]
      exact ⟨hu.1, by omega, (fun _ => rfl), (fun q => absurd q (by decide))⟩
    · rw [upd_ne _ _ _ e, upd_ne _ _ _ (by omega)]
      exact ⟨hu.1, by omega, hu.2.2⟩
theorem VP.free (h : VP n k V B g u) (hk : k ≤ 100) (p : Nat) (h1 : 1 ≤ p) (hp : p < n) (hb : B p = true) : VP n (k + 1) (upd V p (min (V p + 1) 65535)) (upd B p false) (upd g (p + 1) false) u := by
  refine ⟨by rw [upd_ne _ _ _ (by omega)]; exact h.g1, fun j a b => ?_, fun j a b => ?_⟩
  · by_cases e : j = p
    · subst e; rw [upd_at, upd_at]
    · rw [upd_ne _ _ _ (by omega), upd_ne _ _ _ e]; exact h.gb j a b
  · have hu := h.uv j a b
    by_cases e : j = p
    · subst e
      rw [upd_at, upd_at]
      have := hu.2.2.1 hb
      exact ⟨by omega, by omega, (fun q => absurd q (by decide)), (fun _ => by omega)⟩
    · rw [upd_ne _ _ _ e, upd_ne _ _ _ e]
      exact ⟨hu.1, by omega, hu.2.2⟩
end
end Go.Proofs.Ytbacfbdeeogkgaa
