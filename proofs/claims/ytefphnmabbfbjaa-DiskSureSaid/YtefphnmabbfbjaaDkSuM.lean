/-
  DiskSure: mathematics, and the six lists in memory.
-/
import Derived.Test.YtefphnmabbfbjaaDkPlayC
import Derived.Test.YtefphnmabbfbjaaLists
import Derived.Test.YtefphnmabbfbjaaOpenPair
import Derived.Test.YtefphnmabbfbjaaDkAwake
namespace Go.Proofs.Ytefphnmabbfbjaa
open Go.RowKit

abbrev SLB := 36
abbrev LLB := 42
abbrev A6T := 47
/-- The writes of a block, in order. -/
def wrs (Q : List (Nat × List Nat)) (i : Nat) : List (List Nat) := (Q.filter fun p => p.1 == i).map (·.2)
theorem wrs_snoc (Q : List (Nat × List Nat)) (p : Nat × List Nat) (i : Nat) : wrs (Q ++ [p]) i = if p.1 = i then wrs Q i ++ [p.2] else wrs Q i := by
  unfold wrs
  rw [List.filter_append, List.map_append]
  by_cases h : p.1 = i
  · simp [h]
  · simp [h]
theorem sure_part (S : Nat → List Nat) (Q : List (Nat × List Nat)) (keep : List Bool) (torn sec : Int) {n : Nat} (hg : ∀ p ∈ Q, GoodW n p) (h1 : ∀ i, (S i).length = 64) (h2 : ∀ i, ∀ x ∈ S i, x < 256) (i s : Nat) (hs : s < 4) :
    ∀ k, k ≤ Q.length → ∃ X ∈ S i :: wrs (Q.take k) i, part X s = part (crK S Q keep torn sec k i) s
  | 0, _ => ⟨S i, by simp, rfl⟩
  | k + 1, hk => by
    obtain ⟨X, hX, hp⟩ := sure_part S Q keep torn sec hg h1 h2 i s hs k (by omega)
    obtain ⟨c1, _⟩ := crK_good S Q keep torn sec hg h1 h2 k (by omega)
    have g := hg Q[k] (List.getElem_mem _)
    rw [take_snoc' Q k hk, wrs_snoc, crK_succ S Q keep torn sec k hk]
    by_cases e : i = Q[k].1
    · subst e
      rw [updB_at, if_pos rfl]
      have hold : ∀ Y, part Y s = part (crK S Q keep torn sec k Q[k].1) s → ∃ X ∈ S Q[k].1 :: (wrs (Q.take k) Q[k].1 ++ [Q[k].2]), part X s = part Y s := fun Y hY => by
        refine ⟨X, ?_, by rw [hp, hY]⟩
        rcases List.mem_cons.1 hX with h | h
        · exact List.mem_cons.2 (.inl h)
        · exact List.mem_cons.2 (.inr (List.mem_append_left _ h))
      have hnew : ∀ Y, part Q[k].2 s = part Y s → ∃ X ∈ S Q[k].1 :: (wrs (Q.take k) Q[k].1 ++ [Q[k].2]), part X s = part Y s := fun Y hY => ⟨Q[k].2, by simp, hY⟩
      cases hA : keep.getD k false with
      | true => rw [crB_part_kept]; exact hnew _ rfl
      | false =>
        by_cases hT : (k : Int) = torn
        · rw [decide_eq_true hT]
          cases hb : bitS sec s with
          | true => exact hnew _ (crB_part_bit sec _ _ s hs g.2.1 hb)
          | false => exact hold _ (crB_part_no sec _ _ s hs (c1 _) hb).symm
        · rw [decide_eq_false hT, crB_part_off]
          exact hold _ rfl
    · rw [updB_ne _ _ e, if_neg (fun h => e h.symm)]
      exact ⟨X, hX, hp⟩
def ptrsOf (G : List (Nat × List Nat)) : List Value := G.map fun p => .slice (some ⟨p.1, 0, none⟩) 64 64
theorem ptrs_get (G : List (Nat × List Nat)) (j : Nat) (h : j < G.length) : (ptrsOf G)[j]? = some (.slice (some ⟨G[j].1, 0, none⟩) 64 64) := by
  simp [ptrsOf, h]
theorem ptrs_one (G : List (Nat × List Nat)) : ∀ u ∈ ptrsOf G, u.oneCell' = true := fun u hu => by
  obtain ⟨p, _, rfl⟩ := List.mem_map.1 hu; rfl
theorem info_slb : (Try.prog.info? SLB).map (fun i => (i.zero, i.size, i.bytes)) = some (some (.slice none 0 0), 1, 24) := by kernel_rfl
/-- The six lists. -/
structure Hs (W : World) (B hb : Nat) (V : Nat → Value) (G : Nat → List (Nat × List Nat)) : Prop where
  top : Blo W hb A6T #[V 0, V 1, V 2, V 3, V 4, V 5]
  row : ∀ i, i < 6 → W.ownsRow B SLB 1 (V i) (G i).length (ptrsOf (G i))
  blk : ∀ i, i < 6 → ∀ p ∈ G i, BBlk W p.1 p.2
  apart : ∀ i j, i < 6 → j < 6 → i ≠ j → ∀ g, (V i).ownBlock = some g → (V j).ownBlock ≠ some g
theorem Hs.out {X : Nat → Prop} {W W' : World} {B hb : Nat} {V : Nat → Value} {G : Nat → List (Nat × List Nat)} (h : Hs W B hb V G) (ho : Out X W W') (hx : ∀ g t cs, Blo W g t cs → t = A6T ∨ t = SLB ∨ t = U8 → ¬ X g) : Hs W' B hb V G := by
  refine ⟨ho.blo h.top (hx _ _ _ h.top (.inl rfl)), fun i hi => ?_, fun i hi p hp => (h.blk i hi p hp).out ho (hx _ _ _ (h.blk i hi p hp).1 (.inr (.inr rfl))), h.apart⟩
  have hr := h.row i hi
  refine ho.own hr (fun g hg => ?_)
  rcases hr.2 with ⟨h1, _⟩ | ⟨g', c, cur, h1, _, h3, _⟩
  · rw [h1] at hg; cases hg
  · rw [h1] at hg
    have e : g' = g := by simpa [Value.ownBlock] using hg
    subst e
    exact hx _ _ _ h3 (.inr (.inl rfl))
theorem Hs.later {W W' : World} {B hb : Nat} {V : Nat → Value} {G : Nat → List (Nat × List Nat)} (h : Hs W B hb V G) (hb' : Below W.heap.size W W') : Hs W' B hb V G :=
  h.out (X := fun _ => False) (Out.of_below hb') (fun _ _ _ _ _ h => h)
theorem Hs.disk {C : Nat} {W W' : World} {L : Dl} {d : Dm} {B hb : Nat} {V : Nat → Value} {G : Nat → List (Nat × List Nat)} (h : Hs W B hb V G) (hD : Dk C W L d) (ho : Out L.has W W') : Hs W' B hb V G :=
  h.out ho (fun g t cs hb ht => by
    rcases ht with rfl | rfl | rfl
    · exact hD.apart hb (by decide) (by decide) (by decide)
    · exact hD.apart hb (by decide) (by decide) (by decide)
    · exact hD.apart hb (by decide) (by decide) (by decide))
theorem Hs.cell {W : World} {B hb : Nat} {V : Nat → Value} {G : Nat → List (Nat × List Nat)} (h : Hs W B hb V G) {k : Nat} (hk : k < 6) : W.cell? ⟨hb, k, none⟩ = some (V k) := by
  rw [h.top.cell]
  match k, hk with
  | 0, _ => rfl
  | 1, _ => rfl
  | 2, _ => rfl
  | 3, _ => rfl
  | 4, _ => rfl
  | 5, _ => rfl
def updV (V : Nat → Value) (k : Nat) (v : Value) : Nat → Value := fun j => if j = k then v else V j
def updG (G : Nat → List (Nat × List Nat)) (k : Nat) (p : Nat × List Nat) : Nat → List (Nat × List Nat) := fun j => if j = k then G j ++ [p] else G j
theorem hs_arr (V : Nat → Value) (k : Nat) (hk : k < 6) (v : Value) : (#[V 0, V 1, V 2, V 3, V 4, V 5] : Array Value).setIfInBounds k v = #[updV V k v 0, updV V k v 1, updV V k v 2, updV V k v 3, updV V k v 4, updV V k v 5] := by
  match k, hk with
  | 0, _ => rfl
  | 1, _ => rfl
  | 2, _ => rfl
  | 3, _ => rfl
  | 4, _ => rfl
  | 5, _ => rfl
/-- A row is put at its place: one that is longer by a block, or a new one. -/
theorem Hs.put {W : World} {B hb : Nat} {V : Nat → Value} {G : Nat → List (Nat × List Nat)} {k : Nat} (hk : k < 6) {v : Value} {p : Nat × List Nat}
    (top : Blo W hb A6T #[V 0, V 1, V 2, V 3, V 4, V 5]) (row : ∀ i, i < 6 → i ≠ k → W.ownsRow B SLB 1 (V i) (G i).length (ptrsOf (G i))) (rowk : W.ownsRow B SLB 1 v ((G k).length + 1) (ptrsOf (G k ++ [p])))
    (blk : ∀ i, i < 6 → ∀ q ∈ G i, BBlk W q.1 q.2) (blkp : BBlk W p.1 p.2) (apart : ∀ i j, i < 6 → j < 6 → i ≠ j → ∀ g, (V i).ownBlock = some g → (V j).ownBlock ≠ some g) (apk : ∀ i, i < 6 → i ≠ k → ∀ g, v.ownBlock = some g → (V i).ownBlock ≠ some g) :
    Hs (W.setCell ⟨hb, k, none⟩ v) B hb (updV V k v) (updG G k p) := by
  have ho := out_put (X := fun j => j = hb) W ⟨hb, k, none⟩ v rfl
  have hrow : ∀ {u : Value} {n : Nat} {xs : List Value}, W.ownsRow B SLB 1 u n xs → (W.setCell ⟨hb, k, none⟩ v).ownsRow B SLB 1 u n xs := fun {u n xs} hr => by
    refine ho.own hr (fun g hg e => ?_)
    subst e
    rcases hr.2 with ⟨h1, _⟩ | ⟨g', c, cur, h1, _, h3, _⟩
    · rw [h1] at hg; cases hg
    · rw [h1] at hg
      have e : g' = g := by simpa [Value.ownBlock] using hg
      subst e
      exact Blo.apart (t := SLB) h3 top (by decide) rfl
  have hblk : ∀ {q : Nat × List Nat}, BBlk W q.1 q.2 → BBlk (W.setCell ⟨hb, k, none⟩ v) q.1 q.2 := fun {q} hq => hq.out ho (fun e => by
    have h := hq.1
    rw [e] at h
    exact h.apart top (by decide) rfl)
  refine ⟨?_, fun i hi => ?_, fun i hi q hq => ?_, fun i j hi hj hij g hg => ?_⟩
  · have := top.put k v
    rw [hs_arr V k hk v] at this
    exact this
  · by_cases e : i = k
    · subst e
      simp only [updV, updG, if_true]
      rw [List.length_append]
      exact hrow rowk
    · simp only [updV, updG, if_neg e]
      exact hrow (row i hi e)
  · by_cases e : i = k
    · subst e
      simp only [updG, if_true] at hq
      rcases List.mem_append.1 hq with h | h
      · exact hblk (blk i hi q h)
      · rw [List.mem_singleton.1 h]; exact hblk blkp
    · simp only [updG, if_neg e] at hq
      exact hblk (blk i hi q hq)
  · by_cases e : i = k
    · subst e
      simp only [updV, if_true] at hg
      simp only [updV, if_neg (Ne.symm hij)]
      exact apk j hj (Ne.symm hij) g hg
    · simp only [updV, if_neg e] at hg
      by_cases e2 : j = k
      · subst e2
        simp only [updV, if_true]
        intro h
        exact apk i hi e g h hg
      · simp only [updV, if_neg e2]
        exact apart i j hi hj hij g hg
theorem hs_new (w : World) (B : Nat) : Hs (w.alloc (.cells #[.slice none 0 0, .slice none 0 0, .slice none 0 0, .slice none 0 0, .slice none 0 0, .slice none 0 0] A6T)) B w.heap.size (fun _ => .slice none 0 0) (fun _ => []) :=
  ⟨blo_laid _ _ _, fun i _ => ⟨by simp [ptrsOf], .inl ⟨rfl, rfl⟩⟩, fun i _ p hp => (by cases hp), fun i j _ _ _ g hg => (by cases hg)⟩
/-- The first block of a list. -/
theorem hs_first {w : World} {B hb : Nat} {V : Nat → Value} {G : Nat → List (Nat × List Nat)} {k : Nat} {p : Nat × List Nat} (h : Hs w B hb V G) (hk : k < 6) (hG : G k = []) (hp : BBlk w p.1 p.2) (hB : B ≤ w.heap.size) :
    Hs ((w.alloc (.cells #[.slice (some ⟨p.1, 0, none⟩) 64 64] SLB)).setCell ⟨hb, k, none⟩ (.slice (some ⟨w.heap.size, 0, none⟩) 1 1)) B hb (updV V k (.slice (some ⟨w.heap.size, 0, none⟩) 1 1)) (updG G k p) := by
  have hl : Below w.heap.size w (w.alloc (.cells #[.slice (some ⟨p.1, 0, none⟩) 64 64] SLB)) := (Below.refl _ _).alloc (Nat.le_refl _) _
  have h2 := h.later hl
  refine Hs.put hk h2.top (fun i hi _ => h2.row i hi) ?_ h2.blk ⟨hp.1.later hl, hp.2⟩ h.apart (fun i hi _ g hg e => ?_)
  · rw [hG]
    exact ⟨by simp [ptrsOf], .inr ⟨w.heap.size, 1, _, rfl, hB, heap_alloc_new w _, Nat.le_refl _, by decide, by simp, by simp [ptrsOf]⟩⟩
  · have hlt := (own_lt (h.row i hi) e).2
    have e2 : w.heap.size = g := by simpa [Value.ownBlock] using hg
    omega
/-- One block more in a list. -/
theorem hs_grow {w w6 : World} {B hb : Nat} {V : Nat → Value} {G : Nat → List (Nat × List Nat)} {k g n cap H : Nat} {p : Nat × List Nat} (h : Hs w B hb V G) (hk : k < 6) (hp : BBlk w p.1 p.2) (hn : n = (G k).length + 1)
    (ho : w6.ownsRow B SLB 1 (.slice (some ⟨g, 0, none⟩) n cap) n (ptrsOf (G k) ++ [.slice (some ⟨p.1, 0, none⟩) 64 64])) (hg : w.grownBy w6 (V k).ownBlock) (hat : (V k).ownBlock = some g ∨ g = H) (hH : w.heap.size ≤ H) :
    Hs (w6.setCell ⟨hb, k, none⟩ (.slice (some ⟨g, 0, none⟩) n cap)) B hb (updV V k (.slice (some ⟨g, 0, none⟩) n cap)) (updG G k p) := by
  subst hn
  have hout : Out (fun j => (V k).ownBlock = some j) w w6 := Out.of_grown hg (fun g h => h)
  have hslb : ∀ {b cs t}, Blo w b t cs → t ≠ SLB → ¬ (V k).ownBlock = some b := fun {b cs t} hb' hne => own_type (h.row k hk) hb' (Ne.symm hne)
  refine Hs.put hk (hout.blo h.top (hslb h.top (by decide))) (fun i hi hik => hout.own (h.row i hi) (fun g' hg' e => h.apart i k hi hk hik g' hg' e)) ?_ (fun i hi q hq => (h.blk i hi q hq).out hout (hslb (h.blk i hi q hq).1 (by decide))) (hp.out hout (hslb hp.1 (by decide))) h.apart (fun i hi hik g' hg' e => ?_)
  · have e : ptrsOf (G k ++ [p]) = ptrsOf (G k) ++ [.slice (some ⟨p.1, 0, none⟩) 64 64] := by simp [ptrsOf]
    rw [e]; exact ho
  · have e2 : g = g' := by simpa [Value.ownBlock] using hg'
    subst e2
    rcases hat with h1 | h1
    · exact h.apart i k hi hk hik g e h1
    · have hlt := (own_lt (h.row i hi) e).2
      omega
theorem Hs.not_has {C : Nat} {w : World} {L : Dl} {d : Dm} {B hb : Nat} {V : Nat → Value} {G : Nat → List (Nat × List Nat)} (h : Hs w B hb V G) (hD : Dk C w L d) {k : Nat} (hk : k < 6) {g : Nat} (hg : L.has g) : (V k).ownBlock ≠ some g := fun e => by
  rcases (h.row k hk).2 with ⟨h1, _⟩ | ⟨g', c, cur, h1, _, h3, _⟩
  · rw [h1] at e; cases e
  · rw [h1] at e
    have e : g' = g := by simpa [Value.ownBlock] using e
    subst e
    exact hD.apart (t := SLB) h3 (by decide) (by decide) (by decide) hg
/-- What stands behind the append and the store. -/
structure Ga (C : Nat) (w0 w6 : World) (L : Dl) (d : Dm) (hb ga : Nat) (t : TypeId) (z : Array Value) (V : Nat → Value) (G : Nat → List (Nat × List Nat)) (k : Nat) (v : Value) (p : Nat × List Nat) : Prop where
  cell : w6.cell? ⟨hb, k, none⟩ = some (V k)
  frozen : w6.frozen? ⟨hb, k, none⟩ = false
  dk : Dk C (w6.setCell ⟨hb, k, none⟩ v) L d
  hs : Hs (w6.setCell ⟨hb, k, none⟩ v) C hb (updV V k v) (updG G k p)
  arr : Blo (w6.setCell ⟨hb, k, none⟩ v) ga t z
  low : Below C w0 (w6.setCell ⟨hb, k, none⟩ v)
theorem hs_step {C : Nat} {w0 w5 w6 : World} {L : Dl} {d : Dm} {hb ga g n cap H k : Nat} {t : TypeId} {z : Array Value} {V : Nat → Value} {G : Nat → List (Nat × List Nat)} {p : Nat × List Nat} (hD : Dk C w5 L d) (h : Hs w5 C hb V G) (hA : Blo w5 ga t z) (ht1 : t ≠ A6T) (ht2 : t ≠ SLB) (hB : Below C w0 w5) (hC : C ≤ w0.heap.size) (hhb : C ≤ hb) (hk : k < 6) (hp : BBlk w5 p.1 p.2) (hn : n = (G k).length + 1)
    (ho : w6.ownsRow C SLB 1 (.slice (some ⟨g, 0, none⟩) n cap) n (ptrsOf (G k) ++ [.slice (some ⟨p.1, 0, none⟩) 64 64])) (hg : (w5.alloc (.cells #[.slice (some ⟨p.1, 0, none⟩) 64 64] SLB)).grownBy w6 (V k).ownBlock) (hat : (V k).ownBlock = some g ∨ g = H) (hH : H = w5.heap.size + 1) :
    Ga C w0 w6 L d hb ga t z V G k (.slice (some ⟨g, 0, none⟩) n cap) p := by
  have hl : Below w5.heap.size w5 (w5.alloc (.cells #[.slice (some ⟨p.1, 0, none⟩) 64 64] SLB)) := (Below.refl _ _).alloc (Nat.le_refl _) _
  have h5 := h.later hl
  have hD5 := hD.later hl
  have hA5 := hA.later hl
  have hout : Out (fun j => (V k).ownBlock = some j) (w5.alloc (.cells #[.slice (some ⟨p.1, 0, none⟩) 64 64] SLB)) w6 := Out.of_grown hg (fun g h => h)
  have hput := out_put (X := fun j => j = hb) w6 ⟨hb, k, none⟩ (.slice (some ⟨g, 0, none⟩) n cap) rfl
  have ht6 : Blo w6 hb A6T #[V 0, V 1, V 2, V 3, V 4, V 5] := hout.blo h5.top (own_type (h5.row k hk) h5.top (by decide))
  have hD6 : Dk C w6 L d := hD5.out hout (fun i hi => h5.not_has hD5 hk hi)
  have hA6 : Blo w6 ga t z := hout.blo hA5 (own_type (h5.row k hk) hA5 (Ne.symm ht2))
  have hs5 : C ≤ w5.heap.size := Nat.le_trans hC hB.size
  refine ⟨?_, ht6.frozen k, hD6.out hput (fun i hi e => hD6.apart ht6 (by decide) (by decide) (by decide) (by rw [← e]; exact hi)), hs_grow h5 hk ⟨hp.1.later hl, hp.2⟩ hn ho hg hat (by rw [hH]; simp), hput.blo hA6 (hA6.apart ht6 ht1), ((hB.trans (hl.mono hs5)).trans (hout.below (by simp; exact Nat.le_succ_of_le hs5) (fun i _ e => (own_lt (h5.row k hk) e).1))).trans (hput.below (Nat.le_trans hs5 (Nat.le_trans (by simp) hout.size)) (fun i _ e => by rw [e]; exact hhb))⟩
  have hc := h5.cell hk
  rw [← hc]
  exact World.cell?_of_block (hg.block hb h5.top.lt (fun e => own_type (h5.row k hk) h5.top (by decide) e.symm))
theorem Hs.at_ {W : World} {B hb : Nat} {V : Nat → Value} {G : Nat → List (Nat × List Nat)} (h : Hs W B hb V G) {k : Nat} (hk : k < 6) (hne : 0 < (G k).length) :
    ∃ g c, V k = .slice (some ⟨g, 0, none⟩) (G k).length c ∧ ∀ j (hj : j < (G k).length), W.cell? ⟨g, j, none⟩ = some (.slice (some ⟨(G k)[j].1, 0, none⟩) 64 64) := by
  rcases (h.row k hk).2 with ⟨_, h2⟩ | ⟨g, c, cur, h1, _, h3, _, _, _, h7⟩
  · omega
  · refine ⟨g, c, h1, fun j hj => ?_⟩
    rw [cell_of_row W g j cur SLB (0, 0) h3, ← ptrs_get (G k) j hj, ← h7, List.getElem?_take, if_pos (by omega), ← Array.getElem?_toList]
theorem part_get (X : List Nat) (j i : Nat) (hi : i < 16) : (part X j).getD i 0 = X.getD (16 * j + i) 0 := by
  rw [List.getD_eq_getElem?_getD, List.getD_eq_getElem?_getD, part, List.getElem?_take, if_pos hi, List.getElem?_drop]
theorem bytes_part {W : World} {g : Nat} {X : List Nat} (h : BBlk W g X) (j : Nat) (hj : j < 4) : Bytes W (some ⟨g, 16 * j, none⟩) (part X j) := by
  refine ⟨fun x hx => h.2.2 x (List.mem_of_mem_drop (List.mem_of_mem_take hx)), by rw [part, List.length_take]; omega, fun _ => ⟨g, 16 * j, rfl, fun i hi => ?_⟩⟩
  have hi2 : i < 16 := by rw [part, List.length_take] at hi; omega
  rw [part_get X j i hi2, h.1.cell, List.getElem?_toArray, cellsB_get _ _ (by rw [h.2.1]; omega)]
theorem part_len {X : List Nat} (h : X.length = 64) {j : Nat} (hj : j < 4) : (part X j).length = 16 := by
  rw [part, List.length_take, List.length_drop, h]; omega
theorem cut_part (g j : Nat) (hj : j < 4) (W : World) : (Instr.slice 36 (.slice (some ⟨g, 0, none⟩) 64 64) (some (.int .i64 (16 * (j : Int)))) (some (.int .i64 (16 * (j : Int) + 16))) none).run Try.prog W = .ok (.slice (some ⟨g, 16 * j, none⟩) 16 (64 - 16 * j)) W := by
  have hz : ∀ w, (Go.sizeOf U8).run Try.prog w = .ok 1 w := fun w => by kernel_rfl
  have ht' : Try.prog.underlying 36 = some (.slice (Try.prog.elem 36)) := by simp [Program.elem, Try.underlying36]
  have he : Try.prog.elem 36 = U8 := by simp [Program.elem, Try.underlying36]
  rw [run_slice_lh W 36 _ _ _ ht' .i64 .i64 _ _ (by omega) (by omega) (by omega), he, hz]
  have hne : ¬ 64 = 16 * j := by omega
  have e1 : (16 * (j : Int)).toNat = 16 * j := by omega
  have e2 : (16 * (j : Int) + 16).toNat = 16 * j + 16 := by omega
  have e3 : 16 * j + 16 - 16 * j = 16 := by omega
  by_cases h0 : j = 0
  · subst h0
    simp [Result.andThen, sliced, Addr.add]
  · simp [Result.andThen, sliced, Addr.add, hne, h0, e1, e2, e3]
    omega
theorem text_eq {A B : List Nat} (hA : ∀ x ∈ A, x < 256) (hB : ∀ x ∈ B, x < 256) : ((strOf A).toList == (strOf B).toList) = decide (B = A) := by
  by_cases h : B = A
  · subst h; simp
  · rw [decide_eq_false h]; exact str_ne hA hB (fun e => h e.symm)
theorem part_byte {X : List Nat} (h : ∀ x ∈ X, x < 256) (j : Nat) : ∀ x ∈ part X j, x < 256 := fun x hx => h x (List.mem_of_mem_drop (List.mem_of_mem_take hx))
def anyP (l : List (Nat × List Nat)) (b : List Nat) (s j : Nat) : Bool := (l.take j).any fun p => decide (part p.2 s = part b s)
theorem anyP_zero (l : List (Nat × List Nat)) (b : List Nat) (s : Nat) : anyP l b s 0 = false := rfl
theorem anyP_succ (l : List (Nat × List Nat)) (b : List Nat) (s j : Nat) (hj : j < l.length) : anyP l b s (j + 1) = (anyP l b s j || decide (part l[j].2 s = part b s)) := by
  unfold anyP
  rw [take_snoc' l j hj, List.any_append]
  simp
theorem anyP_all {l : List (Nat × List Nat)} {b : List Nat} {s : Nat} (h : ∃ X ∈ l.map (·.2), part X s = part b s) : anyP l b s l.length = true := by
  obtain ⟨X, hX, hp⟩ := h
  obtain ⟨p, hp1, rfl⟩ := List.mem_map.1 hX
  unfold anyP
  rw [List.take_length, List.any_eq_true]
  exact ⟨p, hp1, by simpa using hp⟩
end Go.Proofs.Ytefphnmabbfbjaa
