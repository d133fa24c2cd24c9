/-
  CacheKeeps: the map of the keys that are there; what stays while it, or a range, is written.
-/
import Derived.Test.YtdnkeplmjimjcaaChKeS
namespace Go.Proofs.Ytdnkeplmjimjcaa
open Go.RowKit

def thF (ps : List (Int × Int)) (t : Nat) (p : Int × Int) : Option Int := if p ∈ ps.take t then some 1 else none
theorem th_next {ps : List (Int × Int)} {t : Nat} {p : Int × Int} (hn : ps.Nodup) (hp : ps[t]? = some p) : updP (thF ps t) p (some 1) = thF ps (t + 1) ∧ addP (ps.take t) p = ps.take (t + 1) ∧ thF ps t p = none := by
  have h1 : ps.take (t + 1) = ps.take t ++ [p] := by rw [List.take_add_one, hp]; rfl
  have h2 : p ∉ ps.take t := by
    have := (List.take_sublist (t + 1) ps).nodup hn
    rw [h1, List.nodup_append] at this
    exact fun q => this.2.2 p q p (by simp) rfl
  refine ⟨?_, ?_, ?_⟩
  · funext q
    unfold thF
    by_cases e : q = p
    · rw [e, updP_at, if_pos (by rw [h1]; simp)]
    · rw [updP_ne _ _ e, h1]
      simp [e]
  · unfold addP
    rw [if_neg h2, h1]
  · unfold thF
    rw [if_neg h2]
section
variable {w wr w' W W' : World} {bc bm md mp i : Nat} {r : Int} {N T N' T' : Nat} {L L' L0 : List Bk} {fd : Int × Int → Option (Option Nat)} {nd : Nat} {kd : List (Int × Int)} {fp : Int × Int → Option Int} {np : Nat} {kp : List (Int × Int)} {p : Int × Int}
theorem KeS.outk (h : KeS w bc bm r md mp i L0 L fd nd kd fp np kp wr) {X : Nat → Prop} (ho : Out X wr w') (h1 : ∀ g, XC wr bc bm w.heap.size g → ¬ X g) (h2 : ¬ X md) (h3 : ¬ X mp) (h4 : ∀ g l, BBlk wr g l → ¬ X g) (h5 : ∀ g, X g → w.heap.size ≤ g) : KeS w bc bm r md mp i L0 L fd nd kd fp np kp w' :=
  ⟨⟨h.lw.ca.out ho h1, fun q hq => (by cases hq), h.lw.below.trans (ho.below h.lw.below.size (fun g _ e => h5 g e))⟩, h.dm.outq ho h2, h.pm.outq ho h3, fun p => (h.dd p).mono fun _ _ q => ⟨ho.blo q.1 (h4 _ _ q), q.2⟩, h.pp, h.cnt, h.ne, h.low⟩
theorem KeS.map3 {E : Type} {M : Elm E} {gt n : Nat} {f : Int × Int → Option E} {ks : List (Int × Int)} (h : KeS w bc bm r md mp i L0 L fd nd kd fp np kp wr) (hT : KG M wr gt n f ks) (hne : gt ≠ bm ∧ gt ≠ md ∧ gt ≠ mp) (hlow : w.heap.size ≤ gt) (hg : wr.grownBy w' (some gt)) : KeS w bc bm r md mp i L0 L fd nd kd fp np kp w' := by
  have ho : Out (fun g => g = gt) wr w' := Out.of_grown hg (fun g e => by cases e; rfl)
  exact h.outk ho (fun g hx e => by rw [e] at hx; exact mp_xc hT hne.1 h.lw.ca hx) (fun e => hne.2.1 e.symm) (fun e => hne.2.2 e.symm) (fun g l q e => hT.blo q.1 e.symm) (fun g e => by rw [e]; exact hlow)
theorem KGR.blo {E : Type} {M : Elm E} {g r' n cnt : Nat} {f : Int × Int → Option E} {done : List (Int × Int)} (h : KGR M w g r' n f done cnt) {g' : Nat} {t : TypeId} {cs : Array Value} (hb : Blo w g' t cs) : r' ≠ g' := by
  obtain ⟨D, left, ⟨es, clock, since, seen, c0, _, _, _, _, hr, _⟩, _⟩ := h
  rintro rfl
  unfold Blo at hb
  rw [hr] at hb
  cases hb
theorem KGR.nemap {E : Type} {M : Elm E} {g r' n cnt : Nat} {f : Int × Int → Option E} {done : List (Int × Int)} (h : KGR M w g r' n f done cnt) {g' : Nat} {es : Array MapEntry} {c : Nat} (hb : w.heap[g']? = some (.map es c)) : r' ≠ g' := by
  obtain ⟨D, left, ⟨es, clock, since, seen, c0, _, _, _, _, hr, _⟩, _⟩ := h
  rintro rfl
  rw [hr] at hb
  cases hb
theorem KeS.rng {E : Type} {M : Elm E} {g r' n cnt : Nat} {f : Int × Int → Option E} {done : List (Int × Int)} (h : KeS w bc bm r md mp i L0 L fd nd kd fp np kp wr) (hR : KGR M wr g r' n f done cnt) (hlow : w.heap.size ≤ r') (hg : wr.grownBy w' (some r')) : KeS w bc bm r md mp i L0 L fd nd kd fp np kp w' := by
  have ho : Out (fun g => g = r') wr w' := Out.of_grown hg (fun g e => by cases e; rfl)
  obtain ⟨e1, c1, hx1⟩ := h.dm.obj
  obtain ⟨e2, c2, hx2⟩ := h.pm.obj
  refine h.outk ho (fun g hx e => ?_) (fun e => hR.nemap hx1 e.symm) (fun e => hR.nemap hx2 e.symm) (fun g l q e => hR.blo q.1 e.symm) (fun g e => by rw [e]; exact hlow)
  obtain ⟨n', f', ks', uses, v, ⟨D', ⟨e3, c3, hx3, _⟩, _⟩, -, hB⟩ := h.lw.ca.len
  rw [e] at hx
  rcases hx.2 with q | q | ⟨t, cs, q1, -⟩
  · exact hR.blo hB q
  · exact hR.nemap hx3 q
  · exact hR.blo q1 rfl
theorem KG.keys {E : Type} {M : Elm E} {g n : Nat} {f : Int × Int → Option E} {ks : List (Int × Int)} (h : KG M W g n f ks) : ks.Nodup ∧ ∀ p, p ∈ ks ↔ (f p).isSome = true := by
  obtain ⟨D, h1, h2, h5, h6, h8, h7⟩ := h
  exact ⟨h5, h6⟩
theorem dk_in {L : List Bk} (hn : (L.map Bk.key).Nodup) (p : Int × Int) : p ∈ (L.filter fun s => s.dirty).map Bk.key ↔ (Dk L p).isSome = true := by
  rw [List.mem_map]
  constructor
  · rintro ⟨s, hs, rfl⟩
    obtain ⟨h1, h2⟩ := List.mem_filter.1 hs
    unfold Dk
    rw [findK_in hn h1]
    simp only
    rw [if_pos h2]
    rfl
  · intro h
    obtain ⟨s, h1, h2, h3, -⟩ := Dk_mem h
    exact ⟨s, List.mem_filter.2 ⟨h1, h3⟩, h2⟩
theorem KeS.dty (h : KeS w bc bm r md mp i L L fd nd kd fp np kp wr) {qs : List (Int × Int)} (hq : DtK L qs) : qs.length = kd.length ∧ ∀ p, p ∈ qs ↔ (fd p).isSome = true := by
  have hn := h.lw.ca.nodup
  have hm : ∀ p, p ∈ qs ↔ (fd p).isSome = true := fun p => by
    rw [hq.1.mem_iff, dk_in hn, (h.dd p).is]
  refine ⟨?_, hm⟩
  have hnq : qs.Nodup := hq.1.nodup_iff.2 ((List.filter_sublist.map Bk.key).nodup hn)
  obtain ⟨k1, k2⟩ := h.dm.keys
  exact ((List.perm_ext_iff_of_nodup hnq k1).2 (fun p => by rw [hm, k2])).length_eq
end
end Go.Proofs.Ytdnkeplmjimjcaa
