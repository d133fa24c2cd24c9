/-
  What CacheKeeps keeps between calls: the cache, the map of what is dirty, the map of pins.
-/
import Derived.Test.YtdnkeplmjimjcaaChKeM
namespace Go.Proofs.Ytdnkeplmjimjcaa
open Go.RowKit

/-- A block's bytes, where they are dirty. -/
def DDp (W : World) : Option (Nat → Nat) → Option (Option Nat) → Prop
  | none, none => True
  | some d, some (some g) => BBlk W g (dtL d)
  | _, _ => False
structure KeS (w : World) (bc bm : Nat) (r : Int) (md mp i : Nat) (L0 L : List Bk) (fd : Int × Int → Option (Option Nat)) (nd : Nat) (kd : List (Int × Int)) (fp : Int × Int → Option Int) (np : Nat) (kp : List (Int × Int)) (wr : World) : Prop where
  lw : LwS w bc bm r i i L [] wr
  dm : KG elB wr md nd fd kd
  pm : KG elI wr mp np fp kp
  dd : ∀ p, DDp wr (Dk L0 p) (fd p)
  pp : ∀ p, (fp p).getD 0 = Pk L0 p
  cnt : nd ≤ i ∧ np ≤ i
  ne : md ≠ bm ∧ mp ≠ bm ∧ md ≠ mp
  low : w.heap.size ≤ md ∧ w.heap.size ≤ mp
section
variable {w wr w' W W' : World} {bc bm md mp i : Nat} {r : Int} {N T N' T' : Nat} {L L' L0 : List Bk} {fd : Int × Int → Option (Option Nat)} {nd : Nat} {kd : List (Int × Int)} {fp : Int × Int → Option Int} {np : Nat} {kp : List (Int × Int)} {p : Int × Int}
theorem DDp.mono {a : Option (Nat → Nat)} {b : Option (Option Nat)} (h : DDp W a b) (hb : ∀ g l, BBlk W g l → BBlk W' g l) : DDp W' a b := by
  match a, b, h with
  | none, none, _ => trivial
  | some d, some (some g), h => exact hb _ _ h
theorem DDp.is {a : Option (Nat → Nat)} {b : Option (Option Nat)} (h : DDp W a b) : b.isSome = a.isSome := by
  match a, b, h with
  | none, none, _ => rfl
  | some d, some (some g), _ => rfl
theorem KG.del_any {E : Type} {M : Elm E} {g n : Nat} {f : Int × Int → Option E} {ks : List (Int × Int)} (h : KG M w g n f ks) (hp : wfK p) (ty : TypeId) : ∃ w' ks', (Builtin.delete_ #[M.ty, KT] ty #[.map (some g), keyV p]).run Try.prog w = .ok (.tuple #[]) w' ∧ KG M w' g n (updP f p none) ks' ∧ w.grownBy w' (some g) := by
  by_cases hin : p ∈ ks
  · obtain ⟨w', q1, q2, q3⟩ := h.del hp hin ty
    exact ⟨w', _, q1, q2, q3⟩
  · obtain ⟨w', q1, q2, q3⟩ := h.del_none hp hin ty
    have hf : f p = none := by
      obtain ⟨D, h1, h2, h5, h6, h8, h7⟩ := h
      cases hq : f p with
      | none => rfl
      | some e => exact absurd ((h6 p).2 (by rw [hq]; rfl)) hin
    refine ⟨w', ks, q1, ?_, q3⟩
    have : updP f p none = f := by
      funext q
      by_cases e : q = p
      · rw [e, updP_at, hf]
      · rw [updP_ne _ _ e]
    rw [this]
    exact q2
theorem KeS.later (h : KeS w bc bm r md mp i L0 L fd nd kd fp np kp wr) (hb : Below wr.heap.size wr w') : KeS w bc bm r md mp i L0 L fd nd kd fp np kp w' :=
  ⟨h.lw.later hb, h.dm.later hb, h.pm.later hb, fun p => (h.dd p).mono fun _ _ q => q.later hb, h.pp, h.cnt, h.ne, h.low⟩
theorem KeS.up (h : KeS w bc bm r md mp i L0 L fd nd kd fp np kp wr) : KeS w bc bm r md mp (i + 1) L0 L fd nd kd fp np kp wr :=
  ⟨h.lw.mono (by omega) (by omega), h.dm, h.pm, h.dd, h.pp, ⟨by have := h.cnt; omega, by have := h.cnt; omega⟩, h.ne, h.low⟩
theorem KeS.call (h : KeS w bc bm r md mp i L0 L fd nd kd fp np kp wr) (hC : CA w' bc bm w.heap.size r (i + 1) (i + 1) L') (ho : Out (XC wr bc bm w.heap.size) wr w') : KeS w bc bm r md mp (i + 1) L0 L' fd nd kd fp np kp w' :=
  ⟨h.lw.call hC ho, h.dm.outq ho (mp_xc h.dm h.ne.1 h.lw.ca), h.pm.outq ho (mp_xc h.pm h.ne.2.1 h.lw.ca), fun p => (h.dd p).mono fun _ _ q => ⟨ho.blo q.1 (xc_u8 h.lw.ca q.1), q.2⟩, h.pp, ⟨by have := h.cnt; omega, by have := h.cnt; omega⟩, h.ne, h.low⟩
theorem KeS.same (h : KeS w bc bm r md mp i L0 L fd nd kd fp np kp wr) (hq : ∀ q, Dk L q = Dk L0 q ∧ Pk L q = Pk L0 q) : KeS w bc bm r md mp i L L fd nd kd fp np kp wr :=
  ⟨h.lw, h.dm, h.pm, fun p => by rw [(hq p).1]; exact h.dd p, fun p => by rw [(hq p).2]; exact h.pp p, h.cnt, h.ne, h.low⟩
/-- A block of bytes is put under a key. -/
theorem KeS.dput (h : KeS w bc bm r md mp i L0 L fd nd kd fp np kp wr) (hg : wr.grownBy w' (some md)) {g : Nat} {l : List Nat} (hB : BBlk wr g l) (hM : KG elB w' md (nd + 1) (updP fd p (some (some g))) (addP kd p)) (hn : nd + 1 ≤ i)
    (hq : ∀ q, Dk L q = (if q = p then some (gd l) else Dk L0 q) ∧ Pk L q = Pk L0 q) : KeS w bc bm r md mp i L L (updP fd p (some (some g))) (nd + 1) (addP kd p) fp np kp w' := by
  have ho : Out (fun g => g = md) wr w' := Out.of_grown hg (fun g e => by cases e; rfl)
  have hk : ∀ g l, BBlk wr g l → BBlk w' g l := fun g l q => ⟨ho.blo q.1 (fun e => h.dm.blo q.1 e.symm), q.2⟩
  refine ⟨h.lw.map h.dm h.ne.1 h.low.1 hg, hM, h.pm.outq ho (fun e => h.ne.2.2 e.symm), fun q => ?_, fun q => by rw [(hq q).2]; exact h.pp q, ⟨hn, h.cnt.2⟩, h.ne, h.low⟩
  rw [(hq q).1]
  by_cases e : q = p
  · rw [if_pos e, e, updP_at]
    show BBlk w' g (dtL (gd l))
    rw [dtL_gd hB.2.1]
    exact hk _ _ hB
  · rw [if_neg e, updP_ne _ _ e]
    exact (h.dd q).mono hk
/-- A key is deleted. -/
theorem KeS.ddel (h : KeS w bc bm r md mp i L0 L fd nd kd fp np kp wr) (hg : wr.grownBy w' (some md)) {kd' : List (Int × Int)} (hM : KG elB w' md nd (updP fd p none) kd')
    (hq : ∀ q, Dk L q = (if q = p then none else Dk L0 q) ∧ Pk L q = Pk L0 q) : KeS w bc bm r md mp i L L (updP fd p none) nd kd' fp np kp w' := by
  have ho : Out (fun g => g = md) wr w' := Out.of_grown hg (fun g e => by cases e; rfl)
  have hk : ∀ g l, BBlk wr g l → BBlk w' g l := fun g l q => ⟨ho.blo q.1 (fun e => h.dm.blo q.1 e.symm), q.2⟩
  refine ⟨h.lw.map h.dm h.ne.1 h.low.1 hg, hM, h.pm.outq ho (fun e => h.ne.2.2 e.symm), fun q => ?_, fun q => by rw [(hq q).2]; exact h.pp q, h.cnt, h.ne, h.low⟩
  rw [(hq q).1]
  by_cases e : q = p
  · rw [if_pos e, e, updP_at]; trivial
  · rw [if_neg e, updP_ne _ _ e]
    exact (h.dd q).mono hk
/-- A number is put under a key. -/
theorem KeS.pput (h : KeS w bc bm r md mp i L0 L fd nd kd fp np kp wr) (hg : wr.grownBy w' (some mp)) {v : Int} (hM : KG elI w' mp (np + 1) (updP fp p (some v)) (addP kp p)) (hn : np + 1 ≤ i)
    (hq : ∀ q, Dk L q = Dk L0 q ∧ Pk L q = (if q = p then v else Pk L0 q)) : KeS w bc bm r md mp i L L fd nd kd (updP fp p (some v)) (np + 1) (addP kp p) w' := by
  have ho : Out (fun g => g = mp) wr w' := Out.of_grown hg (fun g e => by cases e; rfl)
  have hk : ∀ g l, BBlk wr g l → BBlk w' g l := fun g l q => ⟨ho.blo q.1 (fun e => h.pm.blo q.1 e.symm), q.2⟩
  refine ⟨h.lw.map h.pm h.ne.2.1 h.low.2 hg, h.dm.outq ho h.ne.2.2, hM, fun q => by rw [(hq q).1]; exact (h.dd q).mono hk, fun q => ?_, ⟨h.cnt.1, hn⟩, h.ne, h.low⟩
  rw [(hq q).2]
  by_cases e : q = p
  · rw [if_pos e, e, updP_at]; rfl
  · rw [if_neg e, updP_ne _ _ e]
    exact h.pp q
theorem CA.pins {base : Nat} (h : CA W bc bm base r N T L) : ∀ s ∈ L, 0 ≤ s.pins ∧ s.pins ≤ (T : Int) := fun s hs => by
  obtain ⟨x, hC, rfl⟩ := h
  unfold lstK at hs
  obtain ⟨b, hb, rfl⟩ := List.mem_map.1 hs
  exact hC.ps.pins b hb
theorem CA.pk {base : Nat} (h : CA W bc bm base r N T L) (p : Int × Int) : 0 ≤ Pk L p ∧ Pk L p ≤ (T : Int) := by
  unfold Pk
  cases hf : findK L p with
  | none => exact ⟨Int.le_refl _, by show (0 : Int) ≤ _; omega⟩
  | some s => exact h.pins s (findK_mem hf).1
end
end Go.Proofs.Ytdnkeplmjimjcaa
