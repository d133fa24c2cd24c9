/-
  Put.
-/
import Derived.Test.YtdnkeplmjimjcaaChRoom
namespace Go.Proofs.Ytdnkeplmjimjcaa
open Go.RowKit

def gd (l : List Nat) : Nat → Nat := fun i => l.getD i 0
/-- The blocks behind Put, and its error. -/
def putK (room : Int) (L : List Bk) (p : Int × Int) (l : List Nat) (d : Bool) : List Bk × Int :=
  if l.length ≠ 64 then (L, 22)
  else match findK L p with
    | some s => (woK L p ++ [⟨p, gd l, s.dirty || d, s.pins⟩], 0)
    | none => if (roomK room L).2 = true then ((roomK room L).1 ++ [⟨p, gd l, d, 0⟩], 0) else ((roomK room L).1, 28)
/-- Bytes that are handed in. -/
structure DIn (w : World) (bc bm base : Nat) (a : Option Addr) (l : List Nat) : Prop where
  b : Bytes w a l
  far : ∀ g o, a = some ⟨g, o, none⟩ → g < w.heap.size ∧ ¬ XC w bc bm base g
section
variable {w w' : World} {bc bm base b : Nat} {room uses : Int} {N T T' : Nat} {x : Sx} {a : Int} {s : Bf} {v : Value} {p : Int × Int} {L L' : List Bk} {sa : Option Addr} {l : List Nat}
theorem DIn.out (h : DIn w bc bm base sa l) (ho : Out (XC w bc bm base) w w') : DIn w' bc bm base sa l := by
  refine ⟨⟨h.b.1, h.b.2.1, fun hl => ?_⟩, fun g o e => ?_⟩
  · obtain ⟨g, o, e, hc⟩ := h.b.2.2 hl
    exact ⟨g, o, e, fun i hi => ho.cell (hc i hi) (h.far g o e).2⟩
  · obtain ⟨h1, h2⟩ := h.far g o e
    exact ⟨Nat.lt_of_lt_of_le h1 ho.size, fun q => h2 (XC.back ho (fun _ q _ => q) h1 q)⟩
theorem DIn.src (h : DIn w bc bm base sa l) (hl : l.length = 64) : ∃ g o, sa = some ⟨g, o, none⟩ ∧ ∀ j u, (cellsB l)[j]? = some u → w.cell? ((⟨g, o, none⟩ : Addr).add j) = some u := by
  obtain ⟨g, o, e, hc⟩ := h.b.2.2 (fun q => by rw [q] at hl; cases hl)
  refine ⟨g, o, e, fun j u hj => ?_⟩
  have hj' : j < l.length := by
    have := (List.getElem?_eq_some_iff.1 hj).1
    rwa [cellsB_length] at this
  rw [cellsB_get l j hj'] at hj
  cases hj
  rw [Addr.add_mid]
  exact hc j hj'
theorem BufO.there (hB : BufO w b s a) : w.there b 2 64 := by
  obtain ⟨cs, h1, h2⟩ := hB
  intro j hj
  refine ⟨?_, h1.frozen _⟩
  rw [h1.cell, h2.dat j hj]
  rfl
theorem BufO.put_data (hB : BufO w b s a) (hl : l.length = 64) : BufO (w.setCells b 2 (cellsB l)) b { s with data := gd l } a := by
  obtain ⟨cs, h1, h2⟩ := hB
  obtain ⟨cs', h3, h4, h5⟩ := blo_cells (cellsB l) 2 w cs h1
  have hz := h2.size
  have hlc : (cellsB l).length = 64 := by rw [cellsB_length, hl]
  have low : ∀ j, (j < 2 ∨ 66 ≤ j) → cs'[j]? = cs[j]? := fun j hj => by rw [h5, if_neg (by omega)]
  refine ⟨cs', h3, by omega, (low _ (by omega)).trans h2.k0, (low _ (by omega)).trans h2.k1, fun i hi => ?_, (low _ (by omega)).trans h2.dirty, (low _ (by omega)).trans h2.pins, (low _ (by omega)).trans h2.used, (low _ (by omega)).trans h2.at_⟩
  rw [h5, if_pos (by omega), show 2 + i - 2 = i by omega, cellsB_get l i (by omega)]
  rfl
/-- A new buffer. -/
theorem CS.fresh {wA : World} (hC : CS w bc bm base room N T x) (hp : wfK p) (hf : x.f p = none) (hlen : (x.bs.length : Int) < room) (hb : w.heap.size ≤ b) (hA : Out (fun g => g = bm) w wA) (hK : KM wA bm (x.n + 1) (updP x.f p (some b)) (addP x.ks p)) {N' : Nat} (hn : x.n + 1 ≤ N') (w' : World) (s' : Bf)
    (hB : BufO w' b s' (-1)) (hCB : CB w' bc bm room (x.uses + 1) x.v) (ho : Out (fun g => g = bc ∨ g = b) wA w') (h1 : keyB s' = p) (h2 : s'.pins = 0) (h3 : s'.used = x.uses + 1) :
    LS w' bc bm base room N' (T + 1) { x with S := upn x.S b s', bs := x.bs ++ [b], ks := addP x.ks p, f := updP x.f p (some b), n := x.n + 1, uses := x.uses + 1 } b (-1) := by
  have hbs : ∀ c, c ∈ x.bs → c < w.heap.size := fun c hc => by
    obtain ⟨a, hB⟩ := hC.buf hc
    exact hB.lt
  have hnb : b ∉ x.bs := fun q => by have := hbs b q; omega
  have hne : ∀ c, c ≠ b → (upn x.S b s') c = x.S c := fun c e => upn_ne _ _ e
  have hib : ∀ i, i < x.m → x.h i ≠ b := fun i hi e => hnb (by rw [← e]; exact (hC.who i hi).1)
  have hks : p ∉ x.ks := by
    obtain ⟨D, _, _, _, hk, _⟩ := hC.km
    intro q
    have := (hk p).1 q
    rw [hf] at this
    cases this
  have hout : Out (fun g => g = bm ∨ g = bc ∨ g = b) w w' := (hA.mono fun g _ e => .inl e).trans ho fun g _ e => .inr e
  have hrow : ∀ g, XG x.v x.m x.h g → ¬ (g = bm ∨ g = bc ∨ g = b) := by
    rintro g hg (e | e | e)
    · rw [e] at hg; exact hC.km.xg hC.gs hg
    · rw [e] at hg; exact cb_free hC.cb hC.gs hg
    · have : g < w.heap.size := by
        rcases (hC.gs.xc (bc := bc) (bm := bm) hC.hl hg).2 with q | q | ⟨t, cs, q, _⟩
        · rw [q]; exact Blo.lt hC.cb
        · rw [q]; exact hC.km.lt
        · exact q.lt
      omega
  have hbo : ∀ c s a, BufO w c s a → BufO w' c s a := fun c s a hc => hc.out hout (by
    rintro (e | e | e)
    · exact hC.km.buf hc e.symm
    · exact hc.apart hC.cb (by decide) e
    · have := hc.lt
      omega)
  have hm := hC.mle
  refine ⟨hCB, hK.out ho ?_, ⟨hout.own hC.gs.row (fun g hg => hrow g (.inl hg)), fun i hi => ?_⟩, ?_, .inr ⟨rfl, hib, ?_⟩, fun c hc hcb hg => ?_, fun c hc hcb hg => ?_, fun i hi hcb => ?_, hC.ps.add hnb hf hks h1 hp h3 h2 (Nat.le_refl _) hlen hn, (by have := hC.ps.rm; show x.m ≤ 4096; omega), ⟨hC.low.1, hC.low.2.1, fun c hc => ?_⟩, ?_, .inl ⟨by simp, ?_⟩, ?_⟩
  · rintro (e | e)
    · exact hC.km.blo hC.cb e
    · have := hC.km.lt
      omega
  · show BufO w' (x.h i) (upn x.S b s' (x.h i)) _
    rw [hne _ (hib i hi)]
    exact hbo _ _ _ (hC.gs.buf i hi)
  · show BufO w' b (upn x.S b s' b) _
    rw [upn_at]; exact hB
  · intro j j0 j1
    have j1 : j < x.m := j1
    show (upn x.S b s' (x.h ((j - 1) / 2))).used ≤ (upn x.S b s' (x.h j)).used
    rw [hne _ (hib _ j1), hne _ (hib _ (by omega))]
    exact hC.hq j j0 j1
  · have hc : c ∈ x.bs ++ [b] := hc
    have hc' : c ∈ x.bs := by simpa [hcb] using hc
    have hg : goesB (upn x.S b s' c) = false := hg
    show BufO w' c (upn x.S b s' c) _
    rw [hne _ hcb] at hg ⊢
    exact hbo _ _ _ (hC.off c hc' hg)
  · have hc : c ∈ x.bs ++ [b] := hc
    have hc' : c ∈ x.bs := by simpa [hcb] using hc
    have hg : goesB (upn x.S b s' c) = true := hg
    rw [hne _ hcb] at hg
    exact hC.on c hc' hg
  · show x.h i ∈ x.bs ++ [b] ∧ goesB (upn x.S b s' (x.h i)) = true
    rw [hne _ hcb]
    exact ⟨by simp [(hC.who i hi).1], (hC.who i hi).2⟩
  · have hc : c ∈ x.bs ++ [b] := hc
    rcases List.mem_append.1 hc with q | q
    · exact hC.low.2.2 c q
    · obtain rfl : c = b := by simpa using q
      have := hC.low.2.1
      have := hC.km.lt
      omega
  · show wfK (keyB (upn x.S b s' b))
    rw [upn_at, h1]; exact hp
  · show updP x.f p (some b) (keyB (upn x.S b s' b)) = some b
    rw [upn_at, h1, updP_at]
  · have := hC.low.2.1
    have := hC.km.lt
    omega
end
end Go.Proofs.Ytdnkeplmjimjcaa
