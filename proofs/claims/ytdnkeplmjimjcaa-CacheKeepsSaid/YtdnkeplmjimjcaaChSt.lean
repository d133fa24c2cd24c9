/-
  A cache in memory: its map, its buffers, its heap; as it stands between calls, and with one buffer that is not yet in its place.
-/
import Derived.Test.YtdnkeplmjimjcaaChHeap
import Derived.Test.YtdnkeplmjimjcaaKMap
namespace Go.Proofs.Ytdnkeplmjimjcaa
open Go.RowKit

def keyB (s : Bf) : Int × Int := (s.ino, s.lbn)
def goesB (s : Bf) : Bool := !s.dirty && decide (s.pins = 0)
/-- All that a cache is. -/
structure Sx where
  v : Value
  m : Nat
  h : Nat → Nat
  S : Nat → Bf
  n : Nat
  bs : List Nat
  ks : List (Int × Int)
  f : Int × Int → Option Nat
  uses : Int
/-- What holds of its numbers. -/
structure PS (room : Int) (N T : Nat) (S : Nat → Bf) (bs : List Nat) (ks : List (Int × Int)) (f : Int × Int → Option Nat) (uses : Int) (n : Nat) : Prop where
  srt : bs.Pairwise fun b c => (S b).used < (S c).used
  top : ∀ b, b ∈ bs → (S b).used ≤ uses
  wf : ∀ b, b ∈ bs → wfK (keyB (S b))
  key : ∀ p b, f p = some b ↔ b ∈ bs ∧ keyB (S b) = p
  len : ks.length = bs.length
  pins : ∀ b, b ∈ bs → 0 ≤ (S b).pins ∧ (S b).pins ≤ (T : Int)
  rm : 1 ≤ room ∧ room ≤ 4096 ∧ (bs.length : Int) ≤ room
  us : 0 ≤ uses ∧ uses ≤ (T : Int)
  cnt : n ≤ N
/-- Blocks that a cache may change. -/
def XC (w : World) (bc bm base g : Nat) : Prop := base ≤ g ∧ (g = bc ∨ g = bm ∨ ∃ t cs, Blo w g t cs ∧ (t = BT ∨ t = PB))
structure LS (w : World) (bc bm base : Nat) (room : Int) (N T : Nat) (x : Sx) (b : Nat) (a : Int) : Prop where
  cb : CB w bc bm room x.uses x.v
  km : KM w bm x.n x.f x.ks
  gs : GS w base x.v x.m x.h x.S
  buf : BufO w b (x.S b) a
  cse : (∃ i, i < x.m ∧ x.h i = b ∧ a = ((i : Nat) : Int) ∧ Hx x.m (us x.S x.h) i) ∨ (a = -1 ∧ (∀ i, i < x.m → x.h i ≠ b) ∧ Hq x.m (us x.S x.h))
  off : ∀ c, c ∈ x.bs → c ≠ b → goesB (x.S c) = false → BufO w c (x.S c) (-1)
  on : ∀ c, c ∈ x.bs → c ≠ b → goesB (x.S c) = true → ∃ i, i < x.m ∧ x.h i = c
  who : ∀ i, i < x.m → x.h i ≠ b → x.h i ∈ x.bs ∧ goesB (x.S (x.h i)) = true
  ps : PS room N T x.S x.bs x.ks x.f x.uses x.n
  hm : x.m ≤ 4096
  low : base ≤ bc ∧ base ≤ bm ∧ ∀ c, c ∈ x.bs → base ≤ c
  wfb : wfK (keyB (x.S b))
  fb : (b ∈ x.bs ∧ x.f (keyB (x.S b)) = some b) ∨ (b ∉ x.bs ∧ x.f (keyB (x.S b)) = none)
  blb : base ≤ b
structure CS (w : World) (bc bm base : Nat) (room : Int) (N T : Nat) (x : Sx) : Prop where
  cb : CB w bc bm room x.uses x.v
  km : KM w bm x.n x.f x.ks
  gs : GS w base x.v x.m x.h x.S
  hq : Hq x.m (us x.S x.h)
  off : ∀ c, c ∈ x.bs → goesB (x.S c) = false → BufO w c (x.S c) (-1)
  on : ∀ c, c ∈ x.bs → goesB (x.S c) = true → ∃ i, i < x.m ∧ x.h i = c
  who : ∀ i, i < x.m → x.h i ∈ x.bs ∧ goesB (x.S (x.h i)) = true
  ps : PS room N T x.S x.bs x.ks x.f x.uses x.n
  low : base ≤ bc ∧ base ≤ bm ∧ ∀ c, c ∈ x.bs → base ≤ c
section
variable {w w' : World} {bc bm base b : Nat} {room : Int} {N T : Nat} {x : Sx} {a : Int} {X : Nat → Prop}
theorem pigeon : ∀ (m : Nat) (h : Nat → Nat) (l : List Nat), (∀ i j, i < m → j < m → h i = h j → i = j) → (∀ i, i < m → h i ∈ l) → m ≤ l.length
  | 0, _, _, _, _ => Nat.zero_le _
  | m + 1, h, l, hi, hl => by
    have h1 := pigeon m h (l.erase (h m)) (fun i j a b => hi i j (by omega) (by omega)) (fun i hm => (List.mem_erase_of_ne (fun e => by have := hi i m (by omega) (by omega) e; omega)).2 (hl i (by omega)))
    have h2 := List.length_erase_of_mem (hl m (by omega))
    have h3 := List.length_pos_of_mem (hl m (by omega))
    omega
theorem KM.out {g n : Nat} {f : Int × Int → Option Nat} {ks : List (Int × Int)} (h : KM w g n f ks) (ho : Out X w w') (hx : ¬ X g) : KM w' g n f ks :=
  h.same (fun o e => (ho.block g h.lt hx).trans e)
theorem KM.buf {g n : Nat} {f : Int × Int → Option Nat} {ks : List (Int × Int)} (h : KM w g n f ks) {s : Bf} (hB : BufO w b s a) : g ≠ b := by
  obtain ⟨cs, h1, h2⟩ := hB
  exact h.blo h1
theorem BufO.xc {s : Bf} (hB : BufO w b s a) (hb : base ≤ b) : XC w bc bm base b := by
  obtain ⟨cs, h1, h2⟩ := hB
  exact ⟨hb, .inr (.inr ⟨_, cs, h1, .inl rfl⟩)⟩
theorem GS.xc {v : Value} {m : Nat} {h : Nat → Nat} {S : Nat → Bf} (hG : GS w base v m h S) (hl : ∀ i, i < m → base ≤ h i) {g : Nat} (hx : XG v m h g) : XC w bc bm base g := by
  rcases hx with e | ⟨i, hi, e⟩
  · rcases hG.row.2 with ⟨q, _⟩ | ⟨g', cap, cur, hv, hb, hg, _⟩
    · rw [q] at e; cases e
    · rw [hv] at e
      obtain rfl : g' = g := by simpa [Value.ownBlock] using e
      exact ⟨hb, .inr (.inr ⟨_, cur, hg, .inr rfl⟩)⟩
  · rw [← e]
    exact (hG.buf i hi).xc (hl i hi)
theorem KM.xg {v : Value} {m n g : Nat} {h : Nat → Nat} {S : Nat → Bf} {f : Int × Int → Option Nat} {ks : List (Int × Int)} (hK : KM w g n f ks) (hG : GS w base v m h S) : ¬ XG v m h g := by
  rintro (e | ⟨i, hi, e⟩)
  · rcases hG.row.2 with ⟨q, _⟩ | ⟨g', cap, cur, hv, hb, hg, _⟩
    · rw [q] at e; cases e
    · rw [hv] at e
      obtain rfl : g' = g := by simpa [Value.ownBlock] using e
      exact hK.blo hg rfl
  · exact hK.buf (hG.buf i hi) e.symm
theorem XC.back (ho : Out X w w') (hX : ∀ g, X g → g < w.heap.size → XC w bc bm base g) {g : Nat} (hg : g < w.heap.size) (h : XC w' bc bm base g) : XC w bc bm base g := by
  by_cases hx : X g
  · exact hX g hx hg
  · rcases h with ⟨h0, e | e | ⟨t, cs, h1, h2⟩⟩
    · exact ⟨h0, .inl e⟩
    · exact ⟨h0, .inr (.inl e)⟩
    · exact ⟨h0, .inr (.inr ⟨t, cs, (ho.block g hg hx).symm.trans h1, h2⟩)⟩
theorem outC_trans {w2 : World} (h1 : Out (XC w bc bm base) w w') (h2 : Out (XC w' bc bm base) w' w2) : Out (XC w bc bm base) w w2 :=
  h1.trans h2 (fun _ hg hx => XC.back h1 (fun _ q _ => q) hg hx)
theorem CS.hl (hC : CS w bc bm base room N T x) (i : Nat) (hi : i < x.m) : base ≤ x.h i := hC.low.2.2 _ (hC.who i hi).1
theorem LS.hl (hL : LS w bc bm base room N T x b a) (i : Nat) (hi : i < x.m) : base ≤ x.h i := by
  by_cases e : x.h i = b
  · rw [e]; exact hL.blb
  · exact hL.low.2.2 _ (hL.who i hi e).1
theorem CS.out (hC : CS w bc bm base room N T x) (ho : Out X w w') (hX : ∀ g, XC w bc bm base g → ¬ X g) : CS w' bc bm base room N T x :=
  ⟨hC.cb.out ho (hX _ ⟨hC.low.1, .inl rfl⟩), hC.km.out ho (hX _ ⟨hC.low.2.1, .inr (.inl rfl)⟩), hC.gs.out ho (fun g hg => hX g (hC.gs.xc hC.hl hg)), hC.hq, fun c h1 h2 => (hC.off c h1 h2).out ho (hX _ ((hC.off c h1 h2).xc (hC.low.2.2 c h1))), hC.on, hC.who, hC.ps, hC.low⟩
theorem CS.later (hC : CS w bc bm base room N T x) (hb : Below w.heap.size w w') : CS w' bc bm base room N T x :=
  hC.out (X := fun _ => False) (Out.of_below hb) (fun _ _ q => q)
theorem CS.mle (hC : CS w bc bm base room N T x) : x.m ≤ x.bs.length :=
  pigeon x.m x.h x.bs (fun i j h1 h2 e => hC.gs.inj h1 h2 e) (fun i hi => (hC.who i hi).1)
theorem CS.buf (hC : CS w bc bm base room N T x) {c : Nat} (hc : c ∈ x.bs) : ∃ a, BufO w c (x.S c) a := by
  by_cases hg : goesB (x.S c) = true
  · obtain ⟨i, hi, e⟩ := hC.on c hc hg
    exact ⟨_, by rw [← e]; exact hC.gs.buf i hi⟩
  · exact ⟨_, hC.off c hc (by simpa using hg)⟩
theorem CS.mono (hC : CS w bc bm base room N T x) {N' T' : Nat} (h1 : N ≤ N') (h2 : T ≤ T') : CS w bc bm base room N' T' x :=
  ⟨hC.cb, hC.km, hC.gs, hC.hq, hC.off, hC.on, hC.who, ⟨hC.ps.srt, hC.ps.top, hC.ps.wf, hC.ps.key, hC.ps.len, fun b hb => ⟨(hC.ps.pins b hb).1, by have := (hC.ps.pins b hb).2; omega⟩, hC.ps.rm, ⟨hC.ps.us.1, by have := hC.ps.us.2; omega⟩, Nat.le_trans hC.ps.cnt h1⟩, hC.low⟩
/-- One buffer changes. -/
theorem CS.loose (hC : CS w bc bm base room N T x) (hb : b ∈ x.bs) : ∃ a, BufO w b (x.S b) a ∧ ∀ (w' : World) (s' : Bf) (uses' : Int) (bs' : List Nat) (T' : Nat), BufO w' b s' a → CB w' bc bm room uses' x.v → Out (fun g => g = bc ∨ g = b) w w' →
    PS room N T' (upn x.S b s') bs' x.ks x.f uses' x.n → (∀ c, c ∈ bs' ↔ c ∈ x.bs) → LS w' bc bm base room N T' { x with S := upn x.S b s', bs := bs', uses := uses' } b a := by
  have hm := hC.mle
  have hl := hC.ps.rm
  obtain ⟨a, hB, hcs⟩ : ∃ a, BufO w b (x.S b) a ∧ ((∃ i, i < x.m ∧ x.h i = b ∧ a = ((i : Nat) : Int)) ∨ (a = -1 ∧ (∀ i, i < x.m → x.h i ≠ b))) := by
    by_cases hg : goesB (x.S b) = true
    · obtain ⟨i, hi, e⟩ := hC.on b hb hg
      exact ⟨_, by rw [← e]; exact hC.gs.buf i hi, .inl ⟨i, hi, e, rfl⟩⟩
    · exact ⟨_, hC.off b hb (by simpa using hg), .inr ⟨rfl, fun i hi e => hg (by rw [← e]; exact (hC.who i hi).2)⟩⟩
  refine ⟨a, hB, fun w' s' uses' bs' T' hB' hCB ho hP hbs => ?_⟩
  have hne : ∀ c, c ≠ b → (upn x.S b s') c = x.S c := fun c e => upn_ne _ _ e
  have hbc : ∀ c s q, BufO w c s q → c ≠ bc := fun c s q hc => hc.apart hC.cb (by decide)
  have hrow : ∀ g, x.v.ownBlock = some g → ¬ (g = bc ∨ g = b) := fun g hg q => by
    rcases q with q | q
    · subst q; exact blo_own hC.gs.row hC.cb (by decide) hg
    · subst q
      obtain ⟨cs, h1, h2⟩ := hB
      exact blo_own hC.gs.row h1 (by decide) hg
  refine ⟨hCB, hC.km.out ho ?_, ⟨ho.own hC.gs.row hrow, fun i hi => ?_⟩, ?_, ?_, ?_, ?_, ?_, hP, (show x.m ≤ 4096 by omega), ⟨hC.low.1, hC.low.2.1, fun c hc => hC.low.2.2 c ((hbs c).1 hc)⟩, ?_, .inl ⟨(hbs b).2 hb, (hP.key _ b).2 ⟨(hbs b).2 hb, rfl⟩⟩, hC.low.2.2 b hb⟩
  · rintro (q | q)
    · exact hC.km.blo hC.cb q
    · exact hC.km.buf hB q
  · by_cases e : x.h i = b
    · show BufO w' (x.h i) (upn x.S b s' (x.h i)) _
      rcases hcs with ⟨j, hj, e2, ea⟩ | ⟨_, q⟩
      · have := hC.gs.inj hi hj (e.trans e2.symm)
        subst this
        rw [e, upn_at, ← ea]; exact hB'
      · exact absurd e (q i hi)
    · show BufO w' (x.h i) (upn x.S b s' (x.h i)) _
      rw [hne _ e]
      exact (hC.gs.buf i hi).out ho (fun q => q.elim (hbc _ _ _ (hC.gs.buf i hi)) e)
  · show BufO w' b (upn x.S b s' b) a
    rw [upn_at]; exact hB'
  · rcases hcs with ⟨i, hi, e2, ea⟩ | ⟨ea, q⟩
    · exact .inl ⟨i, hi, e2, ea, hC.hq.x (fun j hj hjm => by
        show (upn x.S b s' (x.h j)).used = _
        rw [hne _ (fun e => hj (hC.gs.inj hjm hi (e.trans e2.symm)))]; rfl)⟩
    · refine .inr ⟨ea, q, ?_⟩
      intro j j0 j1
      have j1 : j < x.m := j1
      show (upn x.S b s' (x.h ((j - 1) / 2))).used ≤ (upn x.S b s' (x.h j)).used
      rw [hne _ (q _ j1), hne _ (q _ (by omega))]
      exact hC.hq j j0 j1
  · intro c hc e hg
    show BufO w' c (upn x.S b s' c) _
    have hg : goesB (upn x.S b s' c) = false := hg
    rw [hne _ e] at hg ⊢
    have := hC.off c ((hbs c).1 hc) hg
    exact this.out ho (fun q => q.elim (hbc _ _ _ this) e)
  · intro c hc e hg
    have hg : goesB (upn x.S b s' c) = true := hg
    rw [hne _ e] at hg
    exact hC.on c ((hbs c).1 hc) hg
  · intro i hi e
    show x.h i ∈ bs' ∧ goesB (upn x.S b s' (x.h i)) = true
    rw [hne _ e, hbs]
    exact hC.who i hi
  · have := hP.wf b ((hbs b).2 hb)
    exact this
end
end Go.Proofs.Ytdnkeplmjimjcaa
