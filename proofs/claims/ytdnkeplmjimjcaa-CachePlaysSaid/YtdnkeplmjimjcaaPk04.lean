/-
  ChSt · ChPl · ChNum · ChAct · ChChg · ChDo · CopyIn · ChGet: these texts in one.
-/
import Derived.Test.YtdnkeplmjimjcaaPk03
import Derived.Test.YtdnkeplmjimjcaaPk01
import Derived.Test.YtdnkeplmjimjcaaPk00
import Derived.LaidEqlPtr
import Derived.Laws.AppendOwn
import Derived.Laws.AppendOwnNone
import Derived.Deep.RegionLaw
import Derived.Lib.SliceRun
/-
  A cache in memory: its map, its buffers, its heap; as it stands between calls, and with one buffer that is not yet in its place.
-/
namespace Go.Proofs.Ytdnkeplmjimjcaa
open Go.RowKit

def keyB (s : Bf) : Int × Int := (s.ino, s.lbn)
def goesB (s : Bf) : Bool := !s.dirty && decide (s.pins = 0)
/-- All that a cache is. -/
structure Sx where
  v : Value
  m : Nat
  h : Nat → Nat
  S : Nat → Bf
  n : Nat
  bs : List Nat
  ks : List (Int × Int)
  f : Int × Int → Option Nat
  uses : Int
/-- What holds of its numbers. -/
structure PS (room : Int) (N T : Nat) (S : Nat → Bf) (bs : List Nat) (ks : List (Int × Int)) (f : Int × Int → Option Nat) (uses : Int) (n : Nat) : Prop where
  srt : bs.Pairwise fun b c => (S b).used < (S c).used
  top : ∀ b, b ∈ bs → (S b).used ≤ uses
  wf : ∀ b, b ∈ bs → wfK (keyB (S b))
  key : ∀ p b, f p = some b ↔ b ∈ bs ∧ keyB (S b) = p
  len : ks.length = bs.length
  pins : ∀ b, b ∈ bs → 0 ≤ (S b).pins ∧ (S b).pins ≤ (T : Int)
  rm : 1 ≤ room ∧ room ≤ 4096 ∧ (bs.length : Int) ≤ room
  us : 0 ≤ uses ∧ uses ≤ (T : Int)
  cnt : n ≤ N
/-- Blocks that a cache may change. -/
def XC (w : World) (bc bm base g : Nat) : Prop := base ≤ g ∧ (g = bc ∨ g = bm ∨ ∃ t cs, Blo w g t cs ∧ (t = BT ∨ t = PB))
structure LS (w : World) (bc bm base : Nat) (room : Int) (N T : Nat) (x : Sx) (b : Nat) (a : Int) : Prop where
  cb : CB w bc bm room x.uses x.v
  km : KM w bm x.n x.f x.ks
  gs : GS w base x.v x.m x.h x.S
  buf : BufO w b (x.S b) a
  cse : (∃ i, i < x.m ∧ x.h i = b ∧ a = ((i : Nat) : Int) ∧ Hx x.m (us x.S x.h) i) ∨ (a = -1 ∧ (∀ i, i < x.m → x.h i ≠ b) ∧ Hq x.m (us x.S x.h))
  off : ∀ c, c ∈ x.bs → c ≠ b → goesB (x.S c) = false → BufO w c (x.S c) (-1)
  on : ∀ c, c ∈ x.bs → c ≠ b → goesB (x.S c) = true → ∃ i, i < x.m ∧ x.h i = c
  who : ∀ i, i < x.m → x.h i ≠ b → x.h i ∈ x.bs ∧ goesB (x.S (x.h i)) = true
  ps : PS room N T x.S x.bs x.ks x.f x.uses x.n
  hm : x.m ≤ 4096
  low : base ≤ bc ∧ base ≤ bm ∧ ∀ c, c ∈ x.bs → base ≤ c
  wfb : wfK (keyB (x.S b))
  fb : (b ∈ x.bs ∧ x.f (keyB (x.S b)) = some b) ∨ (b ∉ x.bs ∧ x.f (keyB (x.S b)) = none)
  blb : base ≤ b
structure CS (w : World) (bc bm base : Nat) (room : Int) (N T : Nat) (x : Sx) : Prop where
  cb : CB w bc bm room x.uses x.v
  km : KM w bm x.n x.f x.ks
  gs : GS w base x.v x.m x.h x.S
  hq : Hq x.m (us x.S x.h)
  off : ∀ c, c ∈ x.bs → goesB (x.S c) = false → BufO w c (x.S c) (-1)
  on : ∀ c, c ∈ x.bs → goesB (x.S c) = true → ∃ i, i < x.m ∧ x.h i = c
  who : ∀ i, i < x.m → x.h i ∈ x.bs ∧ goesB (x.S (x.h i)) = true
  ps : PS room N T x.S x.bs x.ks x.f x.uses x.n
  low : base ≤ bc ∧ base ≤ bm ∧ ∀ c, c ∈ x.bs → base ≤ c
section
variable {w w' : World} {bc bm base b : Nat} {room : Int} {N T : Nat} {x : Sx} {a : Int} {X : Nat → Prop}
theorem pigeon : ∀ (m : Nat) (h : Nat → Nat) (l : List Nat), (∀ i j, i < m → j < m → h i = h j → i = j) → (∀ i, i < m → h i ∈ l) → m ≤ l.length
  | 0, _, _, _, _ => Nat.zero_le _
  | m + 1, h, l, hi, hl => by
    have h1 := pigeon m h (l.erase (h m)) (fun i j a b => hi i j (by omega) (by omega)) (fun i hm => (List.mem_erase_of_ne (fun e => by have := hi i m (by omega) (by omega) e; omega)).2 (hl i (by omega)))
    have h2 := List.length_erase_of_mem (hl m (by omega))
    have h3 := List.length_pos_of_mem (hl m (by omega))
    omega
theorem KM.out {g n : Nat} {f : Int × Int → Option Nat} {ks : List (Int × Int)} (h : KM w g n f ks) (ho : Out X w w') (hx : ¬ X g) : KM w' g n f ks :=
  h.same (fun o e => (ho.block g h.lt hx).trans e)
theorem KM.buf {g n : Nat} {f : Int × Int → Option Nat} {ks : List (Int × Int)} (h : KM w g n f ks) {s : Bf} (hB : BufO w b s a) : g ≠ b := by
  obtain ⟨cs, h1, h2⟩ := hB
  exact h.blo h1
theorem BufO.xc {s : Bf} (hB : BufO w b s a) (hb : base ≤ b) : XC w bc bm base b := by
  obtain ⟨cs, h1, h2⟩ := hB
  exact ⟨hb, .inr (.inr ⟨_, cs, h1, .inl rfl⟩)⟩
theorem GS.xc {v : Value} {m : Nat} {h : Nat → Nat} {S : Nat → Bf} (hG : GS w base v m h S) (hl : ∀ i, i < m → base ≤ h i) {g : Nat} (hx : XG v m h g) : XC w bc bm base g := by
  rcases hx with e | ⟨i, hi, e⟩
  · rcases hG.row.2 with ⟨q, _⟩ | ⟨g', cap, cur, hv, hb, hg, _⟩
    · rw [q] at e; cases e
    · rw [hv] at e
      obtain rfl : g' = g := by simpa [Value.ownBlock] using e
      exact ⟨hb, .inr (.inr ⟨_, cur, hg, .inr rfl⟩)⟩
  · rw [← e]
    exact (hG.buf i hi).xc (hl i hi)
theorem KM.xg {v : Value} {m n g : Nat} {h : Nat → Nat} {S : Nat → Bf} {f : Int × Int → Option Nat} {ks : List (Int × Int)} (hK : KM w g n f ks) (hG : GS w base v m h S) : ¬ XG v m h g := by
  rintro (e | ⟨i, hi, e⟩)
  · rcases hG.row.2 with ⟨q, _⟩ | ⟨g', cap, cur, hv, hb, hg, _⟩
    · rw [q] at e; cases e
    · rw [hv] at e
      obtain rfl : g' = g := by simpa [Value.ownBlock] using e
      exact hK.blo hg rfl
  · exact hK.buf (hG.buf i hi) e.symm
theorem XC.back (ho : Out X w w') (hX : ∀ g, X g → g < w.heap.size → XC w bc bm base g) {g : Nat} (hg : g < w.heap.size) (h : XC w' bc bm base g) : XC w bc bm base g := by
  by_cases hx : X g
  · exact hX g hx hg
  · rcases h with ⟨h0, e | e | ⟨t, cs, h1, h2⟩⟩
    · exact ⟨h0, .inl e⟩
    · exact ⟨h0, .inr (.inl e)⟩
    · exact ⟨h0, .inr (.inr ⟨t, cs, (ho.block g hg hx).symm.trans h1, h2⟩)⟩
theorem outC_trans {w2 : World} (h1 : Out (XC w bc bm base) w w') (h2 : Out (XC w' bc bm base) w' w2) : Out (XC w bc bm base) w w2 :=
  h1.trans h2 (fun _ hg hx => XC.back h1 (fun _ q _ => q) hg hx)
theorem CS.hl (hC : CS w bc bm base room N T x) (i : Nat) (hi : i < x.m) : base ≤ x.h i := hC.low.2.2 _ (hC.who i hi).1
theorem LS.hl (hL : LS w bc bm base room N T x b a) (i : Nat) (hi : i < x.m) : base ≤ x.h i := by
  by_cases e : x.h i = b
  · rw [e]; exact hL.blb
  · exact hL.low.2.2 _ (hL.who i hi e).1
theorem CS.out (hC : CS w bc bm base room N T x) (ho : Out X w w') (hX : ∀ g, XC w bc bm base g → ¬ X g) : CS w' bc bm base room N T x :=
  ⟨hC.cb.out ho (hX _ ⟨hC.low.1, .inl rfl⟩), hC.km.out ho (hX _ ⟨hC.low.2.1, .inr (.inl rfl)⟩), hC.gs.out ho (fun g hg => hX g (hC.gs.xc hC.hl hg)), hC.hq, fun c h1 h2 => (hC.off c h1 h2).out ho (hX _ ((hC.off c h1 h2).xc (hC.low.2.2 c h1))), hC.on, hC.who, hC.ps, hC.low⟩
theorem CS.later (hC : CS w bc bm base room N T x) (hb : Below w.heap.size w w') : CS w' bc bm base room N T x :=
  hC.out (X := fun _ => False) (Out.of_below hb) (fun _ _ q => q)
theorem CS.mle (hC : CS w bc bm base room N T x) : x.m ≤ x.bs.length :=
  pigeon x.m x.h x.bs (fun i j h1 h2 e => hC.gs.inj h1 h2 e) (fun i hi => (hC.who i hi).1)
theorem CS.buf (hC : CS w bc bm base room N T x) {c : Nat} (hc : c ∈ x.bs) : ∃ a, BufO w c (x.S c) a := by
  by_cases hg : goesB (x.S c) = true
  · obtain ⟨i, hi, e⟩ := hC.on c hc hg
    exact ⟨_, by rw [← e]; exact hC.gs.buf i hi⟩
  · exact ⟨_, hC.off c hc (by simpa using hg)⟩
theorem CS.mono (hC : CS w bc bm base room N T x) {N' T' : Nat} (h1 : N ≤ N') (h2 : T ≤ T') : CS w bc bm base room N' T' x :=
  ⟨hC.cb, hC.km, hC.gs, hC.hq, hC.off, hC.on, hC.who, ⟨hC.ps.srt, hC.ps.top, hC.ps.wf, hC.ps.key, hC.ps.len, fun b hb => ⟨(hC.ps.pins b hb).1, by have := (hC.ps.pins b hb).2; omega⟩, hC.ps.rm, ⟨hC.ps.us.1, by have := hC.ps.us.2; omega⟩, Nat.le_trans hC.ps.cnt h1⟩, hC.low⟩
/-- One buffer changes. -/
theorem CS.loose (hC : CS w bc bm base room N T x) (hb : b ∈ x.bs) : ∃ a, BufO w b (x.S b) a ∧ ∀ (w' : World) (s' : Bf) (uses' : Int) (bs' : List Nat) (T' : Nat), BufO w' b s' a → CB w' bc bm room uses' x.v → Out (fun g => g = bc ∨ g = b) w w' →
    PS room N T' (upn x.S b s') bs' x.ks x.f uses' x.n → (∀ c, c ∈ bs' ↔ c ∈ x.bs) → LS w' bc bm base room N T' { x with S := upn x.S b s', bs := bs', uses := uses' } b a := by
  have hm := hC.mle
  have hl := hC.ps.rm
  obtain ⟨a, hB, hcs⟩ : ∃ a, BufO w b (x.S b) a ∧ ((∃ i, i < x.m ∧ x.h i = b ∧ a = ((i : Nat) : Int)) ∨ (a = -1 ∧ (∀ i, i < x.m → x.h i ≠ b))) := by
    by_cases hg : goesB (x.S b) = true
    · obtain ⟨i, hi, e⟩ := hC.on b hb hg
      exact ⟨_, by rw [← e]; exact hC.gs.buf i hi, .inl ⟨i, hi, e, rfl⟩⟩
    · exact ⟨_, hC.off b hb (by simpa using hg), .inr ⟨rfl, fun i hi e => hg (by rw [← e]; exact (hC.who i hi).2)⟩⟩
  refine ⟨a, hB, fun w' s' uses' bs' T' hB' hCB ho hP hbs => ?_⟩
  have hne : ∀ c, c ≠ b → (upn x.S b s') c = x.S c := fun c e => upn_ne _ _ e
  have hbc : ∀ c s q, BufO w c s q → c ≠ bc := fun c s q hc => hc.apart hC.cb (by decide)
  have hrow : ∀ g, x.v.ownBlock = some g → ¬ (g = bc ∨ g = b) := fun g hg q => by
    rcases q with q | q
    · subst q; exact blo_own hC.gs.row hC.cb (by decide) hg
    · subst q
      obtain ⟨cs, h1, h2⟩ := hB
      exact blo_own hC.gs.row h1 (by decide) hg
  refine ⟨hCB, hC.km.out ho ?_, ⟨ho.own hC.gs.row hrow, fun i hi => ?_⟩, ?_, ?_, ?_, ?_, ?_, hP, (show x.m ≤ 4096 by omega), ⟨hC.low.1, hC.low.2.1, fun c hc => hC.low.2.2 c ((hbs c).1 hc)⟩, ?_, .inl ⟨(hbs b).2 hb, (hP.key _ b).2 ⟨(hbs b).2 hb, rfl⟩⟩, hC.low.2.2 b hb⟩
  · rintro (q | q)
    · exact hC.km.blo hC.cb q
    · exact hC.km.buf hB q
  · by_cases e : x.h i = b
    · show BufO w' (x.h i) (upn x.S b s' (x.h i)) _
      rcases hcs with ⟨j, hj, e2, ea⟩ | ⟨_, q⟩
      · have := hC.gs.inj hi hj (e.trans e2.symm)
        subst this
        rw [e, upn_at, ← ea]; exact hB'
      · exact absurd e (q i hi)
    · show BufO w' (x.h i) (upn x.S b s' (x.h i)) _
      rw [hne _ e]
      exact (hC.gs.buf i hi).out ho (fun q => q.elim (hbc _ _ _ (hC.gs.buf i hi)) e)
  · show BufO w' b (upn x.S b s' b) a
    rw [upn_at]; exact hB'
  · rcases hcs with ⟨i, hi, e2, ea⟩ | ⟨ea, q⟩
    · exact .inl ⟨i, hi, e2, ea, hC.hq.x (fun j hj hjm => by
        show (upn x.S b s' (x.h j)).used = _
        rw [hne _ (fun e => hj (hC.gs.inj hjm hi (e.trans e2.symm)))]; rfl)⟩
    · refine .inr ⟨ea, q, ?_⟩
      intro j j0 j1
      have j1 : j < x.m := j1
      show (upn x.S b s' (x.h ((j - 1) / 2))).used ≤ (upn x.S b s' (x.h j)).used
      rw [hne _ (q _ j1), hne _ (q _ (by omega))]
      exact hC.hq j j0 j1
  · intro c hc e hg
    show BufO w' c (upn x.S b s' c) _
    have hg : goesB (upn x.S b s' c) = false := hg
    rw [hne _ e] at hg ⊢
    have := hC.off c ((hbs c).1 hc) hg
    exact this.out ho (fun q => q.elim (hbc _ _ _ this) e)
  · intro c hc e hg
    have hg : goesB (upn x.S b s' c) = true := hg
    rw [hne _ e] at hg
    exact hC.on c ((hbs c).1 hc) hg
  · intro i hi e
    show x.h i ∈ bs' ∧ goesB (upn x.S b s' (x.h i)) = true
    rw [hne _ e, hbs]
    exact hC.who i hi
  · have := hP.wf b ((hbs b).2 hb)
    exact this
end
end Go.Proofs.Ytdnkeplmjimjcaa
/-
  place: a buffer comes among those that may go, or leaves them.
-/
namespace Go.Proofs.Ytdnkeplmjimjcaa
open Go.RowKit

section
variable {w w' : World} {bc bm base b : Nat} {room : Int} {N T : Nat} {x : Sx} {a : Int} {X : Nat → Prop} {s : Bf}
theorem maygo_any (hB : BufO w b s a) :
    Calls Try.prog 48 #[.pointer (some ⟨b, 0, none⟩)] w fun e w' => e = .returned (.bool (goesB s)) ∧ w = w' := by
  obtain ⟨-, -, c2, c3, -, -⟩ := hB.cells
  clear hB
  unfold goesB
  generalize s.dirty = d at *
  generalize s.pins = p at *
  rcases d with _ | _
  · by_cases hp : p = 0
    · subst hp
      go_enter Try.func48, Try.ntmps48
      go_wp2_with fail
      go_ret
      exact ⟨rfl, rfl⟩
    · rw [decide_eq_false hp]
      have hp' : (p == 0) = false := by simpa using hp
      go_enter Try.func48, Try.ntmps48
      go_wp2_with fail
      go_ret
      exact ⟨rfl, rfl⟩
  · go_enter Try.func48, Try.ntmps48
    go_wp2_with fail
    go_ret
    exact ⟨rfl, rfl⟩
def PlO (w : World) (bc bm base : Nat) (room : Int) (N T : Nat) (x : Sx) (e : Ending) (w' : World) : Prop :=
  e = .returned (.tuple #[]) ∧ ∃ v' m' h', CS w' bc bm base room N T { x with v := v', m := m', h := h' } ∧ Out (XC w bc bm base) w w'
theorem LS.nb (hL : LS w bc bm base room N T x b a) {c : Nat} (hc : c ∈ x.bs) (hcb : c ≠ b) (hg : goesB (x.S c) = false) : ¬ XH bc b x.v x.m x.h c := by
  rintro (e | e | e | ⟨i, hi, e⟩)
  · exact (hL.off c hc hcb hg).apart hL.cb (by decide) e
  · exact hcb e
  · obtain ⟨cs, h1, -⟩ := hL.off c hc hcb hg
    exact blo_own hL.gs.row h1 (by decide) e
  · have := (hL.who i hi (by rw [e]; exact hcb)).2
    rw [e, hg] at this
    cases this
theorem LS.later (hL : LS w bc bm base room N T x b a) (hb : Below w.heap.size w w') : LS w' bc bm base room N T x b a :=
  ⟨hL.cb.later hb, hL.km.later hb, hL.gs.later hb, hL.buf.later hb, hL.cse, fun c h1 h2 h3 => (hL.off c h1 h2 h3).later hb, hL.on, hL.who, hL.ps, hL.hm, hL.low, hL.wfb, hL.fb, hL.blb⟩
theorem LS.xh (hL : LS w bc bm base room N T x b a) {g : Nat} (h : XH bc b x.v x.m x.h g) : XC w bc bm base g := by
  rcases h with e | e | e
  · rw [e]; exact ⟨hL.low.1, .inl rfl⟩
  · rw [e]; exact hL.buf.xc hL.blb
  · exact hL.gs.xc hL.hl e
theorem LS.kout (hL : LS w bc bm base room N T x b a) (ho : Out (XH bc b x.v x.m x.h) w w') : KM w' bm x.n x.f x.ks := by
  refine hL.km.out ho ?_
  rintro (e | e | e)
  · exact hL.km.blo hL.cb e
  · exact hL.km.buf hL.buf e
  · exact hL.km.xg hL.gs e
/-- It goes and was not among them. -/
theorem pl_push (hL : LS w bc bm base room N T x b a) (hg : goesB (x.S b) = true) (hb : b ∈ x.bs) (hfr : ∀ i, i < x.m → x.h i ≠ b) {gr cap : Nat} {h' : Nat → Nat} (hH : HS w' bc bm base gr cap room x.uses (x.m + 1) h' x.S) (hq : Hq (x.m + 1) (us x.S h')) (hp : PmG (x.m + 1) (upn x.h x.m b) h') (ho : Out (XH bc b x.v x.m x.h) w w') :
    PlO w bc bm base room N T x (.returned (.tuple #[])) w' := by
  refine ⟨rfl, _, _, h', ⟨hH.cb, hL.kout ho, hH.gs, hq, fun c hc hgc => ?_, fun c hc hgc => ?_, fun i hi => ?_, hL.ps, hL.low⟩, ho.mono fun g _ hx => hL.xh hx⟩
  · have hgc : goesB (x.S c) = false := hgc
    have hcb : c ≠ b := fun e => by rw [e, hg] at hgc; cases hgc
    exact (hL.off c hc hcb hgc).out ho (hL.nb hc hcb hgc)
  · by_cases hcb : c = b
    · obtain ⟨i, hi, e⟩ := hp.2 x.m (by omega)
      exact ⟨i, hi, (show h' i = c by rw [e, upn_at, hcb])⟩
    · obtain ⟨j, hj, e⟩ := hL.on c hc hcb hgc
      obtain ⟨i, hi, e2⟩ := hp.2 j (by omega)
      exact ⟨i, hi, (show h' i = c by rw [e2, upn_ne _ _ (by omega), e])⟩
  · obtain ⟨j, hj, e⟩ := hp.1 i hi
    show h' i ∈ x.bs ∧ goesB (x.S (h' i)) = true
    by_cases e2 : j = x.m
    · rw [e, e2, upn_at]
      exact ⟨hb, hg⟩
    · rw [e, upn_ne _ _ e2]
      exact hL.who j (by omega) (hfr j (by omega))
/-- It goes and is among them. -/
theorem pl_fix (hL : LS w bc bm base room N T x b a) (hg : goesB (x.S b) = true) (hb : b ∈ x.bs) {i gr cap : Nat} (hv : x.v = .slice (some ⟨gr, 0, none⟩) x.m cap) (hi : i < x.m) (hib : x.h i = b) (hU : UpO w bc bm base gr cap room x.uses x.m x.m x.h x.S w') :
    PlO w bc bm base room N T x (.returned (.tuple #[])) w' := by
  obtain ⟨h', hq, hD⟩ := hU
  have ho : Out (XH bc b x.v x.m x.h) w w' := hD.out.mono fun g _ hx => .inr (.inr (by rw [hv]; exact hx))
  refine ⟨rfl, _, x.m, h', ⟨hD.hs.cb, hL.kout ho, hD.hs.gs, hq, fun c hc hgc => ?_, fun c hc hgc => ?_, fun k hk => ?_, hL.ps, hL.low⟩, ho.mono fun g _ hx => hL.xh hx⟩
  · have hgc : goesB (x.S c) = false := hgc
    have hcb : c ≠ b := fun e => by rw [e, hg] at hgc; cases hgc
    exact (hL.off c hc hcb hgc).out ho (hL.nb hc hcb hgc)
  · by_cases hcb : c = b
    · obtain ⟨k, hk, e⟩ := hD.pm.2 i hi
      exact ⟨k, hk, (show h' k = c by rw [e, hib, hcb])⟩
    · obtain ⟨j, hj, e⟩ := hL.on c hc hcb hgc
      obtain ⟨k, hk, e2⟩ := hD.pm.2 j hj
      exact ⟨k, hk, (show h' k = c by rw [e2, e])⟩
  · obtain ⟨j, hj, e⟩ := hD.pm.1 k hk
    show h' k ∈ x.bs ∧ goesB (x.S (h' k)) = true
    rw [e]
    by_cases e2 : x.h j = b
    · rw [e2]; exact ⟨hb, hg⟩
    · exact hL.who j hj e2
/-- It stays and was among them. -/
theorem pl_rem (hL : LS w bc bm base room N T x b a) (hg : b ∈ x.bs → goesB (x.S b) = false) {i n gr cap : Nat} (hv : x.v = .slice (some ⟨gr, 0, none⟩) x.m cap) (hmn : n + 1 = x.m) (hi : i < x.m) (hib : x.h i = b) {e : Ending} (hR : RmO w bc bm base gr cap room x.uses x.m n i x.h x.S e w') :
    PlO w bc bm base room N T x (.returned (.tuple #[])) w' := by
  obtain ⟨-, h', hH, hq, hr, hB, ho⟩ := hR
  have ho : Out (XH bc b x.v x.m x.h) w w' := ho.mono fun g _ hx => by
    rcases hx with e | e
    · exact .inl e
    · exact .inr (.inr (by rw [hv]; exact e))
  refine ⟨rfl, _, n, h', ⟨hH.cb, hL.kout ho, hH.gs, hq, fun c hc hgc => ?_, fun c hc hgc => ?_, fun k hk => ?_, hL.ps, hL.low⟩, ho.mono fun g _ hx => hL.xh hx⟩
  · by_cases hcb : c = b
    · rw [hcb, ← hib]; exact hB
    · exact (hL.off c hc hcb hgc).out ho (hL.nb hc hcb hgc)
  · have hgc : goesB (x.S c) = true := hgc
    have hcb : c ≠ b := fun e => by
      rw [e] at hc hgc
      rw [hg hc] at hgc
      cases hgc
    obtain ⟨j, hj, e⟩ := hL.on c hc hcb hgc
    obtain ⟨k, hk, e2⟩ := hr.2 j hj (fun q => hcb (by rw [← e, q, hib]))
    exact ⟨k, hk, (show h' k = c by rw [e2, e])⟩
  · obtain ⟨j, hj, hji, e⟩ := hr.1 k hk
    show h' k ∈ x.bs ∧ goesB (x.S (h' k)) = true
    rw [e]
    exact hL.who j hj (fun q => hji (hL.gs.inj hj hi (q.trans hib.symm)))
/-- It stays and was not among them. -/
theorem pl_stay (hL : LS w bc bm base room N T x b a) (hg : b ∈ x.bs → goesB (x.S b) = false) (ha : a = -1) (hfr : ∀ i, i < x.m → x.h i ≠ b) (hq : Hq x.m (us x.S x.h)) (hw : Below w.heap.size w w') :
    PlO w bc bm base room N T x (.returned (.tuple #[])) w' := by
  have hL' := hL.later hw
  refine ⟨rfl, x.v, x.m, x.h, ⟨hL'.cb, hL'.km, hL'.gs, hq, fun c hc hgc => ?_, fun c hc hgc => ?_, fun k hk => hL'.who k hk (hfr k hk), hL.ps, hL.low⟩, Out.of_below hw⟩
  · by_cases hcb : c = b
    · have := hL'.buf
      rw [ha] at this
      rw [hcb]; exact this
    · exact hL'.off c hc hcb hgc
  · have hgc : goesB (x.S c) = true := hgc
    have hcb : c ≠ b := fun e => by
      rw [e] at hc hgc
      rw [hg hc] at hgc
      cases hgc
    exact hL.on c hc hcb hgc
theorem PlO.before {w1 : World} {e : Ending} (h : PlO w1 bc bm base room N T x e w') (hb : Below w.heap.size w w1) : PlO w bc bm base room N T x e w' := by
  obtain ⟨h1, v', m', h', h2, h3⟩ := h
  exact ⟨h1, v', m', h', h2, outC_trans (Out.of_below hb) h3⟩
theorem LS.mlt (hL : LS w bc bm base room N T x b a) (hb : b ∈ x.bs) (hfr : ∀ i, i < x.m → x.h i ≠ b) : x.m < 4096 := by
  have h1 := pigeon x.m x.h (x.bs.erase b) (fun i j p q e => hL.gs.inj p q e) (fun i hi => (List.mem_erase_of_ne (hfr i hi)).2 (hL.who i hi (hfr i hi)).1)
  have h2 := List.length_erase_of_mem hb
  have h3 := List.length_pos_of_mem hb
  have := hL.ps.rm
  omega
theorem LS.xv (hL : LS w bc bm base room N T x b a) (h0 : 0 < x.m) : ∃ gr cap, x.v = .slice (some ⟨gr, 0, none⟩) x.m cap := hL.gs.form h0
theorem eq_same (w : World) (p : Addr) : (binOp .eql PB (.pointer (some p)) (.pointer (some p))).run Try.prog w = .ok (.bool true) w := by
  obtain ⟨j, hj⟩ := Option.isSome_iff_exists.1 (show (Try.prog.info? BT).isSome = true by kernel_rfl)
  exact run_eql_ptr_same w p Try.underlying80 hj
theorem eq_none (w : World) (p : Addr) : (binOp .eql PB (.pointer none) (.pointer (some p))).run Try.prog w = .ok (.bool false) w := by
  have h : ∀ d : Nat, (Op.equalIn (d + 1) PB (.pointer none) (.pointer (some p))).run Try.prog w = .ok false w := fun d => by
    simp [Op.equalIn, run_underlying Try.underlying80]
  simp only [binOp]
  simp [Op.equal, Op.maxDepth, h 9999]
set_option maxRecDepth 100000 in
set_option maxHeartbeats 8000000 in
theorem place_any (hL : LS w bc bm base room N T x b a) (hbase : base ≤ w.heap.size) :
    Calls Try.prog 36 #[.pointer (some ⟨bc, 0, none⟩), .pointer (some ⟨b, 0, none⟩)] w (PlO w bc bm base room N T x) := by
  have HL := Lib.hid hL
  obtain ⟨b1, b2, -, -, -, b6⟩ := hL.buf.cells
  obtain ⟨-, d1, -, -⟩ := hL.cb.cell
  have c0 : ∀ y : Kept w, y.at_.cell? ⟨bc, 1, none⟩ = some (.map (some bm)) := fun y => cell_later y.below d1
  have c1 : ∀ y : Kept w, y.at_.cell? ⟨b, 0, none⟩ = some (.int .i64 (x.S b).ino) := fun y => cell_later y.below b1
  have c2 : ∀ y : Kept w, y.at_.cell? ⟨b, 1, none⟩ = some (.int .i64 (x.S b).lbn) := fun y => cell_later y.below b2
  have c6 : ∀ y : Kept w, y.at_.cell? ⟨b, 69, none⟩ = some (.int .i64 a) := fun y => cell_later y.below b6
  have HM : Hid (∀ y : Kept w, Calls Try.prog 48 #[.pointer (some ⟨b, 0, none⟩)] y.at_ fun e w' => e = .returned (.bool (goesB (x.S b))) ∧ y.at_ = w') := fun y => maygo_any (hL.buf.later y.below)
  have HLk : Hid (∀ y : Kept w, (Instr.lookup KMT (.map (some bm)) (keyV (keyB (x.S b))) false).run Try.prog y.at_ = .ok (ptrV (x.f (keyB (x.S b)))) y.at_) := fun y => (hL.km.later y.below).look hL.wfb
  have HQ1 := Lib.hid (fun y : Kept w => eq_same y.at_ ⟨b, 0, none⟩)
  have HQ2 := Lib.hid (fun y : Kept w => eq_none y.at_ ⟨b, 0, none⟩)
  have HG : Hid ((goesB (x.S b) = true ∧ b ∈ x.bs ∧ x.f (keyB (x.S b)) = some b) ∨ ((goesB (x.S b) = false ∨ (goesB (x.S b) = true ∧ x.f (keyB (x.S b)) = none)) ∧ (b ∈ x.bs → goesB (x.S b) = false))) := by
    rcases hL.fb with ⟨hin, hf⟩ | ⟨hin, hf⟩
    · by_cases hg : goesB (x.S b) = true
      · exact .inl ⟨hg, hin, hf⟩
      · exact .inr ⟨.inl (by simpa using hg), fun _ => by simpa using hg⟩
    · refine .inr ⟨?_, fun q => absurd q hin⟩
      by_cases hg : goesB (x.S b) = true
      · exact .inr ⟨hg, hf⟩
      · exact .inl (by simpa using hg)
  have HB := Lib.hid hbase
  have HCs : Hid ((∃ i : Nat, i < x.m ∧ x.h i = b ∧ a = ((i : Nat) : Int) ∧ Hx x.m (us x.S x.h) i ∧ (i : Int) ≤ 4096 ∧ ¬ (i : Int) < 0 ∧ (0 : Int) ≤ (i : Int)) ∨ (a = -1 ∧ (∀ i, i < x.m → x.h i ≠ b) ∧ Hq x.m (us x.S x.h))) := by
    rcases hL.cse with ⟨i, h1, h2, h3, h4⟩ | h
    · have := hL.hm
      exact .inl ⟨i, h1, h2, h3, h4, by omega, by omega, by omega⟩
    · exact .inr h
  clear hL hbase b1 b2 b6 d1
  rcases HG.out with ⟨hg, hin, hf⟩ | ⟨hg, hni⟩
  · have k1 : ∀ y : Kept w, (Instr.lookup KMT (.map (some bm)) (.agg #[.int .i64 (x.S b).ino, .int .i64 (x.S b).lbn]) false).run Try.prog y.at_ = .ok (.pointer (some ⟨b, 0, none⟩)) y.at_ := by
      have := HLk.out
      rw [hf] at this
      exact this
    have hq1 := HQ1.out
    rw [hg] at HM
    have HI := Lib.hid hin
    have HGo := Lib.hid hg
    clear hf hg hin HLk HG
    generalize (x.S b).ino = ki at *
    generalize (x.S b).lbn = kl at *
    rcases HCs.out with ⟨i, hi, hib, rfl, hx, i1, i2, i3⟩ | ⟨rfl, hfr, hq⟩
    · have HE := Lib.hid (And.intro hi (And.intro hib hx))
      clear hi hib hx HCs
      go_enter Try.func36, Try.ntmps36
      go_upto_region 0 with (fail)
      refine wp_region_kept (by kernel_rfl) (by kernel_rfl) ?_
      repeat (go_big_quiet_step ((go_at_call 48; exact kept_call_same _ (HM.out _))))
      refine wpQuiet_nil ?_
      rintro W1 ⟨w1, rfl⟩
      clear k1 hq1 HM c0 c1 c2
      have c6 := c6 w1
      have HL1 := Lib.hid (HL.out.later w1.below.drew)
      obtain ⟨gr, cap, hv⟩ := HL.out.xv (by have := HE.out.1; omega)
      have HFx : Hid (Calls Try.prog 50 #[.iface 92 (.pointer (some ⟨bc, 2, none⟩)), .int .i64 i] w1.at_.drew fun e w' => e = .returned (.tuple #[]) ∧ UpO w1.at_.drew bc bm base gr cap room x.uses x.m x.m x.h x.S w') :=
        hfix_any ⟨by have := HL1.out.cb; rw [hv] at this; exact this, by have := HL1.out.gs; rw [hv] at this; exact this⟩ HE.out.1 HL1.out.hm HE.out.2.2
      have HV := Lib.hid hv
      have HBw := Lib.hid w1.below
      clear hv
      go_upto_region 4 with (fail)
      go_region_with ((go_at_call 50; (with_reducible refine HFx.out.mono ?_); rintro e W' ⟨rfl, hU⟩; have HP := Lib.hid ((pl_fix HL1.out HGo.out HI.out HV.out HE.out.1 HE.out.2.1 hU).before HBw.out.drew); clear hU))
      all_goals
        clear HFx c6
        go_wp2_with fail
        go_end0
        exact HP.out
    · have HE := Lib.hid (And.intro hfr hq)
      clear hfr hq HCs
      go_enter Try.func36, Try.ntmps36
      go_upto_region 0 with (fail)
      refine wp_region_kept (by kernel_rfl) (by kernel_rfl) ?_
      repeat (go_big_quiet_step ((go_at_call 48; exact kept_call_same _ (HM.out _))))
      refine wpQuiet_nil ?_
      rintro W1 ⟨w1, rfl⟩
      clear k1 hq1 HM c0 c1 c2
      have c6 := c6 w1
      have HL1 := Lib.hid (HL.out.later w1.below)
      have HBw := Lib.hid w1.below
      have HPu := Lib.hid (hpush_any HL1.out.cb HL1.out.gs HE.out.2 HL1.out.buf HE.out.1 (HL1.out.mlt HI.out HE.out.1) (Nat.le_trans HB.out w1.below.size) HL1.out.low.1)
      go_wp2_with fail
      refine HPu.out.mono ?_
      rintro e w2 ⟨rfl, gr, cap, h', hH, hq, hp, ho, -⟩
      have HP := Lib.hid ((pl_push HL1.out HGo.out HI.out HE.out.1 hH hq hp ho).before HBw.out)
      clear hH hq hp ho HPu c6
      go_wp2_with fail
      go_end0
      exact HP.out
  · have HNi := Lib.hid hni
    have HGo := Lib.hid hg
    clear hg hni HG
    -- what the first region answers is 'no', by one way or the other
    have HW : Hid (∀ (Q : World → Prop), (∀ y : Kept w, Q y.at_) → ∀ y : Kept w, Q y.at_) := fun _ h => h
    clear HW
    rcases HCs.out with ⟨i, hi, hib, rfl, hx, i1, i2, i3⟩ | ⟨rfl, hfr, hq⟩
    · have HE := Lib.hid (And.intro hi (And.intro hib hx))
      clear hi hib hx HCs
      rcases HGo.out with hg | ⟨hg, hf⟩
      · rw [hg] at HM
        clear HLk HQ1 HQ2 HGo hg
        go_enter Try.func36, Try.ntmps36
        go_upto_region 0 with (fail)
        refine wp_region_kept (by kernel_rfl) (by kernel_rfl) ?_
        repeat (go_big_quiet_step ((go_at_call 48; exact kept_call_same _ (HM.out _))))
        refine wpQuiet_nil ?_
        rintro W1 ⟨w1, rfl⟩
        clear HM c0 c1 c2
        have c6 := c6 w1
        have HL1 := Lib.hid (HL.out.later w1.below.drew)
        obtain ⟨gr, cap, hv⟩ := HL.out.xv (by have := HE.out.1; omega)
        obtain ⟨n, hmn⟩ : ∃ n, n + 1 = x.m := ⟨x.m - 1, by have := HE.out.1; omega⟩
        have HFx : Hid (Calls Try.prog 51 #[.iface 92 (.pointer (some ⟨bc, 2, none⟩)), .int .i64 i] w1.at_.drew (RmO w1.at_.drew bc bm base gr cap room x.uses x.m n i x.h x.S)) :=
          hrem_any ⟨by have := HL1.out.cb; rw [hv] at this; exact this, by have := HL1.out.gs; rw [hv] at this; exact this⟩ HE.out.2.2 HE.out.1 hmn HL1.out.hm
        have HV := Lib.hid hv
        have HMn := Lib.hid hmn
        have HBw := Lib.hid w1.below
        clear hv hmn
        go_upto_region 6 with (fail)
        go_region_with ((go_at_call 51; (with_reducible refine HFx.out.mono ?_); intro e W' hU; have HR := Lib.hid hU; obtain ⟨rfl, -⟩ := hU; have HP := Lib.hid ((pl_rem HL1.out HNi.out HV.out HMn.out HE.out.1 HE.out.2.1 HR.out).before HBw.out.drew); clear HR))
        all_goals
          clear HFx c6
          go_wp2_with fail
          go_end0
          exact HP.out
      · rw [hg] at HM
        have k1 : ∀ y : Kept w, (Instr.lookup KMT (.map (some bm)) (.agg #[.int .i64 (x.S b).ino, .int .i64 (x.S b).lbn]) false).run Try.prog y.at_ = .ok (.pointer none) y.at_ := by
          have := HLk.out
          rw [hf] at this
          exact this
        have hq2 := HQ2.out
        clear HLk HQ1 HQ2 HGo hg hf
        generalize (x.S b).ino = ki at *
        generalize (x.S b).lbn = kl at *
        go_enter Try.func36, Try.ntmps36
        go_upto_region 0 with (fail)
        refine wp_region_kept (by kernel_rfl) (by kernel_rfl) ?_
        repeat (go_big_quiet_step ((go_at_call 48; exact kept_call_same _ (HM.out _))))
        refine wpQuiet_nil ?_
        rintro W1 ⟨w1, rfl⟩
        clear HM c0 c1 c2 k1 hq2
        have c6 := c6 w1
        have HL1 := Lib.hid (HL.out.later w1.below.drew)
        obtain ⟨gr, cap, hv⟩ := HL.out.xv (by have := HE.out.1; omega)
        obtain ⟨n, hmn⟩ : ∃ n, n + 1 = x.m := ⟨x.m - 1, by have := HE.out.1; omega⟩
        have HFx : Hid (Calls Try.prog 51 #[.iface 92 (.pointer (some ⟨bc, 2, none⟩)), .int .i64 i] w1.at_.drew (RmO w1.at_.drew bc bm base gr cap room x.uses x.m n i x.h x.S)) :=
          hrem_any ⟨by have := HL1.out.cb; rw [hv] at this; exact this, by have := HL1.out.gs; rw [hv] at this; exact this⟩ HE.out.2.2 HE.out.1 hmn HL1.out.hm
        have HV := Lib.hid hv
        have HMn := Lib.hid hmn
        have HBw := Lib.hid w1.below
        clear hv hmn
        go_upto_region 6 with (fail)
        go_region_with ((go_at_call 51; (with_reducible refine HFx.out.mono ?_); intro e W' hU; have HR := Lib.hid hU; obtain ⟨rfl, -⟩ := hU; have HP := Lib.hid ((pl_rem HL1.out HNi.out HV.out HMn.out HE.out.1 HE.out.2.1 HR.out).before HBw.out.drew); clear HR))
        all_goals
          clear HFx c6
          go_wp2_with fail
          go_end0
          exact HP.out
    · have HE := Lib.hid (And.intro hfr hq)
      clear hfr hq HCs
      rcases HGo.out with hg | ⟨hg, hf⟩
      · rw [hg] at HM
        clear HLk HQ1 HQ2 HGo hg
        go_enter Try.func36, Try.ntmps36
        go_upto_region 0 with (fail)
        refine wp_region_kept (by kernel_rfl) (by kernel_rfl) ?_
        repeat (go_big_quiet_step ((go_at_call 48; exact kept_call_same _ (HM.out _))))
        refine wpQuiet_nil ?_
        rintro W1 ⟨w1, rfl⟩
        clear HM c0 c1 c2
        have c6 := c6 w1
        have HP := Lib.hid (pl_stay HL.out HNi.out rfl HE.out.1 HE.out.2 w1.below)
        go_wp2_with fail
        go_end0
        exact HP.out
      · rw [hg] at HM
        have k1 : ∀ y : Kept w, (Instr.lookup KMT (.map (some bm)) (.agg #[.int .i64 (x.S b).ino, .int .i64 (x.S b).lbn]) false).run Try.prog y.at_ = .ok (.pointer none) y.at_ := by
          have := HLk.out
          rw [hf] at this
          exact this
        have hq2 := HQ2.out
        clear HLk HQ1 HQ2 HGo hg hf
        generalize (x.S b).ino = ki at *
        generalize (x.S b).lbn = kl at *
        go_enter Try.func36, Try.ntmps36
        go_upto_region 0 with (fail)
        refine wp_region_kept (by kernel_rfl) (by kernel_rfl) ?_
        repeat (go_big_quiet_step ((go_at_call 48; exact kept_call_same _ (HM.out _))))
        refine wpQuiet_nil ?_
        rintro W1 ⟨w1, rfl⟩
        clear HM c0 c1 c2 k1 hq2
        have c6 := c6 w1
        have HP := Lib.hid (pl_stay HL.out HNi.out rfl HE.out.1 HE.out.2 w1.below)
        go_wp2_with fail
        go_end0
        exact HP.out
end
end Go.Proofs.Ytdnkeplmjimjcaa
/-
  A cache's numbers: what its calls make of them. The cache as a list of blocks, the eldest use first.
-/
namespace Go.Proofs.Ytdnkeplmjimjcaa
open Go.RowKit

/-- A block of the cache, as the calls tell it. -/
structure Bk where
  key : Int × Int
  data : Nat → Nat
  dirty : Bool
  pins : Int
def bk (s : Bf) : Bk := ⟨keyB s, s.data, s.dirty, s.pins⟩
def goK (s : Bk) : Bool := !s.dirty && decide (s.pins = 0)
def findK (L : List Bk) (p : Int × Int) : Option Bk := L.find? fun s => decide (s.key = p)
def woK (L : List Bk) (p : Int × Int) : List Bk := L.filter fun s => decide (s.key ≠ p)
def setK (L : List Bk) (p : Int × Int) (g : Bk → Bk) : List Bk := L.map fun s => if s.key = p then g s else s
section
variable {room : Int} {N T T' : Nat} {S : Nat → Bf} {bs : List Nat} {ks : List (Int × Int)} {f : Int × Int → Option Nat} {uses : Int} {n b : Nat} {p : Int × Int} {s' : Bf}
theorem PS.nodup (hP : PS room N T S bs ks f uses n) : bs.Nodup := hP.srt.imp (fun h e => by rw [e] at h; omega)
theorem PS.inj (hP : PS room N T S bs ks f uses n) {c : Nat} (hb : b ∈ bs) (hc : c ∈ bs) (e : keyB (S b) = keyB (S c)) : b = c := by
  have h1 := (hP.key (keyB (S b)) b).2 ⟨hb, rfl⟩
  have h2 := (hP.key (keyB (S c)) c).2 ⟨hc, rfl⟩
  rw [e, h2] at h1
  cases h1
  rfl
theorem pair_upn {l : List Nat} (h : l.Pairwise fun b c => (S b).used < (S c).used) (hb : b ∉ l) : l.Pairwise fun c d => (upn S b s' c).used < (upn S b s' d).used := by
  refine List.Pairwise.imp_of_mem (fun {c d} hc hd h => ?_) h
  rw [upn_ne _ _ (fun e => hb (by rw [← e]; exact hc)), upn_ne _ _ (fun e => hb (by rw [← e]; exact hd))]
  exact h
theorem PS.use (hP : PS room N T S bs ks f uses n) (hb : b ∈ bs) (hk : keyB s' = keyB (S b)) (hu : s'.used = uses + 1) (hp : s'.pins = (S b).pins) (hT : T + 1 ≤ T') : PS room N T' (upn S b s') (bs.erase b ++ [b]) ks f (uses + 1) n := by
  have hN := hP.nodup
  have hmem : ∀ c, c ∈ bs.erase b ++ [b] ↔ c ∈ bs := fun c => by
    rw [List.mem_append, hN.mem_erase_iff, List.mem_singleton]
    by_cases e : c = b
    · rw [e]; simp [hb]
    · simp [e]
  have hnb : b ∉ bs.erase b := fun q => (hN.mem_erase_iff.1 q).1 rfl
  have hkey : ∀ c, keyB (upn S b s' c) = keyB (S c) := fun c => by
    by_cases e : c = b
    · rw [e, upn_at, hk]
    · rw [upn_ne _ _ e]
  have hl := List.length_erase_of_mem hb
  have hl0 := List.length_pos_of_mem hb
  refine ⟨?_, fun c hc => ?_, fun c hc => ?_, fun q c => ?_, ?_, fun c hc => ?_, ?_, ?_, hP.cnt⟩
  · rw [List.pairwise_append]
    refine ⟨pair_upn (List.Pairwise.sublist List.erase_sublist hP.srt) hnb, List.pairwise_singleton _ _, fun c hc d hd => ?_⟩
    obtain rfl : d = b := by simpa using hd
    have hc' := hN.mem_erase_iff.1 hc
    rw [upn_ne _ _ hc'.1, upn_at, hu]
    have := hP.top c hc'.2
    omega
  · by_cases e : c = b
    · rw [e, upn_at, hu]; omega
    · rw [upn_ne _ _ e]
      have := hP.top c ((hmem c).1 hc)
      omega
  · rw [hkey]; exact hP.wf c ((hmem c).1 hc)
  · rw [hmem, hkey]; exact hP.key q c
  · rw [hP.len]; simp; omega
  · have h0 := hP.pins c ((hmem c).1 hc)
    by_cases e : c = b
    · rw [e, upn_at, hp]; rw [e] at h0; omega
    · rw [upn_ne _ _ e]; omega
  · have := hP.rm
    simp; omega
  · have := hP.us
    omega
theorem PS.chg (hP : PS room N T S bs ks f uses n) (hb : b ∈ bs) (hk : keyB s' = keyB (S b)) (hu : s'.used = (S b).used) (hp : 0 ≤ s'.pins ∧ s'.pins ≤ (T' : Int)) (hT : T ≤ T') : PS room N T' (upn S b s') bs ks f uses n := by
  have hkey : ∀ c, keyB (upn S b s' c) = keyB (S c) := fun c => by
    by_cases e : c = b
    · rw [e, upn_at, hk]
    · rw [upn_ne _ _ e]
  have huse : ∀ c, (upn S b s' c).used = (S c).used := fun c => by
    by_cases e : c = b
    · rw [e, upn_at, hu]
    · rw [upn_ne _ _ e]
  refine ⟨hP.srt.imp (fun {c d} h => by rw [huse, huse]; exact h), fun c hc => by rw [huse]; exact hP.top c hc, fun c hc => by rw [hkey]; exact hP.wf c hc, fun q c => by rw [hkey]; exact hP.key q c, hP.len, fun c hc => ?_, hP.rm, ?_, hP.cnt⟩
  · by_cases e : c = b
    · rw [e, upn_at]; exact hp
    · rw [upn_ne _ _ e]
      have := hP.pins c hc
      omega
  · have := hP.us
    omega
theorem PS.drop (hP : PS room N T S bs ks f uses n) (hb : b ∈ bs) (hks : keyB (S b) ∈ ks) : PS room N T S (bs.erase b) (ks.erase (keyB (S b))) (updP f (keyB (S b)) none) uses n := by
  have hN := hP.nodup
  have hl := List.length_erase_of_mem hb
  have hl2 := List.length_erase_of_mem hks
  have hl0 := List.length_pos_of_mem hb
  refine ⟨List.Pairwise.sublist List.erase_sublist hP.srt, fun c hc => hP.top c (hN.mem_erase_iff.1 hc).2, fun c hc => hP.wf c (hN.mem_erase_iff.1 hc).2, fun q c => ?_, ?_, fun c hc => hP.pins c (hN.mem_erase_iff.1 hc).2, ?_, hP.us, hP.cnt⟩
  · rw [hN.mem_erase_iff]
    by_cases e : q = keyB (S b)
    · rw [e, updP_at]
      constructor
      · intro h; cases h
      · rintro ⟨⟨h1, h2⟩, h3⟩
        exact absurd (hP.inj h2 hb h3) h1
    · rw [updP_ne _ _ e, hP.key q c]
      constructor
      · rintro ⟨h1, h2⟩
        exact ⟨⟨fun q' => e (by rw [← h2, q']), h1⟩, h2⟩
      · rintro ⟨⟨h1, h2⟩, h3⟩
        exact ⟨h2, h3⟩
  · rw [hl, hl2, hP.len]
  · have := hP.rm
    omega
theorem PS.add (hP : PS room N T S bs ks f uses n) (hb : b ∉ bs) (hf : f p = none) (hks : p ∉ ks) (hk : keyB s' = p) (hw : wfK p) (hu : s'.used = uses + 1) (hp : s'.pins = 0) (hT : T + 1 ≤ T') (hr : (bs.length : Int) < room) {N' : Nat} (hN' : n + 1 ≤ N') :
    PS room N' T' (upn S b s') (bs ++ [b]) (addP ks p) (updP f p (some b)) (uses + 1) (n + 1) := by
  have hne : ∀ c, c ∈ bs → c ≠ b := fun c hc e => hb (by rw [← e]; exact hc)
  refine ⟨?_, fun c hc => ?_, fun c hc => ?_, fun q c => ?_, ?_, fun c hc => ?_, ?_, ?_, hN'⟩
  · rw [List.pairwise_append]
    refine ⟨pair_upn hP.srt hb, List.pairwise_singleton _ _, fun c hc d hd => ?_⟩
    obtain rfl : d = b := by simpa using hd
    rw [upn_ne _ _ (hne c hc), upn_at, hu]
    have := hP.top c hc
    omega
  · rcases List.mem_append.1 hc with h | h
    · rw [upn_ne _ _ (hne c h)]
      have := hP.top c h
      omega
    · obtain rfl : c = b := by simpa using h
      rw [upn_at, hu]; omega
  · rcases List.mem_append.1 hc with h | h
    · rw [upn_ne _ _ (hne c h)]; exact hP.wf c h
    · obtain rfl : c = b := by simpa using h
      rw [upn_at, hk]; exact hw
  · rw [List.mem_append, List.mem_singleton]
    by_cases e : q = p
    · rw [e, updP_at]
      constructor
      · intro h; cases h
        rw [upn_at]
        exact ⟨.inr rfl, hk⟩
      · rintro ⟨h1 | h1, h2⟩
        · rw [upn_ne _ _ (hne c h1)] at h2
          have := (hP.key p c).2 ⟨h1, h2⟩
          rw [hf] at this
          cases this
        · rw [h1]
    · rw [updP_ne _ _ e, hP.key q c]
      constructor
      · rintro ⟨h1, h2⟩
        rw [upn_ne _ _ (hne c h1)]
        exact ⟨.inl h1, h2⟩
      · rintro ⟨h1 | h1, h2⟩
        · rw [upn_ne _ _ (hne c h1)] at h2
          exact ⟨h1, h2⟩
        · rw [h1, upn_at, hk] at h2
          exact absurd h2.symm e
  · unfold addP
    rw [if_neg hks]
    simp [hP.len]
  · rcases List.mem_append.1 hc with h | h
    · rw [upn_ne _ _ (hne c h)]
      have := hP.pins c h
      omega
    · obtain rfl : c = b := by simpa using h
      rw [upn_at, hp]; omega
  · have := hP.rm
    simp; omega
  · have := hP.us
    omega
/-- The list of a cache's blocks. -/
def lstK (S : Nat → Bf) (bs : List Nat) : List Bk := bs.map fun b => bk (S b)
theorem find_lst (hP : PS room N T S bs ks f uses n) (p : Int × Int) : findK (lstK S bs) p = (f p).map fun b => bk (S b) := by
  unfold findK lstK
  rw [List.find?_map]
  cases hf : f p with
  | none =>
    rw [show bs.find? ((fun s : Bk => decide (s.key = p)) ∘ fun b => bk (S b)) = none from List.find?_eq_none.2 (fun c hc => ?_)]
    intro e
    have e : keyB (S c) = p := of_decide_eq_true e
    have := (hP.key p c).2 ⟨hc, e⟩
    rw [hf] at this
    cases this
  | some b =>
    obtain ⟨hb, hk⟩ := (hP.key p b).1 hf
    cases hq : bs.find? ((fun s : Bk => decide (s.key = p)) ∘ fun b => bk (S b)) with
    | none =>
      have := List.find?_eq_none.1 hq b hb
      simp [bk, hk] at this
    | some c =>
      have h1 := List.find?_some hq
      have h2 := List.mem_of_find?_eq_some hq
      simp [bk] at h1
      have := (hP.key p c).2 ⟨h2, h1⟩
      rw [hf] at this
      cases this
      rfl
theorem lst_erase (hP : PS room N T S bs ks f uses n) (hb : b ∈ bs) : lstK S (bs.erase b) = woK (lstK S bs) (keyB (S b)) := by
  unfold woK lstK
  rw [List.filter_map, hP.nodup.erase_eq_filter]
  congr 1
  apply List.filter_congr
  intro c hc
  simp only [Function.comp, bk]
  by_cases e : c = b
  · simp [e]
  · have : keyB (S c) ≠ keyB (S b) := fun q => e (hP.inj hc hb q)
    simp [e, this]
theorem lst_upn (s' : Bf) {l : List Nat} (hb : b ∉ l) : lstK (upn S b s') l = lstK S l := by
  unfold lstK
  apply List.map_congr_left
  intro c hc
  rw [upn_ne _ _ (fun e => hb (by rw [← e]; exact hc))]
theorem lst_use (hP : PS room N T S bs ks f uses n) (hb : b ∈ bs) (s' : Bf) : lstK (upn S b s') (bs.erase b ++ [b]) = woK (lstK S bs) (keyB (S b)) ++ [bk s'] := by
  rw [← lst_erase hP hb, ← lst_upn (b := b) s' (fun q => (hP.nodup.mem_erase_iff.1 q).1 rfl)]
  unfold lstK
  rw [List.map_append]
  simp [upn_at]
theorem lst_set (hP : PS room N T S bs ks f uses n) (hb : b ∈ bs) (s' : Bf) (g : Bk → Bk) (hg : g (bk (S b)) = bk s') : lstK (upn S b s') bs = setK (lstK S bs) (keyB (S b)) g := by
  unfold setK lstK
  rw [List.map_map]
  apply List.map_congr_left
  intro c hc
  show bk (upn S b s' c) = if keyB (S c) = keyB (S b) then g (bk (S c)) else bk (S c)
  by_cases e : c = b
  · rw [e, upn_at, if_pos rfl, hg]
  · rw [upn_ne _ _ e, if_neg (fun q => e (hP.inj hc hb q))]
theorem lst_add (hb : b ∉ bs) (s' : Bf) : lstK (upn S b s') (bs ++ [b]) = lstK S bs ++ [bk s'] := by
  rw [← lst_upn (b := b) s' hb]
  unfold lstK
  rw [List.map_append]
  simp [upn_at]
/-- The first that may go is the one whose use is the eldest. -/
theorem lst_go (hP : PS room N T S bs ks f uses n) (hb : b ∈ bs) (hg : goesB (S b) = true) (hmin : ∀ c, c ∈ bs → goesB (S c) = true → (S b).used ≤ (S c).used) : (lstK S bs).find? goK = some (bk (S b)) := by
  unfold lstK
  rw [List.find?_map]
  cases hq : bs.find? (goK ∘ fun b => bk (S b)) with
  | none =>
    have := List.find?_eq_none.1 hq b hb
    exact absurd hg this
  | some c =>
    have h1 : (goK ∘ fun b => bk (S b)) c = true := List.find?_some hq
    have h1 : goesB (S c) = true := h1
    have h2 := List.mem_of_find?_eq_some hq
    have h3 := hmin c h2 h1
    have h4 : c = b := by
      obtain ⟨l1, l2, e1, e2⟩ := List.find?_eq_some_iff_append.1 hq |>.2
      by_cases e : c = b
      · exact e
      · have hsr := hP.srt
        rw [e1] at hb hsr
        rw [List.pairwise_append] at hsr
        rcases List.mem_append.1 hb with q | q
        · have h5 : (!goesB (S b)) = true := e2 b q
          rw [hg] at h5
          cases h5
        · rcases List.mem_cons.1 q with q | q
          · exact q.symm
          · have := (List.pairwise_cons.1 hsr.2.1).1 b q
            omega
    rw [h4]; rfl
theorem lst_nogo (h : ∀ c, c ∈ bs → goesB (S c) = false) : (lstK S bs).find? goK = none := by
  unfold lstK
  rw [List.find?_map, List.find?_eq_none.2 (fun c hc => ?_)]
  · rfl
  · have := h c hc
    simp only [Function.comp]
    show ¬ goesB (S c) = true
    rw [this]
    decide
end
end Go.Proofs.Ytdnkeplmjimjcaa
/-
  What is done with one buffer: use, pin, unpin, wash, drop.
-/
namespace Go.Proofs.Ytdnkeplmjimjcaa
open Go.RowKit

/-- The cache in memory, as the list of its blocks. -/
def CA (w : World) (bc bm base : Nat) (room : Int) (N T : Nat) (L : List Bk) : Prop := ∃ x, CS w bc bm base room N T x ∧ L = lstK x.S x.bs
/-- What an act on a buffer leaves. -/
def AcO (w : World) (bc bm base : Nat) (room : Int) (N T : Nat) (b : Nat) (code : Int) (L : List Bk) (e : Ending) (w' : World) : Prop :=
  e = .returned (.int .i64 code) ∧ ∃ a x, LS w' bc bm base room N T x b a ∧ L = lstK x.S x.bs ∧ Out (XC w bc bm base) w w'
section
variable {w w' : World} {bc bm base b : Nat} {room uses : Int} {N T : Nat} {x : Sx} {a : Int} {s : Bf} {v : Value} {p : Int × Int}
theorem xc_b {s : Bf} (hB : BufO w b s a) (h0 : base ≤ bc) (h1 : base ≤ b) {g : Nat} (h : g = bc ∨ g = b) : XC w bc bm base g := by
  rcases h with e | e
  · rw [e]; exact ⟨h0, .inl rfl⟩
  · rw [e]; exact hB.xc h1
set_option maxHeartbeats 4000000 in
theorem use_any (hC : CB w bc bm room uses v) (hB : BufO w b s a) (u0 : 0 ≤ uses) (u1 : uses ≤ 4000000000000000000) :
    Calls Try.prog 35 #[.pointer (some ⟨bc, 0, none⟩), .pointer (some ⟨b, 0, none⟩)] w fun e w' => e = .returned (.tuple #[]) ∧ CB w' bc bm room (uses + 1) v ∧ BufO w' b { s with used := uses + 1 } a ∧ Out (fun g => g = bc ∨ g = b) w w' := by
  have hne : b ≠ bc := hB.apart hC (by decide)
  have hne2 : bc ≠ b := fun e => hne e.symm
  have HE : Hid (CB ((w.setCell ⟨bc, 3, none⟩ (.int .i64 (uses + 1))).setCell ⟨b, 68, none⟩ (.int .i64 (uses + 1))) bc bm room (uses + 1) v ∧ BufO ((w.setCell ⟨bc, 3, none⟩ (.int .i64 (uses + 1))).setCell ⟨b, 68, none⟩ (.int .i64 (uses + 1))) b { s with used := uses + 1 } a ∧ Out (fun g => g = bc ∨ g = b) w ((w.setCell ⟨bc, 3, none⟩ (.int .i64 (uses + 1))).setCell ⟨b, 68, none⟩ (.int .i64 (uses + 1)))) :=
    ⟨Blo.far (Blo.put hC 3 _) (p := ⟨b, 68, none⟩) hne2 _, (hB.far (p := ⟨bc, 3, none⟩) hne _).put_used _, ((Out.refl _ w).put (p := ⟨bc, 3, none⟩) (.inl rfl) _).put (p := ⟨b, 68, none⟩) (.inr rfl) _⟩
  obtain ⟨-, -, -, c3⟩ := hC.cell
  have f3 := Blo.frozen hC 3
  have f4 := hB.frozen 68
  obtain ⟨-, -, -, -, b4, -⟩ := hB.cells
  clear hC hB
  go_enter Try.func35, Try.ntmps35
  go_wp2_with fail
  go_end0
  exact ⟨rfl, HE.out⟩
set_option maxHeartbeats 4000000 in
theorem wash_any (hC : CS w bc bm base room N T x) (hb : b ∈ x.bs) :
    Calls Try.prog 42 #[.pointer (some ⟨b, 0, none⟩)] w (AcO w bc bm base room N T b 0 (setK (lstK x.S x.bs) (keyB (x.S b)) fun s => { s with dirty := false })) := by
  obtain ⟨a, hB, hL⟩ := hC.loose hb
  have HE : Hid (AcO w bc bm base room N T b 0 (setK (lstK x.S x.bs) (keyB (x.S b)) fun s => { s with dirty := false }) (.returned (.int .i64 0)) (w.setCell ⟨b, 66, none⟩ (.bool false))) :=
    ⟨rfl, a, _, hL _ { x.S b with dirty := false } x.uses x.bs T (hB.put_dirty false) (Blo.far hC.cb (p := ⟨b, 66, none⟩) (fun e => hB.apart hC.cb (by decide) e.symm) _) ((Out.refl _ w).put (p := ⟨b, 66, none⟩) (.inr rfl) _) (hC.ps.chg hb rfl rfl (hC.ps.pins b hb) (Nat.le_refl _)) (fun _ => Iff.rfl),
      (lst_set hC.ps hb _ _ rfl).symm, (Out.refl _ w).put (p := ⟨b, 66, none⟩) (hB.xc (hC.low.2.2 b hb)) _⟩
  obtain ⟨-, -, b2, -, -, -⟩ := hB.cells
  have f2 := hB.frozen 66
  clear hC hb hB hL
  go_enter Try.func42, Try.ntmps42
  go_wp2_with fail
  go_ret
  exact HE.out
set_option maxHeartbeats 4000000 in
theorem pin_any (hC : CS w bc bm base room N T x) (hb : b ∈ x.bs) (hT : T ≤ 4000000000000000000) :
    Calls Try.prog 40 #[.pointer (some ⟨b, 0, none⟩)] w (AcO w bc bm base room N (T + 1) b 0 (setK (lstK x.S x.bs) (keyB (x.S b)) fun s => { s with pins := s.pins + 1 })) := by
  obtain ⟨a, hB, hL⟩ := hC.loose hb
  have hp := hC.ps.pins b hb
  have HE : Hid (AcO w bc bm base room N (T + 1) b 0 (setK (lstK x.S x.bs) (keyB (x.S b)) fun s => { s with pins := s.pins + 1 }) (.returned (.int .i64 0)) (w.setCell ⟨b, 67, none⟩ (.int .i64 ((x.S b).pins + 1)))) :=
    ⟨rfl, a, _, hL _ { x.S b with pins := (x.S b).pins + 1 } x.uses x.bs (T + 1) (hB.put_pins _) (Blo.far hC.cb (p := ⟨b, 67, none⟩) (fun e => hB.apart hC.cb (by decide) e.symm) _) ((Out.refl _ w).put (p := ⟨b, 67, none⟩) (.inr rfl) _) (hC.ps.chg hb rfl rfl (by show 0 ≤ (x.S b).pins + 1 ∧ (x.S b).pins + 1 ≤ _; omega) (by omega)) (fun _ => Iff.rfl),
      (lst_set hC.ps hb _ _ rfl).symm, (Out.refl _ w).put (p := ⟨b, 67, none⟩) (hB.xc (hC.low.2.2 b hb)) _⟩
  obtain ⟨-, -, -, b2, -, -⟩ := hB.cells
  have f2 := hB.frozen 67
  generalize (x.S b).pins = q at *
  have q0 := hp.1
  have q1 : q ≤ 4000000000000000000 := by omega
  clear hC hb hB hL hp
  go_enter Try.func40, Try.ntmps40
  go_wp2_with fail
  go_ret
  exact HE.out
theorem CS.self (hC : CS w bc bm base room N T x) (hb : b ∈ x.bs) : ∃ a, LS w bc bm base room N T x b a := by
  obtain ⟨a, hB, hL⟩ := hC.loose hb
  have e : upn x.S b (x.S b) = x.S := by
    funext c
    by_cases e : c = b
    · rw [e, upn_at]
    · rw [upn_ne _ _ e]
  have := hL w (x.S b) x.uses x.bs T hB hC.cb (Out.refl _ _) (by rw [e]; exact hC.ps) (fun _ => Iff.rfl)
  rw [e] at this
  exact ⟨a, this⟩
set_option maxHeartbeats 4000000 in
theorem unpin_any (hC : CS w bc bm base room N T x) (hb : b ∈ x.bs) (hT : T ≤ 4000000000000000000) :
    Calls Try.prog 41 #[.pointer (some ⟨b, 0, none⟩)] w (AcO w bc bm base room N T b (if (x.S b).pins = 0 then 22 else 0) (if (x.S b).pins = 0 then lstK x.S x.bs else setK (lstK x.S x.bs) (keyB (x.S b)) fun s => { s with pins := s.pins - 1 })) := by
  by_cases hp0 : (x.S b).pins = 0
  · rw [if_pos hp0, if_pos hp0]
    obtain ⟨a, hL⟩ := hC.self hb
    obtain ⟨-, -, -, b2, -, -⟩ := hL.buf.cells
    have HE : Hid (AcO w bc bm base room N T b 22 (lstK x.S x.bs) (.returned (.int .i64 22)) w) := ⟨rfl, a, x, hL, rfl, Out.refl _ _⟩
    rw [hp0] at b2
    clear hC hb hL hp0
    go_enter Try.func41, Try.ntmps41
    go_wp2_with fail
    go_ret
    exact HE.out
  · rw [if_neg hp0, if_neg hp0]
    obtain ⟨a, hB, hL⟩ := hC.loose hb
    have hp := hC.ps.pins b hb
    have HE : Hid (AcO w bc bm base room N T b 0 (setK (lstK x.S x.bs) (keyB (x.S b)) fun s => { s with pins := s.pins - 1 }) (.returned (.int .i64 0)) (w.setCell ⟨b, 67, none⟩ (.int .i64 ((x.S b).pins - 1)))) :=
      ⟨rfl, a, _, hL _ { x.S b with pins := (x.S b).pins - 1 } x.uses x.bs T (hB.put_pins _) (Blo.far hC.cb (p := ⟨b, 67, none⟩) (fun e => hB.apart hC.cb (by decide) e.symm) _) ((Out.refl _ w).put (p := ⟨b, 67, none⟩) (.inr rfl) _) (hC.ps.chg hb rfl rfl (by show 0 ≤ (x.S b).pins - 1 ∧ (x.S b).pins - 1 ≤ _; omega) (Nat.le_refl _)) (fun _ => Iff.rfl),
        (lst_set hC.ps hb _ _ rfl).symm, (Out.refl _ w).put (p := ⟨b, 67, none⟩) (hB.xc (hC.low.2.2 b hb)) _⟩
    obtain ⟨-, -, -, b2, -, -⟩ := hB.cells
    have f2 := hB.frozen 67
    generalize (x.S b).pins = q at *
    have q0 := hp.1
    have q1 : q ≤ 4000000000000000000 := by omega
    have q2 : (q == 0) = false := by simpa using hp0
    clear hC hb hB hL hp hp0
    go_enter Try.func41, Try.ntmps41
    go_wp2_with fail
    go_ret
    exact HE.out
/-- A buffer leaves the map. -/
theorem CS.dropped (hC : CS w bc bm base room N T x) (hb : b ∈ x.bs) (hK : KM w' bm x.n (updP x.f (keyB (x.S b)) none) (x.ks.erase (keyB (x.S b)))) (hg : w.grownBy w' (some bm)) :
    ∃ a, LS w' bc bm base room N T { x with bs := x.bs.erase b, ks := x.ks.erase (keyB (x.S b)), f := updP x.f (keyB (x.S b)) none } b a := by
  obtain ⟨a, hL⟩ := hC.self hb
  have ho : Out (fun g => g = bm) w w' := Out.of_grown hg (fun g e => by cases e; rfl)
  have hnx : ∀ g, XG x.v x.m x.h g → ¬ g = bm := fun g hx e => by rw [e] at hx; exact hL.km.xg hL.gs hx
  have hN := hC.ps.nodup
  obtain ⟨D, h1, -, -, hks, -⟩ := hC.km
  refine ⟨a, Out.blo ho hL.cb (fun e => hL.km.blo hL.cb e.symm), hK, hL.gs.out ho hnx, hL.buf.out ho (fun e => hL.km.buf hL.buf e.symm), hL.cse, fun c hc h2 h3 => ?_, fun c hc h2 h3 => ?_, fun i hi e => ?_, ?_, hL.hm, ⟨hL.low.1, hL.low.2.1, fun c hc => hL.low.2.2 c (hN.mem_erase_iff.1 hc).2⟩, hL.wfb, ?_, hL.blb⟩
  · have := hL.off c (hN.mem_erase_iff.1 hc).2 h2 h3
    exact this.out ho (fun e => hL.km.buf this e.symm)
  · exact hL.on c (hN.mem_erase_iff.1 hc).2 h2 h3
  · obtain ⟨q1, q2⟩ := hL.who i hi e
    exact ⟨hN.mem_erase_iff.2 ⟨e, q1⟩, q2⟩
  · exact hC.ps.drop hb ((hks _).2 (by rw [(hC.ps.key _ b).2 ⟨hb, rfl⟩]; rfl))
  · exact .inr ⟨fun q => (hN.mem_erase_iff.1 q).1 rfl, updP_at _ _ _⟩
theorem kin (hC : CS w bc bm base room N T x) (hb : b ∈ x.bs) : keyB (x.S b) ∈ x.ks := by
  obtain ⟨D, h1, -, -, hks, -⟩ := hC.km
  exact (hks _).2 (by rw [(hC.ps.key _ b).2 ⟨hb, rfl⟩]; rfl)
set_option maxHeartbeats 4000000 in
theorem drop_any (hC : CS w bc bm base room N T x) (hb : b ∈ x.bs) :
    Calls Try.prog 43 #[.pointer (some ⟨bc, 0, none⟩), .pointer (some ⟨b, 0, none⟩)] w (AcO w bc bm base room N T b (if 0 < (x.S b).pins then 16 else 0) (if 0 < (x.S b).pins then lstK x.S x.bs else woK (lstK x.S x.bs) (keyB (x.S b)))) := by
  by_cases hp0 : 0 < (x.S b).pins
  · rw [if_pos hp0, if_pos hp0]
    obtain ⟨a, hL⟩ := hC.self hb
    obtain ⟨-, -, -, b2, -, -⟩ := hL.buf.cells
    have HE : Hid (AcO w bc bm base room N T b 16 (lstK x.S x.bs) (.returned (.int .i64 16)) w) := ⟨rfl, a, x, hL, rfl, Out.refl _ _⟩
    generalize (x.S b).pins = q at *
    clear hC hb hL
    go_enter Try.func43, Try.ntmps43
    go_wp2_with fail
    go_ret
    exact HE.out
  · rw [if_neg hp0, if_neg hp0]
    obtain ⟨a, hB⟩ := hC.buf hb
    have hCd := hC.later (show Below w.heap.size w w.drew from (Below.refl _ _).drew)
    obtain ⟨w', hrun, hK, hg⟩ := hCd.km.del (hC.ps.wf b hb) (kin hC hb) 0
    obtain ⟨a', hL'⟩ := hCd.dropped hb hK hg
    have HE : Hid (AcO w bc bm base room N T b 0 (woK (lstK x.S x.bs) (keyB (x.S b))) (.returned (.int .i64 0)) w') := by
      refine ⟨rfl, a', _, hL', (lst_erase hC.ps hb).symm, ?_⟩
      exact outC_trans (Out.of_below (Below.refl _ _).drew) (Out.of_grown hg (fun g e => by cases e; exact ⟨hC.low.2.1, .inr (.inl rfl)⟩))
    have k1 : (Builtin.delete_ #[KMT, KT] 0 #[.map (some bm), .agg #[.int .i64 (x.S b).ino, .int .i64 (x.S b).lbn]]).run Try.prog w.drew = .ok (.tuple #[]) w' := hrun
    obtain ⟨b0, b1, -, b2, -, -⟩ := hB.cells
    obtain ⟨-, c1, -, -⟩ := hC.cb.cell
    have c1' := cell_later (show Below w.heap.size w w.drew from (Below.refl _ _).drew) c1
    have b0' := cell_later (show Below w.heap.size w w.drew from (Below.refl _ _).drew) b0
    have b1' := cell_later (show Below w.heap.size w w.drew from (Below.refl _ _).drew) b1
    have q1 : (x.S b).pins ≤ 0 := by omega
    generalize (x.S b).pins = q at *
    generalize (x.S b).ino = ki at *
    generalize (x.S b).lbn = kl at *
    clear hC hb hB hCd hrun hK hg hL'
    go_enter Try.func43, Try.ntmps43
    go_wp2_with fail
    go_region
    go_wp2_with fail
    go_ret
    exact HE.out
end
end Go.Proofs.Ytdnkeplmjimjcaa
/-
  change: Clean, Pin, Unpin, Drop.
-/
namespace Go.Proofs.Ytdnkeplmjimjcaa
open Go.RowKit

/-- 3 Clean, 4 Pin, 5 Unpin, 6 Drop: the blocks behind it, the error. -/
def doK (L : List Bk) (kind : Int) (p : Int × Int) : List Bk × Int :=
  match findK L p with
  | none => (L, 2)
  | some s =>
    if kind = 3 then (setK L p (fun s => { s with dirty := false }), 0)
    else if kind = 4 then (setK L p (fun s => { s with pins := s.pins + 1 }), 0)
    else if kind = 5 then (if s.pins = 0 then (L, 22) else (setK L p (fun s => { s with pins := s.pins - 1 }), 0))
    else (if 0 < s.pins then (L, 16) else (woK L p, 0))
/-- What a call on the cache leaves. -/
def CcO (w : World) (bc bm base : Nat) (room : Int) (N T : Nat) (L : List Bk) (v : Value) (e : Ending) (w' : World) : Prop :=
  e = .returned v ∧ CA w' bc bm base room N T L ∧ Out (XC w bc bm base) w w'
section
variable {w w' : World} {bc bm base b : Nat} {room uses : Int} {N T T' : Nat} {x : Sx} {a : Int} {s : Bf} {v : Value} {p : Int × Int} {L L' : List Bk}
theorem CA.mono (h : CA w bc bm base room N T L) {N' : Nat} (h1 : N ≤ N') (h2 : T ≤ T') : CA w bc bm base room N' T' L := by
  obtain ⟨x, hC, e⟩ := h
  exact ⟨x, hC.mono h1 h2, e⟩
theorem CA.later (h : CA w bc bm base room N T L) (hb : Below w.heap.size w w') : CA w' bc bm base room N T L := by
  obtain ⟨x, hC, e⟩ := h
  exact ⟨x, hC.later hb, e⟩
theorem LS.blt (hL : LS w bc bm base room N T x b a) : base ≤ w.heap.size := by
  have := hL.low.1
  have := Blo.lt hL.cb
  omega
theorem kept_in {w1 : World} (hb : Below w.heap.size w w1) : Below w.heap.size w w1.drew := hb.drew
/-- No such buffer. -/
theorem chg_none (hC : CS w bc bm base room N T x) (hp : wfK p) (hf : x.f p = none) (fv : Value) :
    Calls Try.prog 39 #[.pointer (some ⟨bc, 0, none⟩), keyV p, fv] w (CcO w bc bm base room N T (lstK x.S x.bs) (.int .i64 2)) := by
  obtain ⟨ki, kl⟩ := p
  obtain ⟨-, d1, -, -⟩ := hC.cb.cell
  obtain ⟨w1, hw1⟩ : ∃ w1, w1 = w.alloc (.cells #[.int .i64 ki, .int .i64 kl] KT) := ⟨_, rfl⟩
  have HB1 : Hid (Below w.heap.size w w1) := by rw [hw1]; exact sup_pc9 w _
  have hX : Blo w1 w.heap.size KT #[.int .i64 ki, .int .i64 kl] := by rw [hw1]; exact blo_laid w _ _
  have c0 : ∀ y : Kept w1, y.at_.cell? ⟨w.heap.size, 0, none⟩ = some (.int .i64 ki) := fun y => cell_later y.below (Blo.cell hX 0)
  have c1 : ∀ y : Kept w1, y.at_.cell? ⟨w.heap.size, 1, none⟩ = some (.int .i64 kl) := fun y => cell_later y.below (Blo.cell hX 1)
  have c2 : ∀ y : Kept w1, y.at_.cell? ⟨bc, 1, none⟩ = some (.map (some bm)) := fun y => cell_later y.below (cell_later HB1.out d1)
  have k1 : ∀ y : Kept w1, (Instr.lookup KMT (.map (some bm)) (.agg #[.int .i64 ki, .int .i64 kl]) true).run Try.prog y.at_ = .ok (.tuple #[.pointer none, .bool false]) y.at_ := fun y => by
    have := (hC.km.later (HB1.out.trans (y.below.mono HB1.out.size))).look_ok hp
    rw [hf] at this
    exact this
  have HC := Lib.hid hC
  clear hC hp hf hX d1
  unfold keyV
  go_enter Try.func39, Try.ntmps39
  go_upto_region 1 with (fail)
  rw [← hw1]
  clear hw1
  obtain ⟨g0, hg0⟩ : ∃ g0, w.heap.size = g0 := ⟨_, rfl⟩
  rw [hg0] at c0 c1 ⊢
  refine wp_region_kept (by kernel_rfl) (by kernel_rfl) ?_
  repeat (go_big_quiet_step (fail))
  refine wpQuiet_nil ?_
  rintro W2 ⟨w2, rfl⟩
  have HE : Hid (CcO w bc bm base room N T (lstK x.S x.bs) (.int .i64 2) (.returned (.int .i64 2)) w2.at_) := by
    have hb := HB1.out.trans (w2.below.mono HB1.out.size)
    exact ⟨rfl, ⟨x, HC.out.later hb, rfl⟩, Out.of_below hb⟩
  clear c0 c1 c2 k1 HC
  go_wp2_with fail
  go_ret
  exact HE.out
set_option maxRecDepth 100000 in
set_option maxHeartbeats 4000000 in
theorem chg_wash (hC : CS w bc bm base room N T x) (hp : wfK p) (hf : x.f p = some b) {code : Int}
    (hA : ∀ y : World, Below w.heap.size w y → Calls Try.prog 42 #[.pointer (some ⟨b, 0, none⟩)] y (AcO y bc bm base room N T' b code L')) :
    Calls Try.prog 39 #[.pointer (some ⟨bc, 0, none⟩), keyV p, .func (.func 42) #[] #[]] w (CcO w bc bm base room N T' L' (.int .i64 code)) := by
  obtain ⟨ki, kl⟩ := p
  obtain ⟨-, d1, -, -⟩ := hC.cb.cell
  obtain ⟨w1, hw1⟩ : ∃ w1, w1 = w.alloc (.cells #[.int .i64 ki, .int .i64 kl] KT) := ⟨_, rfl⟩
  have HB1 : Hid (Below w.heap.size w w1) := by rw [hw1]; exact sup_pc9 w _
  have hX : Blo w1 w.heap.size KT #[.int .i64 ki, .int .i64 kl] := by rw [hw1]; exact blo_laid w _ _
  have c0 : ∀ y : Kept w1, y.at_.cell? ⟨w.heap.size, 0, none⟩ = some (.int .i64 ki) := fun y => cell_later y.below (Blo.cell hX 0)
  have c1 : ∀ y : Kept w1, y.at_.cell? ⟨w.heap.size, 1, none⟩ = some (.int .i64 kl) := fun y => cell_later y.below (Blo.cell hX 1)
  have c2 : ∀ y : Kept w1, y.at_.cell? ⟨bc, 1, none⟩ = some (.map (some bm)) := fun y => cell_later y.below (cell_later HB1.out d1)
  have k1 : ∀ y : Kept w1, (Instr.lookup KMT (.map (some bm)) (.agg #[.int .i64 ki, .int .i64 kl]) true).run Try.prog y.at_ = .ok (.tuple #[.pointer (some ⟨b, 0, none⟩), .bool true]) y.at_ := fun y => by
    have := (hC.km.later (HB1.out.trans (y.below.mono HB1.out.size))).look_ok hp
    rw [hf] at this
    exact this
  have HA := Lib.hid hA
  clear hC hp hf hX d1 hA
  unfold keyV
  go_enter Try.func39, Try.ntmps39
  go_upto_region 1 with (fail)
  rw [← hw1]
  clear hw1
  obtain ⟨g0, hg0⟩ : ∃ g0, w.heap.size = g0 := ⟨_, rfl⟩
  rw [hg0] at c0 c1 ⊢
  refine wp_region_kept (by kernel_rfl) (by kernel_rfl) ?_
  repeat (go_big_quiet_step (fail))
  refine wpQuiet_nil ?_
  rintro W2 ⟨w2, rfl⟩
  have HB2 := Lib.hid (HB1.out.trans (w2.below.mono HB1.out.size))
  clear c0 c1 c2 k1
  go_wp2_with fail
  refine (HA.out _ HB2.out).mono ?_
  rintro e w3 ⟨rfl, a, x', hL, hL', ho⟩
  have HO := Lib.hid (outC_trans (Out.of_below HB2.out) ho)
  have HPl := Lib.hid (place_any hL hL.blt)
  have HL' := Lib.hid hL'
  clear HA hL ho hL'
  go_wp2_with fail
  refine HPl.out.mono ?_
  rintro e w4 ⟨rfl, v', m', h', hC, ho⟩
  have HE : Hid (CcO w bc bm base room N T' L' (.int .i64 code) (.returned (.int .i64 code)) w4) := ⟨rfl, ⟨_, hC, HL'.out⟩, outC_trans HO.out ho⟩
  clear HPl hC ho HL' HO HB2
  go_wp2_with fail
  go_ret
  exact HE.out
set_option maxRecDepth 100000 in
set_option maxHeartbeats 4000000 in
theorem chg_pin (hC : CS w bc bm base room N T x) (hp : wfK p) (hf : x.f p = some b) {code : Int}
    (hA : ∀ y : World, Below w.heap.size w y → Calls Try.prog 40 #[.pointer (some ⟨b, 0, none⟩)] y (AcO y bc bm base room N T' b code L')) :
    Calls Try.prog 39 #[.pointer (some ⟨bc, 0, none⟩), keyV p, .func (.func 40) #[] #[]] w (CcO w bc bm base room N T' L' (.int .i64 code)) := by
  obtain ⟨ki, kl⟩ := p
  obtain ⟨-, d1, -, -⟩ := hC.cb.cell
  obtain ⟨w1, hw1⟩ : ∃ w1, w1 = w.alloc (.cells #[.int .i64 ki, .int .i64 kl] KT) := ⟨_, rfl⟩
  have HB1 : Hid (Below w.heap.size w w1) := by rw [hw1]; exact sup_pc9 w _
  have hX : Blo w1 w.heap.size KT #[.int .i64 ki, .int .i64 kl] := by rw [hw1]; exact blo_laid w _ _
  have c0 : ∀ y : Kept w1, y.at_.cell? ⟨w.heap.size, 0, none⟩ = some (.int .i64 ki) := fun y => cell_later y.below (Blo.cell hX 0)
  have c1 : ∀ y : Kept w1, y.at_.cell? ⟨w.heap.size, 1, none⟩ = some (.int .i64 kl) := fun y => cell_later y.below (Blo.cell hX 1)
  have c2 : ∀ y : Kept w1, y.at_.cell? ⟨bc, 1, none⟩ = some (.map (some bm)) := fun y => cell_later y.below (cell_later HB1.out d1)
  have k1 : ∀ y : Kept w1, (Instr.lookup KMT (.map (some bm)) (.agg #[.int .i64 ki, .int .i64 kl]) true).run Try.prog y.at_ = .ok (.tuple #[.pointer (some ⟨b, 0, none⟩), .bool true]) y.at_ := fun y => by
    have := (hC.km.later (HB1.out.trans (y.below.mono HB1.out.size))).look_ok hp
    rw [hf] at this
    exact this
  have HA := Lib.hid hA
  clear hC hp hf hX d1 hA
  unfold keyV
  go_enter Try.func39, Try.ntmps39
  go_upto_region 1 with (fail)
  rw [← hw1]
  clear hw1
  obtain ⟨g0, hg0⟩ : ∃ g0, w.heap.size = g0 := ⟨_, rfl⟩
  rw [hg0] at c0 c1 ⊢
  refine wp_region_kept (by kernel_rfl) (by kernel_rfl) ?_
  repeat (go_big_quiet_step (fail))
  refine wpQuiet_nil ?_
  rintro W2 ⟨w2, rfl⟩
  have HB2 := Lib.hid (HB1.out.trans (w2.below.mono HB1.out.size))
  clear c0 c1 c2 k1
  go_wp2_with fail
  refine (HA.out _ HB2.out).mono ?_
  rintro e w3 ⟨rfl, a, x', hL, hL', ho⟩
  have HO := Lib.hid (outC_trans (Out.of_below HB2.out) ho)
  have HPl := Lib.hid (place_any hL hL.blt)
  have HL' := Lib.hid hL'
  clear HA hL ho hL'
  go_wp2_with fail
  refine HPl.out.mono ?_
  rintro e w4 ⟨rfl, v', m', h', hC, ho⟩
  have HE : Hid (CcO w bc bm base room N T' L' (.int .i64 code) (.returned (.int .i64 code)) w4) := ⟨rfl, ⟨_, hC, HL'.out⟩, outC_trans HO.out ho⟩
  clear HPl hC ho HL' HO HB2
  go_wp2_with fail
  go_ret
  exact HE.out
set_option maxRecDepth 100000 in
set_option maxHeartbeats 4000000 in
theorem chg_unpin (hC : CS w bc bm base room N T x) (hp : wfK p) (hf : x.f p = some b) {code : Int}
    (hA : ∀ y : World, Below w.heap.size w y → Calls Try.prog 41 #[.pointer (some ⟨b, 0, none⟩)] y (AcO y bc bm base room N T' b code L')) :
    Calls Try.prog 39 #[.pointer (some ⟨bc, 0, none⟩), keyV p, .func (.func 41) #[] #[]] w (CcO w bc bm base room N T' L' (.int .i64 code)) := by
  obtain ⟨ki, kl⟩ := p
  obtain ⟨-, d1, -, -⟩ := hC.cb.cell
  obtain ⟨w1, hw1⟩ : ∃ w1, w1 = w.alloc (.cells #[.int .i64 ki, .int .i64 kl] KT) := ⟨_, rfl⟩
  have HB1 : Hid (Below w.heap.size w w1) := by rw [hw1]; exact sup_pc9 w _
  have hX : Blo w1 w.heap.size KT #[.int .i64 ki, .int .i64 kl] := by rw [hw1]; exact blo_laid w _ _
  have c0 : ∀ y : Kept w1, y.at_.cell? ⟨w.heap.size, 0, none⟩ = some (.int .i64 ki) := fun y => cell_later y.below (Blo.cell hX 0)
  have c1 : ∀ y : Kept w1, y.at_.cell? ⟨w.heap.size, 1, none⟩ = some (.int .i64 kl) := fun y => cell_later y.below (Blo.cell hX 1)
  have c2 : ∀ y : Kept w1, y.at_.cell? ⟨bc, 1, none⟩ = some (.map (some bm)) := fun y => cell_later y.below (cell_later HB1.out d1)
  have k1 : ∀ y : Kept w1, (Instr.lookup KMT (.map (some bm)) (.agg #[.int .i64 ki, .int .i64 kl]) true).run Try.prog y.at_ = .ok (.tuple #[.pointer (some ⟨b, 0, none⟩), .bool true]) y.at_ := fun y => by
    have := (hC.km.later (HB1.out.trans (y.below.mono HB1.out.size))).look_ok hp
    rw [hf] at this
    exact this
  have HA := Lib.hid hA
  clear hC hp hf hX d1 hA
  unfold keyV
  go_enter Try.func39, Try.ntmps39
  go_upto_region 1 with (fail)
  rw [← hw1]
  clear hw1
  obtain ⟨g0, hg0⟩ : ∃ g0, w.heap.size = g0 := ⟨_, rfl⟩
  rw [hg0] at c0 c1 ⊢
  refine wp_region_kept (by kernel_rfl) (by kernel_rfl) ?_
  repeat (go_big_quiet_step (fail))
  refine wpQuiet_nil ?_
  rintro W2 ⟨w2, rfl⟩
  have HB2 := Lib.hid (HB1.out.trans (w2.below.mono HB1.out.size))
  clear c0 c1 c2 k1
  go_wp2_with fail
  refine (HA.out _ HB2.out).mono ?_
  rintro e w3 ⟨rfl, a, x', hL, hL', ho⟩
  have HO := Lib.hid (outC_trans (Out.of_below HB2.out) ho)
  have HPl := Lib.hid (place_any hL hL.blt)
  have HL' := Lib.hid hL'
  clear HA hL ho hL'
  go_wp2_with fail
  refine HPl.out.mono ?_
  rintro e w4 ⟨rfl, v', m', h', hC, ho⟩
  have HE : Hid (CcO w bc bm base room N T' L' (.int .i64 code) (.returned (.int .i64 code)) w4) := ⟨rfl, ⟨_, hC, HL'.out⟩, outC_trans HO.out ho⟩
  clear HPl hC ho HL' HO HB2
  go_wp2_with fail
  go_ret
  exact HE.out
set_option maxRecDepth 100000 in
set_option maxHeartbeats 4000000 in
theorem chg_drop (hC : CS w bc bm base room N T x) (hp : wfK p) (hf : x.f p = some b) {code : Int}
    (hA : ∀ y : World, Below w.heap.size w y → Calls Try.prog 43 #[.pointer (some ⟨bc, 0, none⟩), .pointer (some ⟨b, 0, none⟩)] y (AcO y bc bm base room N T' b code L')) :
    Calls Try.prog 39 #[.pointer (some ⟨bc, 0, none⟩), keyV p, .func (.func 43) #[.pointer (some ⟨bc, 0, none⟩)] #[]] w (CcO w bc bm base room N T' L' (.int .i64 code)) := by
  obtain ⟨ki, kl⟩ := p
  obtain ⟨-, d1, -, -⟩ := hC.cb.cell
  obtain ⟨w1, hw1⟩ : ∃ w1, w1 = w.alloc (.cells #[.int .i64 ki, .int .i64 kl] KT) := ⟨_, rfl⟩
  have HB1 : Hid (Below w.heap.size w w1) := by rw [hw1]; exact sup_pc9 w _
  have hX : Blo w1 w.heap.size KT #[.int .i64 ki, .int .i64 kl] := by rw [hw1]; exact blo_laid w _ _
  have c0 : ∀ y : Kept w1, y.at_.cell? ⟨w.heap.size, 0, none⟩ = some (.int .i64 ki) := fun y => cell_later y.below (Blo.cell hX 0)
  have c1 : ∀ y : Kept w1, y.at_.cell? ⟨w.heap.size, 1, none⟩ = some (.int .i64 kl) := fun y => cell_later y.below (Blo.cell hX 1)
  have c2 : ∀ y : Kept w1, y.at_.cell? ⟨bc, 1, none⟩ = some (.map (some bm)) := fun y => cell_later y.below (cell_later HB1.out d1)
  have k1 : ∀ y : Kept w1, (Instr.lookup KMT (.map (some bm)) (.agg #[.int .i64 ki, .int .i64 kl]) true).run Try.prog y.at_ = .ok (.tuple #[.pointer (some ⟨b, 0, none⟩), .bool true]) y.at_ := fun y => by
    have := (hC.km.later (HB1.out.trans (y.below.mono HB1.out.size))).look_ok hp
    rw [hf] at this
    exact this
  have HA := Lib.hid hA
  clear hC hp hf hX d1 hA
  unfold keyV
  go_enter Try.func39, Try.ntmps39
  go_upto_region 1 with (fail)
  rw [← hw1]
  clear hw1
  obtain ⟨g0, hg0⟩ : ∃ g0, w.heap.size = g0 := ⟨_, rfl⟩
  rw [hg0] at c0 c1 ⊢
  refine wp_region_kept (by kernel_rfl) (by kernel_rfl) ?_
  repeat (go_big_quiet_step (fail))
  refine wpQuiet_nil ?_
  rintro W2 ⟨w2, rfl⟩
  have HB2 := Lib.hid (HB1.out.trans (w2.below.mono HB1.out.size))
  clear c0 c1 c2 k1
  go_wp2_with fail
  refine (HA.out _ HB2.out).mono ?_
  rintro e w3 ⟨rfl, a, x', hL, hL', ho⟩
  have HO := Lib.hid (outC_trans (Out.of_below HB2.out) ho)
  have HPl := Lib.hid (place_any hL hL.blt)
  have HL' := Lib.hid hL'
  clear HA hL ho hL'
  go_wp2_with fail
  refine HPl.out.mono ?_
  rintro e w4 ⟨rfl, v', m', h', hC, ho⟩
  have HE : Hid (CcO w bc bm base room N T' L' (.int .i64 code) (.returned (.int .i64 code)) w4) := ⟨rfl, ⟨_, hC, HL'.out⟩, outC_trans HO.out ho⟩
  clear HPl hC ho HL' HO HB2
  go_wp2_with fail
  go_ret
  exact HE.out
theorem do_none (h : CA w bc bm base room N T L) (hp : wfK p) (hf : findK L p = none) (fv : Value) :
    Calls Try.prog 39 #[.pointer (some ⟨bc, 0, none⟩), keyV p, fv] w (CcO w bc bm base room N T L (.int .i64 2)) := by
  obtain ⟨x, hC, rfl⟩ := h
  refine chg_none hC hp ?_ fv
  rw [find_lst hC.ps p] at hf
  simpa using hf
theorem do_some (h : CA w bc bm base room N T L) {s : Bk} (hf : findK L p = some s) : ∃ x b, CS w bc bm base room N T x ∧ L = lstK x.S x.bs ∧ x.f p = some b ∧ s = bk (x.S b) ∧ b ∈ x.bs ∧ p = keyB (x.S b) := by
  obtain ⟨x, hC, rfl⟩ := h
  rw [find_lst hC.ps p] at hf
  cases hq : x.f p with
  | none => rw [hq] at hf; cases hf
  | some b =>
    rw [hq] at hf
    obtain ⟨h1, h2⟩ := (hC.ps.key p b).1 hq
    exact ⟨x, b, hC, rfl, hq, by simpa using hf.symm, h1, h2.symm⟩
end
end Go.Proofs.Ytdnkeplmjimjcaa
/-
  Clean, Pin, Unpin and Drop of any key.
-/
namespace Go.Proofs.Ytdnkeplmjimjcaa
open Go.RowKit

section
variable {w w' : World} {bc bm base b : Nat} {room uses : Int} {N T T' : Nat} {x : Sx} {a : Int} {s : Bf} {v : Value} {p : Int × Int} {L L' : List Bk}
theorem CcO.up {e : Ending} (h : CcO w bc bm base room N T L v e w') (hT : T ≤ T') : CcO w bc bm base room N T' L v e w' := ⟨h.1, h.2.1.mono (Nat.le_refl _) hT, h.2.2⟩
theorem CcO.before {w1 : World} {e : Ending} (h : CcO w1 bc bm base room N T L v e w') (hb : Below w.heap.size w w1) : CcO w bc bm base room N T L v e w' := ⟨h.1, h.2.1, outC_trans (Out.of_below hb) h.2.2⟩
theorem do_wash (h : CA w bc bm base room N T L) (hp : wfK p) :
    Calls Try.prog 39 #[.pointer (some ⟨bc, 0, none⟩), keyV p, .func (.func 42) #[] #[]] w (CcO w bc bm base room N (T + 1) (doK L 3 p).1 (.int .i64 (doK L 3 p).2)) := by
  cases hf : findK L p with
  | none =>
    unfold doK; rw [hf]
    exact (do_none h hp hf _).mono fun e w' q => q.up (by omega)
  | some s =>
    have e : doK L 3 p = (setK L p (fun s => { s with dirty := false }), 0) := by unfold doK; rw [hf]; rfl
    obtain ⟨x, b, hC, rfl, hq, rfl, hb, rfl⟩ := do_some h hf
    rw [e]
    exact (chg_wash hC hp hq (fun y hy => wash_any (hC.later hy) hb)).mono fun e w' q => q.up (by omega)
theorem do_pin (h : CA w bc bm base room N T L) (hp : wfK p) (hT : T ≤ 4000000000000000000) :
    Calls Try.prog 39 #[.pointer (some ⟨bc, 0, none⟩), keyV p, .func (.func 40) #[] #[]] w (CcO w bc bm base room N (T + 1) (doK L 4 p).1 (.int .i64 (doK L 4 p).2)) := by
  cases hf : findK L p with
  | none =>
    unfold doK; rw [hf]
    exact (do_none h hp hf _).mono fun e w' q => q.up (by omega)
  | some s =>
    have e : doK L 4 p = (setK L p (fun s => { s with pins := s.pins + 1 }), 0) := by unfold doK; rw [hf]; rfl
    obtain ⟨x, b, hC, rfl, hq, rfl, hb, rfl⟩ := do_some h hf
    rw [e]
    exact chg_pin hC hp hq (fun y hy => pin_any (hC.later hy) hb hT)
theorem do_unpin (h : CA w bc bm base room N T L) (hp : wfK p) (hT : T ≤ 4000000000000000000) :
    Calls Try.prog 39 #[.pointer (some ⟨bc, 0, none⟩), keyV p, .func (.func 41) #[] #[]] w (CcO w bc bm base room N (T + 1) (doK L 5 p).1 (.int .i64 (doK L 5 p).2)) := by
  cases hf : findK L p with
  | none =>
    unfold doK; rw [hf]
    exact (do_none h hp hf _).mono fun e w' q => q.up (by omega)
  | some s =>
    have e : doK L 5 p = (if s.pins = 0 then L else setK L p (fun s => { s with pins := s.pins - 1 }), if s.pins = 0 then 22 else 0) := by
      unfold doK
      rw [hf]
      by_cases q : s.pins = 0
      · simp [q]
      · simp [q]
    obtain ⟨x, b, hC, rfl, hq, rfl, hb, rfl⟩ := do_some h hf
    rw [e]
    exact (chg_unpin hC hp hq (fun y hy => unpin_any (hC.later hy) hb hT)).mono fun e w' q => q.up (by omega)
theorem do_drop (h : CA w bc bm base room N T L) (hp : wfK p) :
    Calls Try.prog 39 #[.pointer (some ⟨bc, 0, none⟩), keyV p, .func (.func 43) #[.pointer (some ⟨bc, 0, none⟩)] #[]] w (CcO w bc bm base room N (T + 1) (doK L 6 p).1 (.int .i64 (doK L 6 p).2)) := by
  cases hf : findK L p with
  | none =>
    unfold doK; rw [hf]
    exact (do_none h hp hf _).mono fun e w' q => q.up (by omega)
  | some s =>
    have e : doK L 6 p = (if 0 < s.pins then L else woK L p, if 0 < s.pins then 16 else 0) := by
      unfold doK
      rw [hf]
      by_cases q : 0 < s.pins
      · simp [q]
      · simp [q]
    obtain ⟨x, b, hC, rfl, hq, rfl, hb, rfl⟩ := do_some h hf
    rw [e]
    exact (chg_drop hC hp hq (fun y hy => drop_any (hC.later hy) hb)).mono fun e w' q => q.up (by omega)
set_option maxHeartbeats 4000000 in
theorem clean_any (h : CA w bc bm base room N T L) (hp : wfK p) :
    Calls Try.prog 26 #[.pointer (some ⟨bc, 0, none⟩), keyV p] w (CcO w bc bm base room N (T + 1) (doK L 3 p).1 (.int .i64 (doK L 3 p).2)) := by
  have HD : Hid (∀ y : World, Below w.heap.size w y → Calls Try.prog 39 #[.pointer (some ⟨bc, 0, none⟩), keyV p, .func (.func 42) #[] #[]] y (CcO y bc bm base room N (T + 1) (doK L 3 p).1 (.int .i64 (doK L 3 p).2))) := fun y hy => do_wash (h.later hy) hp
  generalize (doK L 3 p).1 = L' at *
  generalize (doK L 3 p).2 = code at *
  clear h hp
  obtain ⟨ki, kl⟩ := p
  unfold keyV at HD ⊢
  have HB := Lib.hid (sup_pc9 w (.cells #[.int .i64 ki, .int .i64 kl] KT))
  go_enter Try.func26, Try.ntmps26
  go_wp2_with fail
  refine (HD.out _ HB.out).mono ?_
  intro e w2 hc
  have HC := Lib.hid (hc.before HB.out)
  obtain ⟨rfl, -⟩ := hc
  go_wp2_with fail
  go_ret
  exact HC.out
set_option maxHeartbeats 4000000 in
theorem pinc_any (h : CA w bc bm base room N T L) (hp : wfK p) (hT : T ≤ 4000000000000000000) :
    Calls Try.prog 24 #[.pointer (some ⟨bc, 0, none⟩), keyV p] w (CcO w bc bm base room N (T + 1) (doK L 4 p).1 (.int .i64 (doK L 4 p).2)) := by
  have HD : Hid (∀ y : World, Below w.heap.size w y → Calls Try.prog 39 #[.pointer (some ⟨bc, 0, none⟩), keyV p, .func (.func 40) #[] #[]] y (CcO y bc bm base room N (T + 1) (doK L 4 p).1 (.int .i64 (doK L 4 p).2))) := fun y hy => do_pin (h.later hy) hp hT
  generalize (doK L 4 p).1 = L' at *
  generalize (doK L 4 p).2 = code at *
  clear h hp hT
  obtain ⟨ki, kl⟩ := p
  unfold keyV at HD ⊢
  have HB := Lib.hid (sup_pc9 w (.cells #[.int .i64 ki, .int .i64 kl] KT))
  go_enter Try.func24, Try.ntmps24
  go_wp2_with fail
  refine (HD.out _ HB.out).mono ?_
  intro e w2 hc
  have HC := Lib.hid (hc.before HB.out)
  obtain ⟨rfl, -⟩ := hc
  go_wp2_with fail
  go_ret
  exact HC.out
set_option maxHeartbeats 4000000 in
theorem unpinc_any (h : CA w bc bm base room N T L) (hp : wfK p) (hT : T ≤ 4000000000000000000) :
    Calls Try.prog 25 #[.pointer (some ⟨bc, 0, none⟩), keyV p] w (CcO w bc bm base room N (T + 1) (doK L 5 p).1 (.int .i64 (doK L 5 p).2)) := by
  have HD : Hid (∀ y : World, Below w.heap.size w y → Calls Try.prog 39 #[.pointer (some ⟨bc, 0, none⟩), keyV p, .func (.func 41) #[] #[]] y (CcO y bc bm base room N (T + 1) (doK L 5 p).1 (.int .i64 (doK L 5 p).2))) := fun y hy => do_unpin (h.later hy) hp hT
  generalize (doK L 5 p).1 = L' at *
  generalize (doK L 5 p).2 = code at *
  clear h hp hT
  obtain ⟨ki, kl⟩ := p
  unfold keyV at HD ⊢
  have HB := Lib.hid (sup_pc9 w (.cells #[.int .i64 ki, .int .i64 kl] KT))
  go_enter Try.func25, Try.ntmps25
  go_wp2_with fail
  refine (HD.out _ HB.out).mono ?_
  intro e w2 hc
  have HC := Lib.hid (hc.before HB.out)
  obtain ⟨rfl, -⟩ := hc
  go_wp2_with fail
  go_ret
  exact HC.out
set_option maxHeartbeats 4000000 in
theorem dropc_any (h : CA w bc bm base room N T L) (hp : wfK p) :
    Calls Try.prog 27 #[.pointer (some ⟨bc, 0, none⟩), keyV p] w (CcO w bc bm base room N (T + 1) (doK L 6 p).1 (.int .i64 (doK L 6 p).2)) := by
  have HD : Hid (∀ y : World, Below w.heap.size w y → Calls Try.prog 39 #[.pointer (some ⟨bc, 0, none⟩), keyV p, .func (.func 43) #[.pointer (some ⟨bc, 0, none⟩)] #[]] y (CcO y bc bm base room N (T + 1) (doK L 6 p).1 (.int .i64 (doK L 6 p).2))) := fun y hy => do_drop (h.later hy) hp
  generalize (doK L 6 p).1 = L' at *
  generalize (doK L 6 p).2 = code at *
  have hmf : ∀ (fn : Fn) (first cap : Array Value) (w : World), (Instr.makeFunc fn first cap).run Try.prog w = .ok (.func fn first cap) w := fun _ _ _ _ => rfl
  clear h hp
  obtain ⟨ki, kl⟩ := p
  unfold keyV at HD ⊢
  have HB := Lib.hid (sup_pc9 w (.cells #[.int .i64 ki, .int .i64 kl] KT))
  go_enter Try.func27, Try.ntmps27
  go_wp2_with fail
  refine (HD.out _ HB.out).mono ?_
  intro e w2 hc
  have HC := Lib.hid (hc.before HB.out)
  obtain ⟨rfl, -⟩ := hc
  go_wp2_with fail
  go_ret
  exact HC.out
end
end Go.Proofs.Ytdnkeplmjimjcaa
/-
  'append([]T{}, x...)' of a slice that came in, whatever its length.
-/
namespace Go.Proofs.Ytdnkeplmjimjcaa
open Go.RowKit

section
variable {P : Program} {w : World} {o : Oper} {act : Act}
theorem op_copy_in {K : Act → World → Prop} {Q : Exit → Act → World → Prop} (s x : Operand) (t : TypeId)
    (ho : o.op = .call { callee := .builtin .append, args := #[s, x], argTypes := #[t, t] })
    (base : Nat) (e : TypeId) (z : Value) (size bytes : Nat) (ht : P.underlying t = some (.slice e)) (hi : (P.info? e).map (fun i => (i.zero, i.size, i.bytes)) = some (some z, size, bytes)) (hzs : z.cells.size = size) (hsz : 0 < size)
    (v : Value) (hs : act.eval s = v) (hown : w.ownsRow base e size v 0 [])
    (ao : Option Addr) (m c : Nat) (ys : List Value) (hx : act.eval x = .slice ao m c) (hl : ys.length = m * size) (hy : ∀ ad, ao = some ad → ∀ j u, ys[j]? = some u → w.cell? (ad.add j) = some u) (h1 : ∀ u ∈ ys, u.oneCell' = true) (hnone : ao = none → m = 0 ∧ c = 0)
    (hm : m ≤ 9223372036854775807) (hroom : m * bytes ≤ 140737488355328) (hbase : base ≤ w.heap.size)
    (h : ∀ a' cap' w', w'.ownsRow base e size (.slice a' m cap') m ys → w.grownBy w' v.ownBlock → K (act.put o.dst (.slice a' m cap')) w') : o.wp P act w K Q := by
  obtain ⟨i, hi0, hz, hs1, hb1⟩ := info_parts hi
  have fin : ∀ v' w', w'.ownsRow base e size v' m ys → w.grownBy w' v.ownBlock → K (act.put o.dst v') w' := by
    intro v' w' h1 h2
    obtain ⟨a', cap', rfl, _⟩ := own_slice h1
    exact h a' cap' w' h1 h2
  cases ao with
  | none =>
    obtain ⟨rfl, rfl⟩ := hnone rfl
    have hys : ys = [] := List.eq_nil_of_length_eq_zero (by rw [hl]; simp)
    subst hys
    have hrun := run_append_owned_none (P := P) (w := w) base t o.type e i size ht hi0 v 0 [] hown
    unfold Oper.wp
    simp [execOp, ho, resolve, invoke, builtin, hs, hx, hrun, Result.andThen]
    exact fin v w hown ⟨rfl, rfl, rfl, Nat.le_refl _, fun _ _ _ => rfl⟩
  | some ad =>
    refine wp_append_own w s x t ho base e i _ size bytes ht hi0 hz hs1 hb1 hzs hsz v 0 [] hs hown ad m c ys hx hl (hy ad rfl) h1 (by unfold maxLen; omega) (by rw [Nat.zero_add]; exact hroom) hbase ?_
    intro v' w' h1 h2 _
    rw [Nat.zero_add, List.nil_append] at h1
    exact fin v' w' h1 h2
theorem wp_copy_in {ops : Array Oper} {rest : List Oper} {Q : Exit → Act → World → Prop} (hgd : o.guard = none) (s x : Operand) (t : TypeId)
    (ho : o.op = .call { callee := .builtin .append, args := #[s, x], argTypes := #[t, t] })
    (base : Nat) (e : TypeId) (z : Value) (size bytes : Nat) (ht : P.underlying t = some (.slice e)) (hi : (P.info? e).map (fun i => (i.zero, i.size, i.bytes)) = some (some z, size, bytes)) (hzs : z.cells.size = size) (hsz : 0 < size)
    (v : Value) (hs : act.eval s = v) (hown : w.ownsRow base e size v 0 [])
    (ao : Option Addr) (m c : Nat) (ys : List Value) (hx : act.eval x = .slice ao m c) (hl : ys.length = m * size) (hy : ∀ ad, ao = some ad → ∀ j u, ys[j]? = some u → w.cell? (ad.add j) = some u) (h1 : ∀ u ∈ ys, u.oneCell' = true) (hnone : ao = none → m = 0 ∧ c = 0)
    (hm : m ≤ 9223372036854775807) (hroom : m * bytes ≤ 140737488355328) (hbase : base ≤ w.heap.size)
    (h : ∀ a' cap' w', w'.ownsRow base e size (.slice a' m cap') m ys → w.grownBy w' v.ownBlock → wpList P ops Q rest (act.put o.dst (.slice a' m cap')) w') : wpList P ops Q (o :: rest) act w :=
  wpList_plain hgd fun _ hK => op_copy_in s x t ho base e z size bytes ht hi hzs hsz v hs hown ao m c ys hx hl hy h1 hnone hm hroom hbase fun a' cap' w' h2 h3 => hK _ _ (h a' cap' w' h2 h3)
theorem step_copy_in {ops : Array Oper} {K : Act → World → Prop} {Q : Exit → Act → World → Prop} {E : Prop} (hgd : o.guard = none) (s x : Operand) (t : TypeId)
    (ho : o.op = .call { callee := .builtin .append, args := #[s, x], argTypes := #[t, t] })
    (base : Nat) (e : TypeId) (z : Value) (size bytes : Nat) (ht : P.underlying t = some (.slice e)) (hi : (P.info? e).map (fun i => (i.zero, i.size, i.bytes)) = some (some z, size, bytes)) (hzs : z.cells.size = size) (hsz : 0 < size)
    (v : Value) (hs : act.eval s = v) (hown : w.ownsRow base e size v 0 [])
    (ao : Option Addr) (m c : Nat) (ys : List Value) (hx : act.eval x = .slice ao m c) (hl : ys.length = m * size) (hy : ∀ ad, ao = some ad → ∀ j u, ys[j]? = some u → w.cell? (ad.add j) = some u) (h1 : ∀ u ∈ ys, u.oneCell' = true) (hnone : ao = none → m = 0 ∧ c = 0)
    (hm : m ≤ 9223372036854775807) (hroom : m * bytes ≤ 140737488355328) (hbase : base ≤ w.heap.size)
    (h : ∀ a' cap' w', w'.ownsRow base e size (.slice a' m cap') m ys → w.grownBy w' v.ownBlock → K (act.put o.dst (.slice a' m cap')) w') :
    if Region.wanted o (yielded ops act.tmps) = true then Oper.wp P o act w K Q else E := by
  have hw : Region.wanted o (yielded ops act.tmps) = true := by simp [Region.wanted, hgd]
  rw [if_pos hw]
  exact op_copy_in s x t ho base e z size bytes ht hi hzs hsz v hs hown ao m c ys hx hl hy h1 hnone hm hroom hbase h
end
/-- A row without elements, newly made. -/
theorem own_empty (w : World) (base : Nat) (e : TypeId) (size : Nat) (hb : base ≤ w.heap.size) : (w.alloc (.cells #[] e)).ownsRow base e size (.slice (some ⟨w.heap.size, 0, none⟩) 0 0) 0 [] :=
  ⟨by simp, .inr ⟨w.heap.size, 0, #[], rfl, hb, heap_alloc_new w _, Nat.le_refl _, by simp, by simp⟩⟩
end Go.Proofs.Ytdnkeplmjimjcaa
/-
  New, Len, Get.
-/
namespace Go.Proofs.Ytdnkeplmjimjcaa
open Go.RowKit

abbrev U8 := 5
abbrev BYS := 35
def dtL (d : Nat → Nat) : List Nat := (List.range 64).map d
theorem dtL_len (d : Nat → Nat) : (dtL d).length = 64 := by simp [dtL]
theorem dtL_cells (d : Nat → Nat) (j : Nat) (u : Value) (h : (cellsB (dtL d))[j]? = some u) : j < 64 ∧ u = .int .u8 ((d j : Nat) : Int) := by
  have hj : j < 64 := by
    have := (List.getElem?_eq_some_iff.1 h).1
    rw [cellsB_length, dtL_len] at this
    exact this
  refine ⟨hj, ?_⟩
  rw [cellsB_get _ _ (by rw [dtL_len]; exact hj)] at h
  cases h
  simp [dtL, List.getD_eq_getElem?_getD, hj]
theorem info_u8c : (Try.prog.info? U8).map (fun i => (i.zero, i.size, i.bytes)) = some (some (.int .u8 0), 1, 1) := by kernel_rfl
theorem cellsB_oneC (l : List Nat) : ∀ u ∈ cellsB l, u.oneCell' = true := fun u hu => by
  unfold cellsB at hu
  obtain ⟨x, _, rfl⟩ := List.mem_map.1 hu
  rfl
section
variable {w w' : World} {bc bm base b : Nat} {room uses : Int} {N T T' : Nat} {x : Sx} {a : Int} {s : Bf} {v : Value} {p : Int × Int} {L L' : List Bk}
theorem CA.len (h : CA w bc bm base room N T L) : ∃ n f ks uses v, KM w bm n f ks ∧ ks.length = L.length ∧ CB w bc bm room uses v := by
  obtain ⟨x, hC, rfl⟩ := h
  exact ⟨_, _, _, _, _, hC.km, by rw [hC.ps.len]; simp [lstK], hC.cb⟩
set_option maxHeartbeats 4000000 in
theorem len_any (h : CA w bc bm base room N T L) : Calls Try.prog 16 #[.pointer (some ⟨bc, 0, none⟩)] w fun e w' => e = .returned (.int .i64 (L.length : Nat)) ∧ w = w' := by
  obtain ⟨n, f, ks, uses, v, hK, hl, hC⟩ := h.len
  have k1 := hK.len 3
  rw [hl] at k1
  obtain ⟨-, c1, -, -⟩ := hC.cell
  clear hK hl hC h
  generalize L.length = z at *
  go_enter Try.func16, Try.ntmps16
  go_wp2_with fail
  go_ret
  exact ⟨rfl, rfl⟩
/-- A new cache. -/
structure NewC (w : World) (bc bm : Nat) (room : Int) : Prop where
  cb : CB w bc bm room 0 (.slice none 0 0)
  km : KM w bm 0 (fun _ => none) []
theorem NewC.out {X : Nat → Prop} (h : NewC w bc bm room) (ho : Out X w w') (h1 : ¬ X bc) (h2 : ¬ X bm) : NewC w' bc bm room := ⟨h.cb.out ho h1, h.km.out ho h2⟩
theorem NewC.ca (h : NewC w bc bm room) (h1 : 1 ≤ room) (h2 : room ≤ 4096) (h3 : base ≤ bc) (h4 : base ≤ bm) : CA w bc bm base room 0 0 [] :=
  ⟨⟨.slice none 0 0, 0, fun _ => 0, fun _ => ⟨0, 0, fun _ => 0, false, 0, 0⟩, 0, [], [], fun _ => none, 0⟩, ⟨h.cb, h.km, ⟨World.ownsRow_nil _ _ _ _, fun i hi => absurd hi (Nat.not_lt_zero _)⟩, fun j _ hj => absurd hj (Nat.not_lt_zero _), fun c hc => by simp at hc, fun c hc => by simp at hc, fun i hi => absurd hi (Nat.not_lt_zero _), ⟨List.Pairwise.nil, fun c hc => by simp at hc, fun c hc => by simp at hc, fun p b => by simp, rfl, fun c hc => by simp at hc, ⟨h1, h2, by simp; omega⟩, ⟨by simp, by simp⟩, Nat.le_refl _⟩, ⟨h3, h4, fun c hc => by simp at hc⟩⟩, rfl⟩
set_option maxHeartbeats 4000000 in
theorem new_any (h1 : 1 ≤ room) (h2 : room ≤ 4096) (w : World) : Calls Try.prog 9 #[.int .i64 room] w fun e w' => e = .returned (.tuple #[.pointer (some ⟨w.heap.size + 1, 0, none⟩), .int .i64 0]) ∧ NewC w' (w.heap.size + 1) w.heap.size room ∧ Below w.heap.size w w' := by
  have HE : Hid (NewC ((w.alloc (.map #[] 0)).alloc (.cells #[.int .i64 room, .map (some w.heap.size), .slice none 0 0, .int .i64 0] CT)) (w.heap.size + 1) w.heap.size room ∧ Below w.heap.size w ((w.alloc (.map #[] 0)).alloc (.cells #[.int .i64 room, .map (some w.heap.size), .slice none 0 0, .int .i64 0] CT))) := by
    have hs : (w.alloc (.map #[] 0)).heap.size = w.heap.size + 1 := by simp
    refine ⟨⟨?_, (KM.made w).later (sup_pc9 _ _)⟩, (sup_pc9 w _).alloc (by simp) _⟩
    have := blo_laid (w.alloc (.map #[] 0)) CT #[.int .i64 room, .map (some w.heap.size), .slice none 0 0, .int .i64 0]
    rw [hs] at this
    exact this
  have hmm : (Instr.makeMap KMT none).run Try.prog w = .ok (.map (some w.heap.size)) (w.alloc (.map #[] 0)) := rfl
  have g1 : ¬ room < 1 := by omega
  have g2 : ¬ room > 4096 := by omega
  go_enter Try.func9, Try.ntmps9
  go_wp2_with fail
  go_ret2
  exact ⟨rfl, HE.out⟩
theorem new_bad (h : room < 1 ∨ 4096 < room) (w : World) : Calls Try.prog 9 #[.int .i64 room] w fun e w' => e = .returned (.tuple #[.pointer none, .int .i64 22]) ∧ w = w' := by
  by_cases h1 : room < 1
  · go_enter Try.func9, Try.ntmps9
    go_wp2_with fail
    go_ret2
    exact ⟨rfl, rfl⟩
  · have h2 : room > 4096 := by omega
    go_enter Try.func9, Try.ntmps9
    go_wp2_with fail
    go_ret2
    exact ⟨rfl, rfl⟩
/-- slices.Clone of a buffer's bytes. -/
theorem clone_any (hB : BufO w b s a) : Calls Try.prog 37 #[.slice (some ⟨b, 2, none⟩) 64 64] w fun e w' => ∃ a' cap', e = .returned (.slice a' 64 cap') ∧ w'.ownsRow w.heap.size U8 1 (.slice a' 64 cap') 64 (cellsB (dtL s.data)) ∧ Below w.heap.size w w' := by
  obtain ⟨cs, hb, hc⟩ := hB
  have HSrc : Hid (∀ ad, some (⟨b, 2, none⟩ : Addr) = some ad → ∀ j u, (cellsB (dtL s.data))[j]? = some u → (w.alloc (.cells #[] U8)).cell? (ad.add j) = some u) := fun ad e j u hj => by
    cases e
    obtain ⟨h1, rfl⟩ := dtL_cells _ _ _ hj
    rw [Addr.add_lit, (hb.alloc _).cell]
    exact hc.dat j h1
  have HLen : Hid ((cellsB (dtL s.data)).length = 64 * 1) := by show _ = 64 * 1; rw [cellsB_length, dtL_len]
  have qN : ∀ (w : World) (a : Option Addr) (n c : Nat), (binOp .eql BYS (.slice a n c) (.slice none 0 0)).run Try.prog w = .ok (.bool a.isNone) w := fun w a n c => Lib.run_eql_slice_nil w _ _ a n c 0 0 Try.underlying35
  have HAl := Lib.hid (sup_pc9 w (.cells #[] U8))
  clear hb hc
  generalize dtL s.data = l at *
  go_enter Try.func37, Try.ntmps37
  go_wp2_with (at_builtin; refine wp_copy_in rfl (.tmp 5) (.tmp 6) BYS rfl w.heap.size U8 (.int .u8 0) 1 1 Try.underlying35 info_u8c rfl (by decide) (.slice (some ⟨w.heap.size, 0, none⟩) 0 0) rfl (own_empty w w.heap.size U8 1 (Nat.le_refl _)) (some ⟨b, 2, none⟩) 64 64 (cellsB l) rfl HLen.out HSrc.out (cellsB_oneC _) (fun h => by cases h) (by omega) (by omega) (by simp) ?_; intro a5 c5 w3 hown hgrow; have HO3 := Lib.hid hown; have HB3 : Hid (Below w.heap.size w w3) := HAl.out.grown hgrow HAl.out.size (fun q hq => by simp [Value.ownBlock] at hq; omega); clear hown hgrow)
  go_ret
  exact ⟨a5, c5, rfl, HO3.out, HB3.out⟩
/-- A buffer is used. -/
theorem use_ls (hC : CS w bc bm base room N T x) (hb : b ∈ x.bs) (hT : T ≤ 4000000000000000000) :
    Calls Try.prog 35 #[.pointer (some ⟨bc, 0, none⟩), .pointer (some ⟨b, 0, none⟩)] w fun e w' => e = .returned (.tuple #[]) ∧ ∃ a x', LS w' bc bm base room N (T + 1) x' b a ∧ b ∈ x'.bs ∧ lstK x'.S x'.bs = woK (lstK x.S x.bs) (keyB (x.S b)) ++ [bk (x.S b)] ∧ (x'.S b).data = (x.S b).data ∧ Out (XC w bc bm base) w w' := by
  obtain ⟨a, hB, hL⟩ := hC.loose hb
  have hu := hC.ps.us
  have hN := hC.ps.nodup
  refine (use_any hC.cb hB hu.1 (by omega)).mono ?_
  rintro e w' ⟨rfl, hCB, hB', ho⟩
  refine ⟨rfl, a, _, hL w' { x.S b with used := x.uses + 1 } (x.uses + 1) (x.bs.erase b ++ [b]) (T + 1) hB' hCB ho (hC.ps.use hb rfl rfl rfl (Nat.le_refl _)) (fun c => ?_), ?_, ?_, ?_, ho.mono fun g _ h => xc_b hB hC.low.1 (hC.low.2.2 b hb) h⟩
  · rw [List.mem_append, hN.mem_erase_iff, List.mem_singleton]
    by_cases e : c = b
    · rw [e]; simp [hb]
    · simp [e]
  · show b ∈ x.bs.erase b ++ [b]
    simp
  · exact lst_use hC.ps hb _
  · show (upn x.S b _ b).data = _
    rw [upn_at]
/-- The blocks behind Get, and what is answered. -/
def getK (L : List Bk) (p : Int × Int) : List Bk × Option (Nat → Nat) :=
  match findK L p with
  | none => (L, none)
  | some s => (woK L p ++ [s], some s.data)
def GeO (w : World) (bc bm base : Nat) (room : Int) (N T : Nat) (L : List Bk) (p : Int × Int) (e : Ending) (w' : World) : Prop :=
  CA w' bc bm base room N T (getK L p).1 ∧ Out (XC w bc bm base) w w' ∧
    ((getK L p).2 = none ∧ e = .returned (.tuple #[.slice none 0 0, .bool false]) ∨
      ∃ d g cap', (getK L p).2 = some d ∧ e = .returned (.tuple #[.slice (some ⟨g, 0, none⟩) 64 cap', .bool true]) ∧ w'.ownsRow w.heap.size U8 1 (.slice (some ⟨g, 0, none⟩) 64 cap') 64 (cellsB (dtL d)))
set_option maxRecDepth 100000 in
set_option maxHeartbeats 4000000 in
theorem get_any (h : CA w bc bm base room N T L) (hp : wfK p) (hT : T ≤ 4000000000000000000) :
    Calls Try.prog 22 #[.pointer (some ⟨bc, 0, none⟩), keyV p] w (GeO w bc bm base room N (T + 1) L p) := by
  obtain ⟨ki, kl⟩ := p
  cases hf : findK L (ki, kl) with
  | none =>
    have e : getK L (ki, kl) = (L, none) := by unfold getK; rw [hf]
    have HE : Hid (∀ w', Below w.heap.size w w' → GeO w bc bm base room N (T + 1) L (ki, kl) (.returned (.tuple #[.slice none 0 0, .bool false])) w') := fun w' hb => by
      unfold GeO
      rw [e]
      exact ⟨(h.later hb).mono (Nat.le_refl _) (by omega), Out.of_below hb, .inl ⟨rfl, rfl⟩⟩
    obtain ⟨x, hC, rfl⟩ := h
    rw [find_lst hC.ps] at hf
    have hf : x.f (ki, kl) = none := by simpa using hf
    obtain ⟨-, d1, -, -⟩ := hC.cb.cell
    obtain ⟨w1, hw1⟩ : ∃ w1, w1 = w.alloc (.cells #[.int .i64 ki, .int .i64 kl] KT) := ⟨_, rfl⟩
    have HB1 : Hid (Below w.heap.size w w1) := by rw [hw1]; exact sup_pc9 w _
    have hX : Blo w1 w.heap.size KT #[.int .i64 ki, .int .i64 kl] := by rw [hw1]; exact blo_laid w _ _
    have c0 : ∀ y : Kept w1, y.at_.cell? ⟨w.heap.size, 0, none⟩ = some (.int .i64 ki) := fun y => cell_later y.below (Blo.cell hX 0)
    have c1 : ∀ y : Kept w1, y.at_.cell? ⟨w.heap.size, 1, none⟩ = some (.int .i64 kl) := fun y => cell_later y.below (Blo.cell hX 1)
    have c2 : ∀ y : Kept w1, y.at_.cell? ⟨bc, 1, none⟩ = some (.map (some bm)) := fun y => cell_later y.below (cell_later HB1.out d1)
    have k1 : ∀ y : Kept w1, (Instr.lookup KMT (.map (some bm)) (.agg #[.int .i64 ki, .int .i64 kl]) true).run Try.prog y.at_ = .ok (.tuple #[.pointer none, .bool false]) y.at_ := fun y => by
      have := (hC.km.later (HB1.out.trans (y.below.mono HB1.out.size))).look_ok hp
      rw [hf] at this
      exact this
    clear hC hp hf hX d1 e
    unfold keyV
    go_enter Try.func22, Try.ntmps22
    go_upto_region 1 with (fail)
    rw [← hw1]
    clear hw1
    obtain ⟨g0, hg0⟩ : ∃ g0, w.heap.size = g0 := ⟨_, rfl⟩
    rw [hg0] at c0 c1 ⊢
    refine wp_region_kept (by kernel_rfl) (by kernel_rfl) ?_
    repeat (go_big_quiet_step (fail))
    refine wpQuiet_nil ?_
    rintro W2 ⟨w2, rfl⟩
    have HE2 := Lib.hid (HE.out _ (HB1.out.trans (w2.below.mono HB1.out.size)))
    clear c0 c1 c2 k1 HE
    go_wp2_with fail
    go_ret2
    exact HE2.out
  | some s =>
    obtain ⟨x, b, hC, rfl, hq, rfl, hb, hpb⟩ := do_some h hf
    have e : getK (lstK x.S x.bs) (ki, kl) = (woK (lstK x.S x.bs) (keyB (x.S b)) ++ [bk (x.S b)], some (x.S b).data) := by unfold getK; rw [hf, hpb]; rfl
    obtain ⟨-, d1, -, -⟩ := hC.cb.cell
    obtain ⟨w1, hw1⟩ : ∃ w1, w1 = w.alloc (.cells #[.int .i64 ki, .int .i64 kl] KT) := ⟨_, rfl⟩
    have HB1 : Hid (Below w.heap.size w w1) := by rw [hw1]; exact sup_pc9 w _
    have hX : Blo w1 w.heap.size KT #[.int .i64 ki, .int .i64 kl] := by rw [hw1]; exact blo_laid w _ _
    have c0 : ∀ y : Kept w1, y.at_.cell? ⟨w.heap.size, 0, none⟩ = some (.int .i64 ki) := fun y => cell_later y.below (Blo.cell hX 0)
    have c1 : ∀ y : Kept w1, y.at_.cell? ⟨w.heap.size, 1, none⟩ = some (.int .i64 kl) := fun y => cell_later y.below (Blo.cell hX 1)
    have c2 : ∀ y : Kept w1, y.at_.cell? ⟨bc, 1, none⟩ = some (.map (some bm)) := fun y => cell_later y.below (cell_later HB1.out d1)
    have k1 : ∀ y : Kept w1, (Instr.lookup KMT (.map (some bm)) (.agg #[.int .i64 ki, .int .i64 kl]) true).run Try.prog y.at_ = .ok (.tuple #[.pointer (some ⟨b, 0, none⟩), .bool true]) y.at_ := fun y => by
      have := (hC.km.later (HB1.out.trans (y.below.mono HB1.out.size))).look_ok hp
      rw [hq] at this
      exact this
    have HC := Lib.hid hC
    have HI := Lib.hid hb
    have HEq := Lib.hid e
    clear hC hp hf hX d1 e hq hb hpb h
    unfold keyV
    go_enter Try.func22, Try.ntmps22
    go_upto_region 1 with (fail)
    rw [← hw1]
    clear hw1
    obtain ⟨g0, hg0⟩ : ∃ g0, w.heap.size = g0 := ⟨_, rfl⟩
    rw [hg0] at c0 c1 ⊢
    refine wp_region_kept (by kernel_rfl) (by kernel_rfl) ?_
    repeat (go_big_quiet_step (fail))
    refine wpQuiet_nil ?_
    rintro W2 ⟨w2, rfl⟩
    have HB2 := Lib.hid (HB1.out.trans (w2.below.mono HB1.out.size))
    have HC2 := Lib.hid (HC.out.later HB2.out)
    clear c0 c1 c2 k1 HC
    go_wp2_with fail
    refine (use_ls HC2.out HI.out hT).mono ?_
    rintro e w3 ⟨rfl, a, x', hL, hin, hlst, hdat, ho⟩
    have HO := Lib.hid (outC_trans (Out.of_below HB2.out) ho)
    have HPl := Lib.hid (place_any hL hL.blt)
    have HIn := Lib.hid hin
    have HLs := Lib.hid hlst
    have HDt := Lib.hid hdat
    clear hL ho hin hlst hdat HC2
    go_wp2_with fail
    refine HPl.out.mono ?_
    rintro e w4 ⟨rfl, v', m', h', hC, ho⟩
    have HO4 := Lib.hid (outC_trans HO.out ho)
    have HC4 := Lib.hid hC
    obtain ⟨a4, hB4⟩ := hC.buf (show b ∈ Sx.bs _ from HIn.out)
    have HCl := Lib.hid (clone_any hB4)
    clear HPl hC ho HO HB2 hB4
    go_wp2_with fail
    refine HCl.out.mono ?_
    rintro e w5 ⟨a', cap', rfl, hown, hb⟩
    have HE : Hid (GeO w bc bm base room N (T + 1) (lstK x.S x.bs) (ki, kl) (.returned (.tuple #[.slice a' 64 cap', .bool true])) w5) := by
      unfold GeO
      rw [HEq.out]
      obtain ⟨g, rfl⟩ : ∃ g, a' = some ⟨g, 0, none⟩ := by
        rcases hown.2 with ⟨q, _⟩ | ⟨g, c, cur, q, _⟩
        · cases q
        · cases q; exact ⟨g, rfl⟩
      refine ⟨⟨_, HC4.out.later hb, HLs.out.symm⟩, outC_trans HO4.out (Out.of_below hb), .inr ⟨_, g, cap', rfl, rfl, ?_⟩⟩
      have := hown
      rw [show dtL (x'.S b).data = dtL (x.S b).data by rw [HDt.out]] at this
      refine ⟨this.1, ?_⟩
      rcases this.2 with q | ⟨g', c, cur, q, q2, q3⟩
      · exact .inl q
      · exact .inr ⟨g', c, cur, q, Nat.le_trans HO4.out.size q2, q3⟩
    clear HCl hown hb HC4 HO4 HLs HDt HEq HIn
    go_wp2_with fail
    go_ret2
    exact HE.out
end
end Go.Proofs.Ytdnkeplmjimjcaa
