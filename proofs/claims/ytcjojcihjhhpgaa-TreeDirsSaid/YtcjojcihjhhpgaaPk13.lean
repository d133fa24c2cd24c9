/-
  TrRt · TrLx · TrAwk · TrAwake: these texts in one.
-/
import Derived.Test.YtcjojcihjhhpgaaPk12
/-
  A tree whose root alone has entries, told by functions: kinds, numbers of names, entries.
-/
namespace Go.Proofs.Ytcjojcihjhhpgaa
open Go.RowKit

structure RT (T : Tr) (n : Nat) (k L : Nat → Int) (f : ByteArray → Option Nat) : Prop where
  n : T.n = n
  K : T.K = k
  L : ∀ j, k j ≠ 0 → T.Lk j = L j
  E : T.E 2 = f
  b : ∀ j, j ≠ 2 → ∀ s, T.E j s = none
  r : k 2 = 2
def leastF (n : Nat) (k : Nat → Int) : Option Nat := (List.range (n + 1)).find? fun i => decide (2 ≤ i ∧ k i = 0)
section
variable {T : Tr} {n i : Nat} {k L : Nat → Int} {f : ByteArray → Option Nat} {s x old y : ByteArray} {q : Int}
theorem leastF_of (h2 : 2 ≤ i) (hn : i ≤ n) (h0 : k i = 0) (hl : ∀ j, 2 ≤ j → j < i → k j ≠ 0) : leastF n k = some i := by
  unfold leastF
  rw [List.find?_eq_some_iff_getElem]
  refine ⟨decide_eq_true ⟨h2, h0⟩, i, by rw [List.length_range]; omega, by simp, fun j hj => ?_⟩
  rw [List.getElem_range]
  simp only [Bool.not_eq_true', decide_eq_false_iff_not]
  exact fun q => hl j q.1 hj q.2
theorem leastF_none (h : ∀ j, 2 ≤ j → j ≤ n → k j ≠ 0) : leastF n k = none := by
  unfold leastF
  rw [List.find?_eq_none]
  intro j hj
  rw [List.mem_range] at hj
  simp only [decide_eq_true_eq]
  exact fun q => h j q.1 (by omega) q.2
theorem leastF_ok (h : leastF n k = some i) : 2 ≤ i ∧ i ≤ n ∧ k i = 0 := by
  unfold leastF at h
  have h1 := List.find?_some h
  have h2 := List.mem_of_find?_eq_some h
  rw [List.mem_range] at h2
  have h1 : decide (2 ≤ i ∧ k i = 0) = true := h1
  rw [decide_eq_true_eq] at h1
  exact ⟨h1.1, by omega, h1.2⟩
theorem RT.least (h : RT T n k L f) : leastI T = leastF n k := by unfold leastI leastF; rw [h.n, h.K]
theorem RT.root (h : RT T n k L f) : T.K 2 = 2 := by rw [h.K]; exact h.r
theorem RT.ent (h : RT T n k L f) : T.E 2 x = f x := congrFun h.E x
theorem RT.new {n : Nat} : RT (tree0 n) n (updN (fun _ => 0) 2 2) (updN (fun _ => 0) 2 1) (fun _ => none) :=
  ⟨rfl, rfl, fun _ _ => rfl, rfl, fun _ _ _ => rfl, rfl⟩
theorem RT.enter (h : RT T n k L f) (hl : leastF n k = some i) : ∃ T', enterK T 2 x q = (T', (i : Int), 0) ∧ RT T' n (updN k i q) (updN L i 1) (updS f x (some i)) := by
  have hi := leastF_ok hl
  have hi2 : i ≠ 2 := fun e => by rw [e, h.r] at hi; exact absurd hi.2.2 (by decide)
  refine ⟨(T.add i q).ent 2 x (some i), by unfold enterK; rw [h.least, hl], h.n, ?_, fun j hj => ?_, ?_, fun j hj s => ?_, ?_⟩
  · show updN T.K i q = updN k i q
    rw [h.K]
  · show updN T.Lk i 1 j = updN L i 1 j
    by_cases e : j = i
    · subst e; rw [updN_at, updN_at]
    · rw [updN_ne _ _ e] at hj
      rw [updN_ne _ _ e, updN_ne _ _ e]
      exact h.L j hj
  · show updN (updN T.E i (fun _ => none)) 2 (updS (updN T.E i (fun _ => none) 2) x (some i)) 2 = _
    rw [updN_at, updN_ne _ _ (Ne.symm hi2), h.E]
  · show updN (updN T.E i (fun _ => none)) 2 (updS (updN T.E i (fun _ => none) 2) x (some i)) j s = none
    rw [updN_ne _ _ hj]
    by_cases e : j = i
    · subst e; rw [updN_at]
    · rw [updN_ne _ _ e]; exact h.b j hj s
  · rw [updN_ne _ _ (Ne.symm hi2)]; exact h.r
theorem RT.enter_full (h : RT T n k L f) (hl : leastF n k = none) : enterK T 2 x q = (T, 0, 23) := by unfold enterK; rw [h.least, hl]
theorem RT.create (h : RT T n k L f) (hp : P1 s x) (hx : f x = none) (hl : leastF n k = some i) : ∃ T', createK T s = (T', (i : Int), 0) ∧ RT T' n (updN k i 1) (updN L i 1) (updS f x (some i)) := by
  rw [create1 hp h.root (h.ent.trans hx)]
  exact h.enter hl
theorem RT.mkdir (h : RT T n k L f) (hp : P1 s x) (hx : f x = none) (hl : leastF n k = some i) : ∃ T', mkdirK T s = (T', (i : Int), 0) ∧ RT T' n (updN k i 2) (updN L i 1) (updS f x (some i)) := by
  rw [mkdir1 hp h.root (h.ent.trans hx)]
  exact h.enter hl
theorem RT.mkdir_full (h : RT T n k L f) (hp : P1 s x) (hx : f x = none) (hl : leastF n k = none) : mkdirK T s = (T, 0, 23) := by
  rw [mkdir1 hp h.root (h.ent.trans hx)]
  exact h.enter_full hl
theorem RT.drop (h : RT T n k L f) (hk : k i ≠ 0) (hi2 : i ≠ 2) : RT (dropK T 2 x i) n (if L i = 1 then updN k i 0 else k) (updN L i (L i - 1)) (updS f x none) := by
  have hL := h.L i hk
  unfold dropK cutN
  show RT (if T.Lk i = 1 then _ else _) _ _ _ _
  rw [hL]
  have e2 : updN T.E 2 (updS (T.E 2) x none) 2 = updS f x none := by rw [updN_at, h.E]
  by_cases h1 : L i = 1
  · rw [if_pos h1, if_pos h1]
    refine ⟨h.n, ?_, fun j hj => ?_, ?_, fun j hj s => ?_, ?_⟩
    · show updN T.K i 0 = updN k i 0
      rw [h.K]
    · have e : j ≠ i := fun e => by rw [e, updN_at] at hj; exact hj rfl
      rw [updN_ne _ _ e] at hj ⊢
      exact h.L j hj
    · show updN (updN T.E 2 (updS (T.E 2) x none)) i (fun _ => none) 2 = _
      rw [updN_ne _ _ (Ne.symm hi2)]
      exact e2
    · show updN (updN T.E 2 (updS (T.E 2) x none)) i (fun _ => none) j s = none
      by_cases e : j = i
      · subst e; rw [updN_at]
      · rw [updN_ne _ _ e, updN_ne _ _ hj]; exact h.b j hj s
    · rw [updN_ne _ _ (Ne.symm hi2)]; exact h.r
  · rw [if_neg h1, if_neg h1]
    refine ⟨h.n, h.K, fun j hj => ?_, e2, fun j hj s => ?_, h.r⟩
    · show updN T.Lk i (T.Lk i - 1) j = updN L i (L i - 1) j
      by_cases e : j = i
      · subst e; rw [updN_at, updN_at, hL]
      · rw [updN_ne _ _ e, updN_ne _ _ e]; exact h.L j hj
    · show updN T.E 2 (updS (T.E 2) x none) j s = none
      rw [updN_ne _ _ hj]; exact h.b j hj s
theorem RT.unlink (h : RT T n k L f) (hp : P1 s x) (hx : f x = some i) (hk : k i = 1) : ∃ T', unlinkK T s = (T', 0) ∧ RT T' n (if L i = 1 then updN k i 0 else k) (updN L i (L i - 1)) (updS f x none) := by
  have hi2 : i ≠ 2 := fun e => by rw [e, h.r] at hk; exact absurd hk (by decide)
  exact ⟨_, unlink1 hp h.root (h.ent.trans hx) (by rw [h.K]; exact hk), h.drop (by omega) hi2⟩
theorem RT.unlink_none (h : RT T n k L f) (hp : P1 s x) (hx : f x = none) : unlinkK T s = (T, 2) := rm1_none hp h.root (h.ent.trans hx) _
theorem RT.rmdir (h : RT T n k L f) (hp : P1 s x) (hx : f x = some i) (hk : k i = 2) (hi2 : i ≠ 2) : ∃ T', rmdirK T s = (T', 0) ∧ RT T' n (if L i = 1 then updN k i 0 else k) (updN L i (L i - 1)) (updS f x none) :=
  ⟨_, rmdir1 hp h.root (h.ent.trans hx) (by rw [h.K]; exact hk) (h.b i hi2), h.drop (by omega) hi2⟩
theorem RT.link (h : RT T n k L f) (h0 : P1 old y) (hp : P1 s x) (hy : f y = some i) (hk : k i = 1) (hx : f x = none) (hL : L i ≠ 100) : ∃ T', linkK T old s = (T', 0) ∧ RT T' n k (updN L i (L i + 1)) (updS f x (some i)) := by
  have hLk := h.L i (by omega)
  refine ⟨(T.ent 2 x (some i)).lks i (T.Lk i + 1), by rw [link1 h0 hp h.root (h.ent.trans hy) (by rw [h.K]; exact hk) (h.ent.trans hx), if_neg (by rw [hLk]; exact hL)], h.n, h.K, fun j hj => ?_, ?_, fun j hj s => ?_, h.r⟩
  · show updN T.Lk i (T.Lk i + 1) j = updN L i (L i + 1) j
    by_cases e : j = i
    · subst e; rw [updN_at, updN_at, hLk]
    · rw [updN_ne _ _ e, updN_ne _ _ e]; exact h.L j hj
  · show updN T.E 2 (updS (T.E 2) x (some i)) 2 = _
    rw [updN_at, h.E]
  · show updN T.E 2 (updS (T.E 2) x (some i)) j s = none
    rw [updN_ne _ _ hj]; exact h.b j hj s
theorem RT.link_full (h : RT T n k L f) (h0 : P1 old y) (hp : P1 s x) (hy : f y = some i) (hk : k i = 1) (hx : f x = none) (hL : L i = 100) : linkK T old s = (T, 31) := by
  rw [link1 h0 hp h.root (h.ent.trans hy) (by rw [h.K]; exact hk) (h.ent.trans hx), if_pos (by rw [h.L i (by omega)]; exact hL)]
theorem RT.stat (h : RT T n k L f) (hp : P1 s x) (hx : f x = some i) : statK T s = (statA T i, 0) := stat1 hp h.root (h.ent.trans hx)
theorem updS_back (h : f x = some i) {v : Option Nat} : updS (updS f x v) x (some i) = f := by
  funext z
  by_cases e : z = x
  · subst e; rw [updS_at, h]
  · rw [updS_ne _ _ e, updS_ne _ _ e]
theorem updS_gone (h : f x = none) {v : Option Nat} : updS (updS f x v) x none = f := by
  funext z
  by_cases e : z = x
  · subst e; rw [updS_at, h]
  · rw [updS_ne _ _ e, updS_ne _ _ e]
theorem updN_back {α : Type} {g : Nat → α} {v : α} : updN (updN g i v) i (g i) = g := by
  funext z
  by_cases e : z = i
  · subst e; rw [updN_at]
  · rw [updN_ne _ _ e, updN_ne _ _ e]
end
/-! The names of the laws' files. -/
def nmI (i : Nat) : ByteArray := ⟨#[UInt8.ofNat (97 + i / 10), UInt8.ofNat (48 + i % 10)]⟩
def ptI (i : Nat) : ByteArray := slA ++ nmI i
def nmM : ByteArray := ⟨#[109, 111, 114, 101]⟩
def ptM : ByteArray := ⟨#[47, 109, 111, 114, 101]⟩
set_option maxRecDepth 100000 in
theorem ptI_all : ∀ i : Fin 100, spE (ptI i) = 0 ∧ nml (ptI i) = [nmI i] ∧ dirB (ptI i) = false := by decide +kernel
set_option maxRecDepth 100000 in
theorem nmI_all : ∀ i j : Fin 100, nmI i = nmI j → i = j := by decide +kernel
theorem ptI_one {i : Nat} (h : i < 100) : P1 (ptI i) (nmI i) := have q := ptI_all ⟨i, h⟩; ⟨q.1, q.2.1, q.2.2⟩
theorem nmI_inj {i j : Nat} (hi : i < 100) (hj : j < 100) (h : nmI i = nmI j) : i = j := congrArg Fin.val (nmI_all ⟨i, hi⟩ ⟨j, hj⟩ h)
theorem ptM_one : P1 ptM nmM := ⟨by decide +kernel, by decide +kernel, by decide +kernel⟩
theorem nmI_ne (i : Nat) : nmI i ≠ nmM := fun e => by
  have := congrArg ByteArray.size e
  exact absurd this (by decide : (2 : Nat) ≠ 4)
end Go.Proofs.Ytcjojcihjhhpgaa
/-
  A tree that lies in memory of the call's own, beside blocks of the call's own: each call as a law uses it.
-/
namespace Go.Proofs.Ytcjojcihjhhpgaa
open Go.RowKit

/-- A tree at bt, made since w0; N are other blocks made since. -/
structure Lx (w0 w : World) (cnt : Nat) (T : Tr) (bt : Nat) (N : Nat → Prop) : Prop where
  b : Below w0.heap.size w0 w
  t : TrT T
  n : ∀ g, N g → w0.heap.size ≤ g ∧ g < w.heap.size
  m : ∃ p, p.bt = bt ∧ TrM w cnt T p ∧ ∀ g, XT T p g → w0.heap.size ≤ g ∧ ¬ N g
/-- What a call may change. -/
def XN (w0 : World) (N : Nat → Prop) (g : Nat) : Prop := w0.heap.size ≤ g ∧ ¬ N g
def LxE (w0 w : World) (cnt : Nat) (T' : Tr) (bt : Nat) (N : Nat → Prop) (z : Int) (e : Ending) (w' : World) : Prop := e = .returned (.int .i64 z) ∧ Lx w0 w' (cnt + 1) T' bt N ∧ Out (XN w0 N) w w'
def LxO (w0 w : World) (cnt : Nat) (T' : Tr) (bt : Nat) (N : Nat → Prop) (a z : Int) (e : Ending) (w' : World) : Prop := e = .returned (.tuple #[.int .i64 a, .int .i64 z]) ∧ Lx w0 w' (cnt + 1) T' bt N ∧ Out (XN w0 N) w w'
section
variable {w0 w w' : World} {cnt cnt' bt : Nat} {T T' : Tr} {p p' : Pl} {N N' : Nat → Prop} {s old : ByteArray} {a z : Int}
theorem Lx.go (h : Lx w0 w cnt T bt N) (hx : ∀ g, XT T p g → w0.heap.size ≤ g ∧ ¬ N g) (hp : p.bt = bt) (hg : TrG w T p w' cnt' T' p') (ht : TrT T') : Lx w0 w' cnt' T' bt N ∧ Out (XN w0 N) w w' := by
  refine ⟨⟨h.b.trans (hg.out.below h.b.size (fun g _ q => (hx g q).1)), ht, fun g hn => ⟨(h.n g hn).1, Nat.lt_of_lt_of_le (h.n g hn).2 hg.out.size⟩, p', hg.bt.trans hp, hg.m, fun g q => ?_⟩, hg.out.mono fun g _ q => hx g q⟩
  rcases hg.sub g q with q | q
  · exact hx g q
  · exact ⟨Nat.le_trans h.b.size q, fun hn => by have := (h.n g hn).2; omega⟩
/-- Other blocks of the call's own were made or written. -/
theorem Lx.own (h : Lx w0 w cnt T bt N) (ho : Out N w w') (hn : ∀ g, N' g → (N g ∨ w.heap.size ≤ g) ∧ g < w'.heap.size) : Lx w0 w' cnt T bt N' := by
  obtain ⟨p, hp, hm, hx⟩ := h.m
  refine ⟨h.b.trans (ho.below h.b.size (fun g _ q => (h.n g q).1)), h.t, fun g q => ⟨(hn g q).1.elim (fun e => (h.n g e).1) (fun e => Nat.le_trans h.b.size e), (hn g q).2⟩, p, hp, hm.out ho (fun g q => (hx g q).2), fun g q => ⟨(hx g q).1, fun e => ?_⟩⟩
  rcases (hn g e).1 with e | e
  · exact (hx g q).2 e
  · have := hm.lt q
    omega
theorem Lx.quiet (h : Lx w0 w cnt T bt N) (hb : Below w.heap.size w w') : Lx w0 w' cnt T bt N := h.own (Out.of_below hb) (fun g q => ⟨.inl q, Nat.lt_of_lt_of_le (h.n g q).2 hb.size⟩)
theorem Lx.create (h : Lx w0 w cnt T bt N) (hc : cnt < 1000000) (hr : createK T s = (T', a, z)) : Calls Try.prog 19 #[.pointer (some ⟨bt, 0, none⟩), .string s] w (LxO w0 w cnt T' bt N a z) := by
  obtain ⟨p, rfl, hm, hx⟩ := h.m
  have hk := create_keep h.t s
  have hC := create_any hm hc s
  rw [hr] at hk hC
  refine hC.mono ?_
  rintro e w' ⟨rfl, p', hg⟩
  exact ⟨rfl, h.go hx rfl hg hk⟩
theorem Lx.mkdir (h : Lx w0 w cnt T bt N) (hc : cnt < 1000000) (hr : mkdirK T s = (T', a, z)) : Calls Try.prog 28 #[.pointer (some ⟨bt, 0, none⟩), .string s] w (LxO w0 w cnt T' bt N a z) := by
  obtain ⟨p, rfl, hm, hx⟩ := h.m
  have hk := mkdir_keep h.t s
  have hC := mkdir_any hm hc s
  rw [hr] at hk hC
  refine hC.mono ?_
  rintro e w' ⟨rfl, p', hg⟩
  exact ⟨rfl, h.go hx rfl hg hk⟩
theorem Lx.link (h : Lx w0 w cnt T bt N) (hc : cnt < 1000000) (hr : linkK T old s = (T', z)) : Calls Try.prog 23 #[.pointer (some ⟨bt, 0, none⟩), .string old, .string s] w (LxE w0 w cnt T' bt N z) := by
  obtain ⟨p, rfl, hm, hx⟩ := h.m
  have hk := link_keep h.t old s
  have hC := link_any hm hc old s
  rw [hr] at hk hC
  refine hC.mono ?_
  rintro e w' ⟨rfl, p', hg⟩
  exact ⟨rfl, h.go hx rfl hg hk⟩
theorem Lx.unlink (h : Lx w0 w cnt T bt N) (hr : unlinkK T s = (T', z)) : Calls Try.prog 24 #[.pointer (some ⟨bt, 0, none⟩), .string s] w (LxE w0 w cnt T' bt N z) := by
  obtain ⟨p, rfl, hm, hx⟩ := h.m
  have hk := unlink_keep h.t s
  have hC := unlink_any hm (h.t.cnt.unq h.t.wf) s
  rw [hr] at hk hC
  refine hC.mono ?_
  rintro e w' ⟨rfl, p', hg⟩
  exact ⟨rfl, h.go hx rfl hg hk⟩
theorem Lx.rmdir (h : Lx w0 w cnt T bt N) (hr : rmdirK T s = (T', z)) : Calls Try.prog 29 #[.pointer (some ⟨bt, 0, none⟩), .string s] w (LxE w0 w cnt T' bt N z) := by
  obtain ⟨p, rfl, hm, hx⟩ := h.m
  have hk := rmdir_keep h.t s
  have hC := rmdir_any hm (h.t.cnt.unq h.t.wf) s
  rw [hr] at hk hC
  refine hC.mono ?_
  rintro e w' ⟨rfl, p', hg⟩
  exact ⟨rfl, h.go hx rfl hg hk⟩
theorem Lx.trunc (h : Lx w0 w cnt T bt N) (hr : truncK T s a = (T', z)) : Calls Try.prog 20 #[.pointer (some ⟨bt, 0, none⟩), .string s, .int .i64 a] w (LxE w0 w cnt T' bt N z) := by
  obtain ⟨p, rfl, hm, hx⟩ := h.m
  have hk := trunc_keep h.t s a
  have hC := truncate_any hm s a
  rw [hr] at hk hC
  refine hC.mono ?_
  rintro e w' ⟨rfl, p', hg⟩
  exact ⟨rfl, h.go hx rfl hg hk⟩
theorem Lx.write (h : Lx w0 w cnt T bt N) {ad : Option Addr} {n c : Nat} {m : List Nat} (hn : n = m.length) (hb : Bytes w ad m) (hd : m ≠ [] → ∀ g o, ad = some ⟨g, o, none⟩ → g < w0.heap.size ∨ N g) (hr : writeK T s a m = (T', z)) : Calls Try.prog 21 #[.pointer (some ⟨bt, 0, none⟩), .string s, .int .i64 a, .slice ad n c] w (LxE w0 w cnt T' bt N z) := by
  obtain ⟨p, rfl, hm, hx⟩ := h.m
  have hk := write_keep h.t s a hb.1
  have hC := write_any hm s a (c := c) hn hb (fun hm g o e q => by
    rcases hd hm g o e with y | y
    · have := (hx g q).1; omega
    · exact (hx g q).2 y)
  rw [hr] at hk hC
  refine hC.mono ?_
  rintro e w' ⟨rfl, p', hg⟩
  exact ⟨rfl, h.go hx rfl hg hk⟩
theorem Lx.read (h : Lx w0 w cnt T bt N) (n : Int) : Calls Try.prog 17 #[.pointer (some ⟨bt, 0, none⟩), .string s, .int .i64 a, .int .i64 n] w (RdO w (readK T s a n)) := by
  obtain ⟨p, rfl, hm, hx⟩ := h.m
  exact read_any hm s a n
theorem Lx.stat (h : Lx w0 w cnt T bt N) : Calls Try.prog 15 #[.pointer (some ⟨bt, 0, none⟩), .string s] w fun e w' => e = .returned (.tuple #[(statK T s).1, .int .i64 (statK T s).2]) ∧ Below w.heap.size w w' := by
  obtain ⟨p, rfl, hm, hx⟩ := h.m
  exact stat_any hm s
theorem Lx.walk (h : Lx w0 w cnt T bt N) : Calls Try.prog 11 #[.pointer (some ⟨bt, 0, none⟩)] w (WfO w T) := by
  obtain ⟨p, rfl, hm, hx⟩ := h.m
  exact walkF_any hm h.t
/-- A new tree. -/
theorem new_lx {w0 w : World} (hb : Below w0.heap.size w0 w) {n : Int} (h4 : 4 ≤ n) (h2 : n ≤ 200) : Calls Try.prog 10 #[.int .i64 n] w fun e w' => ∃ bt, e = .returned (.tuple #[.pointer (some ⟨bt, 0, none⟩), .int .i64 0]) ∧ Lx w0 w' 0 (tree0 n.toNat) bt (fun _ => False) ∧ Below w.heap.size w w' := by
  refine (new_any n w).mono ?_
  rintro e w' (⟨q, -⟩ | ⟨-, -, bt, bn, b, m, rfl, hm, hb2, hx⟩)
  · omega
  · exact ⟨bt, rfl, ⟨hb.trans (hb2.mono hb.size), tree0_tree (by omega) (by omega), fun g q => q.elim, _, rfl, hm, fun g q => ⟨Nat.le_trans hb.size (hx g q), fun e => e⟩⟩, hb2⟩
end
end Go.Proofs.Ytcjojcihjhhpgaa
/-
  The fixed fact of the trees' statements: the document's example.
-/
namespace Go.Proofs.Ytcjojcihjhhpgaa
open Go.RowKit

def nD : ByteArray := ⟨#[100]⟩
def nF : ByteArray := ⟨#[102]⟩
def nG : ByteArray := ⟨#[103]⟩
def nH : ByteArray := ⟨#[104]⟩
def aT1 : Tr := ((tree0 10).add 3 2).ent 2 nD (some 3)
def aT2 : Tr := (aT1.add 4 1).ent 3 nF (some 4)
def aT3 : Tr := (aT2.ent 2 nG (some 4)).lks 4 2
def aT4 : Tr := (aT3.ent 3 nF none).lks 4 1
def aT5 : Tr := (aT4.ent 2 nD none).rem 3
def aT6 : Tr := (aT5.add 3 1).ent 2 nH (some 3)
set_option maxRecDepth 100000 in
theorem aE1 : mkdirK (tree0 10) ⟨#[47, 100]⟩ = (aT1, 3, 0) := by kernel_rfl
set_option maxRecDepth 100000 in
theorem aE2 : createK aT1 ⟨#[47, 100, 47, 102]⟩ = (aT2, 4, 0) := by kernel_rfl
set_option maxRecDepth 100000 in
theorem aE3 : linkK aT2 ⟨#[47, 100, 47, 102]⟩ ⟨#[47, 103]⟩ = (aT3, 0) := by kernel_rfl
set_option maxRecDepth 100000 in
theorem aE4 : unlinkK aT3 ⟨#[47, 100, 47, 102]⟩ = (aT4, 0) := by kernel_rfl
theorem aP5 : P1 ⟨#[47, 100]⟩ nD := ⟨by decide +kernel, by decide +kernel, by decide +kernel⟩
theorem aB5 : aT4.bare 3 := fun s => by
  show updS (updS (fun _ => none) nF (some 4)) nF none s = none
  by_cases e : s = nF
  · subst e; rw [updS_at]
  · rw [updS_ne _ _ e, updS_ne _ _ e]
theorem aE5 : rmdirK aT4 ⟨#[47, 100]⟩ = (aT5, 0) := by
  rw [rmdir1 aP5 (T := aT4) (i := 3) (by kernel_rfl) (by kernel_rfl) (by kernel_rfl) aB5]
  kernel_rfl
set_option maxRecDepth 100000 in
theorem aE6 : createK aT5 ⟨#[47, 104]⟩ = (aT6, 3, 0) := by kernel_rfl
theorem aR6 : aT6.E 2 = updS (updS (updS (updS (fun _ => none) nD (some 3)) nG (some 4)) nD none) nH (some 3) := by kernel_rfl
theorem aN : nD ≠ nG ∧ nD ≠ nH ∧ nG ≠ nH := by decide +kernel
theorem aFlat : Flat aT6 [nG, nH] := by
  have hE : ∀ s, aT6.E 2 s = if s = nH then some 3 else if s = nD then none else if s = nG then some 4 else none := fun s => by
    rw [aR6]
    unfold updS
    by_cases e1 : s = nH
    · rw [if_pos e1, if_pos e1]
    · rw [if_neg e1, if_neg e1]
      by_cases e2 : s = nD
      · rw [if_pos e2, if_pos e2]
      · rw [if_neg e2, if_neg e2]
        by_cases e3 : s = nG
        · rw [if_pos e3, if_neg e2]
        · rw [if_neg e3, if_neg e2]
  refine ⟨by decide +kernel, fun s => ?_, fun s j hj => ?_⟩
  · rw [hE]
    constructor
    · intro hs
      simp at hs
      rcases hs with rfl | rfl
      · rw [if_neg aN.2.2, if_neg (Ne.symm aN.1), if_pos rfl]; rfl
      · rw [if_pos rfl]; rfl
    · intro hs
      split at hs
      · rename_i e; simp [e]
      · split at hs
        · cases hs
        · split at hs
          · rename_i e; simp [e]
          · cases hs
  · rw [hE] at hj
    split at hj
    · cases hj
      exact (by kernel_rfl : aT6.K 3 = 1) ▸ (by decide : (1 : Int) ≠ 2)
    · split at hj
      · cases hj
      · split at hj
        · cases hj
          exact (by kernel_rfl : aT6.K 4 = 1) ▸ (by decide : (1 : Int) ≠ 2)
        · cases hj
theorem srtB_id {l : List ByteArray} (h : (l.map bts).Pairwise (· ≤ ·)) : srtB l = l := by
  unfold srtB
  rw [List.mergeSort_of_pairwise (h.imp (fun h => decide_eq_true h)), map_ofB]
theorem aWalk {L : List ByteArray} (h : WalkL aT6 L) : L = [⟨#[47, 103]⟩, ⟨#[47, 104]⟩] := by
  rw [aFlat.walk h]
  have e : [nG, nH].map (fun s => slA ++ s) = [⟨#[47, 103]⟩, ⟨#[47, 104]⟩] := by decide +kernel
  rw [e]
  refine srtB_id ?_
  decide +kernel
end Go.Proofs.Ytcjojcihjhhpgaa
/-
  awake answers true.
-/
namespace Go.Proofs.Ytcjojcihjhhpgaa
open Go.RowKit

set_option maxRecDepth 100000 in
set_option maxHeartbeats 2000000 in
theorem awake_any (w : World) : Calls Try.prog 9 #[] w fun e w' => e = .returned (.bool true) ∧ Below w.heap.size w w' := by
  go_enter Try.func9, Try.ntmps9
  go_wp2_with fail
  refine (new_lx (w0 := w) (Below.refl _ _) (n := 10) (by decide) (by decide)).mono ?_
  rintro e w1 ⟨bt, rfl, h1, -⟩
  have HC1 := Lib.hid (h1.mkdir (by decide) aE1)
  clear h1
  go_wp2_with fail
  refine HC1.out.mono ?_
  rintro e w2 ⟨rfl, h2, -⟩
  have HC2 := Lib.hid (h2.create (by decide) aE2)
  clear h2 HC1
  go_wp2_with fail
  refine HC2.out.mono ?_
  rintro e w3 ⟨rfl, h3, -⟩
  have HC3 := Lib.hid (h3.link (by decide) aE3)
  clear h3 HC2
  go_wp2_with fail
  refine HC3.out.mono ?_
  rintro e w4 ⟨rfl, h4, -⟩
  have HC4 := Lib.hid (h4.unlink aE4)
  clear h4 HC3
  go_wp2_with fail
  refine HC4.out.mono ?_
  rintro e w5 ⟨rfl, h5, -⟩
  have HC5 := Lib.hid (h5.rmdir aE5)
  clear h5 HC4
  go_wp2_with fail
  refine HC5.out.mono ?_
  rintro e w6 ⟨rfl, h6, -⟩
  have HC6 := Lib.hid (h6.create (by decide) aE6)
  clear h6 HC5
  go_wp2_with fail
  refine HC6.out.mono ?_
  rintro e w7 ⟨rfl, h7, -⟩
  have H7 := Lib.hid h7
  clear h7 HC6
  go_wp2_with fail
  refine H7.out.walk.mono ?_
  rintro e w8 ⟨v, L, rfl, hL, ho, hb⟩
  obtain rfl := aWalk hL
  obtain ⟨a8, c8, rfl, -⟩ := own_slice ho
  have hS8 : Strs w8 a8 [⟨#[47, 103]⟩, ⟨#[47, 104]⟩] := Strs.own ho
  obtain ⟨w9, hw9⟩ : ∃ w9, w8.alloc (.cells #[.string ⟨#[47, 103]⟩, .string ⟨#[47, 104]⟩] STT) = w9 := ⟨_, rfl⟩
  have hb9 : Below w8.heap.size w8 w9 := by rw [← hw9]; exact sup_pct w8 _
  have hS9 : Strs w9 (some ⟨w8.heap.size, 0, none⟩) [⟨#[47, 103]⟩, ⟨#[47, 104]⟩] := by rw [← hw9]; exact Strs.laid w8 _ _ _ rfl
  have HT := Lib.hid (texts_any _ _ a8 (some ⟨w8.heap.size, 0, none⟩) 2 2 c8 2 w9 rfl rfl (by decide) (hS8.below hb9) hS9)
  have HB := Lib.hid (H7.out.b.trans ((hb.trans (hb9.mono hb.size)).mono H7.out.b.size))
  clear hL ho hS8 hS9 hb hb9
  go_wp2_with fail
  refine HT.out.mono ?_
  rintro e w10 ⟨rfl, hb10⟩
  have HB10 := Lib.hid (HB.out.trans (hb10.mono HB.out.size))
  clear hb10
  go_wp2_with fail
  go_ret
  exact ⟨rfl, HB10.out⟩
end Go.Proofs.Ytcjojcihjhhpgaa
