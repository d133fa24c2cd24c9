/-
  A file's map in memory: its 600 addresses of data, its blocks of pointers; what stays while it changes.
-/
import Derived.Test.YtnlmpnpelnmpeaaPMap
import Derived.Test.YtnlmpnpelnmpeaaOut
namespace Go.Proofs.Ytnlmpnpelnmpeaa
open Go.RowKit

theorem own_some {W : World} {base n cap size : Nat} {e : TypeId} {a : Option Addr} {X : List Value} (h : W.ownsRow base e size (.slice a n cap) n X) (hn : 0 < n) : ∃ g, a = some ⟨g, 0, none⟩ ∧ base ≤ g ∧ g < W.heap.size ∧ (∃ cs, Blo W g e cs) ∧ n ≤ cap := by
  rcases h.2 with ⟨_, h0⟩ | ⟨g, c, cur, h1, h2, h3, h4, _⟩
  · omega
  · cases h1
    exact ⟨g, rfl, h2, Blo.lt h3, ⟨_, h3⟩, h4⟩
theorem sup_pc (w : World) (o : Obj) : Below w.heap.size w (w.alloc o) := (Below.refl _ _).alloc (Nat.le_refl _) o
theorem grown_new {w w4 : World} {E : Obj} {b k : Nat} {v : Value} (h : (w.alloc E).grownBy w4 (some b)) : w.grownBy (w4.setCell ⟨w.heap.size, k, none⟩ v) (some b) := by
  have h1 := grown_put w4 ⟨w.heap.size, k, none⟩ v
  have h0 := sup_pc w E
  refine ⟨h1.os.trans (h.os.trans h0.os), h1.tape.trans (h.tape.trans h0.tape), h1.output.trans (h.output.trans h0.output), Nat.le_trans h0.size (Nat.le_trans h.size h1.size), fun i hi hne => ?_⟩
  have hs := h0.size
  rw [h1.block i (by have := h.size; omega) (fun e => by have e2 : i = w.heap.size := Option.some.inj e; omega), h.block i (by omega) hne, h0.block i hi]
theorem own_grown_ne {w w' : World} {b1 b2 n m s1 s2 : Nat} {e1 e2 : TypeId} {u v : Value} {xs ys : List Value} (h : w.ownsRow b1 e1 s1 u n xs) (hv : w.ownsRow b2 e2 s2 v m ys) (hlt : ∀ y, u.ownBlock = some y → y < b2) (hg : w.grownBy w' v.ownBlock) : w'.ownsRow b1 e1 s1 u n xs := by
  refine h.kept hg ?_
  rcases hv.2 with ⟨rfl, _⟩ | ⟨g, cap, cur, rfl, h1, _⟩
  · cases hu : u.ownBlock with
    | none => exact .inl rfl
    | some k => exact .inr (by simp [Value.ownBlock])
  · cases hu : u.ownBlock with
    | none => exact .inl rfl
    | some k => exact .inr (fun e => by have := hlt k hu; have : k = g := by simpa [Value.ownBlock] using e
                                        omega)
abbrev FT : TypeId := 75
abbrev MT : TypeId := 82
abbrev PT : TypeId := 73
theorem zeroM (w : World) : (zeroValue 76).run Try.prog w = .ok (.pointer none) w := by kernel_rfl
theorem undM : Try.prog.underlying PT = some (.map 3 76) := Try.underlying73
/-- The map in block M: addresses d of data; block b leads from the number of a block of pointers to its block; it has address ad, and ct of its data have one. -/
structure FC (B M b n : Nat) (d : Nat → Int) (f : Int → Option Nat) (ad ct : Int → Int) (w : World) : Prop where
  box : ∃ cs, Blo w M FT cs ∧ cs.size = 601 ∧ (∀ i, i < 600 → cs[i]? = some (.int .i64 (d i))) ∧ cs[600]? = some (.map (some b))
  mp : PM w b n f
  is : ∀ x, (f x).isSome = decide (0 < ct x)
  mt : ∀ x g, f x = some g → Blo w g MT #[.int .i64 (ad x), .int .i64 (ct x)] ∧ B ≤ g
  ap : ∀ x y g, f x = some g → f y = some g → x = y
  lo : B ≤ M ∧ B ≤ b
  dB : ∀ i, 0 ≤ d i ∧ d i < 4096
  aB : ∀ x, 0 ≤ ad x ∧ ad x < 4096
  cB : ∀ x, 0 ≤ ct x ∧ ct x ≤ 600
  az : ∀ x, ct x = 0 → ad x = 0
/-- What may change with the map: its own block, its map, blocks of pointers. -/
def Yng (b y : Nat) (o : Obj) : Prop := match o with
  | .cells _ t _ => t = FT ∨ t = MT
  | .map _ _ => y = b
  | _ => False
structure FS (B b : Nat) (w w' : World) : Prop where
  be : Below B w w'
  sz : w.heap.size ≤ w'.heap.size
  st : ∀ y o, w.heap[y]? = some o → ¬ Yng b y o → w'.heap[y]? = some o
section
variable {B M b n : Nat} {d : Nat → Int} {f : Int → Option Nat} {ad ct : Int → Int} {w w' w'' : World}
theorem FS.refl (h : B ≤ w.heap.size) : FS B b w w := ⟨(Below.refl _ w).mono h, Nat.le_refl _, fun _ _ h _ => h⟩
theorem FS.trans (h : FS B b w w') (k : FS B b w' w'') : FS B b w w'' := ⟨h.be.trans k.be, Nat.le_trans h.sz k.sz, fun y o h1 h2 => k.st y o (h.st y o h1 h2) h2⟩
theorem FS.of_below (hb : Below w.heap.size w w') (h : B ≤ w.heap.size) : FS B b w w' := ⟨hb.mono h, hb.size, fun y o h1 _ => by
  have hl : y < w.heap.size := (Array.getElem?_eq_some_iff.1 h1).1
  rw [hb.block y hl]; exact h1⟩
theorem FS.of_grown {row : Option Nat} (hg : w.grownBy w' row) (h : B ≤ w.heap.size) (hr : ∀ y, row = some y → B ≤ y ∧ ∀ o, w.heap[y]? = some o → Yng b y o) : FS B b w w' := by
  refine ⟨⟨hg.os, hg.tape, hg.output, hg.size, fun y hy => hg.block y (by omega) (fun e => by have := (hr y e.symm).1; omega)⟩, hg.size, fun y o h1 h2 => ?_⟩
  have hl : y < w.heap.size := (Array.getElem?_eq_some_iff.1 h1).1
  rw [hg.block y hl (fun e => h2 ((hr y e.symm).2 o h1))]; exact h1
theorem FS.blo (h : FS B b w w') {g : Nat} {t : TypeId} {cs : Array Value} (hg : Blo w g t cs) (h1 : t ≠ FT) (h2 : t ≠ MT) : Blo w' g t cs := h.st g _ hg (fun e => by rcases e with e | e; exact h1 e; exact h2 e)
theorem FS.own (h : FS B b w w') {base : Nat} {e : TypeId} {size m : Nat} {v : Value} {xs : List Value} (hv : w.ownsRow base e size v m xs) (h1 : e ≠ FT) (h2 : e ≠ MT) : w'.ownsRow base e size v m xs := by
  refine ⟨hv.1, ?_⟩
  rcases hv.2 with hn | ⟨g, cap, cur, rfl, hb, hgg, rest⟩
  · exact .inl hn
  · exact .inr ⟨g, cap, cur, rfl, hb, h.blo hgg h1 h2, rest⟩
theorem FC.lt (h : FC B M b n d f ad ct w) : M < w.heap.size := by obtain ⟨cs, h1, _⟩ := h.box; exact h1.lt
theorem FC.hle (h : FC B M b n d f ad ct w) : B ≤ w.heap.size := by have := h.lt; have := h.lo.1; omega
theorem FC.later (h : FC B M b n d f ad ct w) (hb : Below w.heap.size w w') : FC B M b n d f ad ct w' := by
  obtain ⟨cs, h1, h2⟩ := h.box
  exact ⟨⟨cs, h1.later hb, h2⟩, h.mp.later hb, h.is, fun x g e => ⟨(h.mt x g e).1.later hb, (h.mt x g e).2⟩, h.ap, h.lo, h.dB, h.aB, h.cB, h.az⟩
theorem FC.mono (h : FC B M b n d f ad ct w) {n' : Nat} (hn : n ≤ n') : FC B M b n' d f ad ct w := ⟨h.box, h.mp.mono hn, h.is, h.mt, h.ap, h.lo, h.dB, h.aB, h.cB, h.az⟩
theorem FC.drew (h : FC B M b n d f ad ct w) : FC B M b n d f ad ct w.drew := h.later ((Below.refl _ w).drew)
/-- A row of another type may grow, or be written. -/
theorem FC.row (h : FC B M b n d f ad ct w) {base m size : Nat} {e : TypeId} {v : Value} {xs : List Value} (hv : w.ownsRow base e size v m xs) (h1 : e ≠ FT) (h2 : e ≠ MT) (hg : w.grownBy w' v.ownBlock) : FC B M b n d f ad ct w' := by
  obtain ⟨cs, h3, h4⟩ := h.box
  refine ⟨⟨cs, h3.grown hg (h3.row_apart hv h1), h4⟩, h.mp.kept hg ?_, h.is, fun x g e => ⟨(h.mt x g e).1.grown hg ((h.mt x g e).1.row_apart hv h2), (h.mt x g e).2⟩, h.ap, h.lo, h.dB, h.aB, h.cB, h.az⟩
  intro e2
  rcases hv.2 with ⟨rfl, _⟩ | ⟨g, cap, cur, rfl, _, hh, _⟩
  · cases e2
  · exact h.mp.blo hh (by simpa [Value.ownBlock] using e2)
theorem FC.bd (h : FC B M b n d f ad ct w) : w.cell? ⟨M, 600, none⟩ = some (.map (some b)) := by
  obtain ⟨cs, h1, _, _, h4⟩ := h.box
  rw [h1.cell]; exact h4
theorem FC.kept_bd (h : FC B M b n d f ad ct w) (hg : w.grownBy w' (some b)) : w'.cell? ⟨M, 600, none⟩ = some (.map (some b)) := by
  obtain ⟨cs, h1, _, _, h4⟩ := h.box
  rw [(h1.grown hg (fun e => h.mp.blo h1 (by simpa using e.symm))).cell]; exact h4
theorem FC.dat (h : FC B M b n d f ad ct w) (k : Nat) (hk : k < 600) : w.cell? ⟨M, k, none⟩ = some (.int .i64 (d k)) := by
  obtain ⟨cs, h1, _, h3, _⟩ := h.box
  rw [h1.cell]; exact h3 k hk
theorem FC.frz (h : FC B M b n d f ad ct w) (k : Nat) : w.frozen? ⟨M, k, none⟩ = false := by
  obtain ⟨cs, h1, _⟩ := h.box
  exact h1.frozen k
/-- An address of data is written. -/
theorem FC.put (h : FC B M b n d f ad ct w) (k : Nat) (hk : k < 600) (v : Int) (h0 : 0 ≤ v) (h1 : v < 4096) : FC B M b n (fun i => if i = k then v else d i) f ad ct (w.setCell ⟨M, k, none⟩ (.int .i64 v)) ∧ FS B b w (w.setCell ⟨M, k, none⟩ (.int .i64 v)) := by
  obtain ⟨cs, hb, hs, hd, hm⟩ := h.box
  refine ⟨⟨⟨_, hb.put k _, by simpa using hs, fun i hi => ?_, ?_⟩, h.mp.far (a := ⟨M, k, none⟩) (h.mp.blo hb) _, h.is, fun x g e => ⟨(h.mt x g e).1.far (p := ⟨M, k, none⟩) ((h.mt x g e).1.apart hb (by decide)) _, (h.mt x g e).2⟩, h.ap, h.lo, fun i => ?_, h.aB, h.cB, h.az⟩, ?_⟩
  · rw [Array.getElem?_setIfInBounds]
    by_cases e : i = k
    · subst e; simp [hs]; omega
    · rw [if_neg (fun e2 => e e2.symm), if_neg e]; exact hd i hi
  · rw [Array.getElem?_setIfInBounds, if_neg (by omega)]; exact hm
  · show 0 ≤ (if i = k then v else d i) ∧ (if i = k then v else d i) < 4096
    split
    · exact ⟨h0, h1⟩
    · exact h.dB i
  · exact FS.of_grown (grown_put w ⟨M, k, none⟩ _) h.hle (fun y e => by
      cases e
      refine ⟨h.lo.1, fun o ho => ?_⟩
      rw [show w.heap[M]? = _ from hb] at ho
      cases ho
      exact .inl rfl)
/-- A block of pointers changes. -/
theorem FC.meta (h : FC B M b n d f ad ct w) (x : Int) (g : Nat) (hf : f x = some g) (a c : Int) (ha : 0 ≤ a ∧ a < 4096) (hc : 0 < c ∧ c ≤ 600) (hw : Blo w' g MT #[.int .i64 a, .int .i64 c]) (hg : w.grownBy w' (some g)) :
    FC B M b n d f (updO ad x a) (updO ct x c) w' ∧ FS B b w w' := by
  obtain ⟨cs, hb, hr⟩ := h.box
  have hx := (h.mt x g hf).1
  refine ⟨⟨⟨cs, hb.grown hg (fun e => hb.apart hx (by decide) (by simpa using e)), hr⟩, h.mp.kept hg (fun e => h.mp.blo hx (by simpa using e)), fun y => ?_, fun y k e => ?_, h.ap, h.lo, h.dB, fun y => ?_, fun y => ?_, fun y hy => ?_⟩, ?_⟩
  · by_cases e : y = x
    · subst e; rw [updO_at, hf]; simp; omega
    · rw [updO_ne _ _ e]; exact h.is y
  · by_cases e2 : y = x
    · subst e2
      rw [hf] at e; cases e
      rw [updO_at, updO_at]
      exact ⟨hw, (h.mt y g hf).2⟩
    · rw [updO_ne _ _ e2, updO_ne _ _ e2]
      exact ⟨(h.mt y k e).1.grown hg (fun e3 => e2 (h.ap y x g (by rw [e]; exact e3) hf)), (h.mt y k e).2⟩
  · by_cases e : y = x
    · subst e; rw [updO_at]; exact ha
    · rw [updO_ne _ _ e]; exact h.aB y
  · by_cases e : y = x
    · subst e; rw [updO_at]; omega
    · rw [updO_ne _ _ e]; exact h.cB y
  · by_cases e : y = x
    · subst e; rw [updO_at] at hy; omega
    · rw [updO_ne _ _ e] at hy; rw [updO_ne _ _ e]; exact h.az y hy
  · exact FS.of_grown hg h.hle (fun y e => by
      cases e
      refine ⟨(h.mt x g hf).2, fun o ho => ?_⟩
      rw [show w.heap[g]? = _ from hx] at ho
      cases ho
      exact .inr rfl)
end
end Go.Proofs.Ytnlmpnpelnmpeaa
