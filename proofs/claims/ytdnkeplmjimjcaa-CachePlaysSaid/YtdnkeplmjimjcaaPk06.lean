/-
  Phase · DcBuf · DcFnd · DcNew · DcOrd · DcLst · RowReg · DcWo: these texts in one.
-/
import Derived.Test.YtdnkeplmjimjcaaPk05
import Derived.Test.YtdnkeplmjimjcaaPk04
import Derived.Laws.Rows
import Derived.Laws.CopyOwn
import Derived.Deep.RegionHeld3
import Derived.Test.YtdnkeplmjimjcaaPk00
/-
  A drawn region with one new block and one append onto a row that stood before (x.l = append(x.l, T{..})): slots told by values, the world by how far these two have come.
-/
namespace Go.Proofs.Ytdnkeplmjimjcaa
open Go.RowKit

structure PhI (T : List (Nat × Value)) (C : Nat → List Nat) (w0 : World) (o : Obj) (p q : Nat) (R : Value → World → Prop) (D : Nat → Bool) (X : Nat → Value) (W : World) : Prop where
  dt : DetO T D X
  cl : ∀ i, D i = true → ∀ a ∈ C i, D a = true
  at0 : D p = false → W = w0
  at1 : D p = true → D q = false → W = w0.alloc o
  at2 : D q = true → R (X q) W
section
variable {T : List (Nat × Value)} {C : Nat → List Nat} {w0 W W' : World} {o : Obj} {p q : Nat} {R : Value → World → Prop} {D : Nat → Bool} {X : Nat → Value}
theorem PhI.start : PhI T C w0 o p q R (fun _ => false) X w0 := ⟨fun _ _ h => (by cases h), fun _ h => (by cases h), fun _ => rfl, fun h => (by cases h), fun h => (by cases h)⟩
theorem PhI.cls (h : PhI T C w0 o p q R D X W) {i : Nat} (hc : ∀ a ∈ C i, D a = true) : ∀ j, updD D i j = true → ∀ a ∈ C j, updD D i a = true := fun j hj a ha => by
  rcases updD_ofO hj with e | ⟨_, e⟩
  · subst e; exact updD_upO (hc a ha)
  · exact updD_upO (h.cl j e a ha)
theorem PhI.tell (h : PhI T C w0 o p q R D X W) (i : Nat) (v : Value) (h1 : p ≠ i) (h2 : q ≠ i) (hv : ∀ x ∈ T, x.1 = i → x.2 = v) (hc : ∀ a ∈ C i, D a = true) : PhI T C w0 o p q R (updD D i) (updV X i v) W :=
  ⟨h.dt.set i v hv, h.cls hc, fun e => h.at0 (by rwa [updD_ne D i h1] at e), fun e1 e2 => h.at1 (by rwa [updD_ne D i h1] at e1) (by rwa [updD_ne D i h2] at e2), fun e => by
    rw [updV_ne X i v h2]
    exact h.at2 (by rwa [updD_ne D i h2] at e)⟩
theorem PhI.no (h : PhI T C w0 o p q R D X W) {i : Nat} (hi : i ∈ C q) (hD : D i = false) : D q = false := by
  cases hq : D q with
  | false => rfl
  | true => rw [h.cl q hq i hi] at hD; cases hD
/-- The new block. -/
theorem PhI.lay (h : PhI T C w0 o p q R D X W) (v : Value) (hD : D p = false) (hpq : p ≠ q) (hq : p ∈ C q) (hv : ∀ x ∈ T, x.1 = p → x.2 = v) (hc : ∀ a ∈ C p, D a = true) : W = w0 ∧ PhI T C w0 o p q R (updD D p) (updV X p v) (w0.alloc o) := by
  have hDq := h.no hq hD
  refine ⟨h.at0 hD, h.dt.set p v hv, h.cls hc, fun e => ?_, fun _ _ => rfl, fun e => ?_⟩
  · rw [updD_at] at e; cases e
  · rw [updD_ne D p (Ne.symm hpq), hDq] at e; cases e
/-- The append. -/
theorem PhI.app (h : PhI T C w0 o p q R D X W) (hp : D p = true) (hD : D q = false) (hpq : p ≠ q) (hT : ∀ x ∈ T, x.1 ≠ q) (hc : ∀ a ∈ C q, D a = true) : W = w0.alloc o ∧ ∀ v W', R v W' → PhI T C w0 o p q R (updD D q) (updV X q v) W' := by
  refine ⟨h.at1 hp hD, fun v W' hR => ⟨fun x hx hd => ?_, h.cls hc, fun e => ?_, fun _ e => ?_, fun _ => ?_⟩⟩
  · rw [updV_ne X q v (hT x hx)]
    rw [updD_ne D q (hT x hx)] at hd
    exact h.dt x hx hd
  · rw [updD_ne D q hpq, hp] at e; cases e
  · rw [updD_at] at e; cases e
  · rw [updV_at]; exact hR
theorem PhI.cell (h : PhI T C w0 o p q R D X W) {i : Nat} (hi : i ∈ C q) (hD : D i = false) {a : Addr} {v : Value} (hc : w0.cell? a = some v) : W.cell? a = some v := by
  have hq := h.no hi hD
  cases hp : D p with
  | false => rw [h.at0 hp]; exact hc
  | true => rw [h.at1 hp hq]; exact cell_later ((Below.refl _ _).alloc (Nat.le_refl _) o) hc
end
end Go.Proofs.Ytdnkeplmjimjcaa
/-
  The document's cache: its row of buffers; Find.
-/
namespace Go.Proofs.Ytdnkeplmjimjcaa
open Go.RowKit

abbrev RKT := 38
abbrev RCT := 30
def flatD (L : List Bk) : List Value := L.flatMap fun s => [.int .i64 s.key.1, .int .i64 s.key.2, .string (strOf (dtL s.data)), .bool s.dirty, .int .i64 s.pins]
theorem flatD_len (L : List Bk) : (flatD L).length = L.length * 5 := by
  induction L with
  | nil => rfl
  | cons s L ih => simp only [flatD, List.flatMap_cons, List.length_append, List.length_cons, List.length_nil] at *; omega
theorem flatD_app (L M : List Bk) : flatD (L ++ M) = flatD L ++ flatD M := by simp [flatD]
theorem flatD_get : ∀ (L : List Bk) (i j : Nat) (s : Bk), L[i]? = some s → j < 5 → (flatD L)[i * 5 + j]? = ([.int .i64 s.key.1, .int .i64 s.key.2, .string (strOf (dtL s.data)), .bool s.dirty, .int .i64 s.pins] : List Value)[j]?
  | [], i, j, s, h, _ => by simp at h
  | t :: L, 0, j, s, h, hj => by
    have : t = s := by simpa using h
    subst this
    show ((_ : List Value) ++ flatD L)[0 * 5 + j]? = _
    rw [List.getElem?_append_left (by simp; omega)]
    simp
  | t :: L, i + 1, j, s, h, hj => by
    have h1 : L[i]? = some s := by simpa using h
    show (([_, _, _, _, _] : List Value) ++ flatD L)[(i + 1) * 5 + j]? = _
    rw [List.getElem?_append_right (by simp; omega), ← flatD_get L i j s h1 hj]
    congr 1
    simp
    omega
/-- A row of the document's buffers. -/
structure DRow (w : World) (a : Option Addr) (n : Nat) (L : List Bk) : Prop where
  len : n = L.length
  at_ : ∀ j u, (flatD L)[j]? = some u → ∃ g, a = some ⟨g, 0, none⟩ ∧ w.cell? ⟨g, j, none⟩ = some u
theorem DRow.later {w w' : World} {a : Option Addr} {n : Nat} {L : List Bk} (h : DRow w a n L) (hb : Below w.heap.size w w') : DRow w' a n L :=
  ⟨h.len, fun j u hj => by
    obtain ⟨g, h1, h2⟩ := h.at_ j u hj
    exact ⟨g, h1, cell_later hb h2⟩⟩
theorem DRow.key {w : World} {a : Option Addr} {n : Nat} {L : List Bk} (h : DRow w a n L) {i : Nat} {s : Bk} (hs : L[i]? = some s) : ∃ g, a = some ⟨g, 0, none⟩ ∧ w.cell? ⟨g, i * 5, none⟩ = some (.int .i64 s.key.1) ∧ w.cell? ⟨g, i * 5 + 1, none⟩ = some (.int .i64 s.key.2) := by
  obtain ⟨g, h1, h2⟩ := h.at_ (i * 5) _ (flatD_get L i 0 s hs (by decide))
  obtain ⟨g', h3, h4⟩ := h.at_ (i * 5 + 1) _ (flatD_get L i 1 s hs (by decide))
  rw [h1] at h3
  cases h3
  exact ⟨g, h1, h2, h4⟩
/-- The place of a key's buffer; -1: there is none. -/
def ixK (L : List Bk) (p : Int × Int) : Int := match L.findIdx? (fun s => decide (s.key = p)) with | some i => (i : Int) | none => -1
abbrev RBT := 72
abbrev RBS := 28
theorem info_rbt : (Try.prog.info? RBT).map (fun i => (i.zero, i.size, i.bytes)) = some (some (.agg #[.int .i64 0, .int .i64 0, .string ByteArray.empty, .bool false, .int .i64 0]), 5, 48) := by kernel_rfl
theorem flatD_one (L : List Bk) : ∀ u ∈ flatD L, u.oneCell' = true := fun u hu => by
  unfold flatD at hu
  obtain ⟨s, -, hu⟩ := List.mem_flatMap.1 hu
  simp only [List.mem_cons, List.not_mem_nil, or_false] at hu
  rcases hu with rfl | rfl | rfl | rfl | rfl <;> rfl
/-- A part of the row. -/
theorem DRow.from {w : World} {g n : Nat} {L : List Bk} (h : DRow w (some ⟨g, 0, none⟩) n L) (k : Nat) : ∀ ad, some (⟨g, k * 5, none⟩ : Addr) = some ad → ∀ j u, (flatD (L.drop k))[j]? = some u → w.cell? (ad.add j) = some u := fun ad e j u hj => by
  cases e
  rw [Addr.add_lit]
  by_cases hk : k ≤ L.length
  · have e2 : flatD L = flatD (L.take k) ++ flatD (L.drop k) := by rw [← flatD_app, List.take_append_drop]
    have hl : (flatD (L.take k)).length = k * 5 := by rw [flatD_len, List.length_take]; omega
    obtain ⟨g', h1, h2⟩ := h.at_ (k * 5 + j) u (by rw [e2, List.getElem?_append_right (by omega), hl, Nat.add_sub_cancel_left]; exact hj)
    cases h1
    exact h2
  · rw [List.drop_eq_nil_of_le (by omega)] at hj
    cases hj
theorem DRow.upto {w : World} {a : Option Addr} {n : Nat} {L : List Bk} (h : DRow w a n L) (k : Nat) : ∀ ad, a = some ad → ∀ j u, (flatD (L.take k))[j]? = some u → w.cell? (ad.add j) = some u := fun ad e j u hj => by
  have e2 : flatD L = flatD (L.take k) ++ flatD (L.drop k) := by rw [← flatD_app, List.take_append_drop]
  obtain ⟨g', h1, h2⟩ := h.at_ j u (by
    have hjl := (List.getElem?_eq_some_iff.1 hj).1
    rw [e2, List.getElem?_append_left hjl]; exact hj)
  rw [h1] at e
  cases e
  rw [Addr.add_lit, Nat.zero_add]
  exact h2
theorem DRow.own {w : World} {base : Nat} {a : Option Addr} {n cap : Nat} {L : List Bk} (h : w.ownsRow base RBT 5 (.slice a n cap) n (flatD L)) : DRow w a n L ∧ n ≤ cap := by
  have hl := h.1
  rw [flatD_len] at hl
  refine ⟨⟨by omega, fun j u hj => ?_⟩, ?_⟩
  · rcases id h.2 with ⟨h1, h0⟩ | ⟨g, c, cur, h1, _⟩
    · have := (List.getElem?_eq_some_iff.1 hj).1
      rw [flatD_len] at this
      omega
    · cases h1
      refine ⟨g, rfl, ?_⟩
      have hjl : j < (flatD L).length := (List.getElem?_eq_some_iff.1 hj).1
      rw [h.cellAt j (Nat.lt_of_lt_of_eq hjl h.1), hj]
  · rcases id h.2 with ⟨h1, h0⟩ | ⟨g, c, cur, h1, h2, h3, h4, h5⟩
    · omega
    · cases h1
      exact h4
/-- Two boxes of a call, kept. -/
structure Bx2 (w : World) (t1 t2 : TypeId) (cx cz : Array Value) (W : World) : Prop where
  x : Blo W w.heap.size t1 cx
  z : Blo W (w.heap.size + 1) t2 cz
  b : Below w.heap.size w W
theorem Bx2.grown {w W W' : World} {t1 t2 : TypeId} {cx cz : Array Value} {row : Option Nat} (h : Bx2 w t1 t2 cx cz W) (hg : W.grownBy W' row) (hr : ∀ g, row = some g → w.heap.size + 2 ≤ g) : Bx2 w t1 t2 cx cz W' := by
  have ho : Out (fun g => row = some g) W W' := Out.of_grown hg (fun g e => e)
  refine ⟨ho.blo h.x (fun e => by have := hr _ e; omega), ho.blo h.z (fun e => by have := hr _ e; omega), h.b.trans (ho.below h.b.size (fun g _ e => by have := hr g e; omega))⟩
theorem Bx2.later {w W W' : World} {t1 t2 : TypeId} {cx cz : Array Value} (h : Bx2 w t1 t2 cx cz W) (hb : Below W.heap.size W W') : Bx2 w t1 t2 cx cz W' := ⟨h.x.later hb, h.z.later hb, h.b.trans (hb.mono h.b.size)⟩
theorem Bx2.size {w W : World} {t1 t2 : TypeId} {cx cz : Array Value} (h : Bx2 w t1 t2 cx cz W) : w.heap.size + 2 ≤ W.heap.size := h.z.lt
theorem Bx2.row1 {w W : World} {t1 t2 : TypeId} {cx cz : Array Value} (h : Bx2 w t1 t2 cx cz W) (cs : Array Value) : Bx2 w t1 t2 cs cz (W.setRow w.heap.size cs) :=
  ⟨blo_row h.x cs, (out_row (X := fun g => g = w.heap.size) W _ cs rfl).blo h.z (by omega), below_setRow h.b (Nat.le_refl _) cs⟩
theorem Bx2.row2 {w W : World} {t1 t2 : TypeId} {cx cz : Array Value} (h : Bx2 w t1 t2 cx cz W) (cs : Array Value) : Bx2 w t1 t2 cx cs (W.setRow (w.heap.size + 1) cs) :=
  ⟨(out_row (X := fun g => g = w.heap.size + 1) W _ cs rfl).blo h.x (by omega), blo_row h.z cs, below_setRow h.b (by omega) cs⟩
theorem Bx2.put1 {w W : World} {t1 t2 : TypeId} {cx cz : Array Value} (h : Bx2 w t1 t2 cx cz W) (i : Nat) (u : Value) : Bx2 w t1 t2 (cx.setIfInBounds i u) cz (W.setCell ⟨w.heap.size, i, none⟩ u) :=
  ⟨h.x.put i u, h.z.far (by show _ ≠ w.heap.size; omega) u, h.b.setCell (Nat.le_refl _) u⟩
theorem Bx2.put2 {w W : World} {t1 t2 : TypeId} {cx cz : Array Value} (h : Bx2 w t1 t2 cx cz W) (i : Nat) (u : Value) : Bx2 w t1 t2 cx (cz.setIfInBounds i u) (W.setCell ⟨w.heap.size + 1, i, none⟩ u) :=
  ⟨h.x.far (by show _ ≠ w.heap.size + 1; omega) u, h.z.put i u, h.b.setCell (by show w.heap.size ≤ w.heap.size + 1; omega) u⟩
theorem own_weak {w : World} {base base' : Nat} {e : TypeId} {sz n : Nat} {v : Value} {xs : List Value} (h : w.ownsRow base e sz v n xs) (hb : base' ≤ base) : w.ownsRow base' e sz v n xs :=
  ⟨h.1, h.2.imp id (fun ⟨g, cap, cur, q, p, r⟩ => ⟨g, cap, cur, q, Nat.le_trans hb p, r⟩)⟩
theorem results_row_tmp {P : Program} {fn : Func} {p u : Tmp} {ty : TypeId} (h : fn.results = #[.cell p ty, .tmp u]) (tmps : Array Value) (w : World) (g : Nat) (t : TypeId) (cs : Array Value) (d : TypeDesc)
    (hp : tmps.getD p undef = .pointer (some ⟨g, 0, none⟩)) (hg : Blo w g t cs)
    (hu : P.underlying ty = some d) (hd : (match d with | .struct _ | .array _ _ => true | _ => false) = true) (hi : (P.info? ty).map (·.size) = some cs.size) :
    (results fn tmps).run P w = .ok (.tuple #[.agg cs, tmps.getD u undef]) w := by
  have hp' : tmps[p]?.getD undef = .pointer (some ⟨g, 0, none⟩) := by simpa using hp
  simp [results, h, hp', asAddr, run_loadVar_row w g t ty cs (0, 0) d hg hu hd hi]
theorem results_row_tmp2 {P : Program} {fn : Func} {p u v : Tmp} {ty : TypeId} (h : fn.results = #[.cell p ty, .tmp u, .tmp v]) (tmps : Array Value) (w : World) (g : Nat) (t : TypeId) (cs : Array Value) (d : TypeDesc)
    (hp : tmps.getD p undef = .pointer (some ⟨g, 0, none⟩)) (hg : Blo w g t cs)
    (hu : P.underlying ty = some d) (hd : (match d with | .struct _ | .array _ _ => true | _ => false) = true) (hi : (P.info? ty).map (·.size) = some cs.size) :
    (results fn tmps).run P w = .ok (.tuple #[.agg cs, tmps.getD u undef, tmps.getD v undef]) w := by
  have hp' : tmps[p]?.getD undef = .pointer (some ⟨g, 0, none⟩) := by simpa using hp
  simp [results, h, hp', asAddr, run_loadVar_row w g t ty cs (0, 0) d hg hu hd hi]
end Go.Proofs.Ytdnkeplmjimjcaa
/-
  The document's Find.
-/
namespace Go.Proofs.Ytdnkeplmjimjcaa
open Go.RowKit

theorem keyLitsR {p : Int × Int} (h : wfK p) (d : Nat) : Try.prog.keyLits (d + 1 + 1) RKT [.int .i64 p.1, .int .i64 p.2] = some [.int .i64 p.1, .int .i64 p.2] := by
  obtain ⟨h1, h2⟩ := h
  have hc : Try.prog.cellsOf RKT = 2 := by kernel_rfl
  have hi : Try.prog.cellsOf 3 = 1 := by kernel_rfl
  have leaf : ∀ a : Int, (Lit.int .i64 a).wf = true → Try.prog.keyLits (d + 1) 3 [.int .i64 a] = some [.int .i64 a] := fun a ha => by
    unfold Program.keyLits
    simp only [Try.underlying3]
    simp [ha]
  unfold Program.keyLits
  simp only [Try.underlying38]
  simp [hc, hi, leaf _ h1, leaf _ h2]
set_option maxRecDepth 100000 in
theorem eql_keyR (W : World) {p q : Int × Int} (hp : wfK p) (hq : wfK q) : (Op.equalIn 10000 RKT (.agg #[.int .i64 p.1, .int .i64 p.2]) (.agg #[.int .i64 q.1, .int .i64 q.2])).run Try.prog W = .ok (decide (p = q)) W := by
  have hk : Try.prog.keyTypeAt 3 RKT = true := by kernel_rfl
  have hc : Try.prog.cellsOf RKT = 2 := by kernel_rfl
  obtain ⟨r, h1, h2⟩ := run_equalIn_deep (P := Try.prog) 9997 3 RKT hk W 3 3 (.agg #[.int .i64 p.1, .int .i64 p.2]) (.agg #[.int .i64 q.1, .int .i64 q.2]) _ _ (by simp [Value.formed, Try.underlying38, hc]) (by simp [Value.formed, Try.underlying38, hc]) (keyLitsR hp 1) (keyLitsR hq 1)
  have h1 : (Op.equalIn 10000 RKT (.agg #[.int .i64 p.1, .int .i64 p.2]) (.agg #[.int .i64 q.1, .int .i64 q.2])).run Try.prog W = .ok r W := h1
  rw [h1]
  congr 1
  obtain ⟨a, b⟩ := p
  obtain ⟨c, d⟩ := q
  cases r with
  | true =>
    have := h2.1 rfl
    simp at this
    rw [this.1, this.2]
    simp
  | false =>
    symm
    rw [decide_eq_false_iff_not]
    intro e
    cases e
    exact absurd (h2.2 rfl) (by decide)
theorem ixK_at {L : List Bk} {p : Int × Int} {i : Nat} (h : ∀ j, j < i → ∀ s, L[j]? = some s → s.key ≠ p) {s : Bk} (hs : L[i]? = some s) (hk : s.key = p) : ixK L p = (i : Int) := by
  unfold ixK
  have : L.findIdx? (fun s => decide (s.key = p)) = some i := by
    rw [List.findIdx?_eq_some_iff_getElem]
    obtain ⟨hi, he⟩ := List.getElem?_eq_some_iff.1 hs
    refine ⟨hi, by rw [he]; simpa using hk, fun j hj => ?_⟩
    have hj2 : j < L.length := by omega
    simpa using h j hj L[j] (List.getElem?_eq_getElem hj2)
  rw [this]
theorem ixK_none {L : List Bk} {p : Int × Int} (h : ∀ j, j < L.length → ∀ s, L[j]? = some s → s.key ≠ p) : ixK L p = -1 := by
  unfold ixK
  have : L.findIdx? (fun s => decide (s.key = p)) = none := by
    rw [List.findIdx?_eq_none_iff]
    intro s hs
    obtain ⟨j, hj, he⟩ := List.getElem_of_mem hs
    have := h j hj s (by rw [List.getElem?_eq_getElem hj, he])
    simpa using this
  rw [this]
def FndR (w : World) (room : Int) (a : Option Addr) (n cap : Nat) (L : List Bk) (p : Int × Int) (v : Value) (wr : World) : Prop :=
  ∃ i : Nat, i ≤ n ∧ v = .int .i64 (i : Int) ∧ (∀ j, j < i → ∀ s, L[j]? = some s → s.key ≠ p) ∧ Blo wr w.heap.size RCT #[.int .i64 room, .slice a n cap] ∧ Blo wr (w.heap.size + 1) RKT #[.int .i64 p.1, .int .i64 p.2] ∧ Below w.heap.size w wr
set_option maxRecDepth 100000 in
set_option maxHeartbeats 4000000 in
theorem find_any (room : Int) (a : Option Addr) (n cap : Nat) (L : List Bk) (p : Int × Int) (w : World) (h : DRow w a n L) (hn : n ≤ 5000) (hp : wfK p) (hk : ∀ s ∈ L, wfK s.key) :
    Calls Try.prog 28 #[.agg #[.int .i64 room, .slice a n cap], .agg #[.int .i64 p.1, .int .i64 p.2]] w fun e w' => e = .returned (.int .i64 (ixK L p)) ∧ Below w.heap.size w w' := by
  have H := Lib.hid h
  have HP := Lib.hid hp
  have HK := Lib.hid hk
  have HL : Hid (n = L.length) := h.len
  obtain ⟨w1, hw1⟩ : ∃ w1, w1 = (w.alloc (.cells #[.int .i64 room, .slice a n cap] RCT)).alloc (.cells #[.int .i64 p.1, .int .i64 p.2] RKT) := ⟨_, rfl⟩
  have HSt : Hid (FndR w room a n cap L p (.int .i64 0) w1) := by
    refine ⟨0, Nat.zero_le _, rfl, fun j hj => absurd hj (Nat.not_lt_zero _), ?_, ?_, ?_⟩
    · rw [hw1]; exact (blo_laid w _ _).alloc _
    · rw [hw1]
      have := blo_laid (w.alloc (.cells #[.int .i64 room, .slice a n cap] RCT)) RKT #[.int .i64 p.1, .int .i64 p.2]
      rw [show (w.alloc (.cells #[.int .i64 room, .slice a n cap] RCT)).heap.size = w.heap.size + 1 by simp] at this
      exact this
    · rw [hw1]; exact (sup_pc9 w _).alloc (by simp) _
  have cs := HSt.out
  obtain ⟨-, -, -, -, hX1, -, -⟩ := cs
  have d1 := hX1.cell 1
  clear hX1 h hp hk
  obtain ⟨k1, k2⟩ := p
  go_enter Try.func28, Try.ntmps28
  go_upto_region 1 with (fail)
  rw [← hw1]
  clear hw1
  go_wp2_with fail
  clear d1
  go_loopw [9] (fun v wr => FndR w room a n cap L (k1, k2) v wr) (fun v _ => n - (intOf v).toNat)
  case atStart => exact HSt.out
  case round =>
    clear HSt
    obtain ⟨i, hi, rfl, hno, hX, hY, hB⟩ := hrel
    have HS := Lib.hid (And.intro hX (And.intro hY hB))
    have HN := Lib.hid hno
    clear hX hY hB hno
    have i0 : (0 : Int) ≤ (i : Int) := by omega
    by_cases hin : i < n
    · have i1 : (i : Int) < (n : Int) := by omega
      obtain ⟨s, hs⟩ : ∃ s, L[i]? = some s := ⟨_, List.getElem?_eq_getElem (by rw [← HL.out]; exact hin)⟩
      obtain ⟨g, rfl, c0, c1⟩ := (H.out.later HS.out.2.2).key hs
      have heq : ∀ W, (Op.equalIn 10000 RKT (.agg #[.int .i64 s.key.1, .int .i64 s.key.2]) (.agg #[.int .i64 k1, .int .i64 k2])).run Try.prog W = .ok (decide (s.key = (k1, k2))) W := fun W => eql_keyR W (p := s.key) (q := (k1, k2)) (HK.out s (List.mem_of_getElem? hs)) HP.out
      have hXd := HS.out.1.drew
      have hYd := HS.out.2.1.drew
      have x0 : wr.drew.cell? ⟨w.heap.size, 1, none⟩ = some (.slice (some ⟨g, 0, none⟩) n cap) := hXd.cell 1
      have y0 : wr.drew.cell? ⟨w.heap.size + 1, 0, none⟩ = some (.int .i64 k1) := hYd.cell 0
      have y1 : wr.drew.cell? ⟨w.heap.size + 1, 1, none⟩ = some (.int .i64 k2) := hYd.cell 1
      have c0 : wr.drew.cell? ⟨g, i * 5, none⟩ = some (.int .i64 s.key.1) := c0
      have c1 : wr.drew.cell? ⟨g, i * 5 + 1, none⟩ = some (.int .i64 s.key.2) := c1
      have HSd : Hid (Below w.heap.size w wr.drew) := HS.out.2.2.drew
      have HXY := Lib.hid (And.intro hXd hYd)
      clear hXd hYd
      by_cases hk : s.key = (k1, k2)
      · have hd : decide (s.key = (k1, k2)) = true := by simpa using hk
        rw [hd] at heq
        have HE : Hid (ixK L (k1, k2) = (i : Int)) := ixK_at HN.out hs hk
        clear hd hk hs HS
        generalize s.key.1 = s1 at *
        generalize s.key.2 = s2 at *
        have HKp : Hid (wr.drew.cell? ⟨w.heap.size, 1, none⟩ = some (.slice (some ⟨g, 0, none⟩) n cap) ∧ wr.drew.cell? ⟨w.heap.size + 1, 0, none⟩ = some (.int .i64 k1) ∧ wr.drew.cell? ⟨w.heap.size + 1, 1, none⟩ = some (.int .i64 k2) ∧ wr.drew.cell? ⟨g, i * 5, none⟩ = some (.int .i64 s1) ∧ wr.drew.cell? ⟨g, i * 5 + 1, none⟩ = some (.int .i64 s2)) := ⟨x0, y0, y1, c0, c1⟩
        go_upto_region 4 with (fail)
        go_region_held (fun W => W.cell? ⟨w.heap.size, 1, none⟩ = some (.slice (some ⟨g, 0, none⟩) n cap) ∧ W.cell? ⟨w.heap.size + 1, 0, none⟩ = some (.int .i64 k1) ∧ W.cell? ⟨w.heap.size + 1, 1, none⟩ = some (.int .i64 k2) ∧ W.cell? ⟨g, i * 5, none⟩ = some (.int .i64 s1) ∧ W.cell? ⟨g, i * 5 + 1, none⟩ = some (.int .i64 s2))
          (first | exact HKp.out)
          (fail)
        all_goals
          go_wp2_with fail
          go_ret
          rw [HE.out]
          exact ⟨rfl, HSd.out⟩
      · have hd : decide (s.key = (k1, k2)) = false := by simpa using hk
        rw [hd] at heq
        have HR : Hid (FndR w room (some ⟨g, 0, none⟩) n cap L (k1, k2) (.int .i64 ((i : Int) + 1)) wr.drew) := by
          refine ⟨i + 1, hin, rfl, fun j hj t ht => ?_, HXY.out.1, HXY.out.2, HSd.out⟩
          by_cases e : j = i
          · subst e
            rw [hs] at ht
            cases ht
            exact hk
          · exact HN.out j (by omega) t ht
        have HM := Lib.hid hin
        clear hd hk hs HS
        generalize s.key.1 = s1 at *
        generalize s.key.2 = s2 at *
        have HKp : Hid (wr.drew.cell? ⟨w.heap.size, 1, none⟩ = some (.slice (some ⟨g, 0, none⟩) n cap) ∧ wr.drew.cell? ⟨w.heap.size + 1, 0, none⟩ = some (.int .i64 k1) ∧ wr.drew.cell? ⟨w.heap.size + 1, 1, none⟩ = some (.int .i64 k2) ∧ wr.drew.cell? ⟨g, i * 5, none⟩ = some (.int .i64 s1) ∧ wr.drew.cell? ⟨g, i * 5 + 1, none⟩ = some (.int .i64 s2)) := ⟨x0, y0, y1, c0, c1⟩
        go_upto_region 4 with (fail)
        go_region_held (fun W => W.cell? ⟨w.heap.size, 1, none⟩ = some (.slice (some ⟨g, 0, none⟩) n cap) ∧ W.cell? ⟨w.heap.size + 1, 0, none⟩ = some (.int .i64 k1) ∧ W.cell? ⟨w.heap.size + 1, 1, none⟩ = some (.int .i64 k2) ∧ W.cell? ⟨g, i * 5, none⟩ = some (.int .i64 s1) ∧ W.cell? ⟨g, i * 5 + 1, none⟩ = some (.int .i64 s2))
          (first | exact HKp.out)
          (fail)
        all_goals
          go_wp2_with fail
          go_roundw
          case rel => exact HR.out
          case measure => have := HM.out; simp [intOf]; omega
    · have i1 : ¬ (i : Int) < (n : Int) := by omega
      have HE : Hid (ixK L (k1, k2) = -1) := ixK_none (fun j hj t ht => HN.out j (by have := HL.out; omega) t ht)
      have HB := Lib.hid HS.out.2.2
      clear HS
      go_wp2_with fail
      go_ret
      rw [HE.out]
      exact ⟨rfl, HB.out⟩
end Go.Proofs.Ytdnkeplmjimjcaa
/-
  The document's New.
-/
namespace Go.Proofs.Ytdnkeplmjimjcaa
open Go.RowKit

/-- The document's cache of no room at all, and its error. -/
def DcN (room : Int) : Value := if 1 ≤ room ∧ room ≤ 4096 then .tuple #[.agg #[.int .i64 room, .slice none 0 0], .int .i64 0] else .tuple #[.agg #[.int .i64 0, .slice none 0 0], .int .i64 22]
set_option maxRecDepth 100000 in
set_option maxHeartbeats 4000000 in
theorem dnew_any (room : Int) (w : World) : Calls Try.prog 10 #[.int .i64 room] w fun e w' => e = .returned (DcN room) ∧ Below w.heap.size w w' := by
  by_cases h : 1 ≤ room ∧ room ≤ 4096
  · unfold DcN
    rw [if_pos h]
    obtain ⟨h1, h2⟩ := h
    have h3 : ¬ room < 1 := by omega
    have h4 : ¬ room > 4096 := by omega
    go_enter Try.func10, Try.ntmps10
    go_wp2
    refine bodyPost_ret (v := .tuple #[.agg #[.int .i64 room, .slice none 0 0], .int .i64 0]) ?_ rfl ⟨rfl, (Below.refl _ _).alloc (Nat.le_refl _) _⟩
    simp [results, Try.results10, go_sem]
  · unfold DcN
    rw [if_neg h]
    by_cases h1 : room < 1
    · clear h
      go_enter Try.func10, Try.ntmps10
      go_wp2
      refine bodyPost_ret (v := .tuple #[.agg #[.int .i64 0, .slice none 0 0], .int .i64 22]) ?_ rfl ⟨rfl, (Below.refl _ _).alloc (Nat.le_refl _) _⟩
      simp [results, Try.results10, go_sem]
    · have h2 : room > 4096 := by omega
      clear h
      go_enter Try.func10, Try.ntmps10
      go_wp2
      refine bodyPost_ret (v := .tuple #[.agg #[.int .i64 0, .slice none 0 0], .int .i64 22]) ?_ rfl ⟨rfl, (Below.refl _ _).alloc (Nat.le_refl _) _⟩
      simp [results, Try.results10, go_sem]
end Go.Proofs.Ytdnkeplmjimjcaa
/-
  The document's Order.
-/
namespace Go.Proofs.Ytdnkeplmjimjcaa
open Go.RowKit

theorem info_rkt : (Try.prog.info? RKT).map (fun i => (i.zero, i.size, i.bytes)) = some (some (.agg #[.int .i64 0, .int .i64 0]), 2, 16) := by kernel_rfl
def DorR (w : World) (room : Int) (a : Option Addr) (n cap : Nat) (L : List Bk) (v t : Value) (wr : World) : Prop :=
  ∃ i : Nat, i ≤ n ∧ t = .int .i64 (i : Int) ∧ wr.ownsRow (w.heap.size + 1) RKT 2 v i (flatP ((L.map Bk.key).take i)) ∧ Blo wr w.heap.size RCT #[.int .i64 room, .slice a n cap] ∧ Below w.heap.size w wr
set_option maxRecDepth 100000 in
set_option maxHeartbeats 4000000 in
theorem dorder_any (room : Int) (a : Option Addr) (n cap : Nat) (L : List Bk) (w : World) (h : DRow w a n L) (hn : n ≤ 5000) :
    Calls Try.prog 19 #[.agg #[.int .i64 room, .slice a n cap]] w fun e w' => ∃ a' cap', e = .returned (.slice a' n cap') ∧ w'.ownsRow (w.heap.size + 1) RKT 2 (.slice a' n cap') n (flatP (L.map Bk.key)) ∧ Below w.heap.size w w' := by
  have H := Lib.hid h
  have HL : Hid (n = L.length) := h.len
  obtain ⟨w1, hw1⟩ : ∃ w1, w1 = w.alloc (.cells #[.int .i64 room, .slice a n cap] RCT) := ⟨_, rfl⟩
  have HSt : Hid (DorR w room a n cap L (.slice none 0 0) (.int .i64 0) w1) := by
    refine ⟨0, Nat.zero_le _, rfl, World.ownsRow_nil _ _ _ _, ?_, ?_⟩
    · rw [hw1]; exact blo_laid w _ _
    · rw [hw1]; exact sup_pc9 w _
  have hX1 := HSt.out
  obtain ⟨-, -, -, -, hX1, -⟩ := hX1
  have d1 := hX1.cell 1
  clear hX1 h
  go_enter Try.func19, Try.ntmps19
  go_upto_region 1 with (fail)
  rw [← hw1]
  clear hw1
  go_wp2_with fail
  clear d1
  go_loopw [3, 8] (fun v t wr => DorR w room a n cap L v t wr) (fun _ t _ => n - (intOf t).toNat)
  case atStart => exact HSt.out
  case round =>
    clear HSt
    obtain ⟨i, hi, rfl, hown, hX, hB⟩ := hrel
    have HS := Lib.hid (And.intro hown (And.intro hX hB))
    clear hown hX hB
    have i0 : (0 : Int) ≤ (i : Int) := by omega
    by_cases hin : i < n
    · have i1 : (i : Int) < (n : Int) := by omega
      obtain ⟨s, hs⟩ : ∃ s, L[i]? = some s := ⟨_, List.getElem?_eq_getElem (by rw [← HL.out]; exact hin)⟩
      obtain ⟨g, rfl, c0, c1⟩ := (H.out.later HS.out.2.2).key hs
      have x0 : wr.cell? ⟨w.heap.size, 1, none⟩ = some (.slice (some ⟨g, 0, none⟩) n cap) := HS.out.2.1.cell 1
      have HTk : Hid ((L.map Bk.key).take (i + 1) = (L.map Bk.key).take i ++ [s.key]) := by
        rw [List.take_add_one, List.getElem?_map, hs]
        exact Lib.hid rfl
      obtain ⟨⟨s1, s2⟩, sd, sdi, sp⟩ := s
      have c0 : wr.cell? ⟨g, i * 5, none⟩ = some (.int .i64 s1) := c0
      have c1 : wr.cell? ⟨g, i * 5 + 1, none⟩ = some (.int .i64 s2) := c1
      have hb6 : Below wr.heap.size wr (wr.alloc (.cells #[.int .i64 s1, .int .i64 s2] RKT)) := sup_pc9 wr _
      have HO6 := Lib.hid (own_later HS.out.1 hb6)
      have HX6 := Lib.hid (HS.out.2.1.later hb6)
      have HB6 := Lib.hid (HS.out.2.2.trans (hb6.mono HS.out.2.2.size))
      have HSrc : Hid (∀ ad, some (⟨wr.heap.size, 0, none⟩ : Addr) = some ad → ∀ j u, (flatP [(s1, s2)])[j]? = some u → (wr.alloc (.cells #[.int .i64 s1, .int .i64 s2] RKT)).cell? (ad.add j) = some u) := laid_srcO wr RKT #[.int .i64 s1, .int .i64 s2] (flatP [(s1, s2)]) rfl
      have HBs : Hid (w.heap.size + 1 ≤ (wr.alloc (.cells #[.int .i64 s1, .int .i64 s2] RKT)).heap.size) := by
        have := HS.out.2.1.lt
        have := hb6.size
        show w.heap.size + 1 ≤ _
        omega
      have HIn : Hid (i < n ∧ n ≤ 5000) := ⟨hin, hn⟩
      clear hb6 hs HS hin
      go_wp2_with (at_builtin; refine wp_append_rowO rfl (.tmp 11) (.tmp 18) 50 rfl (w.heap.size + 1) RKT (.agg #[.int .i64 0, .int .i64 0]) 2 16 Try.underlying50 info_rkt rfl (by decide) (by decide) u3 i (flatP ((L.map Bk.key).take i)) rfl HO6.out (some ⟨wr.heap.size, 0, none⟩) 1 1 (flatP [(s1, s2)]) rfl rfl HSrc.out (flatP_one _) (fun h => by cases h) (by have := HIn.out; omega) HBs.out ?_; intro a7 c7 w7 hown hgrow _; have HR : Hid (DorR w room (some ⟨g, 0, none⟩) n cap L (.slice a7 (i + 1) c7) (.int .i64 ((i : Int) + 1)) w7) := ⟨i + 1, HIn.out.1, rfl, by rw [HTk.out, flatP_app]; exact hown, (Out.of_grown hgrow (X := fun g => u3.ownBlock = some g) (fun g e => e)).blo HX6.out (fun e => by have := (own_blo HO6.out e).1; omega), HB6.out.trans ((Out.of_grown hgrow (X := fun g => u3.ownBlock = some g) (fun g e => e)).below HB6.out.size (fun g _ e => by have := (own_blo HO6.out e).1; omega))⟩; clear hown hgrow)
      have HM := Lib.hid HIn.out.1
      go_roundw
      case rel => exact HR.out
      case measure => have := HM.out; simp [intOf]; omega
    · have i1 : ¬ (i : Int) < (n : Int) := by omega
      obtain rfl : i = n := by omega
      have HO := Lib.hid HS.out.1
      have HB := Lib.hid HS.out.2.2
      clear HS
      go_wp2_with fail
      go_ret
      have ho := HO.out
      rw [List.take_of_length_le (by rw [List.length_map]; have := HL.out; omega)] at ho
      obtain ⟨a', cap', rfl, -⟩ := own_slice ho
      exact ⟨a', cap', rfl, ho, HB.out⟩
end Go.Proofs.Ytdnkeplmjimjcaa
/-
  The document's list of buffers: the place of a key, what is there without it.
-/
namespace Go.Proofs.Ytdnkeplmjimjcaa
open Go.RowKit

theorem split_at {L : List Bk} {i : Nat} {s : Bk} (h : L[i]? = some s) : L = L.take i ++ s :: L.drop (i + 1) := by
  obtain ⟨hi, he⟩ := List.getElem?_eq_some_iff.1 h
  rw [← he, List.getElem_cons_drop, List.take_append_drop]
theorem keys_apart {A B : List Bk} {s : Bk} (hnd : ((A ++ s :: B).map Bk.key).Nodup) : (∀ t ∈ A, t.key ≠ s.key) ∧ (∀ t ∈ B, t.key ≠ s.key) := by
  rw [List.map_append, List.map_cons, List.nodup_append] at hnd
  obtain ⟨-, h2, h3⟩ := hnd
  refine ⟨fun t ht e => ?_, fun t ht e => ?_⟩
  · exact h3 _ (List.mem_map_of_mem ht) _ (List.mem_cons_self) e
  · rw [List.nodup_cons] at h2
    exact h2.1 (e ▸ List.mem_map_of_mem ht)
theorem wo_at {L : List Bk} {i : Nat} {s : Bk} (hnd : (L.map Bk.key).Nodup) (h : L[i]? = some s) : woK L s.key = L.take i ++ L.drop (i + 1) := by
  have e := split_at h
  generalize L.take i = A at *
  generalize L.drop (i + 1) = B at *
  subst e
  obtain ⟨h1, h2⟩ := keys_apart hnd
  unfold woK
  rw [List.filter_append, List.filter_cons]
  simp only [ne_eq, not_true_eq_false, decide_false, Bool.false_eq_true, if_false]
  rw [List.filter_eq_self.2 (fun t ht => by simpa using h1 t ht), List.filter_eq_self.2 (fun t ht => by simpa using h2 t ht)]
theorem find_at {L : List Bk} {i : Nat} {s : Bk} (hnd : (L.map Bk.key).Nodup) (h : L[i]? = some s) : findK L s.key = some s := by
  have e := split_at h
  generalize L.take i = A at *
  generalize L.drop (i + 1) = B at *
  subst e
  obtain ⟨h1, h2⟩ := keys_apart hnd
  unfold findK
  rw [List.find?_append, List.find?_eq_none.2 (fun t ht => by simpa using h1 t ht)]
  simp
theorem set_at {L : List Bk} {i : Nat} {s : Bk} (hnd : (L.map Bk.key).Nodup) (h : L[i]? = some s) (g : Bk → Bk) : setK L s.key g = L.set i (g s) := by
  obtain ⟨hi, he⟩ := List.getElem?_eq_some_iff.1 h
  have e := split_at h
  have hl : (L.take i).length = i := by rw [List.length_take]; omega
  generalize L.take i = A at *
  generalize L.drop (i + 1) = B at *
  subst e
  obtain ⟨h1, h2⟩ := keys_apart hnd
  subst hl
  unfold setK
  rw [List.map_append, List.map_cons, if_pos rfl, List.set_append_right _ _ (Nat.le_refl _), Nat.sub_self, List.set_cons_zero]
  congr 1
  · exact (List.map_congr_left (fun t ht => if_neg (h1 t ht))).trans (List.map_id' _)
  · congr 1
    exact (List.map_congr_left (fun t ht => if_neg (h2 t ht))).trans (List.map_id' _)
theorem ix_some {L : List Bk} {p : Int × Int} (h : 0 ≤ ixK L p) : ∃ (i : Nat) (s : Bk), ixK L p = (i : Int) ∧ L[i]? = some s ∧ s.key = p := by
  unfold ixK at *
  cases hf : L.findIdx? (fun s => decide (s.key = p)) with
  | none => rw [hf] at h; exact absurd h (by decide)
  | some i =>
    rw [List.findIdx?_eq_some_iff_getElem] at hf
    obtain ⟨hi, he, -⟩ := hf
    exact ⟨i, L[i], rfl, List.getElem?_eq_getElem hi, of_decide_eq_true he⟩
theorem ix_neg {L : List Bk} {p : Int × Int} (h : ¬ 0 ≤ ixK L p) : ixK L p = -1 ∧ findK L p = none ∧ woK L p = L := by
  unfold ixK at *
  cases hf : L.findIdx? (fun s => decide (s.key = p)) with
  | some i => rw [hf] at h; exact absurd (Int.natCast_nonneg i) h
  | none =>
    rw [List.findIdx?_eq_none_iff] at hf
    refine ⟨rfl, List.find?_eq_none.2 (fun t ht => by have := hf t ht; simpa using this), List.filter_eq_self.2 (fun t ht => ?_)⟩
    have := hf t ht
    simpa using this
theorem nodup_wo {L : List Bk} (p : Int × Int) (hnd : (L.map Bk.key).Nodup) : ((woK L p).map Bk.key).Nodup := hnd.sublist (List.Sublist.map _ List.filter_sublist)
end Go.Proofs.Ytdnkeplmjimjcaa
/-
  A drawn region with rows that are made, copied and appended to: each row is alive from the operation that makes it to the one that takes it.
-/
namespace Go.Proofs.Ytdnkeplmjimjcaa
open Go.RowKit

structure RowS where
  slot : Nat
  use : Option Nat
  n : Nat
  xs : List Value
def aliveR (D : Nat → Bool) (r : RowS) : Prop := D r.slot = true ∧ ∀ u, r.use = some u → D u = false
structure GR (T : List (Nat × Value)) (R : List RowS) (M : World → Prop) (base : Nat) (e : TypeId) (sz : Nat) (D : Nat → Bool) (X : Nat → Value) (W : World) : Prop where
  dt : DetO T D X
  m : M W
  b : base ≤ W.heap.size
  rows : ∀ r ∈ R, aliveR D r → ∃ a c, X r.slot = .slice a r.n c ∧ W.ownsRow base e sz (.slice a r.n c) r.n r.xs
  apart : ∀ r ∈ R, ∀ s ∈ R, r.slot ≠ s.slot → aliveR D r → aliveR D s → ∀ g, (X r.slot).ownBlock = some g → (X s.slot).ownBlock ≠ some g
def uniqR (R : List RowS) : Prop := ∀ s ∈ R, ∀ t ∈ R, s.slot = t.slot → s = t
def stabM (M : World → Prop) (base : Nat) : Prop := ∀ (W W' : World) (row : Option Nat), M W → W.grownBy W' row → (∀ g, row = some g → base ≤ g) → M W'
section
variable {T : List (Nat × Value)} {R : List RowS} {M : World → Prop} {base : Nat} {e : TypeId} {sz : Nat} {D : Nat → Bool} {X : Nat → Value} {W W' : World}
theorem own_low {v : Value} {n : Nat} {xs : List Value} (h : W.ownsRow base e sz v n xs) {g : Nat} (hg : v.ownBlock = some g) : base ≤ g ∧ g < W.heap.size := by
  rcases h.2 with ⟨q, _⟩ | ⟨g', cap, cur, q, hb, hc, _⟩
  · rw [q] at hg; cases hg
  · rw [q] at hg
    obtain rfl : g' = g := by simpa [Value.ownBlock] using hg
    exact ⟨hb, (Array.getElem?_eq_some_iff.1 hc).1⟩
theorem alive_back {i : Nat} {r : RowS} (h : aliveR (updD D i) r) (hr : r.slot ≠ i) : aliveR D r :=
  ⟨by rw [← updD_ne D i hr]; exact h.1, fun u hu => updD_offO (h.2 u hu)⟩
theorem GR.start {w : World} (hm : M w) (hb : base ≤ w.heap.size) : GR T R M base e sz (fun _ => false) X w :=
  ⟨fun _ _ h => (by cases h), hm, hb, fun _ _ h => (by cases h.1), fun _ _ _ _ _ h => (by cases h.1)⟩
/-- An operation that leaves the world as it is. -/
theorem GR.tell (h : GR T R M base e sz D X W) (i : Nat) (v : Value) (hR : ∀ r ∈ R, r.slot ≠ i) (hv : ∀ x ∈ T, x.1 = i → x.2 = v) : GR T R M base e sz (updD D i) (updV X i v) W :=
  ⟨h.dt.set i v hv, h.m, h.b, fun r hr ha => by
    rw [updV_ne X i v (hR r hr)]
    exact h.rows r hr (alive_back ha (hR r hr)), fun r hr s hs hne h1 h2 => by
    rw [updV_ne X i v (hR r hr), updV_ne X i v (hR s hs)]
    exact h.apart r hr s hs hne (alive_back h1 (hR r hr)) (alive_back h2 (hR s hs))⟩
/-- What a new row leaves. -/
theorem GR.put (h : GR T R M base e sz D X W) (i : Nat) {t : RowS} (ht : t ∈ R) (hi : t.slot = i) (hU : uniqR R) (hT : ∀ x ∈ T, x.1 ≠ i) {a : Option Addr} {c : Nat}
    (hm : M W') (hb : base ≤ W'.heap.size) (ho : W'.ownsRow base e sz (.slice a t.n c) t.n t.xs)
    (hold : ∀ s ∈ R, s.slot ≠ i → aliveR (updD D i) s → ∀ a c, X s.slot = .slice a s.n c → W.ownsRow base e sz (.slice a s.n c) s.n s.xs → W'.ownsRow base e sz (.slice a s.n c) s.n s.xs ∧ ∀ g, (X s.slot).ownBlock = some g → (Value.slice a s.n c).ownBlock = some g)
    (hap : ∀ s ∈ R, s.slot ≠ i → aliveR (updD D i) s → ∀ g, (X s.slot).ownBlock = some g → (Value.slice a t.n c).ownBlock ≠ some g) : GR T R M base e sz (updD D i) (updV X i (.slice a t.n c)) W' := by
  have hk : ∀ s ∈ R, s.slot = i → s = t := fun s hs q => hU s hs t ht (q.trans hi.symm)
  refine ⟨fun x hx hd => ?_, hm, hb, fun r hr ha => ?_, fun r hr s hs hne h1 h2 g hg => ?_⟩
  · rw [updV_ne X i _ (hT x hx)]
    rw [updD_ne D i (hT x hx)] at hd
    exact h.dt x hx hd
  · by_cases e1 : r.slot = i
    · have := hk r hr e1
      subst this
      rw [e1, updV_at]
      exact ⟨a, c, rfl, ho⟩
    · rw [updV_ne X i _ e1]
      obtain ⟨a', c', q1, q2⟩ := h.rows r hr (alive_back ha e1)
      exact ⟨a', c', q1, (hold r hr e1 ha a' c' q1 q2).1⟩
  · by_cases e1 : r.slot = i
    · have e2 : s.slot ≠ i := fun q => hne (e1.trans q.symm)
      have := hk r hr e1
      subst this
      rw [e1, updV_at] at hg
      rw [updV_ne X i _ e2]
      intro q
      exact hap s hs e2 h2 g q hg
    · rw [updV_ne X i _ e1] at hg
      by_cases e2 : s.slot = i
      · have := hk s hs e2
        subst this
        rw [e2, updV_at]
        exact hap r hr e1 h1 g hg
      · rw [updV_ne X i _ e2]
        exact h.apart r hr s hs hne (alive_back h1 e1) (alive_back h2 e2) g hg
/-- A new block. -/
theorem GR.lay (h : GR T R M base e sz D X W) (hU : uniqR R) (hS : stabM M base) (i : Nat) {t : RowS} (ht : t ∈ R) (hi : t.slot = i) (hT : ∀ x ∈ T, x.1 ≠ i) (o : Obj) {c : Nat}
    (ho : (W.alloc o).ownsRow base e sz (.slice (some ⟨W.heap.size, 0, none⟩) t.n c) t.n t.xs) : GR T R M base e sz (updD D i) (updV X i (.slice (some ⟨W.heap.size, 0, none⟩) t.n c)) (W.alloc o) := by
  have hb : Below W.heap.size W (W.alloc o) := (Below.refl _ _).alloc (Nat.le_refl _) o
  refine h.put i ht hi hU hT (hS _ _ none h.m (grown_of_below hb none) (fun g e => by cases e)) (Nat.le_trans h.b hb.size) ho (fun s hs hne ha a' c' q1 q2 => ⟨own_later q2 hb, fun g hg => by rw [← q1]; exact hg⟩) (fun s hs hne ha g hg q => ?_)
  obtain ⟨a', c', q1, q2⟩ := h.rows s hs (alive_back ha hne)
  rw [q1] at hg
  have := (own_low q2 hg).2
  simp [Value.ownBlock] at q
  omega
/-- An append onto a row. -/
theorem GR.app (h : GR T R M base e sz D X W) (hU : uniqR R) (hS : stabM M base) (i : Nat) {t r : RowS} (ht : t ∈ R) (hi : t.slot = i) (hT : ∀ x ∈ T, x.1 ≠ i) (hr : r ∈ R) (hu : r.use = some i) (hra : aliveR D r) {a : Option Addr} {c : Nat}
    (ho : W'.ownsRow base e sz (.slice a t.n c) t.n t.xs) (hg : W.grownBy W' (X r.slot).ownBlock) (hat : (Value.slice a t.n c).ownBlock = (X r.slot).ownBlock ∨ (Value.slice a t.n c).ownBlock = some W.heap.size) : GR T R M base e sz (updD D i) (updV X i (.slice a t.n c)) W' := by
  have hne : ∀ s ∈ R, aliveR (updD D i) s → s.slot ≠ r.slot := fun s hs ha q => by
    have := hU s hs r hr q
    subst this
    have := ha.2 i hu
    rw [updD_at] at this
    cases this
  have hout : Out (fun g => (X r.slot).ownBlock = some g) W W' := Out.of_grown hg (fun g e => e)
  refine h.put i ht hi hU hT (hS _ _ _ h.m hg (fun g hg' => by obtain ⟨a', c', q1, q2⟩ := h.rows r hr hra; rw [q1] at hg'; exact (own_low q2 hg').1)) (Nat.le_trans h.b hg.size) ho (fun s hs hn ha a' c' q1 q2 => ⟨hout.own q2 (fun g hg' hx => ?_), fun g hg => by rw [← q1]; exact hg⟩) (fun s hs hn ha g hg' q => ?_)
  · rw [← q1] at hg'
    exact h.apart s hs r hr (hne s hs ha) (alive_back ha hn) hra g hg' hx
  · obtain ⟨a', c', q1, q2⟩ := h.rows s hs (alive_back ha hn)
    rcases hat with e1 | e1
    · rw [e1] at q
      exact h.apart s hs r hr (hne s hs ha) (alive_back ha hn) hra g hg' q
    · rw [e1] at q
      rw [q1] at hg'
      have := (own_low q2 hg').2
      cases q
      omega
/-- A row that is new, with all its cells. -/
theorem own_laid (w : World) (base : Nat) (e : TypeId) (sz n : Nat) (cs : Array Value) (hb : base ≤ w.heap.size) (hs : cs.size = n * sz) (hn : n ≤ maxLen) : (w.alloc (.cells cs e)).ownsRow base e sz (.slice (some ⟨w.heap.size, 0, none⟩) n n) n cs.toList :=
  ⟨by simpa using hs, .inr ⟨w.heap.size, n, cs, rfl, hb, heap_alloc_new w _, Nat.le_refl _, hn, hs, List.take_of_length_le (by simp [hs])⟩⟩
end
end Go.Proofs.Ytdnkeplmjimjcaa
/-
  The document's cache without the buffer at a place.
-/
namespace Go.Proofs.Ytdnkeplmjimjcaa
open Go.RowKit

theorem DRow.tail {w : World} {g n cap i : Nat} {L : List Bk} (h : DRow w (some ⟨g, 0, none⟩) n L) (hi : i < n) (hc : n ≤ cap) {sl : Addr} (hsl : (if cap = i + 1 then some (⟨g, 0, none⟩ : Addr) else some ⟨g, (i + 1) * 5, none⟩) = some sl) :
    ∀ ad, some sl = some ad → ∀ j u, (flatD (L.drop (i + 1)))[j]? = some u → w.cell? (ad.add j) = some u := fun ad e j u hj => by
  by_cases hcap : cap = i + 1
  · rw [List.drop_eq_nil_of_le (by have := h.len; omega)] at hj
    cases hj
  · rw [if_neg hcap] at hsl
    exact h.from (i + 1) ad (hsl.trans e) j u hj
theorem wo_done {w W : World} {room : Int} {i n k : Nat} {a7 : Option Addr} {c7 : Nat} {L : List Bk} {cx cz : Array Value} (hi : i < n) (hk : 0 + i + (n - (i + 1)) = k) (hB : Bx2 w RCT RCT cx cz W)
    (hO : W.ownsRow (w.heap.size + 2) RBT 5 (.slice a7 k c7) k (([] ++ flatD (L.take i)) ++ flatD (L.drop (i + 1)))) :
    ∃ a' cap', Ending.returned (.agg #[.int .i64 room, .slice a7 k c7]) = .returned (.agg #[.int .i64 room, .slice a' (n - 1) cap']) ∧ (W.setRow (w.heap.size + 1) #[.int .i64 room, .slice a7 k c7]).ownsRow w.heap.size RBT 5 (.slice a' (n - 1) cap') (n - 1) (flatD (L.take i ++ L.drop (i + 1))) ∧ Below w.heap.size w (W.setRow (w.heap.size + 1) #[.int .i64 room, .slice a7 k c7]) := by
  obtain rfl : k = n - 1 := by omega
  refine ⟨a7, c7, rfl, ?_, (hB.row2 _).b⟩
  rw [flatD_app]
  exact own_weak ((out_row (X := fun g => g = w.heap.size + 1) W _ _ rfl).own hO (fun g hg e => by have := (own_low hO hg).1; omega)) (by omega)
set_option maxRecDepth 100000 in
set_option maxHeartbeats 4000000 in
theorem without_any (room : Int) (g n cap i : Nat) (L : List Bk) (w : World) (h : DRow w (some ⟨g, 0, none⟩) n L) (hn : n ≤ 5000) (hc : n ≤ cap) (hi : i < n) :
    Calls Try.prog 30 #[.agg #[.int .i64 room, .slice (some ⟨g, 0, none⟩) n cap], .int .i64 (i : Int)] w fun e w' => ∃ a' cap', e = .returned (.agg #[.int .i64 room, .slice a' (n - 1) cap']) ∧ w'.ownsRow w.heap.size RBT 5 (.slice a' (n - 1) cap') (n - 1) (flatD (L.take i ++ L.drop (i + 1))) ∧ Below w.heap.size w w' := by
  have HRow := Lib.hid h
  have HL : Hid (n = L.length) := h.len
  obtain ⟨w1, hw1⟩ : ∃ w1, w1 = (w.alloc (.cells #[.int .i64 room, .slice (some ⟨g, 0, none⟩) n cap] RCT)).alloc (.cells #[.int .i64 0, .slice none 0 0] RCT) := ⟨_, rfl⟩
  have HB0 : Hid (Bx2 w RCT RCT #[.int .i64 room, .slice (some ⟨g, 0, none⟩) n cap] #[.int .i64 0, .slice none 0 0] w1) := by
    refine ⟨?_, ?_, ?_⟩
    · rw [hw1]; exact (blo_laid w _ _).alloc _
    · rw [hw1]
      have := blo_laid (w.alloc (.cells #[.int .i64 room, .slice (some ⟨g, 0, none⟩) n cap] RCT)) RCT #[.int .i64 0, .slice none 0 0]
      rw [show (w.alloc (.cells #[.int .i64 room, .slice (some ⟨g, 0, none⟩) n cap] RCT)).heap.size = w.heap.size + 1 by simp] at this
      exact this
    · rw [hw1]; exact (sup_pc9 w _).alloc (by simp) _
  have x1 : w1.drew.cell? ⟨w.heap.size, 1, none⟩ = some (.slice (some ⟨g, 0, none⟩) n cap) := HB0.out.x.cell 1
  have HT1 : Hid ((flatD (L.take i)).length = i * 5) := by
    show _ = _
    rw [flatD_len, List.length_take]; have := HL.out; omega
  have HT2 : Hid ((flatD (L.drop (i + 1))).length = (n - (i + 1)) * 5) := by
    show _ = _
    rw [flatD_len, List.length_drop]; have := HL.out; omega
  have hM0 : Bx2 w RCT RCT #[.int .i64 room, .slice (some ⟨g, 0, none⟩) n cap] #[.int .i64 0, .slice none 0 0] w1.drew ∧ DRow w1.drew (some ⟨g, 0, none⟩) n L := ⟨HB0.out.later ((Below.refl _ _).drew), HRow.out.later (HB0.out.b.drew)⟩
  have hb0 : w.heap.size + 2 ≤ w1.drew.heap.size := HB0.out.size
  have hMS : stabM (fun W => Bx2 w RCT RCT #[.int .i64 room, .slice (some ⟨g, 0, none⟩) n cap] #[.int .i64 0, .slice none 0 0] W ∧ DRow W (some ⟨g, 0, none⟩) n L) (w.heap.size + 2) := fun W W' row hm hg hr => ⟨hm.1.grown hg hr, HRow.out.later (hm.1.grown hg hr).b⟩
  have hic : i ≤ cap := by omega
  have wi : IntKind.i64.wrap ((i : Int) + 1) = (i : Int) + 1 := IntWalk.i64_in _ (by omega)
  have hi1 : (0 : Int) ≤ (i : Int) + 1 ∧ (i : Int) + 1 ≤ (n : Int) := by omega
  obtain ⟨sl, hsl⟩ : ∃ sl : Addr, (if cap = i + 1 then some (⟨g, 0, none⟩ : Addr) else some ⟨g, (i + 1) * 5, none⟩) = some sl := by
    split
    · exact ⟨_, rfl⟩
    · exact ⟨_, rfl⟩
  have HSl := Lib.hid hsl
  clear h
  go_enter Try.func30, Try.ntmps30
  go_upto_region 1 with (fail)
  rw [← hw1]
  clear hw1
  obtain ⟨TL, hTL⟩ : ∃ TL : List (Nat × Value), TL = [(1, .pointer (some ⟨w.heap.size, 1, none⟩)), (2, .slice (some ⟨g, 0, none⟩) n cap), (3, .int .i64 (i : Int)), (4, .slice (some ⟨g, 0, none⟩) i cap), (6, .pointer (some ⟨w.heap.size, 1, none⟩)), (7, .slice (some ⟨g, 0, none⟩) n cap), (8, .int .i64 (i : Int)), (9, .int .i64 ((i : Int) + 1)), (10, .slice (some sl) (n - (i + 1)) (cap - (i + 1)))] := ⟨_, rfl⟩
  obtain ⟨RL, hRL⟩ : ∃ RL : List RowS, RL = [⟨0, some 5, 0, []⟩, ⟨5, some 11, 0 + i, [] ++ flatD (L.take i)⟩, ⟨11, none, 0 + i + (n - (i + 1)), ([] ++ flatD (L.take i)) ++ flatD (L.drop (i + 1))⟩] := ⟨_, rfl⟩
  have hU : uniqR RL := by intro x hx y hy e; simp only [hRL, List.mem_cons, List.not_mem_nil, or_false] at hx hy; rcases hx with rfl | rfl | rfl <;> rcases hy with rfl | rfl | rfl <;> first | rfl | (exfalso; simp at e; done) | fail
  refine wp_region_inv (n := 12) [(0, 5), (1, 6), (2, 7), (3, 8), (4, 9), (5, 10), (6, 11), (7, 12), (8, 13), (9, 14), (10, 15), (11, 16)] (GR TL RL (fun W => Bx2 w RCT RCT #[.int .i64 room, .slice (some ⟨g, 0, none⟩) n cap] #[.int .i64 0, .slice none 0 0] W ∧ DRow W (some ⟨g, 0, none⟩) n L) (w.heap.size + 2) RBT 5) (by kernel_rfl) (by kernel_rfl) (by kernel_rfl) (fun X => by simp only [putL, Act.put, List.setIfInBounds_toArray, List.set_cons_zero, List.set_cons_succ]; rfl) (fun X => GR.start hM0 hb0) ?_ ?_
  · show StepsI _ _ _ _ _ 0 [_, _, _, _, _, _, _, _, _, _, _, _]
    refine ⟨fun D X W hDi hd hI K hK => ?_, ?_⟩
    · have hA := hI.lay hU hMS 0 (t := ⟨0, some 5, 0, []⟩) (by simp [hRL]) rfl (by simp [hTL]) (.cells #[] RBT) (c := 0) (own_empty W (w.heap.size + 2) RBT 5 hI.b)
      exact stepO_run (v := .slice (some ⟨W.heap.size, 0, none⟩) (0) (0)) (w' := W.alloc (.cells #[] RBT)) (by simp [Region.wanted]) (by simp [go_sem, execOp]) (hK _ _ hA)
    refine ⟨fun D X W hDi hd hI K hK => ?_, ?_⟩
    · exact stepO_run (v := .pointer (some ⟨w.heap.size, 1, none⟩)) (w' := W) (by simp [Region.wanted]) (by simp [go_sem, execOp]) (hK _ _ (hI.tell 1 _ (by simp [hRL]) (by simp [hTL])))
    refine ⟨fun D X W hDi hd hI K hK => ?_, ?_⟩
    · have a1 := hI.dt (1, .pointer (some ⟨w.heap.size, 1, none⟩)) (by simp [hTL]) (hd ⟨1, .data⟩ (by simp) rfl)
      have cW := hI.m.1.x.cell 1
      exact stepO_run (v := .slice (some ⟨g, 0, none⟩) n cap) (w' := W) (by simp [Region.wanted]) (by simp [go_sem, execOp, a1, cW]) (hK _ _ (hI.tell 2 _ (by simp [hRL]) (by simp [hTL])))
    refine ⟨fun D X W hDi hd hI K hK => ?_, ?_⟩
    · exact stepO_run (v := .int .i64 (i : Int)) (w' := W) (by simp [Region.wanted]) (by simp [go_sem, execOp]) (hK _ _ (hI.tell 3 _ (by simp [hRL]) (by simp [hTL])))
    refine ⟨fun D X W hDi hd hI K hK => ?_, ?_⟩
    · have a2 := hI.dt (2, .slice (some ⟨g, 0, none⟩) n cap) (by simp [hTL]) (hd ⟨2, .data⟩ (by simp) rfl)
      have a3 := hI.dt (3, .int .i64 (i : Int)) (by simp [hTL]) (hd ⟨3, .data⟩ (by simp) rfl)
      exact stepO_run (v := .slice (some ⟨g, 0, none⟩) i cap) (w' := W) (by simp [Region.wanted]) (by simp [go_sem, execOp, a2, a3, hic]) (hK _ _ (hI.tell 4 _ (by simp [hRL]) (by simp [hTL])))
    refine ⟨fun D X W hDi hd hI K hK => ?_, ?_⟩
    · have a4 := hI.dt (4, .slice (some ⟨g, 0, none⟩) i cap) (by simp [hTL]) (hd ⟨4, .data⟩ (by simp) rfl)
      have hra : aliveR D ⟨0, some 5, 0, []⟩ := ⟨hd ⟨0, .data⟩ (by simp) rfl, fun u hu => by cases hu; exact hDi⟩
      obtain ⟨a, c, q1, q2⟩ := hI.rows ⟨0, some 5, 0, []⟩ (by simp [hRL]) hra
      have q1 : X 0 = .slice a (0) c := q1
      refine step_append_row (by rfl) (.tmp 5) (.tmp 9) RBS (by rfl) (w.heap.size + 2) RBT _ 5 48 Try.underlying28 info_rbt (by kernel_rfl) (by decide) (by decide) (.slice a (0) c) (0) _ (by simp [go_sem, q1]) q2 (some ⟨g, 0, none⟩) (i) (cap) (flatD (L.take i)) (by simp [go_sem, a4]) (HT1.out) (hI.m.2.upto i) (flatD_one _) (fun h => by cases h) (by omega) hI.b (fun v' w7 hown hgrow hat => ?_)
      obtain ⟨a7, c7, rfl, -⟩ := own_slice hown
      exact hK _ _ (hI.app hU hMS 5 (t := ⟨5, some 11, 0 + i, [] ++ flatD (L.take i)⟩) (r := ⟨0, some 5, 0, []⟩) (by simp [hRL]) rfl (by simp [hTL]) (by simp [hRL]) rfl hra hown (by show W.grownBy w7 (X 0).ownBlock; rw [q1]; exact hgrow) (by show _ = (X 0).ownBlock ∨ _; rw [q1]; exact hat))
    refine ⟨fun D X W hDi hd hI K hK => ?_, ?_⟩
    · exact stepO_run (v := .pointer (some ⟨w.heap.size, 1, none⟩)) (w' := W) (by simp [Region.wanted]) (by simp [go_sem, execOp]) (hK _ _ (hI.tell 6 _ (by simp [hRL]) (by simp [hTL])))
    refine ⟨fun D X W hDi hd hI K hK => ?_, ?_⟩
    · have a6 := hI.dt (6, .pointer (some ⟨w.heap.size, 1, none⟩)) (by simp [hTL]) (hd ⟨6, .data⟩ (by simp) rfl)
      have cW := hI.m.1.x.cell 1
      exact stepO_run (v := .slice (some ⟨g, 0, none⟩) n cap) (w' := W) (by simp [Region.wanted]) (by simp [go_sem, execOp, a6, cW]) (hK _ _ (hI.tell 7 _ (by simp [hRL]) (by simp [hTL])))
    refine ⟨fun D X W hDi hd hI K hK => ?_, ?_⟩
    · exact stepO_run (v := .int .i64 (i : Int)) (w' := W) (by simp [Region.wanted]) (by simp [go_sem, execOp]) (hK _ _ (hI.tell 8 _ (by simp [hRL]) (by simp [hTL])))
    refine ⟨fun D X W hDi hd hI K hK => ?_, ?_⟩
    · have a8 := hI.dt (8, .int .i64 (i : Int)) (by simp [hTL]) (hd ⟨8, .data⟩ (by simp) rfl)
      exact stepO_run (v := .int .i64 ((i : Int) + 1)) (w' := W) (by simp [Region.wanted]) (by simp [go_sem, execOp, a8, wi]) (hK _ _ (hI.tell 9 _ (by simp [hRL]) (by simp [hTL])))
    refine ⟨fun D X W hDi hd hI K hK => ?_, ?_⟩
    · have a7 := hI.dt (7, .slice (some ⟨g, 0, none⟩) n cap) (by simp [hTL]) (hd ⟨7, .data⟩ (by simp) rfl)
      have a9 := hI.dt (9, .int .i64 ((i : Int) + 1)) (by simp [hTL]) (hd ⟨9, .data⟩ (by simp) rfl)
      exact stepO_run (v := .slice (some sl) (n - (i + 1)) (cap - (i + 1))) (w' := W) (by simp [Region.wanted]) (by simp [go_sem, execOp, a7, a9, hi1, hsl]) (hK _ _ (hI.tell 10 _ (by simp [hRL]) (by simp [hTL])))
    refine ⟨fun D X W hDi hd hI K hK => ?_, ?_⟩
    · have a10 := hI.dt (10, .slice (some sl) (n - (i + 1)) (cap - (i + 1))) (by simp [hTL]) (hd ⟨10, .data⟩ (by simp) rfl)
      have hra : aliveR D ⟨5, some 11, 0 + i, [] ++ flatD (L.take i)⟩ := ⟨hd ⟨5, .data⟩ (by simp) rfl, fun u hu => by cases hu; exact hDi⟩
      obtain ⟨a, c, q1, q2⟩ := hI.rows ⟨5, some 11, 0 + i, [] ++ flatD (L.take i)⟩ (by simp [hRL]) hra
      have q1 : X 5 = .slice a (0 + i) c := q1
      refine step_append_row (by rfl) (.tmp 10) (.tmp 15) RBS (by rfl) (w.heap.size + 2) RBT _ 5 48 Try.underlying28 info_rbt (by kernel_rfl) (by decide) (by decide) (.slice a (0 + i) c) (0 + i) _ (by simp [go_sem, q1]) q2 (some sl) (n - (i + 1)) (cap - (i + 1)) (flatD (L.drop (i + 1))) (by simp [go_sem, a10]) (HT2.out) (hI.m.2.tail hi hc hsl) (flatD_one _) (fun h => by cases h) (by omega) hI.b (fun v' w7 hown hgrow hat => ?_)
      obtain ⟨a7, c7, rfl, -⟩ := own_slice hown
      exact hK _ _ (hI.app hU hMS 11 (t := ⟨11, none, 0 + i + (n - (i + 1)), ([] ++ flatD (L.take i)) ++ flatD (L.drop (i + 1))⟩) (r := ⟨5, some 11, 0 + i, [] ++ flatD (L.take i)⟩) (by simp [hRL]) rfl (by simp [hTL]) (by simp [hRL]) rfl hra hown (by show W.grownBy w7 (X 5).ownBlock; rw [q1]; exact hgrow) (by show _ = (X 5).ownBlock ∨ _; rw [q1]; exact hat))
    exact True.intro
  · intro D X W hD hI
    obtain ⟨a7, c7, q1, q2⟩ := hI.rows ⟨11, none, 0 + i + (n - (i + 1)), ([] ++ flatD (L.take i)) ++ flatD (L.drop (i + 1))⟩ (by simp [hRL]) ⟨hD 11 (by decide), fun u hu => by cases hu⟩
    have q1 : X 11 = .slice a7 (0 + i + (n - (i + 1))) c7 := q1
    have HO7 := Lib.hid q2
    have HB7 := Lib.hid hI.m.1
    simp only [q1]
    clear hI hD hTL hRL hU q1 q2 hM0 hMS hb0 x1 hsl
    have c0 : W.cell? ⟨w.heap.size, 0, none⟩ = some (.int .i64 room) := HB7.out.x.cell 0
    have c1 : W.cell? ⟨w.heap.size, 1, none⟩ = some (.slice (some ⟨g, 0, none⟩) n cap) := HB7.out.x.cell 1
    have z0 : W.cell? ⟨w.heap.size + 1, 0, none⟩ = some (.int .i64 0) := HB7.out.z.cell 0
    have z1 : W.cell? ⟨w.heap.size + 1, 1, none⟩ = some (.slice none 0 0) := HB7.out.z.cell 1
    generalize hk : 0 + i + (n - (i + 1)) = k at *
    have HK := Lib.hid hk
    clear hk
    have f1 : W.frozen? ⟨w.heap.size, 1, none⟩ = false := HB7.out.x.frozen 1
    go_upto_region 2 with (fail)
    have HB8 : Hid (Bx2 w RCT RCT #[.int .i64 room, .slice a7 k c7] #[.int .i64 0, .slice none 0 0] (W.setCell ⟨w.heap.size, 1, none⟩ (.slice a7 k c7))) := HB7.out.put1 1 _
    have HO8 := Lib.hid (own_far HO7.out (p := ⟨w.heap.size, 1, none⟩) (fun e => by have := (own_low HO7.out e.symm).1; show False; simp at this; omega) (.slice a7 k c7))
    clear HO7 HB7 c0 c1 z0 z1 f1
    generalize W.setCell ⟨w.heap.size, 1, none⟩ (.slice a7 k c7) = W8 at *
    have hg1 := HB8.out.x
    have hg2 := HB8.out.z
    go_wp2_with (first | (refine wpList_load_row rfl RCT (.tmp 2) rfl w.heap.size rfl RCT #[.int .i64 room, .slice a7 k c7] (0, 0) _ hg1 Try.underlying30 rfl (by kernel_rfl) ?_) | (refine wpList_store_row rfl RCT (.tmp 4) (.tmp 18) rfl (w.heap.size + 1) #[.int .i64 room, .slice a7 k c7] (by first | rfl | simp [go_sem]) (by first | rfl | simp [go_sem]) RCT _ hg2 (by kernel_rfl) rfl (by simp [Value.oneCell']) ?_))
    (try simp only [Exit.inBlock, Exit.then])
    exact bodyPost_ret (results_cell_row (p := 4) (ty := RCT) rfl _ _ (w.heap.size + 1) RCT #[.int .i64 room, .slice a7 k c7] (0, 0) _ (by simp [Act.put]) (HB8.out.row2 _).z Try.underlying30 rfl (by kernel_rfl)) rfl (wo_done hi HK.out HB8.out HO8.out)
end Go.Proofs.Ytdnkeplmjimjcaa
