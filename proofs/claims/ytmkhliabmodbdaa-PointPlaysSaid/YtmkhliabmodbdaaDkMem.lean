/-
  A disk in memory: its six words, two rows of blocks, the queue of writes.
-/
import Derived.Test.YtmkhliabmodbdaaOut
import Derived.Test.YtmkhliabmodbdaaKit
import Derived.Test.YtmkhliabmodbdaaRows
namespace Go.Proofs.Ytmkhliabmodbdaa
open Go.RowKit

abbrev DSK := 84
abbrev BLK := 89
abbrev WRT := 91
abbrev U8 := 5
theorem info_blk : (Try.prog.info? 89).map (fun i => (i.size, i.bytes)) = some (64, 64) := by kernel_rfl
theorem zero_blk : (Try.prog.info? 89).map (fun i => i.zero.map Value.cells) = some (some (Array.replicate 64 (.int .u8 0))) := by kernel_rfl
theorem size_blk : (Try.prog.info? 89).map (·.size) = some 64 := by kernel_rfl
theorem size_wrt : (Try.prog.info? 91).map (·.size) = some 65 := by kernel_rfl
/-- A row of n blocks. -/
structure Rw (w : World) (g n : Nat) (F : Nat → List Nat) : Prop where
  blk : ∃ cs, Blo w g BLK cs ∧ cs.size = n * 64 ∧ ∀ i, i < n → ∀ j, j < 64 → cs[i * 64 + j]? = some (.int .u8 ((F i).getD j 0 : Nat))
  len : ∀ i, (F i).length = 64
  byte : ∀ i, ∀ x ∈ F i, x < 256
def updB (F : Nat → List Nat) (i : Nat) (l : List Nat) : Nat → List Nat := fun j => if j = i then l else F j
theorem updB_at (F : Nat → List Nat) (i : Nat) (l : List Nat) : updB F i l i = l := by simp [updB]
theorem updB_ne (F : Nat → List Nat) {i j : Nat} (l : List Nat) (h : j ≠ i) : updB F i l j = F j := by simp [updB, h]
section
variable {w w' : World} {g n i : Nat} {F : Nat → List Nat} {l : List Nat}
theorem Rw.lt (h : Rw w g n F) : g < w.heap.size := by obtain ⟨cs, h1, _⟩ := h.blk; exact h1.lt
theorem Rw.out {X : Nat → Prop} (h : Rw w g n F) (ho : Out X w w') (hx : ¬ X g) : Rw w' g n F := by
  obtain ⟨⟨cs, h1, h2, h3⟩, h4, h5⟩ := h
  exact ⟨⟨cs, ho.blo h1 hx, h2, h3⟩, h4, h5⟩
theorem Rw.later (h : Rw w g n F) (hb : Below w.heap.size w w') : Rw w' g n F := h.out (X := fun _ => False) (Out.of_below hb) (fun h => h)
theorem Rw.cell (h : Rw w g n F) (hi : i < n) {j : Nat} (hj : j < 64) : w.cell? ⟨g, i * 64 + j, none⟩ = some (.int .u8 ((F i).getD j 0 : Nat)) := by
  obtain ⟨⟨cs, h1, h2, h3⟩, h4, h5⟩ := h
  rw [h1.cell]
  exact h3 i hi j hj
theorem Rw.range (h : Rw w g n F) (hi : i < n) : w.rangeAt g (i * 64) (cellsB (F i)) := fun j v hv => by
  have hj : j < 64 := by
    have := (List.getElem?_eq_some_iff.1 hv).1
    rw [cellsB_length, h.len] at this
    exact this
  rw [cellsB_get _ _ (by rw [h.len]; exact hj)] at hv
  cases hv
  exact h.cell hi hj
theorem Rw.there (h : Rw w g n F) (hi : i < n) : w.there g (i * 64) 64 := fun j hj =>
  ⟨by rw [h.cell hi hj]; rfl, by obtain ⟨cs, h1, _⟩ := h.blk; exact h1.frozen _⟩
theorem Rw.put (h : Rw w g n F) (hi : i < n) (hl : l.length = 64) (hb : ∀ x ∈ l, x < 256) : Rw (w.setCells g (i * 64) (cellsB l)) g n (updB F i l) := by
  obtain ⟨⟨cs, h1, h2, h3⟩, h4, h5⟩ := h
  obtain ⟨cs', k1, k2, k3⟩ := blo_cells (cellsB l) (i * 64) w cs h1
  refine ⟨⟨cs', k1, by rw [k2, h2], fun a ha j hj => ?_⟩, fun a => ?_, fun a x hx => ?_⟩
  · rw [k3, cellsB_length, hl]
    by_cases e : a = i
    · subst e
      rw [if_pos ⟨by omega, by omega, by omega⟩, updB_at, show a * 64 + j - a * 64 = j by omega, cellsB_get _ _ (by omega)]
    · rw [if_neg (by omega), updB_ne _ _ e]
      exact h3 a ha j hj
  · by_cases e : a = i
    · subst e; rw [updB_at]; exact hl
    · rw [updB_ne _ _ e]; exact h4 a
  · by_cases e : a = i
    · subst e; rw [updB_at] at hx; exact hb x hx
    · rw [updB_ne _ _ e] at hx; exact h5 a x hx
end
def zeroB : List Nat := List.replicate 64 0
theorem zeroB_length : zeroB.length = 64 := by decide
theorem zeroB_byte : ∀ x ∈ zeroB, x < 256 := fun x hx => by rw [List.eq_of_mem_replicate hx]; decide
theorem zeroB_get (j : Nat) : zeroB.getD j 0 = 0 := by
  rw [List.getD_eq_getElem?_getD, zeroB, List.getElem?_replicate]
  split <;> rfl
def zeroRow (n : Nat) : Array Value := madeCells (Array.replicate 64 (.int .u8 0)) (n * 64)
theorem zeroRow_size (n : Nat) : (zeroRow n).size = n * 64 := by simp [zeroRow, size_madeCells]
theorem zeroRow_get (n j : Nat) (h : j < n * 64) : (zeroRow n)[j]? = some (.int .u8 0) := by
  have hs := zeroRow_size n
  rw [Array.getElem?_eq_getElem (by omega)]
  simp [zeroRow, madeCells]
  rw [getElem!_pos _ _ (by simp; omega)]
  simp
theorem rw_zero (w : World) (n : Nat) : Rw (w.alloc (.cells (zeroRow n) BLK)) w.heap.size n (fun _ => zeroB) :=
  ⟨⟨_, blo_laid w _ _, zeroRow_size n, fun i hi j hj => by rw [zeroRow_get n _ (by omega), zeroB_get]; rfl⟩, fun _ => zeroB_length, fun _ => zeroB_byte⟩
theorem run_blks (w : World) (n : Nat) (hn : n ≤ 5000) :
    (Instr.makeSlice 81 (.int .i64 (n : Int)) (.int .i64 (n : Int))).run Try.prog w = .ok (.slice (some ⟨w.heap.size, 0, none⟩) n n) (w.alloc (.cells (zeroRow n) BLK)) := by
  cases hi : Try.prog.info? 89 with
  | none => have := size_blk; rw [hi] at this; cases this
  | some i =>
    have h1 := info_blk
    have h2 := zero_blk
    rw [hi] at h1 h2
    simp only [Option.map_some, Option.some.injEq, Prod.mk.injEq] at h1 h2
    cases hz : i.zero with
    | none => rw [hz] at h2; cases h2
    | some z =>
      rw [hz] at h2
      simp only [Option.map_some, Option.some.injEq] at h2
      have hr := run_make (P := Try.prog) w 81 BLK i z Try.underlying81 hi hz .i64 .i64 n n (by omega) (Int.le_refl _) (by rw [h1.2]; omega) (by omega)
      simp only [Int.toNat_natCast] at hr
      rw [hr, h1.1, h2]
      rfl
/-- One write of the queue, as it lies. -/
def wrtC (p : Nat × List Nat) : List Value := .int .i64 p.1 :: cellsB p.2
def cellsW (Q : List (Nat × List Nat)) : List Value := Q.flatMap wrtC
theorem cellsW_nil : cellsW [] = [] := rfl
theorem cellsW_append (Q R : List (Nat × List Nat)) : cellsW Q ++ cellsW R = cellsW (Q ++ R) := by simp [cellsW]
theorem cellsW_one (p : Nat × List Nat) : cellsW [p] = wrtC p := by simp [cellsW]
def GoodW (n : Nat) (p : Nat × List Nat) : Prop := p.1 < n ∧ p.2.length = 64 ∧ ∀ x ∈ p.2, x < 256
theorem wrtC_length {n : Nat} {p : Nat × List Nat} (h : GoodW n p) : (wrtC p).length = 65 := by simp [wrtC, cellsB_length, h.2.1]
theorem wrtC_one (p : Nat × List Nat) : ∀ v ∈ wrtC p, v.oneCell' = true := fun v hv => by
  simp only [wrtC, List.mem_cons, cellsB, List.mem_map] at hv
  rcases hv with rfl | ⟨x, _, rfl⟩ <;> rfl
theorem cellsB_one (l : List Nat) : ∀ v ∈ cellsB l, v.oneCell' = true := fun v hv => by
  simp only [cellsB, List.mem_map] at hv
  obtain ⟨x, _, rfl⟩ := hv
  rfl
theorem cellsW_at {n : Nat} : ∀ (Q : List (Nat × List Nat)) (_ : ∀ p ∈ Q, GoodW n p) (k : Nat) (hk : k < Q.length) (j : Nat), j < 65 → (cellsW Q)[k * 65 + j]? = (wrtC Q[k])[j]?
  | [], _, k, hk, _, _ => by simp at hk
  | p :: Q, h, 0, _, j, hj => by
    show (wrtC p ++ cellsW Q)[0 * 65 + j]? = _
    rw [List.getElem?_append_left (by rw [wrtC_length (h p (List.mem_cons_self ..))]; omega)]
    simp
  | p :: Q, h, k + 1, hk, j, hj => by
    have hl := wrtC_length (h p (List.mem_cons_self ..))
    show (wrtC p ++ cellsW Q)[(k + 1) * 65 + j]? = _
    rw [List.getElem?_append_right (by omega), hl, show (k + 1) * 65 + j - 65 = k * 65 + j by omega, cellsW_at Q (fun q hq => h q (List.mem_cons_of_mem _ hq)) k (by simpa using hk) j hj]
    simp
theorem cellsW_length {n : Nat} : ∀ (Q : List (Nat × List Nat)) (_ : ∀ p ∈ Q, GoodW n p), (cellsW Q).length = Q.length * 65
  | [], _ => rfl
  | p :: Q, h => by
    have hl := wrtC_length (h p (List.mem_cons_self ..))
    have := cellsW_length Q (fun q hq => h q (List.mem_cons_of_mem _ hq))
    show (wrtC p ++ cellsW Q).length = _
    rw [List.length_append, hl, this, List.length_cons]; omega
/-- A disk told. -/
structure Dm where
  n : Nat
  S : Nat → List Nat
  N : Nat → List Nat
  Q : List (Nat × List Nat)
  steps : Int
  armed : Bool
  left : Int
/-- Where it lies. -/
structure Dl where
  bd : Nat
  gs : Nat
  gn : Nat
  qv : Value
def Dl.has (L : Dl) (i : Nat) : Prop := i = L.bd ∨ i = L.gs ∨ i = L.gn ∨ L.qv.ownBlock = some i
structure Dk (C : Nat) (w : World) (L : Dl) (d : Dm) : Prop where
  top : Blo w L.bd DSK #[.slice (some ⟨L.gs, 0, none⟩) d.n d.n, .slice (some ⟨L.gn, 0, none⟩) d.n d.n, L.qv, .int .i64 d.steps, .bool d.armed, .int .i64 d.left]
  sure : Rw w L.gs d.n d.S
  now : Rw w L.gn d.n d.N
  queue : w.ownsRow C WRT 65 L.qv d.Q.length (cellsW d.Q)
  good : ∀ p ∈ d.Q, GoodW d.n p
  ne : L.gs ≠ L.gn
  low : C ≤ L.bd ∧ C ≤ L.gs ∧ C ≤ L.gn
  few : 1 ≤ d.n ∧ d.n ≤ 4096
  stp : 0 ≤ d.steps ∧ d.steps ≤ 1000000
  lft : -1 ≤ d.left ∧ d.left ≤ 9223372036854775807
  len : d.Q.length ≤ 1000000
section
variable {C : Nat} {w w' : World} {L : Dl} {d : Dm}
theorem Dk.out {X : Nat → Prop} (h : Dk C w L d) (ho : Out X w w') (hx : ∀ i, L.has i → ¬ X i) : Dk C w' L d :=
  ⟨ho.blo h.top (hx _ (.inl rfl)), h.sure.out ho (hx _ (.inr (.inl rfl))), h.now.out ho (hx _ (.inr (.inr (.inl rfl)))), ho.own h.queue (fun g e => hx g (.inr (.inr (.inr e)))), h.good, h.ne, h.low, h.few, h.stp, h.lft, h.len⟩
theorem Dk.later (h : Dk C w L d) (hb : Below w.heap.size w w') : Dk C w' L d := h.out (X := fun _ => False) (Out.of_below hb) (fun _ _ h => h)
theorem own_lt {base : Nat} {e : TypeId} {size : Nat} {v : Value} {n : Nat} {xs : List Value} {g : Nat} (h : w.ownsRow base e size v n xs) (hg : v.ownBlock = some g) : base ≤ g ∧ g < w.heap.size := by
  rcases h.2 with ⟨rfl, _⟩ | ⟨g', cap, cur, rfl, hb, hgg, rest⟩
  · cases hg
  · cases hg
    exact ⟨hb, Blo.lt hgg⟩
theorem Dk.has_lt (h : Dk C w L d) {i : Nat} (hi : L.has i) : C ≤ i ∧ i < w.heap.size := by
  rcases hi with rfl | rfl | rfl | hq
  · exact ⟨h.low.1, h.top.lt⟩
  · exact ⟨h.low.2.1, h.sure.lt⟩
  · exact ⟨h.low.2.2, h.now.lt⟩
  · exact own_lt h.queue hq
theorem own_type {base : Nat} {e t : TypeId} {size : Nat} {v : Value} {n : Nat} {xs : List Value} {g : Nat} {cs : Array Value} (h : w.ownsRow base e size v n xs) (hg : Blo w g t cs) (hne : e ≠ t) : v.ownBlock ≠ some g := by
  intro hv
  exact hg.row_apart h hne hv.symm
theorem Dk.bd_gs (h : Dk C w L d) : L.bd ≠ L.gs := by obtain ⟨cs, h1, _⟩ := h.sure.blk; exact h.top.apart h1 (by decide)
theorem Dk.bd_gn (h : Dk C w L d) : L.bd ≠ L.gn := by obtain ⟨cs, h1, _⟩ := h.now.blk; exact h.top.apart h1 (by decide)
theorem Dk.q_bd (h : Dk C w L d) : L.qv.ownBlock ≠ some L.bd := own_type h.queue h.top (by decide)
theorem Dk.q_gs (h : Dk C w L d) : L.qv.ownBlock ≠ some L.gs := by obtain ⟨cs, h1, _⟩ := h.sure.blk; exact own_type h.queue h1 (by decide)
theorem Dk.q_gn (h : Dk C w L d) : L.qv.ownBlock ≠ some L.gn := by obtain ⟨cs, h1, _⟩ := h.now.blk; exact own_type h.queue h1 (by decide)
/-- A block of another type is none of the disk's. -/
theorem Dk.apart (h : Dk C w L d) {g : Nat} {t : TypeId} {cs : Array Value} (hg : Blo w g t cs) (h1 : t ≠ DSK) (h2 : t ≠ BLK) (h3 : t ≠ WRT) : ¬ L.has g := by
  rintro (rfl | rfl | rfl | hq)
  · exact hg.apart h.top h1 rfl
  · obtain ⟨c2, k1, _⟩ := h.sure.blk; exact hg.apart k1 h2 rfl
  · obtain ⟨c2, k1, _⟩ := h.now.blk; exact hg.apart k1 h2 rfl
  · exact own_type h.queue hg (fun e => h3 e.symm) hq
end
end Go.Proofs.Ytmkhliabmodbdaa
