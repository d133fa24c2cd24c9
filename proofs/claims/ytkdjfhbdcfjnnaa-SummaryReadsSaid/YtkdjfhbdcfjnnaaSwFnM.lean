/-
  The document's list of blocks of pointers: in numbers, in memory.
-/
import Derived.Test.YtkdjfhbdcfjnnaaSwFnPre
import Derived.Test.YtkdjfhbdcfjnnaaRowInv
import Derived.Test.YtkdjfhbdcfjnnaaRow
namespace Go.Proofs.Ytkdjfhbdcfjnnaa
open Go.RowKit

structure Mt where
  n : Int
  lv : Int
  f : Int
  r : Int
  ms : List Int
  ss : List Int
deriving DecidableEq
def widM : Nat → Int
  | 0 => 1
  | 1 => 16
  | 2 => 256
  | _ => 4096
def belM : Nat → Int → Int → List Int → List Int → List Mt
  | 0, _, _, _, _ => []
  | lv + 1, f, r, ms, ss => if 600 ≤ f then [] else ⟨-f - (lv : Int), (lv : Int) + 1, f, r, ms, ss⟩ :: (List.range 16).flatMap fun (i : Nat) => belM lv (f + (i : Int) * widM lv) r (ms ++ [-f - (lv : Int)]) (ss ++ [(i : Int)])
/-- The list with so many of its children. -/
def belK (lv : Nat) (f r : Int) (ms ss : List Int) (k : Nat) : List Mt :=
  ⟨-f - (lv : Int), (lv : Int) + 1, f, r, ms, ss⟩ :: (List.range k).flatMap fun (i : Nat) => belM lv (f + (i : Int) * widM lv) r (ms ++ [-f - (lv : Int)]) (ss ++ [(i : Int)])
theorem belK_succ (lv : Nat) (f r : Int) (ms ss : List Int) (k : Nat) : belK lv f r ms ss (k + 1) = belK lv f r ms ss k ++ belM lv (f + (k : Int) * widM lv) r (ms ++ [-f - (lv : Int)]) (ss ++ [(k : Int)]) := by
  simp [belK, List.range_succ]
theorem belM_all (lv : Nat) (f r : Int) (ms ss : List Int) (h : f < 600) : belM (lv + 1) f r ms ss = belK lv f r ms ss 16 := by
  rw [belM, if_neg (by omega), belK]
theorem belM_no (lv : Nat) (f r : Int) (ms ss : List Int) (h : 600 ≤ f) : belM lv f r ms ss = [] := by
  cases lv with
  | zero => rfl
  | succ lv => rw [belM, if_pos h]
def capM : Nat → Nat
  | 0 => 0
  | lv + 1 => 1 + 16 * capM lv
theorem belK_len (lv : Nat) (f r : Int) (ms ss : List Int) (C : Nat) (hC : ∀ f r ms ss, (belM lv f r ms ss).length ≤ C) : ∀ k, (belK lv f r ms ss k).length ≤ 1 + k * C
  | 0 => by simp [belK]
  | k + 1 => by
    rw [belK_succ, List.length_append, Nat.add_mul]
    have := belK_len lv f r ms ss C hC k
    have := hC (f + (k : Int) * widM lv) r (ms ++ [-f - (lv : Int)]) (ss ++ [(k : Int)])
    omega
theorem belM_len : ∀ (lv : Nat) (f r : Int) (ms ss : List Int), (belM lv f r ms ss).length ≤ capM lv
  | 0, _, _, _, _ => Nat.zero_le _
  | lv + 1, f, r, ms, ss => by
    by_cases h : f < 600
    · rw [belM_all lv f r ms ss h]
      exact belK_len lv f r ms ss (capM lv) (fun f r ms ss => belM_len lv f r ms ss) 16
    · rw [belM_no _ f r ms ss (by omega)]; exact Nat.zero_le _
theorem widM_bd (lv : Nat) (h : lv < 3) : 1 ≤ widM lv ∧ widM lv ≤ 256 := by
  match lv, h with
  | 0, _ => decide
  | 1, _ => decide
  | 2, _ => decide
theorem capM_bd (lv : Nat) (h : lv < 3) : capM lv ≤ 17 := by
  match lv, h with
  | 0, _ => decide
  | 1, _ => decide
  | 2, _ => decide
abbrev MET := 58
abbrev PTH := 56
abbrev INT := 3
/-- A list of integers in a block of its own. -/
def IntB (W : World) (a : Option Addr) (l : List Int) : Prop := l ≠ [] → ∃ g cs, a = some ⟨g, 0, none⟩ ∧ Blo W g INT cs ∧ ∀ i, i < l.length → cs[i]? = some (.int .i64 (l.getD i 0))
theorem IntB.ints {W : World} {a : Option Addr} {l : List Int} (h : IntB W a l) : Ints W a l := fun hl => by
  obtain ⟨g, cs, ha, hb, hc⟩ := h hl
  exact ⟨g, 0, ha, fun i hi => by rw [Nat.zero_add, hb.cell]; exact hc i hi⟩
theorem IntB.later {W W' : World} {a : Option Addr} {l : List Int} (h : IntB W a l) (hb : Below W.heap.size W W') : IntB W' a l := fun hl => by
  obtain ⟨g, cs, ha, hbl, hc⟩ := h hl
  exact ⟨g, cs, ha, hbl.later hb, hc⟩
theorem IntB.grown {W W' : World} {a : Option Addr} {l : List Int} {base n : Nat} {e : TypeId} {size : Nat} {v : Value} {xs : List Value} (h : IntB W a l) (hg : W.grownBy W' v.ownBlock) (ho : W.ownsRow base e size v n xs) (hne : e ≠ INT) : IntB W' a l := fun hl => by
  obtain ⟨g, cs, ha, hbl, hc⟩ := h hl
  exact ⟨g, cs, ha, hbl.grown hg (hbl.row_apart ho hne), hc⟩
theorem IntB.own {W : World} {base n cap : Nat} {a : Option Addr} {l : List Int} (h : W.ownsRow base INT 1 (.slice a n cap) n (cellsI l)) : IntB W a l := fun hl => by
  have hlen : n = l.length := by have := h.1; rw [cellsI_length, Nat.mul_one] at this; exact this.symm
  rcases id h.2 with ⟨h1, h0⟩ | ⟨g, c, cur, h1, _, h3, _⟩
  · exact absurd (List.eq_nil_of_length_eq_zero (by omega)) hl
  · cases h1
    have hB : Blo W g INT cur := h3
    exact ⟨g, cur, rfl, hB, fun i hi => by rw [← hB.cell, h.cellAt i (by omega), cellsI_get l i hi]⟩
/-- An entry in memory. -/
def mtC (W : World) (m : Mt) (c : List Value) : Prop :=
  ∃ am cm as_ cs_, c = [.int .i64 m.n, .int .i64 m.lv, .int .i64 m.f, .int .i64 m.r, .slice am m.ms.length cm, .slice as_ m.ss.length cs_] ∧ IntB W am m.ms ∧ IntB W as_ m.ss ∧ (am = none → m.ms.length = 0 ∧ cm = 0) ∧ (as_ = none → m.ss.length = 0 ∧ cs_ = 0)
def MtsC (W : World) : List Mt → List Value → Prop
  | [], cs => cs = []
  | m :: l, cs => ∃ c r, cs = c ++ r ∧ mtC W m c ∧ MtsC W l r
theorem MtsC.append {W : World} : ∀ {l l' : List Mt} {cs cs' : List Value}, MtsC W l cs → MtsC W l' cs' → MtsC W (l ++ l') (cs ++ cs')
  | [], l', cs, cs', h, h' => by
    have h : cs = [] := h
    subst h; exact h'
  | m :: l, l', cs, cs', h, h' => by
    obtain ⟨c, r, rfl, hc, hr⟩ := h
    exact ⟨c, r ++ cs', by rw [List.append_assoc], hc, hr.append h'⟩
theorem mtC.imp {W W' : World} {m : Mt} {c : List Value} (h : mtC W m c) (hi : ∀ a l, IntB W a l → IntB W' a l) : mtC W' m c := by
  obtain ⟨am, cm, as_, cs_, e, h1, h2, h3, h4⟩ := h
  exact ⟨am, cm, as_, cs_, e, hi _ _ h1, hi _ _ h2, h3, h4⟩
theorem MtsC.imp {W W' : World} (hi : ∀ a l, IntB W a l → IntB W' a l) : ∀ {l : List Mt} {cs : List Value}, MtsC W l cs → MtsC W' l cs
  | [], _, h => h
  | m :: l, _, h => by
    obtain ⟨c, r, e, hc, hr⟩ := h
    exact ⟨c, r, e, hc.imp hi, hr.imp hi⟩
theorem MtsC.later {W W' : World} {l : List Mt} {cs : List Value} (h : MtsC W l cs) (hb : Below W.heap.size W W') : MtsC W' l cs := h.imp fun _ _ hh => hh.later hb
theorem MtsC.len {W : World} : ∀ {l : List Mt} {cs : List Value}, MtsC W l cs → cs.length = l.length * 6
  | [], cs, h => by
    have h : cs = [] := h
    subst h; rfl
  | m :: l, _, h => by
    obtain ⟨c, r, rfl, hc, hr⟩ := h
    obtain ⟨am, cm, as_, cs_, rfl, _⟩ := hc
    have := hr.len
    simp [this]; omega
theorem MtsC.one {W : World} : ∀ {l : List Mt} {cs : List Value}, MtsC W l cs → ∀ u ∈ cs, u.oneCell' = true
  | [], cs, h, u, hu => by
    have h : cs = [] := h
    subst h; cases hu
  | m :: l, _, h, u, hu => by
    obtain ⟨c, r, rfl, hc, hr⟩ := h
    obtain ⟨am, cm, as_, cs_, rfl, _⟩ := hc
    rcases List.mem_append.1 hu with hu | hu
    · simp at hu
      rcases hu with rfl | rfl | rfl | rfl | rfl | rfl <;> rfl
    · exact hr.one u hu
/-- What below answers. -/
def BelO (w : World) (l : List Mt) (e : Ending) (w' : World) : Prop :=
  ∃ v cs, e = .returned v ∧ w'.ownsRow w.heap.size MET 6 v l.length cs ∧ MtsC w' l cs ∧ Below w.heap.size w w'
/-- Its contract at a level. -/
def BelC (lv : Nat) : Prop := ∀ (f r : Int) (ms ss : List Int) (am as_ : Option Addr) (nm ns cm cs_ : Nat) (w : World), nm = ms.length → ns = ss.length → nm + lv < 100 → ns + lv < 100 → 0 ≤ f → f ≤ 100000 → IntB w am ms → IntB w as_ ss →
  (am = none → nm = 0 ∧ cm = 0) → (as_ = none → ns = 0 ∧ cs_ = 0) → Calls Try.prog 45 #[.int .i64 (lv : Int), .int .i64 f, .agg #[.int .i64 r, .slice am nm cm, .slice as_ ns cs_]] w (BelO w (belM lv f r ms ss))
theorem info_met : ∃ z, (Try.prog.info? MET).map (fun i => (i.zero, i.size, i.bytes)) = some (some z, 6, 80) ∧ z.cells.size = 6 := by
  refine ⟨.agg #[.int .i64 0, .int .i64 0, .int .i64 0, .int .i64 0, .slice none 0 0, .slice none 0 0], by kernel_rfl, rfl⟩
end Go.Proofs.Ytkdjfhbdcfjnnaa
