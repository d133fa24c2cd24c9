/-
  Join of the program.
-/
import Derived.Test.YtkgkjjkefifpaaaNaStr
namespace Go.Proofs.Ytkgkjjkefifpaaa
open Go.RowKit

/-- The path of names. -/
def jl (l : List ByteArray) : List UInt8 := if l = [] then [47] else (l.map fun x => (47 : UInt8) :: x.data.toList).flatten
def joS (l : List ByteArray) : ByteArray := ba (jl l)
def joE (l : List ByteArray) : Int := if chkL l = 0 then (if 255 < (joS l).size then 36 else 0) else chkL l
def joR (l : List ByteArray) : ByteArray := if joE l = 0 then joS l else ⟨#[]⟩
theorem jl_join (l : List ByteArray) : jl l = 47 :: Lib.join (l.map (·.data.toList)) [47] := by
  cases l with
  | nil => rfl
  | cons x r =>
    unfold jl
    rw [if_neg (by simp), List.map_cons, List.map_cons, Lib.join_cons, List.flatten_cons]
    simp [Lib.joinTail, List.map_map, Function.comp_def]
theorem nmE_size {x : ByteArray} (h : nmE x = 0) : x.size ≤ 14 := by
  rcases Nat.lt_or_ge 14 x.size with h1 | h1
  · rw [nmE_long h1] at h; exact absurd h (by decide)
  · exact h1
theorem joinLen (l : List ByteArray) (h : ∀ x ∈ l, x.size ≤ 14) : (jl l).length ≤ l.length * 15 + 1 := by
  have key : ∀ l : List ByteArray, (∀ x ∈ l, x.size ≤ 14) → ((l.map fun x => (47 : UInt8) :: x.data.toList).flatten).length ≤ l.length * 15 := by
    intro l
    induction l with
    | nil => intro _; simp
    | cons x l ih =>
      intro h
      have h1 := ih (fun y hy => h y (List.mem_cons_of_mem _ hy))
      have h2 := h x List.mem_cons_self
      rw [Lib.size_eq] at h2
      rw [List.map_cons, List.flatten_cons, List.length_append, List.length_cons, List.length_cons]
      omega
  unfold jl
  split
  · simp
  · have := key l h; omega
theorem joE_chk {l : List ByteArray} (h : chkL l ≠ 0) : joE l = chkL l := by unfold joE; rw [if_neg h]
theorem joE_long {l : List ByteArray} (h : chkL l = 0) (h1 : 255 < (joS l).size) : joE l = 36 := by unfold joE; rw [if_pos h, if_pos h1]
theorem joE_ok {l : List ByteArray} (h : chkL l = 0) (h1 : ¬ 255 < (joS l).size) : joE l = 0 := by unfold joE; rw [if_pos h, if_neg h1]
theorem joR_bad {l : List ByteArray} (h : joE l ≠ 0) : joR l = ⟨#[]⟩ := by unfold joR; rw [if_neg h]
theorem joR_ok {l : List ByteArray} (h : joE l = 0) : joR l = joS l := by unfold joR; rw [if_pos h]
theorem sjoin_any (l : List ByteArray) (a : Option Addr) (n c : Nat) (w : World) (hl : n = l.length) (hc : n ≤ c) (hn : n ≤ 1000) (h14 : ∀ x ∈ l, x.size ≤ 14) (ha : Strs w a l) :
    Calls Try.prog 22 #[.slice a n c, .string ⟨#[47]⟩] w fun e w' => (∃ t, e = .returned (.string t) ∧ (⟨#[47]⟩ : ByteArray) ++ t = joS l ∧ t.size ≤ 100000) ∧ Below w.heap.size w w' := by
  subst hl
  by_cases hl : l = []
  · subst hl
    exact (Try.strings_Join_none a c ⟨#[47]⟩ w).mono fun e w' ⟨h1, h2⟩ => ⟨⟨_, h1, by decide, by decide⟩, by rw [h2]; exact Below.refl _ _⟩
  · obtain ⟨b, o, rfl, hcell⟩ := ha hl
    have hlen := joinLen l h14
    rw [jl_join, List.length_cons] at hlen
    have hbk : b < w.heap.size := by
      have h0 : 0 < l.length := by rcases Nat.eq_zero_or_pos l.length with h | h; exact absurd (List.eq_nil_of_length_eq_zero h) hl; exact h
      have hx := hcell 0 h0
      rcases Nat.lt_or_ge b w.heap.size with h | h
      · exact h
      · exfalso
        simp [World.cell?, Array.getElem?_eq_none h] at hx
    refine (Try.strings_Join b o c l ⟨#[47]⟩ w (fun j x hx => ?_) hbk (by omega) hc (by show (Lib.join (l.map (·.data.toList)) [47]).length ≤ _; omega)).mono fun e w' ⟨h1, h2⟩ => ⟨⟨_, h1, ?_, ?_⟩, h2⟩
    · obtain ⟨hj, he⟩ := List.getElem?_eq_some_iff.1 hx
      rw [hcell j hj, List.getD_eq_getElem?_getD, hx]; rfl
    · refine str_ext ?_
      show _ = (ba (jl l)).data.toList
      rw [ba_data, jl_join]
      simp
    · show (ba (Lib.join (l.map (·.data.toList)) [47])).size ≤ _
      rw [Lib.size_eq, ba_data]
      omega
def JoO (w : World) (l : List ByteArray) (e : Ending) (w' : World) : Prop := e = .returned (.tuple #[.string (joR l), .int .i64 (joE l)]) ∧ Below w.heap.size w w'
set_option maxRecDepth 100000 in
set_option maxHeartbeats 4000000 in
theorem join_any (l : List ByteArray) (a : Option Addr) (n c : Nat) (w : World) (hl : n = l.length) (hc : n ≤ c) (hn : n ≤ 1000) (ha : Strs w a l) : Calls Try.prog 15 #[.slice a n c] w (JoO w l) := by
  have HC := Lib.hid (check_any l a n c w hl (by omega) ha)
  by_cases hz : chkL l = 0
  · have HJ : Hid (∀ W, Below w.heap.size w W → Calls Try.prog 22 #[.slice a n c, .string ⟨#[47]⟩] W fun e w' => (∃ t, e = .returned (.string t) ∧ (⟨#[47]⟩ : ByteArray) ++ t = joS l ∧ t.size ≤ 100000) ∧ Below W.heap.size W w') := fun W hW =>
      sjoin_any l a n c W hl hc hn (fun x hx => nmE_size (chkL_all.1 hz x hx)) (ha.below hW)
    have HE1 : Hid (255 < (joS l).size → JoO w l = fun e w' => e = .returned (.tuple #[.string ⟨#[]⟩, .int .i64 36]) ∧ Below w.heap.size w w') := fun h => by
      unfold JoO; rw [joE_long hz h, joR_bad (by rw [joE_long hz h]; decide)]
    have HE2 : Hid (¬ 255 < (joS l).size → JoO w l = fun e w' => e = .returned (.tuple #[.string (joS l), .int .i64 0]) ∧ Below w.heap.size w w') := fun h => by
      unfold JoO; rw [joE_ok hz h, joR_ok (joE_ok hz h)]
    rw [hz] at HC
    clear hz hl hc hn ha
    go_enter Try.func15, Try.ntmps15
    go_wp2_with fail
    refine HC.out.mono ?_
    rintro e w1 ⟨rfl, hb1⟩
    have HB1 := Lib.hid hb1
    have HJ2 := Lib.hid (HJ.out w1 hb1)
    clear hb1 HJ HC
    go_wp2_with fail
    refine HJ2.out.mono ?_
    rintro e w2 ⟨⟨t, rfl, ht, hts⟩, hb2⟩
    have HB2 := Lib.hid (HB1.out.trans (hb2.mono HB1.out.size))
    clear hb2 HB1 HJ2
    by_cases hlong : 255 < (joS l).size
    · have hl : (255 : Int) < ((joS l).size : Int) := by omega
      have HX := Lib.hid (HE1.out hlong)
      clear HE1 HE2 hlong
      generalize joS l = jj at *
      go_wp2
      refine bodyPost_ret (v := .tuple #[.string ⟨#[]⟩, .int .i64 36]) (by simp [results, Try.results15, go_sem]) rfl ?_
      rw [HX.out]
      exact ⟨rfl, HB2.out⟩
    · have hl : ¬ (255 : Int) < ((joS l).size : Int) := by omega
      have HX := Lib.hid (HE2.out hlong)
      clear HE1 HE2 hlong
      generalize joS l = jj at *
      go_wp2
      refine bodyPost_ret (v := .tuple #[.string jj, .int .i64 0]) (by simp [results, Try.results15, go_sem]) rfl ?_
      rw [HX.out]
      exact ⟨rfl, HB2.out⟩
  · have HE : Hid (JoO w l = fun e w' => e = .returned (.tuple #[.string ⟨#[]⟩, .int .i64 (chkL l)]) ∧ Below w.heap.size w w') := by
      show _ = _
      unfold JoO; rw [joR_bad (by rw [joE_chk hz]; exact hz), joE_chk hz]
    have h4 : (chkL l == 0) = false := beq_eq_false_iff_ne.2 hz
    clear hz hl hc hn ha
    rw [HE.out]
    generalize chkL l = z at *
    go_enter Try.func15, Try.ntmps15
    go_wp2_with fail
    refine HC.out.mono ?_
    rintro e w1 ⟨rfl, hb1⟩
    have HB1 := Lib.hid hb1
    clear hb1
    go_wp2
    exact bodyPost_ret (v := .tuple #[.string ⟨#[]⟩, .int .i64 z]) (by simp [results, Try.results15, go_sem]) rfl ⟨rfl, HB1.out⟩
end Go.Proofs.Ytkgkjjkefifpaaa
