/-
  Pack: a slice of files that came in; a slice of integers that came in.
-/
import Derived.Test.YtkdjfhbdcfjnnaaFis
import Derived.Test.YtkdjfhbdcfjnnaaStructs
import Derived.Test.YtkdjfhbdcfjnnaaOwnPart
namespace Go.Proofs.Ytkdjfhbdcfjnnaa
open Go.RowKit

/-- What the walk is told of a slice of files that came in. -/
structure FinIn (w : World) (a : Option Addr) (len cap : Nat) (L : List Fi) : Prop where
  fis : Fis w a L
  leq : len = L.length
  lenm : len ≤ 9223372036854775807
  lb : ∀ x ∈ L, x.lb.length ≤ 9223372036854775807
  wf : ∀ x ∈ L, (Lit.int .i64 x.ino).wf = true ∧ (Lit.int .i64 x.ver).wf = true ∧ ∀ n ∈ x.lb, (Lit.int .i64 n).wf = true
  nil : a = .none → len = 0 ∧ cap = 0
  nils : FisN w a L
structure IntsIn (w : World) (a : Option Addr) (len cap : Nat) (l : List Int) : Prop where
  ints : Ints w a l
  leq : len = l.length
  lenm : len ≤ 9223372036854775807
  nil : a = .none → len = 0 ∧ cap = 0
  wf : ∀ n ∈ l, (Lit.int .i64 n).wf = true
section
open Go.ChangeShapes Go.WideShapes Go.Deep
variable {H : Type} {enc : TypeId × Value → H} {P : Program} {w : World} {base : Nat} {held : Bool} {spare : Nat → Bool}
theorem intsIn_of_trod {t e : TypeId} {fuel : Nat} {cs : List Value} {x : DataW H × List MemPlace} (ht : P.underlying t = some (.slice e)) (he : P.underlying e = some (.int .i64)) (hc : P.cellsOf e = 1)
    (h : DataW.trod enc P w base (fun _ => true) held fuel t cs = some x) : ∃ a n cap l, cs = [.slice a n cap] ∧ IntsIn w a n cap l := by
  have hmx : (maxLen : Nat) = 9223372036854775807 := by decide
  rcases open_ints ht he hc h with ⟨hcs, _⟩ | ⟨a, n, cap, zs, hcs, h0, h1, h2, h3, hx, hcell, hwz⟩
  · exact ⟨none, 0, 0, [], hcs, Ints.nil _ _, rfl, by decide, fun _ => ⟨rfl, rfl⟩, fun n hn => by cases hn⟩
  · have h3' : zs.length = cap := by simpa using h3
    refine ⟨some a, n, cap, zs.take n, hcs, fun hne => ?_, by rw [List.length_take]; omega, by omega, (fun h => by cases h), fun m hm => hwz m (List.mem_of_mem_take hm)⟩
    have hlen : 0 < n := by
      rcases Nat.eq_zero_or_pos n with h | h
      · subst h; simp at hne
      · exact h
    obtain ⟨b, off, rfl, hcl⟩ := Go.ints_at hcell (by omega)
    refine ⟨b, off, rfl, fun i hi => ?_⟩
    rw [List.length_take] at hi
    rw [hcl i (by omega), List.getD_eq_getElem?_getD, List.getD_eq_getElem?_getD, List.getElem?_take_of_lt (by omega)]
theorem files_of_trod {t e ti ts : TypeId} {fuel : Nat} {cs : List Value} {x : DataW H × List MemPlace} {f0 f1 f2 : Field}
    (ht : P.underlying t = some (.slice e)) (he : P.underlying e = some (.struct #[f0, f1, f2])) (hce : P.cellsOf e = 3)
    (g0 : f0.type = ti ∧ f0.offset = 0) (g1 : f1.type = ti ∧ f1.offset = 1) (g2 : f2.type = ts ∧ f2.offset = 2)
    (hti : P.underlying ti = some (.int .i64)) (hci : P.cellsOf ti = 1) (hts : P.underlying ts = some (.slice ti)) (hcs : P.cellsOf ts = 1)
    (h : DataW.trod enc P w base (fun _ => true) held fuel t cs = some x) :
    ∃ a len cap L, cs = [.slice a len cap] ∧ FinIn w a len cap L := by
  obtain ⟨a, len, cap, rfl, hn, hl, hc, hi⟩ := open_structs ht he h
  have key : ∀ i, i < len → ∃ p : Fi, ∃ b o c cp, a = some ⟨b, o, none⟩ ∧ (p.lb.length ≤ 9223372036854775807 ∧ (Lit.int .i64 p.ino).wf = true ∧ (Lit.int .i64 p.ver).wf = true ∧ ∀ n ∈ p.lb, (Lit.int .i64 n).wf = true) ∧ (c = none → p.lb.length = 0 ∧ cp = 0) ∧ Ints w c p.lb ∧ w.cell? ⟨b, o + i * 3, none⟩ = some (.int .i64 p.ino) ∧ w.cell? ⟨b, o + i * 3 + 1, none⟩ = some (.int .i64 p.ver) ∧ w.cell? ⟨b, o + i * 3 + 2, none⟩ = some (.slice c p.lb.length cp) := by
    intro i hlt
    cases a with
    | none => have := (hn rfl).1; omega
    | some ad =>
      obtain ⟨C, hC, hcell, hf⟩ := hi ad rfl i hlt
      rw [hce] at hC hcell
      match C, hC with
      | [c0, c1, c2], _ =>
        obtain ⟨y0, n0, t0, _⟩ := hf 0 f0 rfl
        obtain ⟨y1, n1, t1, _⟩ := hf 1 f1 rfl
        obtain ⟨y2, n2, t2, _⟩ := hf 2 f2 rfl
        rw [g0.1, g0.2, hci] at t0
        rw [g1.1, g1.2, hci] at t1
        rw [g2.1, g2.2, hcs] at t2
        obtain ⟨x0, e0, _, wf0⟩ := DataW.trod_int hti t0
        obtain ⟨x1, e1, _, wf1⟩ := DataW.trod_int hti t1
        obtain ⟨c, n, cp, l, e2, hI⟩ := intsIn_of_trod hts hti hci t2
        simp at e0 e1 e2
        subst e0 e1 e2
        obtain ⟨b, off, spot⟩ := ad
        have hspot : spot = none := by
          obtain ⟨C0, hC0, hcell0, _⟩ := hi ⟨b, off, spot⟩ rfl 0 (by omega)
          rw [hce] at hC0 hcell0
          have h0 := hcell0 0 C0[0] (List.getElem?_eq_getElem (by omega))
          simpa [Addr.add] using World.cell?_spot h0
        subst hspot
        have q0 := hcell 0 _ rfl
        have q1 := hcell 1 _ rfl
        have q2 := hcell 2 _ rfl
        rw [Addr.add_lit] at q0 q1 q2
        have hlen := hI.leq
        subst hlen
        exact ⟨⟨x0, x1, l⟩, b, off, c, cp, rfl, ⟨hI.lenm, wf0, wf1, hI.wf⟩, hI.nil, hI.ints, by simpa using q0, by rw [Nat.add_assoc]; exact q1, by rw [Nat.add_assoc]; exact q2⟩
  obtain ⟨F, hF⟩ : ∃ F : Nat → Fi, ∀ i, i < len → ∃ b o c cp, a = some ⟨b, o, none⟩ ∧ ((F i).lb.length ≤ 9223372036854775807 ∧ (Lit.int .i64 (F i).ino).wf = true ∧ (Lit.int .i64 (F i).ver).wf = true ∧ ∀ n ∈ (F i).lb, (Lit.int .i64 n).wf = true) ∧ (c = none → (F i).lb.length = 0 ∧ cp = 0) ∧ Ints w c (F i).lb ∧ w.cell? ⟨b, o + i * 3, none⟩ = some (.int .i64 (F i).ino) ∧ w.cell? ⟨b, o + i * 3 + 1, none⟩ = some (.int .i64 (F i).ver) ∧ w.cell? ⟨b, o + i * 3 + 2, none⟩ = some (.slice c (F i).lb.length cp) :=
    ⟨fun i => if h : i < len then Classical.choose (key i h) else fi0, fun i h => by simp only [dif_pos h]; exact Classical.choose_spec (key i h)⟩
  have hget : ∀ i, i < len → ((List.range len).map F).getD i fi0 = F i := fun i hi => by
    rw [List.getD_eq_getElem?_getD, List.getElem?_map, List.getElem?_range hi]; rfl
  refine ⟨a, len, cap, (List.range len).map F, rfl, fun hne => ?_, by simp, by omega, fun x hx => ?_, fun x hx => ?_, hn, fun b o i n c hi ha hc => ?_⟩
  · have hpos : 0 < len := by
      rcases Nat.eq_zero_or_pos len with h | h
      · subst h; exact absurd rfl hne
      · exact h
    obtain ⟨b, o, c, cp, ha, -⟩ := hF 0 hpos
    refine ⟨b, o, ha, fun i hi => ?_⟩
    have hi' : i < len := by simpa using hi
    obtain ⟨b', o', c, cp, ha', _, _, h2, h3, h4, h5⟩ := hF i hi'
    rw [ha] at ha'
    cases ha'
    rw [hget i hi']
    exact ⟨h3, h4, c, cp, h5, h2⟩
  · obtain ⟨i, hi, rfl⟩ := List.mem_map.1 hx
    obtain ⟨b, o, c, cp, _, h1, -⟩ := hF i (List.mem_range.1 hi)
    exact h1.1
  · obtain ⟨i, hi, rfl⟩ := List.mem_map.1 hx
    obtain ⟨b, o, c, cp, _, h1, -⟩ := hF i (List.mem_range.1 hi)
    exact h1.2
  · have hi' : i < len := by simpa using hi
    obtain ⟨b', o', c', cp', ha', _, h9, h2, h3, h4, h5⟩ := hF i hi'
    rw [ha] at ha'
    cases ha'
    rw [hc] at h5
    cases h5
    exact h9 rfl
end
end Go.Proofs.Ytkdjfhbdcfjnnaa
