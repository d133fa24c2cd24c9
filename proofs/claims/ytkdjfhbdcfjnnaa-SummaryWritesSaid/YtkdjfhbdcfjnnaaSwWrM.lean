/-
  For SummaryWrites: summary.Encode of any summary, with what it answers where the summary is none; the document's Encode of a good one.
-/
import Derived.Test.YtkdjfhbdcfjnnaaSwMixM
import Derived.Test.YtkdjfhbdcfjnnaaSwREnc
namespace Go.Proofs.Ytkdjfhbdcfjnnaa
open Go.RowKit

section
variable {w : World} {m : Sm} {fa : Option Addr} {fn fc : Nat} {ia : Option Addr} {inn ic : Nat}
theorem encode_all (s : Nat) (hs : s < 4294967296) (hf : few6 m = true) (hlb : ∀ x ∈ m.fs, ∀ n ∈ x.lb, -9223372036854775808 ≤ n) (hF : Fis w fa m.fs) (hI : Ints w ia m.is) (hn : fn = m.fs.length) (hin : inn = m.is.length) :
    Calls Try.prog 12 #[part m.e m.c m.i m.p m.x fa fn fc ia inn ic, .int .u32 s] w fun e w' => ∃ a n c, e = .returned (.tuple #[.slice a n c, .int .i64 (chkM m)]) ∧ (chkM m = 0 → ∃ g, a = some ⟨g, 0, none⟩ ∧ n = 128 ∧ c = 128 ∧ w.heap.size ≤ g ∧ Fil w' g 128 (encM m s)) ∧ (chkM m ≠ 0 → a = none ∧ n = 0 ∧ c = 0) ∧ Below w.heap.size w w' := by
  obtain ⟨h1, h2, h3⟩ := few6_yes hf
  have hsz := szF_eq m.fs
  by_cases hk : chkM m = 0
  · refine (encode_good m s fa fn fc ia inn ic hk hF hn hI hin hs).mono ?_
    rintro e w' ⟨g, rfl, h4, h5, h6⟩
    exact ⟨_, _, _, by rw [hk], fun _ => ⟨g, rfl, rfl, rfl, h4, h5⟩, fun h => absurd hk h, h6⟩
  · refine (encode_bad m s fa fn fc ia inn ic hk hF hn hI hin (by omega) (by omega) hlb).mono ?_
    rintro e w' ⟨rfl, h6⟩
    exact ⟨_, _, _, rfl, fun h => absurd h hk, fun _ => ⟨rfl, rfl, rfl⟩, h6⟩
theorem rencode_any (s : Nat) (hs : s < 4294967296) (hk : chkM m = 0) (hF : Fis w fa m.fs) (hI : Ints w ia m.is) (hn : fn = m.fs.length) (hin : inn = m.is.length) :
    Calls Try.prog 21 #[part m.e m.c m.i m.p m.x fa fn fc ia inn ic, .int .u32 s] w (REnc w (encM m s)) := by
  have hg := good_of hk
  obtain ⟨e, c, i, p, x, l, is⟩ := m
  have g1 := hg.e; have g2 := hg.c; have g3 := hg.i; have g4 := hg.p; have g5 := hg.x
  simp only at g1 g2 g3 g4 g5
  obtain ⟨e', rfl⟩ : ∃ u : Nat, e = u := ⟨e.toNat, by omega⟩
  obtain ⟨c', rfl⟩ : ∃ u : Nat, c = u := ⟨c.toNat, by omega⟩
  obtain ⟨i', rfl⟩ : ∃ u : Nat, i = u := ⟨i.toNat, by omega⟩
  obtain ⟨p', rfl⟩ : ∃ u : Nat, p = u := ⟨p.toNat, by omega⟩
  obtain ⟨x', rfl⟩ : ∃ u : Nat, x = u := ⟨x.toNat, by omega⟩
  exact rencode_raw e' c' i' p' x' s l is fa fn fc ia inn ic hg hF hn hI hin hs
end
end Go.Proofs.Ytkdjfhbdcfjnnaa
