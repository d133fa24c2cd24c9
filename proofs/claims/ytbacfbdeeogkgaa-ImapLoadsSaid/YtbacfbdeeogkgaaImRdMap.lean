/-
  What reading a block of map entries answers of any bytes.
-/
import Derived.Test.YtbacfbdeeogkgaaImReadN
import Derived.Test.YtbacfbdeeogkgaaImRefN
namespace Go.Proofs.Ytbacfbdeeogkgaa
open Go.RowKit

open Classical in
noncomputable def mA (l : List Nat) (i : Nat) : Int := if l.length = 64 ∧ OkM l then rdA l i else 0
open Classical in
noncomputable def mV (l : List Nat) (i : Nat) : Int := if l.length = 64 ∧ OkM l then rdV l i else 0
open Classical in
noncomputable def mC (l : List Nat) : Int := if l.length = 64 ∧ OkM l then 0 else 100
theorem m_yes {l : List Nat} (h : l.length = 64 ∧ OkM l) : cells16 (mA l) (mV l) = cells16 (rdA l) (rdV l) ∧ mC l = 0 := by
  refine ⟨cells16_ext fun i _ => ⟨?_, ?_⟩, ?_⟩
  · unfold mA; rw [if_pos h]
  · unfold mV; rw [if_pos h]
  · unfold mC; rw [if_pos h]
theorem m_no {l : List Nat} (h : ¬ (l.length = 64 ∧ OkM l)) : cells16 (mA l) (mV l) = z16 ∧ mC l = 100 := by
  refine ⟨cells16_ext fun i _ => ⟨?_, ?_⟩, ?_⟩
  · unfold mA; rw [if_neg h]
  · unfold mV; rw [if_neg h]
  · unfold mC; rw [if_neg h]
theorem some_of {w : World} {a : Option Addr} {l : List Nat} (h : Bytes w a l) (hl : l.length = 64) : ∃ b o, a = some ⟨b, o, none⟩ := by
  obtain ⟨b, o, e, _⟩ := h.2.2 (fun e => by rw [e] at hl; cases hl)
  exact ⟨b, o, e⟩
theorem readMap_all (a : Option Addr) (n cap : Nat) (l : List Nat) (w : World) (hn : n = l.length) (hc : n ≤ cap) (h : Bytes w a l) : Calls Try.prog 19 #[.slice a n cap] w fun e w' => e = .returned (.tuple #[.agg (cells16 (mA l) (mV l)), .int .i64 (mC l)]) ∧ Below w.heap.size w w' := by
  by_cases h64 : l.length = 64
  · obtain ⟨b, o, rfl⟩ := some_of h h64
    have e64 : n = 64 := hn.trans h64
    subst e64
    refine (readMap_64 b o cap l w h64 hc h).mono fun e w' ⟨h1, h2⟩ => ⟨?_, h2⟩
    rcases h1 with ⟨ok, he⟩ | ⟨no, he⟩
    · rw [he, (m_yes ⟨h64, ok⟩).1, (m_yes ⟨h64, ok⟩).2]
    · rw [he, (m_no (fun hh => no hh.2)).1, (m_no (fun hh => no hh.2)).2]
  · have hno : ¬ (l.length = 64 ∧ OkM l) := fun hh => h64 hh.1
    rw [(m_no hno).1, (m_no hno).2]
    exact readMap_len a n cap w (by omega)
theorem rreadMap_all (a : Option Addr) (n cap : Nat) (l : List Nat) (w : World) (hn : n = l.length) (h : Bytes w a l) : Calls Try.prog 23 #[.slice a n cap] w fun e w' => e = .returned (.tuple #[.agg (cells16 (mA l) (mV l)), .int .i64 (mC l)]) ∧ Below w.heap.size w w' := by
  by_cases h64 : l.length = 64
  · obtain ⟨b, o, rfl⟩ := some_of h h64
    have e64 : n = 64 := hn.trans h64
    subst e64
    refine (rreadMap_64 b o cap l w h64 h).mono fun e w' ⟨h1, h2⟩ => ⟨?_, h2⟩
    rcases h1 with ⟨ok, he⟩ | ⟨no, he⟩
    · rw [he, (m_yes ⟨h64, ok⟩).1, (m_yes ⟨h64, ok⟩).2]
    · rw [he, (m_no (fun hh => no hh.2)).1, (m_no (fun hh => no hh.2)).2]
  · have hno : ¬ (l.length = 64 ∧ OkM l) := fun hh => h64 hh.1
    rw [(m_no hno).1, (m_no hno).2]
    exact rreadMap_len a n cap w (by omega)
theorem m_fit {l : List Nat} (hb : ∀ x ∈ l, x < 256) : Fit8 (mA l) (mV l) := fun i _ => by
  have h0 := getD_byte hb (i * 8)
  have h1 := getD_byte hb (i * 8 + 1)
  have h2 := getD_byte hb (i * 8 + 2)
  have h3 := getD_byte hb (i * 8 + 3)
  have h4 := getD_byte hb (i * 8 + 4)
  have h5 := getD_byte hb (i * 8 + 5)
  unfold mA mV rdA rdV b4 b2 FitZ
  rw [show i * 8 + 4 + 1 = i * 8 + 5 by omega]
  split <;> omega
theorem mC_01 (l : List Nat) : mC l = 0 ∨ mC l = 100 := by unfold mC; split; exact .inl rfl; exact .inr rfl
end Go.Proofs.Ytbacfbdeeogkgaa
