/-
  What UsageOnce keeps from turn to turn, in numbers alone.
-/
import Derived.Test.YtfilbbiiiaodiaaUsOMath
namespace Go.Proofs.Ytfilbbiiiaodiaa

structure OInv (F out : List Int) (n : Nat) (last : Int) : Prop where
  flen : F.length = 3 * n
  olen : out.length = n
  one : One F n last
  outs : ∀ j, j < n → (out.getD j 0 = 0 ∧ st F j = 0) ∨ (out.getD j 0 = 1 ∧ (st F j = 1 ∨ st F j = 2))
theorem OInv.live {F out : List Int} {n : Nat} {last : Int} (h : OInv F out n last) (s : Nat) (hs : s < n) (v : Int) : OInv (F.set (s * 3) v) out n last := by
  have hl := h.flen
  have e : ∀ j, st (F.set (s * 3) v) j = st F j := fun j => st_live F s j v (by omega)
  exact ⟨by simpa using hl, h.olen, one_same h.one fun j _ => by rw [e], fun j hj => by rw [e]; exact h.outs j hj⟩
theorem OInv.use {F out : List Int} {n : Nat} {last : Int} (h : OInv F out n last) (s : Nat) (hs : s < n) (h0 : st F s = 0) : OInv (F.set (s * 3 + 1) 1) (out.set s 1) n last := by
  have hl := h.flen
  have ho := h.olen
  have e : ∀ j, st (F.set (s * 3 + 1) 1) j = if s = j then 1 else st F j := fun j => st_use F s j 1 (by omega)
  refine ⟨by simpa using hl, by simpa using ho, one_same h.one fun j _ => ?_, fun j hj => ?_⟩
  · rw [e]
    split
    · next q => subst q; omega
    · exact Iff.rfl
  · rw [e, getD_set _ _ _ _ (by omega)]
    split
    · exact .inr ⟨rfl, .inl rfl⟩
    · exact h.outs j hj
theorem OInv.take {F out : List Int} {n : Nat} {last : Int} (h : OInv F out n last) (s : Nat) (hs : s < n) (hsl : (seiz F n s).length = 3 * n) : OInv (seiz F n s) (out.set s 1) n s := by
  have hl := h.flen
  have ho := h.olen
  refine ⟨hsl, by simpa using ho, one_seiz F n s hs hl, fun j hj => ?_⟩
  rw [st_seiz F n s j hs hj hl, getD_set _ _ _ _ (by omega)]
  split
  · exact .inr ⟨rfl, .inr rfl⟩
  · rcases h.outs j hj with ⟨a, b⟩ | ⟨a, b | b⟩
    · exact .inl ⟨a, by rw [b]; rfl⟩
    · exact .inr ⟨a, .inl (by rw [b]; rfl)⟩
    · exact .inr ⟨a, .inl (by rw [b]; rfl)⟩
theorem OInv.release {F out : List Int} {n : Nat} {last : Int} (h : OInv F out n last) (s : Nat) (hs : s < n) (h1 : st F s = 1) (hrl : (rel F s).length = 3 * n) : OInv (rel F s) (out.set s 0) n last := by
  have hl := h.flen
  have ho := h.olen
  have e : ∀ j, st (rel F s) j = if s = j then 0 else st F j := fun j => st_rel F s j (by omega)
  refine ⟨hrl, by simpa using ho, one_same h.one fun j _ => ?_, fun j hj => ?_⟩
  · rw [e]
    split
    · next q => subst q; omega
    · exact Iff.rfl
  · rw [e, getD_set _ _ _ _ (by omega)]
    split
    · exact .inl ⟨rfl, rfl⟩
    · exact h.outs j hj
end Go.Proofs.Ytfilbbiiiaodiaa
