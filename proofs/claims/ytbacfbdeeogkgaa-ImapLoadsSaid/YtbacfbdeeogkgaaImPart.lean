/-
  Parts of bytes: cut from a place on, the end too; their texts.
-/
import Derived.Test.YtbacfbdeeogkgaaEnRead
import Derived.Test.YtbacfbdeeogkgaaQuiet
namespace Go.Proofs.Ytbacfbdeeogkgaa
open Go.RowKit

def cutA (b o cap lo : Nat) : Option Addr := if cap = lo then some ⟨b, o, none⟩ else some ⟨b, o + lo, none⟩
/-- 'x[lo:]', lo = len(x) too. -/
theorem cut_from_le (b o n cap lo n' c' : Nat) (v : Int) (hv : v = (lo : Int)) (hlo : lo ≤ n) (hn : n ≤ cap) (hc : n ≤ 1000000) (hn' : n' = n - lo) (hc' : c' = cap - lo) (W : World) :
    (Instr.slice 24 (.slice (some ⟨b, o, none⟩) n cap) (some (.int .i64 v)) none none).run Try.prog W = .ok (.slice (cutA b o cap lo) n' c') W := by
  have ht' : Try.prog.underlying 24 = some (.slice (Try.prog.elem 24)) := by simp [Program.elem, Try.underlying24]
  have he : Try.prog.elem 24 = 5 := by simp [Program.elem, Try.underlying24]
  subst hn' hc' hv
  rw [run_slice_l W 24 _ _ _ ht' .i64 _ (by omega) (by omega), he, size_u8x]
  unfold cutA
  by_cases e : cap = lo <;> simp [Result.andThen, sliced, Addr.add_lit, e]
theorem bytes_take {w : World} {b o : Nat} {l : List Nat} (h : Bytes w (some ⟨b, o, none⟩) l) (k : Nat) : Bytes w (some ⟨b, o, none⟩) (l.take k) := by
  refine ⟨fun x hx => h.1 x (List.mem_of_mem_take hx), by have := h.2.1; rw [List.length_take]; omega, fun hne => ⟨b, o, rfl, fun i hi => ?_⟩⟩
  rw [List.length_take] at hi
  obtain ⟨b', o', e, hc⟩ := h.2.2 (fun e => by rw [e] at hi; simp at hi)
  cases e
  rw [hc i (by omega), List.getD_eq_getElem?_getD, List.getD_eq_getElem?_getD, List.getElem?_take_of_lt (by omega)]
theorem bytes_drop {w : World} {b o cap : Nat} {l : List Nat} (h : Bytes w (some ⟨b, o, none⟩) l) (k : Nat) (hcap : l.length ≤ cap) : Bytes w (cutA b o cap k) (l.drop k) := by
  refine ⟨fun x hx => h.1 x (List.mem_of_mem_drop hx), by have := h.2.1; rw [List.length_drop]; omega, fun hne => ?_⟩
  have hk : k < l.length := by
    rcases Nat.lt_or_ge k l.length with h | h
    · exact h
    · exact absurd (List.drop_of_length_le h) hne
  refine ⟨b, o + k, by unfold cutA; rw [if_neg (by omega)], fun i hi => ?_⟩
  rw [List.length_drop] at hi
  obtain ⟨b', o', e, hc⟩ := h.2.2 (fun e => by rw [e] at hk; cases hk)
  cases e
  rw [Nat.add_assoc, hc (k + i) (by omega), List.getD_eq_getElem?_getD, List.getD_eq_getElem?_getD, List.getElem?_drop]
theorem text_of {w : World} {a : Option Addr} {l : List Nat} (h : Bytes w a l) (n cap : Nat) (hn : n = l.length) : (convert 24 9 (.slice a n cap)).run Try.prog w = .ok (.string (strOf l)) w :=
  run_str w 24 9 U8 Try.underlying24 Try.underlying5 Try.underlying9 l a n cap hn h
end Go.Proofs.Ytbacfbdeeogkgaa
