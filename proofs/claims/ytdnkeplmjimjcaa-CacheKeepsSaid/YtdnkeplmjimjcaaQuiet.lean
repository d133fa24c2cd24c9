/-
  A region that draws its order, whose operations read and whose callees make memory beside: one walk in the order of the text, over all worlds that keep what stood.
-/
import Derived.BigQuiet
import Derived.Below
namespace Go.Proofs.Ytdnkeplmjimjcaa
open Go.RowKit

/-- A world that has all that stood in w as it stood. -/
structure Kept (w : World) where
  at_ : World
  below : Below w.heap.size w at_
instance kept_some (w : World) : Nonempty (Kept w) := ⟨⟨w, Below.refl _ _⟩⟩
theorem wp_region_kept {P : Program} {id : Nat} {Q : Exit → Act → World → Prop} {a : Act} {w : World} {l : List Oper} (hm : P.follows .mixedOrders = true) (hB : Region.lexB .any l.toArray = true)
    (h : wpQuiet P l.toArray (fun W => ∃ x : Kept w, W = x.at_) (fun a' => ∀ W, (∃ x : Kept w, W = x.at_) → Q .normal a' W) l a) : (Code.region id l.toArray true).wp P Q a w :=
  wp_region_quiet (C := fun W => ∃ x : Kept w, W = x.at_) hm hB ⟨⟨w.drew, (Below.refl _ _).drew⟩, rfl⟩ (by simpa using h)
/-- A callee's contract, met in any such world. -/
theorem kept_call {P : Program} {f : FuncId} {args : Array Value} {w : World} {v : Value} (x : Kept w) (h : Calls P f args x.at_ fun e w' => e = .returned v ∧ Below x.at_.heap.size x.at_ w') :
    Calls P f args x.at_ fun e w'' => e = .returned v ∧ ∃ y : Kept w, w'' = y.at_ :=
  h.mono fun _ w' ⟨he, hb⟩ => ⟨he, ⟨w', x.below.trans (hb.mono x.below.size)⟩, rfl⟩
theorem kept_call_same {P : Program} {f : FuncId} {args : Array Value} {w : World} {v : Value} (x : Kept w) (h : Calls P f args x.at_ fun e w' => e = .returned v ∧ x.at_ = w') :
    Calls P f args x.at_ fun e w'' => e = .returned v ∧ ∃ y : Kept w, w'' = y.at_ :=
  h.mono fun _ w' ⟨he, hb⟩ => ⟨he, x, hb.symm⟩
end Go.Proofs.Ytdnkeplmjimjcaa
