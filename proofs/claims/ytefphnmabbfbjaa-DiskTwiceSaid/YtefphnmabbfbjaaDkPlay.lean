/-
  Play, whatever the call.
-/
import Derived.Test.YtefphnmabbfbjaaDkPlayW
namespace Go.Proofs.Ytefphnmabbfbjaa
open Go.RowKit

def playD (d : Dm) (x : OpT) : Dm := if x.k = 1 then (writeD d x.n (plL x)).1 else if x.k = 2 then (barrD d).1 else if x.k = 3 then (armsD d x.n).1 else if x.k = 4 then crashD d x.keep x.n x.s else d
theorem sm_play {B : Nat} {d : Dm} (h : Sm B d) (x : OpT) : Sm (B + 1) (playD d x) := by
  unfold playD
  split
  · exact sm_write h _ _
  · split
    · exact sm_barr h
    · split
      · exact sm_arms h _
      · split
        · exact sm_crash _ _ _ _ _
        · exact h.mono (by omega)
theorem writeD_n (d : Dm) (k : Int) (l : List Nat) : (writeD d k l).1.n = d.n := by
  unfold writeD
  split
  · rfl
  · split <;> rfl
theorem barrD_n (d : Dm) : (barrD d).1.n = d.n := by unfold barrD; split <;> rfl
theorem armsD_n (d : Dm) (k : Int) : (armsD d k).1.n = d.n := by
  unfold armsD
  split
  · rfl
  · split <;> rfl
theorem playD_n (d : Dm) (x : OpT) : (playD d x).n = d.n := by
  unfold playD
  split
  · exact writeD_n _ _ _
  · split
    · exact barrD_n _
    · split
      · exact armsD_n _ _
      · split <;> rfl
theorem play_any {w0 w : World} {L : Dl} {d : Dm} {sa qa ba ka : Option Addr} {sc qc bn bc kn kc : Nat} {x : OpT} (h0 : Below w0.heap.size w0 w) (hop : OpIs w0 ba bn bc ka kn kc x) (h : Dk w0.heap.size w L d) (hm : Mr w sa qa sc qc d) (hsm : Sm 90000 d) :
    Calls Try.prog 13 #[.pointer (some ⟨L.bd, 0, none⟩), .agg (agR sa qa sc qc d), .agg (opA ba bn bc ka kn kc x)] w (PlayO w0.heap.size L w (playD d x)) := by
  have hs : d.steps ≤ 90000 := by have := hsm.st; omega
  have hq : d.Q.length ≤ 90000 := hsm.ql
  unfold playD
  by_cases h1 : x.k = 1
  · rw [if_pos h1]; exact play_write h0 hop h hm hsm h1
  · rw [if_neg h1]
    by_cases h2 : x.k = 2
    · rw [if_pos h2]; exact play_bar h0 h hm hs hq h2 hop.hi
    · rw [if_neg h2]
      by_cases h3 : x.k = 3
      · rw [if_pos h3]; exact play_arm h0 h hm hs hq h3 hop.hi
      · rw [if_neg h3]
        by_cases h4 : x.k = 4
        · rw [if_pos h4]; exact play_crash h0 hop h hm hsm h4
        · rw [if_neg h4]
          exact play_none h0 h hm (by simpa using h1) (by simpa using h2) (by simpa using h3) (by simpa using h4)
end Go.Proofs.Ytefphnmabbfbjaa
