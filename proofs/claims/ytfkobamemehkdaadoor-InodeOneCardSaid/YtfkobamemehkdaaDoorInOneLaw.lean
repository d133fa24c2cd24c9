/-
  The walk of InodeOne, out of its four cases.
-/
import Derived.Test.YtfkobamemehkdaaDoorInOne
import Derived.Test.YtfkobamemehkdaaDoorInOneBad
import Derived.Test.YtfkobamemehkdaaDoorInOpen
namespace Go.Proofs.YtfkobamemehkdaaDoor
open Go.RowKit

theorem inodeOne_walk (a b c d s : Int) (p0 p1 p2 p3 p4 p5 p6 p7 p8 : Nat) (a' b' c' d' s' : Int) (r0 r1 r2 r3 r4 r5 r6 r7 r8 : Nat) (w : World) (hL : Tab w ∧ 0 < w.heap.size) (h1 : FitI a b c d s p0 p1 p2 p3 p4 p5 p6 p7 p8) (h2 : FitI a' b' c' d' s' r0 r1 r2 r3 r4 r5 r6 r7 r8) :
    Calls Tryd.prog 8 #[.agg (ino a b c d s p0 p1 p2 p3 p4 p5 p6 p7 p8), .agg (ino a' b' c' d' s' r0 r1 r2 r3 r4 r5 r6 r7 r8)] w fun e w' => e = .returned (.bool true) ∧ Below w.heap.size w w' := by
  obtain ⟨_, _, _, _, _, q0, q1, q2, q3, q4, q5, q6, q7, q8⟩ := h1
  obtain ⟨_, _, _, _, _, u0, u1, u2, u3, u4, u5, u6, u7, u8⟩ := h2
  by_cases hg : GoodI a b c d s
  · have hg0 := hg
    obtain ⟨e1, e2, e3, e4, e5, e6, e7, e8, e9, e10⟩ := hg
    obtain ⟨A, rfl⟩ := Int.eq_ofNat_of_zero_le (show 0 ≤ a by omega)
    obtain ⟨B, rfl⟩ := Int.eq_ofNat_of_zero_le (show 0 ≤ b by omega)
    obtain ⟨C, rfl⟩ := Int.eq_ofNat_of_zero_le (show 0 ≤ c by omega)
    obtain ⟨D, rfl⟩ := Int.eq_ofNat_of_zero_le (show 0 ≤ d by omega)
    obtain ⟨S, rfl⟩ := Int.eq_ofNat_of_zero_le (show 0 ≤ s by omega)
    by_cases hg' : GoodI a' b' c' d' s'
    · have hg1 := hg'
      obtain ⟨f1, f2, f3, f4, f5, f6, f7, f8, f9, f10⟩ := hg'
      obtain ⟨A', rfl⟩ := Int.eq_ofNat_of_zero_le (show 0 ≤ a' by omega)
      obtain ⟨B', rfl⟩ := Int.eq_ofNat_of_zero_le (show 0 ≤ b' by omega)
      obtain ⟨C', rfl⟩ := Int.eq_ofNat_of_zero_le (show 0 ≤ c' by omega)
      obtain ⟨D', rfl⟩ := Int.eq_ofNat_of_zero_le (show 0 ≤ d' by omega)
      obtain ⟨S', rfl⟩ := Int.eq_ofNat_of_zero_le (show 0 ≤ s' by omega)
      exact one_good A B C D S p0 p1 p2 p3 p4 p5 p6 p7 p8 A' B' C' D' S' r0 r1 r2 r3 r4 r5 r6 r7 r8 w hL.1 hL.2 hg0 hg1 q0 q1 q2 q3 q4 q5 q6 q7 q8 u0 u1 u2 u3 u4 u5 u6 u7 u8
    · exact one_bad2 A B C D S p0 p1 p2 p3 p4 p5 p6 p7 p8 a' b' c' d' s' r0 r1 r2 r3 r4 r5 r6 r7 r8 w hL.1 hL.2 hg0 q0 q1 q2 q3 q4 q5 q6 q7 q8 hg'
  · refine one_bad1 a b c d s a' b' c' d' s' p0 p1 p2 p3 p4 p5 p6 p7 p8 r0 r1 r2 r3 r4 r5 r6 r7 r8 w hL.1 hL.2 hg ?_
    intro W hT hz
    by_cases hg' : GoodI a' b' c' d' s'
    · have hg1 := hg'
      obtain ⟨f1, f2, f3, f4, f5, f6, f7, f8, f9, f10⟩ := hg'
      obtain ⟨A', rfl⟩ := Int.eq_ofNat_of_zero_le (show 0 ≤ a' by omega)
      obtain ⟨B', rfl⟩ := Int.eq_ofNat_of_zero_le (show 0 ≤ b' by omega)
      obtain ⟨C', rfl⟩ := Int.eq_ofNat_of_zero_le (show 0 ≤ c' by omega)
      obtain ⟨D', rfl⟩ := Int.eq_ofNat_of_zero_le (show 0 ≤ d' by omega)
      obtain ⟨S', rfl⟩ := Int.eq_ofNat_of_zero_le (show 0 ≤ s' by omega)
      exact (encode_good A' B' C' D' S' r0 r1 r2 r3 r4 r5 r6 r7 r8 W hT hz hg1 u0 u1 u2 u3 u4 u5 u6 u7 u8).mono fun e w' ⟨g, he, _, _, hb⟩ => ⟨some ⟨g, 0, none⟩, 64, 64, 0, he, hb⟩
    · exact (encode_bad a' b' c' d' s' r0 r1 r2 r3 r4 r5 r6 r7 r8 W hg').mono fun e w' ⟨he, hb⟩ => ⟨none, 0, 0, 22, he, hb⟩
end Go.Proofs.YtfkobamemehkdaaDoor
