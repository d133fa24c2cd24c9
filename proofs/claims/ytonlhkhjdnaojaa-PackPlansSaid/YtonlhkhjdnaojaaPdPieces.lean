/-
  The pieces' items: files ahead of inodes, numbers of files that are there.
-/
import Derived.Test.YtonlhkhjdnaojaaPdSame
import Derived.Test.YtonlhkhjdnaojaaPcAll
namespace Go.Proofs.Ytonlhkhjdnaojaa
open Go.RowKit

theorem itF_fb : ∀ (l : List Fi) (k : Nat), ∀ x ∈ itF k l, 0 < x.f ∧ x.f ≤ k + l.length
  | [], _, x, h => by cases h
  | y :: r, k, x, h => by
    rw [itF] at h
    rcases List.mem_append.1 h with h | h
    · obtain ⟨n, _, rfl⟩ := List.mem_map.1 h
      exact ⟨Nat.succ_pos k, by show k + 1 ≤ _; rw [List.length_cons]; omega⟩
    · have := itF_fb r (k + 1) x h
      rw [List.length_cons]
      omega
theorem items_fb {fs : List Fi} {is : List Int} : ∀ x ∈ items fs is, x.f ≤ fs.length := fun x h => by
  unfold items at h
  rcases List.mem_append.1 h with h | h
  · have := (itF_fb fs 0 x h).2; omega
  · obtain ⟨n, _, rfl⟩ := List.mem_map.1 h
    exact Nat.zero_le _
theorem nds_append {l m : List It} (hl : ∀ x ∈ l, x.f ≠ 0) (hm : ∀ x ∈ m, x.f = 0) : NdS (l ++ m) := fun i j x y hij hi hj hx => by
  have hil : l.length ≤ i := by
    rcases Nat.lt_or_ge i l.length with h | h
    · rw [List.getElem?_append_left h] at hi
      exact absurd hx (hl x (List.mem_of_getElem? hi))
    · exact h
  rw [List.getElem?_append_right (by omega)] at hj
  exact hm y (List.mem_of_getElem? hj)
theorem items_nds (fs : List Fi) (is : List Int) : NdS (items fs is) := nds_append (fun x h => by have := (itF_fb fs 0 x h).1; omega) (fun x h => by
  obtain ⟨n, _, rfl⟩ := List.mem_map.1 h
  rfl)
theorem nds_mid {a b c : List It} (h : NdS (a ++ b ++ c)) : NdS b := fun i j x y hij hi hj hx => by
  have hlt : ∀ {k : Nat} {z : It}, b[k]? = some z → (a ++ b ++ c)[a.length + k]? = some z := fun {k z} hk => by
    have hkl := (List.getElem?_eq_some_iff.1 hk).1
    rw [List.getElem?_append_left (by rw [List.length_append]; omega), List.getElem?_append_right (by omega), Nat.add_sub_cancel_left]
    exact hk
  exact h (a.length + i) (a.length + j) x y (by omega) (hlt hi) (hlt hj) hx
theorem piece_nds {fs : List Fi} {is : List Int} {s : Pl} (hc : catI s.N s.it = items fs is) {i : Nat} (hi : i < s.N) : NdS (s.it i) := by
  obtain ⟨r, hr⟩ := catI_le s.it (show i + 1 ≤ s.N from hi)
  rw [hc, catI_succ] at hr
  have := items_nds fs is
  rw [hr] at this
  exact nds_mid this
/-- Piece i of the program's answer and of the document's: same answers true. -/
theorem same_piece {w : World} {fs : List Fi} {is : List Int} {left size : Int} {s : Pl} (hK : PlK fs is left size s) {i : Nat} (hi : i < s.N) {b : Bool} {fa ia sa xa : Option Addr} {nf fc ni ic ql sc xn xc : Nat}
    (hF : Fis w fa (fsZ (inoOf fs) (verOf fs) (bs (s.it i)).z)) (hnf : nf = (bs (s.it i)).z.nf) (hI : Ints w ia ((bs (s.it i)).z.li 0)) (hni : ni = ((bs (s.it i)).z.li 0).length) (hT : ItR w sa (s.it i)) (hql : ql = (s.it i).length)
    (hX : Fis w xa fs) (hxn : xn = fs.length) (hx3 : xn ≤ 300) :
    Calls Try.prog 14 #[pcV b fa nf fc ia ni ic, rpV b sa ql sc, .slice xa xn xc] w fun e w' => e = .returned (.bool true) ∧ Below w.heap.size w w' :=
  rsame_any (fs := fs) (l := s.it i) b fa nf fc ia ni ic sa ql sc xa xn xc hF hnf hI hni hT hql (by have := hK.few i hi; omega) hX hxn hx3 (fun x hx => by
    have hm : x ∈ items fs is := by rw [← hK.cat]; exact List.mem_flatMap.2 ⟨i, List.mem_range.2 hi, hx⟩
    exact items_fb x hm) (piece_nds hK.cat hi)
end Go.Proofs.Ytonlhkhjdnaojaa
