/-
  A summary that came in, opened; marllaw06.few.
-/
import Derived.Test.YtkdjfhbdcfjnnaaFinIn
import Derived.Test.YtkdjfhbdcfjnnaaSwAwake
import Derived.OpenShut
import Derived.Lib.SmallJoins
namespace Go.Proofs.Ytkdjfhbdcfjnnaa
open Go.RowKit
/-- What the walk is told of a summary that came in. -/
structure PartIn (w : World) (m : Sm) (fa : Option Addr) (fn fc : Nat) (ia : Option Addr) (inn ic : Nat) : Prop where
  fin : FinIn w fa fn fc m.fs
  ins : IntsIn w ia inn ic m.is
  we : -9223372036854775808 ≤ m.e ∧ m.e ≤ 9223372036854775807
  wc : -9223372036854775808 ≤ m.c ∧ m.c ≤ 9223372036854775807
  wi : -9223372036854775808 ≤ m.i ∧ m.i ≤ 9223372036854775807
  wp : -9223372036854775808 ≤ m.p ∧ m.p ≤ 9223372036854775807
  wx : -9223372036854775808 ≤ m.x ∧ m.x ≤ 9223372036854775807
section
open Go.ChangeShapes Go.WideShapes Go.ChangeAt
theorem open_part {H : Type} {enc : TypeId × Value → H} {w : World} {base : Nat} {held : Bool} {r : Reach} {b0 : Nat} {v : Value} {d : DataW H} {p : List MemPlace}
    (hv : Value.okWide Try.prog w r b0 25 v) (h : DataW.Trod enc Try.prog w base (fun _ => true) held 25 v d p) :
    ∃ (m : Sm) (fa : Option Addr) (fn fc : Nat) (ia : Option Addr) (inn ic : Nat), v = part m.e m.c m.i m.p m.x fa fn fc ia inn ic ∧ PartIn w m fa fn fc ia inn ic := by
  obtain ⟨cs, rfl, hsz⟩ := okWide_struct Try.underlying25 hv
  obtain ⟨l⟩ := cs
  have hc7 : Try.prog.cellsOf 25 = 7 := by kernel_rfl
  have hci : Try.prog.cellsOf 3 = 1 := by kernel_rfl
  have hcf : Try.prog.cellsOf 22 = 1 := by kernel_rfl
  have hcl : Try.prog.cellsOf 23 = 1 := by kernel_rfl
  match l, hsz.trans hc7 with
  | [c0, c1, c2, c3, c4, c5, c6], _ =>
    obtain ⟨fuel, hf⟩ := h
    obtain ⟨xs, n, _, hx, _, hlen, hg⟩ := DataW.trod_struct Try.underlying25 hf
    have hlen7 : xs.length = 7 := hlen
    have h0 := hg 0 _ rfl
    rw [List.getElem?_eq_getElem (by omega)] at h0
    obtain ⟨x0, e0, _, w0⟩ := DataW.trod_int Try.underlying3 h0
    simp [Value.cells, hci] at e0
    subst e0
    have h1 := hg 1 _ rfl
    rw [List.getElem?_eq_getElem (by omega)] at h1
    obtain ⟨x1, e1, _, w1⟩ := DataW.trod_int Try.underlying3 h1
    simp [Value.cells, hci] at e1
    subst e1
    have h2 := hg 2 _ rfl
    rw [List.getElem?_eq_getElem (by omega)] at h2
    obtain ⟨x2, e2, _, w2⟩ := DataW.trod_int Try.underlying3 h2
    simp [Value.cells, hci] at e2
    subst e2
    have h3 := hg 3 _ rfl
    rw [List.getElem?_eq_getElem (by omega)] at h3
    obtain ⟨x3, e3, _, w3⟩ := DataW.trod_int Try.underlying3 h3
    simp [Value.cells, hci] at e3
    subst e3
    have h4 := hg 4 _ rfl
    rw [List.getElem?_eq_getElem (by omega)] at h4
    obtain ⟨x4, e4, _, w4⟩ := DataW.trod_int Try.underlying3 h4
    simp [Value.cells, hci] at e4
    subst e4
    have h5 := hg 5 _ rfl
    rw [List.getElem?_eq_getElem (by omega)] at h5
    obtain ⟨fa, fn, fc, L, e5, hF⟩ := files_of_trod Try.underlying22 Try.underlying46 (by kernel_rfl) ⟨rfl, rfl⟩ ⟨rfl, rfl⟩ ⟨rfl, rfl⟩ Try.underlying3 (by kernel_rfl) Try.underlying23 (by kernel_rfl) h5
    simp [Value.cells, hcf] at e5
    subst e5
    have h6 := hg 6 _ rfl
    rw [List.getElem?_eq_getElem (by omega)] at h6
    obtain ⟨ia, inn, ic, zs, e6, hI⟩ := intsIn_of_trod Try.underlying23 Try.underlying3 (by kernel_rfl) h6
    simp [Value.cells, hcl] at e6
    subst e6
    exact ⟨⟨x0, x1, x2, x3, x4, L, zs⟩, fa, fn, fc, ia, inn, ic, rfl, hF, hI, Go.bounds_i64 w0, Go.bounds_i64 w1, Go.bounds_i64 w2, Go.bounds_i64 w3, Go.bounds_i64 w4⟩
end
def few6 (m : Sm) : Bool := decide (m.fs.length ≤ 40 ∧ m.is.length ≤ 150 ∧ m.is.length + blF m.fs ≤ 150)
section
variable {w : World} (m : Sm) (fa : Option Addr) (fn fc : Nat) (ia : Option Addr) (inn ic : Nat)
abbrev pcs (m : Sm) (fa : Option Addr) (fn fc : Nat) (ia : Option Addr) (inn ic : Nat) : Array Value := #[.int .i64 m.e, .int .i64 m.c, .int .i64 m.i, .int .i64 m.p, .int .i64 m.x, .slice fa fn fc, .slice ia inn ic]
set_option maxHeartbeats 4000000 in
theorem few_any (hF : Fis w fa m.fs) (hn : fn = m.fs.length) (hin : inn = m.is.length) (hx1 : fn ≤ 9223372036854775807) (hx2 : inn ≤ 9223372036854775807) (hfl : ∀ x ∈ m.fs, x.lb.length ≤ 9223372036854775807) :
    Calls Try.prog 10 #[part m.e m.c m.i m.p m.x fa fn fc ia inn ic] w fun e w' => e = .returned (.bool (few6 m)) ∧ Below w.heap.size w w' := by
  unfold few6
  rw [← hn, ← hin]
  have HS := Lib.hid (sup_pc w (.cells (pcs m fa fn fc ia inn ic) 25))
  have HX := Lib.hid (blo_laid w 25 (pcs m fa fn fc ia inn ic))
  have c5 := HX.out.cell 5
  have c6 := HX.out.cell 6
  simp [pcs] at c5 c6
  by_cases h1 : fn ≤ 40
  · by_cases h2 : inn ≤ 150
    · have j1 : ¬ (40 : Int) < (fn : Int) := by omega
      have j2 : ¬ (150 : Int) < (inn : Int) := by omega
      have HF := Lib.hid hF
      have HN := Lib.hid hn
      have HL := Lib.hid hfl
      have HE : Hid (decide (fn ≤ 40 ∧ inn ≤ 150 ∧ inn + blF m.fs ≤ 150) = decide (inn + blF m.fs ≤ 150)) := by
        show _ = _
        exact decide_eq_decide.2 ⟨fun h => h.2.2, fun h => ⟨h1, h2, h⟩⟩
      rw [HE.out]
      clear hF hn hfl HE hin
      go_enter Try.func10, Try.ntmps10
      go_wp2_with fail
      go_loopw [3, 4, 21] (fun n _ t wr => ∃ k : Nat, k ≤ fn ∧ t = .int .i64 k ∧ n = .int .i64 ((inn + blF (m.fs.take k) : Nat) : Int) ∧ inn + blF (m.fs.take k) ≤ 150 ∧ wr = w.alloc (.cells (pcs m fa fn fc ia inn ic) 25)) (fun _ _ t _ => fn - (intOf t).toNat)
      case atStart => exact ⟨0, Nat.zero_le _, rfl, by simp [blF], by simpa [blF] using h2, rfl⟩
      case round =>
        obtain ⟨k, hk, rfl, rfl, hle, rfl⟩ := hrel
        by_cases hlt : k < fn
        · have hkl : k < m.fs.length := by rw [← HN.out]; exact hlt
          obtain ⟨b, o, cc, cp, rfl, -, -, q3, -⟩ := HF.out.at hkl
          have q4 := cell_later HS.out q3
          have hsn := take_snocF m.fs fi0 k hkl
          have hmem : m.fs.getD k fi0 ∈ m.fs := by rw [List.getD_eq_getElem?_getD, List.getElem?_eq_getElem hkl]; exact List.getElem_mem _
          have hl9 := HL.out _ hmem
          have HSn : Hid (blF (m.fs.take (k + 1)) = blF (m.fs.take k) + (m.fs.getD k fi0).lb.length) := by show _ = _; rw [hsn, blF_snoc]
          have HTo : Hid (blF (m.fs.take (k + 1)) ≤ blF m.fs) := blF_take m.fs (k + 1)
          generalize (m.fs.getD k fi0).lb.length = u at *
          obtain ⟨M, hM⟩ : ∃ M, blF (m.fs.take k) = M := ⟨_, rfl⟩
          rw [hM] at HSn hle
          simp only [hM]
          have k0 : (0 : Int) ≤ (k : Int) := by omega
          have k1 : (k : Int) < (fn : Int) := by omega
          clear hkl hsn hmem hM q3
          by_cases hov : inn + M + u ≤ 150
          · have j3 : ¬ 150 - ((inn + M : Nat) : Int) < (u : Int) := by omega
            have HOv := Lib.hid hov
            go_wp2_with fail
            go_roundw
            case rel => exact ⟨k + 1, by omega, by simp, by rw [HSn.out]; congr 1; omega, by rw [HSn.out]; have := HOv.out; omega, by first | rfl | trivial⟩
            case measure => simp [intOf]; omega
          · have j3 : 150 - ((inn + M : Nat) : Int) < (u : Int) := by omega
            have HNo : Hid (decide (inn + blF m.fs ≤ 150) = false) := by
              refine decide_eq_false fun h => ?_
              have h1 := HSn.out
              have h2 := HTo.out
              omega
            clear HSn HTo
            go_wp2
            go_ret
            exact ⟨by rw [HNo.out]; rfl, HS.out⟩
        · have hkn : m.fs.take k = m.fs := by rw [List.take_of_length_le]; have := HN.out; omega
          rw [hkn] at hle
          have HYes : Hid (decide (inn + blF m.fs ≤ 150) = true) := decide_eq_true hle
          have k1 : ¬ (k : Int) < (fn : Int) := by omega
          clear hkn hle
          go_wp2
          go_ret
          exact ⟨by rw [HYes.out]; rfl, HS.out⟩
    · have j1 : ¬ (40 : Int) < (fn : Int) := by omega
      have j2 : (150 : Int) < (inn : Int) := by omega
      rw [decide_eq_false (fun h => h2 h.2.1)]
      clear hF hn hfl hin
      go_enter Try.func10, Try.ntmps10
      go_wp2
      go_ret
      exact ⟨rfl, HS.out⟩
  · have j1 : (40 : Int) < (fn : Int) := by omega
    rw [decide_eq_false (fun h => h1 h.1)]
    clear hF hn hfl hin
    go_enter Try.func10, Try.ntmps10
    go_wp2
    go_ret
    exact ⟨rfl, HS.out⟩
end
end Go.Proofs.Ytkdjfhbdcfjnnaa
