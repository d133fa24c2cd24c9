/-
  SmChk · SmCk2 · SgCln · SumMath · BaseSum · BaseParts · SwMath · SwFil: these texts in one.
-/
import Derived.Test.YtlkgaefabahkoaaDoorPk01
import Derived.Test.YtlkgaefabahkoaaDoorRows
import Derived.Test.YtlkgaefabahkoaaDoorPk00
import Derived.Laws.AppendOwn
/-
  A summary's Check.
-/
namespace Go.Proofs.YtlkgaefabahkoaaDoor
open Go.RowKit

def outB (v a b : Int) : Bool := decide (v < a) || decide (b < v)
theorem outside_any (v a b : Int) (w : World) : Calls Tryd.prog 74 #[.int .i64 v, .int .i64 a, .int .i64 b] w fun e w' => e = .returned (.bool (outB v a b)) ∧ w = w' := by
  unfold outB
  by_cases h : v < a
  · rw [decide_eq_true h]
    go_enter Tryd.func74, Tryd.ntmps74
    go_wp2
    go_ret
    exact ⟨rfl, rfl⟩
  · rw [decide_eq_false h]
    go_enter Tryd.func74, Tryd.ntmps74
    go_wp2
    go_ret
    exact ⟨by simp, rfl⟩
theorem wrongIno_any (v : Int) (w : World) : Calls Tryd.prog 78 #[.int .i64 v] w fun e w' => e = .returned (.bool (outB v 1 200)) ∧ Below w.heap.size w w' := by
  have HO := Lib.hid (outside_any v 1 200 w)
  go_enter Tryd.func78, Tryd.ntmps78
  go_wp2_with fail
  refine HO.out.mono ?_
  rintro e w1 ⟨rfl, rfl⟩
  go_wp2
  go_ret
  exact ⟨rfl, Below.refl _ _⟩
theorem wrongLbn_any (v : Int) (w : World) (hv : -9223372036854775808 ≤ v) : Calls Tryd.prog 96 #[.int .i64 v] w fun e w' => e = .returned (.bool (!isB v)) ∧ Below w.heap.size w w' := by
  cases h : isB v with
  | true =>
    have HL := Lib.hid (level_yes v w hv h)
    go_enter Tryd.func96, Tryd.ntmps96
    go_wp2_with fail
    refine HL.out.mono ?_
    rintro e w1 ⟨rfl, hb⟩
    have HB := Lib.hid hb
    clear hb HL
    go_wp2
    go_ret
    exact ⟨rfl, HB.out⟩
  | false =>
    have HL := Lib.hid (level_no v w hv h)
    go_enter Tryd.func96, Tryd.ntmps96
    go_wp2_with fail
    refine HL.out.mono ?_
    rintro e w1 ⟨rfl, hb⟩
    have HB := Lib.hid hb
    clear hb HL
    go_wp2
    go_ret
    exact ⟨rfl, HB.out⟩
/-! slices.IndexFunc, slices.ContainsFunc. -/
section
variable {w : World} {F : FuncId} (hF : ∀ (args : Array Value) (W : World), (callFunc F args).run Tryd.prog W = .ok (.enter F args) W)
include hF
set_option maxHeartbeats 2000000 in
theorem indexI_any (P : Int → Bool) (a : Option Addr) (n c : Nat) (l : List Int) (hn : n = l.length) (hn9 : n ≤ 9223372036854775807) (hI : Ints w a l)
    (hP : ∀ x ∈ l, ∀ W, Calls Tryd.prog F #[.int .i64 x] W fun e W' => e = .returned (.bool (P x)) ∧ Below W.heap.size W W') :
    Calls Tryd.prog 97 #[.slice a n c, .func (.func F) #[] #[]] w fun e w' => (∃ i : Int, e = .returned (.int .i64 i) ∧ (decide (0 ≤ i) = l.any P)) ∧ Below w.heap.size w w' := by
  have HP := Lib.hid hP
  have HN := Lib.hid hn
  have HI := Lib.hid hI
  clear hP hn hI
  go_enter Tryd.func97, Tryd.ntmps97
  go_wp2_with fail
  go_loopw [8] (fun t wr => ∃ k : Nat, k ≤ n ∧ t = .int .i64 k ∧ (l.take k).any P = false ∧ Below w.heap.size w wr) (fun t _ => n - (intOf t).toNat)
  case atStart => exact ⟨0, Nat.zero_le _, rfl, rfl, Below.refl _ _⟩
  case round =>
    obtain ⟨k, hk, rfl, hno, hB⟩ := hrel
    have HNo := Lib.hid hno
    have HB := Lib.hid hB
    clear hno hB
    by_cases hlt : k < n
    · have hkl : k < l.length := by rw [← HN.out]; exact hlt
      obtain ⟨b, o, rfl, hc⟩ := HI.out (fun e => by rw [e] at hkl; cases hkl)
      have c0 := cell_later HB.out (hc k hkl)
      have htk := take_snocF l 0 k hkl
      have hmem : l.getD k 0 ∈ l := by rw [List.getD_eq_getElem?_getD, List.getElem?_eq_getElem hkl]; exact List.getElem_mem _
      have HPx := Lib.hid (HP.out _ hmem)
      have hdr : l = l.take k ++ l.getD k 0 :: l.drop (k + 1) := by
        conv => lhs; rw [← List.take_append_drop (k + 1) l, htk, List.append_assoc]
        rfl
      obtain ⟨x, hx⟩ : ∃ x, l.getD k 0 = x := ⟨_, rfl⟩
      rw [hx] at c0 htk HPx hdr
      have HTk := Lib.hid htk
      have HDr := Lib.hid hdr
      have k0 : (0 : Int) ≤ (k : Int) := by omega
      have k1 : (k : Int) < (n : Int) := by omega
      have hcf := hF
      clear hkl hc htk hmem hx hdr
      cases hpx : P x with
      | true =>
        rw [hpx] at HPx
        have HA : Hid (l.any P = true) := by
          show _ = _
          rw [HDr.out, List.any_append, List.any_cons, hpx]; simp
        clear hpx HTk HDr HNo
        go_wp2_with fail
        refine (HPx.out _).mono ?_
        rintro e w1 ⟨rfl, hb⟩
        have HB1 := Lib.hid (HB.out.trans (hb.mono HB.out.size))
        clear hb HPx c0 HB
        go_wp2
        go_ret
        exact ⟨⟨k, rfl, by rw [HA.out]; exact decide_eq_true (by omega)⟩, HB1.out⟩
      | false =>
        rw [hpx] at HPx
        have HA : Hid ((l.take (k + 1)).any P = false) := by
          show _ = _
          rw [HTk.out, List.any_append, HNo.out, List.any_cons, hpx]; rfl
        clear hpx HTk HDr HNo
        go_wp2_with fail
        refine (HPx.out _).mono ?_
        rintro e w1 ⟨rfl, hb⟩
        have HB1 := Lib.hid (HB.out.trans (hb.mono HB.out.size))
        clear hb HPx c0 HB
        go_wp2_with fail
        go_roundw
        case rel => exact ⟨k + 1, by omega, by simp, HA.out, HB1.out⟩
        case measure => simp [intOf]; omega
    · have hkn : l.take k = l := by rw [List.take_of_length_le]; have := HN.out; omega
      rw [hkn] at HNo
      have k1 : ¬ (k : Int) < (n : Int) := by omega
      clear hkn
      go_wp2
      go_ret
      exact ⟨⟨-1, rfl, by rw [HNo.out]; rfl⟩, HB.out⟩
theorem containsI_any (P : Int → Bool) (a : Option Addr) (n c : Nat) (l : List Int) (hn : n = l.length) (hn9 : n ≤ 9223372036854775807) (hI : Ints w a l)
    (hP : ∀ x ∈ l, ∀ W, Calls Tryd.prog F #[.int .i64 x] W fun e W' => e = .returned (.bool (P x)) ∧ Below W.heap.size W W') :
    Calls Tryd.prog 77 #[.slice a n c, .func (.func F) #[] #[]] w fun e w' => e = .returned (.bool (l.any P)) ∧ Below w.heap.size w w' := by
  have HC := Lib.hid (indexI_any hF P a n c l hn hn9 hI hP)
  clear hP hn hI
  go_enter Tryd.func77, Tryd.ntmps77
  go_wp2_with fail
  refine HC.out.mono ?_
  rintro e w1 ⟨⟨i, rfl, hi⟩, hb⟩
  have HI := Lib.hid hi
  have HB := Lib.hid hb
  clear hi hb HC
  go_wp2
  go_ret
  exact ⟨by rw [← HI.out]; rfl, HB.out⟩
set_option maxHeartbeats 2000000 in
theorem indexF_any (P : Fi → Bool) (a : Option Addr) (n c : Nat) (l : List Fi) (hn : n = l.length) (hn9 : n ≤ 9223372036854775807) (hI : Fis w a l)
    (hP : ∀ x ∈ l, ∀ (W : World) (b : Option Addr) (cp : Nat), Below w.heap.size w W → Ints W b x.lb → Calls Tryd.prog F #[.agg #[.int .i64 x.ino, .int .i64 x.ver, .slice b x.lb.length cp]] W fun e W' => e = .returned (.bool (P x)) ∧ Below W.heap.size W W') :
    Calls Tryd.prog 95 #[.slice a n c, .func (.func F) #[] #[]] w fun e w' => (∃ i : Int, e = .returned (.int .i64 i) ∧ (decide (0 ≤ i) = l.any P)) ∧ Below w.heap.size w w' := by
  have HP := Lib.hid hP
  have HN := Lib.hid hn
  have HI := Lib.hid hI
  clear hP hn hI
  go_enter Tryd.func95, Tryd.ntmps95
  go_wp2_with fail
  go_loopw [8] (fun t wr => ∃ k : Nat, k ≤ n ∧ t = .int .i64 k ∧ (l.take k).any P = false ∧ Below w.heap.size w wr) (fun t _ => n - (intOf t).toNat)
  case atStart => exact ⟨0, Nat.zero_le _, rfl, rfl, Below.refl _ _⟩
  case round =>
    obtain ⟨k, hk, rfl, hno, hB⟩ := hrel
    have HNo := Lib.hid hno
    have HB := Lib.hid hB
    clear hno hB
    by_cases hlt : k < n
    · have hkl : k < l.length := by rw [← HN.out]; exact hlt
      obtain ⟨b, o, cc, cp, rfl, d1, d2, d3, d4⟩ := HI.out.at hkl
      have d1 := cell_later HB.out d1
      have d2 := cell_later HB.out d2
      have d3 := cell_later HB.out d3
      have d4 := d4.below HB.out
      have htk := take_snocF l fi0 k hkl
      have hmem : l.getD k fi0 ∈ l := by rw [List.getD_eq_getElem?_getD, List.getElem?_eq_getElem hkl]; exact List.getElem_mem _
      have HPx := Lib.hid (HP.out _ hmem wr cc cp HB.out d4)
      have hdr : l = l.take k ++ l.getD k fi0 :: l.drop (k + 1) := by
        conv => lhs; rw [← List.take_append_drop (k + 1) l, htk, List.append_assoc]
        rfl
      obtain ⟨x, hx⟩ : ∃ x, l.getD k fi0 = x := ⟨_, rfl⟩
      rw [hx] at d1 d2 d3 htk HPx hdr
      have HTk := Lib.hid htk
      have HDr := Lib.hid hdr
      have k0 : (0 : Int) ≤ (k : Int) := by omega
      have k1 : (k : Int) < (n : Int) := by omega
      have hcf := hF
      clear hkl d4 htk hmem hx hdr
      cases hpx : P x with
      | true =>
        rw [hpx] at HPx
        have HA : Hid (l.any P = true) := by
          show _ = _
          rw [HDr.out, List.any_append, List.any_cons, hpx]; simp
        clear hpx HTk HDr HNo
        go_wp2_with fail
        refine HPx.out.mono ?_
        rintro e w1 ⟨rfl, hb⟩
        have HB1 := Lib.hid (HB.out.trans (hb.mono HB.out.size))
        clear hb HPx d1 d2 d3 HB
        go_wp2
        go_ret
        exact ⟨⟨k, rfl, by rw [HA.out]; exact decide_eq_true (by omega)⟩, HB1.out⟩
      | false =>
        rw [hpx] at HPx
        have HA : Hid ((l.take (k + 1)).any P = false) := by
          show _ = _
          rw [HTk.out, List.any_append, HNo.out, List.any_cons, hpx]; rfl
        clear hpx HTk HDr HNo
        go_wp2_with fail
        refine HPx.out.mono ?_
        rintro e w1 ⟨rfl, hb⟩
        have HB1 := Lib.hid (HB.out.trans (hb.mono HB.out.size))
        clear hb HPx d1 d2 d3 HB
        go_wp2_with fail
        go_roundw
        case rel => exact ⟨k + 1, by omega, by simp, HA.out, HB1.out⟩
        case measure => simp [intOf]; omega
    · have hkn : l.take k = l := by rw [List.take_of_length_le]; have := HN.out; omega
      rw [hkn] at HNo
      have k1 : ¬ (k : Int) < (n : Int) := by omega
      clear hkn
      go_wp2
      go_ret
      exact ⟨⟨-1, rfl, by rw [HNo.out]; rfl⟩, HB.out⟩
theorem containsF_any (P : Fi → Bool) (a : Option Addr) (n c : Nat) (l : List Fi) (hn : n = l.length) (hn9 : n ≤ 9223372036854775807) (hI : Fis w a l)
    (hP : ∀ x ∈ l, ∀ (W : World) (b : Option Addr) (cp : Nat), Below w.heap.size w W → Ints W b x.lb → Calls Tryd.prog F #[.agg #[.int .i64 x.ino, .int .i64 x.ver, .slice b x.lb.length cp]] W fun e W' => e = .returned (.bool (P x)) ∧ Below W.heap.size W W') :
    Calls Tryd.prog 75 #[.slice a n c, .func (.func F) #[] #[]] w fun e w' => e = .returned (.bool (l.any P)) ∧ Below w.heap.size w w' := by
  have HC := Lib.hid (indexF_any hF P a n c l hn hn9 hI hP)
  clear hP hn hI
  go_enter Tryd.func75, Tryd.ntmps75
  go_wp2_with fail
  refine HC.out.mono ?_
  rintro e w1 ⟨⟨i, rfl, hi⟩, hb⟩
  have HI := Lib.hid hi
  have HB := Lib.hid hb
  clear hi hb HC
  go_wp2
  go_ret
  exact ⟨by rw [← HI.out]; rfl, HB.out⟩
end
end Go.Proofs.YtlkgaefabahkoaaDoor
/-
  A summary's Check, of any summary.
-/
namespace Go.Proofs.YtlkgaefabahkoaaDoor
open Go.RowKit

def badF (x : Fi) : Bool := outB x.ino 1 200 || outB x.ver 0 65535 || outB (x.lb.length : Int) 1 30 || x.lb.any (fun n => !isB n)
def badI (n : Int) : Bool := outB n 1 200

def chkC (e c i p x : Int) (l : List Fi) (is : List Int) : Int :=
  if outB e 0 65535 || outB c 0 65535 then 22 else if outB p 1 64 || outB i 0 (p - 1) then 22 else if outB x 0 4095 then 22 else if l.any badF then 22 else if is.any badI then 22 else if 88 < 10 + is.length + szF l then 27 else 0
theorem out_yes {v a b : Int} (h : outB v a b = false) : a ≤ v ∧ v ≤ b := by
  unfold outB at h
  simp only [Bool.or_eq_false_iff, decide_eq_false_iff_not] at h
  omega
section
variable {w : World}
set_option maxRecDepth 100000 in
set_option maxHeartbeats 4000000 in
theorem wrongFile_any (x : Fi) (b : Option Addr) (cp : Nat) (hb : Ints w b x.lb) (hn9 : x.lb.length ≤ 9223372036854775807) (hlb : ∀ n ∈ x.lb, -9223372036854775808 ≤ n) :
    Calls Tryd.prog 76 #[.agg #[.int .i64 x.ino, .int .i64 x.ver, .slice b x.lb.length cp]] w fun e w' => e = .returned (.bool (badF x)) ∧ Below w.heap.size w w' := by
  have hsup := sup_pc w (.cells #[.int .i64 x.ino, .int .i64 x.ver, .slice b x.lb.length cp] FN)
  have HB := Lib.hid hsup
  have HX := Lib.hid (blo_laid w FN #[.int .i64 x.ino, .int .i64 x.ver, .slice b x.lb.length cp])
  have H1 := Lib.hid (fun W => wrongIno_any x.ino W)
  have H2 := Lib.hid (fun W => outside_any x.ver 0 65535 W)
  have H3 := Lib.hid (fun W => outside_any (x.lb.length : Int) 1 30 W)
  have H4 := Lib.hid (fun W (hW : Below w.heap.size w W) => containsI_any (w := W) (F := 96) (fun args W => by rfl) (fun n => !isB n) b x.lb.length cp x.lb rfl hn9 (hb.below hW) (fun n hn W => wrongLbn_any n W (hlb n hn)))
  unfold badF
  clear hb hlb hsup
  obtain ⟨m, hm⟩ : ∃ m, x.lb.length = m := ⟨_, rfl⟩
  rw [hm] at HB HX H3 H4
  rw [hm]
  cases h1 : outB x.ino 1 200 with
  | true =>
    rw [h1] at H1
    clear h1
    go_enter Tryd.func76, Tryd.ntmps76
    go_wp2_with fail
    refine (H1.out _).mono ?_
    rintro e w1 ⟨rfl, hb1⟩
    have HB1 := Lib.hid (HB.out.trans (hb1.mono HB.out.size))
    have HX1 := Lib.hid (HX.out.later hb1)
    have c1 := HX1.out.cell 1
    have c2 := HX1.out.cell 2
    simp at c1 c2
    clear hb1
    go_wp2
    go_ret
    exact ⟨rfl, HB1.out⟩
  | false =>
    rw [h1] at H1
    cases h2 : outB x.ver 0 65535 with
    | true =>
      rw [h2] at H2
      clear h1 h2
      go_enter Tryd.func76, Tryd.ntmps76
      go_wp2_with fail
      refine (H1.out _).mono ?_
      rintro e w1 ⟨rfl, hb1⟩
      have HB1 := Lib.hid (HB.out.trans (hb1.mono HB.out.size))
      have HX1 := Lib.hid (HX.out.later hb1)
      have c1 := HX1.out.cell 1
      have c2 := HX1.out.cell 2
      simp at c1 c2
      clear hb1
      go_wp2_with fail
      refine (H2.out _).mono ?_
      rintro e w2 ⟨rfl, rfl⟩
      go_wp2
      go_ret
      exact ⟨rfl, HB1.out⟩
    | false =>
      rw [h2] at H2
      cases h3 : outB (m : Int) 1 30 with
      | true =>
        rw [h3] at H3
        clear h1 h2 h3
        go_enter Tryd.func76, Tryd.ntmps76
        go_wp2_with fail
        refine (H1.out _).mono ?_
        rintro e w1 ⟨rfl, hb1⟩
        have HB1 := Lib.hid (HB.out.trans (hb1.mono HB.out.size))
        have HX1 := Lib.hid (HX.out.later hb1)
        have c1 := HX1.out.cell 1
        have c2 := HX1.out.cell 2
        simp at c1 c2
        clear hb1
        go_wp2_with fail
        refine (H2.out _).mono ?_
        rintro e w2 ⟨rfl, rfl⟩
        go_wp2_with fail
        refine (H3.out _).mono ?_
        rintro e w2 ⟨rfl, rfl⟩
        go_wp2
        go_ret
        exact ⟨rfl, HB1.out⟩
      | false =>
        rw [h3] at H3
        clear h1 h2 h3
        go_enter Tryd.func76, Tryd.ntmps76
        go_wp2_with fail
        refine (H1.out _).mono ?_
        rintro e w1 ⟨rfl, hb1⟩
        have HB1 := Lib.hid (HB.out.trans (hb1.mono HB.out.size))
        have HX1 := Lib.hid (HX.out.later hb1)
        have c1 := HX1.out.cell 1
        have c2 := HX1.out.cell 2
        simp at c1 c2
        clear hb1
        go_wp2_with fail
        refine (H2.out _).mono ?_
        rintro e w2 ⟨rfl, rfl⟩
        go_wp2_with fail
        refine (H3.out _).mono ?_
        rintro e w2 ⟨rfl, rfl⟩
        go_wp2_with fail
        refine (H4.out _ HB1.out).mono ?_
        rintro e w4 ⟨rfl, hb4⟩
        have HB4 := Lib.hid (HB1.out.trans (hb4.mono HB1.out.size))
        clear hb4 c1 c2
        go_wp2
        go_ret
        exact ⟨rfl, HB4.out⟩
set_option maxRecDepth 100000 in
set_option maxHeartbeats 4000000 in
theorem check_any (e c i p x : Int) (l : List Fi) (is : List Int) (fa : Option Addr) (fn fc : Nat) (ia : Option Addr) (inn ic : Nat) (hF : Fis w fa l) (hn : fn = l.length) (hs : szF l ≤ 1000000000) (hI : Ints w ia is) (hin : inn = is.length) (hi9 : inn ≤ 1000000000) (hlb : ∀ x ∈ l, ∀ n ∈ x.lb, -9223372036854775808 ≤ n) :
    Calls Tryd.prog 48 #[part e c i p x fa fn fc ia inn ic] w fun en w' => en = .returned (.int .i64 (chkC e c i p x l is)) ∧ Below w.heap.size w w' := by
  have hsup := sup_pc w (.cells #[.int .i64 e, .int .i64 c, .int .i64 i, .int .i64 p, .int .i64 x, .slice fa fn fc, .slice ia inn ic] 36)
  have HB := Lib.hid hsup
  have HX := Lib.hid (blo_laid w 36 #[.int .i64 e, .int .i64 c, .int .i64 i, .int .i64 p, .int .i64 x, .slice fa fn fc, .slice ia inn ic])
  have O1 := Lib.hid (fun W => outside_any e 0 65535 W)
  have O2 := Lib.hid (fun W => outside_any c 0 65535 W)
  have O3 := Lib.hid (fun W => outside_any p 1 64 W)
  have O4 := Lib.hid (fun W => outside_any i 0 (p - 1) W)
  have O5 := Lib.hid (fun W => outside_any x 0 4095 W)
  have hfn9 : fn ≤ 9223372036854775807 := by have := len_szF l; omega
  have hl9 : ∀ x ∈ l, x.lb.length ≤ 9223372036854775807 := fun x hx => by
    have h1 : 4 + 2 * x.lb.length ≤ szF l := by
      unfold szF
      have : ∀ (l : List Nat) (y : Nat), y ∈ l → y ≤ l.sum := fun l y hy => by
        induction l with
        | nil => cases hy
        | cons a l ih =>
          rw [List.sum_cons]
          rcases List.mem_cons.1 hy with rfl | hy
          · omega
          · have := ih hy; omega
      exact this _ _ (List.mem_map.2 ⟨x, hx, rfl⟩)
    omega
  have O6 := Lib.hid (fun W (hW : Below w.heap.size w W) => containsF_any (w := W) (F := 76) (fun args W => by rfl) badF fa fn fc l hn hfn9 (hF.later hW) (fun y hy W2 b cp hb2 hI2 => wrongFile_any y b cp hI2 (hl9 y hy) (hlb y hy)))
  have O7 := Lib.hid (fun W (hW : Below w.heap.size w W) => containsI_any (w := W) (F := 78) (fun args W => by rfl) badI ia inn ic is hin (by omega) (hI.below hW) (fun n hn W => wrongIno_any n W))
  have O8 := Lib.hid (fun W (hW : Below w.heap.size w W) => size_any (w := W) (l := l) e c i p x fa fn fc ia inn ic (hF.later hW) hn hs hi9)
  have HIn := Lib.hid hin
  clear hF hn hI hin hlb hsup hl9
  cases g1 : outB e 0 65535 with
  | true =>
    rw [g1] at O1
    have HV : Hid (chkC e c i p x l is = 22) := by show _ = _; unfold chkC; simp [g1]
    clear g1
    go_enter Tryd.func48, Tryd.ntmps48
    go_wp2_with fail
    refine (O1.out _).mono ?_
    rintro en w2 ⟨rfl, rfl⟩
    go_wp2
    go_ret
    exact ⟨by rw [HV.out]; rfl, HB.out⟩
  | false =>
    rw [g1] at O1
    cases g2 : outB c 0 65535 with
    | true =>
      rw [g2] at O2
      have HV : Hid (chkC e c i p x l is = 22) := by show _ = _; unfold chkC; simp [g1, g2]
      clear g1 g2
      go_enter Tryd.func48, Tryd.ntmps48
      go_wp2_with fail
      refine (O1.out _).mono ?_
      rintro en w2 ⟨rfl, rfl⟩
      go_wp2_with fail
      refine (O2.out _).mono ?_
      rintro en w2 ⟨rfl, rfl⟩
      go_wp2
      go_ret
      exact ⟨by rw [HV.out]; rfl, HB.out⟩
    | false =>
      rw [g2] at O2
      cases g3 : outB p 1 64 with
      | true =>
        rw [g3] at O3
        have HV : Hid (chkC e c i p x l is = 22) := by show _ = _; unfold chkC; simp [g1, g2, g3]
        clear g1 g2 g3
        go_enter Tryd.func48, Tryd.ntmps48
        go_wp2_with fail
        refine (O1.out _).mono ?_
        rintro en w2 ⟨rfl, rfl⟩
        go_wp2_with fail
        refine (O2.out _).mono ?_
        rintro en w2 ⟨rfl, rfl⟩
        go_wp2_with fail
        refine (O3.out _).mono ?_
        rintro en w2 ⟨rfl, rfl⟩
        go_wp2
        go_ret
        exact ⟨by rw [HV.out]; rfl, HB.out⟩
      | false =>
        rw [g3] at O3
        obtain ⟨hp1, hp2⟩ := out_yes g3
        cases g4 : outB i 0 (p - 1) with
        | true =>
          rw [g4] at O4
          have HV : Hid (chkC e c i p x l is = 22) := by show _ = _; unfold chkC; simp [g1, g2, g3, g4]
          clear g1 g2 g3 g4
          go_enter Tryd.func48, Tryd.ntmps48
          go_wp2_with fail
          refine (O1.out _).mono ?_
          rintro en w2 ⟨rfl, rfl⟩
          go_wp2_with fail
          refine (O2.out _).mono ?_
          rintro en w2 ⟨rfl, rfl⟩
          go_wp2_with fail
          refine (O3.out _).mono ?_
          rintro en w2 ⟨rfl, rfl⟩
          go_wp2_with fail
          refine (O4.out _).mono ?_
          rintro en w2 ⟨rfl, rfl⟩
          go_wp2
          go_ret
          exact ⟨by rw [HV.out]; rfl, HB.out⟩
        | false =>
          rw [g4] at O4
          cases g5 : outB x 0 4095 with
          | true =>
            rw [g5] at O5
            have HV : Hid (chkC e c i p x l is = 22) := by show _ = _; unfold chkC; simp [g1, g2, g3, g4, g5]
            clear g1 g2 g3 g4 g5
            go_enter Tryd.func48, Tryd.ntmps48
            go_wp2_with fail
            refine (O1.out _).mono ?_
            rintro en w2 ⟨rfl, rfl⟩
            go_wp2_with fail
            refine (O2.out _).mono ?_
            rintro en w2 ⟨rfl, rfl⟩
            go_wp2_with fail
            refine (O3.out _).mono ?_
            rintro en w2 ⟨rfl, rfl⟩
            go_wp2_with fail
            refine (O4.out _).mono ?_
            rintro en w2 ⟨rfl, rfl⟩
            go_wp2_with fail
            refine (O5.out _).mono ?_
            rintro en w2 ⟨rfl, rfl⟩
            go_wp2
            go_ret
            exact ⟨by rw [HV.out]; rfl, HB.out⟩
          | false =>
            rw [g5] at O5
            cases g6 : l.any badF with
            | true =>
              rw [g6] at O6
              have HV : Hid (chkC e c i p x l is = 22) := by show _ = _; unfold chkC; simp [g1, g2, g3, g4, g5, g6]
              clear g1 g2 g3 g4 g5 g6
              go_enter Tryd.func48, Tryd.ntmps48
              go_wp2_with fail
              refine (O1.out _).mono ?_
              rintro en w2 ⟨rfl, rfl⟩
              go_wp2_with fail
              refine (O2.out _).mono ?_
              rintro en w2 ⟨rfl, rfl⟩
              go_wp2_with fail
              refine (O3.out _).mono ?_
              rintro en w2 ⟨rfl, rfl⟩
              go_wp2_with fail
              refine (O4.out _).mono ?_
              rintro en w2 ⟨rfl, rfl⟩
              go_wp2_with fail
              refine (O5.out _).mono ?_
              rintro en w2 ⟨rfl, rfl⟩
              go_wp2_with fail
              refine (O6.out _ HB.out).mono ?_
              rintro en w6 ⟨rfl, hb6⟩
              have HB6 := Lib.hid (HB.out.trans (hb6.mono HB.out.size))
              have HX6 := Lib.hid (HX.out.later hb6)
              have c6 := HX6.out.cell 6
              simp at c6
              clear hb6
              go_wp2
              go_ret
              exact ⟨by rw [HV.out]; rfl, HB6.out⟩
            | false =>
              rw [g6] at O6
              cases g7 : is.any badI with
              | true =>
                rw [g7] at O7
                have HV : Hid (chkC e c i p x l is = 22) := by show _ = _; unfold chkC; simp [g1, g2, g3, g4, g5, g6, g7]
                clear g1 g2 g3 g4 g5 g6 g7
                go_enter Tryd.func48, Tryd.ntmps48
                go_wp2_with fail
                refine (O1.out _).mono ?_
                rintro en w2 ⟨rfl, rfl⟩
                go_wp2_with fail
                refine (O2.out _).mono ?_
                rintro en w2 ⟨rfl, rfl⟩
                go_wp2_with fail
                refine (O3.out _).mono ?_
                rintro en w2 ⟨rfl, rfl⟩
                go_wp2_with fail
                refine (O4.out _).mono ?_
                rintro en w2 ⟨rfl, rfl⟩
                go_wp2_with fail
                refine (O5.out _).mono ?_
                rintro en w2 ⟨rfl, rfl⟩
                go_wp2_with fail
                refine (O6.out _ HB.out).mono ?_
                rintro en w6 ⟨rfl, hb6⟩
                have HB6 := Lib.hid (HB.out.trans (hb6.mono HB.out.size))
                have HX6 := Lib.hid (HX.out.later hb6)
                have c6 := HX6.out.cell 6
                simp at c6
                clear hb6
                go_wp2_with fail
                refine (O7.out _ HB6.out).mono ?_
                rintro en w7 ⟨rfl, hb7⟩
                have HB7 := Lib.hid (HB6.out.trans (hb7.mono HB6.out.size))
                have HX7 := Lib.hid (HX6.out.later hb7)
                clear hb7 c6
                have d0 := HX7.out.cell 0
                have d1 := HX7.out.cell 1
                have d2 := HX7.out.cell 2
                have d3 := HX7.out.cell 3
                have d4 := HX7.out.cell 4
                have d5 := HX7.out.cell 5
                have d6 := HX7.out.cell 6
                simp at d0 d1 d2 d3 d4 d5 d6
                go_wp2
                go_ret
                exact ⟨by rw [HV.out]; rfl, HB7.out⟩
              | false =>
                rw [g7] at O7
                by_cases g8 : 88 < 10 + inn + szF l
                · have j8 : (88 : Int) < ((10 + inn + szF l : Nat) : Int) := by omega
                  have HV : Hid (chkC e c i p x l is = 27) := by show _ = _; unfold chkC; rw [← HIn.out]; simp only [g1, g2, g3, g4, g5, g6, g7, if_pos g8]; rfl
                  clear g8
                  clear g1 g2 g3 g4 g5 g6 g7
                  go_enter Tryd.func48, Tryd.ntmps48
                  go_wp2_with fail
                  refine (O1.out _).mono ?_
                  rintro en w2 ⟨rfl, rfl⟩
                  go_wp2_with fail
                  refine (O2.out _).mono ?_
                  rintro en w2 ⟨rfl, rfl⟩
                  go_wp2_with fail
                  refine (O3.out _).mono ?_
                  rintro en w2 ⟨rfl, rfl⟩
                  go_wp2_with fail
                  refine (O4.out _).mono ?_
                  rintro en w2 ⟨rfl, rfl⟩
                  go_wp2_with fail
                  refine (O5.out _).mono ?_
                  rintro en w2 ⟨rfl, rfl⟩
                  go_wp2_with fail
                  refine (O6.out _ HB.out).mono ?_
                  rintro en w6 ⟨rfl, hb6⟩
                  have HB6 := Lib.hid (HB.out.trans (hb6.mono HB.out.size))
                  have HX6 := Lib.hid (HX.out.later hb6)
                  have c6 := HX6.out.cell 6
                  simp at c6
                  clear hb6
                  go_wp2_with fail
                  refine (O7.out _ HB6.out).mono ?_
                  rintro en w7 ⟨rfl, hb7⟩
                  have HB7 := Lib.hid (HB6.out.trans (hb7.mono HB6.out.size))
                  have HX7 := Lib.hid (HX6.out.later hb7)
                  clear hb7 c6
                  have d0 := HX7.out.cell 0
                  have d1 := HX7.out.cell 1
                  have d2 := HX7.out.cell 2
                  have d3 := HX7.out.cell 3
                  have d4 := HX7.out.cell 4
                  have d5 := HX7.out.cell 5
                  have d6 := HX7.out.cell 6
                  simp at d0 d1 d2 d3 d4 d5 d6
                  go_wp2_with fail
                  refine (O8.out _ HB7.out).mono ?_
                  rintro en w8 ⟨rfl, hb8⟩
                  have HB8 := Lib.hid (HB7.out.trans (hb8.mono HB7.out.size))
                  clear hb8 d0 d1 d2 d3 d4 d5 d6
                  go_wp2
                  go_ret
                  exact ⟨by rw [HV.out]; rfl, HB8.out⟩
                · have j8 : ¬ (88 : Int) < ((10 + inn + szF l : Nat) : Int) := by omega
                  have HV : Hid (chkC e c i p x l is = 0) := by show _ = _; unfold chkC; rw [← HIn.out]; simp only [g1, g2, g3, g4, g5, g6, g7, if_neg g8]; rfl
                  clear g8
                  clear g1 g2 g3 g4 g5 g6 g7
                  go_enter Tryd.func48, Tryd.ntmps48
                  go_wp2_with fail
                  refine (O1.out _).mono ?_
                  rintro en w2 ⟨rfl, rfl⟩
                  go_wp2_with fail
                  refine (O2.out _).mono ?_
                  rintro en w2 ⟨rfl, rfl⟩
                  go_wp2_with fail
                  refine (O3.out _).mono ?_
                  rintro en w2 ⟨rfl, rfl⟩
                  go_wp2_with fail
                  refine (O4.out _).mono ?_
                  rintro en w2 ⟨rfl, rfl⟩
                  go_wp2_with fail
                  refine (O5.out _).mono ?_
                  rintro en w2 ⟨rfl, rfl⟩
                  go_wp2_with fail
                  refine (O6.out _ HB.out).mono ?_
                  rintro en w6 ⟨rfl, hb6⟩
                  have HB6 := Lib.hid (HB.out.trans (hb6.mono HB.out.size))
                  have HX6 := Lib.hid (HX.out.later hb6)
                  have c6 := HX6.out.cell 6
                  simp at c6
                  clear hb6
                  go_wp2_with fail
                  refine (O7.out _ HB6.out).mono ?_
                  rintro en w7 ⟨rfl, hb7⟩
                  have HB7 := Lib.hid (HB6.out.trans (hb7.mono HB6.out.size))
                  have HX7 := Lib.hid (HX6.out.later hb7)
                  clear hb7 c6
                  have d0 := HX7.out.cell 0
                  have d1 := HX7.out.cell 1
                  have d2 := HX7.out.cell 2
                  have d3 := HX7.out.cell 3
                  have d4 := HX7.out.cell 4
                  have d5 := HX7.out.cell 5
                  have d6 := HX7.out.cell 6
                  simp at d0 d1 d2 d3 d4 d5 d6
                  go_wp2_with fail
                  refine (O8.out _ HB7.out).mono ?_
                  rintro en w8 ⟨rfl, hb8⟩
                  have HB8 := Lib.hid (HB7.out.trans (hb8.mono HB7.out.size))
                  clear hb8 d0 d1 d2 d3 d4 d5 d6
                  go_wp2
                  go_ret
                  exact ⟨by rw [HV.out]; rfl, HB8.out⟩
end
end Go.Proofs.YtlkgaefabahkoaaDoor
/-
  Partial segments, the writes: clean, Clear, writable.
-/
namespace Go.Proofs.YtlkgaefabahkoaaDoor
open Go.RowKit

section
variable {C : Nat} {w w' W : World} {L : Dl} {d : Dm}
theorem bks_pair (b g1 o1 c1 g2 o2 c2 : Nat) (l1 l2 : List Nat) (hb : ¬ L.has b) (h0 : W.cell? ⟨b, 0, none⟩ = some (.slice (some ⟨g1, o1, none⟩) 64 c1)) (h1 : W.cell? ⟨b, 1, none⟩ = some (.slice (some ⟨g2, o2, none⟩) 64 c2))
    (s1 : SBO W g1 o1 l1) (s2 : SBO W g2 o2 l2) (n1 : ¬ L.has g1) (n2 : ¬ L.has g2) : Bks W L (some ⟨b, 0, none⟩) 2 (fun i => if i = 0 then g1 else g2) (fun i => if i = 0 then o1 else o2) [l1, l2] := by
  refine ⟨rfl, fun _ => ⟨b, 0, rfl, hb, fun i hi => ?_⟩, fun i hi => ?_⟩
  · match i, hi with
    | 0, _ => exact ⟨c1, h0⟩
    | 1, _ => exact ⟨c2, h1⟩
  · match i, hi with
    | 0, _ => exact ⟨s1, n1⟩
    | 1, _ => exact ⟨s2, n2⟩
theorem Dk.fresh (h : Dk C w L d) {i : Nat} (hi : w.heap.size ≤ i) : ¬ L.has i := fun e => by have := (h.has_lt e).2; omega
def cleanD (d : Dm) (k : Int) : Dm × Int := sureD d k [zeroB, zeroB]
theorem cleanD_n (d : Dm) (k : Int) : (cleanD d k).1.n = d.n := sureD_n _ _ _
theorem Rm.clean {d : Dm} {m : Nat} (k : Int) (h : Rm d (m + 3)) : Rm (cleanD d k).1 m := Rm.sure [zeroB, zeroB] k (h.mono (by simp; omega))
theorem bblk_so {g : Nat} {l : List Nat} (h : BBlk w g l) : SBO w g 0 l := h.s.so
set_option maxHeartbeats 1000000 in
theorem clean_any (addr : Int) (h0 : 0 ≤ addr) (h1 : addr ≤ 100000) (hr : Rm d 3) (h : Dk C w L d) : Calls Tryd.prog 52 #[.pointer (some ⟨L.bd, 0, none⟩), .int .i64 addr] w (CodeO C w L (cleanD d addr).1 (cleanD d addr).2) := by
  have hmk := run_make64
  have hb1 : ∀ o, Below w.heap.size w ((w.alloc (.cells Z64 U8)).alloc o) := fun o => ((Below.refl _ _).alloc (Nat.le_refl _) _).alloc (by simp) _
  have HC : Hid (∀ W : World, W = (w.alloc (.cells Z64 U8)).alloc (.cells #[.slice (some ⟨w.heap.size, 0, none⟩) 64 64, .slice (some ⟨w.heap.size, 0, none⟩) 64 64] 49) →
      Calls Tryd.prog 53 #[.pointer (some ⟨L.bd, 0, none⟩), .int .i64 addr, .slice (some ⟨w.heap.size + 1, 0, none⟩) 2 2] W (CodeO C w L (cleanD d addr).1 (cleanD d addr).2)) := fun W hW => by
    subst hW
    have hb := hb1 (.cells #[.slice (some ⟨w.heap.size, 0, none⟩) 64 64, .slice (some ⟨w.heap.size, 0, none⟩) 64 64] 49)
    have hz := ((bblk_zero w).out (X := fun _ => False) (Out.of_below (sup_us2 _ (.cells #[.slice (some ⟨w.heap.size, 0, none⟩) 64 64, .slice (some ⟨w.heap.size, 0, none⟩) 64 64] 49))) (fun h => h))
    have hc := blo_laid (w.alloc (.cells Z64 U8)) 49 #[.slice (some ⟨w.heap.size, 0, none⟩) 64 64, .slice (some ⟨w.heap.size, 0, none⟩) 64 64]
    rw [World.size_alloc] at hc
    refine (sure_any addr h0 h1 _ 2 2 _ _ [zeroB, zeroB] (by omega) (bks_pair (w.heap.size + 1) w.heap.size 0 64 w.heap.size 0 64 zeroB zeroB (h.fresh (by omega)) (hc.cell 0) (hc.cell 1) (bblk_so hz) (bblk_so hz) (h.fresh (by omega)) (h.fresh (by omega))) hr (h.later hb)).mono ?_
    exact fun e w' hO => hO.before hb
  clear h hr hb1
  go_enter Tryd.func52, Tryd.ntmps52
  go_wp2_with fail
  refine (HC.out _ rfl).mono ?_
  intro e w2 hO
  have he := hO.1
  have HO := Lib.hid hO
  clear hO HC hmk
  subst he
  go_wp2
  go_ret
  exact HO.out
def clearD (d : Dm) (k : Int) : Dm × Int := if hasB d.n k 2 = true then cleanD d k else (d, 22)
set_option maxHeartbeats 1000000 in
theorem clear_any (addr : Int) (hr : Rm d 3) (h : Dk C w L d) : Calls Tryd.prog 20 #[.pointer (some ⟨L.bd, 0, none⟩), .int .i64 addr] w (CodeO C w L (clearD d addr).1 (clearD d addr).2) := by
  have HH := Lib.hid (has_any addr 2 (by omega) h)
  unfold clearD
  by_cases hc : hasB d.n addr 2 = true
  · rw [if_pos hc]
    rw [hc] at HH
    have hx := hasB_yes hc
    have hf := h.few.2
    have HC := Lib.hid (clean_any addr hx.1 (by omega) hr h)
    clear h hr hx hf hc
    go_enter Tryd.func20, Tryd.ntmps20
    go_wp2_with fail
    refine HH.out.mono ?_
    rintro e w1 ⟨rfl, rfl⟩
    go_wp2_with fail
    refine HC.out.mono ?_
    intro e w2 hO
    have he := hO.1
    have HO := Lib.hid hO
    clear hO HC HH
    subst he
    go_wp2
    go_ret
    exact HO.out
  · rw [if_neg hc]
    rw [bool_no hc] at HH
    have HS := Lib.hid (CodeO.stay h 22)
    clear h hr hc
    go_enter Tryd.func20, Tryd.ntmps20
    go_wp2_with fail
    refine HH.out.mono ?_
    rintro e w1 ⟨rfl, rfl⟩
    go_wp2
    go_ret
    exact HS.out
end
/-- How many blocks a partial segment takes. -/
def blks (fs : List Fi) (is : List Int) : Nat := 2 + is.length + blF fs
def wrB (n : Nat) (addr x : Int) (fs : List Fi) (is : List Int) (ls : List (List Nat)) : Bool :=
  decide (ls.length + 2 = blks fs is) && (hasB n addr (blks fs is : Nat) && (hasB n x 2 && (ls.all (fun l => l.length == 64) && (decide (x + 2 ≤ addr) || decide (addr + (blks fs is : Nat) ≤ x)))))
section
variable {C : Nat} {w w' W : World} {L : Dl} {d : Dm}
structure WrH (w : World) (B : Nat) (pv : Array Value) (a : Option Addr) (n : Nat) (A : Nat → Option Addr) (Cp : Nat → Nat) (ls : List (List Nat)) (wr : World) : Prop where
  box : Blo wr B 36 pv
  lst : Lists wr a n A Cp ls
  below : Below B w wr
set_option maxRecDepth 100000 in
set_option maxHeartbeats 4000000 in
theorem writable_any (addr : Int) (e c i p x : Int) (fs : List Fi) (is : List Int) (fa : Option Addr) (fn fc : Nat) (ia : Option Addr) (inn ic : Nat) (hF : Fis w fa fs) (hn : fn = fs.length) (hs : szF fs ≤ 1000000) (hin : inn = is.length) (hi : inn ≤ 1000000)
    (a : Option Addr) (n cap : Nat) (A : Nat → Option Addr) (Cp : Nat → Nat) (ls : List (List Nat)) (hl : Lists w a n A Cp ls) (h : Dk C w L d) :
    Calls Tryd.prog 49 #[.pointer (some ⟨L.bd, 0, none⟩), .int .i64 addr, part e c i p x fa fn fc ia inn ic, .slice a n cap] w fun e w' => e = .returned (.bool (wrB d.n addr x fs is ls)) ∧ Below w.heap.size w w' := by
  obtain ⟨pv, hpv⟩ : ∃ pv : Array Value, pv = #[.int .i64 e, .int .i64 c, .int .i64 i, .int .i64 p, .int .i64 x, .slice fa fn fc, .slice ia inn ic] := ⟨_, rfl⟩
  have hb1 := sup_pc w (.cells pv 36)
  have HBl := Lib.hid (sblocks_any (w := w.alloc (.cells pv 36)) e c i p x fa fn fc ia inn ic (hF.later hb1) hn (by omega) (by omega))
  have HD := Lib.hid (h.later hb1)
  have HR := Lib.hid (show WrH w w.heap.size pv a n A Cp ls (w.alloc (.cells pv 36)) from ⟨blo_laid w _ _, hl.below hb1, hb1⟩)
  have hbl : blF fs ≤ 1000000 := by have := blF_szF fs; omega
  have hbk : 2 + inn + blF fs = blks fs is := by unfold blks; rw [hin]
  rw [hbk] at HBl
  have hbu : blks fs is ≤ 3000000 := by unfold blks; omega
  have HN := Lib.hid hl.len
  have hle := hl.le
  have hfew := h.few.2
  clear hF hn hs hin hi hl h hb1 hbl hbk
  unfold wrB
  generalize blks fs is = bk at *
  rw [← HN.out]
  subst hpv
  by_cases h1 : n + 2 = bk
  · have q1 : ((n : Int) != (bk : Int) - 2) = false := by simp; omega
    by_cases h2 : hasB d.n addr (bk : Nat) = true
    · by_cases h3 : hasB d.n x 2 = true
      · have hy2 := hasB_yes h2
        have hy3 := hasB_yes h3
        rw [decide_eq_true h1, h2, h3]
        simp only [Bool.true_and]
        by_cases h4 : ls.all (fun l => l.length == 64) = true
        · have H4 : Hid (∀ i, i < n → (nthL ls i).length = 64) := fun i hi => by
            have hil : i < ls.length := by rw [← HN.out]; exact hi
            have := List.all_eq_true.1 h4 _ (List.getElem_mem hil)
            simp only [beq_iff_eq] at this
            unfold nthL
            rw [List.getD_eq_getElem?_getD, List.getElem?_eq_getElem hil]
            exact this
          rw [h4]
          simp only [Bool.true_and]
          clear h4
          go_enter Tryd.func49, Tryd.ntmps49
          go_wp2_with fail
          refine HBl.out.mono ?_
          rintro e w1 ⟨rfl, hb2⟩
          have HR1 := Lib.hid (show WrH w w.heap.size _ a n A Cp ls w1 from ⟨HR.out.box.later hb2, HR.out.lst.below hb2, HR.out.below.trans (hb2.mono HR.out.below.size)⟩)
          have HD1 := Lib.hid (HD.out.later hb2)
          have c4 := HR1.out.box.cell 4
          simp at c4
          clear hb2 HR HD HBl
          go_wp2_with fail
          refine (has_any addr (bk : Nat) (by omega) HD1.out).mono ?_
          rintro e w2 ⟨rfl, rfl⟩
          rw [h2]
          go_wp2_with fail
          refine (has_any x 2 (by omega) HD1.out).mono ?_
          rintro e w2 ⟨rfl, rfl⟩
          rw [h3]
          clear h2 h3
          go_wp2_with fail
          go_loop [35] (fun t => ∃ k : Nat, k ≤ n ∧ t = .int .i64 k) (fun t => n - (intOf t).toNat)
          case atStart => exact ⟨0, Nat.zero_le _, rfl⟩
          case round =>
            obtain ⟨k, hk, rfl⟩ := hrel
            by_cases hlt : k < n
            · obtain ⟨b, o, rfl, hc⟩ := HR1.out.lst.at_ (by omega)
              have hck := hc k hlt
              rw [H4.out k hlt] at hck
              have k1 : (k : Int) < (n : Int) := by omega
              clear hc
              go_wp2_with fail
              go_round
              case rel => exact ⟨k + 1, hlt, by simp⟩
              case measure => simp [intOf]; omega
            · have HB := Lib.hid HR1.out.below
              clear HR1 HD1 H4
              by_cases h5 : x + 2 ≤ addr
              · go_wp2
                go_ret
                exact ⟨by simp [h5], HB.out⟩
              · by_cases h6 : addr + (bk : Int) ≤ x
                · go_wp2
                  go_ret
                  exact ⟨by simp [h6], HB.out⟩
                · go_wp2
                  go_ret
                  exact ⟨by simp [h5, h6], HB.out⟩
        · have H4 : Hid (∃ i, i < n ∧ (nthL ls i).length ≠ 64) := Classical.byContradiction fun hno => h4 (List.all_eq_true.2 fun l hl => by
            obtain ⟨i, hi, rfl⟩ := List.getElem_of_mem hl
            have h1 : i < n := by rw [HN.out]; exact hi
            have h2 : (nthL ls i).length = 64 := Classical.byContradiction fun h => hno ⟨i, h1, h⟩
            unfold nthL at h2
            rw [List.getD_eq_getElem?_getD, List.getElem?_eq_getElem hi] at h2
            simpa using h2)
          rw [bool_no h4]
          simp only [Bool.false_and]
          clear h4
          go_enter Tryd.func49, Tryd.ntmps49
          go_wp2_with fail
          refine HBl.out.mono ?_
          rintro e w1 ⟨rfl, hb2⟩
          have HR1 := Lib.hid (show WrH w w.heap.size _ a n A Cp ls w1 from ⟨HR.out.box.later hb2, HR.out.lst.below hb2, HR.out.below.trans (hb2.mono HR.out.below.size)⟩)
          have HD1 := Lib.hid (HD.out.later hb2)
          have c4 := HR1.out.box.cell 4
          simp at c4
          clear hb2 HR HD HBl
          go_wp2_with fail
          refine (has_any addr (bk : Nat) (by omega) HD1.out).mono ?_
          rintro e w2 ⟨rfl, rfl⟩
          rw [h2]
          go_wp2_with fail
          refine (has_any x 2 (by omega) HD1.out).mono ?_
          rintro e w2 ⟨rfl, rfl⟩
          rw [h3]
          clear h2 h3
          go_wp2_with fail
          go_loop [35] (fun t => ∃ k : Nat, k ≤ n ∧ t = .int .i64 k ∧ ∀ i, i < k → (nthL ls i).length = 64) (fun t => n - (intOf t).toNat)
          case atStart => exact ⟨0, Nat.zero_le _, rfl, fun i hi => by omega⟩
          case round =>
            obtain ⟨k, hk, rfl, hall⟩ := hrel
            have HA := Lib.hid hall
            clear hall
            by_cases hlt : k < n
            · obtain ⟨b, o, rfl, hc⟩ := HR1.out.lst.at_ (by omega)
              have hck := hc k hlt
              have hbd := (HR1.out.lst.each k hlt).1.2.1
              have k1 : (k : Int) < (n : Int) := by omega
              have HM : Hid ((nthL ls k).length = 64 → ∀ i, i < k + 1 → (nthL ls i).length = 64) := fun hm i hi => by
                by_cases e : i = k
                · rw [e]; exact hm
                · exact HA.out i (by omega)
              clear hc
              generalize (nthL ls k).length = m at *
              by_cases hm : m = 64
              · have HM2 := Lib.hid (HM.out hm)
                subst hm
                clear HM HA
                go_wp2_with fail
                go_round
                case rel => exact ⟨k + 1, hlt, by simp, HM2.out⟩
                case measure => simp [intOf]; omega
              · have hm2 : ((m : Int) != 64) = true := by simp; omega
                have HB := Lib.hid HR1.out.below
                clear HM HA HR1 HD1 H4 hm
                go_wp2
                go_ret
                exact ⟨rfl, HB.out⟩
            · exfalso
              obtain ⟨j, hj, hne⟩ := H4.out
              exact hne (HA.out j (by omega))
      · have h3 := bool_no h3
        rw [decide_eq_true h1, h2, h3]
        simp only [Bool.true_and, Bool.false_and]
        go_enter Tryd.func49, Tryd.ntmps49
        go_wp2_with fail
        refine HBl.out.mono ?_
        rintro e w1 ⟨rfl, hb2⟩
        have HR1 := Lib.hid (show WrH w w.heap.size _ a n A Cp ls w1 from ⟨HR.out.box.later hb2, HR.out.lst.below hb2, HR.out.below.trans (hb2.mono HR.out.below.size)⟩)
        have HD1 := Lib.hid (HD.out.later hb2)
        have c4 := HR1.out.box.cell 4
        simp at c4
        have hy2 := hasB_yes h2
        clear hb2 HR HD HBl
        go_wp2_with fail
        refine (has_any addr (bk : Nat) (by omega) HD1.out).mono ?_
        rintro e w2 ⟨rfl, rfl⟩
        rw [h2]
        go_wp2_with fail
        refine (has_any x 2 (by omega) HD1.out).mono ?_
        rintro e w2 ⟨rfl, rfl⟩
        rw [h3]
        have HB := Lib.hid HR1.out.below
        clear h2 h3 HR1 HD1
        go_wp2
        go_ret
        exact ⟨rfl, HB.out⟩
    · have h2 := bool_no h2
      rw [decide_eq_true h1, h2]
      simp only [Bool.true_and, Bool.false_and]
      go_enter Tryd.func49, Tryd.ntmps49
      go_wp2_with fail
      refine HBl.out.mono ?_
      rintro e w1 ⟨rfl, hb2⟩
      have HB := Lib.hid (HR.out.below.trans (hb2.mono HR.out.below.size))
      have HD1 := Lib.hid (HD.out.later hb2)
      clear hb2 HR HD HBl
      go_wp2_with fail
      refine (has_any addr (bk : Nat) (by omega) HD1.out).mono ?_
      rintro e w2 ⟨rfl, rfl⟩
      rw [h2]
      clear h2 HD1
      go_wp2
      go_ret
      exact ⟨rfl, HB.out⟩
  · have q1 : ((n : Int) != (bk : Int) - 2) = true := by simp; omega
    rw [decide_eq_false h1]
    simp only [Bool.false_and]
    go_enter Tryd.func49, Tryd.ntmps49
    go_wp2_with fail
    refine HBl.out.mono ?_
    rintro e w1 ⟨rfl, hb2⟩
    have HB := Lib.hid (HR.out.below.trans (hb2.mono HR.out.below.size))
    clear hb2 HR HD HBl h1
    go_wp2
    go_ret
    exact ⟨rfl, HB.out⟩
end
end Go.Proofs.YtlkgaefabahkoaaDoor
/-
  Plain mathematics of check sums, over natural numbers: the table of four bits serves as well as eight single steps; sums are linear.
-/
namespace Go.Proofs.YtlkgaefabahkoaaDoor

/-- One step of the bitwise rule. -/
def bit1 (n : Nat) : Nat := n / 2 ^^^ (if n % 2 = 1 then 3988292384 else 0)
/-- So many steps. -/
def bitN : Nat → Nat → Nat
  | 0, n => n
  | k + 1, n => bit1 (bitN k n)
def tab16 : List Nat := [0, 498536548, 997073096, 651767980, 1994146192, 1802195444, 1303535960, 1342533948, 3988292384, 4027552580, 3604390888, 3412177804, 2607071920, 2262029012, 2685067896, 3183342108]
/-- Four steps by the table. -/
def nib (n : Nat) : Nat := tab16.getD (n % 16) 0 ^^^ n / 16
def byteStep (c x : Nat) : Nat := bitN 8 (c ^^^ x)
def crcFold (c : Nat) (l : List Nat) : Nat := l.foldl byteStep c
/-- The sum of bytes. -/
def crc (l : List Nat) : Nat := crcFold 4294967295 l ^^^ 4294967295

theorem bit1_even (n : Nat) (h : n % 2 = 0) : bit1 n = n / 2 := by simp [bit1, h]
theorem bit1_odd (n : Nat) (h : n % 2 = 1) : bit1 n = n / 2 ^^^ 3988292384 := by simp [bit1, h]

theorem bit1_xor (a b : Nat) : bit1 (a ^^^ b) = bit1 a ^^^ bit1 b := by
  unfold bit1
  have hd : (a ^^^ b) / 2 = a / 2 ^^^ b / 2 := Nat.xor_div_two
  have hm := @Nat.xor_mod_two_eq_one a b
  rw [hd]
  rcases Nat.mod_two_eq_zero_or_one a with ha | ha <;> rcases Nat.mod_two_eq_zero_or_one b with hb | hb
  · have : (a ^^^ b) % 2 ≠ 1 := fun h => by have := hm.1 h; simp [ha, hb] at this
    simp [ha, hb, this]
  · have : (a ^^^ b) % 2 = 1 := hm.2 (by simp [ha, hb])
    simp [ha, hb, this, Nat.xor_assoc]
  · have : (a ^^^ b) % 2 = 1 := hm.2 (by simp [ha, hb])
    simp [ha, hb, this]
    rw [Nat.xor_assoc, Nat.xor_comm (b / 2), ← Nat.xor_assoc]
  · have : (a ^^^ b) % 2 ≠ 1 := fun h => by have := hm.1 h; simp [ha, hb] at this
    simp only [ha, hb, this, if_true, if_false, Nat.xor_zero]
    rw [Nat.xor_assoc, Nat.xor_comm 3988292384 (b / 2 ^^^ 3988292384), Nat.xor_assoc, Nat.xor_self, Nat.xor_zero]

theorem bitN_xor (k a b : Nat) : bitN k (a ^^^ b) = bitN k a ^^^ bitN k b := by
  induction k with
  | zero => rfl
  | succ k ih => simp only [bitN, ih, bit1_xor]

theorem bit1_lt (n : Nat) (h : n < 4294967296) : bit1 n < 4294967296 := by
  unfold bit1
  have : n / 2 < 2 ^ 32 := by omega
  split
  · exact Nat.xor_lt_two_pow (n := 32) this (by decide)
  · simpa using (by omega : n / 2 < 4294967296)

theorem bitN_lt (k n : Nat) (h : n < 4294967296) : bitN k n < 4294967296 := by
  induction k with
  | zero => exact h
  | succ k ih => exact bit1_lt _ ih

theorem xor_lt32 {a b : Nat} (ha : a < 4294967296) (hb : b < 4294967296) : a ^^^ b < 4294967296 :=
  Nat.xor_lt_two_pow (n := 32) ha hb

theorem byteStep_lt (c x : Nat) (h : c < 4294967296) (hx : x < 256) : byteStep c x < 4294967296 :=
  bitN_lt _ _ (xor_lt32 h (by omega))

theorem split16 (n : Nat) : n = (16 * (n / 16)) ^^^ (n % 16) := by
  apply Nat.eq_of_testBit_eq
  intro i
  have e : 16 * (n / 16) = (n / 2 ^ 4) * 2 ^ 4 := by omega
  have e2 : n % 16 = n % 2 ^ 4 := rfl
  rw [Nat.testBit_xor, e, e2, Nat.testBit_mul_two_pow, Nat.testBit_mod_two_pow, Nat.testBit_div_two_pow]
  by_cases h : i < 4
  · simp [h, Nat.not_le.2 h]
  · have h4 : 4 ≤ i := by omega
    have : i - 4 + 4 = i := by omega
    simp [h, h4, this]

theorem bitN4_high (m : Nat) : bitN 4 (16 * m) = m := by
  simp only [bitN]
  rw [bit1_even (16 * m) (by omega), (by omega : 16 * m / 2 = 8 * m), bit1_even (8 * m) (by omega), (by omega : 8 * m / 2 = 4 * m), bit1_even (4 * m) (by omega),
    (by omega : 4 * m / 2 = 2 * m), bit1_even (2 * m) (by omega)]
  omega

theorem bitN4_low : ∀ r, r < 16 → bitN 4 r = tab16.getD r 0 := by decide

/-- Four single steps are one by the table. -/
theorem nib_eq (n : Nat) : nib n = bitN 4 n := by
  have h := bitN_xor 4 (16 * (n / 16)) (n % 16)
  rw [← split16 n, bitN4_high, bitN4_low _ (Nat.mod_lt _ (by decide))] at h
  rw [h, nib, Nat.xor_comm]

theorem bitN_add (j k n : Nat) : bitN j (bitN k n) = bitN (j + k) n := by
  induction j with
  | zero => simp [bitN]
  | succ j ih => rw [Nat.succ_add]; simp only [bitN, ih]

theorem nib_nib (n : Nat) : nib (nib n) = bitN 8 n := by rw [nib_eq, nib_eq, bitN_add]

theorem tab_lt : ∀ r, r < 16 → tab16.getD r 0 < 4294967296 := by decide
theorem nib_lt (n : Nat) (h : n < 4294967296) : nib n < 4294967296 := by rw [nib_eq]; exact bitN_lt _ _ h

theorem crcFold_lt (l : List Nat) : ∀ c, c < 4294967296 → (∀ x ∈ l, x < 256) → crcFold c l < 4294967296 := by
  induction l with
  | nil => intro c h _; exact h
  | cons x l ih => intro c h hl; exact ih _ (byteStep_lt c x h (hl x (by simp))) (fun y hy => hl y (by simp [hy]))

theorem crcFold_snoc (c : Nat) (l : List Nat) (x : Nat) : crcFold c (l ++ [x]) = byteStep (crcFold c l) x := by
  simp [crcFold, List.foldl_append]
theorem crcFold_append (c : Nat) (l m : List Nat) : crcFold c (l ++ m) = crcFold (crcFold c l) m := by
  simp [crcFold, List.foldl_append]
theorem crc_lt (l : List Nat) (h : ∀ x ∈ l, x < 256) : crc l < 4294967296 := xor_lt32 (crcFold_lt l _ (by decide) h) (by decide)
theorem ones_twice (n : Nat) : n ^^^ 4294967295 ^^^ 4294967295 = n := by rw [Nat.xor_assoc, Nat.xor_self, Nat.xor_zero]

theorem take_snocN (l : List Nat) (k : Nat) (h : k < l.length) : l.take (k + 1) = l.take k ++ [l.getD k 0] := by
  rw [List.take_succ_eq_append_getElem h, List.getD_eq_getElem?_getD, List.getElem?_eq_getElem h]; rfl

theorem crcFold_take (c : Nat) (l : List Nat) (k : Nat) (h : k < l.length) : crcFold c (l.take (k + 1)) = byteStep (crcFold c (l.take k)) (l.getD k 0) := by
  rw [take_snocN l k h, crcFold_snoc]

/-- A round of two, told of what is left. -/
theorem nib_round (k m n : Nat) (hk : k < 2) (h : bitN (8 - 4 * k) m = bitN 8 n) : bitN (8 - 4 * (k + 1)) (nib m) = bitN 8 n := by
  rw [nib_eq, bitN_add, ← h]
  congr 1
  omega

/-- Bytes turned by others. -/
def xorL (l x : List Nat) : List Nat := List.zipWith (fun p q => p ^^^ q) l x
theorem byteStep_xor (c d p q : Nat) : byteStep (c ^^^ d) (p ^^^ q) = byteStep c p ^^^ byteStep d q := by
  unfold byteStep
  rw [← bitN_xor]
  congr 1
  rw [Nat.xor_assoc, Nat.xor_assoc]
  congr 1
  rw [← Nat.xor_assoc, Nat.xor_comm d p, Nat.xor_assoc]
theorem crcFold_xor (l : List Nat) : ∀ (x : List Nat) (c d : Nat), l.length = x.length → crcFold (c ^^^ d) (xorL l x) = crcFold c l ^^^ crcFold d x := by
  induction l with
  | nil => intro x c d h; cases x with
    | nil => rfl
    | cons y x => simp at h
  | cons p l ih => intro x c d h; cases x with
    | nil => simp at h
    | cons q x =>
      show crcFold (byteStep (c ^^^ d) (p ^^^ q)) (xorL l x) = _
      rw [byteStep_xor, ih x _ _ (by simpa using h)]
      rfl
/-- What the sum is turned by hangs on the others alone. -/
theorem crc_xor (l x : List Nat) (h : l.length = x.length) : crc (xorL l x) ^^^ crc l = crcFold 0 x := by
  have e := crcFold_xor l x 4294967295 0 h
  rw [Nat.xor_zero] at e
  unfold crc
  rw [e]
  generalize crcFold 4294967295 l = A
  generalize crcFold 0 x = B
  rw [Nat.xor_comm A B, Nat.xor_assoc, Nat.xor_assoc, ← Nat.xor_assoc 4294967295, Nat.xor_comm 4294967295 A, ← Nat.xor_assoc A, ← Nat.xor_assoc A, Nat.xor_self, Nat.zero_xor, Nat.xor_self, Nat.xor_zero]
end Go.Proofs.YtlkgaefabahkoaaDoor
/-
  The walks of the functions of check sums, for any seat that holds them: a step by the table and by single bits, sums of bytes.
-/
namespace Go.Proofs.YtlkgaefabahkoaaDoor
open Go.RowKit

/-- The table stands in its variable. -/
def Tab (w : World) : Prop := ∀ i, i < 16 → w.cell? ⟨0, i, none⟩ = some (.int .u32 (tab16.getD i 0 : Nat))
theorem wp_xor32 (a b : Nat) (ha : a < 4294967296) (hb : b < 4294967296) : bits .xor .u32 (a : Int) (b : Int) = ((a ^^^ b : Nat) : Int) := u32_xor_nat a b ha hb

theorem half_cast (n : Nat) : ((n : Int) / 2) = ((n / 2 : Nat) : Int) := by omega
theorem xor_lit (m k : Nat) (hm : m < 4294967296) (hk : k < 4294967296) : bits .xor .u32 (m : Int) (k : Int) = ((m ^^^ k : Nat) : Int) := u32_xor_nat m k hm hk
theorem xor_poly (m : Nat) (hm : m < 4294967296) : bits .xor .u32 ((m : Int) / 2) 3988292384 = ((m / 2 ^^^ 3988292384 : Nat) : Int) :=
  u32_xor_nat (m / 2) 3988292384 (by omega) (by omega)
theorem xor_ones (m : Nat) (hm : m < 4294967296) : bits .xor .u32 (m : Int) 4294967295 = ((m ^^^ 4294967295 : Nat) : Int) :=
  u32_xor_nat m 4294967295 hm (by omega)
theorem and15 (m : Nat) (hm : m < 4294967296) : bits .and .u32 (m : Int) 15 = ((m % 16 : Nat) : Int) := by
  have := u32_and_nat m 15 hm (by omega)
  rw [show m &&& 15 = m % 16 from Nat.and_two_pow_sub_one_eq_mod m 4] at this
  exact this
theorem xor_tab (m : Nat) (hm : m < 4294967296) : bits .xor .u32 ((tab16.getD (m % 16) 0 : Nat) : Int) ((m : Int) / 16) = ((nib m : Nat) : Int) :=
  u32_xor_nat (tab16.getD (m % 16) 0) (m / 16) (tab_lt _ (Nat.mod_lt _ (by decide))) (by omega)
set_option maxHeartbeats 400000 in
theorem step_any (c x : Nat) (w : World) (hc : c < 4294967296) (hx : x < 256) :
    Calls Tryd.prog 94 #[.int .u32 c, .int .u8 x] w fun e w' => e = .returned (.int .u32 (byteStep c x : Nat)) ∧ w = w' := by
  have h0 := u32_xor_nat c x hc (by omega)
  have hcx := xor_lt32 hc (by omega : x < 4294967296)
  unfold byteStep
  obtain ⟨n, hn⟩ : ∃ n, c ^^^ x = n := ⟨_, rfl⟩
  rw [hn] at hcx h0 ⊢
  clear hn
  go_enter Tryd.func94, Tryd.ntmps94
  go_wp2
  clear h0
  go_loop [0, 5] (fun t i => ∃ k : Nat, k ≤ 8 ∧ i = .int .i64 k ∧ t = .int .u32 (bitN k n : Nat)) (fun _ i => 8 - (intOf i).toNat)
  case atStart => exact ⟨0, by omega, rfl, rfl⟩
  case round =>
    obtain ⟨k, hk, rfl, rfl⟩ := hrel
    by_cases hlt : k < 8
    · have hb := bitN_lt k n hcx
      obtain ⟨m, hm⟩ : ∃ m, m = bitN k n := ⟨_, rfl⟩
      have hs : bitN (k + 1) n = bit1 m := by rw [hm]; rfl
      rw [← hm] at hb
      rw [← hm]
      have HM := Lib.hid hm
      have HS := Lib.hid hs
      clear hm hs hcx
      rcases Nat.mod_two_eq_zero_or_one m with h2 | h2
      · have h2' : ((m : Int) % 2) = 0 := by omega
        go_wp2
        go_round
        case rel => exact ⟨k + 1, by omega, by go_num, by rw [HS.out, bit1_even m h2]; go_num⟩
        case measure => simp [intOf]; omega
      · have h2' : ((m : Int) % 2) = 1 := by omega
        have hx := xor_poly m hb
        have H2 := Lib.hid h2
        clear h2
        go_wp2
        go_round
        case rel => exact ⟨k + 1, by omega, by go_num, by rw [HS.out, bit1_odd m H2.out]⟩
        case measure => simp [intOf]; omega
    · obtain rfl : k = 8 := by omega
      clear hlt
      go_wp2
      go_ret
      exact ⟨rfl, rfl⟩

set_option maxHeartbeats 400000 in
theorem turn_any (c x : Nat) (w : World) (hc : c < 4294967296) (hx : x < 256) (ht : Tab w) :
    Calls Tryd.prog 93 #[.int .u32 c, .int .u8 x] w fun e w' => e = .returned (.int .u32 (byteStep c x : Nat)) ∧ w = w' := by
  have h0 := u32_xor_nat c x hc (by omega)
  have hcx := xor_lt32 hc (by omega : x < 4294967296)
  unfold byteStep
  obtain ⟨n, hn⟩ : ∃ n, c ^^^ x = n := ⟨_, rfl⟩
  rw [hn] at hcx h0 ⊢
  clear hn
  go_enter Tryd.func93, Tryd.ntmps93
  go_wp2
  clear h0
  go_loop [0, 9] (fun t i => ∃ k m : Nat, k ≤ 2 ∧ i = .int .i64 k ∧ m < 4294967296 ∧ bitN (8 - 4 * k) m = bitN 8 n ∧ t = .int .u32 m) (fun _ i => 2 - (intOf i).toNat)
  case atStart => exact ⟨0, n, by omega, rfl, hcx, rfl, rfl⟩
  case round =>
    obtain ⟨k, m, hk, rfl, hm, hb, rfl⟩ := hrel
    have HB := Lib.hid hb
    clear hb
    by_cases hlt : k < 2
    · have hand := and15 m hm
      have hcell := ht (m % 16) (Nat.mod_lt _ (by decide))
      have hx := xor_tab m hm
      go_wp2
      go_round
      case rel => exact ⟨k + 1, nib m, by omega, by go_num, nib_lt m hm, nib_round k m n hlt HB.out, by rw [← List.getD_eq_getElem?_getD, xor_tab m hm]⟩
      case measure => simp [intOf]; omega
    · obtain rfl : k = 2 := by omega
      clear hlt
      go_wp2
      go_ret
      exact ⟨by rw [← HB.out]; rfl, rfl⟩

set_option maxHeartbeats 400000 in
theorem ref_sum_cells (l : List Nat) (b o cap : Nat) (w : World) (h1 : ∀ x ∈ l, x < 256) (h2 : l.length ≤ 9223372036854775807)
    (h3 : ∀ i, i < l.length → w.cell? ⟨b, o + i, none⟩ = some (.int .u8 (l.getD i 0 : Nat))) :
    Calls Tryd.prog 73 #[.slice (some ⟨b, o, none⟩) l.length cap] w fun e w' => e = .returned (.int .u32 (crc l : Nat)) ∧ w = w' := by
  go_enter Tryd.func73, Tryd.ntmps73
  go_wp2
  have H1 := Lib.hid h1
  have H3 := Lib.hid h3
  clear h1 h3
  go_loop [3, 4] (fun t i => ∃ k : Nat, k ≤ l.length ∧ i = .int .i64 k ∧ t = .int .u32 (crcFold 4294967295 (l.take k) : Nat)) (fun _ i => l.length - (intOf i).toNat)
  case atStart => exact ⟨0, by omega, rfl, rfl⟩
  case round =>
    obtain ⟨k, hk, rfl, rfl⟩ := hrel
    have hlt2 := crcFold_lt (l.take k) 4294967295 (by decide) (fun x hx => H1.out x (List.mem_of_mem_take hx))
    by_cases hlt : k < l.length
    · have hcell := H3.out k hlt
      have hx8 : l.getD k 0 < 256 := H1.out _ (by rw [List.getD_eq_getElem?_getD, List.getElem?_eq_getElem hlt]; exact List.getElem_mem hlt)
      have HS := Lib.hid (crcFold_take 4294967295 l k hlt)
      obtain ⟨c, hc⟩ : ∃ c, crcFold 4294967295 (l.take k) = c := ⟨_, rfl⟩
      obtain ⟨x, hx⟩ : ∃ x, l.getD k 0 = x := ⟨_, rfl⟩
      rw [hx] at hcell hx8 HS
      rw [hc] at hlt2 HS ⊢
      clear hc hx
      go_wp2_with (go_at_call 94; refine (step_any _ _ _ hlt2 hx8).mono ?_; rintro e w' ⟨rfl, rfl⟩)
      go_round
      case rel => exact ⟨k + 1, by omega, by go_num, by rw [HS.out]⟩
      case measure => simp [intOf]; omega
    · obtain rfl : k = l.length := by omega
      clear hlt
      have hxx := xor_ones _ hlt2
      rw [List.take_length] at hxx hlt2
      have e : crcFold 4294967295 l ^^^ 4294967295 = crc l := rfl
      rw [e] at hxx
      rw [List.take_length]
      clear e
      go_wp2
      go_ret
      exact ⟨rfl, rfl⟩

set_option maxHeartbeats 400000 in
theorem ref_sum_none (a : Option Addr) (cap : Nat) (w : World) :
    Calls Tryd.prog 73 #[.slice a 0 cap] w fun e w' => e = .returned (.int .u32 0) ∧ w = w' := by
  have hxx : bits .xor .u32 4294967295 4294967295 = 0 := by decide +kernel
  go_enter Tryd.func73, Tryd.ntmps73
  go_wp2
  refine wp_loop_rounds 1 ?_
  rw [rounds_succ]
  go_wp2
  go_ret
  exact ⟨rfl, rfl⟩
theorem ref_sum_any (l : List Nat) (a : Option Addr) (cap : Nat) (w : World) (h : Bytes w a l) :
    Calls Tryd.prog 73 #[.slice a l.length cap] w fun e w' => e = .returned (.int .u32 (crc l : Nat)) ∧ w = w' := by
  obtain ⟨h1, h2, h3⟩ := h
  by_cases hl : l = []
  · subst hl; exact ref_sum_none a cap w
  · obtain ⟨b, o, rfl, hc⟩ := h3 hl
    exact ref_sum_cells l b o cap w h1 h2 hc

theorem not32 (c : Nat) (hc : c < 4294967296) : bits .xor .u32 IntKind.u32.max (c : Int) = ((c ^^^ 4294967295 : Nat) : Int) := by
  have := u32_xor_nat 4294967295 c (by omega) hc
  rw [Nat.xor_comm] at this
  exact this
def moreN (c : Nat) (l : List Nat) : Nat := crcFold (c ^^^ 4294967295) l ^^^ 4294967295
theorem more_zero (l : List Nat) : moreN 0 l = crc l := by unfold moreN crc; rw [Nat.zero_xor]
theorem moreN_lt (c : Nat) (l : List Nat) (hc : c < 4294967296) (h : ∀ x ∈ l, x < 256) : moreN c l < 4294967296 :=
  xor_lt32 (crcFold_lt l _ (xor_lt32 hc (by decide)) h) (by decide)
theorem more_crc (l m : List Nat) : moreN (crc l) m = crc (l ++ m) := by
  unfold moreN crc
  rw [ones_twice, crcFold_append]
set_option maxHeartbeats 400000 in
theorem more_cells (c0 : Nat) (l : List Nat) (b o cap : Nat) (w : World) (hc : c0 < 4294967296) (h1 : ∀ x ∈ l, x < 256) (h2 : l.length ≤ 9223372036854775807) (ht : Tab w)
    (h3 : ∀ i, i < l.length → w.cell? ⟨b, o + i, none⟩ = some (.int .u8 (l.getD i 0 : Nat))) :
    Calls Tryd.prog 71 #[.int .u32 c0, .slice (some ⟨b, o, none⟩) l.length cap] w fun e w' => e = .returned (.int .u32 (moreN c0 l : Nat)) ∧ w = w' := by
  unfold moreN
  have hn := not32 c0 hc
  have hcx := xor_lt32 hc (by decide : 4294967295 < 4294967296)
  obtain ⟨c, hcc⟩ : ∃ c, c0 ^^^ 4294967295 = c := ⟨_, rfl⟩
  rw [hcc] at hcx hn ⊢
  clear hcc
  go_enter Tryd.func71, Tryd.ntmps71
  go_wp2
  clear hn
  have H1 := Lib.hid h1
  have H3 := Lib.hid h3
  clear h1 h3
  go_loop [5, 12] (fun t i => ∃ k : Nat, k ≤ l.length ∧ i = .int .i64 k ∧ t = .int .u32 (crcFold c (l.take k) : Nat)) (fun _ i => l.length - (intOf i).toNat)
  case atStart => exact ⟨0, by omega, rfl, rfl⟩
  case round =>
    obtain ⟨k, hk, rfl, rfl⟩ := hrel
    have hlt2 := crcFold_lt (l.take k) c hcx (fun x hx => H1.out x (List.mem_of_mem_take hx))
    by_cases hlt : k < l.length
    · have hcell := H3.out k hlt
      have hx8 : l.getD k 0 < 256 := getD_byte H1.out k
      have HS := Lib.hid (crcFold_take c l k hlt)
      obtain ⟨t, hc⟩ : ∃ t, crcFold c (l.take k) = t := ⟨_, rfl⟩
      obtain ⟨x, hx⟩ : ∃ x, l.getD k 0 = x := ⟨_, rfl⟩
      rw [hx] at hcell hx8 HS
      rw [hc] at hlt2 HS ⊢
      clear hc hx
      go_wp2_with (go_at_call 93; refine (turn_any _ _ _ hlt2 hx8 ht).mono ?_; rintro e w' ⟨rfl, rfl⟩)
      go_round
      case rel => exact ⟨k + 1, by omega, by go_num, by rw [HS.out]⟩
      case measure => simp [intOf]; omega
    · obtain rfl : k = l.length := by omega
      clear hlt
      rw [List.take_length] at hlt2 ⊢
      have hxx := not32 _ hlt2
      go_wp2
      go_ret
      exact ⟨rfl, rfl⟩
set_option maxHeartbeats 400000 in
theorem more_none (c : Nat) (a : Option Addr) (cap : Nat) (w : World) (hc : c < 4294967296) :
    Calls Tryd.prog 71 #[.int .u32 c, .slice a 0 cap] w fun e w' => e = .returned (.int .u32 c) ∧ w = w' := by
  have hn := not32 c hc
  have hm := not32 _ (xor_lt32 hc (by decide : 4294967295 < 4294967296))
  rw [ones_twice] at hm
  go_enter Tryd.func71, Tryd.ntmps71
  go_wp2
  refine wp_loop_rounds 1 ?_
  rw [rounds_succ]
  go_wp2
  go_ret
  exact ⟨rfl, rfl⟩
theorem more_any (c : Nat) (l : List Nat) (a : Option Addr) (cap : Nat) (w : World) (hc : c < 4294967296) (ht : Tab w) (h : Bytes w a l) :
    Calls Tryd.prog 71 #[.int .u32 c, .slice a l.length cap] w fun e w' => e = .returned (.int .u32 (moreN c l : Nat)) ∧ w = w' := by
  obtain ⟨h1, h2, h3⟩ := h
  by_cases hl : l = []
  · subst hl
    have e : moreN c [] = c := by unfold moreN; exact ones_twice c
    rw [e]
    exact more_none c a cap w hc
  · obtain ⟨b, o, rfl, hcell⟩ := h3 hl
    exact more_cells c l b o cap w hc h1 h2 ht hcell
set_option maxHeartbeats 400000 in
theorem sum_any (l : List Nat) (a : Option Addr) (cap : Nat) (w : World) (ht : Tab w) (h : Bytes w a l) :
    Calls Tryd.prog 70 #[.slice a l.length cap] w fun e w' => e = .returned (.int .u32 (crc l : Nat)) ∧ w = w' := by
  have hl := h.2.1
  have H := Lib.hid h
  clear h
  go_enter Tryd.func70, Tryd.ntmps70
  go_wp2_with (go_at_call 71; refine (more_any 0 l a cap _ (by decide) ht H.out).mono ?_; rintro e w' ⟨rfl, rfl⟩)
  go_ret
  exact ⟨by rw [more_zero]; rfl, rfl⟩

theorem Tab.below {w w' : World} {B : Nat} (h : Tab w) (hb : Below B w w') (hB : 0 < B) : Tab w' := fun i hi => (hb.cell (p := ⟨0, i, Option.none⟩) hB).trans (h i hi)
theorem sum_len (l : List Nat) (n : Nat) (hn : n = l.length) (a : Option Addr) (cap : Nat) (w : World) (ht : Tab w) (h : Bytes w a l) :
    Calls Tryd.prog 70 #[.slice a n cap] w fun e w' => e = .returned (.int .u32 (crc l : Nat)) ∧ w = w' := by
  subst hn; exact sum_any l a cap w ht h
theorem Tab.drewN {w : World} (h : Tab w) (q : Nat) : Tab (w.drewN q) := fun i hi => by rw [World.cell?_drewN]; exact h i hi
theorem more_len (c : Nat) (l : List Nat) (n : Nat) (hn : n = l.length) (a : Option Addr) (cap : Nat) (w : World) (hc : c < 4294967296) (ht : Tab w) (h : Bytes w a l) :
    Calls Tryd.prog 71 #[.int .u32 c, .slice a n cap] w fun e w' => e = .returned (.int .u32 (moreN c l : Nat)) ∧ w = w' := by
  subst hn; exact more_any c l a cap w hc ht h
theorem ref_len (l : List Nat) (n : Nat) (hn : n = l.length) (a : Option Addr) (cap : Nat) (w : World) (h : Bytes w a l) :
    Calls Tryd.prog 73 #[.slice a n cap] w fun e w' => e = .returned (.int .u32 (crc l : Nat)) ∧ w = w' := by
  subst hn; exact ref_sum_any l a cap w h
theorem info_u8 : (Tryd.prog.info? 5).map (fun i => (i.zero, i.size, i.bytes)) = some (some (.int .u8 0), 1, 1) := by kernel_rfl
theorem size_u8 (w : World) : (Go.sizeOf 5).run Tryd.prog w = .ok 1 w := by kernel_rfl
end Go.Proofs.YtlkgaefabahkoaaDoor
/-
  sum.Parts, for any seat that holds the functions of sum.
-/
namespace Go.Proofs.YtlkgaefabahkoaaDoor
open Go.RowKit

theorem crc_nil : crc [] = 0 := by decide +kernel
def flat (L : List (List Nat)) (k : Nat) : List Nat := (L.take k).flatten
theorem flat_succ (L : List (List Nat)) (k : Nat) (h : k < L.length) : flat L (k + 1) = flat L k ++ nthL L k := by
  unfold flat
  rw [List.take_succ_eq_append_getElem h, List.flatten_append, nthL, List.getD_eq_getElem?_getD, List.getElem?_eq_getElem h]
  simp
theorem flat_bytes {w : World} {a : Option Addr} {n : Nat} {A : Nat → Option Addr} {C : Nat → Nat} {L : List (List Nat)} (h : Lists w a n A C L) : ∀ k, k ≤ n → ∀ x ∈ flat L k, x < 256 := by
  intro k
  induction k with
  | zero => intro _ x hx; simp [flat] at hx
  | succ k ih =>
    intro hk x hx
    rw [flat_succ L k (by have := h.len; omega), List.mem_append] at hx
    rcases hx with hx | hx
    · exact ih (by omega) x hx
    · exact (h.each k (by omega)).1.1 x hx

set_option maxHeartbeats 400000 in
theorem parts_some (b o cap n : Nat) (A : Nat → Option Addr) (C : Nat → Nat) (L : List (List Nat)) (w : World) (ht : Tab w) (h : Lists w (some ⟨b, o, none⟩) n A C L) (hn : n ≠ 0) :
    Calls Tryd.prog 43 #[.slice (some ⟨b, o, none⟩) n cap] w fun e w' => e = .returned (.int .u32 (crc (flat L n) : Nat)) ∧ w = w' := by
  have HT := Lib.hid ht
  have H := Lib.hid h
  have hle := h.le
  have hcells : Hid (∀ i, i < n → w.cell? ⟨b, o + i, none⟩ = some (.slice (A i) (nthL L i).length (C i))) := by
    obtain ⟨b', o', hab, hc⟩ := h.at_ hn
    cases hab
    exact hc
  have c0 : Hid (crc [] = 0) := crc_nil
  clear ht h hn
  go_enter Tryd.func43, Tryd.ntmps43
  go_wp2_with fail
  refine (sum_len [] 0 rfl _ _ _ HT.out (Bytes.none _ _)).mono ?_
  rintro e w' ⟨rfl, rfl⟩
  rw [c0.out]
  go_wp2_with fail
  go_loop [3, 9] (fun t i => ∃ k : Nat, k ≤ n ∧ i = .int .i64 k ∧ t = .int .u32 (crc (flat L k) : Nat)) (fun _ i => n - (intOf i).toNat)
  case atStart => exact ⟨0, by omega, rfl, by rw [show flat L 0 = [] from rfl, c0.out]; rfl⟩
  case round =>
    obtain ⟨k, hk, rfl, rfl⟩ := hrel
    by_cases hlt : k < n
    · have hcell := hcells.out k hlt
      have hB := Lib.hid (H.out.each k hlt)
      have hl8 : Hid (crc (flat L k) < 4294967296) := crc_lt _ (flat_bytes H.out k hk)
      have HS : Hid (moreN (crc (flat L k)) (nthL L k) = crc (flat L (k + 1))) := by show _ = _; rw [more_crc, flat_succ L k (by have := H.out.len; omega)]
      have hlen := hB.out.1.2.1
      go_wp2_with (go_at_call 71; refine (more_len _ (nthL L k) _ rfl (A k) (C k) _ hl8.out HT.out hB.out.1).mono ?_; rintro e w' ⟨rfl, rfl⟩)
      go_round
      case rel => exact ⟨k + 1, by omega, by go_num, by rw [HS.out]⟩
      case measure => simp [intOf]; omega
    · obtain rfl : k = n := by omega
      clear hlt
      go_wp2
      go_ret
      exact ⟨rfl, rfl⟩
set_option maxHeartbeats 400000 in
theorem parts_none (a : Option Addr) (cap : Nat) (w : World) (ht : Tab w) :
    Calls Tryd.prog 43 #[.slice a 0 cap] w fun e w' => e = .returned (.int .u32 0) ∧ w = w' := by
  have HT := Lib.hid ht
  have c0 : Hid (crc [] = 0) := crc_nil
  clear ht
  go_enter Tryd.func43, Tryd.ntmps43
  go_wp2_with fail
  refine (sum_len [] 0 rfl _ _ _ HT.out (Bytes.none _ _)).mono ?_
  rintro e w' ⟨rfl, rfl⟩
  rw [c0.out]
  go_wp2_with fail
  refine wp_loop_rounds 1 ?_
  rw [rounds_succ]
  go_wp2
  go_ret
  exact ⟨rfl, rfl⟩
theorem parts_any (a : Option Addr) (cap n : Nat) (A : Nat → Option Addr) (C : Nat → Nat) (L : List (List Nat)) (w : World) (ht : Tab w) (h : Lists w a n A C L) :
    Calls Tryd.prog 43 #[.slice a n cap] w fun e w' => e = .returned (.int .u32 (crc (flat L n) : Nat)) ∧ w = w' := by
  by_cases hn : n = 0
  · subst hn
    have : crc (flat L 0) = 0 := by rw [show flat L 0 = [] from rfl]; decide +kernel
    rw [this]
    exact parts_none a cap w ht
  · obtain ⟨b, o, rfl, _⟩ := h.at_ hn
    exact parts_some b o cap n A C L w ht h hn

end Go.Proofs.YtlkgaefabahkoaaDoor
/-
  A summary's bytes, in numbers: there (encM) and back (decM); the document's way back (decR) where what is read is one.
-/
namespace Go.Proofs.YtlkgaefabahkoaaDoor
open Go.RowKit

/-- A number's bytes, the lowest first. -/
def num (k v : Nat) : List Nat := (List.range k).map fun i => v / 256 ^ i % 256
theorem num_len (k v : Nat) : (num k v).length = k := by simp [num]
theorem num_lt (k v : Nat) : ∀ x ∈ num k v, x < 256 := fun x hx => by
  obtain ⟨i, _, rfl⟩ := List.mem_map.1 hx
  omega
theorem num_succ (k v : Nat) : num (k + 1) v = num k v ++ [v / 256 ^ k % 256] := by simp [num, List.range_succ]
theorem num_1 (v : Nat) : num 1 v = [v % 256] := by simp [num, List.range_succ]
theorem num_2 (v : Nat) : num 2 v = [v % 256, v / 256 % 256] := by simp [num, List.range_succ]
theorem num_4 (v : Nat) : num 4 v = [v % 256, v / 256 % 256, v / 65536 % 256, v / 16777216 % 256] := by simp [num, List.range_succ]
def zpad (c : Nat) (l : List Nat) : List Nat := l ++ List.replicate (c - l.length) 0
theorem zpad_len {c : Nat} {l : List Nat} (h : l.length ≤ c) : (zpad c l).length = c := by simp [zpad]; omega
theorem zpad_lt {c : Nat} {l : List Nat} (h : ∀ x ∈ l, x < 256) : ∀ x ∈ zpad c l, x < 256 := fun x hx => by
  rcases List.mem_append.1 hx with h1 | h1
  · exact h x h1
  · rw [(List.mem_replicate.1 h1).2]; decide
def wL (n : Int) : List Nat := num 2 (n + 1000).toNat
def wI (n : Int) : List Nat := num 1 n.toNat
def wF (f : Fi) : List Nat := num 1 f.ino.toNat ++ num 2 f.ver.toNat ++ num 1 f.lb.length ++ f.lb.flatMap wL
theorem wL_len (n : Int) : (wL n).length = 2 := num_len _ _
theorem wI_len (n : Int) : (wI n).length = 1 := num_len _ _
structure Sm where
  e : Int
  c : Int
  i : Int
  p : Int
  x : Int
  fs : List Fi
  is : List Int
def chkM (m : Sm) : Int := chkC m.e m.c m.i m.p m.x m.fs m.is
def wds (m : Sm) (s : Nat) : List Nat := num 1 m.i.toNat ++ num 1 m.p.toNat ++ num 2 m.x.toNat ++ num 1 m.fs.length ++ num 1 m.is.length ++ num 4 s ++ m.fs.flatMap wF ++ m.is.flatMap wI
theorem flat_len {α : Type} (g : α → List Nat) (k : Nat) (hg : ∀ a, (g a).length = k) (l : List α) : (l.flatMap g).length = k * l.length := by
  induction l with
  | nil => simp
  | cons a l ih => rw [List.flatMap_cons, List.length_append, ih, hg, List.length_cons]; rw [Nat.mul_add]; omega
theorem wF_len (f : Fi) : (wF f).length = 4 + 2 * f.lb.length := by
  unfold wF
  simp only [List.length_append, num_len, flat_len wL 2 (fun a => num_len _ _)]
theorem flat_szF (l : List Fi) : (l.flatMap wF).length = szF l := by
  induction l with
  | nil => rfl
  | cons a l ih => rw [List.flatMap_cons, List.length_append, ih, wF_len]; simp [szF]
theorem wds_len (m : Sm) (s : Nat) : (wds m s).length = 10 + szF m.fs + m.is.length := by
  unfold wds
  simp only [List.length_append, num_len, flat_szF, flat_len wI 1 (fun a => num_len _ _)]
  omega
theorem flat_lt {α : Type} (g : α → List Nat) (hg : ∀ a, ∀ x ∈ g a, x < 256) (l : List α) : ∀ x ∈ l.flatMap g, x < 256 := fun x hx => by
  obtain ⟨a, _, h⟩ := List.mem_flatMap.1 hx
  exact hg a x h
theorem app_lt {a b : List Nat} (ha : ∀ x ∈ a, x < 256) (hb : ∀ x ∈ b, x < 256) : ∀ x ∈ a ++ b, x < 256 := fun x hx => (List.mem_append.1 hx).elim (ha x) (hb x)
theorem wF_lt (f : Fi) : ∀ x ∈ wF f, x < 256 := app_lt (app_lt (app_lt (num_lt _ _) (num_lt _ _)) (num_lt _ _)) (flat_lt wL (fun _ => num_lt _ _) _)
theorem wds_lt (m : Sm) (s : Nat) : ∀ x ∈ wds m s, x < 256 :=
  app_lt (app_lt (app_lt (app_lt (app_lt (app_lt (app_lt (num_lt _ _) (num_lt _ _)) (num_lt _ _)) (num_lt _ _)) (num_lt _ _)) (num_lt _ _)) (flat_lt wF wF_lt _)) (flat_lt wI (fun _ => num_lt _ _) _)
def secM (e c : Int) (w : List Nat) (k : Nat) : List Nat := num 2 e.toNat ++ num 2 c.toNat ++ num 1 k ++ (w.drop (11 * k)).take 11
def secs (e c : Int) (w : List Nat) (n : Nat) : List Nat := (List.range n).flatMap (secM e c w)
def encM (m : Sm) (s : Nat) : List Nat := secs m.e m.c (zpad 88 (wds m s)) 8
theorem secM_len (e c : Int) {w : List Nat} (hw : w.length = 88) {k : Nat} (hk : k < 8) : (secM e c w k).length = 16 := by
  simp only [secM, List.length_append, num_len, List.length_take, List.length_drop, hw]; omega
theorem secs_succ (e c : Int) (w : List Nat) (n : Nat) : secs e c w (n + 1) = secs e c w n ++ secM e c w n := by simp [secs, List.range_succ]
theorem secs_len (e c : Int) {w : List Nat} (hw : w.length = 88) : ∀ n, n ≤ 8 → (secs e c w n).length = 16 * n
  | 0, _ => rfl
  | n + 1, h => by rw [secs_succ, List.length_append, secs_len e c hw n (by omega), secM_len e c hw (by omega)]; omega
theorem secs_lt (e c : Int) {w : List Nat} (hw : ∀ x ∈ w, x < 256) (n : Nat) : ∀ x ∈ secs e c w n, x < 256 := fun x hx => by
  obtain ⟨a, _, h⟩ := List.mem_flatMap.1 hx
  exact app_lt (app_lt (app_lt (num_lt _ _) (num_lt _ _)) (num_lt _ _)) (fun y hy => hw y (List.mem_of_mem_drop (List.mem_of_mem_take hy))) x h
theorem secs_at (e c : Int) {w : List Nat} (hw : w.length = 88) (k : Nat) : ∀ n, n ≤ 8 → k < n → ((secs e c w n).drop (16 * k)).take 16 = secM e c w k
  | 0, _, h => by omega
  | n + 1, hn, hk => by
    have hl := secs_len e c hw n (by omega)
    rw [secs_succ]
    by_cases hkn : k = n
    · subst hkn
      rw [List.drop_append_of_le_length (by omega), List.drop_of_length_le (by omega), List.nil_append, List.take_of_length_le (by rw [secM_len e c hw (by omega)]; exact Nat.le_refl _)]
    · rw [List.drop_append_of_le_length (by omega), List.take_append_of_le_length (by rw [List.length_drop]; omega)]
      exact secs_at e c hw k n (by omega) (by omega)
/-! ### Back -/
def at' (l : List Nat) (i : Nat) : Nat := l.getD i 0
theorem at_drop (l : List Nat) (o i : Nat) : at' (l.drop o) i = at' l (o + i) := by simp [at', List.getD_eq_getElem?_getD]
theorem at_left {a b : List Nat} {i : Nat} (h : i < a.length) : at' (a ++ b) i = at' a i := by simp [at', List.getD_eq_getElem?_getD, List.getElem?_append_left h]
theorem at_right {a b : List Nat} {i : Nat} : at' (a ++ b) (a.length + i) = at' b i := by
  simp only [at', List.getD_eq_getElem?_getD]
  rw [List.getElem?_append_right (by omega), Nat.add_sub_cancel_left]
theorem at_lt {l : List Nat} (h : ∀ x ∈ l, x < 256) (i : Nat) : at' l i < 256 := getD_byte h i
theorem at_cons0 (a : Nat) (l : List Nat) : at' (a :: l) 0 = a := rfl
theorem at_consS (a : Nat) (l : List Nat) (i : Nat) : at' (a :: l) (i + 1) = at' l i := rfl
def v2 (l : List Nat) (o : Nat) : Nat := at' l o + 256 * at' l (o + 1)
theorem v2_drop (l : List Nat) (o i : Nat) : v2 (l.drop o) i = v2 l (o + i) := by simp only [v2, at_drop, Nat.add_assoc]
theorem v2_num (v : Nat) (h : v < 65536) (r : List Nat) : v2 (num 2 v ++ r) 0 = v := by
  rw [num_2]; simp only [v2, List.cons_append, at_cons0, at_consS]; omega
def lbAt (w : List Nat) (o n : Nat) : List Int := (List.range n).map fun j => ((v2 w (o + 2 * j) : Nat) : Int) - 1000
def fiAt (w : List Nat) (o : Nat) : Fi := ⟨(at' w o : Nat), (v2 w (o + 1) : Nat), lbAt w (o + 4) (at' w (o + 3))⟩
def nxt (w : List Nat) (o : Nat) : Nat := o + 4 + 2 * at' w (o + 3)
def pos (w : List Nat) : Nat → Nat
  | 0 => 10
  | k + 1 => nxt w (pos w k)
def filesM (w : List Nat) (n : Nat) : List Fi := (List.range n).map fun k => fiAt w (pos w k)
def inosM (w : List Nat) (o n : Nat) : List Int := (List.range n).map fun j => ((at' w (o + j) : Nat) : Int)
def sumM (w : List Nat) : Nat := at' w 6 + 256 * at' w 7 + 65536 * at' w 8 + 16777216 * at' w 9
def gat (b : List Nat) (n : Nat) : List Nat := (List.range n).flatMap fun k => (b.drop (16 * k + 5)).take 11
def parM (w : List Nat) (e c : Int) : Sm := ⟨e, c, (at' w 0 : Nat), (at' w 1 : Nat), (v2 w 2 : Nat), filesM w (at' w 4), inosM w (pos w (at' w 4)) (at' w 5)⟩
def decM (b : List Nat) : Sm := parM (gat b 8) (v2 b 0 : Nat) (v2 b 2 : Nat)
/-- Is it a summary's block? -/
def okB (b : List Nat) : Bool := decide (b.length = 128) && (decide (chkM (decM b) = 0) && decide (encM (decM b) (sumM (gat b 8)) = b))
theorem num_at1 {v : Nat} (h : v < 256) (r : List Nat) : at' (num 1 v ++ r) 0 = v := by rw [num_1]; simp only [List.cons_append, at_cons0]; omega
theorem lb_back : ∀ (l : List Int) (r : List Nat), (∀ n ∈ l, 0 ≤ n + 1000 ∧ n + 1000 < 65536) → lbAt (l.flatMap wL ++ r) 0 l.length = l
  | [], _, _ => rfl
  | n :: l, r, h => by
    have h0 := h n (List.mem_cons_self ..)
    unfold lbAt
    rw [List.length_cons, List.range_succ_eq_map, List.map_cons, List.map_map]
    have hw : (n :: l).flatMap wL ++ r = wL n ++ (l.flatMap wL ++ r) := by rw [List.flatMap_cons, List.append_assoc]
    have e1 : v2 ((n :: l).flatMap wL ++ r) (0 + 2 * 0) = (n + 1000).toNat := by
      rw [hw]
      exact v2_num _ (by omega) _
    rw [e1]
    congr 1
    · omega
    · have := lb_back l r (fun x hx => h x (List.mem_cons_of_mem _ hx))
      conv => rhs; rw [← this]
      unfold lbAt
      refine List.map_congr_left fun j _ => ?_
      have e2 : v2 ((n :: l).flatMap wL ++ r) (0 + 2 * (j + 1)) = v2 (l.flatMap wL ++ r) (0 + 2 * j) := by
        rw [hw, show 0 + 2 * (j + 1) = 2 + (0 + 2 * j) by omega, ← v2_drop, List.drop_left' (wL_len _)]
      show ((v2 _ (0 + 2 * (j + 1)) : Nat) : Int) - 1000 = _
      rw [e2]
theorem ino_back : ∀ (l : List Int) (r : List Nat), (∀ n ∈ l, 0 ≤ n ∧ n < 256) → inosM (l.flatMap wI ++ r) 0 l.length = l
  | [], _, _ => rfl
  | n :: l, r, h => by
    have h0 := h n (List.mem_cons_self ..)
    unfold inosM
    rw [List.length_cons, List.range_succ_eq_map, List.map_cons, List.map_map]
    have hw : (n :: l).flatMap wI ++ r = wI n ++ (l.flatMap wI ++ r) := by rw [List.flatMap_cons, List.append_assoc]
    have e1 : at' ((n :: l).flatMap wI ++ r) (0 + 0) = n.toNat := by
      rw [hw]
      exact num_at1 (by omega) _
    rw [e1]
    congr 1
    · omega
    · have := ino_back l r (fun x hx => h x (List.mem_cons_of_mem _ hx))
      conv => rhs; rw [← this]
      unfold inosM
      refine List.map_congr_left fun j _ => ?_
      have e2 : at' ((n :: l).flatMap wI ++ r) (0 + (j + 1)) = at' (l.flatMap wI ++ r) (0 + j) := by
        rw [hw, show 0 + (j + 1) = 1 + (0 + j) by omega, ← at_drop, List.drop_left' (wI_len _)]
      show ((at' _ (0 + (j + 1)) : Nat) : Int) = _
      rw [e2]
theorem lbAt_drop (w : List Nat) (o i n : Nat) : lbAt (w.drop o) i n = lbAt w (o + i) n := by
  unfold lbAt
  refine List.map_congr_left fun j _ => ?_
  rw [v2_drop, Nat.add_assoc]
theorem inosM_drop (w : List Nat) (o i n : Nat) : inosM (w.drop o) i n = inosM w (o + i) n := by
  unfold inosM
  refine List.map_congr_left fun j _ => ?_
  rw [at_drop, Nat.add_assoc]
theorem fiAt_drop (w : List Nat) (o : Nat) : fiAt (w.drop o) 0 = fiAt w o := by
  unfold fiAt
  rw [at_drop, v2_drop, at_drop, lbAt_drop]
  simp only [Nat.add_zero, Nat.zero_add]
def goodF (f : Fi) : Prop := 0 ≤ f.ino ∧ f.ino < 256 ∧ 0 ≤ f.ver ∧ f.ver < 65536 ∧ f.lb.length < 256 ∧ ∀ n ∈ f.lb, 0 ≤ n + 1000 ∧ n + 1000 < 65536
theorem wF_app (f : Fi) (r : List Nat) : wF f ++ r = num 1 f.ino.toNat ++ (num 2 f.ver.toNat ++ (num 1 f.lb.length ++ (f.lb.flatMap wL ++ r))) := by simp only [wF, List.append_assoc]
theorem wF_d1 (f : Fi) (r : List Nat) : (wF f ++ r).drop 1 = num 2 f.ver.toNat ++ (num 1 f.lb.length ++ (f.lb.flatMap wL ++ r)) := by
  rw [wF_app, List.drop_left' (num_len _ _)]
theorem wF_d3 (f : Fi) (r : List Nat) : (wF f ++ r).drop 3 = num 1 f.lb.length ++ (f.lb.flatMap wL ++ r) := by
  rw [show 3 = 1 + 2 by rfl, ← List.drop_drop, wF_d1, List.drop_left' (num_len _ _)]
theorem wF_d4 (f : Fi) (r : List Nat) : (wF f ++ r).drop 4 = f.lb.flatMap wL ++ r := by
  rw [show 4 = 3 + 1 by rfl, ← List.drop_drop, wF_d3, List.drop_left' (num_len _ _)]
theorem wF_n (f : Fi) (r : List Nat) (h : f.lb.length < 256) : at' (wF f ++ r) 3 = f.lb.length := by
  have := num_at1 h (f.lb.flatMap wL ++ r)
  rw [← wF_d3, at_drop] at this
  exact this
theorem fi_back (f : Fi) (r : List Nat) (h : goodF f) : fiAt (wF f ++ r) 0 = f := by
  obtain ⟨h1, h2, h3, h4, h5, h6⟩ := h
  have a0 : at' (wF f ++ r) 0 = f.ino.toNat := by rw [wF_app]; exact num_at1 (by omega) _
  have a1 : v2 (wF f ++ r) (0 + 1) = f.ver.toNat := by
    have := v2_num f.ver.toNat (by omega) (num 1 f.lb.length ++ (f.lb.flatMap wL ++ r))
    rw [← wF_d1, v2_drop] at this
    exact this
  have a2 : lbAt (wF f ++ r) (0 + 4) f.lb.length = f.lb := by
    have := lb_back f.lb r h6
    rw [← wF_d4, lbAt_drop] at this
    exact this
  unfold fiAt
  rw [a0, a1, show 0 + 3 = 3 by rfl, wF_n f r h5, a2]
  cases f
  simp only [Fi.mk.injEq, and_true]
  simp only at h1 h3
  omega
theorem wds_app (m : Sm) (s : Nat) (c : Nat) : zpad c (wds m s) = (m.i.toNat % 256) :: (m.p.toNat % 256) :: (m.x.toNat % 256) :: (m.x.toNat / 256 % 256) :: (m.fs.length % 256) :: (m.is.length % 256) :: (s % 256) :: (s / 256 % 256) :: (s / 65536 % 256) :: (s / 16777216 % 256) ::
    (m.fs.flatMap wF ++ (m.is.flatMap wI ++ List.replicate (c - (wds m s).length) 0)) := by
  unfold zpad
  generalize List.replicate (c - (wds m s).length) 0 = z
  unfold wds
  rw [num_1, num_1, num_2, num_1, num_1, num_4]
  simp
theorem flat_pos {w : List Nat} {l : List Fi} {r : List Nat} (hw : w.drop 10 = l.flatMap wF ++ r) (hg : ∀ f ∈ l, goodF f) : ∀ k, k ≤ l.length → pos w k = 10 + szF (l.take k) ∧ w.drop (pos w k) = (l.drop k).flatMap wF ++ r
  | 0, _ => ⟨rfl, hw⟩
  | k + 1, h => by
    obtain ⟨i1, i2⟩ := flat_pos hw hg k (by omega)
    have hk : k < l.length := h
    have e1 : l.drop k = l[k] :: l.drop (k + 1) := by rw [List.drop_eq_getElem_cons hk]
    rw [e1, List.flatMap_cons, List.append_assoc] at i2
    have hg' := hg _ (List.getElem_mem hk)
    have e2 : at' w (pos w k + 3) = l[k].lb.length := by
      have := wF_n l[k] ((l.drop (k + 1)).flatMap wF ++ r) hg'.2.2.2.2.1
      rw [← i2, at_drop] at this
      exact this
    have e3 : pos w (k + 1) = pos w k + (4 + 2 * l[k].lb.length) := by
      show nxt w (pos w k) = _
      unfold nxt
      rw [e2]; omega
    refine ⟨?_, ?_⟩
    · rw [e3, i1, take_snocF l fi0 k hk, szF_snoc]
      have : l.getD k fi0 = l[k] := by simp [List.getD_eq_getElem?_getD, hk]
      rw [this]; omega
    · rw [e3, ← List.drop_drop, i2, List.drop_left' (wF_len _)]
theorem files_back {w : List Nat} {l : List Fi} {r : List Nat} (hw : w.drop 10 = l.flatMap wF ++ r) (hg : ∀ f ∈ l, goodF f) : filesM w l.length = l := by
  apply List.ext_getElem
  · simp [filesM]
  · intro k h1 h2
    obtain ⟨i1, i2⟩ := flat_pos hw hg k (by omega)
    have e1 : l.drop k = l[k] :: l.drop (k + 1) := by rw [List.drop_eq_getElem_cons h2]
    rw [e1, List.flatMap_cons, List.append_assoc] at i2
    have := fi_back l[k] ((l.drop (k + 1)).flatMap wF ++ r) (hg _ (List.getElem_mem h2))
    rw [← i2, fiAt_drop] at this
    simpa [filesM] using this
theorem inos_back {w : List Nat} {l : List Fi} {is : List Int} {z : List Nat} (hw : w.drop 10 = l.flatMap wF ++ (is.flatMap wI ++ z)) (hg : ∀ f ∈ l, goodF f) (hi : ∀ n ∈ is, 0 ≤ n ∧ n < 256) : inosM w (pos w l.length) is.length = is := by
  obtain ⟨_, i2⟩ := flat_pos hw hg l.length (Nat.le_refl _)
  rw [List.drop_of_length_le (Nat.le_refl _)] at i2
  have := ino_back is z hi
  rw [show is.flatMap wI ++ z = w.drop (pos w l.length) by rw [i2]; rfl, inosM_drop] at this
  exact this
structure Good (m : Sm) : Prop where
  e : 0 ≤ m.e ∧ m.e ≤ 65535
  c : 0 ≤ m.c ∧ m.c ≤ 65535
  p : 1 ≤ m.p ∧ m.p ≤ 64
  i : 0 ≤ m.i ∧ m.i < m.p
  x : 0 ≤ m.x ∧ m.x ≤ 4095
  fs : ∀ f ∈ m.fs, badF f = false
  is : ∀ n ∈ m.is, badI n = false
  size : 10 + m.is.length + szF m.fs ≤ 88
theorem good_of {m : Sm} (h : chkM m = 0) : Good m := by
  unfold chkM chkC at h
  split at h
  · cases h
  · rename_i h1
    split at h
    · cases h
    · rename_i h2
      split at h
      · cases h
      · rename_i h3
        split at h
        · cases h
        · rename_i h4
          split at h
          · cases h
          · rename_i h5
            split at h
            · cases h
            · rename_i h6
              simp only [Bool.or_eq_true, not_or, Bool.not_eq_true] at h1 h2 h3 h4 h5
              have a1 := out_yes h1.1
              have a2 := out_yes h1.2
              have a3 := out_yes h2.1
              have a4 := out_yes h2.2
              have a5 := out_yes h3
              refine ⟨a1, a2, a3, ⟨a4.1, by omega⟩, a5, fun f hf => ?_, fun n hn => ?_, by omega⟩
              · exact (List.any_eq_false.1 h4 f hf) |> (by simpa using ·)
              · exact (List.any_eq_false.1 h5 n hn) |> (by simpa using ·)
theorem isB_range {n : Int} (h : isB n = true) : -602 ≤ n ∧ n < 600 := by
  unfold isB startsB at h
  split at h
  · have := of_decide_eq_true h
    omega
  · simp only [Bool.or_eq_true, decide_eq_true_eq] at h
    omega
theorem goodF_of {f : Fi} (h : badF f = false) : goodF f ∧ 1 ≤ f.lb.length ∧ f.lb.length ≤ 30 ∧ 1 ≤ f.ino := by
  unfold badF at h
  simp only [Bool.or_eq_false_iff] at h
  obtain ⟨⟨⟨h1, h2⟩, h3⟩, h4⟩ := h
  have a1 := out_yes h1
  have a2 := out_yes h2
  have a3 := out_yes h3
  refine ⟨⟨by omega, by omega, by omega, by omega, by omega, fun n hn => ?_⟩, by omega, by omega, by omega⟩
  have := List.any_eq_false.1 h4 n hn
  have := isB_range (n := n) (by simpa using this)
  omega
theorem wds_back (m : Sm) (s : Nat) (h : Good m) (hs : s < 4294967296) (e c : Int) (he : e = m.e) (hc : c = m.c) : parM (zpad 88 (wds m s)) e c = m ∧ sumM (zpad 88 (wds m s)) = s := by
  have hw := wds_app m s 88
  generalize zpad 88 (wds m s) = w at *
  have hl : m.fs.length ≤ 22 := by have := len_szF m.fs; have := h.size; omega
  have hi : m.is.length ≤ 78 := by have := h.size; omega
  have hg : ∀ f ∈ m.fs, goodF f := fun f hf => (goodF_of (h.fs f hf)).1
  have hi' : ∀ n ∈ m.is, 0 ≤ n ∧ n < 256 := fun n hn => by have := out_yes (h.is n hn); omega
  have h4 : at' w 4 = m.fs.length := by rw [hw]; show m.fs.length % 256 = _; omega
  have h5 : at' w 5 = m.is.length := by rw [hw]; show m.is.length % 256 = _; omega
  have hd : w.drop 10 = m.fs.flatMap wF ++ (m.is.flatMap wI ++ List.replicate (88 - (wds m s).length) 0) := by rw [hw]; rfl
  have q1 := h.p; have q2 := h.i; have q3 := h.x
  refine ⟨?_, ?_⟩
  · unfold parM
    rw [h4, h5, files_back hd hg, inos_back hd hg hi', he, hc]
    have k0 : at' w 0 = m.i.toNat := by rw [hw]; show m.i.toNat % 256 = _; omega
    have k1 : at' w 1 = m.p.toNat := by rw [hw]; show m.p.toNat % 256 = _; omega
    have k2 : v2 w 2 = m.x.toNat := by rw [hw]; show m.x.toNat % 256 + 256 * (m.x.toNat / 256 % 256) = _; omega
    rw [k0, k1, k2]
    cases m
    simp only [Sm.mk.injEq, true_and, and_true]
    simp only at q1 q2 q3
    omega
  · unfold sumM
    rw [hw]
    show s % 256 + 256 * (s / 256 % 256) + 65536 * (s / 65536 % 256) + 16777216 * (s / 16777216 % 256) = s
    omega
theorem gat_succ (b : List Nat) (n : Nat) : gat b (n + 1) = gat b n ++ (b.drop (16 * n + 5)).take 11 := by simp [gat, List.range_succ]
theorem gat_secs (e c : Int) {w : List Nat} (hw : w.length = 88) : ∀ n, n ≤ 8 → gat (secs e c w 8) n = w.take (11 * n)
  | 0, _ => rfl
  | n + 1, h => by
    have hs := secs_at e c hw n 8 (Nat.le_refl _) (by omega)
    rw [gat_succ, gat_secs e c hw n (by omega)]
    have e1 : ((secs e c w 8).drop (16 * n + 5)).take 11 = (w.drop (11 * n)).take 11 := by
      rw [← List.drop_drop]
      have : (((secs e c w 8).drop (16 * n)).drop 5).take 11 = (secM e c w n).drop 5 := by rw [← hs, List.drop_take]
      rw [this]
      unfold secM
      rw [List.drop_left' (by simp only [List.length_append, num_len])]
    rw [e1, ← List.take_add, show 11 * n + 11 = 11 * (n + 1) by omega]
theorem encM_len (m : Sm) (s : Nat) (h : Good m) : (encM m s).length = 128 := secs_len _ _ (zpad_len (by rw [wds_len]; have := h.size; omega)) 8 (Nat.le_refl _)
theorem encM_lt (m : Sm) (s : Nat) : ∀ x ∈ encM m s, x < 256 := secs_lt _ _ (zpad_lt (wds_lt m s)) 8
theorem sec_head (e c : Int) (w : List Nat) (k : Nat) (r : List Nat) (he : 0 ≤ e ∧ e ≤ 65535) (hc : 0 ≤ c ∧ c ≤ 65535) : ((v2 (secM e c w k ++ r) 0 : Nat) : Int) = e ∧ ((v2 (secM e c w k ++ r) 2 : Nat) : Int) = c := by
  have e1 : secM e c w k ++ r = num 2 e.toNat ++ (num 2 c.toNat ++ (num 1 k ++ (w.drop (11 * k)).take 11 ++ r)) := by simp only [secM, List.append_assoc]
  rw [e1]
  refine ⟨by rw [v2_num _ (by omega)]; omega, ?_⟩
  rw [show 2 = 2 + 0 by rfl, ← v2_drop, List.drop_left' (num_len _ _), v2_num _ (by omega)]; omega
theorem enc_back (m : Sm) (s : Nat) (h : Good m) (hs : s < 4294967296) : decM (encM m s) = m ∧ gat (encM m s) 8 = zpad 88 (wds m s) ∧ sumM (gat (encM m s) 8) = s := by
  have hw : (zpad 88 (wds m s)).length = 88 := zpad_len (by rw [wds_len]; have := h.size; omega)
  have hg : gat (encM m s) 8 = zpad 88 (wds m s) := by
    unfold encM
    rw [gat_secs _ _ hw 8 (Nat.le_refl _), List.take_of_length_le (by omega)]
  have hh : encM m s = secM m.e m.c (zpad 88 (wds m s)) 0 ++ (encM m s).drop 16 := by
    have := secs_at m.e m.c hw 0 8 (Nat.le_refl _) (by omega)
    rw [← this]
    show encM m s = (encM m s).take 16 ++ _
    rw [List.take_append_drop]
  have hv := sec_head m.e m.c (zpad 88 (wds m s)) 0 ((encM m s).drop 16) h.e h.c
  rw [← hh] at hv
  have hb := wds_back m s h hs m.e m.c rfl rfl
  refine ⟨?_, hg, by rw [hg]; exact hb.2⟩
  unfold decM
  rw [hv.1, hv.2, hg]
  exact hb.1
theorem ok_enc (m : Sm) (s : Nat) (h : chkM m = 0) (hs : s < 4294967296) : okB (encM m s) = true := by
  have hg := good_of h
  obtain ⟨h1, h2, h3⟩ := enc_back m s hg hs
  unfold okB
  rw [h1, h3, encM_len m s hg, h]
  simp
end Go.Proofs.YtlkgaefabahkoaaDoor
/-
  A row of bytes that was made with room: what was put, then zeros; 'append' into it; summary.number.
-/
namespace Go.Proofs.YtlkgaefabahkoaaDoor
open Go.RowKit

/-- A row of bytes of room c that begins with xs; zeros behind. -/
structure Fil (w : World) (g c : Nat) (xs : List Nat) : Prop where
  len : xs.length ≤ c
  lt : ∀ x ∈ xs, x < 256
  blo : Blo w g U8 (cellsB (zpad c xs)).toArray
section
variable {w w' : World} {g c : Nat} {xs : List Nat}
theorem Fil.later (h : Fil w g c xs) (hb : Below w.heap.size w w') : Fil w' g c xs := ⟨h.len, h.lt, h.blo.later hb⟩
theorem Fil.grown {row : Option Nat} (h : Fil w g c xs) (hb : w.grownBy w' row) (hg : some g ≠ row) : Fil w' g c xs := ⟨h.len, h.lt, h.blo.grown hb hg⟩
theorem Fil.bytes (h : Fil w g c xs) (hc : c ≤ 1000000) : Bytes w (some ⟨g, 0, none⟩) (zpad c xs) := by
  have hl := zpad_len h.len
  refine ⟨zpad_lt h.lt, by omega, fun _ => ⟨g, 0, rfl, fun i hi => ?_⟩⟩
  rw [Nat.zero_add, h.blo.cell, ← Array.getElem?_toList]
  exact cellsB_get _ _ hi
end
theorem zpad_app {c : Nat} {xs l : List Nat} (h : xs.length + l.length ≤ c) : (zpad c xs).take xs.length ++ l ++ (zpad c xs).drop (xs.length + l.length) = zpad c (xs ++ l) := by
  unfold zpad
  rw [List.take_left' rfl, ← List.drop_drop, List.drop_left' rfl, List.drop_replicate, List.length_append]
  rw [show c - xs.length - l.length = c - (xs.length + l.length) by omega]
theorem run_append_fil {P : Program} {w : World} (ty t : TypeId)
    (ht : P.underlying t = some (.slice U8)) (hi : (P.info? U8).map (fun i => (i.zero, i.size, i.bytes)) = some (some (.int .u8 0), 1, 1))
    (g c n : Nat) (xs : List Nat) (hn : n = xs.length) (hF : Fil w g c xs)
    (a : Option Addr) (m cap : Nat) (l : List Nat) (hm : m = l.length) (hl : Bytes w a l) (hne : l ≠ []) (hroom : n + m ≤ c) :
    ∃ w', (Builtin.append_ #[t, t] ty #[.slice (some ⟨g, 0, none⟩) n c, .slice a m cap]).run P w = .ok (.slice (some ⟨g, 0, none⟩) (n + m) c) w' ∧ Fil w' g c (xs ++ l) ∧ w.grownBy w' (some g) := by
  obtain ⟨i, hi0, hz, hs1, hb1⟩ := info_parts hi
  subst hn hm
  obtain ⟨b, off, rfl, hc⟩ := hl.2.2 hne
  have hzl := zpad_len hF.len
  have hrun := run_append_room (P := P) w t ty U8 i ht hi0 g xs.length c (cellsB (zpad c xs)).toArray hF.blo ⟨b, off, none⟩ l.length cap (cellsB l) (by rw [cellsB_length, hs1, Nat.mul_one])
    (fun j u hj => by
      have hjl : j < l.length := by
        rcases Nat.lt_or_ge j l.length with h | h
        · exact h
        · rw [List.getElem?_eq_none (by rw [cellsB_length]; exact h)] at hj; cases hj
      rw [cellsB_get l j hjl] at hj
      cases hj
      rw [Addr.add_lit]; exact hc j hjl)
    (fun u hu => by
      simp only [cellsB, List.mem_map] at hu
      obtain ⟨_, _, rfl⟩ := hu
      rfl) hroom (by rw [hs1, Nat.mul_one, cellsB_length]; simp only [List.size_toArray, cellsB_length]; omega)
  rw [hs1, Nat.mul_one, cellsB_length] at hrun
  have e1 : (List.take xs.length (cellsB (zpad c xs)).toArray.toList ++ cellsB l ++ List.drop (xs.length + l.length) (cellsB (zpad c xs)).toArray.toList).toArray = (cellsB (zpad c (xs ++ l))).toArray := by
    rw [← zpad_app hroom]
    simp [cellsB, List.map_append, List.map_take, List.map_drop]
  rw [e1] at hrun
  refine ⟨_, hrun, ⟨by rw [List.length_append]; exact hroom, app_lt hF.lt hl.1, ?_⟩, ?_⟩
  · have := hF.blo.lt
    unfold Blo World.setRow
    have hb := hF.blo
    unfold Blo at hb
    simp [Array.getElem?_modify, hb]
  · refine ⟨rfl, rfl, rfl, by simp [World.setRow], fun k _ hne => ?_⟩
    have : k ≠ g := fun e => hne (by rw [e])
    simp [World.setRow, Array.getElem?_modify, Ne.symm this]
theorem wp_append_fil {P : Program} {w : World} {ops : Array Oper} {rest : List Oper} {o : Oper} {act : Act} {Q : Exit → Act → World → Prop} (hgd : o.guard = none) (s x : Operand) (t : TypeId)
    (ho : o.op = .call { callee := .builtin .append, args := #[s, x], argTypes := #[t, t] })
    (ht : P.underlying t = some (.slice U8)) (hi : (P.info? U8).map (fun i => (i.zero, i.size, i.bytes)) = some (some (.int .u8 0), 1, 1))
    (g c n : Nat) (xs : List Nat) (hs : act.eval s = .slice (some ⟨g, 0, none⟩) n c) (hn : n = xs.length) (hF : Fil w g c xs)
    (a : Option Addr) (m cap : Nat) (l : List Nat) (hx : act.eval x = .slice a m cap) (hm : m = l.length) (hl : Bytes w a l) (hne : l ≠ []) (hroom : n + m ≤ c)
    (h : ∀ w', Fil w' g c (xs ++ l) → w.grownBy w' (some g) → wpList P ops Q rest (act.put o.dst (.slice (some ⟨g, 0, none⟩) (n + m) c)) w') : wpList P ops Q (o :: rest) act w := by
  refine wpList_plain hgd fun K hK => ?_
  obtain ⟨W', hrun, hF', hg'⟩ := run_append_fil (P := P) o.type t ht hi g c n xs hn hF a m cap l hm hl hne hroom
  unfold Oper.wp
  simp [execOp, ho, resolve, invoke, builtin, hs, hx, hrun, Result.andThen]
  exact hK _ _ (h W' hF' hg')
theorem info_u8f : (Tryd.prog.info? U8).map (fun i => (i.zero, i.size, i.bytes)) = some (some (.int .u8 0), 1, 1) := by kernel_rfl
def FilR (w : World) (g c : Nat) (xs : List Nat) (wr : World) : Prop := Fil wr g c xs ∧ w.grownBy wr (some g)
theorem grown_trans {w w1 w2 : World} {g : Nat} (h1 : w.grownBy w1 (some g)) (h2 : w1.grownBy w2 (some g)) : w.grownBy w2 (some g) :=
  ⟨h2.os.trans h1.os, h2.tape.trans h1.tape, h2.output.trans h1.output, Nat.le_trans h1.size h2.size, fun k hk hne => (h2.block k (Nat.lt_of_lt_of_le hk h1.size) hne).trans (h1.block k hk hne)⟩
theorem grown_same (w : World) (g : Option Nat) : w.grownBy w g := ⟨rfl, rfl, rfl, Nat.le_refl _, fun _ _ _ => rfl⟩
theorem grown_alloc {w w1 : World} {g : Option Nat} (h : w.grownBy w1 g) (o : Obj) : w.grownBy (w1.alloc o) g :=
  ⟨h.os, h.tape, h.output, by have := h.size; simp; omega, fun k hk hne => (Below.heap_alloc w1 o k (Nat.lt_of_lt_of_le hk h.size)).trans (h.block k hk hne)⟩
set_option maxHeartbeats 4000000 in
theorem number_fil {w : World} (k v g c n : Nat) (xs : List Nat) (hF : Fil w g c xs) (hn : n = xs.length) (hr : n + k ≤ c) (hk8 : k ≤ 8) (hc9 : c ≤ 1000000) (hv : v < 4611686018427387904) :
    Calls Tryd.prog 82 #[.slice (some ⟨g, 0, none⟩) n c, .int .i64 k, .int .i64 v] w fun e w' => e = .returned (.slice (some ⟨g, 0, none⟩) (n + k) c) ∧ Fil w' g c (xs ++ num k v) ∧ w.grownBy w' (some g) := by
  have HR := Lib.hid (show FilR w g c xs w from ⟨hF, grown_same _ _⟩)
  have HN := Lib.hid hn
  clear hF hn
  go_enter Tryd.func82, Tryd.ntmps82
  go_wp2_with fail
  go_loopw [0, 7, 9] (fun s _ t wr => ∃ j : Nat, j ≤ k ∧ t = .int .i64 j ∧ s = .slice (some ⟨g, 0, none⟩) (n + j) c ∧ FilR w g c (xs ++ num j v) wr) (fun _ _ t _ => k - (intOf t).toNat)
  case atStart => exact ⟨0, Nat.zero_le _, rfl, rfl, by simpa [num] using HR.out⟩
  case round =>
    clear HR
    obtain ⟨j, hj, rfl, rfl, hR⟩ := hrel
    have HR := Lib.hid hR
    clear hR
    by_cases hlt : j < k
    · have HC : Hid (∀ i, i < [v / 256 ^ j % 256].length → (#[Value.int .u8 (↑v / 2 ^ (8 * j) % 256)] : Array Value)[i]? = some (.int .u8 (([v / 256 ^ j % 256].getD i 0 : Nat) : Int))) := fun i hi => by
        have hi0 : i = 0 := by simpa using hi
        subst hi0
        have e1 : (((v / 256 ^ j % 256 : Nat)) : Int) = (v : Int) / 2 ^ (8 * j) % 256 := by
          rw [show (256 : Nat) ^ j = 2 ^ (8 * j) by rw [Nat.pow_mul]]
          rw [Int.natCast_emod, Int.natCast_ediv, Int.natCast_pow]
          rfl
        show some _ = some _
        rw [← e1]
        rfl
      have HG := Lib.hid (grown_alloc HR.out.2 (.cells #[.int .u8 (↑v / 2 ^ (8 * j) % 256)] U8))
      have HL := Lib.hid (sup_pc wr (.cells #[.int .u8 (↑v / 2 ^ (8 * j) % 256)] U8))
      go_wp2_with (at_builtin; refine wp_append_fil rfl (.tmp 12) (.tmp 18) 49 rfl Tryd.underlying49 info_u8f g c (n + j) (xs ++ num j v) rfl (by rw [List.length_append, num_len, HN.out]) (HR.out.1.later HL.out) (some ⟨wr.heap.size, 0, none⟩) 1 1 [v / 256 ^ j % 256] rfl rfl (Bytes.laid wr [v / 256 ^ j % 256] _ _ _ (fun x hx => by rw [List.mem_singleton.1 hx]; exact Nat.mod_lt _ (by decide)) (by simp) HC.out) (by simp) (by omega) ?_; intro w2 hF2 hg2; have HF2 := Lib.hid hF2; have HG2 := Lib.hid (grown_trans HG.out hg2); clear hF2 hg2)
      go_roundw
      case rel => exact ⟨j + 1, by omega, by simp, rfl, by rw [num_succ, ← List.append_assoc]; exact ⟨HF2.out, HG2.out⟩⟩
      case measure => simp [intOf]; omega
    · obtain rfl : j = k := by omega
      go_wp2
      go_ret
      exact ⟨rfl, HR.out.1, HR.out.2⟩
end Go.Proofs.YtlkgaefabahkoaaDoor
