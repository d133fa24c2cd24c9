/-
  What a path leads to, and what is wrong with that.
-/
import Derived.Test.YtcjojcihjhhpgaaPk02
namespace Go.Proofs.Ytcjojcihjhhpgaa
open Go.RowKit

def orE (b : Bool) (k z : Int) : Int := if b = true ∧ k ≠ 2 then 20 else z
def findK (T : Tr) (l : List ByteArray) (dir : Bool) (wr : Nat → Int) : Option Nat × Int :=
  match leadK T 2 l with
  | (none, z) => (none, z)
  | (some i, _) => (some i, orE dir (T.K i) (wr i))
theorem findK_none {T : Tr} {l : List ByteArray} {dir : Bool} {wr : Nat → Int} {z : Int} (h : leadK T 2 l = (none, z)) : findK T l dir wr = (none, z) := by unfold findK; rw [h]
theorem findK_some {T : Tr} {l : List ByteArray} {dir : Bool} {wr : Nat → Int} {i : Nat} {z : Int} (h : leadK T 2 l = (some i, z)) : findK T l dir wr = (some i, orE dir (T.K i) (wr i)) := by unfold findK; rw [h]
/-- A function that tells what is wrong with a node. -/
def WrF (cnt : Nat) (T : Tr) (p : Pl) (F : FuncId) (wr : Nat → Int) : Prop := ∀ (W : World) (i : Nat), TrM W cnt T p → T.live i → Calls Try.prog F #[.pointer (some ⟨p.B i, 0, none⟩)] W fun e w' => e = .returned (.int .i64 (wr i)) ∧ w' = W
section
variable {w : World} {cnt : Nat} {T : Tr} {p : Pl}
set_option maxRecDepth 100000 in
set_option maxHeartbeats 4000000 in
theorem find_dir (h : TrM w cnt T p) {wr : Nat → Int} (hF : WrF cnt T p 36 wr) {a : Option Addr} {n c : Nat} {l : List ByteArray} {dir : Bool} (hn : n = l.length) (hn9 : n ≤ 1000) (hs : Strs w a l) (hw : ∀ s ∈ l, wfS s) :
    Calls Try.prog 40 #[.pointer (some ⟨p.bt, 0, none⟩), .agg #[.slice a n c, .bool dir], .func (.func 36) #[] #[]] w fun e w' => e = .returned (.tuple #[ptrV ((findK T l dir wr).1.map p.B), .int .i64 (findK T l dir wr).2]) ∧ Below w.heap.size w w' := by
  obtain ⟨w1, hw1⟩ : ∃ w1, w1 = w.alloc (.cells #[.slice a n c, .bool dir] PTT) := ⟨_, rfl⟩
  have HX1 : Hid (Blo w1 w.heap.size PTT #[.slice a n c, .bool dir]) := by rw [hw1]; exact blo_laid w _ _
  have HB1 : Hid (Below w.heap.size w w1) := by rw [hw1]; exact sup_pct w _
  have H1 := Lib.hid (h.later HB1.out)
  have HLd := Lib.hid (lead_any (c := c) H1.out hn hn9 (hs.below HB1.out) hw)
  have HF := Lib.hid hF
  have HLv := Lib.hid (leadK_live h.wf l 2 h.root)
  have HLe := Lib.hid (leadK_err (T := T) l 2)
  have c0 : w1.cell? ⟨w.heap.size, 0, none⟩ = some (.slice a n c) := HX1.out.cell 0
  have c1 : w1.cell? ⟨w.heap.size, 1, none⟩ = some (.bool dir) := HX1.out.cell 1
  clear h hF hn hn9 hs hw
  obtain ⟨R, hR⟩ : ∃ R, leadK T 2 l = R := ⟨_, rfl⟩
  rw [hR] at HLd HLv HLe
  have HR := Lib.hid hR
  clear hR
  obtain ⟨ro, rz⟩ := R
  cases ro with
  | none =>
    have HE := Lib.hid (findK_none (dir := dir) (wr := wr) HR.out)
    have hz : (rz == 0) = false := beq_eq_false_iff_ne.2 (HLe.out rfl)
    go_enter Try.func40, Try.ntmps40
    go_upto_region 1 with (fail)
    rw [← hw1]
    clear hw1
    go_wp2_with fail
    refine HLd.out.mono ?_
    rintro e w2 ⟨rfl, rfl⟩
    go_wp2_with fail
    go_ret2
    rw [HE.out]
    exact ⟨rfl, HB1.out⟩
  | some i =>
    obtain ⟨hi, hz0⟩ := HLv.out i rfl
    have hz0 : rz = 0 := hz0
    subst hz0
    have HE := Lib.hid (findK_some (dir := dir) (wr := wr) HR.out)
    have HI := Lib.hid hi
    have HDi := Lib.hid (directory_any H1.out hi)
    have HWi := Lib.hid (HF.out w1 i H1.out hi)
    unfold wrDir at HDi
    clear hi HLv HLe
    cases dir with
    | false =>
      have hq : orE false (T.K i) (wr i) = wr i := if_neg (fun q => by cases q.1)
      rw [hq] at HE
      generalize wr i = z at *
      go_enter Try.func40, Try.ntmps40
      go_upto_region 1 with (fail)
      rw [← hw1]
      clear hw1 hq
      go_wp2_with fail
      refine HLd.out.mono ?_
      rintro e w2 ⟨rfl, rfl⟩
      go_wp2_with fail
      refine HWi.out.mono ?_
      rintro e w2 ⟨rfl, rfl⟩
      go_wp2_with fail
      go_ret2
      rw [HE.out]
      exact ⟨rfl, HB1.out⟩
    | true =>
      by_cases hk : T.K i = 2
      · rw [if_pos hk] at HDi
        have hq : orE true (T.K i) (wr i) = wr i := if_neg (fun q => q.2 hk)
        rw [hq] at HE
        generalize wr i = z at *
        go_enter Try.func40, Try.ntmps40
        go_upto_region 1 with (fail)
        rw [← hw1]
        clear hw1 hq hk
        go_wp2_with fail
        refine HLd.out.mono ?_
        rintro e w2 ⟨rfl, rfl⟩
        go_wp2_with fail
        refine HDi.out.mono ?_
        rintro e w2 ⟨rfl, rfl⟩
        go_wp2_with fail
        refine HWi.out.mono ?_
        rintro e w2 ⟨rfl, rfl⟩
        go_wp2_with fail
        go_ret2
        rw [HE.out]
        exact ⟨rfl, HB1.out⟩
      · rw [if_neg hk] at HDi
        have hq : orE true (T.K i) (wr i) = 20 := if_pos ⟨rfl, hk⟩
        rw [hq] at HE
        go_enter Try.func40, Try.ntmps40
        go_upto_region 1 with (fail)
        rw [← hw1]
        clear hw1 hq hk
        go_wp2_with fail
        refine HLd.out.mono ?_
        rintro e w2 ⟨rfl, rfl⟩
        go_wp2_with fail
        refine HDi.out.mono ?_
        rintro e w2 ⟨rfl, rfl⟩
        go_wp2_with fail
        go_ret2
        rw [HE.out]
        exact ⟨rfl, HB1.out⟩
set_option maxRecDepth 100000 in
set_option maxHeartbeats 4000000 in
theorem find_file (h : TrM w cnt T p) {wr : Nat → Int} (hF : WrF cnt T p 38 wr) {a : Option Addr} {n c : Nat} {l : List ByteArray} {dir : Bool} (hn : n = l.length) (hn9 : n ≤ 1000) (hs : Strs w a l) (hw : ∀ s ∈ l, wfS s) :
    Calls Try.prog 40 #[.pointer (some ⟨p.bt, 0, none⟩), .agg #[.slice a n c, .bool dir], .func (.func 38) #[] #[]] w fun e w' => e = .returned (.tuple #[ptrV ((findK T l dir wr).1.map p.B), .int .i64 (findK T l dir wr).2]) ∧ Below w.heap.size w w' := by
  obtain ⟨w1, hw1⟩ : ∃ w1, w1 = w.alloc (.cells #[.slice a n c, .bool dir] PTT) := ⟨_, rfl⟩
  have HX1 : Hid (Blo w1 w.heap.size PTT #[.slice a n c, .bool dir]) := by rw [hw1]; exact blo_laid w _ _
  have HB1 : Hid (Below w.heap.size w w1) := by rw [hw1]; exact sup_pct w _
  have H1 := Lib.hid (h.later HB1.out)
  have HLd := Lib.hid (lead_any (c := c) H1.out hn hn9 (hs.below HB1.out) hw)
  have HF := Lib.hid hF
  have HLv := Lib.hid (leadK_live h.wf l 2 h.root)
  have HLe := Lib.hid (leadK_err (T := T) l 2)
  have c0 : w1.cell? ⟨w.heap.size, 0, none⟩ = some (.slice a n c) := HX1.out.cell 0
  have c1 : w1.cell? ⟨w.heap.size, 1, none⟩ = some (.bool dir) := HX1.out.cell 1
  clear h hF hn hn9 hs hw
  obtain ⟨R, hR⟩ : ∃ R, leadK T 2 l = R := ⟨_, rfl⟩
  rw [hR] at HLd HLv HLe
  have HR := Lib.hid hR
  clear hR
  obtain ⟨ro, rz⟩ := R
  cases ro with
  | none =>
    have HE := Lib.hid (findK_none (dir := dir) (wr := wr) HR.out)
    have hz : (rz == 0) = false := beq_eq_false_iff_ne.2 (HLe.out rfl)
    go_enter Try.func40, Try.ntmps40
    go_upto_region 1 with (fail)
    rw [← hw1]
    clear hw1
    go_wp2_with fail
    refine HLd.out.mono ?_
    rintro e w2 ⟨rfl, rfl⟩
    go_wp2_with fail
    go_ret2
    rw [HE.out]
    exact ⟨rfl, HB1.out⟩
  | some i =>
    obtain ⟨hi, hz0⟩ := HLv.out i rfl
    have hz0 : rz = 0 := hz0
    subst hz0
    have HE := Lib.hid (findK_some (dir := dir) (wr := wr) HR.out)
    have HI := Lib.hid hi
    have HDi := Lib.hid (directory_any H1.out hi)
    have HWi := Lib.hid (HF.out w1 i H1.out hi)
    unfold wrDir at HDi
    clear hi HLv HLe
    cases dir with
    | false =>
      have hq : orE false (T.K i) (wr i) = wr i := if_neg (fun q => by cases q.1)
      rw [hq] at HE
      generalize wr i = z at *
      go_enter Try.func40, Try.ntmps40
      go_upto_region 1 with (fail)
      rw [← hw1]
      clear hw1 hq
      go_wp2_with fail
      refine HLd.out.mono ?_
      rintro e w2 ⟨rfl, rfl⟩
      go_wp2_with fail
      refine HWi.out.mono ?_
      rintro e w2 ⟨rfl, rfl⟩
      go_wp2_with fail
      go_ret2
      rw [HE.out]
      exact ⟨rfl, HB1.out⟩
    | true =>
      by_cases hk : T.K i = 2
      · rw [if_pos hk] at HDi
        have hq : orE true (T.K i) (wr i) = wr i := if_neg (fun q => q.2 hk)
        rw [hq] at HE
        generalize wr i = z at *
        go_enter Try.func40, Try.ntmps40
        go_upto_region 1 with (fail)
        rw [← hw1]
        clear hw1 hq hk
        go_wp2_with fail
        refine HLd.out.mono ?_
        rintro e w2 ⟨rfl, rfl⟩
        go_wp2_with fail
        refine HDi.out.mono ?_
        rintro e w2 ⟨rfl, rfl⟩
        go_wp2_with fail
        refine HWi.out.mono ?_
        rintro e w2 ⟨rfl, rfl⟩
        go_wp2_with fail
        go_ret2
        rw [HE.out]
        exact ⟨rfl, HB1.out⟩
      · rw [if_neg hk] at HDi
        have hq : orE true (T.K i) (wr i) = 20 := if_pos ⟨rfl, hk⟩
        rw [hq] at HE
        go_enter Try.func40, Try.ntmps40
        go_upto_region 1 with (fail)
        rw [← hw1]
        clear hw1 hq hk
        go_wp2_with fail
        refine HLd.out.mono ?_
        rintro e w2 ⟨rfl, rfl⟩
        go_wp2_with fail
        refine HDi.out.mono ?_
        rintro e w2 ⟨rfl, rfl⟩
        go_wp2_with fail
        go_ret2
        rw [HE.out]
        exact ⟨rfl, HB1.out⟩
set_option maxRecDepth 100000 in
set_option maxHeartbeats 4000000 in
theorem find_link (h : TrM w cnt T p) {wr : Nat → Int} (hF : WrF cnt T p 51 wr) {a : Option Addr} {n c : Nat} {l : List ByteArray} {dir : Bool} (hn : n = l.length) (hn9 : n ≤ 1000) (hs : Strs w a l) (hw : ∀ s ∈ l, wfS s) :
    Calls Try.prog 40 #[.pointer (some ⟨p.bt, 0, none⟩), .agg #[.slice a n c, .bool dir], .func (.func 51) #[] #[]] w fun e w' => e = .returned (.tuple #[ptrV ((findK T l dir wr).1.map p.B), .int .i64 (findK T l dir wr).2]) ∧ Below w.heap.size w w' := by
  obtain ⟨w1, hw1⟩ : ∃ w1, w1 = w.alloc (.cells #[.slice a n c, .bool dir] PTT) := ⟨_, rfl⟩
  have HX1 : Hid (Blo w1 w.heap.size PTT #[.slice a n c, .bool dir]) := by rw [hw1]; exact blo_laid w _ _
  have HB1 : Hid (Below w.heap.size w w1) := by rw [hw1]; exact sup_pct w _
  have H1 := Lib.hid (h.later HB1.out)
  have HLd := Lib.hid (lead_any (c := c) H1.out hn hn9 (hs.below HB1.out) hw)
  have HF := Lib.hid hF
  have HLv := Lib.hid (leadK_live h.wf l 2 h.root)
  have HLe := Lib.hid (leadK_err (T := T) l 2)
  have c0 : w1.cell? ⟨w.heap.size, 0, none⟩ = some (.slice a n c) := HX1.out.cell 0
  have c1 : w1.cell? ⟨w.heap.size, 1, none⟩ = some (.bool dir) := HX1.out.cell 1
  clear h hF hn hn9 hs hw
  obtain ⟨R, hR⟩ : ∃ R, leadK T 2 l = R := ⟨_, rfl⟩
  rw [hR] at HLd HLv HLe
  have HR := Lib.hid hR
  clear hR
  obtain ⟨ro, rz⟩ := R
  cases ro with
  | none =>
    have HE := Lib.hid (findK_none (dir := dir) (wr := wr) HR.out)
    have hz : (rz == 0) = false := beq_eq_false_iff_ne.2 (HLe.out rfl)
    go_enter Try.func40, Try.ntmps40
    go_upto_region 1 with (fail)
    rw [← hw1]
    clear hw1
    go_wp2_with fail
    refine HLd.out.mono ?_
    rintro e w2 ⟨rfl, rfl⟩
    go_wp2_with fail
    go_ret2
    rw [HE.out]
    exact ⟨rfl, HB1.out⟩
  | some i =>
    obtain ⟨hi, hz0⟩ := HLv.out i rfl
    have hz0 : rz = 0 := hz0
    subst hz0
    have HE := Lib.hid (findK_some (dir := dir) (wr := wr) HR.out)
    have HI := Lib.hid hi
    have HDi := Lib.hid (directory_any H1.out hi)
    have HWi := Lib.hid (HF.out w1 i H1.out hi)
    unfold wrDir at HDi
    clear hi HLv HLe
    cases dir with
    | false =>
      have hq : orE false (T.K i) (wr i) = wr i := if_neg (fun q => by cases q.1)
      rw [hq] at HE
      generalize wr i = z at *
      go_enter Try.func40, Try.ntmps40
      go_upto_region 1 with (fail)
      rw [← hw1]
      clear hw1 hq
      go_wp2_with fail
      refine HLd.out.mono ?_
      rintro e w2 ⟨rfl, rfl⟩
      go_wp2_with fail
      refine HWi.out.mono ?_
      rintro e w2 ⟨rfl, rfl⟩
      go_wp2_with fail
      go_ret2
      rw [HE.out]
      exact ⟨rfl, HB1.out⟩
    | true =>
      by_cases hk : T.K i = 2
      · rw [if_pos hk] at HDi
        have hq : orE true (T.K i) (wr i) = wr i := if_neg (fun q => q.2 hk)
        rw [hq] at HE
        generalize wr i = z at *
        go_enter Try.func40, Try.ntmps40
        go_upto_region 1 with (fail)
        rw [← hw1]
        clear hw1 hq hk
        go_wp2_with fail
        refine HLd.out.mono ?_
        rintro e w2 ⟨rfl, rfl⟩
        go_wp2_with fail
        refine HDi.out.mono ?_
        rintro e w2 ⟨rfl, rfl⟩
        go_wp2_with fail
        refine HWi.out.mono ?_
        rintro e w2 ⟨rfl, rfl⟩
        go_wp2_with fail
        go_ret2
        rw [HE.out]
        exact ⟨rfl, HB1.out⟩
      · rw [if_neg hk] at HDi
        have hq : orE true (T.K i) (wr i) = 20 := if_pos ⟨rfl, hk⟩
        rw [hq] at HE
        go_enter Try.func40, Try.ntmps40
        go_upto_region 1 with (fail)
        rw [← hw1]
        clear hw1 hq hk
        go_wp2_with fail
        refine HLd.out.mono ?_
        rintro e w2 ⟨rfl, rfl⟩
        go_wp2_with fail
        refine HDi.out.mono ?_
        rintro e w2 ⟨rfl, rfl⟩
        go_wp2_with fail
        go_ret2
        rw [HE.out]
        exact ⟨rfl, HB1.out⟩
set_option maxRecDepth 100000 in
set_option maxHeartbeats 4000000 in
theorem find_empty (h : TrM w cnt T p) {wr : Nat → Int} (hF : WrF cnt T p 55 wr) {a : Option Addr} {n c : Nat} {l : List ByteArray} {dir : Bool} (hn : n = l.length) (hn9 : n ≤ 1000) (hs : Strs w a l) (hw : ∀ s ∈ l, wfS s) :
    Calls Try.prog 40 #[.pointer (some ⟨p.bt, 0, none⟩), .agg #[.slice a n c, .bool dir], .func (.func 55) #[] #[]] w fun e w' => e = .returned (.tuple #[ptrV ((findK T l dir wr).1.map p.B), .int .i64 (findK T l dir wr).2]) ∧ Below w.heap.size w w' := by
  obtain ⟨w1, hw1⟩ : ∃ w1, w1 = w.alloc (.cells #[.slice a n c, .bool dir] PTT) := ⟨_, rfl⟩
  have HX1 : Hid (Blo w1 w.heap.size PTT #[.slice a n c, .bool dir]) := by rw [hw1]; exact blo_laid w _ _
  have HB1 : Hid (Below w.heap.size w w1) := by rw [hw1]; exact sup_pct w _
  have H1 := Lib.hid (h.later HB1.out)
  have HLd := Lib.hid (lead_any (c := c) H1.out hn hn9 (hs.below HB1.out) hw)
  have HF := Lib.hid hF
  have HLv := Lib.hid (leadK_live h.wf l 2 h.root)
  have HLe := Lib.hid (leadK_err (T := T) l 2)
  have c0 : w1.cell? ⟨w.heap.size, 0, none⟩ = some (.slice a n c) := HX1.out.cell 0
  have c1 : w1.cell? ⟨w.heap.size, 1, none⟩ = some (.bool dir) := HX1.out.cell 1
  clear h hF hn hn9 hs hw
  obtain ⟨R, hR⟩ : ∃ R, leadK T 2 l = R := ⟨_, rfl⟩
  rw [hR] at HLd HLv HLe
  have HR := Lib.hid hR
  clear hR
  obtain ⟨ro, rz⟩ := R
  cases ro with
  | none =>
    have HE := Lib.hid (findK_none (dir := dir) (wr := wr) HR.out)
    have hz : (rz == 0) = false := beq_eq_false_iff_ne.2 (HLe.out rfl)
    go_enter Try.func40, Try.ntmps40
    go_upto_region 1 with (fail)
    rw [← hw1]
    clear hw1
    go_wp2_with fail
    refine HLd.out.mono ?_
    rintro e w2 ⟨rfl, rfl⟩
    go_wp2_with fail
    go_ret2
    rw [HE.out]
    exact ⟨rfl, HB1.out⟩
  | some i =>
    obtain ⟨hi, hz0⟩ := HLv.out i rfl
    have hz0 : rz = 0 := hz0
    subst hz0
    have HE := Lib.hid (findK_some (dir := dir) (wr := wr) HR.out)
    have HI := Lib.hid hi
    have HDi := Lib.hid (directory_any H1.out hi)
    have HWi := Lib.hid (HF.out w1 i H1.out hi)
    unfold wrDir at HDi
    clear hi HLv HLe
    cases dir with
    | false =>
      have hq : orE false (T.K i) (wr i) = wr i := if_neg (fun q => by cases q.1)
      rw [hq] at HE
      generalize wr i = z at *
      go_enter Try.func40, Try.ntmps40
      go_upto_region 1 with (fail)
      rw [← hw1]
      clear hw1 hq
      go_wp2_with fail
      refine HLd.out.mono ?_
      rintro e w2 ⟨rfl, rfl⟩
      go_wp2_with fail
      refine HWi.out.mono ?_
      rintro e w2 ⟨rfl, rfl⟩
      go_wp2_with fail
      go_ret2
      rw [HE.out]
      exact ⟨rfl, HB1.out⟩
    | true =>
      by_cases hk : T.K i = 2
      · rw [if_pos hk] at HDi
        have hq : orE true (T.K i) (wr i) = wr i := if_neg (fun q => q.2 hk)
        rw [hq] at HE
        generalize wr i = z at *
        go_enter Try.func40, Try.ntmps40
        go_upto_region 1 with (fail)
        rw [← hw1]
        clear hw1 hq hk
        go_wp2_with fail
        refine HLd.out.mono ?_
        rintro e w2 ⟨rfl, rfl⟩
        go_wp2_with fail
        refine HDi.out.mono ?_
        rintro e w2 ⟨rfl, rfl⟩
        go_wp2_with fail
        refine HWi.out.mono ?_
        rintro e w2 ⟨rfl, rfl⟩
        go_wp2_with fail
        go_ret2
        rw [HE.out]
        exact ⟨rfl, HB1.out⟩
      · rw [if_neg hk] at HDi
        have hq : orE true (T.K i) (wr i) = 20 := if_pos ⟨rfl, hk⟩
        rw [hq] at HE
        go_enter Try.func40, Try.ntmps40
        go_upto_region 1 with (fail)
        rw [← hw1]
        clear hw1 hq hk
        go_wp2_with fail
        refine HLd.out.mono ?_
        rintro e w2 ⟨rfl, rfl⟩
        go_wp2_with fail
        refine HDi.out.mono ?_
        rintro e w2 ⟨rfl, rfl⟩
        go_wp2_with fail
        go_ret2
        rw [HE.out]
        exact ⟨rfl, HB1.out⟩
set_option maxRecDepth 100000 in
set_option maxHeartbeats 4000000 in
theorem find_any (h : TrM w cnt T p) {wr : Nat → Int} (hF : WrF cnt T p 35 wr) {a : Option Addr} {n c : Nat} {l : List ByteArray} {dir : Bool} (hn : n = l.length) (hn9 : n ≤ 1000) (hs : Strs w a l) (hw : ∀ s ∈ l, wfS s) :
    Calls Try.prog 40 #[.pointer (some ⟨p.bt, 0, none⟩), .agg #[.slice a n c, .bool dir], .func (.func 35) #[] #[]] w fun e w' => e = .returned (.tuple #[ptrV ((findK T l dir wr).1.map p.B), .int .i64 (findK T l dir wr).2]) ∧ Below w.heap.size w w' := by
  obtain ⟨w1, hw1⟩ : ∃ w1, w1 = w.alloc (.cells #[.slice a n c, .bool dir] PTT) := ⟨_, rfl⟩
  have HX1 : Hid (Blo w1 w.heap.size PTT #[.slice a n c, .bool dir]) := by rw [hw1]; exact blo_laid w _ _
  have HB1 : Hid (Below w.heap.size w w1) := by rw [hw1]; exact sup_pct w _
  have H1 := Lib.hid (h.later HB1.out)
  have HLd := Lib.hid (lead_any (c := c) H1.out hn hn9 (hs.below HB1.out) hw)
  have HF := Lib.hid hF
  have HLv := Lib.hid (leadK_live h.wf l 2 h.root)
  have HLe := Lib.hid (leadK_err (T := T) l 2)
  have c0 : w1.cell? ⟨w.heap.size, 0, none⟩ = some (.slice a n c) := HX1.out.cell 0
  have c1 : w1.cell? ⟨w.heap.size, 1, none⟩ = some (.bool dir) := HX1.out.cell 1
  clear h hF hn hn9 hs hw
  obtain ⟨R, hR⟩ : ∃ R, leadK T 2 l = R := ⟨_, rfl⟩
  rw [hR] at HLd HLv HLe
  have HR := Lib.hid hR
  clear hR
  obtain ⟨ro, rz⟩ := R
  cases ro with
  | none =>
    have HE := Lib.hid (findK_none (dir := dir) (wr := wr) HR.out)
    have hz : (rz == 0) = false := beq_eq_false_iff_ne.2 (HLe.out rfl)
    go_enter Try.func40, Try.ntmps40
    go_upto_region 1 with (fail)
    rw [← hw1]
    clear hw1
    go_wp2_with fail
    refine HLd.out.mono ?_
    rintro e w2 ⟨rfl, rfl⟩
    go_wp2_with fail
    go_ret2
    rw [HE.out]
    exact ⟨rfl, HB1.out⟩
  | some i =>
    obtain ⟨hi, hz0⟩ := HLv.out i rfl
    have hz0 : rz = 0 := hz0
    subst hz0
    have HE := Lib.hid (findK_some (dir := dir) (wr := wr) HR.out)
    have HI := Lib.hid hi
    have HDi := Lib.hid (directory_any H1.out hi)
    have HWi := Lib.hid (HF.out w1 i H1.out hi)
    unfold wrDir at HDi
    clear hi HLv HLe
    cases dir with
    | false =>
      have hq : orE false (T.K i) (wr i) = wr i := if_neg (fun q => by cases q.1)
      rw [hq] at HE
      generalize wr i = z at *
      go_enter Try.func40, Try.ntmps40
      go_upto_region 1 with (fail)
      rw [← hw1]
      clear hw1 hq
      go_wp2_with fail
      refine HLd.out.mono ?_
      rintro e w2 ⟨rfl, rfl⟩
      go_wp2_with fail
      refine HWi.out.mono ?_
      rintro e w2 ⟨rfl, rfl⟩
      go_wp2_with fail
      go_ret2
      rw [HE.out]
      exact ⟨rfl, HB1.out⟩
    | true =>
      by_cases hk : T.K i = 2
      · rw [if_pos hk] at HDi
        have hq : orE true (T.K i) (wr i) = wr i := if_neg (fun q => q.2 hk)
        rw [hq] at HE
        generalize wr i = z at *
        go_enter Try.func40, Try.ntmps40
        go_upto_region 1 with (fail)
        rw [← hw1]
        clear hw1 hq hk
        go_wp2_with fail
        refine HLd.out.mono ?_
        rintro e w2 ⟨rfl, rfl⟩
        go_wp2_with fail
        refine HDi.out.mono ?_
        rintro e w2 ⟨rfl, rfl⟩
        go_wp2_with fail
        refine HWi.out.mono ?_
        rintro e w2 ⟨rfl, rfl⟩
        go_wp2_with fail
        go_ret2
        rw [HE.out]
        exact ⟨rfl, HB1.out⟩
      · rw [if_neg hk] at HDi
        have hq : orE true (T.K i) (wr i) = 20 := if_pos ⟨rfl, hk⟩
        rw [hq] at HE
        go_enter Try.func40, Try.ntmps40
        go_upto_region 1 with (fail)
        rw [← hw1]
        clear hw1 hq hk
        go_wp2_with fail
        refine HLd.out.mono ?_
        rintro e w2 ⟨rfl, rfl⟩
        go_wp2_with fail
        refine HDi.out.mono ?_
        rintro e w2 ⟨rfl, rfl⟩
        go_wp2_with fail
        go_ret2
        rw [HE.out]
        exact ⟨rfl, HB1.out⟩
end
end Go.Proofs.Ytcjojcihjhhpgaa
