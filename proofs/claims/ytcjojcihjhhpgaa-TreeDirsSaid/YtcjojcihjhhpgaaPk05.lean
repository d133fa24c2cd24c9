/-
  TrEnter · TrCreate · TrMkdir: these texts in one.
-/
import Derived.Test.YtcjojcihjhhpgaaPk04
/-
  enter: a new node gets a name; freeFile.
-/
namespace Go.Proofs.Ytcjojcihjhhpgaa
open Go.RowKit

def enterK (T : Tr) (d : Nat) (s : ByteArray) (k : Int) : Tr × Int × Int := match leastI T with | some i => ((T.add i k).ent d s (some i), (i : Int), 0) | none => (T, 0, 23)
/-- A tree behind a call, a number, an error. -/
def OpO (w : World) (cnt : Nat) (T : Tr) (p : Pl) (R : Tr × Int × Int) (e : Ending) (w' : World) : Prop := e = .returned (.tuple #[.int .i64 R.2.1, .int .i64 R.2.2]) ∧ ∃ p', TrG w T p w' (cnt + 1) R.1 p'
section
variable {w : World} {cnt : Nat} {T : Tr} {p : Pl} {b o n c d : Nat} {dd : Bool} {s last : ByteArray} {l : List ByteArray} {k : Int}
set_option maxRecDepth 100000 in
set_option maxHeartbeats 4000000 in
theorem enter_any (h : TrM w cnt T p) (hk : k = 1 ∨ k = 2) (hd : T.K d = 2) (hs : wfS s) (hc : cnt < 1000000) :
    Calls Try.prog 48 #[.pointer (some ⟨p.bt, 0, none⟩), .pointer (some ⟨p.B d, 0, none⟩), .string s, .int .i64 k] w (OpO w cnt T p (enterK T d s k)) := by
  have H := Lib.hid h
  have HFr := Lib.hid (fresh_any h hk)
  have HD := Lib.hid hd
  have HS := Lib.hid hs
  have HC := Lib.hid hc
  have HK := Lib.hid hk
  clear h hk hd hs hc
  go_enter Try.func48, Try.ntmps48
  go_wp2_with fail
  refine HFr.out.mono ?_
  rintro e w1 (⟨hno, rfl, rfl⟩ | ⟨i, b, m, hle, rfl, hg⟩)
  · have HE : Hid (enterK T d s k = (T, 0, 23)) := by
      show _ = _
      unfold enterK
      rw [least_none hno]
    have HG := Lib.hid (TrG.refl H.out (Below.refl _ _) (Nat.le_succ cnt))
    clear hno HFr
    go_wp2_with fail
    go_ret2
    rw [HE.out]
    exact ⟨rfl, p, HG.out⟩
  · have HE : Hid (enterK T d s k = ((T.add i k).ent d s (some i), (i : Int), 0)) := by
      show _ = _
      unfold enterK
      rw [least_some hle]
    have hid : d ≠ i := fun e => by
      have h1 := hle.2.2.1
      rw [← e, HD.out] at h1
      exact absurd h1 (by decide)
    have hd2 : (T.add i k).K d = 2 := (updN_ne _ _ hid).trans HD.out
    have hki : (T.add i k).K i = k := updN_at _ _ _
    have hli : (T.add i k).live i := by
      unfold Tr.live
      rw [hki]
      rcases HK.out with rfl | rfl <;> decide
    have hi2 : i ≠ 2 := fun e => by
      have h1 := hle.2.2.1
      rw [e, H.out.wf.root] at h1
      exact absurd h1 (by decide)
    have hB : (p.add i b m).B i = b := updN_at _ _ _
    have hMd : (p.add i b m).MB d = p.MB d := updN_ne _ _ hid
    have hBd : (p.add i b m).B d = p.B d := updN_ne _ _ hid
    obtain ⟨w2, hrun, hg2⟩ := hg.m.ent hd2 hli hi2 HS.out HC.out
    rw [hB] at hrun
    have HG := Lib.hid (hg.trans hg2)
    have hcd := hg.m.cells (i := d) (by unfold Tr.live; rw [hd2]; decide)
    rw [hBd, hd2, if_pos rfl] at hcd
    obtain ⟨-, -, -, c3, -⟩ := hcd
    have hci := (hg2.m.cells (i := i) hli).1
    rw [hB] at hci
    clear hle hid hd2 hki hli hi2 hB hMd hBd hg hg2 HFr
    generalize (p.add i b m).MB d = md at *
    go_wp2_with fail
    go_ret2
    rw [HE.out]
    exact ⟨rfl, _, HG.out⟩
set_option maxRecDepth 100000 in
set_option maxHeartbeats 4000000 in
theorem freeFile_any (h : TrM w cnt T p) (hp : PlO w b o n c l last) :
    Calls Try.prog 47 #[.pointer (some ⟨p.bt, 0, none⟩), .agg #[.slice (some ⟨b, o, none⟩) n c, .bool dd, .string last]] w fun e w' => e = .returned (.tuple #[ptrV ((ffK T l last dd).1.map p.B), .int .i64 (ffK T l last dd).2]) ∧ Below w.heap.size w w' := by
  obtain ⟨w1, hw1⟩ : ∃ w1, w1 = w.alloc (.cells #[.slice (some ⟨b, o, none⟩) n c, .bool dd, .string last] PLT) := ⟨_, rfl⟩
  have HX1 : Hid (Blo w1 w.heap.size PLT #[.slice (some ⟨b, o, none⟩) n c, .bool dd, .string last]) := by rw [hw1]; exact blo_laid w _ _
  have HB1 : Hid (Below w.heap.size w w1) := by rw [hw1]; exact sup_pct w _
  have HFr := Lib.hid (free_any (d := dd) (h.later HB1.out) (hp.later HB1.out))
  have c0 : w1.cell? ⟨w.heap.size, 0, none⟩ = some (.slice (some ⟨b, o, none⟩) n c) := HX1.out.cell 0
  have c1 : w1.cell? ⟨w.heap.size, 1, none⟩ = some (.bool dd) := HX1.out.cell 1
  have c2 : w1.cell? ⟨w.heap.size, 2, none⟩ = some (.string last) := HX1.out.cell 2
  have HQ : Hid (ffK T l last dd = ffR (freeK T l last) dd) := rfl
  clear h hp
  generalize freeK T l last = R at *
  obtain ⟨ro, rz⟩ := R
  by_cases hz : rz = 0
  · subst hz
    cases dd with
    | true =>
      have HE : Hid (ffK T l last true = (ro, 21)) := by
        show _ = _
        rw [HQ.out]
        exact if_pos ⟨rfl, rfl⟩
      go_enter Try.func47, Try.ntmps47
      go_upto_region 1 with (fail)
      rw [← hw1]
      clear hw1
      go_wp2_with fail
      refine HFr.out.mono ?_
      rintro e w2 ⟨rfl, hb2⟩
      have HB2 := Lib.hid (HB1.out.trans (hb2.mono HB1.out.size))
      have c1 : w2.cell? ⟨w.heap.size, 1, none⟩ = some (.bool true) := (HX1.out.later hb2).cell 1
      clear hb2 c0 c2
      go_wp2_with fail
      go_ret2
      rw [HE.out]
      exact ⟨rfl, HB2.out⟩
    | false =>
      have HE : Hid (ffK T l last false = (ro, 0)) := by
        show _ = _
        rw [HQ.out]
        exact if_neg (fun q => by cases q.2)
      go_enter Try.func47, Try.ntmps47
      go_upto_region 1 with (fail)
      rw [← hw1]
      clear hw1
      go_wp2_with fail
      refine HFr.out.mono ?_
      rintro e w2 ⟨rfl, hb2⟩
      have HB2 := Lib.hid (HB1.out.trans (hb2.mono HB1.out.size))
      have c1 : w2.cell? ⟨w.heap.size, 1, none⟩ = some (.bool false) := (HX1.out.later hb2).cell 1
      clear hb2 c0 c2
      go_wp2_with fail
      go_ret2
      rw [HE.out]
      exact ⟨rfl, HB2.out⟩
  · have HE : Hid (ffK T l last dd = (ro, rz)) := by
      show _ = _
      rw [HQ.out]
      exact if_neg (fun q => hz q.1)
    have hzb : (rz == 0) = false := beq_eq_false_iff_ne.2 hz
    go_enter Try.func47, Try.ntmps47
    go_upto_region 1 with (fail)
    rw [← hw1]
    clear hw1
    go_wp2_with fail
    refine HFr.out.mono ?_
    rintro e w2 ⟨rfl, hb2⟩
    have HB2 := Lib.hid (HB1.out.trans (hb2.mono HB1.out.size))
    clear c1
    clear hb2 c0 c2
    go_wp2_with fail
    go_ret2
    rw [HE.out]
    exact ⟨rfl, HB2.out⟩
end
end Go.Proofs.Ytcjojcihjhhpgaa
/-
  Create.
-/
namespace Go.Proofs.Ytcjojcihjhhpgaa
open Go.RowKit

theorem chkL_mem {l : List ByteArray} (h : chkL l = 0) : ∀ x ∈ l, nmE x = 0 := by
  induction l with
  | nil => intro x hx; cases hx
  | cons a l ih =>
    have h1 : (if nmE a = 0 then chkL l else nmE a) = 0 := h
    by_cases e : nmE a = 0
    · rw [if_pos e] at h1
      intro x hx
      rcases List.mem_cons.1 hx with q | q
      · rw [q]; exact e
      · exact ih h1 x q
    · rw [if_neg e] at h1
      exact absurd h1 e
theorem spL_14 (s : ByteArray) : ∀ x ∈ spL s, x.size ≤ 14 := by
  unfold spL
  split
  · rename_i h
    intro x hx
    have hc : chkL (nml s) = 0 := by
      unfold spE at h
      split at h
      · exact absurd h (by decide)
      · split at h
        · exact absurd h (by decide)
        · exact h
    have := chkL_mem hc x hx
    by_cases q : 14 < x.size
    · rw [nmE_long q] at this; exact absurd this (by decide)
    · omega
  · intro x hx; cases hx
theorem wfS_14 {x : ByteArray} (h : x.size ≤ 14) : wfS x := by unfold wfS maxLen; omega
theorem plO_of {w : World} {s : ByteArray} {b o n c : Nat} (hn : n = (spL s).length) (h0 : 0 < n) (hc : n ≤ c) (hs : Strs w (some ⟨b, o, none⟩) (spL s)) : PlO w b o n c (spL s) (paN s) := by
  have h255 := spL_lenT s
  refine ⟨hn, h0, hc, by omega, hs, fun x hx => wfS_14 (spL_14 s x hx), wfS_14 (spL_14 s _ ?_)⟩
  unfold paN
  rw [List.getD_eq_getElem?_getD, List.getElem?_eq_getElem (by omega)]
  exact List.getElem_mem _
theorem free_ok {T : Tr} (hw : TrW T) (hr : T.live 2) {l : List ByteArray} {last : ByteArray} {ro : Option Nat} (h : freeK T l last = (ro, 0)) : ∃ d, ro = some d ∧ T.K d = 2 ∧ T.E d last = none := by
  unfold freeK at h
  rcases aboveK_cases hw hr l with ⟨z, q, q0⟩ | ⟨i, q⟩ | ⟨i, hi, hk, q⟩
  · rw [q] at h
    have h : (if z ≠ 0 then (none, z) else _) = (ro, (0 : Int)) := h
    rw [if_pos q0] at h
    exact absurd (congrArg Prod.snd h) q0
  · rw [q] at h
    exact absurd (show (20 : Int) = 0 from congrArg Prod.snd h) (by decide)
  · rw [q] at h
    have h : (if (T.E i last).isSome = true then (none, (17 : Int)) else (some i, 0)) = (ro, 0) := h
    cases he : T.E i last with
    | none =>
      rw [he] at h
      have h : (some i, (0 : Int)) = (ro, 0) := h
      exact ⟨i, (congrArg Prod.fst h).symm, hk, he⟩
    | some j =>
      rw [he] at h
      have h : ((none : Option Nat), (17 : Int)) = (ro, 0) := h
      exact absurd (show (17 : Int) = 0 from congrArg Prod.snd h) (by decide)
theorem ff_ok {T : Tr} (hw : TrW T) (hr : T.live 2) {l : List ByteArray} {last : ByteArray} {dd : Bool} {ro : Option Nat} (h : ffK T l last dd = (ro, 0)) : ∃ d, ro = some d ∧ T.K d = 2 ∧ T.E d last = none := by
  unfold ffK ffR at h
  split at h
  · exact absurd (show (21 : Int) = 0 from congrArg Prod.snd h) (by decide)
  · exact free_ok hw hr h
def mkR (T : Tr) (R : Option Nat × Int) (last : ByteArray) (k : Int) : Tr × Int × Int := if R.2 ≠ 0 then (T, 0, R.2) else match R.1 with | some d => enterK T d last k | none => (T, 0, 0)
def createK (T : Tr) (s : ByteArray) : Tr × Int × Int := if paE s ≠ 0 then (T, 0, paE s) else mkR T (ffK T (spL s) (paN s) (spD s)) (paN s) 1
section
variable {w : World} {cnt : Nat} {T : Tr} {p : Pl}
theorem opO_same (h : TrM w cnt T p) {w' : World} (hb : Below w.heap.size w w') (a z : Int) : OpO w cnt T p (T, a, z) (.returned (.tuple #[.int .i64 a, .int .i64 z])) w' := ⟨rfl, p, TrG.refl h hb (Nat.le_succ _)⟩
theorem OpO.before {w0 : World} {R : Tr × Int × Int} {e : Ending} {w' : World} (h : OpO w cnt T p R e w') (hb : Below w0.heap.size w0 w) : OpO w0 cnt T p R e w' := ⟨h.1, h.2.imp fun _ q => q.before hb⟩
set_option maxRecDepth 100000 in
set_option maxHeartbeats 4000000 in
theorem create_any (h : TrM w cnt T p) (hc : cnt < 1000000) (s : ByteArray) : Calls Try.prog 19 #[.pointer (some ⟨p.bt, 0, none⟩), .string s] w (OpO w cnt T p (createK T s)) := by
  have H := Lib.hid h
  have HC := Lib.hid hc
  have HPa := Lib.hid (tparent_any s w)
  have HQ : Hid (createK T s = if paE s ≠ 0 then (T, 0, paE s) else mkR T (ffK T (spL s) (paN s) (spD s)) (paN s) 1) := rfl
  clear h hc
  go_enter Try.func19, Try.ntmps19
  go_wp2_with fail
  refine HPa.out.mono ?_
  rintro e w1 (⟨hz, rfl, hb⟩ | ⟨hz, b, o, n, c, rfl, hn, h0, hnc, hs, hb⟩)
  · have HE : Hid (createK T s = (T, 0, paE s)) := HQ.out.trans (if_pos hz)
    have hzb : (paE s == 0) = false := beq_eq_false_iff_ne.2 hz
    have HB : Hid (∀ o, Below w.heap.size w (w1.alloc o)) := fun o => hb.alloc hb.size o
    clear hz HPa hb HQ
    go_wp2_with fail
    go_ret2
    rw [HE.out]
    exact opO_same H.out (HB.out _) _ _
  · have HZ : Hid (createK T s = mkR T (ffK T (spL s) (paN s) (spD s)) (paN s) 1) := HQ.out.trans (if_neg (fun q => q hz))
    have HPl := Lib.hid (plO_of hn h0 hnc hs)
    have HB1 := Lib.hid hb
    clear HPa hb hz HQ hn h0 hnc hs
    go_upto_region 2 with (fail)
    obtain ⟨w2, hw2⟩ : ∃ w2, w1.alloc (.cells #[.slice (some ⟨b, o, none⟩) n c, .bool (spD s), .string (paN s)] PLT) = w2 := ⟨_, rfl⟩
    rw [hw2]
    have hb2 : Below w1.heap.size w1 w2 := by rw [← hw2]; exact sup_pct w1 _
    have HX2 : Hid (Blo w2 w1.heap.size PLT #[.slice (some ⟨b, o, none⟩) n c, .bool (spD s), .string (paN s)]) := by rw [← hw2]; exact blo_laid w1 _ _
    have HB2 := Lib.hid (HB1.out.trans (hb2.mono HB1.out.size))
    have HP2 := Lib.hid (HPl.out.later hb2)
    have HFf := Lib.hid (freeFile_any (dd := spD s) (H.out.later HB2.out) HP2.out)
    have HOk : Hid (∀ ro, ffK T (spL s) (paN s) (spD s) = (ro, 0) → ∃ d, ro = some d ∧ T.K d = 2 ∧ T.E d (paN s) = none) := fun ro q => ff_ok H.out.wf H.out.root q
    have c0 : w2.cell? ⟨w1.heap.size, 0, none⟩ = some (.slice (some ⟨b, o, none⟩) n c) := HX2.out.cell 0
    have c1 : w2.cell? ⟨w1.heap.size, 1, none⟩ = some (.bool (spD s)) := HX2.out.cell 1
    have c2 : w2.cell? ⟨w1.heap.size, 2, none⟩ = some (.string (paN s)) := HX2.out.cell 2
    clear hw2 hb2 HB1
    generalize w1.heap.size = gp at *
    generalize ffK T (spL s) (paN s) (spD s) = R at *
    obtain ⟨ro, rz⟩ := R
    by_cases hz : rz = 0
    · subst hz
      obtain ⟨d, rfl, hk, he⟩ := HOk.out ro rfl
      have HE : Hid (createK T s = enterK T d (paN s) 1) := HZ.out
      have HKd := Lib.hid hk
      clear hk he HOk
      go_wp2_with fail
      refine HFf.out.mono ?_
      rintro e w3 ⟨rfl, hb3⟩
      have HB3 := Lib.hid (HB2.out.trans (hb3.mono HB2.out.size))
      have c2 : w3.cell? ⟨gp, 2, none⟩ = some (.string (paN s)) := (HX2.out.later hb3).cell 2
      have HEn := Lib.hid (enter_any (k := 1) (H.out.later HB3.out) (.inl rfl) HKd.out HP2.out.wl HC.out)
      clear hb3 c0 c1 HFf
      go_wp2_with fail
      refine HEn.out.mono ?_
      intro e w4 hO
      rw [← HE.out] at hO
      obtain ⟨re, hO2⟩ := hO.before HB3.out
      subst re
      have HO2 := Lib.hid hO2
      clear hO hO2 c2
      go_wp2_with fail
      go_ret2
      exact ⟨rfl, HO2.out⟩
    · have HE : Hid (createK T s = (T, 0, rz)) := HZ.out.trans (if_pos hz)
      have hzb : (rz == 0) = false := beq_eq_false_iff_ne.2 hz
      clear hz HOk
      go_wp2_with fail
      refine HFf.out.mono ?_
      rintro e w3 ⟨rfl, hb3⟩
      have HB3 := Lib.hid (HB2.out.trans (hb3.mono HB2.out.size))
      clear hb3 c0 c1 c2
      go_wp2_with fail
      go_ret2
      rw [HE.out]
      exact opO_same H.out HB3.out _ _
end
end Go.Proofs.Ytcjojcihjhhpgaa
/-
  Mkdir.
-/
namespace Go.Proofs.Ytcjojcihjhhpgaa
open Go.RowKit

def szN (l : List ByteArray) : Nat := (l.map fun x => 1 + x.size).sum
theorem szN_take {l : List ByteArray} {i : Nat} {x : ByteArray} (h : l[i]? = some x) : szN (l.take (i + 1)) = szN (l.take i) + (1 + x.size) := by
  unfold szN
  rw [List.take_add_one, h, List.map_append, List.sum_append]
  simp
theorem szN_le {l : List ByteArray} (h : ∀ x ∈ l, x.size ≤ 14) : szN l ≤ l.length * 15 := by
  induction l with
  | nil => exact Nat.le_refl _
  | cons a l ih =>
    have h1 : szN (a :: l) = 1 + a.size + szN l := by simp [szN]
    have h2 := ih (fun x hx => h x (List.mem_cons_of_mem _ hx))
    have h3 := h a (List.mem_cons_self)
    rw [h1, List.length_cons]
    omega
def SzR (w : World) (l : List ByteArray) (H : Nat) (a : Option Addr) (n c : Nat) (d : Bool) (v t : Value) (wr : World) : Prop :=
  ∃ i : Nat, i ≤ n ∧ t = .int .i64 (i : Int) ∧ v = .int .i64 (szN (l.take i) : Nat) ∧ wr = w
section
variable {w : World} {cnt : Nat} {T : Tr} {p : Pl}
set_option maxRecDepth 100000 in
set_option maxHeartbeats 4000000 in
theorem tsize_any {a : Option Addr} {n c : Nat} {l : List ByteArray} {d : Bool} (w : World) (hn : n = l.length) (hn9 : n ≤ 1000) (hs : Strs w a l) (h14 : ∀ x ∈ l, x.size ≤ 14) :
    Calls Try.prog 45 #[.agg #[.slice a n c, .bool d]] w fun e w' => e = .returned (.int .i64 (szN l : Nat)) ∧ Below w.heap.size w w' := by
  obtain ⟨w1, hw1⟩ : ∃ w1, w1 = w.alloc (.cells #[.slice a n c, .bool d] PTT) := ⟨_, rfl⟩
  have HX1 : Hid (Blo w1 w.heap.size PTT #[.slice a n c, .bool d]) := by rw [hw1]; exact blo_laid w _ _
  have HB1 : Hid (Below w.heap.size w w1) := by rw [hw1]; exact sup_pct w _
  have HN := Lib.hid hn
  have HS := Lib.hid (hs.below HB1.out)
  have H14 := Lib.hid h14
  have c0 : w1.cell? ⟨w.heap.size, 0, none⟩ = some (.slice a n c) := HX1.out.cell 0
  have HSt : Hid (SzR w1 l w.heap.size a n c d (.int .i64 0) (.int .i64 0) w1) := ⟨0, Nat.zero_le _, rfl, rfl, rfl⟩
  clear hn hs h14
  go_enter Try.func45, Try.ntmps45
  go_upto_region 1 with (fail)
  rw [← hw1]
  clear hw1
  go_wp2_with fail
  clear c0
  go_loopw [3, 9] (fun v t wr => SzR w1 l w.heap.size a n c d v t wr) (fun _ t _ => n - (intOf t).toNat)
  case atStart => exact HSt.out
  case round =>
    clear HSt
    obtain ⟨i, hi, rfl, rfl, rfl⟩ := hrel
    have i0 : (0 : Int) ≤ (i : Int) := by omega
    by_cases hin : i < n
    · have i1 : (i : Int) < (n : Int) := by omega
      have hil : i < l.length := by rw [← HN.out]; exact hin
      obtain ⟨b, o, rfl, hcell⟩ := HS.out (fun q => by rw [q] at hil; simp at hil)
      have x0 := hcell i hil
      obtain ⟨s, hs⟩ : ∃ s, l.getD i ⟨#[]⟩ = s := ⟨_, rfl⟩
      rw [hs] at x0
      have hsi : l[i]? = some s := by rw [← hs, List.getD_eq_getElem?_getD, List.getElem?_eq_getElem hil]; rfl
      have h5 := szN_take hsi
      have h6 : szN (l.take i) ≤ i * 15 := by
        have := szN_le (l := l.take i) (fun x hx => H14.out x (List.mem_of_mem_take hx))
        rw [List.length_take] at this
        omega
      have h7 := H14.out s (List.mem_of_getElem? hsi)
      have e1 : IntKind.i64.wrap (1 + (s.size : Int)) = 1 + (s.size : Int) := IntWalk.i64_in _ (by omega)
      have e2 : IntKind.i64.wrap ((szN (l.take i) : Int) + (1 + (s.size : Int))) = ((szN (l.take (i + 1)) : Nat) : Int) := by
        rw [h5, IntWalk.i64_in _ (by omega)]
        omega
      have HM := Lib.hid hin
      clear hcell hs hsi hil hin h5 h6 h7
      generalize szN (l.take i) = q at *
      go_wp2_with fail
      go_roundw
      case rel => exact ⟨i + 1, HM.out, rfl, rfl, rfl⟩
      case measure => have := HM.out; simp [intOf]; omega
    · have i1 : ¬ (i : Int) < (n : Int) := by omega
      have HE : Hid (l.take i = l) := List.take_of_length_le (by have := HN.out; omega)
      clear hin
      rw [HE.out]
      go_wp2_with fail
      go_ret
      exact ⟨rfl, HB1.out⟩
def mdR (T : Tr) (R : Option Nat × Int) (l : List ByteArray) (last : ByteArray) : Tr × Int × Int := if R.2 ≠ 0 then (T, 0, R.2) else match R.1 with | some d => if 255 < szN l + 1 then (T, 0, 36) else enterK T d last 2 | none => (T, 0, 0)
def mkdirK (T : Tr) (s : ByteArray) : Tr × Int × Int := if paE s ≠ 0 then (T, 0, paE s) else mdR T (freeK T (spL s) (paN s)) (spL s) (paN s)
set_option maxRecDepth 100000 in
set_option maxHeartbeats 4000000 in
theorem mkdir_any (h : TrM w cnt T p) (hc : cnt < 1000000) (s : ByteArray) : Calls Try.prog 28 #[.pointer (some ⟨p.bt, 0, none⟩), .string s] w (OpO w cnt T p (mkdirK T s)) := by
  have H := Lib.hid h
  have HC := Lib.hid hc
  have HPa := Lib.hid (tparent_any s w)
  have HQ : Hid (mkdirK T s = if paE s ≠ 0 then (T, 0, paE s) else mdR T (freeK T (spL s) (paN s)) (spL s) (paN s)) := rfl
  clear h hc
  go_enter Try.func28, Try.ntmps28
  go_wp2_with fail
  refine HPa.out.mono ?_
  rintro e w1 (⟨hz, rfl, hb⟩ | ⟨hz, b, o, n, c, rfl, hn, h0, hnc, hs, hb⟩)
  · have HE : Hid (mkdirK T s = (T, 0, paE s)) := HQ.out.trans (if_pos hz)
    have hzb : (paE s == 0) = false := beq_eq_false_iff_ne.2 hz
    have HB : Hid (∀ o, Below w.heap.size w (w1.alloc o)) := fun o => hb.alloc hb.size o
    clear hz HPa hb HQ
    go_wp2_with fail
    go_ret2
    rw [HE.out]
    exact opO_same H.out (HB.out _) _ _
  · have HZ : Hid (mkdirK T s = mdR T (freeK T (spL s) (paN s)) (spL s) (paN s)) := HQ.out.trans (if_neg (fun q => q hz))
    have HPl := Lib.hid (plO_of hn h0 hnc hs)
    have HB1 := Lib.hid hb
    clear HPa hb hz HQ hn h0 hnc hs
    go_upto_region 2 with (fail)
    obtain ⟨w2, hw2⟩ : ∃ w2, w1.alloc (.cells #[.slice (some ⟨b, o, none⟩) n c, .bool (spD s), .string (paN s)] PLT) = w2 := ⟨_, rfl⟩
    rw [hw2]
    have hb2 : Below w1.heap.size w1 w2 := by rw [← hw2]; exact sup_pct w1 _
    have HX2 : Hid (Blo w2 w1.heap.size PLT #[.slice (some ⟨b, o, none⟩) n c, .bool (spD s), .string (paN s)]) := by rw [← hw2]; exact blo_laid w1 _ _
    have HB2 := Lib.hid (HB1.out.trans (hb2.mono HB1.out.size))
    have HP2 := Lib.hid (HPl.out.later hb2)
    have HFf := Lib.hid (free_any (d := spD s) (H.out.later HB2.out) HP2.out)
    have HOk : Hid (∀ ro, freeK T (spL s) (paN s) = (ro, 0) → ∃ d, ro = some d ∧ T.K d = 2 ∧ T.E d (paN s) = none) := fun ro q => free_ok H.out.wf H.out.root q
    have c0 : w2.cell? ⟨w1.heap.size, 0, none⟩ = some (.slice (some ⟨b, o, none⟩) n c) := HX2.out.cell 0
    have c1 : w2.cell? ⟨w1.heap.size, 1, none⟩ = some (.bool (spD s)) := HX2.out.cell 1
    have c2 : w2.cell? ⟨w1.heap.size, 2, none⟩ = some (.string (paN s)) := HX2.out.cell 2
    clear hw2 hb2 HB1
    generalize w1.heap.size = gp at *
    generalize freeK T (spL s) (paN s) = R at *
    obtain ⟨ro, rz⟩ := R
    by_cases hz : rz = 0
    · subst hz
      obtain ⟨d, rfl, hk, he⟩ := HOk.out ro rfl
      have HZ2 : Hid (mkdirK T s = if 255 < szN (spL s) + 1 then (T, 0, 36) else enterK T d (paN s) 2) := HZ.out
      have HKd := Lib.hid hk
      have hz9 : szN (spL s) ≤ 255 * 15 := by
        have h1 := szN_le (spL_14 s)
        have h2 := spL_lenT s
        omega
      clear hk he HOk
      go_wp2_with fail
      refine HFf.out.mono ?_
      rintro e w3 ⟨rfl, hb3⟩
      have HB3 := Lib.hid (HB2.out.trans (hb3.mono HB2.out.size))
      have c0 : w3.cell? ⟨gp, 0, none⟩ = some (.slice (some ⟨b, o, none⟩) n c) := (HX2.out.later hb3).cell 0
      have c1 : w3.cell? ⟨gp, 1, none⟩ = some (.bool (spD s)) := (HX2.out.later hb3).cell 1
      have HSz := Lib.hid (tsize_any (c := c) (d := spD s) w3 HP2.out.len HP2.out.n9 (HP2.out.strs.below hb3) (spL_14 s))
      have HX3 := Lib.hid (HX2.out.later hb3)
      clear hb3 HFf
      generalize szN (spL s) = q at *
      have e1 : IntKind.i64.wrap ((q : Int) + 1) = (q : Int) + 1 := IntWalk.i64_in _ (by omega)
      go_wp2_with fail
      refine HSz.out.mono ?_
      rintro e w4 ⟨rfl, hb4⟩
      have HB4 := Lib.hid (HB3.out.trans (hb4.mono HB3.out.size))
      have c2 : w4.cell? ⟨gp, 2, none⟩ = some (.string (paN s)) := (HX3.out.later hb4).cell 2
      clear hb4 c0 c1 HSz
      by_cases hq : 255 < q + 1
      · have HE : Hid (mkdirK T s = (T, 0, 36)) := HZ2.out.trans (if_pos hq)
        have hq2 : (q : Int) + 1 > 255 := by omega
        clear hq
        go_wp2_with fail
        go_ret2
        rw [HE.out]
        exact opO_same H.out HB4.out _ _
      · have HE : Hid (mkdirK T s = enterK T d (paN s) 2) := HZ2.out.trans (if_neg hq)
        have hq2 : ¬ (q : Int) + 1 > 255 := by omega
        have HEn := Lib.hid (enter_any (k := 2) (H.out.later HB4.out) (.inr rfl) HKd.out HP2.out.wl HC.out)
        clear hq
        go_wp2_with fail
        refine HEn.out.mono ?_
        intro e w5 hO
        rw [← HE.out] at hO
        obtain ⟨re, hO2⟩ := hO.before HB4.out
        subst re
        have HO2 := Lib.hid hO2
        clear hO hO2 c2
        go_wp2_with fail
        go_ret2
        exact ⟨rfl, HO2.out⟩
    · have HE : Hid (mkdirK T s = (T, 0, rz)) := HZ.out.trans (if_pos hz)
      have hzb : (rz == 0) = false := beq_eq_false_iff_ne.2 hz
      clear hz HOk
      go_wp2_with fail
      refine HFf.out.mono ?_
      rintro e w3 ⟨rfl, hb3⟩
      have HB3 := Lib.hid (HB2.out.trans (hb3.mono HB2.out.size))
      clear hb3 c0 c1 c2
      go_wp2_with fail
      go_ret2
      rw [HE.out]
      exact opO_same H.out HB3.out _ _
end
end Go.Proofs.Ytcjojcihjhhpgaa
