/-
  TrUnl · TrLink · TrNew · TrAt · TrStat: these texts in one.
-/
import Derived.Test.YtcjojcihjhhpgaaPk06
import Derived.Laws.MakeOwn
import Derived.OwnWalk
/-
  Unlink and Rmdir.
-/
namespace Go.Proofs.Ytcjojcihjhhpgaa
open Go.RowKit

def unlinkK (T : Tr) (s : ByteArray) : Tr × Int := removeK T s (wrFile T)
noncomputable def rmdirK (T : Tr) (s : ByteArray) : Tr × Int := removeK T s (wrEmpty T)
section
variable {w : World} {cnt : Nat} {T : Tr} {p : Pl}
set_option maxRecDepth 100000 in
theorem unlink_any (h : TrM w cnt T p) (hu : TrU T) (s : ByteArray) : Calls Try.prog 24 #[.pointer (some ⟨p.bt, 0, none⟩), .string s] w (OpE w cnt T p (unlinkK T s)) := by
  have HR := Lib.hid (remove_file h hu (wr := wrFile T) (fun _ _ W i hW hi => file_any hW hi) s)
  clear h hu
  go_enter Try.func24, Try.ntmps24
  go_wp2_with fail
  refine HR.out.mono ?_
  rintro e w1 ⟨rfl, hg⟩
  have HG := Lib.hid hg
  clear hg
  go_wp2_with fail
  go_ret
  exact ⟨rfl, HG.out⟩
set_option maxRecDepth 100000 in
theorem rmdir_any (h : TrM w cnt T p) (hu : TrU T) (s : ByteArray) : Calls Try.prog 29 #[.pointer (some ⟨p.bt, 0, none⟩), .string s] w (OpE w cnt T p (rmdirK T s)) := by
  have HR := Lib.hid (remove_empty h hu (wr := wrEmpty T) (fun _ _ W i hW hi => empty_any hW hi) s)
  clear h hu
  go_enter Try.func29, Try.ntmps29
  go_wp2_with fail
  refine HR.out.mono ?_
  rintro e w1 ⟨rfl, hg⟩
  have HG := Lib.hid hg
  clear hg
  go_wp2_with fail
  go_ret
  exact ⟨rfl, HG.out⟩
end
end Go.Proofs.Ytcjojcihjhhpgaa
/-
  Link.
-/
namespace Go.Proofs.Ytcjojcihjhhpgaa
open Go.RowKit

def lkR2 (T : Tr) (s : ByteArray) (f : Nat) (R : Option Nat × Int) : Tr × Int := if R.2 ≠ 0 then (T, R.2) else match R.1 with | some d => if T.Lk f = 100 then (T, 31) else ((T.ent d (paN s) (some f)).lks f (T.Lk f + 1), 0) | none => (T, 0)
def lkR1 (T : Tr) (s : ByteArray) (R : Option Nat × Int) : Tr × Int := if R.2 ≠ 0 then (T, R.2) else match R.1 with | some f => lkR2 T s f (ffK T (spL s) (paN s) (spD s)) | none => (T, 0)
def linkK (T : Tr) (old s : ByteArray) : Tr × Int := if spE old ≠ 0 then (T, spE old) else if paE s ≠ 0 then (T, paE s) else lkR1 T s (findK T (spL old) (spD old) (wrLink T))
theorem findK_ok {T : Tr} (hw : TrW T) {l : List ByteArray} {dir : Bool} {wr : Nat → Int} {ro : Option Nat} (h : findK T l dir wr = (ro, 0)) : ∃ i, ro = some i ∧ T.live i ∧ wr i = 0 := by
  cases ro with
  | none => exact absurd rfl (findK_none2 h)
  | some i =>
    obtain ⟨R, hR⟩ : ∃ R, leadK T 2 l = R := ⟨_, rfl⟩
    have hl := leadK_live hw l 2 (by unfold Tr.live; rw [hw.root]; decide)
    rw [hR] at hl
    obtain ⟨ro, rz⟩ := R
    cases ro with
    | none => rw [findK_none hR] at h; cases h
    | some j =>
      rw [findK_some hR] at h
      have e : j = i := by have := congrArg Prod.fst h; exact Option.some.inj this
      have e2 : orE dir (T.K j) (wr j) = 0 := congrArg Prod.snd h
      subst e
      refine ⟨j, rfl, (hl j rfl).1, ?_⟩
      unfold orE at e2
      split at e2
      · exact absurd e2 (by decide)
      · exact e2
theorem ffK_ok {T : Tr} (hw : TrW T) (hr : T.live 2) {l : List ByteArray} {last : ByteArray} {dd : Bool} {ro : Option Nat} (h : ffK T l last dd = (ro, 0)) : ∃ d, ro = some d ∧ T.K d = 2 ∧ T.E d last = none := by
  unfold ffK ffR at h
  split at h
  · exact absurd (show (21 : Int) = 0 from congrArg Prod.snd h) (by decide)
  · exact free_ok hw hr h
section
variable {w : World} {cnt : Nat} {T : Tr} {p : Pl}
set_option maxRecDepth 100000 in
set_option maxHeartbeats 4000000 in
theorem link_any (h : TrM w cnt T p) (hc : cnt < 1000000) (old s : ByteArray) : Calls Try.prog 23 #[.pointer (some ⟨p.bt, 0, none⟩), .string old, .string s] w (OpE w cnt T p (linkK T old s)) := by
  have H := Lib.hid h
  have HC := Lib.hid hc
  have HSp := Lib.hid (tsplit_any old w)
  have HQ : Hid (linkK T old s = if spE old ≠ 0 then (T, spE old) else if paE s ≠ 0 then (T, paE s) else lkR1 T s (findK T (spL old) (spD old) (wrLink T))) := rfl
  have HLo : Hid ((∀ x ∈ spL old, wfS x) ∧ (spL old).length ≤ 1000) := ⟨fun x hx => wfS_14 (spL_14 old x hx), by have := spL_lenT old; omega⟩
  clear h hc
  go_enter Try.func23, Try.ntmps23
  go_wp2_with fail
  refine HSp.out.mono ?_
  rintro e w1 ⟨a, n, c, rfl, hn, hnc, hs, ha, hb⟩
  by_cases hz : spE old = 0
  · rw [hz]
    have HQ2 : Hid (linkK T old s = if paE s ≠ 0 then (T, paE s) else lkR1 T s (findK T (spL old) (spD old) (wrLink T))) := HQ.out.trans (if_neg (fun q => q hz))
    have HB1 := Lib.hid hb
    have HS1 := Lib.hid hs
    have HN := Lib.hid hn
    clear hz HQ hb hs hn hnc ha HSp
    generalize spL old = lo at *
    generalize spD old = dd at *
    go_upto_region 2 with (fail)
    obtain ⟨w2, hw2⟩ : ∃ w2, w1.alloc (.cells #[.slice a n c, .bool dd] PTT) = w2 := ⟨_, rfl⟩
    rw [hw2]
    have hb2 : Below w1.heap.size w1 w2 := by rw [← hw2]; exact sup_pct w1 _
    have HX2 : Hid (Blo w2 w1.heap.size PTT #[.slice a n c, .bool dd]) := by rw [← hw2]; exact blo_laid w1 _ _
    have HB2 := Lib.hid (HB1.out.trans (hb2.mono HB1.out.size))
    have HS2 := Lib.hid (HS1.out.below hb2)
    have HPa := Lib.hid (tparent_any s w2)
    clear hw2 hb2 HB1 HS1
    generalize w1.heap.size = ga at *
    go_wp2_with fail
    refine HPa.out.mono ?_
    rintro e w3 (⟨hz, rfl, hb⟩ | ⟨hz, b, o, m, k, rfl, hm, h0, hmk, hs, hb⟩)
    · have HE : Hid (linkK T old s = (T, paE s)) := HQ2.out.trans (if_pos hz)
      have hzb : (paE s == 0) = false := beq_eq_false_iff_ne.2 hz
      have HB : Hid (∀ o, Below w.heap.size w (w3.alloc o)) := fun o => by
        have h3 := HB2.out.trans (hb.mono HB2.out.size)
        exact h3.alloc h3.size o
      clear hz HPa hb HQ2
      go_wp2_with fail
      go_ret
      rw [HE.out]
      exact opE_same H.out (HB.out _) _
    · have HZ : Hid (linkK T old s = lkR1 T s (findK T lo dd (wrLink T))) := HQ2.out.trans (if_neg (fun q => q hz))
      have HPl := Lib.hid (plO_of hm h0 hmk hs)
      have HB3 := Lib.hid (HB2.out.trans (hb.mono HB2.out.size))
      have HX3 := Lib.hid (HX2.out.later hb)
      have HS3 := Lib.hid (HS2.out.below hb)
      clear HPa hb hz HQ2 hm h0 hmk hs HX2 HS2
      go_upto_region 5 with (fail)
      obtain ⟨w4, hw4⟩ : ∃ w4, w3.alloc (.cells #[.slice (some ⟨b, o, none⟩) m k, .bool (spD s), .string (paN s)] PLT) = w4 := ⟨_, rfl⟩
      rw [hw4]
      have hb4 : Below w3.heap.size w3 w4 := by rw [← hw4]; exact sup_pct w3 _
      have HX4 : Hid (Blo w4 w3.heap.size PLT #[.slice (some ⟨b, o, none⟩) m k, .bool (spD s), .string (paN s)]) := by rw [← hw4]; exact blo_laid w3 _ _
      have HB4 := Lib.hid (HB3.out.trans (hb4.mono HB3.out.size))
      have HP4 := Lib.hid (HPl.out.later hb4)
      have HFi := Lib.hid (find_link (dir := dd) (c := c) (H.out.later HB4.out) (wr := wrLink T) (fun W i hW hi => linkable_any hW hi) HN.out (by rw [HN.out]; exact HLo.out.2) (HS3.out.below hb4) HLo.out.1)
      have HOk : Hid (∀ ro, findK T lo dd (wrLink T) = (ro, 0) → ∃ i, ro = some i ∧ T.live i ∧ wrLink T i = 0) := fun ro q => findK_ok H.out.wf q
      have c0 : w4.cell? ⟨ga, 0, none⟩ = some (.slice a n c) := (HX3.out.later hb4).cell 0
      have c1 : w4.cell? ⟨ga, 1, none⟩ = some (.bool dd) := (HX3.out.later hb4).cell 1
      clear hw4 hb4 HB3 HPl HX3 HS3
      generalize w3.heap.size = gp at *
      generalize findK T lo dd (wrLink T) = R at *
      obtain ⟨ro, rz⟩ := R
      by_cases hz : rz = 0
      · subst hz
        obtain ⟨f, rfl, hlf, hwf⟩ := HOk.out ro rfl
        have HZ2 : Hid (linkK T old s = lkR2 T s f (ffK T (spL s) (paN s) (spD s))) := HZ.out
        have HF2 : Hid (f ≠ 2) := fun e => by
          rw [e] at hwf
          unfold wrLink at hwf
          rw [if_pos H.out.wf.root] at hwf
          exact absurd hwf (by decide)
        have HLf := Lib.hid hlf
        have HFi : Hid (Calls Try.prog 40 #[.pointer (some ⟨p.bt, 0, none⟩), .agg #[.slice a n c, .bool dd], .func (.func 51) #[] #[]] w4 fun e w' => e = .returned (.tuple #[.pointer (some ⟨p.B f, 0, none⟩), .int .i64 0]) ∧ Below w4.heap.size w4 w') := HFi.out
        clear HOk hlf hwf HZ
        go_wp2_with fail
        refine HFi.out.mono ?_
        rintro e w5 ⟨rfl, hb5⟩
        have HB5 := Lib.hid (HB4.out.trans (hb5.mono HB4.out.size))
        have d0 : w5.cell? ⟨gp, 0, none⟩ = some (.slice (some ⟨b, o, none⟩) m k) := (HX4.out.later hb5).cell 0
        have d1 : w5.cell? ⟨gp, 1, none⟩ = some (.bool (spD s)) := (HX4.out.later hb5).cell 1
        have d2 : w5.cell? ⟨gp, 2, none⟩ = some (.string (paN s)) := (HX4.out.later hb5).cell 2
        have HX5 := Lib.hid (HX4.out.later hb5)
        have HFf := Lib.hid (freeFile_any (dd := spD s) (H.out.later HB5.out) (HP4.out.later hb5))
        have HOk : Hid (∀ ro, ffK T (spL s) (paN s) (spD s) = (ro, 0) → ∃ d, ro = some d ∧ T.K d = 2 ∧ T.E d (paN s) = none) := fun ro q => ffK_ok H.out.wf H.out.root q
        clear hb5 HFi c0 c1
        generalize ffK T (spL s) (paN s) (spD s) = R at *
        obtain ⟨ro, rz⟩ := R
        by_cases hz : rz = 0
        · subst hz
          obtain ⟨d, rfl, hk, he⟩ := HOk.out ro rfl
          have HZ3 : Hid (linkK T old s = if T.Lk f = 100 then (T, 31) else ((T.ent d (paN s) (some f)).lks f (T.Lk f + 1), 0)) := HZ2.out
          have HKd := Lib.hid hk
          have HFf : Hid (Calls Try.prog 47 #[.pointer (some ⟨p.bt, 0, none⟩), .agg #[.slice (some ⟨b, o, none⟩) m k, .bool (spD s), .string (paN s)]] w5 fun e w' => e = .returned (.tuple #[.pointer (some ⟨p.B d, 0, none⟩), .int .i64 0]) ∧ Below w5.heap.size w5 w') := HFf.out
          clear HOk hk he HZ2
          go_wp2_with fail
          refine HFf.out.mono ?_
          rintro e w6 ⟨rfl, hb6⟩
          have HB6 := Lib.hid (HB5.out.trans (hb6.mono HB5.out.size))
          have H6 := Lib.hid (H.out.later HB6.out)
          have d2 : w6.cell? ⟨gp, 2, none⟩ = some (.string (paN s)) := (HX5.out.later hb6).cell 2
          clear hb6 d0 d1
          obtain ⟨-, -, f2, -, -⟩ := H6.out.cells HLf.out
          have hlk := H.out.wf.lk f HLf.out
          by_cases hq : T.Lk f = 100
          · have HE : Hid (linkK T old s = (T, 31)) := HZ3.out.trans (if_pos hq)
            rw [hq] at f2
            clear hq
            go_wp2_with fail
            go_ret
            rw [HE.out]
            exact opE_same H.out HB6.out _
          · have HE : Hid (linkK T old s = ((T.ent d (paN s) (some f)).lks f (T.Lk f + 1), 0)) := HZ3.out.trans (if_neg hq)
            have hqb : (T.Lk f == 100) = false := beq_eq_false_iff_ne.2 hq
            have hld : T.live d := by unfold Tr.live; rw [HKd.out]; decide
            obtain ⟨-, -, -, g3, -⟩ := H6.out.cells hld
            rw [if_pos HKd.out] at g3
            have hr6 : Below w6.heap.size w6 w6.drew := (Below.refl _ _).drew
            obtain ⟨w7, hrun, hg7⟩ := (H6.out.later hr6).ent HKd.out HLf.out HF2.out HP4.out.wl HC.out
            have hlf7 : (T.ent d (paN s) (some f)).live f := HLf.out
            have f2a := (hg7.m.cells hlf7).2.2.1
            have f2c := (hg7.m.node f hlf7).frozen 2
            have hg8 := hg7.m.lks (i := f) (z := T.Lk f + 1) hlf7 (by omega) (by omega)
            have HG := Lib.hid ((hg7.trans hg8).before (HB6.out.drew))
            have f2b : w7.cell? ⟨p.B f, 2, none⟩ = some (.int .i64 (T.Lk f)) := f2a
            clear f2a
            have e1 : IntKind.i64.wrap (T.Lk f + 1) = T.Lk f + 1 := IntWalk.i64_in _ (by omega)
            clear hq hg7 hg8 hlf7 hld hr6 hlk
            generalize T.Lk f = z at *
            generalize p.MB d = md at *
            go_upto_region 15 with (fail)
            go_region
            go_wp2_with fail
            go_ret
            rw [HE.out]
            exact ⟨rfl, p, HG.out⟩
        · have HE : Hid (linkK T old s = (T, rz)) := HZ2.out.trans (if_pos hz)
          have hzb : (rz == 0) = false := beq_eq_false_iff_ne.2 hz
          clear hz HOk
          go_wp2_with fail
          refine HFf.out.mono ?_
          rintro e w6 ⟨rfl, hb6⟩
          have HB6 := Lib.hid (HB5.out.trans (hb6.mono HB5.out.size))
          clear hb6 d0 d1 d2
          go_wp2_with fail
          go_ret
          rw [HE.out]
          exact opE_same H.out HB6.out _
      · have HE : Hid (linkK T old s = (T, rz)) := HZ.out.trans (if_pos hz)
        have hzb : (rz == 0) = false := beq_eq_false_iff_ne.2 hz
        clear hz HOk
        go_wp2_with fail
        refine HFi.out.mono ?_
        rintro e w5 ⟨rfl, hb5⟩
        have HB5 := Lib.hid (HB4.out.trans (hb5.mono HB4.out.size))
        clear hb5 c0 c1
        go_wp2_with fail
        go_ret
        rw [HE.out]
        exact opE_same H.out HB5.out _
  · have HE : Hid (linkK T old s = (T, spE old)) := HQ.out.trans (if_pos hz)
    have hzb : (spE old == 0) = false := beq_eq_false_iff_ne.2 hz
    have HB : Hid (∀ o, Below w.heap.size w (w1.alloc o)) := fun o => hb.alloc hb.size o
    clear hz hb HQ hs hn hnc ha HSp
    go_wp2_with fail
    go_ret
    rw [HE.out]
    exact opE_same H.out (HB.out _) _
end
end Go.Proofs.Ytcjojcihjhhpgaa
/-
  New: a tree of a root.
-/
namespace Go.Proofs.Ytcjojcihjhhpgaa
open Go.RowKit

set_option maxHeartbeats 400000 in
theorem run_nodes (w : World) (n : Nat) (hn : n ≤ 1000000) :
    (Instr.makeSlice 66 (.int .i64 (n : Int)) (.int .i64 (n : Int))).run Try.prog w = .ok (.slice (some ⟨w.heap.size, 0, none⟩) n n) (w.alloc (.cells (List.replicate n (.pointer none)).toArray PNT)) := by
  have h0 : (Try.prog.info? PNT).map (fun i => (i.zero, i.size, i.bytes)) = some (some (.pointer none), 1, 8) := by kernel_rfl
  obtain ⟨i, hi0, hz, hs1, hb1⟩ := info_parts h0
  have hr := run_make (P := Try.prog) w 66 PNT i (.pointer none) Try.underlying66 hi0 hz .i64 .i64 n n (by omega) (Int.le_refl _) (by rw [hb1]; omega) (by omega)
  simp only [Int.toNat_natCast] at hr
  have e : madeCells (Value.pointer none).cells (n * 1) = (List.replicate n (Value.pointer none)).toArray := by
    apply Array.toList_inj.1
    apply List.ext_getElem (by simp [madeCells])
    intro j h1 h2
    simp [madeCells, Value.cells, Nat.mod_one]
  rw [hr, hs1, e]
def tree0 (n : Nat) : Tr := { n := n, K := updN (fun _ => 0) 2 2, Lk := updN (fun _ => 0) 2 1, E := fun _ _ => none, D := fun _ => [] }
def pl0 (bt bn b m : Nat) : Pl := { bt := bt, bn := bn, B := fun _ => b, MB := fun _ => m, DV := fun _ => .slice none 0 0 }
theorem tree0_live {n i : Nat} (h : (tree0 n).live i) : i = 2 := by
  by_cases e : i = 2
  · exact e
  · exact absurd (updN_ne (fun _ => (0 : Int)) 2 e) h
theorem tree0_wf {n : Nat} (h1 : 4 ≤ n) (h2 : n ≤ 200) : TrW (tree0 n) := by
  refine ⟨h1, h2, rfl, fun i => ?_, fun i hi => ?_, fun i s j h => ?_, fun i hi => ?_, fun i => ?_, fun i y hy => ?_⟩
  · by_cases e : i = 2
    · rw [e]; exact .inr (.inr rfl)
    · exact .inl (updN_ne (fun _ => (0 : Int)) 2 e)
  · rw [tree0_live hi]; exact ⟨Nat.le_refl _, by show 2 ≤ n; omega⟩
  · cases h
  · rw [tree0_live hi]; exact ⟨(by decide : (1 : Int) ≤ 1), (by decide : (1 : Int) ≤ 100)⟩
  · show (0 : Nat) ≤ _; omega
  · cases hy
def FnO (w : World) (bt bn n : Nat) (e : Ending) (w' : World) : Prop :=
  ∃ b m, e = .returned (.tuple #[.pointer (some ⟨b, 0, none⟩), .int .i64 0]) ∧ Out (fun g => g = bn) w w' ∧ Blo w' bt TTY #[.slice (some ⟨bn, 0, none⟩) (n + 1) (n + 1), .pointer none] ∧ Blo w' bn PNT ((List.replicate (n + 1) (Value.pointer none)).set 2 (.pointer (some ⟨b, 0, none⟩))).toArray ∧
    Blo w' b NT #[.int .i64 2, .int .i64 2, .int .i64 1, .map (some m), .slice none 0 0] ∧ SM w' m 0 (fun _ => none) [] ∧ w.heap.size ≤ b ∧ w.heap.size ≤ m
def FnR (w : World) (v : Value) (wr : World) : Prop := v = .int .i64 2 ∧ wr = w
set_option maxRecDepth 100000 in
set_option maxHeartbeats 4000000 in
theorem fresh_new {w : World} {bt bn n : Nat} (hn : 4 ≤ n) (hn2 : n ≤ 200) (ht : Blo w bt TTY #[.slice (some ⟨bn, 0, none⟩) (n + 1) (n + 1), .pointer none]) (hr : Blo w bn PNT (List.replicate (n + 1) (Value.pointer none)).toArray) :
    Calls Try.prog 30 #[.pointer (some ⟨bt, 0, none⟩), .int .i64 2] w (FnO w bt bn n) := by
  have HT := Lib.hid ht
  have HR := Lib.hid hr
  have c0 : w.cell? ⟨bt, 0, none⟩ = some (.slice (some ⟨bn, 0, none⟩) (n + 1) (n + 1)) := ht.cell 0
  have x0 : w.cell? ⟨bn, 2, none⟩ = some (.pointer none) := by
    rw [hr.cell, List.getElem?_toArray, List.getElem?_replicate, if_pos (by omega)]
  have i1 : (2 : Int) < (n : Int) + 1 := by omega
  have i2 : 2 < n + 1 := by omega
  have HSt : Hid (FnR w (.int .i64 2) w) := ⟨rfl, rfl⟩
  have HN2 := Lib.hid hn2
  clear ht hr hn hn2
  go_enter Try.func30, Try.ntmps30
  go_wp2_with fail
  go_loopw [6] (fun v wr => FnR w v wr) (fun v _ => n + 1 - (intOf v).toNat)
  case atStart => exact HSt.out
  case round =>
    clear HSt
    obtain ⟨rfl, rfl⟩ := hrel
    go_upto_region 6 with (fail)
    obtain ⟨w1, hw1⟩ : ∃ w1, wr.alloc (.cells #[.int .i64 2, .int .i64 2, .int .i64 1, .map none, .slice none 0 0] NT) = w1 := ⟨_, rfl⟩
    rw [hw1]
    have HB1 : Hid (Below wr.heap.size wr w1) := by rw [← hw1]; exact sup_pct wr _
    have HX1 : Hid (Blo w1 wr.heap.size NT #[.int .i64 2, .int .i64 2, .int .i64 1, .map none, .slice none 0 0]) := by rw [← hw1]; exact blo_laid wr _ _
    have HSz : Hid (w1.heap.size = wr.heap.size + 1) := by show _ = _; rw [← hw1]; simp
    clear hw1 c0 x0
    have hmk : (Instr.makeMap NMT none).run Try.prog w1 = .ok (.map (some w1.heap.size)) (w1.alloc (.map #[] 0)) := rfl
    have hb2 : Below wr.heap.size wr (w1.alloc (.map #[] 0)) := HB1.out.alloc (by have := HSz.out; omega) _
    have hX2 := HX1.out.alloc (.map #[] 0)
    have e3 : (w1.alloc (.map #[] 0)).cell? ⟨wr.heap.size, 3, none⟩ = some (.map none) := hX2.cell 3
    have f3 := hX2.frozen 3
    have hM2 : SM (w1.alloc (.map #[] 0)) w1.heap.size 0 (fun _ => none) [] := SM.made w1
    have hX3 : Blo ((w1.alloc (.map #[] 0)).setCell ⟨wr.heap.size, 3, none⟩ (.map (some w1.heap.size))) wr.heap.size NT #[.int .i64 2, .int .i64 2, .int .i64 1, .map (some w1.heap.size), .slice none 0 0] := hX2.put 3 _
    have hb3 : Below wr.heap.size wr ((w1.alloc (.map #[] 0)).setCell ⟨wr.heap.size, 3, none⟩ (.map (some w1.heap.size))) := hb2.setCell (p := ⟨wr.heap.size, 3, none⟩) (Nat.le_refl _) _
    have hM3 : SM ((w1.alloc (.map #[] 0)).setCell ⟨wr.heap.size, 3, none⟩ (.map (some w1.heap.size))) w1.heap.size 0 (fun _ => none) [] := hM2.out (out_put (X := fun g => g = wr.heap.size) _ ⟨wr.heap.size, 3, none⟩ _ rfl) (by have := HSz.out; omega)
    have H3 : Hid (w1.heap.size ≥ wr.heap.size) := by show _ ≥ _; have := HSz.out; omega
    go_upto_region 8 with (fail)
    clear hmk e3 f3 hX2 hM2 hb2 HX1 HB1 HSz
    generalize w1.heap.size = m at *
    generalize (w1.alloc (.map #[] 0)).setCell ⟨wr.heap.size, 3, none⟩ (.map (some m)) = w3 at *
    have hT3 := HT.out.later hb3
    have hR3 := HR.out.later hb3
    have d0 : w3.cell? ⟨bt, 0, none⟩ = some (.slice (some ⟨bn, 0, none⟩) (n + 1) (n + 1)) := hT3.cell 0
    have y0 : w3.cell? ⟨bn, 2, none⟩ = some (.pointer none) := by
      rw [hR3.cell, List.getElem?_toArray, List.getElem?_replicate, if_pos (by omega)]
    have f0 := hR3.frozen 2
    have hO : Out (fun g => g = bn) w3 (w3.setCell ⟨bn, 2, none⟩ (.pointer (some ⟨wr.heap.size, 0, none⟩))) := out_put _ _ _ rfl
    have HEnd : Hid (FnO wr bt bn n (.returned (.tuple #[.pointer (some ⟨wr.heap.size, 0, none⟩), .int .i64 0])) (w3.setCell ⟨bn, 2, none⟩ (.pointer (some ⟨wr.heap.size, 0, none⟩)))) :=
      ⟨_, m, rfl, (Out.of_below hb3).trans hO (fun g _ e => e), hO.blo hT3 (HT.out.apart HR.out (by decide)), by
        have := hR3.put 2 (.pointer (some ⟨wr.heap.size, 0, none⟩))
        rwa [List.setIfInBounds_toArray] at this, hO.blo hX3 (by have := HR.out.lt; omega), hM3.out hO (by have := HR.out.lt; have := H3.out; omega), Nat.le_refl _, H3.out⟩
    clear hb3 hX3 hM3 hT3 hR3 hO
    go_wp2_with fail
    go_ret2
    exact HEnd.out
theorem tree0_row {bt bn b m n : Nat} (h : 4 ≤ n) : (List.replicate (n + 1) (Value.pointer none)).set 2 (.pointer (some ⟨b, 0, none⟩)) = ndL (tree0 n) (pl0 bt bn b m) := by
  refine List.ext_getElem? fun j => ?_
  by_cases hj : j ≤ n
  · have hj2 : j ≤ (tree0 n).n := hj
    rw [ndL_get hj2, List.getElem?_set]
    unfold ndP
    by_cases e : 2 = j
    · subst e
      rw [if_pos rfl, if_pos (by rw [List.length_replicate]; omega)]
      rw [if_neg (by show ¬ (2 : Int) = 0; decide)]
      rfl
    · rw [if_neg e, List.getElem?_replicate, if_pos (by omega)]
      have ek : (tree0 n).K j = 0 := updN_ne (fun _ => (0 : Int)) 2 (Ne.symm e)
      rw [ek]
      rfl
  · rw [List.getElem?_eq_none (by rw [List.length_set, List.length_replicate]; omega), List.getElem?_eq_none (by rw [ndL_len]; show n + 1 ≤ j; omega)]
theorem tree0_mem {w : World} {bt bn b m n : Nat} (h1 : 4 ≤ n) (h2 : n ≤ 200) (ht : Blo w bt TTY #[.slice (some ⟨bn, 0, none⟩) (n + 1) (n + 1), .pointer (some ⟨b, 0, none⟩)]) (hr : Blo w bn PNT ((List.replicate (n + 1) (Value.pointer none)).set 2 (.pointer (some ⟨b, 0, none⟩))).toArray)
    (hb : Blo w b NT #[.int .i64 2, .int .i64 2, .int .i64 1, .map (some m), .slice none 0 0]) (hm : SM w m 0 (fun _ => none) []) : TrM w 0 (tree0 n) (pl0 bt bn b m) := by
  have k2 : ∀ i, (tree0 n).K i = 2 → i = 2 := fun i hi => tree0_live (by unfold Tr.live; rw [hi]; decide)
  have k1 : ∀ i, (tree0 n).K i ≠ 1 := fun i hi => by
    have e : i = 2 := tree0_live (by unfold Tr.live; rw [hi]; decide)
    rw [e] at hi
    exact absurd hi (by decide : (2 : Int) ≠ 1)
  refine ⟨tree0_wf h1 h2, ht, by rw [← tree0_row h1]; exact hr, fun i hi => ?_, fun i hi => ⟨[], hm⟩, fun i hi => absurd hi (k1 i), fun i hi => rfl, fun i j hi hj _ => by rw [tree0_live hi, tree0_live hj], fun i j hi hj _ => by rw [k2 i hi, k2 j hj], fun i j hi => absurd hi (k1 i)⟩
  rw [tree0_live hi]
  exact hb
def NwO (w : World) (n : Int) (e : Ending) (w' : World) : Prop :=
  ((n < 4 ∨ 200 < n) ∧ e = .returned (.tuple #[.pointer none, .int .i64 22]) ∧ Below w.heap.size w w') ∨
  (4 ≤ n ∧ n ≤ 200 ∧ ∃ bt bn b m, e = .returned (.tuple #[.pointer (some ⟨bt, 0, none⟩), .int .i64 0]) ∧ TrM w' 0 (tree0 n.toNat) (pl0 bt bn b m) ∧ Below w.heap.size w w' ∧ ∀ g, XT (tree0 n.toNat) (pl0 bt bn b m) g → w.heap.size ≤ g)
set_option maxRecDepth 100000 in
set_option maxHeartbeats 4000000 in
theorem new_any (n : Int) (w : World) : Calls Try.prog 10 #[.int .i64 n] w (NwO w n) := by
  by_cases h1 : n < 4
  · go_enter Try.func10, Try.ntmps10
    go_wp2_with fail
    go_ret2
    exact .inl ⟨.inl h1, rfl, Below.refl _ _⟩
  · by_cases h2 : n > 200
    · go_enter Try.func10, Try.ntmps10
      go_wp2_with fail
      go_ret2
      exact .inl ⟨.inr h2, rfl, Below.refl _ _⟩
    · obtain ⟨k, rfl⟩ : ∃ k : Nat, n = (k : Int) := ⟨n.toNat, by omega⟩
      have hk4 : 4 ≤ k := by omega
      have hk2 : k ≤ 200 := by omega
      have e1 : IntKind.i64.wrap ((k : Int) + 1) = (k : Int) + 1 := IntWalk.i64_in _ (by omega)
      have hmk0 := run_nodes w (k + 1) (by omega)
      obtain ⟨w1, hw1⟩ : ∃ w1, w.alloc (.cells (List.replicate (k + 1) (.pointer none)).toArray PNT) = w1 := ⟨_, rfl⟩
      rw [hw1] at hmk0
      have hmk : (Instr.makeSlice 66 (.int .i64 ((k : Int) + 1)) (.int .i64 ((k : Int) + 1))).run Try.prog w = .ok (.slice (some ⟨w.heap.size, 0, none⟩) (k + 1) (k + 1)) w1 := hmk0
      clear hmk0
      have HB1 : Hid (Below w.heap.size w w1) := by rw [← hw1]; exact sup_pct w _
      have HR1 : Hid (Blo w1 w.heap.size PNT (List.replicate (k + 1) (.pointer none)).toArray) := by rw [← hw1]; exact blo_laid w _ _
      have HSz : Hid (w1.heap.size = w.heap.size + 1) := by show _ = _; rw [← hw1]; simp
      clear hw1
      have HK := Lib.hid (And.intro hk4 hk2)
      clear hk4 hk2
      go_enter Try.func10, Try.ntmps10
      go_upto_region 4 with (fail)
      obtain ⟨w2, hw2⟩ : ∃ w2, w1.alloc (.cells #[.slice (some ⟨w.heap.size, 0, none⟩) (k + 1) (k + 1), .pointer none] TTY) = w2 := ⟨_, rfl⟩
      rw [hw2]
      have HX2 : Hid (Blo w2 w1.heap.size TTY #[.slice (some ⟨w.heap.size, 0, none⟩) (k + 1) (k + 1), .pointer none]) := by rw [← hw2]; exact blo_laid w1 _ _
      have HR2 : Hid (Blo w2 w.heap.size PNT (List.replicate (k + 1) (.pointer none)).toArray) := by rw [← hw2]; exact HR1.out.alloc _
      have HB2 : Hid (Below w.heap.size w w2) := by rw [← hw2]; exact HB1.out.alloc (by have := HSz.out; omega) _
      have HSz2 : Hid (w2.heap.size = w.heap.size + 2) := by show _ = _; rw [← hw2]; simp; exact HSz.out
      have HFr := Lib.hid (fresh_new HK.out.1 HK.out.2 HX2.out HR2.out)
      have HGe : Hid (w.heap.size ≤ w1.heap.size) := by show _ ≤ _; have := HSz.out; omega
      clear hw2 hmk
      generalize hbt : w1.heap.size = bt at *
      generalize hbn : w.heap.size = bn at *
      have HBn := Lib.hid hbn
      clear hbt hbn
      go_wp2_with fail
      refine HFr.out.mono ?_
      rintro e w3 ⟨b, m, rfl, ho, hT, hR, hN, hM, hb, hm⟩
      have d1 : w3.cell? ⟨bt, 1, none⟩ = some (.pointer none) := hT.cell 1
      have f1 := hT.frozen 1
      have hO : Out (fun g => g = bt) w3 (w3.setCell ⟨bt, 1, none⟩ (.pointer (some ⟨b, 0, none⟩))) := out_put _ _ _ rfl
      have HEnd : Hid (NwO w k (.returned (.tuple #[.pointer (some ⟨bt, 0, none⟩), .int .i64 0])) (w3.setCell ⟨bt, 1, none⟩ (.pointer (some ⟨b, 0, none⟩)))) := by
        have q1 := HBn.out
        have q2 := HSz2.out
        have q3 := HGe.out
        refine .inr ⟨by have := HK.out.1; omega, by have := HK.out.2; omega, bt, bn, b, m, rfl, ?_, ?_, ?_⟩
        · exact tree0_mem HK.out.1 HK.out.2 (hT.put 1 _) (hO.blo hR (hR.apart hT (by decide))) (hO.blo hN (hN.apart hT (by decide))) (hM.out hO (fun e => hM.blo hT e))
        · have h3 : Below bn w w3 := HB2.out.trans (ho.below (by omega) (fun g hg e => by omega))
          have h4 := h3.setCell (p := ⟨bt, 1, none⟩) (by show bn ≤ bt; omega) (.pointer (some ⟨b, 0, none⟩))
          rw [q1]
          exact h4
        · rintro g (e | e | ⟨i, hi, e | ⟨-, e⟩ | ⟨-, e⟩⟩)
          · have e : g = bt := e
            omega
          · have e : g = bn := e
            omega
          · have e : g = b := e
            omega
          · have e : g = m := e
            omega
          · cases e
      clear ho hT hR hN hM hb hm hO
      go_wp2_with fail
      go_ret2
      exact HEnd.out
end Go.Proofs.Ytcjojcihjhhpgaa
/-
  at is find, of a path as a text.
-/
namespace Go.Proofs.Ytcjojcihjhhpgaa
open Go.RowKit

def atK (T : Tr) (s : ByteArray) (wr : Nat → Int) : Option Nat × Int := if spE s ≠ 0 then (none, spE s) else findK T (spL s) (spD s) wr
theorem atK_ok {T : Tr} (hw : TrW T) {s : ByteArray} {wr : Nat → Int} {ro : Option Nat} (h : atK T s wr = (ro, 0)) : ∃ i, ro = some i ∧ T.live i ∧ wr i = 0 := by
  unfold atK at h
  split at h
  · rename_i q
    exact absurd (show spE s = 0 from congrArg Prod.snd h) q
  · exact findK_ok hw h
section
variable {w : World} {cnt : Nat} {T : Tr} {p : Pl}
set_option maxRecDepth 100000 in
set_option maxHeartbeats 4000000 in
theorem at_file (h : TrM w cnt T p) {wr : Nat → Int} (hF : WrF cnt T p 38 wr) (s : ByteArray) :
    Calls Try.prog 34 #[.pointer (some ⟨p.bt, 0, none⟩), .string s, .func (.func 38) #[] #[]] w fun e w' => e = .returned (.tuple #[ptrV ((atK T s wr).1.map p.B), .int .i64 (atK T s wr).2]) ∧ Below w.heap.size w w' := by
  have H := Lib.hid h
  have HF := Lib.hid hF
  have HSp := Lib.hid (tsplit_any s w)
  have HQ : Hid (atK T s wr = if spE s ≠ 0 then (none, spE s) else findK T (spL s) (spD s) wr) := rfl
  have HLo : Hid ((∀ x ∈ spL s, wfS x) ∧ (spL s).length ≤ 1000) := ⟨fun x hx => wfS_14 (spL_14 s x hx), by have := spL_lenT s; omega⟩
  clear h hF
  go_enter Try.func34, Try.ntmps34
  go_wp2_with fail
  refine HSp.out.mono ?_
  rintro e w1 ⟨a, n, c, rfl, hn, hnc, hs, ha, hb⟩
  by_cases hz : spE s = 0
  · rw [hz]
    have HQ2 : Hid (atK T s wr = findK T (spL s) (spD s) wr) := HQ.out.trans (if_neg (fun q => q hz))
    have HB1 := Lib.hid hb
    have HS1 := Lib.hid hs
    have HN := Lib.hid hn
    clear hz HQ hb hs hn hnc ha HSp
    generalize spL s = lo at *
    generalize spD s = dd at *
    go_upto_region 2 with (fail)
    obtain ⟨w2, hw2⟩ : ∃ w2, w1.alloc (.cells #[.slice a n c, .bool dd] PTT) = w2 := ⟨_, rfl⟩
    rw [hw2]
    have hb2 : Below w1.heap.size w1 w2 := by rw [← hw2]; exact sup_pct w1 _
    have HX2 : Hid (Blo w2 w1.heap.size PTT #[.slice a n c, .bool dd]) := by rw [← hw2]; exact blo_laid w1 _ _
    have HB2 := Lib.hid (HB1.out.trans (hb2.mono HB1.out.size))
    have HFi := Lib.hid (find_file (dir := dd) (c := c) (H.out.later HB2.out) HF.out HN.out (by rw [HN.out]; exact HLo.out.2) (HS1.out.below hb2) HLo.out.1)
    have c0 : w2.cell? ⟨w1.heap.size, 0, none⟩ = some (.slice a n c) := HX2.out.cell 0
    have c1 : w2.cell? ⟨w1.heap.size, 1, none⟩ = some (.bool dd) := HX2.out.cell 1
    clear hw2 hb2 HB1 HS1
    generalize w1.heap.size = ga at *
    generalize findK T lo dd wr = R at *
    go_wp2_with fail
    refine HFi.out.mono ?_
    rintro e w3 ⟨rfl, hb3⟩
    have HB3 := Lib.hid (HB2.out.trans (hb3.mono HB2.out.size))
    clear hb3 c0 c1 HFi
    go_wp2_with fail
    go_ret2
    rw [HQ2.out]
    exact ⟨rfl, HB3.out⟩
  · have HE : Hid (atK T s wr = (none, spE s)) := HQ.out.trans (if_pos hz)
    have hzb : (spE s == 0) = false := beq_eq_false_iff_ne.2 hz
    have HB : Hid (∀ o, Below w.heap.size w (w1.alloc o)) := fun o => hb.alloc hb.size o
    clear hz hb HQ hs hn hnc ha HSp
    go_wp2_with fail
    go_ret2
    rw [HE.out]
    exact ⟨rfl, HB.out _⟩
set_option maxRecDepth 100000 in
set_option maxHeartbeats 4000000 in
theorem at_directory (h : TrM w cnt T p) {wr : Nat → Int} (hF : WrF cnt T p 36 wr) (s : ByteArray) :
    Calls Try.prog 34 #[.pointer (some ⟨p.bt, 0, none⟩), .string s, .func (.func 36) #[] #[]] w fun e w' => e = .returned (.tuple #[ptrV ((atK T s wr).1.map p.B), .int .i64 (atK T s wr).2]) ∧ Below w.heap.size w w' := by
  have H := Lib.hid h
  have HF := Lib.hid hF
  have HSp := Lib.hid (tsplit_any s w)
  have HQ : Hid (atK T s wr = if spE s ≠ 0 then (none, spE s) else findK T (spL s) (spD s) wr) := rfl
  have HLo : Hid ((∀ x ∈ spL s, wfS x) ∧ (spL s).length ≤ 1000) := ⟨fun x hx => wfS_14 (spL_14 s x hx), by have := spL_lenT s; omega⟩
  clear h hF
  go_enter Try.func34, Try.ntmps34
  go_wp2_with fail
  refine HSp.out.mono ?_
  rintro e w1 ⟨a, n, c, rfl, hn, hnc, hs, ha, hb⟩
  by_cases hz : spE s = 0
  · rw [hz]
    have HQ2 : Hid (atK T s wr = findK T (spL s) (spD s) wr) := HQ.out.trans (if_neg (fun q => q hz))
    have HB1 := Lib.hid hb
    have HS1 := Lib.hid hs
    have HN := Lib.hid hn
    clear hz HQ hb hs hn hnc ha HSp
    generalize spL s = lo at *
    generalize spD s = dd at *
    go_upto_region 2 with (fail)
    obtain ⟨w2, hw2⟩ : ∃ w2, w1.alloc (.cells #[.slice a n c, .bool dd] PTT) = w2 := ⟨_, rfl⟩
    rw [hw2]
    have hb2 : Below w1.heap.size w1 w2 := by rw [← hw2]; exact sup_pct w1 _
    have HX2 : Hid (Blo w2 w1.heap.size PTT #[.slice a n c, .bool dd]) := by rw [← hw2]; exact blo_laid w1 _ _
    have HB2 := Lib.hid (HB1.out.trans (hb2.mono HB1.out.size))
    have HFi := Lib.hid (find_dir (dir := dd) (c := c) (H.out.later HB2.out) HF.out HN.out (by rw [HN.out]; exact HLo.out.2) (HS1.out.below hb2) HLo.out.1)
    have c0 : w2.cell? ⟨w1.heap.size, 0, none⟩ = some (.slice a n c) := HX2.out.cell 0
    have c1 : w2.cell? ⟨w1.heap.size, 1, none⟩ = some (.bool dd) := HX2.out.cell 1
    clear hw2 hb2 HB1 HS1
    generalize w1.heap.size = ga at *
    generalize findK T lo dd wr = R at *
    go_wp2_with fail
    refine HFi.out.mono ?_
    rintro e w3 ⟨rfl, hb3⟩
    have HB3 := Lib.hid (HB2.out.trans (hb3.mono HB2.out.size))
    clear hb3 c0 c1 HFi
    go_wp2_with fail
    go_ret2
    rw [HQ2.out]
    exact ⟨rfl, HB3.out⟩
  · have HE : Hid (atK T s wr = (none, spE s)) := HQ.out.trans (if_pos hz)
    have hzb : (spE s == 0) = false := beq_eq_false_iff_ne.2 hz
    have HB : Hid (∀ o, Below w.heap.size w (w1.alloc o)) := fun o => hb.alloc hb.size o
    clear hz hb HQ hs hn hnc ha HSp
    go_wp2_with fail
    go_ret2
    rw [HE.out]
    exact ⟨rfl, HB.out _⟩
set_option maxRecDepth 100000 in
set_option maxHeartbeats 4000000 in
theorem at_any (h : TrM w cnt T p) {wr : Nat → Int} (hF : WrF cnt T p 35 wr) (s : ByteArray) :
    Calls Try.prog 34 #[.pointer (some ⟨p.bt, 0, none⟩), .string s, .func (.func 35) #[] #[]] w fun e w' => e = .returned (.tuple #[ptrV ((atK T s wr).1.map p.B), .int .i64 (atK T s wr).2]) ∧ Below w.heap.size w w' := by
  have H := Lib.hid h
  have HF := Lib.hid hF
  have HSp := Lib.hid (tsplit_any s w)
  have HQ : Hid (atK T s wr = if spE s ≠ 0 then (none, spE s) else findK T (spL s) (spD s) wr) := rfl
  have HLo : Hid ((∀ x ∈ spL s, wfS x) ∧ (spL s).length ≤ 1000) := ⟨fun x hx => wfS_14 (spL_14 s x hx), by have := spL_lenT s; omega⟩
  clear h hF
  go_enter Try.func34, Try.ntmps34
  go_wp2_with fail
  refine HSp.out.mono ?_
  rintro e w1 ⟨a, n, c, rfl, hn, hnc, hs, ha, hb⟩
  by_cases hz : spE s = 0
  · rw [hz]
    have HQ2 : Hid (atK T s wr = findK T (spL s) (spD s) wr) := HQ.out.trans (if_neg (fun q => q hz))
    have HB1 := Lib.hid hb
    have HS1 := Lib.hid hs
    have HN := Lib.hid hn
    clear hz HQ hb hs hn hnc ha HSp
    generalize spL s = lo at *
    generalize spD s = dd at *
    go_upto_region 2 with (fail)
    obtain ⟨w2, hw2⟩ : ∃ w2, w1.alloc (.cells #[.slice a n c, .bool dd] PTT) = w2 := ⟨_, rfl⟩
    rw [hw2]
    have hb2 : Below w1.heap.size w1 w2 := by rw [← hw2]; exact sup_pct w1 _
    have HX2 : Hid (Blo w2 w1.heap.size PTT #[.slice a n c, .bool dd]) := by rw [← hw2]; exact blo_laid w1 _ _
    have HB2 := Lib.hid (HB1.out.trans (hb2.mono HB1.out.size))
    have HFi := Lib.hid (find_any (dir := dd) (c := c) (H.out.later HB2.out) HF.out HN.out (by rw [HN.out]; exact HLo.out.2) (HS1.out.below hb2) HLo.out.1)
    have c0 : w2.cell? ⟨w1.heap.size, 0, none⟩ = some (.slice a n c) := HX2.out.cell 0
    have c1 : w2.cell? ⟨w1.heap.size, 1, none⟩ = some (.bool dd) := HX2.out.cell 1
    clear hw2 hb2 HB1 HS1
    generalize w1.heap.size = ga at *
    generalize findK T lo dd wr = R at *
    go_wp2_with fail
    refine HFi.out.mono ?_
    rintro e w3 ⟨rfl, hb3⟩
    have HB3 := Lib.hid (HB2.out.trans (hb3.mono HB2.out.size))
    clear hb3 c0 c1 HFi
    go_wp2_with fail
    go_ret2
    rw [HQ2.out]
    exact ⟨rfl, HB3.out⟩
  · have HE : Hid (atK T s wr = (none, spE s)) := HQ.out.trans (if_pos hz)
    have hzb : (spE s == 0) = false := beq_eq_false_iff_ne.2 hz
    have HB : Hid (∀ o, Below w.heap.size w (w1.alloc o)) := fun o => hb.alloc hb.size o
    clear hz hb HQ hs hn hnc ha HSp
    go_wp2_with fail
    go_ret2
    rw [HE.out]
    exact ⟨rfl, HB.out _⟩
end
end Go.Proofs.Ytcjojcihjhhpgaa
/-
  Stat.
-/
namespace Go.Proofs.Ytcjojcihjhhpgaa
open Go.RowKit

abbrev STA := 39
def statA (T : Tr) (i : Nat) : Value := .agg #[.int .i64 (i : Int), .int .i64 (T.K i), .int .i64 (T.Lk i), .int .i64 (((if T.K i = 1 then T.D i else []).length : Nat) : Int)]
def stat0 : Value := .agg #[.int .i64 0, .int .i64 0, .int .i64 0, .int .i64 0]
def statR (T : Tr) (R : Option Nat × Int) : Value × Int := if R.2 ≠ 0 then (stat0, R.2) else match R.1 with | some i => (statA T i, 0) | none => (stat0, 0)
def statK (T : Tr) (s : ByteArray) : Value × Int := statR T (atK T s (wrAny T))
section
variable {w : World} {cnt : Nat} {T : Tr} {p : Pl}
theorem TrM.dv {i : Nat} (h : TrM w cnt T p) (hi : T.live i) : ∃ a c, p.DV i = .slice a (if T.K i = 1 then T.D i else []).length c := by
  rcases h.wf.kind i with e | e | e
  · exact absurd e hi
  · rw [if_pos e]
    rcases h.dat i e with ⟨q, q2⟩ | ⟨g, c, cur, q, -⟩
    · rw [q2]; exact ⟨none, 0, q⟩
    · exact ⟨_, c, q⟩
  · rw [if_neg (by omega)]
    exact ⟨none, 0, h.dir i e⟩
set_option maxRecDepth 100000 in
set_option maxHeartbeats 4000000 in
theorem stat_any (h : TrM w cnt T p) (s : ByteArray) :
    Calls Try.prog 15 #[.pointer (some ⟨p.bt, 0, none⟩), .string s] w fun e w' => e = .returned (.tuple #[(statK T s).1, .int .i64 (statK T s).2]) ∧ Below w.heap.size w w' := by
  obtain ⟨w1, hw1⟩ : ∃ w1, w.alloc (.cells #[.int .i64 0, .int .i64 0, .int .i64 0, .int .i64 0] STA) = w1 := ⟨_, rfl⟩
  have HX1 : Hid (Blo w1 w.heap.size STA #[.int .i64 0, .int .i64 0, .int .i64 0, .int .i64 0]) := by rw [← hw1]; exact blo_laid w _ _
  have HB1 : Hid (Below w.heap.size w w1) := by rw [← hw1]; exact sup_pct w _
  have H := Lib.hid h
  have HAt := Lib.hid (at_any (h.later HB1.out) (wr := wrAny T) (fun W i hW hi => any_any hW hi) s)
  have HQ : Hid (statK T s = statR T (atK T s (wrAny T))) := rfl
  have HOk : Hid (∀ ro, atK T s (wrAny T) = (ro, 0) → ∃ i, ro = some i ∧ T.live i ∧ wrAny T i = 0) := fun ro q => atK_ok h.wf q
  clear h
  generalize atK T s (wrAny T) = R at *
  obtain ⟨ro, rz⟩ := R
  go_enter Try.func15, Try.ntmps15
  go_upto_region 1 with (fail)
  clear hw1
  by_cases hz : rz = 0
  · subst hz
    obtain ⟨i, rfl, hl, -⟩ := HOk.out ro rfl
    have HE : Hid (statK T s = (statA T i, 0)) := HQ.out
    have HL := Lib.hid hl
    have HAt : Hid (Calls Try.prog 34 #[.pointer (some ⟨p.bt, 0, none⟩), .string s, .func (.func 35) #[] #[]] w1 fun e w' => e = .returned (.tuple #[.pointer (some ⟨p.B i, 0, none⟩), .int .i64 0]) ∧ Below w1.heap.size w1 w') := HAt.out
    clear HOk hl HQ
    go_wp2_with fail
    refine HAt.out.mono ?_
    rintro e w2 ⟨rfl, hb2⟩
    have HB2 := Lib.hid (HB1.out.trans (hb2.mono HB1.out.size))
    have HX2 := Lib.hid (HX1.out.later hb2)
    obtain ⟨q0, q1, q2, -, q4⟩ := (H.out.later HB2.out).cells HL.out
    obtain ⟨a, c, hdv⟩ := H.out.dv HL.out
    rw [hdv] at q4
    have HSt : Hid (statA T i = .agg #[.int .i64 (i : Int), .int .i64 (T.K i), .int .i64 (T.Lk i), .int .i64 (((if T.K i = 1 then T.D i else []).length : Nat) : Int)]) := rfl
    clear hb2 HAt hdv
    generalize (if T.K i = 1 then T.D i else []).length = q at *
    generalize T.K i = k at *
    generalize T.Lk i = lk at *
    have h0 : w2.cell? ⟨w.heap.size, 0, none⟩ = some (.int .i64 0) := HX2.out.cell 0
    have h1 : w2.cell? ⟨w.heap.size, 1, none⟩ = some (.int .i64 0) := HX2.out.cell 1
    have h2 : w2.cell? ⟨w.heap.size, 2, none⟩ = some (.int .i64 0) := HX2.out.cell 2
    have h3 : w2.cell? ⟨w.heap.size, 3, none⟩ = some (.int .i64 0) := HX2.out.cell 3
    have f0 := HX2.out.frozen 0
    have f1 := HX2.out.frozen 1
    have f2 := HX2.out.frozen 2
    have f3 := HX2.out.frozen 3
    have HXe : Hid (Blo ((((w2.setCell ⟨w.heap.size, 0, none⟩ (.int .i64 (i : Int))).setCell ⟨w.heap.size, 1, none⟩ (.int .i64 k)).setCell ⟨w.heap.size, 2, none⟩ (.int .i64 lk)).setCell ⟨w.heap.size, 3, none⟩ (.int .i64 (q : Int))).drew w.heap.size STA #[.int .i64 (i : Int), .int .i64 k, .int .i64 lk, .int .i64 (q : Int)]) :=
      ((((HX2.out.put 0 _).put 1 _).put 2 _).put 3 _).drew
    have HBe : Hid (Below w.heap.size w ((((w2.setCell ⟨w.heap.size, 0, none⟩ (.int .i64 (i : Int))).setCell ⟨w.heap.size, 1, none⟩ (.int .i64 k)).setCell ⟨w.heap.size, 2, none⟩ (.int .i64 lk)).setCell ⟨w.heap.size, 3, none⟩ (.int .i64 (q : Int))).drew) :=
      ((((HB2.out.setCell (p := ⟨w.heap.size, 0, none⟩) (Nat.le_refl _) _).setCell (p := ⟨w.heap.size, 1, none⟩) (Nat.le_refl _) _).setCell (p := ⟨w.heap.size, 2, none⟩) (Nat.le_refl _) _).setCell (p := ⟨w.heap.size, 3, none⟩) (Nat.le_refl _) _).drew
    go_upto_region 4 with (fail)
    go_region
    go_wp2_with fail
    (try simp only [Exit.inBlock, Exit.then])
    exact bodyPost_ret (results_row_tmp (p := 4) (u := 5) (ty := STA) rfl _ _ w.heap.size STA #[.int .i64 (i : Int), .int .i64 k, .int .i64 lk, .int .i64 (q : Int)] _ (by simp) HXe.out Try.underlying39 rfl (by kernel_rfl)) rfl ⟨by rw [HE.out]; exact congrArg (fun x => Ending.returned (.tuple #[x, .int .i64 0])) HSt.out.symm, HBe.out⟩
  · have HE : Hid (statK T s = (stat0, rz)) := HQ.out.trans (if_pos hz)
    have hzb : (rz == 0) = false := beq_eq_false_iff_ne.2 hz
    clear hz HOk HQ
    go_wp2_with fail
    refine HAt.out.mono ?_
    rintro e w2 ⟨rfl, hb2⟩
    have HB2 := Lib.hid (HB1.out.trans (hb2.mono HB1.out.size))
    have HX2 := Lib.hid (HX1.out.later hb2)
    have hg2 := HX2.out
    clear hb2 HAt
    go_wp2_with (refine wpList_store_row rfl STA (.tmp 4) (.tmp 16) rfl w.heap.size #[.int .i64 0, .int .i64 0, .int .i64 0, .int .i64 0] (by first | rfl | simp [go_sem]) (by first | rfl | simp [go_sem]) STA _ hg2 (by kernel_rfl) rfl (by simp [Value.oneCell']) ?_)
    (try simp only [Exit.inBlock, Exit.then])
    refine bodyPost_ret (results_row_tmp (p := 4) (u := 5) (ty := STA) rfl _ _ w.heap.size STA #[.int .i64 0, .int .i64 0, .int .i64 0, .int .i64 0] _ (by simp) (blo_row HX2.out _) Try.underlying39 rfl (by kernel_rfl)) rfl ⟨?_, below_setRow HB2.out (Nat.le_refl _) _⟩
    rw [HE.out]
    rfl
end
end Go.Proofs.Ytcjojcihjhhpgaa
