/-
  Pack: Plan.
-/
import Derived.Test.YtonlhkhjdnaojaaPcFile
namespace Go.Proofs.Ytonlhkhjdnaojaa
open Go.RowKit

def itF : Nat → List Fi → List It
  | _, [] => []
  | k, x :: r => x.lb.map (It.mk (k + 1)) ++ itF (k + 1) r
theorem itF_snoc : ∀ (l : List Fi) (k : Nat) (x : Fi), itF k (l ++ [x]) = itF k l ++ x.lb.map (It.mk (k + l.length + 1))
  | [], k, x => by simp [itF]
  | y :: l, k, x => by
    rw [List.cons_append, itF, itF, itF_snoc l (k + 1) x, List.append_assoc, List.length_cons, show k + 1 + l.length + 1 = k + (l.length + 1) + 1 by omega]
def items (fs : List Fi) (is : List Int) : List It := itF 0 fs ++ is.map (It.mk 0)
def inoOf (fs : List Fi) (f : Nat) : Int := (fs.getD (f - 1) fi0).ino
def verOf (fs : List Fi) (f : Nat) : Int := (fs.getD (f - 1) fi0).ver
def badP (left size : Int) : Prop := size < 8 ∨ 64 < size ∨ left < 0 ∨ size < left
def PlanO (w : World) (fs : List Fi) (is : List Int) (left size : Int) (e : Ending) (w' : World) : Prop :=
  (match runP size (p0 left) (items fs is) with
  | none => e = .returned (.tuple #[.slice none 0 0, .int .i64 27])
  | some s => ∃ pv fv av, e = .returned (.tuple #[pv, .int .i64 0]) ∧ Pm w' w.heap.size pv fv av (inoOf fs) (verOf fs) s.N s.nw (zS s)) ∧ Below w.heap.size w w'
section
variable {w : World} {fs : List Fi} {is : List Int} (fa : Option Addr) (fn fc : Nat) (ia : Option Addr) (inn ic : Nat) (left size : Int)
set_option maxHeartbeats 1000000 in
theorem plan_bad (h : badP left size) : Calls Try.prog 11 #[.slice fa fn fc, .slice ia inn ic, .int .i64 left, .int .i64 size] w fun e w' => e = .returned (.tuple #[.slice none 0 0, .int .i64 22]) ∧ w = w' := by
  by_cases h1 : size < 8
  · clear h
    go_enter Try.func11, Try.ntmps11
    go_wp2
    go_ret2
    exact ⟨rfl, rfl⟩
  · by_cases h2 : 64 < size
    · clear h
      go_enter Try.func11, Try.ntmps11
      go_wp2
      go_ret2
      exact ⟨rfl, rfl⟩
    · by_cases h3 : left < 0
      · clear h
        go_enter Try.func11, Try.ntmps11
        go_wp2
        go_ret2
        exact ⟨rfl, rfl⟩
      · have h4 : size < left := by unfold badP at h; omega
        clear h
        go_enter Try.func11, Try.ntmps11
        go_wp2
        go_ret2
        exact ⟨rfl, rfl⟩
def PlRel (w : World) (fs : List Fi) (left size : Int) (fn : Nat) (t : Value) (wr : World) : Prop :=
  ∃ (k : Nat) (s : Pl), k ≤ fn ∧ t = .int .i64 k ∧ runP size (p0 left) (itF 0 (fs.take k)) = some s ∧ lastS s ≤ k ∧ Pq wr w.heap.size w.heap.size size (inoOf fs) (verOf fs) s ∧ Below w.heap.size w wr
def PlRelI (w : World) (fs : List Fi) (is : List Int) (left size : Int) (inn : Nat) (t : Value) (wr : World) : Prop :=
  ∃ (k : Nat) (s : Pl), k ≤ inn ∧ t = .int .i64 k ∧ runP size (p0 left) (itF 0 fs ++ (is.take k).map (It.mk 0)) = some s ∧ Pq wr w.heap.size w.heap.size size (inoOf fs) (verOf fs) s ∧ Below w.heap.size w wr
theorem p0_ok (h : ¬ badP left size) : PlOk size (p0 left) := by
  unfold badP at h
  exact ⟨by omega, by omega, by show 0 ≤ left; omega, by show left ≤ size; omega, Nat.zero_le _, fun h => absurd h (Nat.lt_irrefl 0)⟩
theorem pq0 : Pq (w.alloc (.cells #[.slice none 0 0, .int .i64 size, .int .i64 left, .int .i64 0, .int .i64 0, .bool false] PK)) w.heap.size w.heap.size size (inoOf fs) (verOf fs) (p0 left) :=
  ⟨_, _, _, blo_laid _ _ _, pm_nil _ _ _ _ _ _, Nat.le_refl _⟩
theorem run_file {k : Nat} {s : Pl} (hk : k < fs.length) (h : runP size (p0 left) (itF 0 (fs.take k)) = some s) : runP size (p0 left) (itF 0 (fs.take (k + 1))) = runP size s ((fs.getD k fi0).lb.map (It.mk (k + 1))) := by
  rw [take_snocF fs fi0 k hk, itF_snoc, runP_append, h, List.length_take, show 0 + min k fs.length + 1 = k + 1 by omega]
  rfl
theorem run_none {k : Nat} (h : runP size (p0 left) (itF 0 (fs.take k)) = none) : runP size (p0 left) (items fs is) = none := by
  have : ∀ (j : Nat) (l m : List Fi), ∃ r, itF j (l ++ m) = itF j l ++ r := fun j l m => by
    induction l generalizing j with
    | nil => exact ⟨itF j m, rfl⟩
    | cons x l ih =>
      obtain ⟨r, hr⟩ := ih (j + 1)
      exact ⟨r, by rw [List.cons_append, itF, itF, hr, List.append_assoc]⟩
  obtain ⟨r, hr⟩ := this 0 (fs.take k) (fs.drop k)
  rw [List.take_append_drop] at hr
  unfold items
  rw [hr, List.append_assoc, runP_append, h]
  rfl
theorem run_ino {k : Nat} {s : Pl} (hk : k < is.length) (h : runP size (p0 left) (itF 0 fs ++ (is.take k).map (It.mk 0)) = some s) : runP size (p0 left) (itF 0 fs ++ (is.take (k + 1)).map (It.mk 0)) = if (pstep size s ⟨0, is.getD k 0⟩).N ≤ 64 then some (pstep size s ⟨0, is.getD k 0⟩) else none := by
  rw [take_snocF is 0 k hk, List.map_append, ← List.append_assoc, runP_append, h]
  rfl
theorem run_none_i {k : Nat} (h : runP size (p0 left) (itF 0 fs ++ (is.take k).map (It.mk 0)) = none) : runP size (p0 left) (items fs is) = none := by
  unfold items
  rw [← List.take_append_drop k is, List.map_append, ← List.append_assoc, runP_append, h]
  rfl
set_option maxRecDepth 100000 in
set_option maxHeartbeats 4000000 in
theorem plan_any (h : ¬ badP left size) (hF : Fis w fa fs) (hn : fn = fs.length) (hfn : fn ≤ 1000000) (hfl : ∀ x ∈ fs, x.lb.length ≤ 1000000) (hI : Ints w ia is) (hin : inn = is.length) (hi9 : inn ≤ 1000000) :
    Calls Try.prog 11 #[.slice fa fn fc, .slice ia inn ic, .int .i64 left, .int .i64 size] w (PlanO w fs is left size) := by
  have HO := Lib.hid (p0_ok left size h)
  have HQ := Lib.hid (pq0 (w := w) (fs := fs) left size)
  have HF := Lib.hid hF
  have HN := Lib.hid hn
  have HFl := Lib.hid hfl
  have HI := Lib.hid hI
  have HIn := Lib.hid hin
  unfold badP at h
  have h1 : ¬ size < 8 := by omega
  have h2 : ¬ 64 < size := by omega
  have h3 : ¬ left < 0 := by omega
  have h4 : ¬ size < left := by omega
  clear h hF hn hfl hI hin
  go_enter Try.func11, Try.ntmps11
  go_wp2_with fail
  have HB := Lib.hid (sup_pc w (.cells #[.slice none 0 0, .int .i64 size, .int .i64 left, .int .i64 0, .int .i64 0, .bool false] PK))
  go_loopw [36] (fun t wr => PlRel w fs left size fn t wr) (fun t _ => fn - (intOf t).toNat)
  case atStart => exact ⟨0, p0 left, Nat.zero_le _, rfl, rfl, Nat.le_refl _, HQ.out, HB.out⟩
  case round =>
    clear HQ HB h1 h2 h3 h4
    obtain ⟨k, s, hk, rfl, hrun, hls, hq, hB⟩ := hrel
    by_cases hlt : k < fn
    · have hkl : k < fs.length := by rw [← HN.out]; exact hlt
      obtain ⟨b, o, c, cp, rfl, q1, q2, q3, q4⟩ := (HF.out.later hB).at hkl
      have hmem : fs.getD k fi0 ∈ fs := by rw [List.getD_eq_getElem?_getD, List.getElem?_eq_getElem hkl]; exact List.getElem_mem _
      have hl9 := HFl.out _ hmem
      have hrf := run_file left size hkl hrun
      have hIn : inoOf fs (k + 1) = (fs.getD k fi0).ino := rfl
      have hVe : verOf fs (k + 1) = (fs.getD k fi0).ver := rfl
      obtain ⟨b2, o2, c2, cp2, e2, -, -, q5, q6⟩ := HF.out.at hkl
      cases e2
      have q7 := cell_later hB q5
      rw [q3] at q7
      cases q7
      obtain ⟨x, hx⟩ : ∃ x, fs.getD k fi0 = x := ⟨_, rfl⟩
      rw [hx] at q1 q2 q3 q6 hrf hl9 hIn hVe
      obtain ⟨m, hm⟩ : ∃ m, x.lb.length = m := ⟨_, rfl⟩
      rw [hm] at q3 hl9
      have hsz : w.heap.size ≤ wr.heap.size := hB.size
      have hb1 := sup_pc wr (.cells #[.int .i64 x.ino, .int .i64 x.ver, .slice c m cp] FN)
      have HC := Lib.hid (file_any (k + 1) x.lb c m cp x.ino x.ver (Nat.succ_ne_zero k) hIn hVe (runP_ok _ HO.out hrun) (by omega) hm.symm hl9 (fun W hb => q6.below ((hB.trans (hb1.mono hsz)).trans hb)) (hq.later hb1) (Nat.le_trans hsz hb1.size))
      have HRf := Lib.hid hrf
      have HLs := Lib.hid hls
      have HB1 := Lib.hid (hB.trans (hb1.mono hsz))
      have k0 : (k : Int) < (fn : Int) := by omega
      clear hrun hls hq hB hkl q4 q5 q6 hmem hl9 hrf hIn hVe hx hb1
      go_wp2_with fail
      refine HC.out.mono ?_
      rintro e w2 ⟨hc, hb2⟩
      have HB2 := Lib.hid (HB1.out.trans hb2)
      clear hb2 q1 q2 q3
      rcases hc with ⟨s', hr, rfl, hq⟩ | ⟨hr, rfl⟩
      · have hls2 := runP_last _ hr
        have HR := Lib.hid (HRf.out.trans hr)
        have HQ := Lib.hid hq
        have HL2 : Hid (lastS s' ≤ k + 1) := by
          rcases hls2 with h | ⟨y, hy, h⟩
          · have := HLs.out; show _ ≤ _; omega
          · obtain ⟨z, _, rfl⟩ := List.mem_map.1 hy
            show _ ≤ _; rw [h]; exact Nat.le_refl _
        clear hr hq hls2 HRf HC
        go_wp2_with fail
        go_roundw
        case rel => exact ⟨k + 1, s', by omega, by simp, HR.out, HL2.out, HQ.out, HB2.out⟩
        case measure => simp [intOf]; omega
      · have HR := Lib.hid (run_none (is := is) left size (HRf.out.trans hr))
        clear hr HRf HC
        go_wp2
        go_ret2
        refine ⟨?_, HB2.out⟩
        rw [HR.out]
        rfl
    · have hkn : fs.take k = fs := by rw [List.take_of_length_le]; have := HN.out; omega
      rw [hkn] at hrun
      have HR := Lib.hid hrun
      have HQ := Lib.hid hq
      have HB := Lib.hid hB
      have k1 : ¬ (k : Int) < (fn : Int) := by omega
      clear hrun hq hB hkn hls
      go_wp2_with fail
      go_loopw [47] (fun t wr => PlRelI w fs is left size inn t wr) (fun t _ => inn - (intOf t).toNat)
      case atStart => exact ⟨0, s, Nat.zero_le _, rfl, by simpa using HR.out, HQ.out, HB.out⟩
      case round =>
        clear HR HQ HB k1 hk hlt
        obtain ⟨k, s, hk, rfl, hrun, hq, hB⟩ := hrel
        by_cases hlt : k < inn
        · have hkl : k < is.length := by rw [← HIn.out]; exact hlt
          obtain ⟨b, o, rfl, hc⟩ := HI.out (fun e => by rw [e] at hkl; cases hkl)
          have hck := cell_later hB (hc k hkl)
          have hri := run_ino left size hkl hrun
          obtain ⟨x, hx⟩ : ∃ x, is.getD k 0 = x := ⟨_, rfl⟩
          rw [hx] at hck hri
          have hsz : w.heap.size ≤ wr.heap.size := hB.size
          have HC := Lib.hid (inode_any x (runP_ok _ HO.out hrun) hq hsz)
          have HRi := Lib.hid hri
          have HB := Lib.hid hB
          have k0 : (k : Int) < (inn : Int) := by omega
          clear hrun hq hB hkl hc hri hx
          by_cases hN : (pstep size s ⟨0, x⟩).N ≤ 64
          · rw [decide_eq_true hN] at HC
            rw [if_pos hN] at HRi
            clear hN
            go_wp2_with fail
            refine HC.out.mono ?_
            rintro e w2 ⟨rfl, hq2, hb2⟩
            have HQ := Lib.hid hq2
            have HB2 := Lib.hid (HB.out.trans hb2)
            clear hq2 hb2 hck HC
            go_wp2_with fail
            go_roundw
            case rel => exact ⟨k + 1, _, by omega, by simp, HRi.out, HQ.out, HB2.out⟩
            case measure => simp [intOf]; omega
          · rw [decide_eq_false hN] at HC
            rw [if_neg hN] at HRi
            have HR := Lib.hid (run_none_i left size HRi.out)
            clear hN
            go_wp2_with fail
            refine HC.out.mono ?_
            rintro e w2 ⟨rfl, hq2, hb2⟩
            have HB2 := Lib.hid (HB.out.trans hb2)
            clear hq2 hb2 hck HC HRi
            go_wp2
            go_ret2
            refine ⟨?_, HB2.out⟩
            rw [HR.out]
            rfl
        · have hkn : is.take k = is := by rw [List.take_of_length_le]; have := HIn.out; omega
          rw [hkn] at hrun
          have HR := Lib.hid (show runP size (p0 left) (items fs is) = some s from hrun)
          have HB := Lib.hid hB
          have k1 : ¬ (k : Int) < (inn : Int) := by omega
          obtain ⟨pv, fv, av, hk2⟩ := hq
          have HK := Lib.hid hk2
          have t0 := hk2.top.cell 0
          simp at t0
          clear hrun hB hkn hk2
          go_wp2
          go_ret2
          refine ⟨?_, HB.out⟩
          rw [HR.out]
          exact ⟨pv, fv, av, rfl, HK.out.pm⟩
end
end Go.Proofs.Ytonlhkhjdnaojaa
