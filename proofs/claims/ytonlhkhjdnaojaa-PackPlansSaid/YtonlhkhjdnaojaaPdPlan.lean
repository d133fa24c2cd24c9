/-
  The document's pack: Plan.
-/
import Derived.Test.YtonlhkhjdnaojaaPdMem
import Derived.Test.YtonlhkhjdnaojaaPcPlan
import Derived.Test.YtonlhkhjdnaojaaObjInv
import Derived.Deep.MidRow
import Derived.Deep.Onto
import Derived.Deep.CutRange
namespace Go.Proofs.Ytonlhkhjdnaojaa
open Go.RowKit

def RpO (w : World) (L : List It) (left size : Int) (e : Ending) (w' : World) : Prop :=
  (match runP size (p0 left) L with
  | none => e = .returned (.tuple #[.slice none 0 0, .int .i64 27])
  | some s => ∃ pv sv, e = .returned (.tuple #[pv, .int .i64 0]) ∧ Rm w' w.heap.size pv sv s.N s.nw s.it) ∧ Below w.heap.size w w'
structure RpI (w : World) (L : List It) (left size : Int) (k : Nat) (s : Pl) (ov : Value) (wr : World) : Prop where
  run : runP size (p0 left) (L.take k) = some s
  mem : ∃ sv, Rm wr w.heap.size ov sv s.N s.nw s.it
  sm : 0 < s.N → smOk (s.it (s.N - 1))
  below : Below w.heap.size w wr
def RpRel (w : World) (L : List It) (left size : Int) (n : Nat) (lv ov t : Value) (wr : World) : Prop := ∃ k s, k ≤ n ∧ t = .int .i64 k ∧ lv = .int .i64 s.left ∧ RpI w L left size k s ov wr
theorem run_item {size : Int} {s0 s : Pl} {L : List It} {k : Nat} {x : It} (hx : L[k]? = some x) (h : runP size s0 (L.take k) = some s) : runP size s0 (L.take (k + 1)) = if (pstep size s x).N ≤ 64 then some (pstep size s x) else none := by
  rw [take_snocO L k x hx, runP_append, h]; rfl
theorem run_dead {size : Int} {s0 : Pl} {L : List It} {k : Nat} (h : runP size s0 (L.take k) = none) : runP size s0 L = none := by
  rw [← List.take_append_drop k L, runP_append, h]; rfl
theorem Rm.mono {w : World} {base b2 N : Nat} {pv : Value} {sv : Nat → Value} {nw : Nat → Bool} {it : Nat → List It} (h : Rm w base pv sv N nw it) (hb : b2 ≤ base) : Rm w b2 pv sv N nw it := ⟨h.row.mono hb, fun i hi => (h.its i hi).mono hb⟩
theorem smOk_one (x : It) : smOk [x] := fun k hk => by
  rcases Nat.eq_zero_or_pos k with h | h
  · subst h; show (bs []).sm ≤ 30; decide
  · rw [List.take_of_length_le (by show 1 ≤ k; omega)]; exact one_sm x
section
variable {w wr w' : World} {L : List It} {left size : Int} {k : Nat} {s : Pl} {ov v' : Value} {x : It}
theorem RpI.next (h : RpI w L left size k s ov wr) (hx : L[k]? = some x) (hf : fitsP s x = false) {sv' : Nat → Value} (hM : Rm w' w.heap.size v' sv' (s.N + 1) (upd s.nw s.N (decide (left1 s < 3))) (upd s.it s.N [x])) (hb : Below w.heap.size w w') (h64 : s.N + 1 ≤ 64) : RpI w L left size (k + 1) (pNext size s [x]) v' w' := by
  have e : pstep size s x = pNext size s [x] := by unfold pstep; rw [if_neg (by rw [hf]; exact Bool.false_ne_true)]
  refine ⟨?_, ⟨sv', hM⟩, fun _ => ?_, hb⟩
  · rw [run_item hx h.run, e, if_pos (show (pNext size s [x]).N ≤ 64 from h64)]
  · rw [pNext_cur]; exact smOk_one x
theorem RpI.dead (h : RpI w L left size k s ov wr) (hx : L[k]? = some x) (hf : fitsP s x = false) (h64 : ¬ s.N + 1 ≤ 64) : runP size (p0 left) L = none := by
  have e : pstep size s x = pNext size s [x] := by unfold pstep; rw [if_neg (by rw [hf]; exact Bool.false_ne_true)]
  refine run_dead (k := k + 1) ?_
  rw [run_item hx h.run, e, if_neg (show ¬ (pNext size s [x]).N ≤ 64 from h64)]
theorem RpI.put (h : RpI w L left size k s ov wr) (hO : PlOk size (p0 left)) (hx : L[k]? = some x) (hf : fitsP s x = true) {sv' : Nat → Value} (hM : Rm w' w.heap.size v' sv' s.N s.nw (upd s.it (s.N - 1) (s.it (s.N - 1) ++ [x]))) (hb : Below w.heap.size w w') : RpI w L left size (k + 1) (pPut s x) v' w' := by
  have e : pstep size s x = pPut s x := by unfold pstep; rw [if_pos hf]
  have hs := runP_ok _ hO h.run
  have hN : (pstep size s x).N ≤ 64 := by rw [e]; exact hs.n
  have hN0 : 0 < s.N := by
    unfold fitsP at hf
    simp only [Bool.and_eq_true, decide_eq_true_eq] at hf
    exact hf.1
  have h2 := pstep_ok hs x hN
  rw [e] at h2
  refine ⟨?_, ⟨sv', hM⟩, fun _ => ?_, hb⟩
  · rw [run_item hx h.run, if_pos hN, e]
  · have h3 := (h2.cur hN0).2.2.2
    rw [pPut_cur] at h3 ⊢
    exact smOk_snoc (h.sm hN0) h3
end
theorem rpc_one (b : Bool) (v : Value) (hv : v.oneCell' = true) : ∀ u ∈ [Value.bool b, v], u.oneCell' = true := fun u hu => by
  rcases List.mem_cons.1 hu with e | hu
  · rw [e]; rfl
  · rw [List.mem_singleton.1 hu]; exact hv
section
variable {w : World} {fs : List Fi} {is : List Int} (fa : Option Addr) (fn fc : Nat) (ia : Option Addr) (inn ic : Nat) (left size : Int)
set_option maxRecDepth 100000 in
set_option maxHeartbeats 8000000 in
theorem rplan_any (h : ¬ badP left size) (hF : Fis w fa fs) (hI : Ints w ia is) (hn : fn = fs.length) (hin : inn = is.length) (hfn : fn ≤ 300) (hi3 : inn ≤ 300) (hbl : blF fs ≤ 300) :
    Calls Try.prog 12 #[.slice fa fn fc, .slice ia inn ic, .int .i64 left, .int .i64 size] w (RpO w (items fs is) left size) := by
  have HO := Lib.hid (p0_ok left size h)
  have HIt := Lib.hid (ritems_any fa fn fc ia inn ic hF hI hn hin hfn hi3 hbl)
  have hlen : (items fs is).length ≤ 600 := by
    have : ∀ (l : List Fi) (k0 : Nat), (itF k0 l).length = blF l := fun l => by
      induction l with
      | nil => intro k0; rfl
      | cons x r ih => intro k0; rw [itF, List.length_append, List.length_map, ih]; simp [blF]
    unfold items
    rw [List.length_append, List.length_map, this]
    omega
  unfold badP at h
  have h1 : ¬ size < 8 := by omega
  have h2 : ¬ 64 < size := by omega
  have h3 : ¬ left < 0 := by omega
  have h4 : ¬ size < left := by omega
  generalize items fs is = L at *
  clear h hF hn hI hin
  go_enter Try.func12, Try.ntmps12
  go_wp2_with fail
  refine HIt.out.mono ?_
  rintro e w1 ⟨ia1, ic1, rfl, hro, hb1⟩
  have HR0 := Lib.hid (show RpI w1 L left size 0 (p0 left) (.slice none 0 0) w1 from ⟨rfl, ⟨_, rm_nil _ _ _ _⟩, fun h => absurd h (Nat.lt_irrefl 0), Below.refl _ _⟩)
  have HIr := Lib.hid (ItR.own hro)
  have HB1 := Lib.hid hb1
  obtain ⟨n, hn⟩ : ∃ n, L.length = n := ⟨_, rfl⟩
  rw [hn] at hlen
  simp only [hn]
  have HN := Lib.hid hn
  clear hro hb1 HIt hn
  go_wp2_with fail
  go_loopw [2, 10, 36] (fun lv ov t wr => RpRel w1 L left size n lv ov t wr) (fun _ _ t _ => n - (intOf t).toNat)
  case atStart => exact ⟨0, p0 left, Nat.zero_le _, rfl, rfl, HR0.out⟩
  case round =>
    clear HR0 h1 h2 h3 h4
    obtain ⟨k, s, hk, rfl, rfl, hR⟩ := hrel
    have HR := Lib.hid hR
    have HIw := Lib.hid (HIr.out.later hR.below)
    have HOk := Lib.hid (runP_ok _ HO.out hR.run)
    obtain ⟨sv, hM⟩ := hR.mem
    have hsz : w1.heap.size ≤ wr.heap.size := hR.below.size
    have HBw := Lib.hid hR.below
    clear hR
    by_cases hlt : k < n
    · obtain ⟨x, hx⟩ : ∃ x, L[k]? = some x := ⟨L[k]'(by have := HN.out; omega), List.getElem?_eq_getElem _⟩
      obtain ⟨ib, io, rfl, c1, c2⟩ := HIw.out k x hx
      have HX := Lib.hid hx
      obtain ⟨lv, hlv⟩ : ∃ lv, s.left = lv := ⟨_, rfl⟩
      have b1 := HOk.out.lf1
      have b2 := HOk.out.lf2
      have b3 := HOk.out.sz2
      have b4 := HOk.out.n
      have b5 := HOk.out.cur
      have hlf := left1_bd HOk.out
      have k0 : (0 : Int) ≤ (k : Int) := by omega
      have k1 : (k : Int) < (n : Int) := by omega
      obtain ⟨oa, oc, rfl, -⟩ := own_slice hM.row
      clear hx
      obtain ⟨N, hN⟩ : ∃ N, s.N = N := ⟨_, rfl⟩
      rw [hN] at hM
      rcases Nat.eq_zero_or_pos N with hN0 | hN0
      · subst hN0
        have hl1 : left1 s = lv := by unfold left1; rw [if_pos hN, hlv]
        have hf : fitsP s x = false := by unfold fitsP; rw [hN]; rfl
        rw [hl1] at hlf
        rw [hlv] at b1 b2
        have HF := Lib.hid hf
        have HL1 := Lib.hid hl1
        have HMq := Lib.hid hM
        have HN0 := Lib.hid hN
        have HBq := Lib.hid HBw.out
        simp only [hlv, hN]
        clear hlv hl1 hf hM b5 hN
        by_cases h3 : lv < 3
        · obtain ⟨wq, hwq⟩ : ∃ wq, wr = wq := ⟨_, rfl⟩
          subst hwq
          have HM1 := Lib.hid (HMq.out.later (sup_pc wr (.cells #[.int .i64 ((x.f : Int) - 1), .int .i64 x.n] ITM)))
          have hr1 : (wr.alloc (.cells #[.int .i64 ((x.f : Int) - 1), .int .i64 x.n] ITM)).ownsRow w1.heap.size ITM 2 (.slice (some ⟨wr.heap.size, 0, none⟩) 1 1) [x].length (rowX [x]) := World.ownsRow_lit wr #[.int .i64 ((x.f : Int) - 1), .int .i64 x.n] 1 HBq.out.size (by decide) rfl
          have hB1 := HBq.out.trans ((sup_pc wr (.cells #[.int .i64 ((x.f : Int) - 1), .int .i64 x.n] ITM)).mono HBq.out.size)
          have hs1 : (wr.alloc (.cells #[.int .i64 ((x.f : Int) - 1), .int .i64 x.n] ITM)).heap.size = wr.heap.size + 1 := by simp
          have hb2 := sup_pc (wr.alloc (.cells #[.int .i64 ((x.f : Int) - 1), .int .i64 x.n] ITM)) (.cells #[.bool true, .slice (some ⟨wr.heap.size, 0, none⟩) 1 1] RPC)
          have hbl := blo_laid (wr.alloc (.cells #[.int .i64 ((x.f : Int) - 1), .int .i64 x.n] ITM)) RPC #[.bool true, .slice (some ⟨wr.heap.size, 0, none⟩) 1 1]
          have HM5 := Lib.hid (HM1.out.later hb2)
          have HR5 := Lib.hid (own_later hr1 hb2)
          have HB5 := Lib.hid (hB1.trans (hb2.mono hB1.size))
          rw [hs1] at hbl
          have HL5 := Lib.hid hbl
          clear hr1 hB1 hb2 hs1 hbl HM1
          go_upto_region 15 with (fail)
          generalize (wr.alloc (.cells #[.int .i64 ((x.f : Int) - 1), .int .i64 x.n] ITM)).alloc (.cells #[.bool true, .slice (some ⟨wr.heap.size, 0, none⟩) 1 1] RPC) = w5 at *
          generalize wr.heap.size = b1 at *
          have y0 := HL5.out.cell 0
          have y1 := HL5.out.cell 1
          simp at y0 y1
          have hb8 := sup_pc w5 (.cells #[.bool true, .slice (some ⟨b1, 0, none⟩) 1 1] RPC)
          have HM8 := Lib.hid (HM5.out.later hb8)
          have HR8 := Lib.hid (own_later HR5.out hb8)
          have hz8 : w1.heap.size ≤ (w5.alloc (.cells #[.bool true, .slice (some ⟨b1, 0, none⟩) 1 1] RPC)).heap.size := Nat.le_trans HB5.out.size hb8.size
          have HB8 := Lib.hid (HB5.out.trans (hb8.mono HB5.out.size))
          clear hb8 HM5 HR5 HB5 c1 c2 HMq HBq
          go_wp2_with (at_builtin; refine wp_append_rowH rfl (.tmp 87) (.tmp 89) 34 rfl w1.heap.size RPC _ 2 32 Try.underlying34 info_rpc (by kernel_rfl) (by decide) (by decide) (.slice oa 0 oc) 0 _ rfl HM8.out.row (some ⟨w5.heap.size, 0, none⟩) 1 1 [.bool true, .slice (some ⟨b1, 0, none⟩) 1 1] rfl rfl (laid_src w5 RPC _ _ rfl) (rpc_one _ _ rfl) (fun h => by cases h) (by omega) hz8 ?_; intro a' cap' w7 hown hgrow hat; have HM' := Lib.hid (HM8.out.next hown hgrow HR8.out); have HB' := Lib.hid (HB8.out.grown hgrow hz8 (fun q e => (own_bd HM8.out.row e).1)); clear hown hgrow hat HM8 HR8 HB8 hz8 y0 y1 HL5)
          go_roundw
          case rel =>
            refine ⟨k + 1, pNext size s [x], by omega, by simp, ?_, HR.out.next HX.out HF.out (by rw [HN0.out, HL1.out, decide_eq_true h3]; exact HM'.out) HB'.out (by rw [HN0.out]; omega)⟩
            show _ = Value.int .i64 (if left1 s < 3 then size else left1 s)
            rw [HL1.out, if_pos h3]
          case measure => simp [intOf]; omega
        · skip
          have HM1 := Lib.hid (HMq.out.later (sup_pc wr (.cells #[.int .i64 ((x.f : Int) - 1), .int .i64 x.n] ITM)))
          have hr1 : (wr.alloc (.cells #[.int .i64 ((x.f : Int) - 1), .int .i64 x.n] ITM)).ownsRow w1.heap.size ITM 2 (.slice (some ⟨wr.heap.size, 0, none⟩) 1 1) [x].length (rowX [x]) := World.ownsRow_lit wr #[.int .i64 ((x.f : Int) - 1), .int .i64 x.n] 1 HBq.out.size (by decide) rfl
          have hB1 := HBq.out.trans ((sup_pc wr (.cells #[.int .i64 ((x.f : Int) - 1), .int .i64 x.n] ITM)).mono HBq.out.size)
          have hs1 : (wr.alloc (.cells #[.int .i64 ((x.f : Int) - 1), .int .i64 x.n] ITM)).heap.size = wr.heap.size + 1 := by simp
          have hb2 := sup_pc (wr.alloc (.cells #[.int .i64 ((x.f : Int) - 1), .int .i64 x.n] ITM)) (.cells #[.bool false, .slice (some ⟨wr.heap.size, 0, none⟩) 1 1] RPC)
          have hbl := blo_laid (wr.alloc (.cells #[.int .i64 ((x.f : Int) - 1), .int .i64 x.n] ITM)) RPC #[.bool false, .slice (some ⟨wr.heap.size, 0, none⟩) 1 1]
          have HM5 := Lib.hid (HM1.out.later hb2)
          have HR5 := Lib.hid (own_later hr1 hb2)
          have HB5 := Lib.hid (hB1.trans (hb2.mono hB1.size))
          rw [hs1] at hbl
          have HL5 := Lib.hid hbl
          clear hr1 hB1 hb2 hs1 hbl HM1
          go_upto_region 15 with (fail)
          generalize (wr.alloc (.cells #[.int .i64 ((x.f : Int) - 1), .int .i64 x.n] ITM)).alloc (.cells #[.bool false, .slice (some ⟨wr.heap.size, 0, none⟩) 1 1] RPC) = w5 at *
          generalize wr.heap.size = b1 at *
          have y0 := HL5.out.cell 0
          have y1 := HL5.out.cell 1
          simp at y0 y1
          have hb8 := sup_pc w5 (.cells #[.bool false, .slice (some ⟨b1, 0, none⟩) 1 1] RPC)
          have HM8 := Lib.hid (HM5.out.later hb8)
          have HR8 := Lib.hid (own_later HR5.out hb8)
          have hz8 : w1.heap.size ≤ (w5.alloc (.cells #[.bool false, .slice (some ⟨b1, 0, none⟩) 1 1] RPC)).heap.size := Nat.le_trans HB5.out.size hb8.size
          have HB8 := Lib.hid (HB5.out.trans (hb8.mono HB5.out.size))
          clear hb8 HM5 HR5 HB5 c1 c2 HMq HBq
          go_wp2_with (at_builtin; refine wp_append_rowH rfl (.tmp 87) (.tmp 89) 34 rfl w1.heap.size RPC _ 2 32 Try.underlying34 info_rpc (by kernel_rfl) (by decide) (by decide) (.slice oa 0 oc) 0 _ rfl HM8.out.row (some ⟨w5.heap.size, 0, none⟩) 1 1 [.bool false, .slice (some ⟨b1, 0, none⟩) 1 1] rfl rfl (laid_src w5 RPC _ _ rfl) (rpc_one _ _ rfl) (fun h => by cases h) (by omega) hz8 ?_; intro a' cap' w7 hown hgrow hat; have HM' := Lib.hid (HM8.out.next hown hgrow HR8.out); have HB' := Lib.hid (HB8.out.grown hgrow hz8 (fun q e => (own_bd HM8.out.row e).1)); clear hown hgrow hat HM8 HR8 HB8 hz8 y0 y1 HL5)
          go_roundw
          case rel =>
            refine ⟨k + 1, pNext size s [x], by omega, by simp, ?_, HR.out.next HX.out HF.out (by rw [HN0.out, HL1.out, decide_eq_false h3]; exact HM'.out) HB'.out (by rw [HN0.out]; omega)⟩
            show _ = Value.int .i64 (if left1 s < 3 then size else left1 s)
            rw [HL1.out, if_neg h3]
          case measure => simp [intOf]; omega
      · obtain ⟨m, rfl⟩ : ∃ m, N = m + 1 := ⟨N - 1, by omega⟩
        obtain ⟨gp, cp, sa, sc, hpv, hgb, hsv, hnil, hitr, hcb, hcs, hfz⟩ := hM.piece (Nat.lt_succ_self m)
        have b6 := b5 (by rw [hN]; omega)
        have hsm := HR.out.sm (by rw [hN]; omega)
        obtain ⟨l, hl⟩ : ∃ l, s.it m = l := ⟨_, rfl⟩
        obtain ⟨ql, hql⟩ : ∃ ql, l.length = ql := ⟨_, rfl⟩
        rw [hN, Nat.add_sub_cancel, hl, hql, hlv] at b6
        rw [hN, Nat.add_sub_cancel, hl] at hsm
        rw [hl] at hitr hsv hnil
        rw [hql] at hsv hnil
        rw [hsv] at hcs
        have hl1 : left1 s = lv - 2 - (ql : Int) := by unfold left1; rw [if_neg (by rw [hN]; omega), hN, Nat.add_sub_cancel, hl, hql, hlv]; omega
        have hfe : fitsP s x = fitsL (l ++ [x]) lv := by
          have h30 := hsm l.length (Nat.le_refl _)
          rw [List.take_length] at h30
          rw [fitsL_fitsB h30]
          unfold fitsP
          rw [hN, decide_eq_true (Nat.succ_pos m), Nat.add_sub_cancel, hl, hlv]; rfl
        have hft : ∀ W ag cg, W.ownsRow wr.heap.size ITM 2 (.slice ag (ql + 1) cg) (ql + 1) (rowX (l ++ [x])) → Calls Try.prog 21 #[.slice ag (ql + 1) cg, .int .i64 lv] W fun e w' => e = .returned (.bool (fitsP s x)) ∧ Below W.heap.size W w' := fun W ag cg ho => by
          rw [hfe]
          exact rfits_any W (l ++ [x]) ag (ql + 1) cg lv (ItR.own ho) (by simp [hql]) (by omega) (fun k hk => by
            rw [List.take_append_of_le_length (by omega)]; exact hsm k (by omega))
        rw [hl1] at hlf
        rw [hlv] at b1 b2
        have HL1 := Lib.hid hl1
        have HFt := Lib.hid hft
        have HM := Lib.hid hM
        have HN0 := Lib.hid hN
        have HQl := Lib.hid hql
        have HLv := Lib.hid hlv
        have HCs := Lib.hid hcs
        have HFz := Lib.hid hfz
        have HL := Lib.hid hl
        have b7 : ql ≤ 62 := by omega
        rw [hN] at b4
        have m0 : (0 : Int) ≤ (m : Int) := by omega
        have m1 : (m : Int) < (m : Int) + 1 := by omega
        have m2 : ¬ ((m : Int) + 1 ≤ (m : Int)) := by omega
        have k2 : ¬ n ≤ k := by omega
        have wm : IntKind.i64.wrap (m : Int) = (m : Int) := IntWalk.i64_in _ (by omega)
        simp only [hlv, hN]
        clear hlv hl1 hM b5 hN hsm hfe hft hsv hfz hcb hl
        cases hpv
        go_upto_region 10 with (fail)
        obtain ⟨RL, hRL⟩ : ∃ RL : List (Nat × ObjT), RL = [(0, ⟨rowP wr.heap.size ITM 2 0 [], 0, 0⟩), (7, ⟨rowP wr.heap.size ITM 2 ql (rowX l), 0, 1⟩), (12, ⟨rowP wr.heap.size ITM 2 1 (cellX x), 1, 0⟩), (13, ⟨rowP wr.heap.size ITM 2 (ql + 1) (rowX (l ++ [x])), 0, 2⟩)] := ⟨_, rfl⟩
        obtain ⟨TL, hTL⟩ : ∃ TL : List (Nat × Value), TL = [(1, .slice (some ⟨gp, 0, none⟩) (m + 1) oc), (2, .int .i64 ((m + 1 : Nat) : Int)), (3, .int .i64 (m : Int)), (4, .pointer (some ⟨gp, m * 2, none⟩)), (5, .pointer (some ⟨gp, m * 2 + 1, none⟩)), (6, .slice sa ql sc), (8, .slice (some ⟨ib, io, none⟩) n ic1), (9, .int .i64 (k : Int)), (10, .pointer (some ⟨ib, io + k * 2, none⟩)), (11, .agg #[.int .i64 ((x.f : Int) - 1), .int .i64 x.n])] := ⟨_, rfl⟩
        obtain ⟨CL, hCL⟩ : ∃ CL : List (Nat × Nat), CL = [(7, 0), (13, 0), (13, 7), (13, 12)] := ⟨_, rfl⟩
        have hKB : keysO RL := by rw [hRL]; exact keysO_of (by rfl)
        have hSB : stabs RL := by intro x hx; simp [hRL] at hx; rcases hx with rfl | rfl | rfl | rfl <;> exact stab_row _ _ _ _ _
        refine wp_region_inv (n := 14) [(0, 43), (1, 44), (2, 45), (3, 46), (4, 47), (5, 48), (6, 49), (7, 50), (8, 51), (9, 52), (10, 53), (11, 54), (12, 55), (13, 56)] (GI RL TL CL wr) (by kernel_rfl) (by kernel_rfl) (by kernel_rfl) (fun X => by simp only [putL, Act.put, List.setIfInBounds_toArray, List.set_cons_zero, List.set_cons_succ]; rfl) (fun X => GI.start (Below.refl _ _).drew) ?_ ?_
        · show StepsI _ _ _ _ _ 0 [_, _, _, _, _, _, _, _, _, _, _, _, _, _]
          refine ⟨fun D X W hDi hd hI K hK => ?_, ?_⟩
          · have n7 : D 7 = false := (by cases hq : D 7 with
                | false => rfl
                | true => rw [hI.cl (7, 0) (by simp [hCL]) hq] at hDi; cases hDi)
            have n13 : D 13 = false := (by cases hq : D 13 with
                | false => rfl
                | true => rw [hI.cl (13, 0) (by simp [hCL]) hq] at hDi; cases hDi)
            refine stepO_run (v := .slice (some ⟨W.heap.size, 0, none⟩) 0 0) (w' := W.alloc (.cells #[] ITM)) (by simp [Region.wanted]) (by simp [go_sem, execOp]) (hK _ _ ?_)
            exact hI.fresh hKB hSB 0 _ ⟨rowP wr.heap.size ITM 2 0 [], 0, 0⟩ (by simp [hRL]) (sup_pc W _) (fun q hq => by simp [blkOf] at hq; subst hq; simp) (by intro y hy e1 e2; simp [hRL] at hy; rcases hy with rfl | rfl | rfl | rfl <;> first | exact .inr n7 | exact .inr n13 | (exfalso; exact e2 rfl) | (exfalso; simp at e1; done) | fail) (World.ownsRow_lit W #[] 0 hI.size (by decide) rfl) (by simp [hTL]) (by simp [hCL])
          refine ⟨fun D X W hDi hd hI K hK => ?_, ?_⟩
          · exact stepO_run (v := .slice (some ⟨gp, 0, none⟩) (m + 1) oc) (w' := W) (by simp [Region.wanted]) (by simp [go_sem, execOp]) (hK _ _ (hI.tell hSB 1 _ (Below.refl _ _) (by simp [hRL]) (by simp [hTL]) (by simp [hCL])))
          refine ⟨fun D X W hDi hd hI K hK => ?_, ?_⟩
          · exact stepO_run (v := .int .i64 ((m + 1 : Nat) : Int)) (w' := W) (by simp [Region.wanted]) (by simp [go_sem, execOp]) (hK _ _ (hI.tell hSB 2 _ (Below.refl _ _) (by simp [hRL]) (by simp [hTL]) (by simp [hCL])))
          refine ⟨fun D X W hDi hd hI K hK => ?_, ?_⟩
          · have a2 := hI.dt (2, .int .i64 ((m + 1 : Nat) : Int)) (by simp [hTL]) (hd ⟨2, .data⟩ (by simp) rfl)
            exact stepO_run (v := .int .i64 (m : Int)) (w' := W) (by simp [Region.wanted]) (by simp [go_sem, execOp, a2, wm]) (hK _ _ (hI.tell hSB 3 _ (Below.refl _ _) (by simp [hRL]) (by simp [hTL]) (by simp [hCL])))
          refine ⟨fun D X W hDi hd hI K hK => ?_, ?_⟩
          · have a1 := hI.dt (1, .slice (some ⟨gp, 0, none⟩) (m + 1) oc) (by simp [hTL]) (hd ⟨1, .data⟩ (by simp) rfl)
            have a3 := hI.dt (3, .int .i64 (m : Int)) (by simp [hTL]) (hd ⟨3, .data⟩ (by simp) rfl)
            exact stepO_run (v := .pointer (some ⟨gp, m * 2, none⟩)) (w' := W) (by simp [Region.wanted]) (by simp [go_sem, execOp, a1, a3, m2]) (hK _ _ (hI.tell hSB 4 _ (Below.refl _ _) (by simp [hRL]) (by simp [hTL]) (by simp [hCL])))
          refine ⟨fun D X W hDi hd hI K hK => ?_, ?_⟩
          · have a4 := hI.dt (4, .pointer (some ⟨gp, m * 2, none⟩)) (by simp [hTL]) (hd ⟨4, .data⟩ (by simp) rfl)
            exact stepO_run (v := .pointer (some ⟨gp, m * 2 + 1, none⟩)) (w' := W) (by simp [Region.wanted]) (by simp [go_sem, execOp, a4]) (hK _ _ (hI.tell hSB 5 _ (Below.refl _ _) (by simp [hRL]) (by simp [hTL]) (by simp [hCL])))
          refine ⟨fun D X W hDi hd hI K hK => ?_, ?_⟩
          · have a5 := hI.dt (5, .pointer (some ⟨gp, m * 2 + 1, none⟩)) (by simp [hTL]) (hd ⟨5, .data⟩ (by simp) rfl)
            have cW := cell_later hI.b hcs
            exact stepO_run (v := .slice sa ql sc) (w' := W) (by simp [Region.wanted]) (by simp [go_sem, execOp, a5, cW]) (hK _ _ (hI.tell hSB 6 _ (Below.refl _ _) (by simp [hRL]) (by simp [hTL]) (by simp [hCL])))
          refine ⟨fun D X W hDi hd hI K hK => ?_, ?_⟩
          · have a6 := hI.dt (6, .slice sa ql sc) (by simp [hTL]) (hd ⟨6, .data⟩ (by simp) rfl)
            have n13 : D 13 = false := (by cases hq : D 13 with
                | false => rfl
                | true => rw [hI.cl (13, 7) (by simp [hCL]) hq] at hDi; cases hDi)
            have d0 := hd ⟨0, .data⟩ (by simp) rfl
            have r0 := hI.rows (0, ⟨rowP wr.heap.size ITM 2 0 [], 0, 0⟩) (by simp [hRL]) d0 (by intro y hy e1 e2; simp [hRL] at hy; rcases hy with rfl | rfl | rfl | rfl <;> first | exact hDi | exact n13 | (exfalso; simp at e1; done) | (exfalso; simp at e2; done) | fail)
            refine stepO_append (by simp [Region.wanted]) (.tmp 43) (.tmp 49) 41 rfl wr.heap.size ITM _ 2 16 Try.underlying41 info_itm (by kernel_rfl) (by decide) (by decide) (X 0) 0 [] (by simp [go_sem]) r0 sa ql sc (rowX l) (by simp [go_sem, a6]) (by rw [rowX_len, hql]) ((hitr.later hI.b).src) (rowX_one l) (fun e => (hnil e).1) (by omega) hI.size (fun v' w' ho hg hat => hK _ _ ?_)
            exact hI.onto hKB hSB 7 0 v' ⟨rowP wr.heap.size ITM 2 ql (rowX l), 0, 1⟩ ⟨rowP wr.heap.size ITM 2 0 [], 0, 0⟩ (by simp [hRL]) (by simp [hRL]) rfl d0 hg hat (by intro y hy e1 e2; simp [hRL] at hy; rcases hy with rfl | rfl | rfl | rfl <;> first | exact .inr n13 | (refine .inl ?_; simp; done) | (exfalso; exact e2 rfl) | (exfalso; simp at e1; done) | fail) (by unfold rowP; simpa using ho) (by simp [hTL]) (by intro y hy e; simp [hCL] at hy; rcases hy with rfl | rfl | rfl | rfl <;> first | exact d0 | (exfalso; simp at e; done) | fail)
          refine ⟨fun D X W hDi hd hI K hK => ?_, ?_⟩
          · exact stepO_run (v := .slice (some ⟨ib, io, none⟩) n ic1) (w' := W) (by simp [Region.wanted]) (by simp [go_sem, execOp]) (hK _ _ (hI.tell hSB 8 _ (Below.refl _ _) (by simp [hRL]) (by simp [hTL]) (by simp [hCL])))
          refine ⟨fun D X W hDi hd hI K hK => ?_, ?_⟩
          · exact stepO_run (v := .int .i64 (k : Int)) (w' := W) (by simp [Region.wanted]) (by simp [go_sem, execOp]) (hK _ _ (hI.tell hSB 9 _ (Below.refl _ _) (by simp [hRL]) (by simp [hTL]) (by simp [hCL])))
          refine ⟨fun D X W hDi hd hI K hK => ?_, ?_⟩
          · have a8 := hI.dt (8, .slice (some ⟨ib, io, none⟩) n ic1) (by simp [hTL]) (hd ⟨8, .data⟩ (by simp) rfl)
            have a9 := hI.dt (9, .int .i64 (k : Int)) (by simp [hTL]) (hd ⟨9, .data⟩ (by simp) rfl)
            exact stepO_run (v := .pointer (some ⟨ib, io + k * 2, none⟩)) (w' := W) (by simp [Region.wanted]) (by simp [go_sem, execOp, a8, a9, k2]) (hK _ _ (hI.tell hSB 10 _ (Below.refl _ _) (by simp [hRL]) (by simp [hTL]) (by simp [hCL])))
          refine ⟨fun D X W hDi hd hI K hK => ?_, ?_⟩
          · have a10 := hI.dt (10, .pointer (some ⟨ib, io + k * 2, none⟩)) (by simp [hTL]) (hd ⟨10, .data⟩ (by simp) rfl)
            have cA := cell_later hI.b c1
            have cB := cell_later hI.b c2
            exact stepO_run (v := .agg #[.int .i64 ((x.f : Int) - 1), .int .i64 x.n]) (w' := W) (by simp [Region.wanted]) (by simp [go_sem, execOp, a10, cA, cB]) (hK _ _ (hI.tell hSB 11 _ (Below.refl _ _) (by simp [hRL]) (by simp [hTL]) (by simp [hCL])))
          refine ⟨fun D X W hDi hd hI K hK => ?_, ?_⟩
          · have a11 := hI.dt (11, .agg #[.int .i64 ((x.f : Int) - 1), .int .i64 x.n]) (by simp [hTL]) (hd ⟨11, .data⟩ (by simp) rfl)
            have n13 : D 13 = false := (by cases hq : D 13 with
                | false => rfl
                | true => rw [hI.cl (13, 12) (by simp [hCL]) hq] at hDi; cases hDi)
            refine stepO_run (v := .slice (some ⟨W.heap.size, 0, none⟩) 1 1) (w' := W.alloc (.cells #[.int .i64 ((x.f : Int) - 1), .int .i64 x.n] ITM)) (by simp [Region.wanted]) (by simp [go_sem, execOp, a11]) (hK _ _ ?_)
            exact hI.fresh hKB hSB 12 _ ⟨rowP wr.heap.size ITM 2 1 (cellX x), 1, 0⟩ (by simp [hRL]) (sup_pc W _) (fun q hq => by simp [blkOf] at hq; subst hq; simp) (by intro y hy e1 e2; simp [hRL] at hy; rcases hy with rfl | rfl | rfl | rfl <;> first | (exfalso; exact e2 rfl) | (exfalso; simp at e1; done) | fail) (World.ownsRow_lit W #[.int .i64 ((x.f : Int) - 1), .int .i64 x.n] 1 hI.size (by decide) rfl) (by simp [hTL]) (by simp [hCL])
          refine ⟨fun D X W hDi hd hI K hK => ?_, ?_⟩
          · have d7 := hd ⟨7, .data⟩ (by simp) rfl
            have d12 := hd ⟨12, .data⟩ (by simp) rfl
            have d0 := hI.cl (7, 0) (by simp [hCL]) d7
            have r7 := hI.rows (7, ⟨rowP wr.heap.size ITM 2 ql (rowX l), 0, 1⟩) (by simp [hRL]) d7 (by intro y hy e1 e2; simp [hRL] at hy; rcases hy with rfl | rfl | rfl | rfl <;> first | exact hDi | (exfalso; simp at e1; done) | (exfalso; simp at e2; done) | fail)
            have r12 := hI.rows (12, ⟨rowP wr.heap.size ITM 2 1 (cellX x), 1, 0⟩) (by simp [hRL]) d12 (by intro y hy e1 e2; simp [hRL] at hy; rcases hy with rfl | rfl | rfl | rfl <;> first | (exfalso; simp at e1; done) | (exfalso; simp at e2; done) | fail)
            obtain ⟨g1, c1, h12, _⟩ := own_some r12 Nat.one_pos
            have h12' : X 12 = _ := h12
            have r12b : W.ownsRow wr.heap.size ITM 2 (.slice (some ⟨g1, 0, none⟩) 1 c1) 1 (cellX x) := h12 ▸ r12
            refine stepO_append (by simp [Region.wanted]) (.tmp 50) (.tmp 55) 41 rfl wr.heap.size ITM _ 2 16 Try.underlying41 info_itm (by kernel_rfl) (by decide) (by decide) (X 7) ql (rowX l) (by simp [go_sem]) r7 (some ⟨g1, 0, none⟩) 1 c1 (cellX x) (by simp [go_sem, h12']) rfl (Rds.add (Rds.own r12b)) (cellX_one x) (fun e => by cases e) (by omega) hI.size (fun v' w' ho hg hat => hK _ _ ?_)
            exact hI.onto hKB hSB 13 7 v' ⟨rowP wr.heap.size ITM 2 (ql + 1) (rowX (l ++ [x])), 0, 2⟩ ⟨rowP wr.heap.size ITM 2 ql (rowX l), 0, 1⟩ (by simp [hRL]) (by simp [hRL]) rfl d7 hg hat (by intro y hy e1 e2; simp [hRL] at hy; rcases hy with rfl | rfl | rfl | rfl <;> first | (refine .inl ?_; simp; done) | (exfalso; exact e2 rfl) | (exfalso; simp at e1; done) | fail) (by rw [rowX_snoc] at ho; exact ho) (by simp [hTL]) (by intro y hy e; simp [hCL] at hy; rcases hy with rfl | rfl | rfl | rfl <;> first | exact d0 | exact d7 | exact d12 | (exfalso; simp at e; done) | fail)
          exact True.intro
        · intro D X W hD hI
          have r13 := hI.rows (13, ⟨rowP wr.heap.size ITM 2 (ql + 1) (rowX (l ++ [x])), 0, 2⟩) (by simp [hRL]) (hD 13 (by decide)) (by intro y hy e1 e2; simp [hRL] at hy; rcases hy with rfl | rfl | rfl | rfl <;> first | (exfalso; simp at e1; done) | (exfalso; simp at e2; done) | fail)
          obtain ⟨ag, cg, h13, _⟩ := own_slice r13
          have h13' : X 13 = .slice ag (ql + 1) cg := h13
          have HR13 := Lib.hid (show W.ownsRow wr.heap.size ITM 2 (.slice ag (ql + 1) cg) (ql + 1) (rowX (l ++ [x])) from h13 ▸ r13)
          have HBr := Lib.hid hI.b
          clear hI hD hKB hSB hRL hTL hCL r13 h13
          clear hcs hitr hnil hql
          have hCs := cell_later HBr.out HCs.out
          have hc1 := cell_later HBr.out c1
          have hc2 := cell_later HBr.out c2
          simp only [h13']
          go_wp2_with fail
          refine (HFt.out _ _ _ HR13.out).mono ?_
          rintro e w2 ⟨rfl, hb2⟩
          clear m2 k2 wm
          have HM2 := Lib.hid (HM.out.later (HBr.out.trans (hb2.mono HBr.out.size)))
          have hV2 : w2.ownsRow w1.heap.size ITM 2 (.slice ag (ql + 1) cg) (ql + 1) (rowX (l ++ [x])) := (own_later HR13.out hb2).mono hsz
          have HV2 := Lib.hid hV2
          have HB2 := Lib.hid (HBw.out.trans ((HBr.out.trans (hb2.mono HBr.out.size)).mono hsz))
          have z0 := cell_later hb2 hCs
          have c1 := cell_later hb2 hc1
          have c2 := cell_later hb2 hc2
          clear hb2 hV2 hCs hc1 hc2 h13' HR13 HBr HFt HCs HFz HM
          cases hf : fitsP s x with
          | true =>
            have HF := Lib.hid hf
            obtain ⟨g2, cp2, sa2, sc2, e2, _, _, _, _, _, _, hfz⟩ := HM2.out.piece (Nat.lt_succ_self m)
            cases e2
            have z1 := hfz (m * 2 + 1)
            clear hf hfz c1 c2
            go_wp2_with fail
            go_roundw
            case rel =>
              have hql : (l ++ [x]).length = ql + 1 := by rw [List.length_append, HQl.out]; rfl
              refine ⟨k + 1, pPut s x, by omega, by simp, ?_, HR.out.put HO.out HX.out HF.out (sv' := upd sv m (.slice ag (ql + 1) cg)) ?_ ?_⟩
              · show _ = Value.int .i64 s.left
                rw [HLv.out]
              · rw [HN0.out, Nat.add_sub_cancel, HL.out]
                exact HM2.out.put (Nat.lt_succ_self m) rfl (by rw [hql]; exact HV2.out)
              · exact HB2.out.setCell (p := ⟨gp, m * 2 + 1, none⟩) hgb _
            case measure => simp [intOf]; omega
          | false =>
            have HF := Lib.hid hf
            have HMq := HM2
            have HBq := HB2
            clear hf HM2 HB2 HV2
            go_upto_region 14 with (fail)
            clear z0
            generalize lv - 2 - (ql : Int) = Lf at *
            by_cases h3 : Lf < 3
            · have HM1 := Lib.hid (HMq.out.later (sup_pc w2 (.cells #[.int .i64 ((x.f : Int) - 1), .int .i64 x.n] ITM)))
              have hr1 : (w2.alloc (.cells #[.int .i64 ((x.f : Int) - 1), .int .i64 x.n] ITM)).ownsRow w1.heap.size ITM 2 (.slice (some ⟨w2.heap.size, 0, none⟩) 1 1) [x].length (rowX [x]) := World.ownsRow_lit w2 #[.int .i64 ((x.f : Int) - 1), .int .i64 x.n] 1 HBq.out.size (by decide) rfl
              have hB1 := HBq.out.trans ((sup_pc w2 (.cells #[.int .i64 ((x.f : Int) - 1), .int .i64 x.n] ITM)).mono HBq.out.size)
              have hs1 : (w2.alloc (.cells #[.int .i64 ((x.f : Int) - 1), .int .i64 x.n] ITM)).heap.size = w2.heap.size + 1 := by simp
              have hb2 := sup_pc (w2.alloc (.cells #[.int .i64 ((x.f : Int) - 1), .int .i64 x.n] ITM)) (.cells #[.bool true, .slice (some ⟨w2.heap.size, 0, none⟩) 1 1] RPC)
              have hbl := blo_laid (w2.alloc (.cells #[.int .i64 ((x.f : Int) - 1), .int .i64 x.n] ITM)) RPC #[.bool true, .slice (some ⟨w2.heap.size, 0, none⟩) 1 1]
              have HM5 := Lib.hid (HM1.out.later hb2)
              have HR5 := Lib.hid (own_later hr1 hb2)
              have HB5 := Lib.hid (hB1.trans (hb2.mono hB1.size))
              rw [hs1] at hbl
              have HL5 := Lib.hid hbl
              clear hr1 hB1 hb2 hs1 hbl HM1
              go_upto_region 15 with (fail)
              generalize (w2.alloc (.cells #[.int .i64 ((x.f : Int) - 1), .int .i64 x.n] ITM)).alloc (.cells #[.bool true, .slice (some ⟨w2.heap.size, 0, none⟩) 1 1] RPC) = w5 at *
              generalize w2.heap.size = b1 at *
              have y0 := HL5.out.cell 0
              have y1 := HL5.out.cell 1
              simp at y0 y1
              have hb8 := sup_pc w5 (.cells #[.bool true, .slice (some ⟨b1, 0, none⟩) 1 1] RPC)
              have HM8 := Lib.hid (HM5.out.later hb8)
              have HR8 := Lib.hid (own_later HR5.out hb8)
              have hz8 : w1.heap.size ≤ (w5.alloc (.cells #[.bool true, .slice (some ⟨b1, 0, none⟩) 1 1] RPC)).heap.size := Nat.le_trans HB5.out.size hb8.size
              have HB8 := Lib.hid (HB5.out.trans (hb8.mono HB5.out.size))
              clear hb8 HM5 HR5 HB5 c1 c2 HMq HBq
              by_cases h64 : m + 1 + 1 ≤ 64
              · have j7 : ¬ (64 : Int) < (m : Int) + 1 + 1 := by omega
                go_wp2_with (at_builtin; refine wp_append_rowH rfl (.tmp 87) (.tmp 89) 34 rfl w1.heap.size RPC _ 2 32 Try.underlying34 info_rpc (by kernel_rfl) (by decide) (by decide) (.slice (some ⟨gp, 0, none⟩) (m + 1) oc) (m + 1) _ rfl HM8.out.row (some ⟨w5.heap.size, 0, none⟩) 1 1 [.bool true, .slice (some ⟨b1, 0, none⟩) 1 1] rfl rfl (laid_src w5 RPC _ _ rfl) (rpc_one _ _ rfl) (fun h => by cases h) (by omega) hz8 ?_; intro a' cap' w7 hown hgrow hat; have HM' := Lib.hid (HM8.out.next hown hgrow HR8.out); have HB' := Lib.hid (HB8.out.grown hgrow hz8 (fun q e => (own_bd HM8.out.row e).1)); clear hown hgrow hat HM8 HR8 HB8 hz8 y0 y1 HL5)
                go_roundw
                case rel =>
                  refine ⟨k + 1, pNext size s [x], by omega, by simp, ?_, HR.out.next HX.out HF.out (by rw [HN0.out, HL1.out, decide_eq_true h3]; exact HM'.out) HB'.out (by rw [HN0.out]; omega)⟩
                  show _ = Value.int .i64 (if left1 s < 3 then size else left1 s)
                  rw [HL1.out, if_pos h3]
                case measure => simp [intOf]; omega
              · have j7 : (64 : Int) < (m : Int) + 1 + 1 := by omega
                go_wp2_with (at_builtin; refine wp_append_rowH rfl (.tmp 87) (.tmp 89) 34 rfl w1.heap.size RPC _ 2 32 Try.underlying34 info_rpc (by kernel_rfl) (by decide) (by decide) (.slice (some ⟨gp, 0, none⟩) (m + 1) oc) (m + 1) _ rfl HM8.out.row (some ⟨w5.heap.size, 0, none⟩) 1 1 [.bool true, .slice (some ⟨b1, 0, none⟩) 1 1] rfl rfl (laid_src w5 RPC _ _ rfl) (rpc_one _ _ rfl) (fun h => by cases h) (by omega) hz8 ?_; intro a' cap' w7 hown hgrow hat; have HM' := Lib.hid (HM8.out.next hown hgrow HR8.out); have HB' := Lib.hid (HB8.out.grown hgrow hz8 (fun q e => (own_bd HM8.out.row e).1)); clear hown hgrow hat HM8 HR8 HB8 hz8 y0 y1 HL5)
                go_ret2
                refine ⟨?_, HB1.out.trans (HB'.out.mono HB1.out.size)⟩
                rw [HR.out.dead HX.out HF.out (by rw [HN0.out]; omega)]
                rfl
            · have HM1 := Lib.hid (HMq.out.later (sup_pc w2 (.cells #[.int .i64 ((x.f : Int) - 1), .int .i64 x.n] ITM)))
              have hr1 : (w2.alloc (.cells #[.int .i64 ((x.f : Int) - 1), .int .i64 x.n] ITM)).ownsRow w1.heap.size ITM 2 (.slice (some ⟨w2.heap.size, 0, none⟩) 1 1) [x].length (rowX [x]) := World.ownsRow_lit w2 #[.int .i64 ((x.f : Int) - 1), .int .i64 x.n] 1 HBq.out.size (by decide) rfl
              have hB1 := HBq.out.trans ((sup_pc w2 (.cells #[.int .i64 ((x.f : Int) - 1), .int .i64 x.n] ITM)).mono HBq.out.size)
              have hs1 : (w2.alloc (.cells #[.int .i64 ((x.f : Int) - 1), .int .i64 x.n] ITM)).heap.size = w2.heap.size + 1 := by simp
              have hb2 := sup_pc (w2.alloc (.cells #[.int .i64 ((x.f : Int) - 1), .int .i64 x.n] ITM)) (.cells #[.bool false, .slice (some ⟨w2.heap.size, 0, none⟩) 1 1] RPC)
              have hbl := blo_laid (w2.alloc (.cells #[.int .i64 ((x.f : Int) - 1), .int .i64 x.n] ITM)) RPC #[.bool false, .slice (some ⟨w2.heap.size, 0, none⟩) 1 1]
              have HM5 := Lib.hid (HM1.out.later hb2)
              have HR5 := Lib.hid (own_later hr1 hb2)
              have HB5 := Lib.hid (hB1.trans (hb2.mono hB1.size))
              rw [hs1] at hbl
              have HL5 := Lib.hid hbl
              clear hr1 hB1 hb2 hs1 hbl HM1
              go_upto_region 15 with (fail)
              generalize (w2.alloc (.cells #[.int .i64 ((x.f : Int) - 1), .int .i64 x.n] ITM)).alloc (.cells #[.bool false, .slice (some ⟨w2.heap.size, 0, none⟩) 1 1] RPC) = w5 at *
              generalize w2.heap.size = b1 at *
              have y0 := HL5.out.cell 0
              have y1 := HL5.out.cell 1
              simp at y0 y1
              have hb8 := sup_pc w5 (.cells #[.bool false, .slice (some ⟨b1, 0, none⟩) 1 1] RPC)
              have HM8 := Lib.hid (HM5.out.later hb8)
              have HR8 := Lib.hid (own_later HR5.out hb8)
              have hz8 : w1.heap.size ≤ (w5.alloc (.cells #[.bool false, .slice (some ⟨b1, 0, none⟩) 1 1] RPC)).heap.size := Nat.le_trans HB5.out.size hb8.size
              have HB8 := Lib.hid (HB5.out.trans (hb8.mono HB5.out.size))
              clear hb8 HM5 HR5 HB5 c1 c2 HMq HBq
              by_cases h64 : m + 1 + 1 ≤ 64
              · have j7 : ¬ (64 : Int) < (m : Int) + 1 + 1 := by omega
                go_wp2_with (at_builtin; refine wp_append_rowH rfl (.tmp 87) (.tmp 89) 34 rfl w1.heap.size RPC _ 2 32 Try.underlying34 info_rpc (by kernel_rfl) (by decide) (by decide) (.slice (some ⟨gp, 0, none⟩) (m + 1) oc) (m + 1) _ rfl HM8.out.row (some ⟨w5.heap.size, 0, none⟩) 1 1 [.bool false, .slice (some ⟨b1, 0, none⟩) 1 1] rfl rfl (laid_src w5 RPC _ _ rfl) (rpc_one _ _ rfl) (fun h => by cases h) (by omega) hz8 ?_; intro a' cap' w7 hown hgrow hat; have HM' := Lib.hid (HM8.out.next hown hgrow HR8.out); have HB' := Lib.hid (HB8.out.grown hgrow hz8 (fun q e => (own_bd HM8.out.row e).1)); clear hown hgrow hat HM8 HR8 HB8 hz8 y0 y1 HL5)
                go_roundw
                case rel =>
                  refine ⟨k + 1, pNext size s [x], by omega, by simp, ?_, HR.out.next HX.out HF.out (by rw [HN0.out, HL1.out, decide_eq_false h3]; exact HM'.out) HB'.out (by rw [HN0.out]; omega)⟩
                  show _ = Value.int .i64 (if left1 s < 3 then size else left1 s)
                  rw [HL1.out, if_neg h3]
                case measure => simp [intOf]; omega
              · have j7 : (64 : Int) < (m : Int) + 1 + 1 := by omega
                go_wp2_with (at_builtin; refine wp_append_rowH rfl (.tmp 87) (.tmp 89) 34 rfl w1.heap.size RPC _ 2 32 Try.underlying34 info_rpc (by kernel_rfl) (by decide) (by decide) (.slice (some ⟨gp, 0, none⟩) (m + 1) oc) (m + 1) _ rfl HM8.out.row (some ⟨w5.heap.size, 0, none⟩) 1 1 [.bool false, .slice (some ⟨b1, 0, none⟩) 1 1] rfl rfl (laid_src w5 RPC _ _ rfl) (rpc_one _ _ rfl) (fun h => by cases h) (by omega) hz8 ?_; intro a' cap' w7 hown hgrow hat; have HM' := Lib.hid (HM8.out.next hown hgrow HR8.out); have HB' := Lib.hid (HB8.out.grown hgrow hz8 (fun q e => (own_bd HM8.out.row e).1)); clear hown hgrow hat HM8 HR8 HB8 hz8 y0 y1 HL5)
                go_ret2
                refine ⟨?_, HB1.out.trans (HB'.out.mono HB1.out.size)⟩
                rw [HR.out.dead HX.out HF.out (by rw [HN0.out]; omega)]
                rfl
    · have hkn : L.take k = L := by rw [List.take_of_length_le]; have := HN.out; omega
      have hrun := HR.out.run
      rw [hkn] at hrun
      have HRn := Lib.hid hrun
      have HM := Lib.hid hM
      have k1 : ¬ (k : Int) < (n : Int) := by omega
      clear hkn hrun hM
      go_wp2
      go_ret2
      refine ⟨?_, HB1.out.trans (HBw.out.mono HB1.out.size)⟩
      rw [HRn.out]
      exact ⟨_, sv, rfl, HM.out.mono HB1.out.size⟩
end
end Go.Proofs.Ytonlhkhjdnaojaa
