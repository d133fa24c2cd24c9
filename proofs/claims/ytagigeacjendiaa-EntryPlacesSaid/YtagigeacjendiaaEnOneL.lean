/-
  EntryOne.
-/
import Derived.Test.YtagigeacjendiaaEnDirsL
import Derived.Test.YtagigeacjendiaaQuiet
namespace Go.Proofs.Ytagigeacjendiaa
open Go.RowKit Go.BigFrame

theorem quiet_row {P : Program} {C : World → Prop} {K : Act → Prop} {a : Act} {o : Oper} (ty : TypeId) (x : Operand) (ho : o.op = .load ty x)
    (g : Nat) (hx : a.eval x = .pointer (some ⟨g, 0, none⟩)) (t : TypeId) (cs : Array Value) (fr : Nat × Nat) (d : TypeDesc) (hg : ∀ W, C W → W.heap[g]? = some (.cells cs t fr))
    (hu : P.underlying ty = some d) (hd : (match d with | .struct _ | .array _ _ => true | _ => false) = true) (hi : (P.info? ty).map (·.size) = some cs.size)
    (h : K (a.put o.dst (.agg cs))) : o.quiet P a C K := by
  refine ⟨.agg cs, fun W hC => ?_, h⟩
  unfold Oper.quietAt execOp
  simp only [ho, hx, Instr.loadAt, Instr.sureAddr, Sem.run_bind, Sem.run_pure, Result.andThen_ok, run_loadVar_row W g t ty cs fr d (hg W hC) hu hd hi]
  exact ⟨rfl, rfl⟩
theorem sDrN {B : Nat} {a w : World} (h : Below B a w) (n : Nat) : Below B a (w.drewN n) := ⟨h.os, h.tape, h.output, h.size, h.block⟩
theorem encDK_inj {I I' : Nat → Int} {N N' : Nat → ByteArray} (h : AllGD I N 4) (h' : AllGD I' N' 4) (he : encDK I N 4 = encDK I' N' 4) : Same4 I I' N N' := fun i hi => by
  have h1 := rdI_enc I N i hi h
  have h2 := rdI_enc I' N' i hi h'
  have h3 := rdN_enc I N i hi h
  have h4 := rdN_enc I' N' i hi h'
  rw [he] at h1 h3
  exact ⟨h1.symm.trans h2, h3.symm.trans h4⟩
set_option maxRecDepth 100000 in
set_option maxHeartbeats 8000000 in
theorem entryOne_walk (I : Nat → Int) (N : Nat → ByteArray) (I' : Nat → Int) (N' : Nat → ByteArray) (w : World) (hf : FitD I N) (hf' : FitD I' N') : Calls Try.prog 8 #[.agg (cells8 I N), .agg (cells8 I' N')] w fun e w' => e = .returned (.bool true) ∧ Below w.heap.size w w' := by
  have HB0 := Lib.hid (((Below.refl w.heap.size w).alloc (Nat.le_refl _) (.cells (cells8 I N) A4D)).alloc (by simp) (.cells (cells8 I' N') A4D))
  have HM0 := Lib.hid ((blo_laid w A4D (cells8 I N)).alloc (.cells (cells8 I' N') A4D))
  have hp := blo_laid (w.alloc (.cells (cells8 I N) A4D)) A4D (cells8 I' N')
  rw [show (w.alloc (.cells (cells8 I N) A4D)).heap.size = w.heap.size + 1 by simp] at hp
  have HP0 := Lib.hid hp
  clear hp
  have HI := Lib.hid (info_a4g I N)
  have HI' := Lib.hid (info_a4g I' N')
  have HMb : Hid (∀ W, Calls Try.prog 14 #[.agg (cells8 I N)] W (DbO W I N)) := fun W => dirBlock_any I N W hf
  have HMb' : Hid (∀ W, Calls Try.prog 14 #[.agg (cells8 I' N')] W (DbO W I' N')) := fun W => dirBlock_any I' N' W hf'
  obtain ⟨r, hr, heq⟩ := equal_a4 I I' N N' hf hf'
  have HEq := Lib.hid heq
  have HR : Hid (AllGD I N 4 → AllGD I' N' 4 → ((strOf (encDK I N 4)).toList == (strOf (encDK I' N' 4)).toList) = r) := fun h1 h2 => by
    rw [Bool.eq_iff_iff, beq_iff_eq, hr]
    constructor
    · intro he
      rw [Lib.toList_data, Lib.toList_data] at he
      exact encDK_inj h1 h2 (strOf_inj (encDK_byte I N 4) (encDK_byte I' N' 4) (str_extE he))
    · intro hs
      rw [encDK_congr 4 hs]
  have hu := Try.underlying40
  have HAt := Lib.hid (cells8_at I N)
  have HAt' := Lib.hid (cells8_at I' N')
  have HEl : Hid (AllGD I N 4 → (encDK I N 4).length = 64) := encDK_len I N 4
  have HEl' : Hid (AllGD I' N' 4 → (encDK I' N' 4).length = 64) := encDK_len I' N' 4
  have HEb := Lib.hid (encDK_byte I N 4)
  have HEb' := Lib.hid (encDK_byte I' N' 4)
  clear hf hf' hr heq
  unfold DbO at HMb HMb'
  generalize cells8 I N = CS at *
  generalize cells8 I' N' = CS' at *
  generalize encDK I N 4 = ek at *
  generalize encDK I' N' 4 = ek' at *
  generalize AllGD I N 4 = AG at *
  generalize AllGD I' N' 4 = AG' at *
  go_enter Try.func8, Try.ntmps8
  go_wp2_with fail
  refine (awake_any _).mono ?_
  rintro e w1 ⟨rfl, hb1⟩
  have HB1 := Lib.hid (HB0.out.trans (hb1.mono HB0.out.size))
  have HM1 := Lib.hid (HM0.out.later hb1)
  have HP1 := Lib.hid (HP0.out.later hb1)
  clear hb1 HB0 HM0 HP0
  go_wp2_with fail
  go_loopw [5, 12] (fun _ t wq => DnR w1 t wq) (fun _ t _ => 4 - (intOf t).toNat)
  case atStart => exact ⟨0, by decide, rfl, rfl⟩
  case round =>
    obtain ⟨k, hk, rfl, rfl⟩ := hrel
    by_cases hlt : k < 4
    · have k0 : (0 : Int) ≤ (k : Int) := by omega
      have k1 : (k : Int) < 4 := by omega
      have HKn : Hid (k < 4) := hlt
      have d1 := (HAt.out k hlt).2
      rw [← HM1.out.cell] at d1
      have d2 := (HAt'.out k hlt).2
      rw [← HP1.out.cell] at d2
      clear hlt hk
      generalize N k = nk at *
      generalize N' k = nk' at *
      by_cases hbig : 300 < nk.size
      · have hb' : (300 : Int) < (nk.size : Int) := by omega
        clear hbig
        go_wp2_with fail
        go_ret
        exact ⟨rfl, HB1.out⟩
      · have hb' : ¬ (300 : Int) < (nk.size : Int) := by omega
        clear hbig
        by_cases hbig : 300 < nk'.size
        · have hb2 : (300 : Int) < (nk'.size : Int) := by omega
          clear hbig
          go_wp2_with fail
          go_ret
          exact ⟨rfl, HB1.out⟩
        · have hb2 : ¬ (300 : Int) < (nk'.size : Int) := by omega
          clear hbig
          go_wp2_with fail
          go_roundw
          case rel => exact ⟨k + 1, HKn.out, by go_num, rfl⟩
          case measure => simp [intOf]; have := HKn.out; omega
    · have k1 : ¬ (k : Int) < 4 := by omega
      clear hlt hk HAt HAt'
      go_wp2_with (refine wpList_load_row rfl A4D (.tmp 2) rfl w.heap.size rfl A4D CS (0, 0) _ HM1.out hu rfl HI.out ?_)
      refine (HMb.out _).mono ?_
      rintro e w2 ⟨h1, hb2⟩
      have HB2 := Lib.hid (HB1.out.trans (hb2.mono HB1.out.size))
      have HM2 := Lib.hid (HM1.out.later hb2)
      have HP2 := Lib.hid (HP1.out.later hb2)
      clear HB1 HM1 HP1
      have fst : ∃ (a : Option Addr) (m c : Nat) (e1 : Int), e = .returned (.tuple #[.slice a m c, .int .i64 e1]) ∧ ((e1 = 0 ∧ AG ∧ m = 64 ∧ Bytes w2 a ek) ∨ e1 = 22) := by
        rcases h1 with ⟨hag, a, cap, rfl, ho⟩ | ⟨hag, rfl⟩
        · obtain ⟨a', cap', hva, -, hby, -⟩ := Bytes.own ho HEb.out
          cases hva
          exact ⟨a, 64, cap, 0, rfl, .inl ⟨rfl, hag, rfl, hby⟩⟩
        · exact ⟨none, 0, 0, 22, rfl, .inr rfl⟩
      obtain ⟨a1, m1, c1, e1, rfl, hx1⟩ := fst
      have HX1 := Lib.hid hx1
      clear h1 hx1 hb2
      go_wp2_with (refine wpList_load_row rfl A4D (.tmp 3) rfl (w.heap.size + 1) rfl A4D CS' (0, 0) _ HP2.out hu rfl HI'.out ?_)
      refine (HMb'.out _).mono ?_
      rintro e w3 ⟨h1, hb3⟩
      have HB3 := Lib.hid (HB2.out.trans (hb3.mono HB2.out.size))
      have HM3 := Lib.hid (HM2.out.later hb3)
      have HP3 := Lib.hid (HP2.out.later hb3)
      have fst : ∃ (a : Option Addr) (m c : Nat) (e2 : Int), e = .returned (.tuple #[.slice a m c, .int .i64 e2]) ∧ ((e2 = 0 ∧ AG' ∧ m = 64 ∧ Bytes w3 a ek') ∨ e2 = 22) := by
        rcases h1 with ⟨hag, a, cap, rfl, ho⟩ | ⟨hag, rfl⟩
        · obtain ⟨a', cap', hva, -, hby, -⟩ := Bytes.own ho HEb'.out
          cases hva
          exact ⟨a, 64, cap, 0, rfl, .inl ⟨rfl, hag, rfl, hby⟩⟩
        · exact ⟨none, 0, 0, 22, rfl, .inr rfl⟩
      obtain ⟨a2, m2, c2, e2, rfl, hx2⟩ := fst
      have HX2 := Lib.hid hx2
      have HB3' := Lib.hid hb3
      clear h1 hx2 hb3 HB2 HM2 HP2
      rcases HX1.out with ⟨rfl, g1, rfl, y1⟩ | rfl
      · rcases HX2.out with ⟨rfl, g2, rfl, y2⟩ | rfl
        · have t1 : ∀ x : Kept w3, (convert 26 9 (.slice a1 64 c1)).run Try.prog x.at_ = .ok (.string (strOf ek)) x.at_ := fun x => text_of ((y1.below HB3'.out).below x.below) 64 c1 (HEl.out g1).symm
          have t2 : ∀ x : Kept w3, (convert 26 9 (.slice a2 64 c2)).run Try.prog x.at_ = .ok (.string (strOf ek')) x.at_ := fun x => text_of (y2.below x.below) 64 c2 (HEl'.out g2).symm
          have HRr := Lib.hid (HR.out g1 g2)
          have heq := HEq.out
          have heq2 : ∀ W, (binOp .eql A4D (.agg CS) (.agg CS')).run Try.prog W = .ok (.bool r) W := fun W => by
            have h := heq W
            rw [show (10000 : Nat) = Op.maxDepth from rfl] at h
            simp [binOp, Op.equal, h]
          have HL1 : Hid (∀ W, (∃ x : Kept w3, W = x.at_) → W.heap[w.heap.size]? = some (.cells CS A4D (0, 0))) := fun W ⟨x, hx⟩ => by rw [hx]; exact HM3.out.later x.below
          have HL2 : Hid (∀ W, (∃ x : Kept w3, W = x.at_) → W.heap[w.heap.size + 1]? = some (.cells CS' A4D (0, 0))) := fun W ⟨x, hx⟩ => by rw [hx]; exact HP3.out.later x.below
          have hrr : (r == r) = true := by simp
          have hs12 := HRr.out
          clear y1 y2 g1 g2 HX1 HX2 HR HRr
          generalize strOf ek = s1 at *
          generalize strOf ek' = s2 at *
          go_wp2_with fail
          refine wp_region_kept (by kernel_rfl) (by kernel_rfl) ?_
          repeat (go_big_quiet_step (fail))
          go_big_quiet_want
          refine quiet_row A4D (.tmp 2) rfl w.heap.size rfl A4D CS (0, 0) _ HL1.out hu rfl HI.out ?_
          simp only [Act.put, List.setIfInBounds_toArray, List.set_cons_succ, List.set_cons_zero]
          go_big_quiet_on
          go_big_quiet_want
          refine quiet_row A4D (.tmp 3) rfl (w.heap.size + 1) rfl A4D CS' (0, 0) _ HL2.out hu rfl HI'.out ?_
          simp only [Act.put, List.setIfInBounds_toArray, List.set_cons_succ, List.set_cons_zero]
          go_big_quiet_on
          repeat (go_big_quiet_step (fail))
          refine wpQuiet_nil ?_
          rintro W ⟨wx, rfl⟩
          go_wp2_with fail
          go_ret
          exact ⟨rfl, HB3.out.trans (wx.below.mono HB3.out.size)⟩
        · clear HX1 HX2 g1 y1
          go_wp2_with fail
          refine wp_region_kept (by kernel_rfl) (by kernel_rfl) ?_
          repeat (go_big_quiet_step (fail))
          refine wpQuiet_nil ?_
          rintro W ⟨wx, rfl⟩
          go_wp2_with fail
          go_ret
          exact ⟨rfl, HB3.out.trans (wx.below.mono HB3.out.size)⟩
      · rcases HX2.out with ⟨rfl, g2, rfl, y2⟩ | rfl
        · clear HX1 HX2 g2 y2
          go_wp2_with fail
          refine wp_region_kept (by kernel_rfl) (by kernel_rfl) ?_
          repeat (go_big_quiet_step (fail))
          refine wpQuiet_nil ?_
          rintro W ⟨wx, rfl⟩
          go_wp2_with fail
          go_ret
          exact ⟨rfl, HB3.out.trans (wx.below.mono HB3.out.size)⟩
        · clear HX1 HX2
          go_wp2_with fail
          refine wp_region_kept (by kernel_rfl) (by kernel_rfl) ?_
          repeat (go_big_quiet_step (fail))
          refine wpQuiet_nil ?_
          rintro W ⟨wx, rfl⟩
          go_wp2_with fail
          go_ret
          exact ⟨rfl, HB3.out.trans (wx.below.mono HB3.out.size)⟩
end Go.Proofs.Ytagigeacjendiaa
