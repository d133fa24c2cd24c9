/-
  The document's Decode: its three loops: that reads a file's numbers, that reads the files, that reads the inodes.
-/
import Derived.Test.YtkdjfhbdcfjnnaaSwRDf
import Derived.BigRegion
import Derived.Deep.CutBlock
import Derived.Deep.DeepCutAuto
namespace Go.Proofs.Ytkdjfhbdcfjnnaa
open Go.RowKit

set_option maxRecDepth 1000000 in
set_option maxHeartbeats 16000000 in
theorem dec_loop3 {w : World} {W : List Nat} (hWl : ∀ y ∈ W, y < 256) (hW8 : W.length = 88) (P : Nat) (e0 c0 i0 p0 X0 : Int) (a : Option Addr) (cp : Nat) (fa : Option Addr) (k fc nf : Nat) (av : Nat → Value) (FB : Nat) (b0 a1 : Int) (o nl : Nat) (hoB : o < 88) (hnl : nl < 256) (hPF : P < FB)
    (hwF : ∀ g, (Value.slice a 88 cp).ownBlock = some g → g < FB) (hLt : FoLt FB (.slice fa k fc) av k) (v0 : Int) (hv0 : v0 = ((o + 4 + 2 * 0 : Nat) : Int)) {wf : World}
    (hP3 : Dr w W e0 c0 i0 p0 X0 P (.slice fa k fc) (.slice none 0 0) (.slice a 88 cp) wf) (hX3 : Blo wf FB FN #[.int .i64 b0, .int .i64 a1, .slice none 0 0]) (hF3 : Fo wf (P + 1) (.slice fa k fc) av (filesD W nf) k) (hS3 : FB < wf.heap.size)
    (s0 s1 s2 s3 s4 s5 s7 s8 s10 s14 s15 s16 s17 s18 s19 s20 s21 s22 s23 s24 s25 s26 s27 s28 s29 s30 s31 s32 s33 s34 s35 s36 s37 s38 s39 s40 s41 s42 s43 s44 s45 s46 s47 s48 s49 s50 s51 s52 s53 s54 s55 s56 s57 s58 s59 s60 s61 s62 s63 s64 s65 s66 s67 s68 s69 s70 s71 s72 s73 s74 s75 s76 s77 s78 s79 s80 s81 s82 s83 s84 s85 s86 s87 s88 s89 s90 s91 s92 s93 s94 s95 s96 s97 s98 s99 s100 s101 s102 s103 s104 s105 s106 s107 s108 s109 s110 s111 s112 s113 s114 s115 s116 s117 s118 s119 s120 s121 s122 s123 s124 s125 s126 s127 s128 s129 s130 s131 s132 s133 s134 s135 s136 s137 s138 s139 s140 s141 s142 s143 s144 s145 s146 s147 s148 s149 s150 s151 s152 s153 s154 s155 s156 s157 s158 s159 s160 s161 s162 s163 s164 s165 s166 s167 s168 s169 s170 s171 s172 s173 s174 s175 s176 s177 s178 s179 s180 s181 : Value) (K : Exit → Act → World → Prop) (hKp : ∀ c (x : Act) (q : Option Nat) v W', K (.panic c) (x.put q v) W' → K (.panic c) x W')
    (hK : ∀ (u9 u13 u115 u116 u117 u118 u119 u120 u121 u122 u123 u124 u125 u126 u127 u128 u129 u130 u131 u132 u133 u134 u135 u136 u137 u138 u139 u140 : Value) (wx : World), D3E w W P e0 c0 i0 p0 X0 (.slice a 88 cp) (.slice fa k fc) nf k av FB b0 a1 o nl u9 wx → K .normal ⟨#[s0, s1, s2, s3, s4, s5, .slice a 88 cp, s7, s8, u9, s10, .pointer (some ⟨FB, 0, none⟩), .int .i64 nl, u13, s14, s15, s16, s17, s18, s19, s20, s21, s22, s23, s24, s25, s26, s27, s28, s29, s30, s31, s32, s33, s34, s35, s36, s37, s38, s39, s40, s41, s42, s43, s44, s45, s46, s47, s48, s49, s50, s51, s52, s53, s54, s55, s56, s57, s58, s59, s60, s61, s62, s63, s64, s65, s66, s67, s68, s69, s70, s71, s72, s73, s74, s75, s76, s77, s78, s79, s80, s81, s82, s83, s84, s85, s86, s87, s88, s89, s90, s91, s92, s93, s94, s95, s96, s97, s98, s99, s100, s101, s102, s103, s104, s105, s106, s107, s108, s109, s110, s111, s112, s113, s114, u115, u116, u117, u118, u119, u120, u121, u122, u123, u124, u125, u126, u127, u128, u129, u130, u131, u132, u133, u134, u135, u136, u137, u138, u139, u140, s141, s142, s143, s144, s145, s146, s147, s148, s149, s150, s151, s152, s153, s154, s155, s156, s157, s158, s159, s160, s161, s162, s163, s164, s165, s166, s167, s168, s169, s170, s171, s172, s173, s174, s175, s176, s177, s178, s179, s180, s181], []⟩ wx) :
    Code.wp Try.prog (rdBlk 4) K ⟨#[s0, s1, s2, s3, s4, s5, .slice a 88 cp, s7, s8, .int .i64 v0, s10, .pointer (some ⟨FB, 0, none⟩), .int .i64 nl, .int .i64 0, s14, s15, s16, s17, s18, s19, s20, s21, s22, s23, s24, s25, s26, s27, s28, s29, s30, s31, s32, s33, s34, s35, s36, s37, s38, s39, s40, s41, s42, s43, s44, s45, s46, s47, s48, s49, s50, s51, s52, s53, s54, s55, s56, s57, s58, s59, s60, s61, s62, s63, s64, s65, s66, s67, s68, s69, s70, s71, s72, s73, s74, s75, s76, s77, s78, s79, s80, s81, s82, s83, s84, s85, s86, s87, s88, s89, s90, s91, s92, s93, s94, s95, s96, s97, s98, s99, s100, s101, s102, s103, s104, s105, s106, s107, s108, s109, s110, s111, s112, s113, s114, s115, s116, s117, s118, s119, s120, s121, s122, s123, s124, s125, s126, s127, s128, s129, s130, s131, s132, s133, s134, s135, s136, s137, s138, s139, s140, s141, s142, s143, s144, s145, s146, s147, s148, s149, s150, s151, s152, s153, s154, s155, s156, s157, s158, s159, s160, s161, s162, s163, s164, s165, s166, s167, s168, s169, s170, s171, s172, s173, s174, s175, s176, s177, s178, s179, s180, s181], []⟩ wf := by
  have HWl := Lib.hid hWl
  have HW8 := Lib.hid hW8
  have HBL : Hid (∀ i, at' W i < 256) := fun i => at_lt hWl i
  have HK := Lib.hid hK
  have HKp := Lib.hid hKp
  clear hWl hW8 hK hKp
  have HLt := Lib.hid hLt
  have HP3 := Lib.hid hP3
  have HX3 := Lib.hid hX3
  have HF3 := Lib.hid hF3
  have HS3 := Lib.hid hS3
  clear hLt hP3 hX3 hF3 hS3
  conv => arg 2; whnf
  go_wp2_with fail
  go_loopw [9, 13] (fun v t wr => D3R w W P e0 c0 i0 p0 X0 (.slice a 88 cp) (.slice fa k fc) nf k av FB b0 a1 o nl v t wr) (fun _ t _ => nl - (intOf t).toNat)
  case atStart => exact ⟨0, none, 0, Nat.zero_le _, rfl, (by first | rw [hv0] | simp), .inl rfl, HP3.out, HX3.out, ⟨by simp [lbAt, cellsI], .inl ⟨rfl, rfl⟩⟩, HF3.out, HS3.out⟩
  case round =>
    clear HP3 HX3 HF3 HS3
    rename World => wq
    clear hv0
    obtain ⟨j, la, lc, hj, rfl, rfl, hj90, hP, hX, hO, hF, hsz⟩ := hrel
    have HP := Lib.hid hP
    have HX := Lib.hid hX
    have HO := Lib.hid hO
    have HF := Lib.hid hF
    have HZ := Lib.hid hsz
    clear hP hX hO hF hsz
    obtain ⟨q, hq⟩ : ∃ q, o + 4 + 2 * j = q := ⟨_, rfl⟩
    rw [hq] at hj90
    rw [hq]
    by_cases hjl : j < nl ∧ q < 88
    · obtain ⟨hjl, hq88⟩ := hjl
      have i1 : (j : Int) < (nl : Int) := by omega
      have i2 : (q : Int) < 88 := by omega
      go_wp2_with fail
      refine wp_region_any (by kernel_rfl) ?_
      change wpAny _ _ _ _ _ _ _ (World.drew _)
      have HPd := Lib.hid HP.out.drew
      have HXd : Hid (Blo wq.drew FB FN #[.int .i64 b0, .int .i64 a1, .slice la j lc]) := HX.out
      have HOd : Hid (wq.drew.ownsRow (FB + 1) IT 1 (.slice la j lc) j (cellsI (lbAt W (o + 4) j))) := HO.out
      have HFd : Hid (Fo wq.drew (P + 1) (.slice fa k fc) av (filesD W nf) k) := ⟨HF.out.row, HF.out.its⟩
      have HZd : Hid (FB < wq.drew.heap.size) := HZ.out
      clear HP HX HO HF HZ
      generalize wq.drew = wd at *
      have d2 := HXd.out.cell 2
      simp at d2
      have hA1 := HPd.out.atZ HWl.out HW8.out q q rfl (by omega)
      have hA2 := HPd.out.atZ HWl.out HW8.out ((q : Int) + 1) (q + 1) (by omega) (by omega)
      have q1 := HBL.out q
      have q2 := HBL.out (q + 1)
      have hv : lbAt W (o + 4) (j + 1) = lbAt W (o + 4) j ++ [((v2 W q : Nat) : Int) - 1000] := by rw [lbAt_snoc, hq]
      have hx : ((v2 W q : Nat) : Int) = (at' W q : Nat) + 256 * (at' W (q + 1) : Nat) := by
        have : v2 W q = at' W q + 256 * at' W (q + 1) := rfl
        rw [this]; omega
      rw [hx] at hv
      obtain ⟨y1, hy1⟩ : ∃ n, at' W q = n := ⟨_, rfl⟩
      obtain ⟨y2, hy2⟩ : ∃ n, at' W (q + 1) = n := ⟨_, rfl⟩
      rw [hy1, hy2] at hv
      rw [hy1] at hA1 q1
      rw [hy2] at hA2 q2
      have HA1 := Lib.hid hA1
      have HA2 := Lib.hid hA2
      have HV := Lib.hid hv
      clear hA1 hA2 hv hx hy1 hy2
      have hzz := HZd.out
      have hw7 : IntKind.i64.wrap ((q : Int) + 1) = (q : Int) + 1 := by rw [IntKind.wrap_i64]; omega
      have hw9 : IntKind.i64.wrap (256 * (y2 : Int)) = 256 * (y2 : Int) := by rw [IntKind.wrap_i64]; omega
      have hw10 : IntKind.i64.wrap ((y1 : Int) + 256 * (y2 : Int)) = (y1 : Int) + 256 * (y2 : Int) := by rw [IntKind.wrap_i64]; omega
      have hw11 : IntKind.i64.wrap ((y1 : Int) + 256 * (y2 : Int) - 1000) = (y1 : Int) + 256 * (y2 : Int) - 1000 := by rw [IntKind.wrap_i64]; omega
      refine wpAny_take (i := 0) (v := Value.pointer (some ⟨FB, 2, none⟩)) rfl (by kernel_rfl) (by kernel_rfl) (by kernel_rfl) (fun _ _ _ h => HKp.out _ _ _ _ _ h) (Or.inl ⟨by rfl, fun W => by first | (go_simp; done) | (go_simp; rfl) | (go_simp; rw [hw7]; done) | (go_simp; rw [hw7]) | (go_simp; rw [hw9]; done) | (go_simp; rw [hw9]) | (go_simp; rw [hw10]; done) | (go_simp; rw [hw10]) | (go_simp; rw [hw11]; done) | (go_simp; rw [hw11])⟩) ?_
      refine wpAny_take (i := 2) (v := Value.slice a 88 cp) rfl (by kernel_rfl) (by kernel_rfl) (by kernel_rfl) (fun _ _ _ h => HKp.out _ _ _ _ _ h) (Or.inl ⟨by rfl, fun W => by first | (go_simp; done) | (go_simp; rfl) | (go_simp; rw [hw7]; done) | (go_simp; rw [hw7]) | (go_simp; rw [hw9]; done) | (go_simp; rw [hw9]) | (go_simp; rw [hw10]; done) | (go_simp; rw [hw10]) | (go_simp; rw [hw11]; done) | (go_simp; rw [hw11])⟩) ?_
      refine wpAny_take (i := 3) (v := Value.int .i64 (q : Nat)) rfl (by kernel_rfl) (by kernel_rfl) (by kernel_rfl) (fun _ _ _ h => HKp.out _ _ _ _ _ h) (Or.inl ⟨by rfl, fun W => by first | (go_simp; done) | (go_simp; rfl) | (go_simp; rw [hw7]; done) | (go_simp; rw [hw7]) | (go_simp; rw [hw9]; done) | (go_simp; rw [hw9]) | (go_simp; rw [hw10]; done) | (go_simp; rw [hw10]) | (go_simp; rw [hw11]; done) | (go_simp; rw [hw11])⟩) ?_
      refine wpAny_take (i := 5) (v := Value.slice a 88 cp) rfl (by kernel_rfl) (by kernel_rfl) (by kernel_rfl) (fun _ _ _ h => HKp.out _ _ _ _ _ h) (Or.inl ⟨by rfl, fun W => by first | (go_simp; done) | (go_simp; rfl) | (go_simp; rw [hw7]; done) | (go_simp; rw [hw7]) | (go_simp; rw [hw9]; done) | (go_simp; rw [hw9]) | (go_simp; rw [hw10]; done) | (go_simp; rw [hw10]) | (go_simp; rw [hw11]; done) | (go_simp; rw [hw11])⟩) ?_
      refine wpAny_take (i := 6) (v := Value.int .i64 (q : Nat)) rfl (by kernel_rfl) (by kernel_rfl) (by kernel_rfl) (fun _ _ _ h => HKp.out _ _ _ _ _ h) (Or.inl ⟨by rfl, fun W => by first | (go_simp; done) | (go_simp; rfl) | (go_simp; rw [hw7]; done) | (go_simp; rw [hw7]) | (go_simp; rw [hw9]; done) | (go_simp; rw [hw9]) | (go_simp; rw [hw10]; done) | (go_simp; rw [hw10]) | (go_simp; rw [hw11]; done) | (go_simp; rw [hw11])⟩) ?_
      refine wpAny_take (i := 7) (v := Value.int .i64 ((q : Int) + 1)) rfl (by kernel_rfl) (by kernel_rfl) (by kernel_rfl) (fun _ _ _ h => HKp.out _ _ _ _ _ h) (Or.inl ⟨by rfl, fun W => by first | (go_simp; done) | (go_simp; rfl) | (go_simp; rw [hw7]; done) | (go_simp; rw [hw7]) | (go_simp; rw [hw9]; done) | (go_simp; rw [hw9]) | (go_simp; rw [hw10]; done) | (go_simp; rw [hw10]) | (go_simp; rw [hw11]; done) | (go_simp; rw [hw11])⟩) ?_
      refine wpAny_ready (rs := [1, 4]) (by kernel_rfl) (by simp) (AllReady.cons rfl (fun K hK => ?_) (AllReady.cons rfl (fun K hK => ?_) AllReady.nil))
      · go_simp
        refine hK _ _ ?_
        clear hK K
        refine wpAny_ready (rs := [4]) (by kernel_rfl) (by simp) (AllReady.cons rfl (fun K hK => ?_) AllReady.nil)
        go_simp
        refine HA1.out.mono ?_
        rintro e wz ⟨rfl, rfl⟩
        refine hK _ _ ?_
        clear hK K
        refine wpAny_ready (rs := [8]) (by kernel_rfl) (by simp) (AllReady.cons rfl (fun K hK => ?_) AllReady.nil)
        go_simp
        refine HA2.out.mono ?_
        rintro e wz ⟨rfl, rfl⟩
        refine hK _ _ ?_
        clear hK K
        refine wpAny_take (i := 9) (v := Value.int .i64 (256 * (y2 : Int))) rfl (by kernel_rfl) (by kernel_rfl) (by kernel_rfl) (fun _ _ _ h => HKp.out _ _ _ _ _ h) (Or.inl ⟨by rfl, fun W => by first | (go_simp; done) | (go_simp; rfl) | (go_simp; rw [hw7]; done) | (go_simp; rw [hw7]) | (go_simp; rw [hw9]; done) | (go_simp; rw [hw9]) | (go_simp; rw [hw10]; done) | (go_simp; rw [hw10]) | (go_simp; rw [hw11]; done) | (go_simp; rw [hw11])⟩) ?_
        refine wpAny_take (i := 10) (v := Value.int .i64 ((y1 : Int) + 256 * (y2 : Int))) rfl (by kernel_rfl) (by kernel_rfl) (by kernel_rfl) (fun _ _ _ h => HKp.out _ _ _ _ _ h) (Or.inl ⟨by rfl, fun W => by first | (go_simp; done) | (go_simp; rfl) | (go_simp; rw [hw7]; done) | (go_simp; rw [hw7]) | (go_simp; rw [hw9]; done) | (go_simp; rw [hw9]) | (go_simp; rw [hw10]; done) | (go_simp; rw [hw10]) | (go_simp; rw [hw11]; done) | (go_simp; rw [hw11])⟩) ?_
        refine wpAny_take (i := 11) (v := Value.int .i64 ((y1 : Int) + 256 * (y2 : Int) - 1000)) rfl (by kernel_rfl) (by kernel_rfl) (by kernel_rfl) (fun _ _ _ h => HKp.out _ _ _ _ _ h) (Or.inl ⟨by rfl, fun W => by first | (go_simp; done) | (go_simp; rfl) | (go_simp; rw [hw7]; done) | (go_simp; rw [hw7]) | (go_simp; rw [hw9]; done) | (go_simp; rw [hw9]) | (go_simp; rw [hw10]; done) | (go_simp; rw [hw10]) | (go_simp; rw [hw11]; done) | (go_simp; rw [hw11])⟩) ?_
        refine wpAny_ready (rs := [12]) (by kernel_rfl) (by simp) (AllReady.cons rfl (fun K hK => ?_) AllReady.nil)
        go_simp
        refine hK _ _ ?_
        clear hK K
        refine wpAny_ready (rs := [13]) (by kernel_rfl) (by simp) (AllReady.cons rfl (fun K hK => ?_) AllReady.nil)
        refine step_append_row rfl (.tmp 125) (.tmp 136) 23 rfl (FB + 1) IT _ 1 8 Try.underlying23 info_it (by kernel_rfl) (by decide) (by decide) (.slice la j lc) j (cellsI (lbAt W (o + 4) j)) rfl (own_later HOd.out (sup_pc wd (.cells #[.int .i64 ((y1 : Int) + 256 * (y2 : Int) - 1000)] IT))) (some ⟨wd.heap.size, 0, none⟩) 1 1 [.int .i64 ((y1 : Int) + 256 * (y2 : Int) - 1000)] rfl rfl (laid_srcO wd IT _ _ rfl) (by simp [Value.oneCell']) (fun h => by cases h) (by omega) (by simp; omega) ?_
        intro v' z3 hr3 hg3 _
        obtain ⟨a5, c5, rfl, -⟩ := own_slice hr3
        have HE := Lib.hid (inner_endD (ys := lbAt W (o + 4) (j + 1)) HPd.out hPF hwF HXd.out HOd.out HFd.out HLt.out hr3 hg3 (by rw [HV.out, ← cellsI_append]; rfl))
        have HX3 := Lib.hid ((HXd.out.alloc (.cells #[.int .i64 ((y1 : Int) + 256 * (y2 : Int) - 1000)] IT)).grown hg3 (fun e => by have := (oblo HOd.out e.symm).1; omega))
        have hz3 : FB < z3.heap.size := by have := hg3.size; simp at this; omega
        have d4 := HX3.out.cell 2
        have e4 := HX3.out.frozen 2
        simp at d4
        clear hr3 hg3
        refine hK _ _ ?_
        clear hK K
        refine wpAny_take (i := 14) (v := Value.pointer (some ⟨FB, 2, none⟩)) rfl (by kernel_rfl) (by kernel_rfl) (by kernel_rfl) (fun _ _ _ h => HKp.out _ _ _ _ _ h) (Or.inl ⟨by rfl, fun W => by first | (go_simp; done) | (go_simp; rfl) | (go_simp; rw [hw7]; done) | (go_simp; rw [hw7]) | (go_simp; rw [hw9]; done) | (go_simp; rw [hw9]) | (go_simp; rw [hw10]; done) | (go_simp; rw [hw10]) | (go_simp; rw [hw11]; done) | (go_simp; rw [hw11])⟩) ?_
        refine wpAny_ready (rs := [15]) (by kernel_rfl) (by simp) (AllReady.cons rfl (fun K hK => ?_) AllReady.nil)
        go_simp
        refine hK _ _ ?_
        clear hK K
        refine wpAny_done (by kernel_rfl) ?_ _
        go_wp2_with fail
        go_roundw
        case rel => exact ⟨j + 1, a5, c5, by omega, by simp, by rw [show ((o + 4 + 2 * (j + 1) : Nat) : Int) = (q : Int) + 2 by omega], by omega, HE.out.1, HE.out.2.1, HE.out.2.2.1, HE.out.2.2.2, by rw [World.size_setCell]; exact hz3⟩
        case measure => simp [intOf]; omega
      · go_simp
        refine HA1.out.mono ?_
        rintro e wz ⟨rfl, rfl⟩
        refine hK _ _ ?_
        clear hK K
        refine wpAny_ready (rs := [1, 8]) (by kernel_rfl) (by simp) (AllReady.cons rfl (fun K hK => ?_) (AllReady.cons rfl (fun K hK => ?_) AllReady.nil))
        · go_simp
          refine hK _ _ ?_
          clear hK K
          refine wpAny_ready (rs := [8]) (by kernel_rfl) (by simp) (AllReady.cons rfl (fun K hK => ?_) AllReady.nil)
          go_simp
          refine HA2.out.mono ?_
          rintro e wz ⟨rfl, rfl⟩
          refine hK _ _ ?_
          clear hK K
          refine wpAny_take (i := 9) (v := Value.int .i64 (256 * (y2 : Int))) rfl (by kernel_rfl) (by kernel_rfl) (by kernel_rfl) (fun _ _ _ h => HKp.out _ _ _ _ _ h) (Or.inl ⟨by rfl, fun W => by first | (go_simp; done) | (go_simp; rfl) | (go_simp; rw [hw7]; done) | (go_simp; rw [hw7]) | (go_simp; rw [hw9]; done) | (go_simp; rw [hw9]) | (go_simp; rw [hw10]; done) | (go_simp; rw [hw10]) | (go_simp; rw [hw11]; done) | (go_simp; rw [hw11])⟩) ?_
          refine wpAny_take (i := 10) (v := Value.int .i64 ((y1 : Int) + 256 * (y2 : Int))) rfl (by kernel_rfl) (by kernel_rfl) (by kernel_rfl) (fun _ _ _ h => HKp.out _ _ _ _ _ h) (Or.inl ⟨by rfl, fun W => by first | (go_simp; done) | (go_simp; rfl) | (go_simp; rw [hw7]; done) | (go_simp; rw [hw7]) | (go_simp; rw [hw9]; done) | (go_simp; rw [hw9]) | (go_simp; rw [hw10]; done) | (go_simp; rw [hw10]) | (go_simp; rw [hw11]; done) | (go_simp; rw [hw11])⟩) ?_
          refine wpAny_take (i := 11) (v := Value.int .i64 ((y1 : Int) + 256 * (y2 : Int) - 1000)) rfl (by kernel_rfl) (by kernel_rfl) (by kernel_rfl) (fun _ _ _ h => HKp.out _ _ _ _ _ h) (Or.inl ⟨by rfl, fun W => by first | (go_simp; done) | (go_simp; rfl) | (go_simp; rw [hw7]; done) | (go_simp; rw [hw7]) | (go_simp; rw [hw9]; done) | (go_simp; rw [hw9]) | (go_simp; rw [hw10]; done) | (go_simp; rw [hw10]) | (go_simp; rw [hw11]; done) | (go_simp; rw [hw11])⟩) ?_
          refine wpAny_ready (rs := [12]) (by kernel_rfl) (by simp) (AllReady.cons rfl (fun K hK => ?_) AllReady.nil)
          go_simp
          refine hK _ _ ?_
          clear hK K
          refine wpAny_ready (rs := [13]) (by kernel_rfl) (by simp) (AllReady.cons rfl (fun K hK => ?_) AllReady.nil)
          refine step_append_row rfl (.tmp 125) (.tmp 136) 23 rfl (FB + 1) IT _ 1 8 Try.underlying23 info_it (by kernel_rfl) (by decide) (by decide) (.slice la j lc) j (cellsI (lbAt W (o + 4) j)) rfl (own_later HOd.out (sup_pc wd (.cells #[.int .i64 ((y1 : Int) + 256 * (y2 : Int) - 1000)] IT))) (some ⟨wd.heap.size, 0, none⟩) 1 1 [.int .i64 ((y1 : Int) + 256 * (y2 : Int) - 1000)] rfl rfl (laid_srcO wd IT _ _ rfl) (by simp [Value.oneCell']) (fun h => by cases h) (by omega) (by simp; omega) ?_
          intro v' z3 hr3 hg3 _
          obtain ⟨a5, c5, rfl, -⟩ := own_slice hr3
          have HE := Lib.hid (inner_endD (ys := lbAt W (o + 4) (j + 1)) HPd.out hPF hwF HXd.out HOd.out HFd.out HLt.out hr3 hg3 (by rw [HV.out, ← cellsI_append]; rfl))
          have HX3 := Lib.hid ((HXd.out.alloc (.cells #[.int .i64 ((y1 : Int) + 256 * (y2 : Int) - 1000)] IT)).grown hg3 (fun e => by have := (oblo HOd.out e.symm).1; omega))
          have hz3 : FB < z3.heap.size := by have := hg3.size; simp at this; omega
          have d4 := HX3.out.cell 2
          have e4 := HX3.out.frozen 2
          simp at d4
          clear hr3 hg3
          refine hK _ _ ?_
          clear hK K
          refine wpAny_take (i := 14) (v := Value.pointer (some ⟨FB, 2, none⟩)) rfl (by kernel_rfl) (by kernel_rfl) (by kernel_rfl) (fun _ _ _ h => HKp.out _ _ _ _ _ h) (Or.inl ⟨by rfl, fun W => by first | (go_simp; done) | (go_simp; rfl) | (go_simp; rw [hw7]; done) | (go_simp; rw [hw7]) | (go_simp; rw [hw9]; done) | (go_simp; rw [hw9]) | (go_simp; rw [hw10]; done) | (go_simp; rw [hw10]) | (go_simp; rw [hw11]; done) | (go_simp; rw [hw11])⟩) ?_
          refine wpAny_ready (rs := [15]) (by kernel_rfl) (by simp) (AllReady.cons rfl (fun K hK => ?_) AllReady.nil)
          go_simp
          refine hK _ _ ?_
          clear hK K
          refine wpAny_done (by kernel_rfl) ?_ _
          go_wp2_with fail
          go_roundw
          case rel => exact ⟨j + 1, a5, c5, by omega, by simp, by rw [show ((o + 4 + 2 * (j + 1) : Nat) : Int) = (q : Int) + 2 by omega], by omega, HE.out.1, HE.out.2.1, HE.out.2.2.1, HE.out.2.2.2, by rw [World.size_setCell]; exact hz3⟩
          case measure => simp [intOf]; omega
        · go_simp
          refine HA2.out.mono ?_
          rintro e wz ⟨rfl, rfl⟩
          refine hK _ _ ?_
          clear hK K
          refine wpAny_take (i := 9) (v := Value.int .i64 (256 * (y2 : Int))) rfl (by kernel_rfl) (by kernel_rfl) (by kernel_rfl) (fun _ _ _ h => HKp.out _ _ _ _ _ h) (Or.inl ⟨by rfl, fun W => by first | (go_simp; done) | (go_simp; rfl) | (go_simp; rw [hw7]; done) | (go_simp; rw [hw7]) | (go_simp; rw [hw9]; done) | (go_simp; rw [hw9]) | (go_simp; rw [hw10]; done) | (go_simp; rw [hw10]) | (go_simp; rw [hw11]; done) | (go_simp; rw [hw11])⟩) ?_
          refine wpAny_take (i := 10) (v := Value.int .i64 ((y1 : Int) + 256 * (y2 : Int))) rfl (by kernel_rfl) (by kernel_rfl) (by kernel_rfl) (fun _ _ _ h => HKp.out _ _ _ _ _ h) (Or.inl ⟨by rfl, fun W => by first | (go_simp; done) | (go_simp; rfl) | (go_simp; rw [hw7]; done) | (go_simp; rw [hw7]) | (go_simp; rw [hw9]; done) | (go_simp; rw [hw9]) | (go_simp; rw [hw10]; done) | (go_simp; rw [hw10]) | (go_simp; rw [hw11]; done) | (go_simp; rw [hw11])⟩) ?_
          refine wpAny_take (i := 11) (v := Value.int .i64 ((y1 : Int) + 256 * (y2 : Int) - 1000)) rfl (by kernel_rfl) (by kernel_rfl) (by kernel_rfl) (fun _ _ _ h => HKp.out _ _ _ _ _ h) (Or.inl ⟨by rfl, fun W => by first | (go_simp; done) | (go_simp; rfl) | (go_simp; rw [hw7]; done) | (go_simp; rw [hw7]) | (go_simp; rw [hw9]; done) | (go_simp; rw [hw9]) | (go_simp; rw [hw10]; done) | (go_simp; rw [hw10]) | (go_simp; rw [hw11]; done) | (go_simp; rw [hw11])⟩) ?_
          refine wpAny_ready (rs := [1, 12]) (by kernel_rfl) (by simp) (AllReady.cons rfl (fun K hK => ?_) (AllReady.cons rfl (fun K hK => ?_) AllReady.nil))
          · go_simp
            refine hK _ _ ?_
            clear hK K
            refine wpAny_ready (rs := [12]) (by kernel_rfl) (by simp) (AllReady.cons rfl (fun K hK => ?_) AllReady.nil)
            go_simp
            refine hK _ _ ?_
            clear hK K
            refine wpAny_ready (rs := [13]) (by kernel_rfl) (by simp) (AllReady.cons rfl (fun K hK => ?_) AllReady.nil)
            refine step_append_row rfl (.tmp 125) (.tmp 136) 23 rfl (FB + 1) IT _ 1 8 Try.underlying23 info_it (by kernel_rfl) (by decide) (by decide) (.slice la j lc) j (cellsI (lbAt W (o + 4) j)) rfl (own_later HOd.out (sup_pc wd (.cells #[.int .i64 ((y1 : Int) + 256 * (y2 : Int) - 1000)] IT))) (some ⟨wd.heap.size, 0, none⟩) 1 1 [.int .i64 ((y1 : Int) + 256 * (y2 : Int) - 1000)] rfl rfl (laid_srcO wd IT _ _ rfl) (by simp [Value.oneCell']) (fun h => by cases h) (by omega) (by simp; omega) ?_
            intro v' z3 hr3 hg3 _
            obtain ⟨a5, c5, rfl, -⟩ := own_slice hr3
            have HE := Lib.hid (inner_endD (ys := lbAt W (o + 4) (j + 1)) HPd.out hPF hwF HXd.out HOd.out HFd.out HLt.out hr3 hg3 (by rw [HV.out, ← cellsI_append]; rfl))
            have HX3 := Lib.hid ((HXd.out.alloc (.cells #[.int .i64 ((y1 : Int) + 256 * (y2 : Int) - 1000)] IT)).grown hg3 (fun e => by have := (oblo HOd.out e.symm).1; omega))
            have hz3 : FB < z3.heap.size := by have := hg3.size; simp at this; omega
            have d4 := HX3.out.cell 2
            have e4 := HX3.out.frozen 2
            simp at d4
            clear hr3 hg3
            refine hK _ _ ?_
            clear hK K
            refine wpAny_take (i := 14) (v := Value.pointer (some ⟨FB, 2, none⟩)) rfl (by kernel_rfl) (by kernel_rfl) (by kernel_rfl) (fun _ _ _ h => HKp.out _ _ _ _ _ h) (Or.inl ⟨by rfl, fun W => by first | (go_simp; done) | (go_simp; rfl) | (go_simp; rw [hw7]; done) | (go_simp; rw [hw7]) | (go_simp; rw [hw9]; done) | (go_simp; rw [hw9]) | (go_simp; rw [hw10]; done) | (go_simp; rw [hw10]) | (go_simp; rw [hw11]; done) | (go_simp; rw [hw11])⟩) ?_
            refine wpAny_ready (rs := [15]) (by kernel_rfl) (by simp) (AllReady.cons rfl (fun K hK => ?_) AllReady.nil)
            go_simp
            refine hK _ _ ?_
            clear hK K
            refine wpAny_done (by kernel_rfl) ?_ _
            go_wp2_with fail
            go_roundw
            case rel => exact ⟨j + 1, a5, c5, by omega, by simp, by rw [show ((o + 4 + 2 * (j + 1) : Nat) : Int) = (q : Int) + 2 by omega], by omega, HE.out.1, HE.out.2.1, HE.out.2.2.1, HE.out.2.2.2, by rw [World.size_setCell]; exact hz3⟩
            case measure => simp [intOf]; omega
          · go_simp
            refine hK _ _ ?_
            clear hK K
            refine wpAny_ready (rs := [1]) (by kernel_rfl) (by simp) (AllReady.cons rfl (fun K hK => ?_) AllReady.nil)
            go_simp
            refine hK _ _ ?_
            clear hK K
            refine wpAny_ready (rs := [13]) (by kernel_rfl) (by simp) (AllReady.cons rfl (fun K hK => ?_) AllReady.nil)
            refine step_append_row rfl (.tmp 125) (.tmp 136) 23 rfl (FB + 1) IT _ 1 8 Try.underlying23 info_it (by kernel_rfl) (by decide) (by decide) (.slice la j lc) j (cellsI (lbAt W (o + 4) j)) rfl (own_later HOd.out (sup_pc wd (.cells #[.int .i64 ((y1 : Int) + 256 * (y2 : Int) - 1000)] IT))) (some ⟨wd.heap.size, 0, none⟩) 1 1 [.int .i64 ((y1 : Int) + 256 * (y2 : Int) - 1000)] rfl rfl (laid_srcO wd IT _ _ rfl) (by simp [Value.oneCell']) (fun h => by cases h) (by omega) (by simp; omega) ?_
            intro v' z3 hr3 hg3 _
            obtain ⟨a5, c5, rfl, -⟩ := own_slice hr3
            have HE := Lib.hid (inner_endD (ys := lbAt W (o + 4) (j + 1)) HPd.out hPF hwF HXd.out HOd.out HFd.out HLt.out hr3 hg3 (by rw [HV.out, ← cellsI_append]; rfl))
            have HX3 := Lib.hid ((HXd.out.alloc (.cells #[.int .i64 ((y1 : Int) + 256 * (y2 : Int) - 1000)] IT)).grown hg3 (fun e => by have := (oblo HOd.out e.symm).1; omega))
            have hz3 : FB < z3.heap.size := by have := hg3.size; simp at this; omega
            have d4 := HX3.out.cell 2
            have e4 := HX3.out.frozen 2
            simp at d4
            clear hr3 hg3
            refine hK _ _ ?_
            clear hK K
            refine wpAny_take (i := 14) (v := Value.pointer (some ⟨FB, 2, none⟩)) rfl (by kernel_rfl) (by kernel_rfl) (by kernel_rfl) (fun _ _ _ h => HKp.out _ _ _ _ _ h) (Or.inl ⟨by rfl, fun W => by first | (go_simp; done) | (go_simp; rfl) | (go_simp; rw [hw7]; done) | (go_simp; rw [hw7]) | (go_simp; rw [hw9]; done) | (go_simp; rw [hw9]) | (go_simp; rw [hw10]; done) | (go_simp; rw [hw10]) | (go_simp; rw [hw11]; done) | (go_simp; rw [hw11])⟩) ?_
            refine wpAny_ready (rs := [15]) (by kernel_rfl) (by simp) (AllReady.cons rfl (fun K hK => ?_) AllReady.nil)
            go_simp
            refine hK _ _ ?_
            clear hK K
            refine wpAny_done (by kernel_rfl) ?_ _
            go_wp2_with fail
            go_roundw
            case rel => exact ⟨j + 1, a5, c5, by omega, by simp, by rw [show ((o + 4 + 2 * (j + 1) : Nat) : Int) = (q : Int) + 2 by omega], by omega, HE.out.1, HE.out.2.1, HE.out.2.2.1, HE.out.2.2.2, by rw [World.size_setCell]; exact hz3⟩
            case measure => simp [intOf]; omega
    · have hx : (¬ (j : Int) < (nl : Int)) ∨ ((j : Int) < (nl : Int) ∧ ¬ (q : Int) < 88) := by omega
      have hcn : j = cntD (o + 4) nl := by unfold cntD; omega
      clear hjl
      rcases hx with i1 | ⟨i1, i2⟩
      all_goals
        go_wp2_with fail
        exact HK.out _ _ _ _ _ _ _ _ _ _ _ _ _ _ _ _ _ _ _ _ _ _ _ _ _ _ _ _ _ ⟨j, la, lc, hcn, by rw [hq], by omega, HP.out, HX.out, HO.out, HF.out, HZ.out⟩
set_option maxRecDepth 1000000 in
set_option maxHeartbeats 16000000 in
theorem dec_loop2 {w : World} {W : List Nat} (hWl : ∀ y ∈ W, y < 256) (hW8 : W.length = 88) (P : Nat) (e0 c0 i0 p0 X0 : Int) (a : Option Addr) (cp : Nat) (nf : Nat) (hnf : at' W 4 = nf) {wf : World} (hD : Dr w W e0 c0 i0 p0 X0 P (.slice none 0 0) (.slice none 0 0) (.slice a 88 cp) wf)
    (s0 s1 s2 s3 s4 s7 s8 s11 s12 s13 s14 s15 s16 s17 s18 s19 s20 s21 s22 s23 s24 s25 s26 s27 s28 s29 s30 s31 s32 s33 s34 s35 s36 s37 s38 s39 s40 s41 s42 s43 s44 s45 s46 s47 s48 s49 s50 s51 s52 s53 s54 s55 s56 s57 s58 s59 s60 s61 s62 s63 s64 s65 s66 s67 s68 s69 s70 s71 s72 s73 s74 s75 s76 s77 s78 s79 s80 s81 s82 s83 s84 s85 s86 s87 s88 s89 s90 s91 s92 s93 s94 s95 s96 s97 s98 s99 s100 s101 s102 s103 s104 s105 s106 s107 s108 s109 s110 s111 s112 s113 s114 s115 s116 s117 s118 s119 s120 s121 s122 s123 s124 s125 s126 s127 s128 s129 s130 s131 s132 s133 s134 s135 s136 s137 s138 s139 s140 s141 s142 s143 s144 s145 s146 s147 s148 s149 s150 s151 s152 s153 s154 s155 s156 s157 s158 s159 s160 s161 s162 s163 s164 s165 s166 s167 s168 s169 s170 s171 s172 s173 s174 s175 s176 s177 s178 s179 s180 s181 : Value) (K : Exit → Act → World → Prop) (hKp : ∀ c (x : Act) (q : Option Nat) v W', K (.panic c) (x.put q v) W' → K (.panic c) x W')
    (hK : ∀ (u9 u10 u11 u12 u13 u85 u86 u87 u88 u89 u90 u91 u92 u93 u94 u95 u96 u97 u98 u99 u100 u101 u102 u103 u104 u105 u106 u107 u108 u109 u110 u111 u112 u113 u114 u115 u116 u117 u118 u119 u120 u121 u122 u123 u124 u125 u126 u127 u128 u129 u130 u131 u132 u133 u134 u135 u136 u137 u138 u139 u140 u141 u142 u143 u144 u145 u146 : Value) (wx : World), D2E w W P e0 c0 i0 p0 X0 (.slice a 88 cp) nf u9 wx → K .normal ⟨#[s0, s1, s2, s3, s4, .pointer (some ⟨P, 0, none⟩), .slice a 88 cp, s7, s8, u9, u10, u11, u12, u13, s14, s15, s16, s17, s18, s19, s20, s21, s22, s23, s24, s25, s26, s27, s28, s29, s30, s31, s32, s33, s34, s35, s36, s37, s38, s39, s40, s41, s42, s43, s44, s45, s46, s47, s48, s49, s50, s51, s52, s53, s54, s55, s56, s57, s58, s59, s60, s61, s62, s63, s64, s65, s66, s67, s68, s69, s70, s71, s72, s73, s74, s75, s76, s77, s78, s79, s80, s81, s82, s83, s84, u85, u86, u87, u88, u89, u90, u91, u92, u93, u94, u95, u96, u97, u98, u99, u100, u101, u102, u103, u104, u105, u106, u107, u108, u109, u110, u111, u112, u113, u114, u115, u116, u117, u118, u119, u120, u121, u122, u123, u124, u125, u126, u127, u128, u129, u130, u131, u132, u133, u134, u135, u136, u137, u138, u139, u140, u141, u142, u143, u144, u145, u146, s147, s148, s149, s150, s151, s152, s153, s154, s155, s156, s157, s158, s159, s160, s161, s162, s163, s164, s165, s166, s167, s168, s169, s170, s171, s172, s173, s174, s175, s176, s177, s178, s179, s180, s181], []⟩ wx) :
    Code.wp Try.prog (rdBlk 2) K ⟨#[s0, s1, s2, s3, s4, .pointer (some ⟨P, 0, none⟩), .slice a 88 cp, s7, s8, .int .i64 10, .int .i64 0, s11, s12, s13, s14, s15, s16, s17, s18, s19, s20, s21, s22, s23, s24, s25, s26, s27, s28, s29, s30, s31, s32, s33, s34, s35, s36, s37, s38, s39, s40, s41, s42, s43, s44, s45, s46, s47, s48, s49, s50, s51, s52, s53, s54, s55, s56, s57, s58, s59, s60, s61, s62, s63, s64, s65, s66, s67, s68, s69, s70, s71, s72, s73, s74, s75, s76, s77, s78, s79, s80, s81, s82, s83, s84, s85, s86, s87, s88, s89, s90, s91, s92, s93, s94, s95, s96, s97, s98, s99, s100, s101, s102, s103, s104, s105, s106, s107, s108, s109, s110, s111, s112, s113, s114, s115, s116, s117, s118, s119, s120, s121, s122, s123, s124, s125, s126, s127, s128, s129, s130, s131, s132, s133, s134, s135, s136, s137, s138, s139, s140, s141, s142, s143, s144, s145, s146, s147, s148, s149, s150, s151, s152, s153, s154, s155, s156, s157, s158, s159, s160, s161, s162, s163, s164, s165, s166, s167, s168, s169, s170, s171, s172, s173, s174, s175, s176, s177, s178, s179, s180, s181], []⟩ wf := by
  have HWl := Lib.hid hWl
  have HW8 := Lib.hid hW8
  have HBL : Hid (∀ i, at' W i < 256) := fun i => at_lt hWl i
  have HK := Lib.hid hK
  have HKp := Lib.hid hKp
  clear hWl hW8 hK hKp
  have HD4 := Lib.hid hD
  have HN4 := Lib.hid hnf
  have hb4 := HBL.out 4
  rw [hnf] at hb4
  have HP4 : Hid (P < wf.heap.size) := HD4.out.pt.lt
  clear hD hnf
  conv => arg 2; whnf
  go_wp2_with fail
  go_loopw [9, 10] (fun v t wr => D2R w W P e0 c0 i0 p0 X0 (.slice a 88 cp) nf v t wr) (fun _ t _ => nf - (intOf t).toNat)
  case atStart => exact ⟨0, none, 0, _, Nat.zero_le _, rfl, rfl, fun i hi => by omega, (show 10 ≤ 200 by decide), HD4.out, fo_nil _ _ _, fun i j _ h => by omega, HP4.out⟩
  case round =>
    clear HD4 HP4
    obtain ⟨k, fa, fc, av, hk, rfl, rfl, hpl, hp200, hD, hFo, hSep, hsz⟩ := hrel
    have HP := Lib.hid hD
    have HF := Lib.hid hFo
    have HSep := Lib.hid hSep
    have HZ := Lib.hid hsz
    have HPl := Lib.hid hpl
    clear hD hFo hSep hsz hpl
    obtain ⟨o, ho⟩ : ∃ o, posD W k = o := ⟨_, rfl⟩
    rw [ho] at hp200
    have HO9 := Lib.hid ho
    rw [ho]
    have hA4 := HP.out.atZ HWl.out HW8.out 4 4 rfl (by decide)
    rw [HN4.out] at hA4
    have HA4 := Lib.hid hA4
    clear hA4 ho
    by_cases hlt : k < nf ∧ o < 88
    · obtain ⟨hlt, ho88⟩ := hlt
      have i1 : (k : Int) < (nf : Int) := by omega
      have i2 : (o : Int) < 88 := by omega
      go_wp2_with fail
      refine HA4.out.mono ?_
      rintro e wz ⟨rfl, rfl⟩
      clear HA4
      have hA0 := HP.out.atZ HWl.out HW8.out o o rfl (by omega)
      have hA1 := HP.out.atZ HWl.out HW8.out ((o : Int) + 1) (o + 1) (by omega) (by omega)
      have hA2 := HP.out.atZ HWl.out HW8.out ((o : Int) + 2) (o + 2) (by omega) (by omega)
      have q0 := HBL.out o
      have q1 := HBL.out (o + 1)
      have q2 := HBL.out (o + 2)
      have hx : ((v2 W (o + 1) : Nat) : Int) = (at' W (o + 1) : Nat) + 256 * (at' W (o + 2) : Nat) := by
        have : v2 W (o + 1) = at' W (o + 1) + 256 * at' W (o + 2) := rfl
        rw [this]; omega
      obtain ⟨nl, hnl⟩ : ∃ nl, at' W (o + 3) = nl := ⟨_, rfl⟩
      have hnb := HBL.out (o + 3)
      have HE1 : Hid (posD W (k + 1) = o + 4 + 2 * cntD (o + 4) nl) := by show nxtD W (posD W k) = _; rw [HO9.out, ← hnl]; rfl
      have HE2 : Hid ((filesD W nf).getD k fi0 = ⟨(at' W o : Nat), (v2 W (o + 1) : Nat), lbAt W (o + 4) (cntD (o + 4) nl)⟩) := by show _ = _; rw [filesD_get W hlt, HO9.out, ← hnl]; rfl
      rw [hnl] at hnb
      have HNl := Lib.hid hnl
      obtain ⟨b0, hb0⟩ : ∃ n, at' W o = n := ⟨_, rfl⟩
      obtain ⟨b1, hb1⟩ : ∃ n, at' W (o + 1) = n := ⟨_, rfl⟩
      obtain ⟨b2, hb2⟩ : ∃ n, at' W (o + 2) = n := ⟨_, rfl⟩
      rw [hx, hb0, hb1, hb2] at HE2
      rw [hb0] at hA0 q0
      rw [hb1] at hA1 q1
      rw [hb2] at hA2 q2
      have HA0 := Lib.hid hA0
      have HA1 := Lib.hid hA1
      have HA2 := Lib.hid hA2
      clear hA0 hA1 hA2 hnl hb0 hb1 hb2 hx
      go_wp2_with fail
      refine HA0.out.mono ?_
      rintro e wz ⟨rfl, rfl⟩
      go_wp2_with fail
      refine HA1.out.mono ?_
      rintro e wz ⟨rfl, rfl⟩
      go_wp2_with fail
      refine HA2.out.mono ?_
      rintro e wz ⟨rfl, rfl⟩
      clear HA0 HA1 HA2
      have l1 := HP.out.lo
      have HLt := Lib.hid HF.out.lt
      have hPF : P < wr.heap.size := HZ.out
      have hwF := HP.out.lt
      have HB3 := Lib.hid (sup_pc wr (.cells #[.int .i64 (b0 : Nat), .int .i64 ((b1 : Int) + 256 * (b2 : Int)), .slice none 0 0] FN))
      have HP3 := Lib.hid (HP.out.later HB3.out)
      have HX3 := Lib.hid (blo_laid wr FN #[.int .i64 (b0 : Nat), .int .i64 ((b1 : Int) + 256 * (b2 : Int)), .slice none 0 0])
      have HF3 := Lib.hid (HF.out.later HB3.out)
      have HS3 : Hid (wr.heap.size < (wr.alloc (.cells #[.int .i64 (b0 : Nat), .int .i64 ((b1 : Int) + 256 * (b2 : Int)), .slice none 0 0] FN)).heap.size) := by simp [Hid]
      have hA3 := HP3.out.atZ HWl.out HW8.out ((o : Int) + 3) (o + 3) (by omega) (by omega)
      rw [HNl.out] at hA3
      have HA3 := Lib.hid hA3
      clear hA3 HP HF HZ HB3
      go_wp2_with fail
      refine HA3.out.mono ?_
      rintro e wz ⟨rfl, rfl⟩
      clear HA3
      generalize wr.alloc (.cells #[.int .i64 (b0 : Nat), .int .i64 ((b1 : Int) + 256 * (b2 : Int)), .slice none 0 0] FN) = wf at *
      generalize wr.heap.size = FB at *
      obtain ⟨a1, ha1⟩ : ∃ z : Int, (b1 : Int) + 256 * (b2 : Int) = z := ⟨_, rfl⟩
      rw [ha1] at HX3 HE2
      clear ha1 q0 q1 q2
      go_upto_block 4 with fail
      refine dec_loop3 HWl.out HW8.out P e0 c0 i0 p0 X0 a cp fa k fc nf av FB (b0 : Nat) a1 o nl ho88 hnb hPF hwF HLt.out _ (by omega) HP3.out HX3.out HF3.out HS3.out _ _ _ _ _ _ _ _ _ _ _ _ _ _ _ _ _ _ _ _ _ _ _ _ _ _ _ _ _ _ _ _ _ _ _ _ _ _ _ _ _ _ _ _ _ _ _ _ _ _ _ _ _ _ _ _ _ _ _ _ _ _ _ _ _ _ _ _ _ _ _ _ _ _ _ _ _ _ _ _ _ _ _ _ _ _ _ _ _ _ _ _ _ _ _ _ _ _ _ _ _ _ _ _ _ _ _ _ _ _ _ _ _ _ _ _ _ _ _ _ _ _ _ _ _ _ _ _ _ _ _ _ _ _ _ _ _ _ _ _ _ _ _ _ _ _ _ _ _ _ _ _ _ _ _ _ _ _ _ _ _ _ _ _ _ _ _ _ _ _ _ _ _ _ _ _ _ _ (fun _ _ _ _ _ h => HKp.out _ _ _ _ _ h) ?_
      intro u9 u13 u115 u116 u117 u118 u119 u120 u121 u122 u123 u124 u125 u126 u127 u128 u129 u130 u131 u132 u133 u134 u135 u136 u137 u138 u139 u140 wx hcut
      clear HP3 HX3 HF3 HS3
      obtain ⟨j, la, lc, hj, rfl, hj200, hP, hX, hO, hF, hsz⟩ := hcut
      rw [← hj] at HE1 HE2
      clear hj
      have HP := Lib.hid hP
      have HO := Lib.hid hO
      have HF := Lib.hid hF
      have HZ := Lib.hid hsz
      have d0 := hX.cell 0
      have d1 := hX.cell 1
      have d2 := hX.cell 2
      have p5 := hP.pt.cell 5
      have f5 := hP.pt.frozen 5
      simp at d0 d1 d2 p5
      clear hP hX hO hF hsz
      have hj9 : j ≤ 100 := by omega
      go_wp2_with (at_builtin; refine wp_append_rowO rfl (.tmp 142) (.tmp 144) 22 rfl (P + 1) FN _ 3 40 Try.underlying22 info_fn (by kernel_rfl) (by decide) (by decide) (.slice fa k fc) k _ rfl (own_later HF.out.row (sup_pc wx (.cells #[.int .i64 (b0 : Nat), .int .i64 a1, .slice la j lc] FN))) (some ⟨wx.heap.size, 0, none⟩) 1 1 [.int .i64 (b0 : Nat), .int .i64 a1, .slice la j lc] rfl rfl (laid_srcO wx FN _ _ rfl) (fi_oneP _ _ _ rfl) (fun h => by cases h) (by omega) (by have := HZ.out; simp; omega) ?_; intro a3 cap3 z2 hown hgrow hat; have HE := Lib.hid (file_endD (f := ⟨(b0 : Nat), a1, lbAt W (o + 4) j⟩) HP.out hPF HO.out HF.out HE2.out (lbAt_len _ _ _) (by have := HZ.out; omega) HLt.out HSep.out hown hgrow); have hpz := (HP.out.pt.alloc (.cells #[.int .i64 (b0 : Nat), .int .i64 a1, .slice la j lc] FN)).grown hgrow ((HP.out.pt.alloc _).row_apart (own_later HF.out.row (sup_pc wx (.cells #[.int .i64 (b0 : Nat), .int .i64 a1, .slice la j lc] FN))) (by decide)); have q5 := hpz.cell 5; have g5 := hpz.frozen 5; simp at q5; clear hown hgrow hat hpz)
      obtain ⟨av', hF', hS'⟩ := HE.out.2.1
      have HF' := Lib.hid hF'
      have HS' := Lib.hid hS'
      clear hF' hS'
      go_roundw
      case rel => exact ⟨k + 1, a3, cap3, av', by omega, by simp, (by rw [HE1.out]; simp), (fun i hi => by rcases Nat.lt_succ_iff_lt_or_eq.1 hi with h | h; exact HPl.out i h; subst h; rw [HO9.out]; exact ho88), by rw [HE1.out]; exact hj200, HE.out.1, HF'.out, HS'.out, HE.out.2.2⟩
      case measure => simp [intOf]; omega
    · have hx : (¬ (k : Int) < (nf : Int)) ∨ ((k : Int) < (nf : Int) ∧ ¬ (o : Int) < 88) := by omega
      have hst : k = nf ∨ 88 ≤ o := by omega
      clear hlt
      rcases hx with i1 | ⟨i1, i2⟩
      all_goals
        go_wp2_with fail
        refine HA4.out.mono ?_
        rintro e wz ⟨rfl, rfl⟩
        go_wp2_with fail
        exact HK.out _ _ _ _ _ _ _ _ _ _ _ _ _ _ _ _ _ _ _ _ _ _ _ _ _ _ _ _ _ _ _ _ _ _ _ _ _ _ _ _ _ _ _ _ _ _ _ _ _ _ _ _ _ _ _ _ _ _ _ _ _ _ _ _ _ _ _ _ ⟨k, fa, fc, av, hk, by rw [HO9.out], HPl.out, by rw [HO9.out]; exact hst, by rw [HO9.out]; exact hp200, HP.out, HF.out, HSep.out, HZ.out⟩
set_option maxRecDepth 1000000 in
set_option maxHeartbeats 16000000 in
theorem dec_loop4 {w : World} {W : List Nat} (hWl : ∀ y ∈ W, y < 256) (hW8 : W.length = 88) (P : Nat) (e0 c0 i0 p0 X0 : Int) (a : Option Addr) (cp : Nat) (fv : Value) (k nf ni : Nat) (hni : at' W 5 = ni) (av : Nat → Value) (SB o : Nat) (ho2 : o ≤ 200) (hPS : P < SB)
    (hwF : ∀ g, (Value.slice a 88 cp).ownBlock = some g → g < SB) (hLt : FoLt SB fv av k) {ws : World}
    (hP : Dr w W e0 c0 i0 p0 X0 P fv (.slice none 0 0) (.slice a 88 cp) ws) (hF : Fo ws (P + 1) fv av (filesD W nf) k) (hZ : SB ≤ ws.heap.size)
    (s0 s1 s2 s3 s4 s7 s8 s10 s11 s12 s13 s15 s16 s17 s18 s19 s20 s21 s22 s23 s24 s25 s26 s27 s28 s29 s30 s31 s32 s33 s34 s35 s36 s37 s38 s39 s40 s41 s42 s43 s44 s45 s46 s47 s48 s49 s50 s51 s52 s53 s54 s55 s56 s57 s58 s59 s60 s61 s62 s63 s64 s65 s66 s67 s68 s69 s70 s71 s72 s73 s74 s75 s76 s77 s78 s79 s80 s81 s82 s83 s84 s85 s86 s87 s88 s89 s90 s91 s92 s93 s94 s95 s96 s97 s98 s99 s100 s101 s102 s103 s104 s105 s106 s107 s108 s109 s110 s111 s112 s113 s114 s115 s116 s117 s118 s119 s120 s121 s122 s123 s124 s125 s126 s127 s128 s129 s130 s131 s132 s133 s134 s135 s136 s137 s138 s139 s140 s141 s142 s143 s144 s145 s146 s147 s148 s149 s150 s151 s152 s153 s154 s155 s156 s157 s158 s159 s160 s161 s162 s163 s164 s165 s166 s167 s168 s169 s170 s171 s172 s173 s174 s175 s176 s177 s178 s179 s180 s181 : Value) (K : Exit → Act → World → Prop) (hKp : ∀ c (x : Act) (q : Option Nat) v W', K (.panic c) (x.put q v) W' → K (.panic c) x W')
    (hK : ∀ (u9 u14 u147 u148 u149 u150 u151 u152 u153 u154 u155 u156 u157 u158 u159 u160 u161 u162 u163 u164 u165 u166 : Value) (wx : World), D4E w W P e0 c0 i0 p0 X0 (.slice a 88 cp) fv nf k av SB o ni wx → K .normal ⟨#[s0, s1, s2, s3, s4, .pointer (some ⟨P, 0, none⟩), .slice a 88 cp, s7, s8, u9, s10, s11, s12, s13, u14, s15, s16, s17, s18, s19, s20, s21, s22, s23, s24, s25, s26, s27, s28, s29, s30, s31, s32, s33, s34, s35, s36, s37, s38, s39, s40, s41, s42, s43, s44, s45, s46, s47, s48, s49, s50, s51, s52, s53, s54, s55, s56, s57, s58, s59, s60, s61, s62, s63, s64, s65, s66, s67, s68, s69, s70, s71, s72, s73, s74, s75, s76, s77, s78, s79, s80, s81, s82, s83, s84, s85, s86, s87, s88, s89, s90, s91, s92, s93, s94, s95, s96, s97, s98, s99, s100, s101, s102, s103, s104, s105, s106, s107, s108, s109, s110, s111, s112, s113, s114, s115, s116, s117, s118, s119, s120, s121, s122, s123, s124, s125, s126, s127, s128, s129, s130, s131, s132, s133, s134, s135, s136, s137, s138, s139, s140, s141, s142, s143, s144, s145, s146, u147, u148, u149, u150, u151, u152, u153, u154, u155, u156, u157, u158, u159, u160, u161, u162, u163, u164, u165, u166, s167, s168, s169, s170, s171, s172, s173, s174, s175, s176, s177, s178, s179, s180, s181], []⟩ wx) :
    Code.wp Try.prog (rdBlk 6) K ⟨#[s0, s1, s2, s3, s4, .pointer (some ⟨P, 0, none⟩), .slice a 88 cp, s7, s8, .int .i64 (o : Nat), s10, s11, s12, s13, .int .i64 0, s15, s16, s17, s18, s19, s20, s21, s22, s23, s24, s25, s26, s27, s28, s29, s30, s31, s32, s33, s34, s35, s36, s37, s38, s39, s40, s41, s42, s43, s44, s45, s46, s47, s48, s49, s50, s51, s52, s53, s54, s55, s56, s57, s58, s59, s60, s61, s62, s63, s64, s65, s66, s67, s68, s69, s70, s71, s72, s73, s74, s75, s76, s77, s78, s79, s80, s81, s82, s83, s84, s85, s86, s87, s88, s89, s90, s91, s92, s93, s94, s95, s96, s97, s98, s99, s100, s101, s102, s103, s104, s105, s106, s107, s108, s109, s110, s111, s112, s113, s114, s115, s116, s117, s118, s119, s120, s121, s122, s123, s124, s125, s126, s127, s128, s129, s130, s131, s132, s133, s134, s135, s136, s137, s138, s139, s140, s141, s142, s143, s144, s145, s146, s147, s148, s149, s150, s151, s152, s153, s154, s155, s156, s157, s158, s159, s160, s161, s162, s163, s164, s165, s166, s167, s168, s169, s170, s171, s172, s173, s174, s175, s176, s177, s178, s179, s180, s181], []⟩ ws := by
  have HWl := Lib.hid hWl
  have HW8 := Lib.hid hW8
  have HBL : Hid (∀ i, at' W i < 256) := fun i => at_lt hWl i
  have HK := Lib.hid hK
  have HKp := Lib.hid hKp
  clear hWl hW8 hK hKp
  have HLt := Lib.hid hLt
  have HP := Lib.hid hP
  have HF := Lib.hid hF
  have HZ1 := Lib.hid hZ
  have HN5 := Lib.hid hni
  have hni2 := HBL.out 5
  rw [hni] at hni2
  clear hni hLt hP hF hZ
  have HO0 : Hid (ws.ownsRow SB IT 1 (.slice none 0 0) 0 (cellsI (inosM W o 0))) := ⟨by simp [inosM, cellsI], .inl ⟨rfl, rfl⟩⟩
  conv => arg 2; whnf
  go_wp2_with fail
  go_loopw [9, 14] (fun v t wr => D4R w W P e0 c0 i0 p0 X0 (.slice a 88 cp) fv nf k av SB o ni v t wr) (fun _ t _ => ni - (intOf t).toNat)
  case atStart => exact ⟨0, none, 0, Nat.zero_le _, rfl, rfl, (fun i hi => by omega), HP.out, HO0.out, HF.out, HZ1.out⟩
  case round =>
    clear HP HO0 HF HZ1
    rename World => wq
    obtain ⟨j, ia, ic, hj, rfl, rfl, hjp, hP, hO, hF, hsz⟩ := hrel
    have HP := Lib.hid hP
    have HO := Lib.hid hO
    have HF := Lib.hid hF
    have HZ := Lib.hid hsz
    clear hP hO hF hsz
    obtain ⟨q, hq⟩ : ∃ q, o + j = q := ⟨_, rfl⟩
    rw [hq]
    have hA5 := HP.out.atZ HWl.out HW8.out 5 5 rfl (by decide)
    rw [HN5.out] at hA5
    have HA5 := Lib.hid hA5
    clear hA5
    by_cases hjl : j < ni ∧ q < 88
    · obtain ⟨hjl, hq88⟩ := hjl
      have i1 : (j : Int) < (ni : Int) := by omega
      have i2 : (q : Int) < 88 := by omega
      go_wp2_with fail
      refine HA5.out.mono ?_
      rintro e wz ⟨rfl, rfl⟩
      clear HA5
      go_wp2_with fail
      refine wp_region_any (by kernel_rfl) ?_
      change wpAny _ _ _ _ _ _ _ (World.drew _)
      have HPd := Lib.hid HP.out.drew
      have HOd : Hid (wq.drew.ownsRow SB IT 1 (.slice ia j ic) j (cellsI (inosM W o j))) := HO.out
      have HFd : Hid (Fo wq.drew (P + 1) fv av (filesD W nf) k) := ⟨HF.out.row, HF.out.its⟩
      have HZd : Hid (SB ≤ wq.drew.heap.size) := HZ.out
      clear HP HO HF HZ
      generalize wq.drew = wd at *
      have d2 := HPd.out.pt.cell 6
      simp at d2
      have hA1 := HPd.out.atZ HWl.out HW8.out q q rfl (by omega)
      have q1 := HBL.out q
      have hv : inosM W o (j + 1) = inosM W o j ++ [((at' W q : Nat) : Int)] := by rw [inosM_snoc, hq]
      obtain ⟨y1, hy1⟩ : ∃ n, at' W q = n := ⟨_, rfl⟩
      rw [hy1] at hA1 q1 hv
      have HA1 := Lib.hid hA1
      have HV := Lib.hid hv
      clear hA1 hv hy1
      have hzz := HZd.out
      have hpz : P < wd.heap.size := by omega
      have hw7 : True := trivial
      refine wpAny_take (i := 0) (v := Value.pointer (some ⟨P, 6, none⟩)) rfl (by kernel_rfl) (by kernel_rfl) (by kernel_rfl) (fun _ _ _ h => HKp.out _ _ _ _ _ h) (Or.inl ⟨by rfl, fun W => by first | (go_simp; done) | (go_simp; rfl) | (go_simp; rw [hw7]; done) | (go_simp; rw [hw7])⟩) ?_
      refine wpAny_take (i := 2) (v := Value.slice a 88 cp) rfl (by kernel_rfl) (by kernel_rfl) (by kernel_rfl) (fun _ _ _ h => HKp.out _ _ _ _ _ h) (Or.inl ⟨by rfl, fun W => by first | (go_simp; done) | (go_simp; rfl) | (go_simp; rw [hw7]; done) | (go_simp; rw [hw7])⟩) ?_
      refine wpAny_take (i := 3) (v := Value.int .i64 (q : Nat)) rfl (by kernel_rfl) (by kernel_rfl) (by kernel_rfl) (fun _ _ _ h => HKp.out _ _ _ _ _ h) (Or.inl ⟨by rfl, fun W => by first | (go_simp; done) | (go_simp; rfl) | (go_simp; rw [hw7]; done) | (go_simp; rw [hw7])⟩) ?_
      refine wpAny_ready (rs := [1, 4]) (by kernel_rfl) (by simp) (AllReady.cons rfl (fun K hK => ?_) (AllReady.cons rfl (fun K hK => ?_) AllReady.nil))
      · go_simp
        refine hK _ _ ?_
        clear hK K
        refine wpAny_ready (rs := [4]) (by kernel_rfl) (by simp) (AllReady.cons rfl (fun K hK => ?_) AllReady.nil)
        go_simp
        refine HA1.out.mono ?_
        rintro e wz ⟨rfl, rfl⟩
        refine hK _ _ ?_
        clear hK K
        refine wpAny_ready (rs := [5]) (by kernel_rfl) (by simp) (AllReady.cons rfl (fun K hK => ?_) AllReady.nil)
        go_simp
        refine hK _ _ ?_
        clear hK K
        refine wpAny_ready (rs := [6]) (by kernel_rfl) (by simp) (AllReady.cons rfl (fun K hK => ?_) AllReady.nil)
        refine step_append_row rfl (.tmp 158) (.tmp 162) 23 rfl SB IT _ 1 8 Try.underlying23 info_it (by kernel_rfl) (by decide) (by decide) (.slice ia j ic) j (cellsI (inosM W o j)) rfl (own_later HOd.out (sup_pc wd (.cells #[.int .i64 (y1 : Int)] IT))) (some ⟨wd.heap.size, 0, none⟩) 1 1 [.int .i64 (y1 : Int)] rfl rfl (laid_srcO wd IT _ _ rfl) (by simp [Value.oneCell']) (fun h => by cases h) (by omega) (by simp; omega) ?_
        intro v' z3 hr3 hg3 _
        obtain ⟨a5, c5, rfl, -⟩ := own_slice hr3
        have HE := Lib.hid (ino_endD (ys := inosM W o (j + 1)) HPd.out hPS HOd.out HFd.out HLt.out hwF hr3 hg3 (by rw [HV.out, ← cellsI_append]; rfl))
        have HX3 := Lib.hid ((HPd.out.pt.alloc (.cells #[.int .i64 (y1 : Int)] IT)).grown hg3 ((HPd.out.pt.alloc (.cells #[.int .i64 (y1 : Int)] IT)).row_apart (own_later HOd.out (sup_pc wd (.cells #[.int .i64 (y1 : Int)] IT))) (by decide)))
        have hz3 : SB ≤ z3.heap.size := by have := hg3.size; simp at this; omega
        have d4 := HX3.out.cell 6
        have e4 := HX3.out.frozen 6
        simp at d4
        clear hr3 hg3
        refine hK _ _ ?_
        clear hK K
        refine wpAny_take (i := 7) (v := Value.pointer (some ⟨P, 6, none⟩)) rfl (by kernel_rfl) (by kernel_rfl) (by kernel_rfl) (fun _ _ _ h => HKp.out _ _ _ _ _ h) (Or.inl ⟨by rfl, fun W => by first | (go_simp; done) | (go_simp; rfl) | (go_simp; rw [hw7]; done) | (go_simp; rw [hw7])⟩) ?_
        refine wpAny_ready (rs := [8]) (by kernel_rfl) (by simp) (AllReady.cons rfl (fun K hK => ?_) AllReady.nil)
        go_simp
        refine hK _ _ ?_
        clear hK K
        refine wpAny_done (by kernel_rfl) ?_ _
        go_wp2_with fail
        go_roundw
        case rel => exact ⟨j + 1, a5, c5, by omega, by simp, by rw [show ((o + (j + 1) : Nat) : Int) = (q : Int) + 1 by omega], fun i hi => by omega, HE.out.1, HE.out.2.1, HE.out.2.2, by rw [World.size_setCell]; exact hz3⟩
        case measure => simp [intOf]; omega
      · go_simp
        refine HA1.out.mono ?_
        rintro e wz ⟨rfl, rfl⟩
        refine hK _ _ ?_
        clear hK K
        refine wpAny_ready (rs := [1, 5]) (by kernel_rfl) (by simp) (AllReady.cons rfl (fun K hK => ?_) (AllReady.cons rfl (fun K hK => ?_) AllReady.nil))
        · go_simp
          refine hK _ _ ?_
          clear hK K
          refine wpAny_ready (rs := [5]) (by kernel_rfl) (by simp) (AllReady.cons rfl (fun K hK => ?_) AllReady.nil)
          go_simp
          refine hK _ _ ?_
          clear hK K
          refine wpAny_ready (rs := [6]) (by kernel_rfl) (by simp) (AllReady.cons rfl (fun K hK => ?_) AllReady.nil)
          refine step_append_row rfl (.tmp 158) (.tmp 162) 23 rfl SB IT _ 1 8 Try.underlying23 info_it (by kernel_rfl) (by decide) (by decide) (.slice ia j ic) j (cellsI (inosM W o j)) rfl (own_later HOd.out (sup_pc wd (.cells #[.int .i64 (y1 : Int)] IT))) (some ⟨wd.heap.size, 0, none⟩) 1 1 [.int .i64 (y1 : Int)] rfl rfl (laid_srcO wd IT _ _ rfl) (by simp [Value.oneCell']) (fun h => by cases h) (by omega) (by simp; omega) ?_
          intro v' z3 hr3 hg3 _
          obtain ⟨a5, c5, rfl, -⟩ := own_slice hr3
          have HE := Lib.hid (ino_endD (ys := inosM W o (j + 1)) HPd.out hPS HOd.out HFd.out HLt.out hwF hr3 hg3 (by rw [HV.out, ← cellsI_append]; rfl))
          have HX3 := Lib.hid ((HPd.out.pt.alloc (.cells #[.int .i64 (y1 : Int)] IT)).grown hg3 ((HPd.out.pt.alloc (.cells #[.int .i64 (y1 : Int)] IT)).row_apart (own_later HOd.out (sup_pc wd (.cells #[.int .i64 (y1 : Int)] IT))) (by decide)))
          have hz3 : SB ≤ z3.heap.size := by have := hg3.size; simp at this; omega
          have d4 := HX3.out.cell 6
          have e4 := HX3.out.frozen 6
          simp at d4
          clear hr3 hg3
          refine hK _ _ ?_
          clear hK K
          refine wpAny_take (i := 7) (v := Value.pointer (some ⟨P, 6, none⟩)) rfl (by kernel_rfl) (by kernel_rfl) (by kernel_rfl) (fun _ _ _ h => HKp.out _ _ _ _ _ h) (Or.inl ⟨by rfl, fun W => by first | (go_simp; done) | (go_simp; rfl) | (go_simp; rw [hw7]; done) | (go_simp; rw [hw7])⟩) ?_
          refine wpAny_ready (rs := [8]) (by kernel_rfl) (by simp) (AllReady.cons rfl (fun K hK => ?_) AllReady.nil)
          go_simp
          refine hK _ _ ?_
          clear hK K
          refine wpAny_done (by kernel_rfl) ?_ _
          go_wp2_with fail
          go_roundw
          case rel => exact ⟨j + 1, a5, c5, by omega, by simp, by rw [show ((o + (j + 1) : Nat) : Int) = (q : Int) + 1 by omega], fun i hi => by omega, HE.out.1, HE.out.2.1, HE.out.2.2, by rw [World.size_setCell]; exact hz3⟩
          case measure => simp [intOf]; omega
        · go_simp
          refine hK _ _ ?_
          clear hK K
          refine wpAny_ready (rs := [1]) (by kernel_rfl) (by simp) (AllReady.cons rfl (fun K hK => ?_) AllReady.nil)
          go_simp
          refine hK _ _ ?_
          clear hK K
          refine wpAny_ready (rs := [6]) (by kernel_rfl) (by simp) (AllReady.cons rfl (fun K hK => ?_) AllReady.nil)
          refine step_append_row rfl (.tmp 158) (.tmp 162) 23 rfl SB IT _ 1 8 Try.underlying23 info_it (by kernel_rfl) (by decide) (by decide) (.slice ia j ic) j (cellsI (inosM W o j)) rfl (own_later HOd.out (sup_pc wd (.cells #[.int .i64 (y1 : Int)] IT))) (some ⟨wd.heap.size, 0, none⟩) 1 1 [.int .i64 (y1 : Int)] rfl rfl (laid_srcO wd IT _ _ rfl) (by simp [Value.oneCell']) (fun h => by cases h) (by omega) (by simp; omega) ?_
          intro v' z3 hr3 hg3 _
          obtain ⟨a5, c5, rfl, -⟩ := own_slice hr3
          have HE := Lib.hid (ino_endD (ys := inosM W o (j + 1)) HPd.out hPS HOd.out HFd.out HLt.out hwF hr3 hg3 (by rw [HV.out, ← cellsI_append]; rfl))
          have HX3 := Lib.hid ((HPd.out.pt.alloc (.cells #[.int .i64 (y1 : Int)] IT)).grown hg3 ((HPd.out.pt.alloc (.cells #[.int .i64 (y1 : Int)] IT)).row_apart (own_later HOd.out (sup_pc wd (.cells #[.int .i64 (y1 : Int)] IT))) (by decide)))
          have hz3 : SB ≤ z3.heap.size := by have := hg3.size; simp at this; omega
          have d4 := HX3.out.cell 6
          have e4 := HX3.out.frozen 6
          simp at d4
          clear hr3 hg3
          refine hK _ _ ?_
          clear hK K
          refine wpAny_take (i := 7) (v := Value.pointer (some ⟨P, 6, none⟩)) rfl (by kernel_rfl) (by kernel_rfl) (by kernel_rfl) (fun _ _ _ h => HKp.out _ _ _ _ _ h) (Or.inl ⟨by rfl, fun W => by first | (go_simp; done) | (go_simp; rfl) | (go_simp; rw [hw7]; done) | (go_simp; rw [hw7])⟩) ?_
          refine wpAny_ready (rs := [8]) (by kernel_rfl) (by simp) (AllReady.cons rfl (fun K hK => ?_) AllReady.nil)
          go_simp
          refine hK _ _ ?_
          clear hK K
          refine wpAny_done (by kernel_rfl) ?_ _
          go_wp2_with fail
          go_roundw
          case rel => exact ⟨j + 1, a5, c5, by omega, by simp, by rw [show ((o + (j + 1) : Nat) : Int) = (q : Int) + 1 by omega], fun i hi => by omega, HE.out.1, HE.out.2.1, HE.out.2.2, by rw [World.size_setCell]; exact hz3⟩
          case measure => simp [intOf]; omega
    · have hx : (¬ (j : Int) < (ni : Int)) ∨ ((j : Int) < (ni : Int) ∧ ¬ (q : Int) < 88) := by omega
      have hst : j = ni ∨ 88 ≤ o + j := by omega
      clear hjl
      rcases hx with i1 | ⟨i1, i2⟩
      all_goals
        go_wp2_with fail
        refine HA5.out.mono ?_
        rintro e wz ⟨rfl, rfl⟩
        go_wp2_with fail
        exact HK.out _ _ _ _ _ _ _ _ _ _ _ _ _ _ _ _ _ _ _ _ _ _ _ ⟨j, ia, ic, hj, hjp, hst, HP.out, HO.out, HF.out, HZ.out⟩
end Go.Proofs.Ytkdjfhbdcfjnnaa
