/-
  SwRDl · SwRDec · SgDRm: these texts in one.
-/
import Derived.Test.YtlkgaefabahkoaaDoorPk19
import Derived.BigRegion
import Derived.Deep.CutBlock
import Derived.Deep.DeepCutAuto
import Derived.Test.YtlkgaefabahkoaaDoorPk07
import Derived.Test.YtlkgaefabahkoaaDoorPk17
import Derived.Test.YtlkgaefabahkoaaDoorPk10
import Derived.Lib.ConvBytes
/-
  The document's Decode: its three loops: that reads a file's numbers, that reads the files, that reads the inodes.
-/
namespace Go.Proofs.YtlkgaefabahkoaaDoor
open Go.RowKit

set_option maxRecDepth 1000000 in
set_option maxHeartbeats 16000000 in
theorem dec_loop3 {w : World} {W : List Nat} (hWl : ∀ y ∈ W, y < 256) (hW8 : W.length = 88) (P : Nat) (e0 c0 i0 p0 X0 : Int) (a : Option Addr) (cp : Nat) (fa : Option Addr) (k fc nf : Nat) (av : Nat → Value) (FB : Nat) (b0 a1 : Int) (o nl : Nat) (hoB : o < 88) (hnl : nl < 256) (hPF : P < FB)
    (hwF : ∀ g, (Value.slice a 88 cp).ownBlock = some g → g < FB) (hLt : FoLt FB (.slice fa k fc) av k) (v0 : Int) (hv0 : v0 = ((o + 4 + 2 * 0 : Nat) : Int)) {wf : World}
    (hP3 : Dr w W e0 c0 i0 p0 X0 P (.slice fa k fc) (.slice none 0 0) (.slice a 88 cp) wf) (hX3 : Blo wf FB FN #[.int .i64 b0, .int .i64 a1, .slice none 0 0]) (hF3 : Fo wf (P + 1) (.slice fa k fc) av (filesD W nf) k) (hS3 : FB < wf.heap.size)
    (s0 s1 s2 s3 s4 s5 s7 s8 s10 s14 s15 s16 s17 s18 s19 s20 s21 s22 s23 s24 s25 s26 s27 s28 s29 s30 s31 s32 s33 s34 s35 s36 s37 s38 s39 s40 s41 s42 s43 s44 s45 s46 s47 s48 s49 s50 s51 s52 s53 s54 s55 s56 s57 s58 s59 s60 s61 s62 s63 s64 s65 s66 s67 s68 s69 s70 s71 s72 s73 s74 s75 s76 s77 s78 s79 s80 s81 s82 s83 s84 s85 s86 s87 s88 s89 s90 s91 s92 s93 s94 s95 s96 s97 s98 s99 s100 s101 s102 s103 s104 s105 s106 s107 s108 s109 s110 s111 s112 s113 s114 s115 s116 s117 s118 s119 s120 s121 s122 s123 s124 s125 s126 s127 s128 s129 s130 s131 s132 s133 s134 s135 s136 s137 s138 s139 s140 s141 s142 s143 s144 s145 s146 s147 s148 s149 s150 s151 s152 s153 s154 s155 s156 s157 s158 s159 s160 s161 s162 s163 s164 s165 s166 s167 s168 s169 s170 s171 s172 s173 s174 s175 s176 s177 s178 s179 s180 s181 : Value) (K : Exit → Act → World → Prop) (hKp : ∀ c (x : Act) (q : Option Nat) v W', K (.panic c) (x.put q v) W' → K (.panic c) x W')
    (hK : ∀ (u9 u13 u115 u116 u117 u118 u119 u120 u121 u122 u123 u124 u125 u126 u127 u128 u129 u130 u131 u132 u133 u134 u135 u136 u137 u138 u139 u140 : Value) (wx : World), D3E w W P e0 c0 i0 p0 X0 (.slice a 88 cp) (.slice fa k fc) nf k av FB b0 a1 o nl u9 wx → K .normal ⟨#[s0, s1, s2, s3, s4, s5, .slice a 88 cp, s7, s8, u9, s10, .pointer (some ⟨FB, 0, none⟩), .int .i64 nl, u13, s14, s15, s16, s17, s18, s19, s20, s21, s22, s23, s24, s25, s26, s27, s28, s29, s30, s31, s32, s33, s34, s35, s36, s37, s38, s39, s40, s41, s42, s43, s44, s45, s46, s47, s48, s49, s50, s51, s52, s53, s54, s55, s56, s57, s58, s59, s60, s61, s62, s63, s64, s65, s66, s67, s68, s69, s70, s71, s72, s73, s74, s75, s76, s77, s78, s79, s80, s81, s82, s83, s84, s85, s86, s87, s88, s89, s90, s91, s92, s93, s94, s95, s96, s97, s98, s99, s100, s101, s102, s103, s104, s105, s106, s107, s108, s109, s110, s111, s112, s113, s114, u115, u116, u117, u118, u119, u120, u121, u122, u123, u124, u125, u126, u127, u128, u129, u130, u131, u132, u133, u134, u135, u136, u137, u138, u139, u140, s141, s142, s143, s144, s145, s146, s147, s148, s149, s150, s151, s152, s153, s154, s155, s156, s157, s158, s159, s160, s161, s162, s163, s164, s165, s166, s167, s168, s169, s170, s171, s172, s173, s174, s175, s176, s177, s178, s179, s180, s181], []⟩ wx) :
    Code.wp Tryd.prog (rdBlk 4) K ⟨#[s0, s1, s2, s3, s4, s5, .slice a 88 cp, s7, s8, .int .i64 v0, s10, .pointer (some ⟨FB, 0, none⟩), .int .i64 nl, .int .i64 0, s14, s15, s16, s17, s18, s19, s20, s21, s22, s23, s24, s25, s26, s27, s28, s29, s30, s31, s32, s33, s34, s35, s36, s37, s38, s39, s40, s41, s42, s43, s44, s45, s46, s47, s48, s49, s50, s51, s52, s53, s54, s55, s56, s57, s58, s59, s60, s61, s62, s63, s64, s65, s66, s67, s68, s69, s70, s71, s72, s73, s74, s75, s76, s77, s78, s79, s80, s81, s82, s83, s84, s85, s86, s87, s88, s89, s90, s91, s92, s93, s94, s95, s96, s97, s98, s99, s100, s101, s102, s103, s104, s105, s106, s107, s108, s109, s110, s111, s112, s113, s114, s115, s116, s117, s118, s119, s120, s121, s122, s123, s124, s125, s126, s127, s128, s129, s130, s131, s132, s133, s134, s135, s136, s137, s138, s139, s140, s141, s142, s143, s144, s145, s146, s147, s148, s149, s150, s151, s152, s153, s154, s155, s156, s157, s158, s159, s160, s161, s162, s163, s164, s165, s166, s167, s168, s169, s170, s171, s172, s173, s174, s175, s176, s177, s178, s179, s180, s181], []⟩ wf := by
  have HWl := Lib.hid hWl
  have HW8 := Lib.hid hW8
  have HBL : Hid (∀ i, at' W i < 256) := fun i => at_lt hWl i
  have HK := Lib.hid hK
  have HKp := Lib.hid hKp
  clear hWl hW8 hK hKp
  have HLt := Lib.hid hLt
  have HP3 := Lib.hid hP3
  have HX3 := Lib.hid hX3
  have HF3 := Lib.hid hF3
  have HS3 := Lib.hid hS3
  clear hLt hP3 hX3 hF3 hS3
  conv => arg 2; whnf
  go_wp2_with fail
  go_loopw [9, 13] (fun v t wr => D3R w W P e0 c0 i0 p0 X0 (.slice a 88 cp) (.slice fa k fc) nf k av FB b0 a1 o nl v t wr) (fun _ t _ => nl - (intOf t).toNat)
  case atStart => exact ⟨0, none, 0, Nat.zero_le _, rfl, (by first | rw [hv0] | simp), .inl rfl, HP3.out, HX3.out, ⟨by simp [lbAt, cellsI], .inl ⟨rfl, rfl⟩⟩, HF3.out, HS3.out⟩
  case round =>
    clear HP3 HX3 HF3 HS3
    rename World => wq
    clear hv0
    obtain ⟨j, la, lc, hj, rfl, rfl, hj90, hP, hX, hO, hF, hsz⟩ := hrel
    have HP := Lib.hid hP
    have HX := Lib.hid hX
    have HO := Lib.hid hO
    have HF := Lib.hid hF
    have HZ := Lib.hid hsz
    clear hP hX hO hF hsz
    obtain ⟨q, hq⟩ : ∃ q, o + 4 + 2 * j = q := ⟨_, rfl⟩
    rw [hq] at hj90
    rw [hq]
    by_cases hjl : j < nl ∧ q < 88
    · obtain ⟨hjl, hq88⟩ := hjl
      have i1 : (j : Int) < (nl : Int) := by omega
      have i2 : (q : Int) < 88 := by omega
      go_wp2_with fail
      refine wp_region_any (by kernel_rfl) ?_
      change wpAny _ _ _ _ _ _ _ (World.drew _)
      have HPd := Lib.hid HP.out.drew
      have HXd : Hid (Blo wq.drew FB FN #[.int .i64 b0, .int .i64 a1, .slice la j lc]) := HX.out
      have HOd : Hid (wq.drew.ownsRow (FB + 1) IT 1 (.slice la j lc) j (cellsI (lbAt W (o + 4) j))) := HO.out
      have HFd : Hid (Fo wq.drew (P + 1) (.slice fa k fc) av (filesD W nf) k) := ⟨HF.out.row, HF.out.its⟩
      have HZd : Hid (FB < wq.drew.heap.size) := HZ.out
      clear HP HX HO HF HZ
      generalize wq.drew = wd at *
      have d2 := HXd.out.cell 2
      simp at d2
      have hA1 := HPd.out.atZ HWl.out HW8.out q q rfl (by omega)
      have hA2 := HPd.out.atZ HWl.out HW8.out ((q : Int) + 1) (q + 1) (by omega) (by omega)
      have q1 := HBL.out q
      have q2 := HBL.out (q + 1)
      have hv : lbAt W (o + 4) (j + 1) = lbAt W (o + 4) j ++ [((v2 W q : Nat) : Int) - 1000] := by rw [lbAt_snoc, hq]
      have hx : ((v2 W q : Nat) : Int) = (at' W q : Nat) + 256 * (at' W (q + 1) : Nat) := by
        have : v2 W q = at' W q + 256 * at' W (q + 1) := rfl
        rw [this]; omega
      rw [hx] at hv
      obtain ⟨y1, hy1⟩ : ∃ n, at' W q = n := ⟨_, rfl⟩
      obtain ⟨y2, hy2⟩ : ∃ n, at' W (q + 1) = n := ⟨_, rfl⟩
      rw [hy1, hy2] at hv
      rw [hy1] at hA1 q1
      rw [hy2] at hA2 q2
      have HA1 := Lib.hid hA1
      have HA2 := Lib.hid hA2
      have HV := Lib.hid hv
      clear hA1 hA2 hv hx hy1 hy2
      have hzz := HZd.out
      have hw7 : IntKind.i64.wrap ((q : Int) + 1) = (q : Int) + 1 := by rw [IntKind.wrap_i64]; omega
      have hw9 : IntKind.i64.wrap (256 * (y2 : Int)) = 256 * (y2 : Int) := by rw [IntKind.wrap_i64]; omega
      have hw10 : IntKind.i64.wrap ((y1 : Int) + 256 * (y2 : Int)) = (y1 : Int) + 256 * (y2 : Int) := by rw [IntKind.wrap_i64]; omega
      have hw11 : IntKind.i64.wrap ((y1 : Int) + 256 * (y2 : Int) - 1000) = (y1 : Int) + 256 * (y2 : Int) - 1000 := by rw [IntKind.wrap_i64]; omega
      refine wpAny_take (i := 0) (v := Value.pointer (some ⟨FB, 2, none⟩)) rfl (by kernel_rfl) (by kernel_rfl) (by kernel_rfl) (fun _ _ _ h => HKp.out _ _ _ _ _ h) (Or.inl ⟨by rfl, fun W => by first | (go_simp; done) | (go_simp; rfl) | (go_simp; rw [hw7]; done) | (go_simp; rw [hw7]) | (go_simp; rw [hw9]; done) | (go_simp; rw [hw9]) | (go_simp; rw [hw10]; done) | (go_simp; rw [hw10]) | (go_simp; rw [hw11]; done) | (go_simp; rw [hw11])⟩) ?_
      refine wpAny_take (i := 2) (v := Value.slice a 88 cp) rfl (by kernel_rfl) (by kernel_rfl) (by kernel_rfl) (fun _ _ _ h => HKp.out _ _ _ _ _ h) (Or.inl ⟨by rfl, fun W => by first | (go_simp; done) | (go_simp; rfl) | (go_simp; rw [hw7]; done) | (go_simp; rw [hw7]) | (go_simp; rw [hw9]; done) | (go_simp; rw [hw9]) | (go_simp; rw [hw10]; done) | (go_simp; rw [hw10]) | (go_simp; rw [hw11]; done) | (go_simp; rw [hw11])⟩) ?_
      refine wpAny_take (i := 3) (v := Value.int .i64 (q : Nat)) rfl (by kernel_rfl) (by kernel_rfl) (by kernel_rfl) (fun _ _ _ h => HKp.out _ _ _ _ _ h) (Or.inl ⟨by rfl, fun W => by first | (go_simp; done) | (go_simp; rfl) | (go_simp; rw [hw7]; done) | (go_simp; rw [hw7]) | (go_simp; rw [hw9]; done) | (go_simp; rw [hw9]) | (go_simp; rw [hw10]; done) | (go_simp; rw [hw10]) | (go_simp; rw [hw11]; done) | (go_simp; rw [hw11])⟩) ?_
      refine wpAny_take (i := 5) (v := Value.slice a 88 cp) rfl (by kernel_rfl) (by kernel_rfl) (by kernel_rfl) (fun _ _ _ h => HKp.out _ _ _ _ _ h) (Or.inl ⟨by rfl, fun W => by first | (go_simp; done) | (go_simp; rfl) | (go_simp; rw [hw7]; done) | (go_simp; rw [hw7]) | (go_simp; rw [hw9]; done) | (go_simp; rw [hw9]) | (go_simp; rw [hw10]; done) | (go_simp; rw [hw10]) | (go_simp; rw [hw11]; done) | (go_simp; rw [hw11])⟩) ?_
      refine wpAny_take (i := 6) (v := Value.int .i64 (q : Nat)) rfl (by kernel_rfl) (by kernel_rfl) (by kernel_rfl) (fun _ _ _ h => HKp.out _ _ _ _ _ h) (Or.inl ⟨by rfl, fun W => by first | (go_simp; done) | (go_simp; rfl) | (go_simp; rw [hw7]; done) | (go_simp; rw [hw7]) | (go_simp; rw [hw9]; done) | (go_simp; rw [hw9]) | (go_simp; rw [hw10]; done) | (go_simp; rw [hw10]) | (go_simp; rw [hw11]; done) | (go_simp; rw [hw11])⟩) ?_
      refine wpAny_take (i := 7) (v := Value.int .i64 ((q : Int) + 1)) rfl (by kernel_rfl) (by kernel_rfl) (by kernel_rfl) (fun _ _ _ h => HKp.out _ _ _ _ _ h) (Or.inl ⟨by rfl, fun W => by first | (go_simp; done) | (go_simp; rfl) | (go_simp; rw [hw7]; done) | (go_simp; rw [hw7]) | (go_simp; rw [hw9]; done) | (go_simp; rw [hw9]) | (go_simp; rw [hw10]; done) | (go_simp; rw [hw10]) | (go_simp; rw [hw11]; done) | (go_simp; rw [hw11])⟩) ?_
      refine wpAny_ready (rs := [1, 4]) (by kernel_rfl) (by simp) (AllReady.cons rfl (fun K hK => ?_) (AllReady.cons rfl (fun K hK => ?_) AllReady.nil))
      · go_simp
        refine hK _ _ ?_
        clear hK K
        refine wpAny_ready (rs := [4]) (by kernel_rfl) (by simp) (AllReady.cons rfl (fun K hK => ?_) AllReady.nil)
        go_simp
        refine HA1.out.mono ?_
        rintro e wz ⟨rfl, rfl⟩
        refine hK _ _ ?_
        clear hK K
        refine wpAny_ready (rs := [8]) (by kernel_rfl) (by simp) (AllReady.cons rfl (fun K hK => ?_) AllReady.nil)
        go_simp
        refine HA2.out.mono ?_
        rintro e wz ⟨rfl, rfl⟩
        refine hK _ _ ?_
        clear hK K
        refine wpAny_take (i := 9) (v := Value.int .i64 (256 * (y2 : Int))) rfl (by kernel_rfl) (by kernel_rfl) (by kernel_rfl) (fun _ _ _ h => HKp.out _ _ _ _ _ h) (Or.inl ⟨by rfl, fun W => by first | (go_simp; done) | (go_simp; rfl) | (go_simp; rw [hw7]; done) | (go_simp; rw [hw7]) | (go_simp; rw [hw9]; done) | (go_simp; rw [hw9]) | (go_simp; rw [hw10]; done) | (go_simp; rw [hw10]) | (go_simp; rw [hw11]; done) | (go_simp; rw [hw11])⟩) ?_
        refine wpAny_take (i := 10) (v := Value.int .i64 ((y1 : Int) + 256 * (y2 : Int))) rfl (by kernel_rfl) (by kernel_rfl) (by kernel_rfl) (fun _ _ _ h => HKp.out _ _ _ _ _ h) (Or.inl ⟨by rfl, fun W => by first | (go_simp; done) | (go_simp; rfl) | (go_simp; rw [hw7]; done) | (go_simp; rw [hw7]) | (go_simp; rw [hw9]; done) | (go_simp; rw [hw9]) | (go_simp; rw [hw10]; done) | (go_simp; rw [hw10]) | (go_simp; rw [hw11]; done) | (go_simp; rw [hw11])⟩) ?_
        refine wpAny_take (i := 11) (v := Value.int .i64 ((y1 : Int) + 256 * (y2 : Int) - 1000)) rfl (by kernel_rfl) (by kernel_rfl) (by kernel_rfl) (fun _ _ _ h => HKp.out _ _ _ _ _ h) (Or.inl ⟨by rfl, fun W => by first | (go_simp; done) | (go_simp; rfl) | (go_simp; rw [hw7]; done) | (go_simp; rw [hw7]) | (go_simp; rw [hw9]; done) | (go_simp; rw [hw9]) | (go_simp; rw [hw10]; done) | (go_simp; rw [hw10]) | (go_simp; rw [hw11]; done) | (go_simp; rw [hw11])⟩) ?_
        refine wpAny_ready (rs := [12]) (by kernel_rfl) (by simp) (AllReady.cons rfl (fun K hK => ?_) AllReady.nil)
        go_simp
        refine hK _ _ ?_
        clear hK K
        refine wpAny_ready (rs := [13]) (by kernel_rfl) (by simp) (AllReady.cons rfl (fun K hK => ?_) AllReady.nil)
        refine step_append_row rfl (.tmp 125) (.tmp 136) 34 rfl (FB + 1) IT _ 1 8 Tryd.underlying34 info_it (by kernel_rfl) (by decide) (by decide) (.slice la j lc) j (cellsI (lbAt W (o + 4) j)) rfl (own_later HOd.out (sup_pc wd (.cells #[.int .i64 ((y1 : Int) + 256 * (y2 : Int) - 1000)] IT))) (some ⟨wd.heap.size, 0, none⟩) 1 1 [.int .i64 ((y1 : Int) + 256 * (y2 : Int) - 1000)] rfl rfl (laid_srcO wd IT _ _ rfl) (by simp [Value.oneCell']) (fun h => by cases h) (by omega) (by simp; omega) ?_
        intro v' z3 hr3 hg3 _
        obtain ⟨a5, c5, rfl, -⟩ := own_slice hr3
        have HE := Lib.hid (inner_endD (ys := lbAt W (o + 4) (j + 1)) HPd.out hPF hwF HXd.out HOd.out HFd.out HLt.out hr3 hg3 (by rw [HV.out, ← cellsI_append]; rfl))
        have HX3 := Lib.hid ((HXd.out.alloc (.cells #[.int .i64 ((y1 : Int) + 256 * (y2 : Int) - 1000)] IT)).grown hg3 (fun e => by have := (oblo HOd.out e.symm).1; omega))
        have hz3 : FB < z3.heap.size := by have := hg3.size; simp at this; omega
        have d4 := HX3.out.cell 2
        have e4 := HX3.out.frozen 2
        simp at d4
        clear hr3 hg3
        refine hK _ _ ?_
        clear hK K
        refine wpAny_take (i := 14) (v := Value.pointer (some ⟨FB, 2, none⟩)) rfl (by kernel_rfl) (by kernel_rfl) (by kernel_rfl) (fun _ _ _ h => HKp.out _ _ _ _ _ h) (Or.inl ⟨by rfl, fun W => by first | (go_simp; done) | (go_simp; rfl) | (go_simp; rw [hw7]; done) | (go_simp; rw [hw7]) | (go_simp; rw [hw9]; done) | (go_simp; rw [hw9]) | (go_simp; rw [hw10]; done) | (go_simp; rw [hw10]) | (go_simp; rw [hw11]; done) | (go_simp; rw [hw11])⟩) ?_
        refine wpAny_ready (rs := [15]) (by kernel_rfl) (by simp) (AllReady.cons rfl (fun K hK => ?_) AllReady.nil)
        go_simp
        refine hK _ _ ?_
        clear hK K
        refine wpAny_done (by kernel_rfl) ?_ _
        go_wp2_with fail
        go_roundw
        case rel => exact ⟨j + 1, a5, c5, by omega, by simp, by rw [show ((o + 4 + 2 * (j + 1) : Nat) : Int) = (q : Int) + 2 by omega], by omega, HE.out.1, HE.out.2.1, HE.out.2.2.1, HE.out.2.2.2, by rw [World.size_setCell]; exact hz3⟩
        case measure => simp [intOf]; omega
      · go_simp
        refine HA1.out.mono ?_
        rintro e wz ⟨rfl, rfl⟩
        refine hK _ _ ?_
        clear hK K
        refine wpAny_ready (rs := [1, 8]) (by kernel_rfl) (by simp) (AllReady.cons rfl (fun K hK => ?_) (AllReady.cons rfl (fun K hK => ?_) AllReady.nil))
        · go_simp
          refine hK _ _ ?_
          clear hK K
          refine wpAny_ready (rs := [8]) (by kernel_rfl) (by simp) (AllReady.cons rfl (fun K hK => ?_) AllReady.nil)
          go_simp
          refine HA2.out.mono ?_
          rintro e wz ⟨rfl, rfl⟩
          refine hK _ _ ?_
          clear hK K
          refine wpAny_take (i := 9) (v := Value.int .i64 (256 * (y2 : Int))) rfl (by kernel_rfl) (by kernel_rfl) (by kernel_rfl) (fun _ _ _ h => HKp.out _ _ _ _ _ h) (Or.inl ⟨by rfl, fun W => by first | (go_simp; done) | (go_simp; rfl) | (go_simp; rw [hw7]; done) | (go_simp; rw [hw7]) | (go_simp; rw [hw9]; done) | (go_simp; rw [hw9]) | (go_simp; rw [hw10]; done) | (go_simp; rw [hw10]) | (go_simp; rw [hw11]; done) | (go_simp; rw [hw11])⟩) ?_
          refine wpAny_take (i := 10) (v := Value.int .i64 ((y1 : Int) + 256 * (y2 : Int))) rfl (by kernel_rfl) (by kernel_rfl) (by kernel_rfl) (fun _ _ _ h => HKp.out _ _ _ _ _ h) (Or.inl ⟨by rfl, fun W => by first | (go_simp; done) | (go_simp; rfl) | (go_simp; rw [hw7]; done) | (go_simp; rw [hw7]) | (go_simp; rw [hw9]; done) | (go_simp; rw [hw9]) | (go_simp; rw [hw10]; done) | (go_simp; rw [hw10]) | (go_simp; rw [hw11]; done) | (go_simp; rw [hw11])⟩) ?_
          refine wpAny_take (i := 11) (v := Value.int .i64 ((y1 : Int) + 256 * (y2 : Int) - 1000)) rfl (by kernel_rfl) (by kernel_rfl) (by kernel_rfl) (fun _ _ _ h => HKp.out _ _ _ _ _ h) (Or.inl ⟨by rfl, fun W => by first | (go_simp; done) | (go_simp; rfl) | (go_simp; rw [hw7]; done) | (go_simp; rw [hw7]) | (go_simp; rw [hw9]; done) | (go_simp; rw [hw9]) | (go_simp; rw [hw10]; done) | (go_simp; rw [hw10]) | (go_simp; rw [hw11]; done) | (go_simp; rw [hw11])⟩) ?_
          refine wpAny_ready (rs := [12]) (by kernel_rfl) (by simp) (AllReady.cons rfl (fun K hK => ?_) AllReady.nil)
          go_simp
          refine hK _ _ ?_
          clear hK K
          refine wpAny_ready (rs := [13]) (by kernel_rfl) (by simp) (AllReady.cons rfl (fun K hK => ?_) AllReady.nil)
          refine step_append_row rfl (.tmp 125) (.tmp 136) 34 rfl (FB + 1) IT _ 1 8 Tryd.underlying34 info_it (by kernel_rfl) (by decide) (by decide) (.slice la j lc) j (cellsI (lbAt W (o + 4) j)) rfl (own_later HOd.out (sup_pc wd (.cells #[.int .i64 ((y1 : Int) + 256 * (y2 : Int) - 1000)] IT))) (some ⟨wd.heap.size, 0, none⟩) 1 1 [.int .i64 ((y1 : Int) + 256 * (y2 : Int) - 1000)] rfl rfl (laid_srcO wd IT _ _ rfl) (by simp [Value.oneCell']) (fun h => by cases h) (by omega) (by simp; omega) ?_
          intro v' z3 hr3 hg3 _
          obtain ⟨a5, c5, rfl, -⟩ := own_slice hr3
          have HE := Lib.hid (inner_endD (ys := lbAt W (o + 4) (j + 1)) HPd.out hPF hwF HXd.out HOd.out HFd.out HLt.out hr3 hg3 (by rw [HV.out, ← cellsI_append]; rfl))
          have HX3 := Lib.hid ((HXd.out.alloc (.cells #[.int .i64 ((y1 : Int) + 256 * (y2 : Int) - 1000)] IT)).grown hg3 (fun e => by have := (oblo HOd.out e.symm).1; omega))
          have hz3 : FB < z3.heap.size := by have := hg3.size; simp at this; omega
          have d4 := HX3.out.cell 2
          have e4 := HX3.out.frozen 2
          simp at d4
          clear hr3 hg3
          refine hK _ _ ?_
          clear hK K
          refine wpAny_take (i := 14) (v := Value.pointer (some ⟨FB, 2, none⟩)) rfl (by kernel_rfl) (by kernel_rfl) (by kernel_rfl) (fun _ _ _ h => HKp.out _ _ _ _ _ h) (Or.inl ⟨by rfl, fun W => by first | (go_simp; done) | (go_simp; rfl) | (go_simp; rw [hw7]; done) | (go_simp; rw [hw7]) | (go_simp; rw [hw9]; done) | (go_simp; rw [hw9]) | (go_simp; rw [hw10]; done) | (go_simp; rw [hw10]) | (go_simp; rw [hw11]; done) | (go_simp; rw [hw11])⟩) ?_
          refine wpAny_ready (rs := [15]) (by kernel_rfl) (by simp) (AllReady.cons rfl (fun K hK => ?_) AllReady.nil)
          go_simp
          refine hK _ _ ?_
          clear hK K
          refine wpAny_done (by kernel_rfl) ?_ _
          go_wp2_with fail
          go_roundw
          case rel => exact ⟨j + 1, a5, c5, by omega, by simp, by rw [show ((o + 4 + 2 * (j + 1) : Nat) : Int) = (q : Int) + 2 by omega], by omega, HE.out.1, HE.out.2.1, HE.out.2.2.1, HE.out.2.2.2, by rw [World.size_setCell]; exact hz3⟩
          case measure => simp [intOf]; omega
        · go_simp
          refine HA2.out.mono ?_
          rintro e wz ⟨rfl, rfl⟩
          refine hK _ _ ?_
          clear hK K
          refine wpAny_take (i := 9) (v := Value.int .i64 (256 * (y2 : Int))) rfl (by kernel_rfl) (by kernel_rfl) (by kernel_rfl) (fun _ _ _ h => HKp.out _ _ _ _ _ h) (Or.inl ⟨by rfl, fun W => by first | (go_simp; done) | (go_simp; rfl) | (go_simp; rw [hw7]; done) | (go_simp; rw [hw7]) | (go_simp; rw [hw9]; done) | (go_simp; rw [hw9]) | (go_simp; rw [hw10]; done) | (go_simp; rw [hw10]) | (go_simp; rw [hw11]; done) | (go_simp; rw [hw11])⟩) ?_
          refine wpAny_take (i := 10) (v := Value.int .i64 ((y1 : Int) + 256 * (y2 : Int))) rfl (by kernel_rfl) (by kernel_rfl) (by kernel_rfl) (fun _ _ _ h => HKp.out _ _ _ _ _ h) (Or.inl ⟨by rfl, fun W => by first | (go_simp; done) | (go_simp; rfl) | (go_simp; rw [hw7]; done) | (go_simp; rw [hw7]) | (go_simp; rw [hw9]; done) | (go_simp; rw [hw9]) | (go_simp; rw [hw10]; done) | (go_simp; rw [hw10]) | (go_simp; rw [hw11]; done) | (go_simp; rw [hw11])⟩) ?_
          refine wpAny_take (i := 11) (v := Value.int .i64 ((y1 : Int) + 256 * (y2 : Int) - 1000)) rfl (by kernel_rfl) (by kernel_rfl) (by kernel_rfl) (fun _ _ _ h => HKp.out _ _ _ _ _ h) (Or.inl ⟨by rfl, fun W => by first | (go_simp; done) | (go_simp; rfl) | (go_simp; rw [hw7]; done) | (go_simp; rw [hw7]) | (go_simp; rw [hw9]; done) | (go_simp; rw [hw9]) | (go_simp; rw [hw10]; done) | (go_simp; rw [hw10]) | (go_simp; rw [hw11]; done) | (go_simp; rw [hw11])⟩) ?_
          refine wpAny_ready (rs := [1, 12]) (by kernel_rfl) (by simp) (AllReady.cons rfl (fun K hK => ?_) (AllReady.cons rfl (fun K hK => ?_) AllReady.nil))
          · go_simp
            refine hK _ _ ?_
            clear hK K
            refine wpAny_ready (rs := [12]) (by kernel_rfl) (by simp) (AllReady.cons rfl (fun K hK => ?_) AllReady.nil)
            go_simp
            refine hK _ _ ?_
            clear hK K
            refine wpAny_ready (rs := [13]) (by kernel_rfl) (by simp) (AllReady.cons rfl (fun K hK => ?_) AllReady.nil)
            refine step_append_row rfl (.tmp 125) (.tmp 136) 34 rfl (FB + 1) IT _ 1 8 Tryd.underlying34 info_it (by kernel_rfl) (by decide) (by decide) (.slice la j lc) j (cellsI (lbAt W (o + 4) j)) rfl (own_later HOd.out (sup_pc wd (.cells #[.int .i64 ((y1 : Int) + 256 * (y2 : Int) - 1000)] IT))) (some ⟨wd.heap.size, 0, none⟩) 1 1 [.int .i64 ((y1 : Int) + 256 * (y2 : Int) - 1000)] rfl rfl (laid_srcO wd IT _ _ rfl) (by simp [Value.oneCell']) (fun h => by cases h) (by omega) (by simp; omega) ?_
            intro v' z3 hr3 hg3 _
            obtain ⟨a5, c5, rfl, -⟩ := own_slice hr3
            have HE := Lib.hid (inner_endD (ys := lbAt W (o + 4) (j + 1)) HPd.out hPF hwF HXd.out HOd.out HFd.out HLt.out hr3 hg3 (by rw [HV.out, ← cellsI_append]; rfl))
            have HX3 := Lib.hid ((HXd.out.alloc (.cells #[.int .i64 ((y1 : Int) + 256 * (y2 : Int) - 1000)] IT)).grown hg3 (fun e => by have := (oblo HOd.out e.symm).1; omega))
            have hz3 : FB < z3.heap.size := by have := hg3.size; simp at this; omega
            have d4 := HX3.out.cell 2
            have e4 := HX3.out.frozen 2
            simp at d4
            clear hr3 hg3
            refine hK _ _ ?_
            clear hK K
            refine wpAny_take (i := 14) (v := Value.pointer (some ⟨FB, 2, none⟩)) rfl (by kernel_rfl) (by kernel_rfl) (by kernel_rfl) (fun _ _ _ h => HKp.out _ _ _ _ _ h) (Or.inl ⟨by rfl, fun W => by first | (go_simp; done) | (go_simp; rfl) | (go_simp; rw [hw7]; done) | (go_simp; rw [hw7]) | (go_simp; rw [hw9]; done) | (go_simp; rw [hw9]) | (go_simp; rw [hw10]; done) | (go_simp; rw [hw10]) | (go_simp; rw [hw11]; done) | (go_simp; rw [hw11])⟩) ?_
            refine wpAny_ready (rs := [15]) (by kernel_rfl) (by simp) (AllReady.cons rfl (fun K hK => ?_) AllReady.nil)
            go_simp
            refine hK _ _ ?_
            clear hK K
            refine wpAny_done (by kernel_rfl) ?_ _
            go_wp2_with fail
            go_roundw
            case rel => exact ⟨j + 1, a5, c5, by omega, by simp, by rw [show ((o + 4 + 2 * (j + 1) : Nat) : Int) = (q : Int) + 2 by omega], by omega, HE.out.1, HE.out.2.1, HE.out.2.2.1, HE.out.2.2.2, by rw [World.size_setCell]; exact hz3⟩
            case measure => simp [intOf]; omega
          · go_simp
            refine hK _ _ ?_
            clear hK K
            refine wpAny_ready (rs := [1]) (by kernel_rfl) (by simp) (AllReady.cons rfl (fun K hK => ?_) AllReady.nil)
            go_simp
            refine hK _ _ ?_
            clear hK K
            refine wpAny_ready (rs := [13]) (by kernel_rfl) (by simp) (AllReady.cons rfl (fun K hK => ?_) AllReady.nil)
            refine step_append_row rfl (.tmp 125) (.tmp 136) 34 rfl (FB + 1) IT _ 1 8 Tryd.underlying34 info_it (by kernel_rfl) (by decide) (by decide) (.slice la j lc) j (cellsI (lbAt W (o + 4) j)) rfl (own_later HOd.out (sup_pc wd (.cells #[.int .i64 ((y1 : Int) + 256 * (y2 : Int) - 1000)] IT))) (some ⟨wd.heap.size, 0, none⟩) 1 1 [.int .i64 ((y1 : Int) + 256 * (y2 : Int) - 1000)] rfl rfl (laid_srcO wd IT _ _ rfl) (by simp [Value.oneCell']) (fun h => by cases h) (by omega) (by simp; omega) ?_
            intro v' z3 hr3 hg3 _
            obtain ⟨a5, c5, rfl, -⟩ := own_slice hr3
            have HE := Lib.hid (inner_endD (ys := lbAt W (o + 4) (j + 1)) HPd.out hPF hwF HXd.out HOd.out HFd.out HLt.out hr3 hg3 (by rw [HV.out, ← cellsI_append]; rfl))
            have HX3 := Lib.hid ((HXd.out.alloc (.cells #[.int .i64 ((y1 : Int) + 256 * (y2 : Int) - 1000)] IT)).grown hg3 (fun e => by have := (oblo HOd.out e.symm).1; omega))
            have hz3 : FB < z3.heap.size := by have := hg3.size; simp at this; omega
            have d4 := HX3.out.cell 2
            have e4 := HX3.out.frozen 2
            simp at d4
            clear hr3 hg3
            refine hK _ _ ?_
            clear hK K
            refine wpAny_take (i := 14) (v := Value.pointer (some ⟨FB, 2, none⟩)) rfl (by kernel_rfl) (by kernel_rfl) (by kernel_rfl) (fun _ _ _ h => HKp.out _ _ _ _ _ h) (Or.inl ⟨by rfl, fun W => by first | (go_simp; done) | (go_simp; rfl) | (go_simp; rw [hw7]; done) | (go_simp; rw [hw7]) | (go_simp; rw [hw9]; done) | (go_simp; rw [hw9]) | (go_simp; rw [hw10]; done) | (go_simp; rw [hw10]) | (go_simp; rw [hw11]; done) | (go_simp; rw [hw11])⟩) ?_
            refine wpAny_ready (rs := [15]) (by kernel_rfl) (by simp) (AllReady.cons rfl (fun K hK => ?_) AllReady.nil)
            go_simp
            refine hK _ _ ?_
            clear hK K
            refine wpAny_done (by kernel_rfl) ?_ _
            go_wp2_with fail
            go_roundw
            case rel => exact ⟨j + 1, a5, c5, by omega, by simp, by rw [show ((o + 4 + 2 * (j + 1) : Nat) : Int) = (q : Int) + 2 by omega], by omega, HE.out.1, HE.out.2.1, HE.out.2.2.1, HE.out.2.2.2, by rw [World.size_setCell]; exact hz3⟩
            case measure => simp [intOf]; omega
    · have hx : (¬ (j : Int) < (nl : Int)) ∨ ((j : Int) < (nl : Int) ∧ ¬ (q : Int) < 88) := by omega
      have hcn : j = cntD (o + 4) nl := by unfold cntD; omega
      clear hjl
      rcases hx with i1 | ⟨i1, i2⟩
      all_goals
        go_wp2_with fail
        exact HK.out _ _ _ _ _ _ _ _ _ _ _ _ _ _ _ _ _ _ _ _ _ _ _ _ _ _ _ _ _ ⟨j, la, lc, hcn, by rw [hq], by omega, HP.out, HX.out, HO.out, HF.out, HZ.out⟩
set_option maxRecDepth 1000000 in
set_option maxHeartbeats 16000000 in
theorem dec_loop2 {w : World} {W : List Nat} (hWl : ∀ y ∈ W, y < 256) (hW8 : W.length = 88) (P : Nat) (e0 c0 i0 p0 X0 : Int) (a : Option Addr) (cp : Nat) (nf : Nat) (hnf : at' W 4 = nf) {wf : World} (hD : Dr w W e0 c0 i0 p0 X0 P (.slice none 0 0) (.slice none 0 0) (.slice a 88 cp) wf)
    (s0 s1 s2 s3 s4 s7 s8 s11 s12 s13 s14 s15 s16 s17 s18 s19 s20 s21 s22 s23 s24 s25 s26 s27 s28 s29 s30 s31 s32 s33 s34 s35 s36 s37 s38 s39 s40 s41 s42 s43 s44 s45 s46 s47 s48 s49 s50 s51 s52 s53 s54 s55 s56 s57 s58 s59 s60 s61 s62 s63 s64 s65 s66 s67 s68 s69 s70 s71 s72 s73 s74 s75 s76 s77 s78 s79 s80 s81 s82 s83 s84 s85 s86 s87 s88 s89 s90 s91 s92 s93 s94 s95 s96 s97 s98 s99 s100 s101 s102 s103 s104 s105 s106 s107 s108 s109 s110 s111 s112 s113 s114 s115 s116 s117 s118 s119 s120 s121 s122 s123 s124 s125 s126 s127 s128 s129 s130 s131 s132 s133 s134 s135 s136 s137 s138 s139 s140 s141 s142 s143 s144 s145 s146 s147 s148 s149 s150 s151 s152 s153 s154 s155 s156 s157 s158 s159 s160 s161 s162 s163 s164 s165 s166 s167 s168 s169 s170 s171 s172 s173 s174 s175 s176 s177 s178 s179 s180 s181 : Value) (K : Exit → Act → World → Prop) (hKp : ∀ c (x : Act) (q : Option Nat) v W', K (.panic c) (x.put q v) W' → K (.panic c) x W')
    (hK : ∀ (u9 u10 u11 u12 u13 u85 u86 u87 u88 u89 u90 u91 u92 u93 u94 u95 u96 u97 u98 u99 u100 u101 u102 u103 u104 u105 u106 u107 u108 u109 u110 u111 u112 u113 u114 u115 u116 u117 u118 u119 u120 u121 u122 u123 u124 u125 u126 u127 u128 u129 u130 u131 u132 u133 u134 u135 u136 u137 u138 u139 u140 u141 u142 u143 u144 u145 u146 : Value) (wx : World), D2E w W P e0 c0 i0 p0 X0 (.slice a 88 cp) nf u9 wx → K .normal ⟨#[s0, s1, s2, s3, s4, .pointer (some ⟨P, 0, none⟩), .slice a 88 cp, s7, s8, u9, u10, u11, u12, u13, s14, s15, s16, s17, s18, s19, s20, s21, s22, s23, s24, s25, s26, s27, s28, s29, s30, s31, s32, s33, s34, s35, s36, s37, s38, s39, s40, s41, s42, s43, s44, s45, s46, s47, s48, s49, s50, s51, s52, s53, s54, s55, s56, s57, s58, s59, s60, s61, s62, s63, s64, s65, s66, s67, s68, s69, s70, s71, s72, s73, s74, s75, s76, s77, s78, s79, s80, s81, s82, s83, s84, u85, u86, u87, u88, u89, u90, u91, u92, u93, u94, u95, u96, u97, u98, u99, u100, u101, u102, u103, u104, u105, u106, u107, u108, u109, u110, u111, u112, u113, u114, u115, u116, u117, u118, u119, u120, u121, u122, u123, u124, u125, u126, u127, u128, u129, u130, u131, u132, u133, u134, u135, u136, u137, u138, u139, u140, u141, u142, u143, u144, u145, u146, s147, s148, s149, s150, s151, s152, s153, s154, s155, s156, s157, s158, s159, s160, s161, s162, s163, s164, s165, s166, s167, s168, s169, s170, s171, s172, s173, s174, s175, s176, s177, s178, s179, s180, s181], []⟩ wx) :
    Code.wp Tryd.prog (rdBlk 2) K ⟨#[s0, s1, s2, s3, s4, .pointer (some ⟨P, 0, none⟩), .slice a 88 cp, s7, s8, .int .i64 10, .int .i64 0, s11, s12, s13, s14, s15, s16, s17, s18, s19, s20, s21, s22, s23, s24, s25, s26, s27, s28, s29, s30, s31, s32, s33, s34, s35, s36, s37, s38, s39, s40, s41, s42, s43, s44, s45, s46, s47, s48, s49, s50, s51, s52, s53, s54, s55, s56, s57, s58, s59, s60, s61, s62, s63, s64, s65, s66, s67, s68, s69, s70, s71, s72, s73, s74, s75, s76, s77, s78, s79, s80, s81, s82, s83, s84, s85, s86, s87, s88, s89, s90, s91, s92, s93, s94, s95, s96, s97, s98, s99, s100, s101, s102, s103, s104, s105, s106, s107, s108, s109, s110, s111, s112, s113, s114, s115, s116, s117, s118, s119, s120, s121, s122, s123, s124, s125, s126, s127, s128, s129, s130, s131, s132, s133, s134, s135, s136, s137, s138, s139, s140, s141, s142, s143, s144, s145, s146, s147, s148, s149, s150, s151, s152, s153, s154, s155, s156, s157, s158, s159, s160, s161, s162, s163, s164, s165, s166, s167, s168, s169, s170, s171, s172, s173, s174, s175, s176, s177, s178, s179, s180, s181], []⟩ wf := by
  have HWl := Lib.hid hWl
  have HW8 := Lib.hid hW8
  have HBL : Hid (∀ i, at' W i < 256) := fun i => at_lt hWl i
  have HK := Lib.hid hK
  have HKp := Lib.hid hKp
  clear hWl hW8 hK hKp
  have HD4 := Lib.hid hD
  have HN4 := Lib.hid hnf
  have hb4 := HBL.out 4
  rw [hnf] at hb4
  have HP4 : Hid (P < wf.heap.size) := HD4.out.pt.lt
  clear hD hnf
  conv => arg 2; whnf
  go_wp2_with fail
  go_loopw [9, 10] (fun v t wr => D2R w W P e0 c0 i0 p0 X0 (.slice a 88 cp) nf v t wr) (fun _ t _ => nf - (intOf t).toNat)
  case atStart => exact ⟨0, none, 0, _, Nat.zero_le _, rfl, rfl, fun i hi => by omega, (show 10 ≤ 200 by decide), HD4.out, fo_nil _ _ _, fun i j _ h => by omega, HP4.out⟩
  case round =>
    clear HD4 HP4
    obtain ⟨k, fa, fc, av, hk, rfl, rfl, hpl, hp200, hD, hFo, hSep, hsz⟩ := hrel
    have HP := Lib.hid hD
    have HF := Lib.hid hFo
    have HSep := Lib.hid hSep
    have HZ := Lib.hid hsz
    have HPl := Lib.hid hpl
    clear hD hFo hSep hsz hpl
    obtain ⟨o, ho⟩ : ∃ o, posD W k = o := ⟨_, rfl⟩
    rw [ho] at hp200
    have HO9 := Lib.hid ho
    rw [ho]
    have hA4 := HP.out.atZ HWl.out HW8.out 4 4 rfl (by decide)
    rw [HN4.out] at hA4
    have HA4 := Lib.hid hA4
    clear hA4 ho
    by_cases hlt : k < nf ∧ o < 88
    · obtain ⟨hlt, ho88⟩ := hlt
      have i1 : (k : Int) < (nf : Int) := by omega
      have i2 : (o : Int) < 88 := by omega
      go_wp2_with fail
      refine HA4.out.mono ?_
      rintro e wz ⟨rfl, rfl⟩
      clear HA4
      have hA0 := HP.out.atZ HWl.out HW8.out o o rfl (by omega)
      have hA1 := HP.out.atZ HWl.out HW8.out ((o : Int) + 1) (o + 1) (by omega) (by omega)
      have hA2 := HP.out.atZ HWl.out HW8.out ((o : Int) + 2) (o + 2) (by omega) (by omega)
      have q0 := HBL.out o
      have q1 := HBL.out (o + 1)
      have q2 := HBL.out (o + 2)
      have hx : ((v2 W (o + 1) : Nat) : Int) = (at' W (o + 1) : Nat) + 256 * (at' W (o + 2) : Nat) := by
        have : v2 W (o + 1) = at' W (o + 1) + 256 * at' W (o + 2) := rfl
        rw [this]; omega
      obtain ⟨nl, hnl⟩ : ∃ nl, at' W (o + 3) = nl := ⟨_, rfl⟩
      have hnb := HBL.out (o + 3)
      have HE1 : Hid (posD W (k + 1) = o + 4 + 2 * cntD (o + 4) nl) := by show nxtD W (posD W k) = _; rw [HO9.out, ← hnl]; rfl
      have HE2 : Hid ((filesD W nf).getD k fi0 = ⟨(at' W o : Nat), (v2 W (o + 1) : Nat), lbAt W (o + 4) (cntD (o + 4) nl)⟩) := by show _ = _; rw [filesD_get W hlt, HO9.out, ← hnl]; rfl
      rw [hnl] at hnb
      have HNl := Lib.hid hnl
      obtain ⟨b0, hb0⟩ : ∃ n, at' W o = n := ⟨_, rfl⟩
      obtain ⟨b1, hb1⟩ : ∃ n, at' W (o + 1) = n := ⟨_, rfl⟩
      obtain ⟨b2, hb2⟩ : ∃ n, at' W (o + 2) = n := ⟨_, rfl⟩
      rw [hx, hb0, hb1, hb2] at HE2
      rw [hb0] at hA0 q0
      rw [hb1] at hA1 q1
      rw [hb2] at hA2 q2
      have HA0 := Lib.hid hA0
      have HA1 := Lib.hid hA1
      have HA2 := Lib.hid hA2
      clear hA0 hA1 hA2 hnl hb0 hb1 hb2 hx
      go_wp2_with fail
      refine HA0.out.mono ?_
      rintro e wz ⟨rfl, rfl⟩
      go_wp2_with fail
      refine HA1.out.mono ?_
      rintro e wz ⟨rfl, rfl⟩
      go_wp2_with fail
      refine HA2.out.mono ?_
      rintro e wz ⟨rfl, rfl⟩
      clear HA0 HA1 HA2
      have l1 := HP.out.lo
      have HLt := Lib.hid HF.out.lt
      have hPF : P < wr.heap.size := HZ.out
      have hwF := HP.out.lt
      have HB3 := Lib.hid (sup_pc wr (.cells #[.int .i64 (b0 : Nat), .int .i64 ((b1 : Int) + 256 * (b2 : Int)), .slice none 0 0] FN))
      have HP3 := Lib.hid (HP.out.later HB3.out)
      have HX3 := Lib.hid (blo_laid wr FN #[.int .i64 (b0 : Nat), .int .i64 ((b1 : Int) + 256 * (b2 : Int)), .slice none 0 0])
      have HF3 := Lib.hid (HF.out.later HB3.out)
      have HS3 : Hid (wr.heap.size < (wr.alloc (.cells #[.int .i64 (b0 : Nat), .int .i64 ((b1 : Int) + 256 * (b2 : Int)), .slice none 0 0] FN)).heap.size) := by simp [Hid]
      have hA3 := HP3.out.atZ HWl.out HW8.out ((o : Int) + 3) (o + 3) (by omega) (by omega)
      rw [HNl.out] at hA3
      have HA3 := Lib.hid hA3
      clear hA3 HP HF HZ HB3
      go_wp2_with fail
      refine HA3.out.mono ?_
      rintro e wz ⟨rfl, rfl⟩
      clear HA3
      generalize wr.alloc (.cells #[.int .i64 (b0 : Nat), .int .i64 ((b1 : Int) + 256 * (b2 : Int)), .slice none 0 0] FN) = wf at *
      generalize wr.heap.size = FB at *
      obtain ⟨a1, ha1⟩ : ∃ z : Int, (b1 : Int) + 256 * (b2 : Int) = z := ⟨_, rfl⟩
      rw [ha1] at HX3 HE2
      clear ha1 q0 q1 q2
      go_upto_block 4 with fail
      refine dec_loop3 HWl.out HW8.out P e0 c0 i0 p0 X0 a cp fa k fc nf av FB (b0 : Nat) a1 o nl ho88 hnb hPF hwF HLt.out _ (by omega) HP3.out HX3.out HF3.out HS3.out _ _ _ _ _ _ _ _ _ _ _ _ _ _ _ _ _ _ _ _ _ _ _ _ _ _ _ _ _ _ _ _ _ _ _ _ _ _ _ _ _ _ _ _ _ _ _ _ _ _ _ _ _ _ _ _ _ _ _ _ _ _ _ _ _ _ _ _ _ _ _ _ _ _ _ _ _ _ _ _ _ _ _ _ _ _ _ _ _ _ _ _ _ _ _ _ _ _ _ _ _ _ _ _ _ _ _ _ _ _ _ _ _ _ _ _ _ _ _ _ _ _ _ _ _ _ _ _ _ _ _ _ _ _ _ _ _ _ _ _ _ _ _ _ _ _ _ _ _ _ _ _ _ _ _ _ _ _ _ _ _ _ _ _ _ _ _ _ _ _ _ _ _ _ _ _ _ _ (fun _ _ _ _ _ h => HKp.out _ _ _ _ _ h) ?_
      intro u9 u13 u115 u116 u117 u118 u119 u120 u121 u122 u123 u124 u125 u126 u127 u128 u129 u130 u131 u132 u133 u134 u135 u136 u137 u138 u139 u140 wx hcut
      clear HP3 HX3 HF3 HS3
      obtain ⟨j, la, lc, hj, rfl, hj200, hP, hX, hO, hF, hsz⟩ := hcut
      rw [← hj] at HE1 HE2
      clear hj
      have HP := Lib.hid hP
      have HO := Lib.hid hO
      have HF := Lib.hid hF
      have HZ := Lib.hid hsz
      have d0 := hX.cell 0
      have d1 := hX.cell 1
      have d2 := hX.cell 2
      have p5 := hP.pt.cell 5
      have f5 := hP.pt.frozen 5
      simp at d0 d1 d2 p5
      clear hP hX hO hF hsz
      have hj9 : j ≤ 100 := by omega
      go_wp2_with (at_builtin; refine wp_append_rowO rfl (.tmp 142) (.tmp 144) 33 rfl (P + 1) FN _ 3 40 Tryd.underlying33 info_fn (by kernel_rfl) (by decide) (by decide) (.slice fa k fc) k _ rfl (own_later HF.out.row (sup_pc wx (.cells #[.int .i64 (b0 : Nat), .int .i64 a1, .slice la j lc] FN))) (some ⟨wx.heap.size, 0, none⟩) 1 1 [.int .i64 (b0 : Nat), .int .i64 a1, .slice la j lc] rfl rfl (laid_srcO wx FN _ _ rfl) (fi_oneP _ _ _ rfl) (fun h => by cases h) (by omega) (by have := HZ.out; simp; omega) ?_; intro a3 cap3 z2 hown hgrow hat; have HE := Lib.hid (file_endD (f := ⟨(b0 : Nat), a1, lbAt W (o + 4) j⟩) HP.out hPF HO.out HF.out HE2.out (lbAt_len _ _ _) (by have := HZ.out; omega) HLt.out HSep.out hown hgrow); have hpz := (HP.out.pt.alloc (.cells #[.int .i64 (b0 : Nat), .int .i64 a1, .slice la j lc] FN)).grown hgrow ((HP.out.pt.alloc _).row_apart (own_later HF.out.row (sup_pc wx (.cells #[.int .i64 (b0 : Nat), .int .i64 a1, .slice la j lc] FN))) (by decide)); have q5 := hpz.cell 5; have g5 := hpz.frozen 5; simp at q5; clear hown hgrow hat hpz)
      obtain ⟨av', hF', hS'⟩ := HE.out.2.1
      have HF' := Lib.hid hF'
      have HS' := Lib.hid hS'
      clear hF' hS'
      go_roundw
      case rel => exact ⟨k + 1, a3, cap3, av', by omega, by simp, (by rw [HE1.out]; simp), (fun i hi => by rcases Nat.lt_succ_iff_lt_or_eq.1 hi with h | h; exact HPl.out i h; subst h; rw [HO9.out]; exact ho88), by rw [HE1.out]; exact hj200, HE.out.1, HF'.out, HS'.out, HE.out.2.2⟩
      case measure => simp [intOf]; omega
    · have hx : (¬ (k : Int) < (nf : Int)) ∨ ((k : Int) < (nf : Int) ∧ ¬ (o : Int) < 88) := by omega
      have hst : k = nf ∨ 88 ≤ o := by omega
      clear hlt
      rcases hx with i1 | ⟨i1, i2⟩
      all_goals
        go_wp2_with fail
        refine HA4.out.mono ?_
        rintro e wz ⟨rfl, rfl⟩
        go_wp2_with fail
        exact HK.out _ _ _ _ _ _ _ _ _ _ _ _ _ _ _ _ _ _ _ _ _ _ _ _ _ _ _ _ _ _ _ _ _ _ _ _ _ _ _ _ _ _ _ _ _ _ _ _ _ _ _ _ _ _ _ _ _ _ _ _ _ _ _ _ _ _ _ _ ⟨k, fa, fc, av, hk, by rw [HO9.out], HPl.out, by rw [HO9.out]; exact hst, by rw [HO9.out]; exact hp200, HP.out, HF.out, HSep.out, HZ.out⟩
set_option maxRecDepth 1000000 in
set_option maxHeartbeats 16000000 in
theorem dec_loop4 {w : World} {W : List Nat} (hWl : ∀ y ∈ W, y < 256) (hW8 : W.length = 88) (P : Nat) (e0 c0 i0 p0 X0 : Int) (a : Option Addr) (cp : Nat) (fv : Value) (k nf ni : Nat) (hni : at' W 5 = ni) (av : Nat → Value) (SB o : Nat) (ho2 : o ≤ 200) (hPS : P < SB)
    (hwF : ∀ g, (Value.slice a 88 cp).ownBlock = some g → g < SB) (hLt : FoLt SB fv av k) {ws : World}
    (hP : Dr w W e0 c0 i0 p0 X0 P fv (.slice none 0 0) (.slice a 88 cp) ws) (hF : Fo ws (P + 1) fv av (filesD W nf) k) (hZ : SB ≤ ws.heap.size)
    (s0 s1 s2 s3 s4 s7 s8 s10 s11 s12 s13 s15 s16 s17 s18 s19 s20 s21 s22 s23 s24 s25 s26 s27 s28 s29 s30 s31 s32 s33 s34 s35 s36 s37 s38 s39 s40 s41 s42 s43 s44 s45 s46 s47 s48 s49 s50 s51 s52 s53 s54 s55 s56 s57 s58 s59 s60 s61 s62 s63 s64 s65 s66 s67 s68 s69 s70 s71 s72 s73 s74 s75 s76 s77 s78 s79 s80 s81 s82 s83 s84 s85 s86 s87 s88 s89 s90 s91 s92 s93 s94 s95 s96 s97 s98 s99 s100 s101 s102 s103 s104 s105 s106 s107 s108 s109 s110 s111 s112 s113 s114 s115 s116 s117 s118 s119 s120 s121 s122 s123 s124 s125 s126 s127 s128 s129 s130 s131 s132 s133 s134 s135 s136 s137 s138 s139 s140 s141 s142 s143 s144 s145 s146 s147 s148 s149 s150 s151 s152 s153 s154 s155 s156 s157 s158 s159 s160 s161 s162 s163 s164 s165 s166 s167 s168 s169 s170 s171 s172 s173 s174 s175 s176 s177 s178 s179 s180 s181 : Value) (K : Exit → Act → World → Prop) (hKp : ∀ c (x : Act) (q : Option Nat) v W', K (.panic c) (x.put q v) W' → K (.panic c) x W')
    (hK : ∀ (u9 u14 u147 u148 u149 u150 u151 u152 u153 u154 u155 u156 u157 u158 u159 u160 u161 u162 u163 u164 u165 u166 : Value) (wx : World), D4E w W P e0 c0 i0 p0 X0 (.slice a 88 cp) fv nf k av SB o ni wx → K .normal ⟨#[s0, s1, s2, s3, s4, .pointer (some ⟨P, 0, none⟩), .slice a 88 cp, s7, s8, u9, s10, s11, s12, s13, u14, s15, s16, s17, s18, s19, s20, s21, s22, s23, s24, s25, s26, s27, s28, s29, s30, s31, s32, s33, s34, s35, s36, s37, s38, s39, s40, s41, s42, s43, s44, s45, s46, s47, s48, s49, s50, s51, s52, s53, s54, s55, s56, s57, s58, s59, s60, s61, s62, s63, s64, s65, s66, s67, s68, s69, s70, s71, s72, s73, s74, s75, s76, s77, s78, s79, s80, s81, s82, s83, s84, s85, s86, s87, s88, s89, s90, s91, s92, s93, s94, s95, s96, s97, s98, s99, s100, s101, s102, s103, s104, s105, s106, s107, s108, s109, s110, s111, s112, s113, s114, s115, s116, s117, s118, s119, s120, s121, s122, s123, s124, s125, s126, s127, s128, s129, s130, s131, s132, s133, s134, s135, s136, s137, s138, s139, s140, s141, s142, s143, s144, s145, s146, u147, u148, u149, u150, u151, u152, u153, u154, u155, u156, u157, u158, u159, u160, u161, u162, u163, u164, u165, u166, s167, s168, s169, s170, s171, s172, s173, s174, s175, s176, s177, s178, s179, s180, s181], []⟩ wx) :
    Code.wp Tryd.prog (rdBlk 6) K ⟨#[s0, s1, s2, s3, s4, .pointer (some ⟨P, 0, none⟩), .slice a 88 cp, s7, s8, .int .i64 (o : Nat), s10, s11, s12, s13, .int .i64 0, s15, s16, s17, s18, s19, s20, s21, s22, s23, s24, s25, s26, s27, s28, s29, s30, s31, s32, s33, s34, s35, s36, s37, s38, s39, s40, s41, s42, s43, s44, s45, s46, s47, s48, s49, s50, s51, s52, s53, s54, s55, s56, s57, s58, s59, s60, s61, s62, s63, s64, s65, s66, s67, s68, s69, s70, s71, s72, s73, s74, s75, s76, s77, s78, s79, s80, s81, s82, s83, s84, s85, s86, s87, s88, s89, s90, s91, s92, s93, s94, s95, s96, s97, s98, s99, s100, s101, s102, s103, s104, s105, s106, s107, s108, s109, s110, s111, s112, s113, s114, s115, s116, s117, s118, s119, s120, s121, s122, s123, s124, s125, s126, s127, s128, s129, s130, s131, s132, s133, s134, s135, s136, s137, s138, s139, s140, s141, s142, s143, s144, s145, s146, s147, s148, s149, s150, s151, s152, s153, s154, s155, s156, s157, s158, s159, s160, s161, s162, s163, s164, s165, s166, s167, s168, s169, s170, s171, s172, s173, s174, s175, s176, s177, s178, s179, s180, s181], []⟩ ws := by
  have HWl := Lib.hid hWl
  have HW8 := Lib.hid hW8
  have HBL : Hid (∀ i, at' W i < 256) := fun i => at_lt hWl i
  have HK := Lib.hid hK
  have HKp := Lib.hid hKp
  clear hWl hW8 hK hKp
  have HLt := Lib.hid hLt
  have HP := Lib.hid hP
  have HF := Lib.hid hF
  have HZ1 := Lib.hid hZ
  have HN5 := Lib.hid hni
  have hni2 := HBL.out 5
  rw [hni] at hni2
  clear hni hLt hP hF hZ
  have HO0 : Hid (ws.ownsRow SB IT 1 (.slice none 0 0) 0 (cellsI (inosM W o 0))) := ⟨by simp [inosM, cellsI], .inl ⟨rfl, rfl⟩⟩
  conv => arg 2; whnf
  go_wp2_with fail
  go_loopw [9, 14] (fun v t wr => D4R w W P e0 c0 i0 p0 X0 (.slice a 88 cp) fv nf k av SB o ni v t wr) (fun _ t _ => ni - (intOf t).toNat)
  case atStart => exact ⟨0, none, 0, Nat.zero_le _, rfl, rfl, (fun i hi => by omega), HP.out, HO0.out, HF.out, HZ1.out⟩
  case round =>
    clear HP HO0 HF HZ1
    rename World => wq
    obtain ⟨j, ia, ic, hj, rfl, rfl, hjp, hP, hO, hF, hsz⟩ := hrel
    have HP := Lib.hid hP
    have HO := Lib.hid hO
    have HF := Lib.hid hF
    have HZ := Lib.hid hsz
    clear hP hO hF hsz
    obtain ⟨q, hq⟩ : ∃ q, o + j = q := ⟨_, rfl⟩
    rw [hq]
    have hA5 := HP.out.atZ HWl.out HW8.out 5 5 rfl (by decide)
    rw [HN5.out] at hA5
    have HA5 := Lib.hid hA5
    clear hA5
    by_cases hjl : j < ni ∧ q < 88
    · obtain ⟨hjl, hq88⟩ := hjl
      have i1 : (j : Int) < (ni : Int) := by omega
      have i2 : (q : Int) < 88 := by omega
      go_wp2_with fail
      refine HA5.out.mono ?_
      rintro e wz ⟨rfl, rfl⟩
      clear HA5
      go_wp2_with fail
      refine wp_region_any (by kernel_rfl) ?_
      change wpAny _ _ _ _ _ _ _ (World.drew _)
      have HPd := Lib.hid HP.out.drew
      have HOd : Hid (wq.drew.ownsRow SB IT 1 (.slice ia j ic) j (cellsI (inosM W o j))) := HO.out
      have HFd : Hid (Fo wq.drew (P + 1) fv av (filesD W nf) k) := ⟨HF.out.row, HF.out.its⟩
      have HZd : Hid (SB ≤ wq.drew.heap.size) := HZ.out
      clear HP HO HF HZ
      generalize wq.drew = wd at *
      have d2 := HPd.out.pt.cell 6
      simp at d2
      have hA1 := HPd.out.atZ HWl.out HW8.out q q rfl (by omega)
      have q1 := HBL.out q
      have hv : inosM W o (j + 1) = inosM W o j ++ [((at' W q : Nat) : Int)] := by rw [inosM_snoc, hq]
      obtain ⟨y1, hy1⟩ : ∃ n, at' W q = n := ⟨_, rfl⟩
      rw [hy1] at hA1 q1 hv
      have HA1 := Lib.hid hA1
      have HV := Lib.hid hv
      clear hA1 hv hy1
      have hzz := HZd.out
      have hpz : P < wd.heap.size := by omega
      have hw7 : True := trivial
      refine wpAny_take (i := 0) (v := Value.pointer (some ⟨P, 6, none⟩)) rfl (by kernel_rfl) (by kernel_rfl) (by kernel_rfl) (fun _ _ _ h => HKp.out _ _ _ _ _ h) (Or.inl ⟨by rfl, fun W => by first | (go_simp; done) | (go_simp; rfl) | (go_simp; rw [hw7]; done) | (go_simp; rw [hw7])⟩) ?_
      refine wpAny_take (i := 2) (v := Value.slice a 88 cp) rfl (by kernel_rfl) (by kernel_rfl) (by kernel_rfl) (fun _ _ _ h => HKp.out _ _ _ _ _ h) (Or.inl ⟨by rfl, fun W => by first | (go_simp; done) | (go_simp; rfl) | (go_simp; rw [hw7]; done) | (go_simp; rw [hw7])⟩) ?_
      refine wpAny_take (i := 3) (v := Value.int .i64 (q : Nat)) rfl (by kernel_rfl) (by kernel_rfl) (by kernel_rfl) (fun _ _ _ h => HKp.out _ _ _ _ _ h) (Or.inl ⟨by rfl, fun W => by first | (go_simp; done) | (go_simp; rfl) | (go_simp; rw [hw7]; done) | (go_simp; rw [hw7])⟩) ?_
      refine wpAny_ready (rs := [1, 4]) (by kernel_rfl) (by simp) (AllReady.cons rfl (fun K hK => ?_) (AllReady.cons rfl (fun K hK => ?_) AllReady.nil))
      · go_simp
        refine hK _ _ ?_
        clear hK K
        refine wpAny_ready (rs := [4]) (by kernel_rfl) (by simp) (AllReady.cons rfl (fun K hK => ?_) AllReady.nil)
        go_simp
        refine HA1.out.mono ?_
        rintro e wz ⟨rfl, rfl⟩
        refine hK _ _ ?_
        clear hK K
        refine wpAny_ready (rs := [5]) (by kernel_rfl) (by simp) (AllReady.cons rfl (fun K hK => ?_) AllReady.nil)
        go_simp
        refine hK _ _ ?_
        clear hK K
        refine wpAny_ready (rs := [6]) (by kernel_rfl) (by simp) (AllReady.cons rfl (fun K hK => ?_) AllReady.nil)
        refine step_append_row rfl (.tmp 158) (.tmp 162) 34 rfl SB IT _ 1 8 Tryd.underlying34 info_it (by kernel_rfl) (by decide) (by decide) (.slice ia j ic) j (cellsI (inosM W o j)) rfl (own_later HOd.out (sup_pc wd (.cells #[.int .i64 (y1 : Int)] IT))) (some ⟨wd.heap.size, 0, none⟩) 1 1 [.int .i64 (y1 : Int)] rfl rfl (laid_srcO wd IT _ _ rfl) (by simp [Value.oneCell']) (fun h => by cases h) (by omega) (by simp; omega) ?_
        intro v' z3 hr3 hg3 _
        obtain ⟨a5, c5, rfl, -⟩ := own_slice hr3
        have HE := Lib.hid (ino_endD (ys := inosM W o (j + 1)) HPd.out hPS HOd.out HFd.out HLt.out hwF hr3 hg3 (by rw [HV.out, ← cellsI_append]; rfl))
        have HX3 := Lib.hid ((HPd.out.pt.alloc (.cells #[.int .i64 (y1 : Int)] IT)).grown hg3 ((HPd.out.pt.alloc (.cells #[.int .i64 (y1 : Int)] IT)).row_apart (own_later HOd.out (sup_pc wd (.cells #[.int .i64 (y1 : Int)] IT))) (by decide)))
        have hz3 : SB ≤ z3.heap.size := by have := hg3.size; simp at this; omega
        have d4 := HX3.out.cell 6
        have e4 := HX3.out.frozen 6
        simp at d4
        clear hr3 hg3
        refine hK _ _ ?_
        clear hK K
        refine wpAny_take (i := 7) (v := Value.pointer (some ⟨P, 6, none⟩)) rfl (by kernel_rfl) (by kernel_rfl) (by kernel_rfl) (fun _ _ _ h => HKp.out _ _ _ _ _ h) (Or.inl ⟨by rfl, fun W => by first | (go_simp; done) | (go_simp; rfl) | (go_simp; rw [hw7]; done) | (go_simp; rw [hw7])⟩) ?_
        refine wpAny_ready (rs := [8]) (by kernel_rfl) (by simp) (AllReady.cons rfl (fun K hK => ?_) AllReady.nil)
        go_simp
        refine hK _ _ ?_
        clear hK K
        refine wpAny_done (by kernel_rfl) ?_ _
        go_wp2_with fail
        go_roundw
        case rel => exact ⟨j + 1, a5, c5, by omega, by simp, by rw [show ((o + (j + 1) : Nat) : Int) = (q : Int) + 1 by omega], fun i hi => by omega, HE.out.1, HE.out.2.1, HE.out.2.2, by rw [World.size_setCell]; exact hz3⟩
        case measure => simp [intOf]; omega
      · go_simp
        refine HA1.out.mono ?_
        rintro e wz ⟨rfl, rfl⟩
        refine hK _ _ ?_
        clear hK K
        refine wpAny_ready (rs := [1, 5]) (by kernel_rfl) (by simp) (AllReady.cons rfl (fun K hK => ?_) (AllReady.cons rfl (fun K hK => ?_) AllReady.nil))
        · go_simp
          refine hK _ _ ?_
          clear hK K
          refine wpAny_ready (rs := [5]) (by kernel_rfl) (by simp) (AllReady.cons rfl (fun K hK => ?_) AllReady.nil)
          go_simp
          refine hK _ _ ?_
          clear hK K
          refine wpAny_ready (rs := [6]) (by kernel_rfl) (by simp) (AllReady.cons rfl (fun K hK => ?_) AllReady.nil)
          refine step_append_row rfl (.tmp 158) (.tmp 162) 34 rfl SB IT _ 1 8 Tryd.underlying34 info_it (by kernel_rfl) (by decide) (by decide) (.slice ia j ic) j (cellsI (inosM W o j)) rfl (own_later HOd.out (sup_pc wd (.cells #[.int .i64 (y1 : Int)] IT))) (some ⟨wd.heap.size, 0, none⟩) 1 1 [.int .i64 (y1 : Int)] rfl rfl (laid_srcO wd IT _ _ rfl) (by simp [Value.oneCell']) (fun h => by cases h) (by omega) (by simp; omega) ?_
          intro v' z3 hr3 hg3 _
          obtain ⟨a5, c5, rfl, -⟩ := own_slice hr3
          have HE := Lib.hid (ino_endD (ys := inosM W o (j + 1)) HPd.out hPS HOd.out HFd.out HLt.out hwF hr3 hg3 (by rw [HV.out, ← cellsI_append]; rfl))
          have HX3 := Lib.hid ((HPd.out.pt.alloc (.cells #[.int .i64 (y1 : Int)] IT)).grown hg3 ((HPd.out.pt.alloc (.cells #[.int .i64 (y1 : Int)] IT)).row_apart (own_later HOd.out (sup_pc wd (.cells #[.int .i64 (y1 : Int)] IT))) (by decide)))
          have hz3 : SB ≤ z3.heap.size := by have := hg3.size; simp at this; omega
          have d4 := HX3.out.cell 6
          have e4 := HX3.out.frozen 6
          simp at d4
          clear hr3 hg3
          refine hK _ _ ?_
          clear hK K
          refine wpAny_take (i := 7) (v := Value.pointer (some ⟨P, 6, none⟩)) rfl (by kernel_rfl) (by kernel_rfl) (by kernel_rfl) (fun _ _ _ h => HKp.out _ _ _ _ _ h) (Or.inl ⟨by rfl, fun W => by first | (go_simp; done) | (go_simp; rfl) | (go_simp; rw [hw7]; done) | (go_simp; rw [hw7])⟩) ?_
          refine wpAny_ready (rs := [8]) (by kernel_rfl) (by simp) (AllReady.cons rfl (fun K hK => ?_) AllReady.nil)
          go_simp
          refine hK _ _ ?_
          clear hK K
          refine wpAny_done (by kernel_rfl) ?_ _
          go_wp2_with fail
          go_roundw
          case rel => exact ⟨j + 1, a5, c5, by omega, by simp, by rw [show ((o + (j + 1) : Nat) : Int) = (q : Int) + 1 by omega], fun i hi => by omega, HE.out.1, HE.out.2.1, HE.out.2.2, by rw [World.size_setCell]; exact hz3⟩
          case measure => simp [intOf]; omega
        · go_simp
          refine hK _ _ ?_
          clear hK K
          refine wpAny_ready (rs := [1]) (by kernel_rfl) (by simp) (AllReady.cons rfl (fun K hK => ?_) AllReady.nil)
          go_simp
          refine hK _ _ ?_
          clear hK K
          refine wpAny_ready (rs := [6]) (by kernel_rfl) (by simp) (AllReady.cons rfl (fun K hK => ?_) AllReady.nil)
          refine step_append_row rfl (.tmp 158) (.tmp 162) 34 rfl SB IT _ 1 8 Tryd.underlying34 info_it (by kernel_rfl) (by decide) (by decide) (.slice ia j ic) j (cellsI (inosM W o j)) rfl (own_later HOd.out (sup_pc wd (.cells #[.int .i64 (y1 : Int)] IT))) (some ⟨wd.heap.size, 0, none⟩) 1 1 [.int .i64 (y1 : Int)] rfl rfl (laid_srcO wd IT _ _ rfl) (by simp [Value.oneCell']) (fun h => by cases h) (by omega) (by simp; omega) ?_
          intro v' z3 hr3 hg3 _
          obtain ⟨a5, c5, rfl, -⟩ := own_slice hr3
          have HE := Lib.hid (ino_endD (ys := inosM W o (j + 1)) HPd.out hPS HOd.out HFd.out HLt.out hwF hr3 hg3 (by rw [HV.out, ← cellsI_append]; rfl))
          have HX3 := Lib.hid ((HPd.out.pt.alloc (.cells #[.int .i64 (y1 : Int)] IT)).grown hg3 ((HPd.out.pt.alloc (.cells #[.int .i64 (y1 : Int)] IT)).row_apart (own_later HOd.out (sup_pc wd (.cells #[.int .i64 (y1 : Int)] IT))) (by decide)))
          have hz3 : SB ≤ z3.heap.size := by have := hg3.size; simp at this; omega
          have d4 := HX3.out.cell 6
          have e4 := HX3.out.frozen 6
          simp at d4
          clear hr3 hg3
          refine hK _ _ ?_
          clear hK K
          refine wpAny_take (i := 7) (v := Value.pointer (some ⟨P, 6, none⟩)) rfl (by kernel_rfl) (by kernel_rfl) (by kernel_rfl) (fun _ _ _ h => HKp.out _ _ _ _ _ h) (Or.inl ⟨by rfl, fun W => by first | (go_simp; done) | (go_simp; rfl) | (go_simp; rw [hw7]; done) | (go_simp; rw [hw7])⟩) ?_
          refine wpAny_ready (rs := [8]) (by kernel_rfl) (by simp) (AllReady.cons rfl (fun K hK => ?_) AllReady.nil)
          go_simp
          refine hK _ _ ?_
          clear hK K
          refine wpAny_done (by kernel_rfl) ?_ _
          go_wp2_with fail
          go_roundw
          case rel => exact ⟨j + 1, a5, c5, by omega, by simp, by rw [show ((o + (j + 1) : Nat) : Int) = (q : Int) + 1 by omega], fun i hi => by omega, HE.out.1, HE.out.2.1, HE.out.2.2, by rw [World.size_setCell]; exact hz3⟩
          case measure => simp [intOf]; omega
    · have hx : (¬ (j : Int) < (ni : Int)) ∨ ((j : Int) < (ni : Int) ∧ ¬ (q : Int) < 88) := by omega
      have hst : j = ni ∨ 88 ≤ o + j := by omega
      clear hjl
      rcases hx with i1 | ⟨i1, i2⟩
      all_goals
        go_wp2_with fail
        refine HA5.out.mono ?_
        rintro e wz ⟨rfl, rfl⟩
        go_wp2_with fail
        exact HK.out _ _ _ _ _ _ _ _ _ _ _ _ _ _ _ _ _ _ _ _ _ _ _ ⟨j, ia, ic, hj, hjp, hst, HP.out, HO.out, HF.out, HZ.out⟩
end Go.Proofs.YtlkgaefabahkoaaDoor
/-
  The document's Decode of any bytes.
-/
namespace Go.Proofs.YtlkgaefabahkoaaDoor
open Go.RowKit

set_option maxRecDepth 100000 in
set_option maxHeartbeats 16000000 in
theorem rdecode_128 {w : World} (b o cap : Nat) (l : List Nat) (hl : l.length = 128) (hcap : 128 ≤ cap) (hY : Bytes w (some ⟨b, o, none⟩) l) : Calls Tryd.prog 44 #[.slice (some ⟨b, o, none⟩) 128 cap] w fun e w' => DecO l w e w' := by
  obtain ⟨b', o', e1, hc⟩ := hY.2.2 (fun e => by rw [e] at hl; cases hl)
  cases e1
  have HY := Lib.hid hY
  have HL := Lib.hid hl
  have HCp := Lib.hid hcap
  have hl1 := sup_pc w (.cells zP7 36)
  have hl2 := hl1.trans ((sup_pc (w.alloc (.cells zP7 36)) (.cells zP7 36)).mono hl1.size)
  have a0 := cell_later hl1 (hc 0 (by omega))
  have a1 := cell_later hl1 (hc 1 (by omega))
  have a2 := cell_later hl1 (hc 2 (by omega))
  have a3 := cell_later hl1 (hc 3 (by omega))
  have b0 := cell_later hl2 (hc 0 (by omega))
  have b1 := cell_later hl2 (hc 1 (by omega))
  have b2 := cell_later hl2 (hc 2 (by omega))
  have b3 := cell_later hl2 (hc 3 (by omega))
  have q0 := getD_byte hY.1 0
  have q1 := getD_byte hY.1 1
  have q2 := getD_byte hY.1 2
  have q3 := getD_byte hY.1 3
  have HV0 : Hid (((v2 l 0 : Nat) : Int) = (l.getD 0 0 : Nat) + 256 * (l.getD 1 0 : Nat)) := by
    have : v2 l 0 = l.getD 0 0 + 256 * l.getD 1 0 := rfl
    show _ = _; rw [this]; omega
  have HV2 : Hid (((v2 l 2 : Nat) : Int) = (l.getD 2 0 : Nat) + 256 * (l.getD 3 0 : Nat)) := by
    have : v2 l 2 = l.getD 2 0 + 256 * l.getD 3 0 := rfl
    show _ = _; rw [this]; omega
  generalize l.getD 0 0 = x0 at *
  generalize l.getD 1 0 = x1 at *
  generalize l.getD 2 0 = x2 at *
  generalize l.getD 3 0 = x3 at *
  rw [Nat.add_zero] at a0 b0
  clear hc hl hY hl1 hl2 hcap
  go_enter Tryd.func44, Tryd.ntmps44
  go_wp2_with fail
  go_region
  have m1 := sup_pc w (.cells #[.int .i64 0, .int .i64 0, .int .i64 0, .int .i64 0, .int .i64 0, .slice none 0 0, .slice none 0 0] 36)
  have m2 := sup_pc (w.alloc (.cells #[.int .i64 0, .int .i64 0, .int .i64 0, .int .i64 0, .int .i64 0, .slice none 0 0, .slice none 0 0] 36)) (.cells #[.int .i64 ((x0 : Int) + 256 * (x1 : Int)), .int .i64 ((x2 : Int) + 256 * (x3 : Int)), .int .i64 0, .int .i64 0, .int .i64 0, .slice none 0 0, .slice none 0 0] 36)
  have HR1 := Lib.hid (((blo_laid w 36 zP7).alloc (.cells #[.int .i64 ((x0 : Int) + 256 * (x1 : Int)), .int .i64 ((x2 : Int) + 256 * (x3 : Int)), .int .i64 0, .int .i64 0, .int .i64 0, .slice none 0 0, .slice none 0 0] 36)).drew)
  have HT1 := Lib.hid ((blo_laid (w.alloc (.cells #[.int .i64 0, .int .i64 0, .int .i64 0, .int .i64 0, .int .i64 0, .slice none 0 0, .slice none 0 0] 36)) 36 #[.int .i64 ((x0 : Int) + 256 * (x1 : Int)), .int .i64 ((x2 : Int) + 256 * (x3 : Int)), .int .i64 0, .int .i64 0, .int .i64 0, .slice none 0 0, .slice none 0 0]).drew)
  have HB1 := Lib.hid ((m1.trans (m2.mono m1.size)).drew)
  have hPs : (w.alloc (.cells #[.int .i64 0, .int .i64 0, .int .i64 0, .int .i64 0, .int .i64 0, .slice none 0 0, .slice none 0 0] 36)).heap.size = w.heap.size + 1 := by simp
  rw [hPs] at HT1
  rw [← HV0.out, ← HV2.out] at HR1 HT1 HB1
  rw [← HV0.out, ← HV2.out]
  clear m1 m2 hPs a0 a1 a2 a3 b0 b1 b2 b3 HV0 HV2 q0 q1 q2 q3
  have hz1 := HT1.out.lt
  have hPl : w.heap.size < w.heap.size + 1 := by omega
  generalize ((w.alloc (.cells #[.int .i64 0, .int .i64 0, .int .i64 0, .int .i64 0, .int .i64 0, .slice none 0 0, .slice none 0 0] 36)).alloc (.cells #[.int .i64 (v2 l 0 : Nat), .int .i64 (v2 l 2 : Nat), .int .i64 0, .int .i64 0, .int .i64 0, .slice none 0 0, .slice none 0 0] 36)).drew = w1 at *
  generalize w.heap.size + 1 = P at *
  go_wp2_with fail
  go_loopw [6, 7] (fun v t wr => GaR w P (v2 l 0 : Nat) (v2 l 2 : Nat) l v t wr) (fun _ t _ => 8 - (intOf t).toNat)
  case atStart => exact ⟨0, none, 0, by omega, rfl, rfl, ⟨by simp [gat, cellsB], .inl ⟨rfl, rfl⟩⟩, HR1.out, HT1.out, HB1.out, hz1⟩
  case round =>
    clear HR1 HT1 HB1 hz1
    obtain ⟨k, a, cp, hk, rfl, rfl, ho, hr, ht, hb, hz⟩ := hrel
    have HO := Lib.hid ho
    have HR := Lib.hid hr
    have HT := Lib.hid ht
    have HB := Lib.hid hb
    clear ho hr ht hb
    by_cases hlt : k < 8
    · have hcut := fun W => cut_eleven b o cap k hlt HCp.out W
      have HSrc : Hid (Bytes wr (some ⟨b, o + (16 * k + 5), none⟩) ((l.drop (16 * k + 5)).take 11) ∧ 11 = ((l.drop (16 * k + 5)).take 11).length) := by
        have hl := HL.out
        exact ⟨bytes_part (HY.out.below HB.out) (16 * k + 5) 11 (by omega) (by decide), by rw [List.length_take, List.length_drop]; omega⟩
      have HG := Lib.hid (gat_succ l k)
      have HGl := Lib.hid (gat_lt HY.out.1 k)
      have hk8 : (k : Int) < 8 := by omega
      go_wp2_with (at_builtin; refine wp_append_bytes rfl (.tmp 44) (.tmp 52) 49 rfl (P + 1) U8 Tryd.underlying49 info_u8f (.slice a (11 * k) cp) (11 * k) (gat l k) rfl HO.out HGl.out (some ⟨b, o + (16 * k + 5), none⟩) 11 (cap - (16 * k + 5)) ((l.drop (16 * k + 5)).take 11) rfl HSrc.out.2 HSrc.out.1 (fun h => by cases h) (by omega) hz ?_; intro a5 c5 w8 ho hgr hBy hN; have HO8 := Lib.hid ho; have HG8 := Lib.hid hgr; clear ho hgr hBy hN)
      rw [← HG.out] at HO8
      have HR8 := Lib.hid (HR.out.grown HG8.out (HR.out.row_apart HO.out (by decide)))
      have HT8 := Lib.hid (HT.out.grown HG8.out (HT.out.row_apart HO.out (by decide)))
      have HB8 := Lib.hid (HB.out.grown HG8.out HB.out.size (fun j e => by have := (oblo HO.out e).1; omega))
      have hz8 := HG8.out.size
      go_roundw
      case rel => exact ⟨k + 1, a5, c5, by omega, by simp, rfl, HO8.out, HR8.out, HT8.out, HB8.out, by omega⟩
      case measure => simp [intOf]; omega
    · obtain rfl : 8 = k := by omega
      have HD : Hid (Dr w (gat l 8) (v2 l 0 : Nat) (v2 l 2 : Nat) 0 0 0 P (.slice none 0 0) (.slice none 0 0) (.slice a (11 * 8) cp) wr) := ⟨HR.out, HT.out, HO.out, HB.out, by omega⟩
      have HWl := Lib.hid (gat_lt HY.out.1 8)
      have HW8 := Lib.hid (gat_len HL.out)
      have HYw := Lib.hid (HY.out.below HB.out)
      clear HO HR HT HB
      change Hid (Dr w (gat l 8) _ _ _ _ _ P _ _ (.slice a 88 cp) wr) at HD
      obtain ⟨W, hW⟩ : ∃ W, W = gat l 8 := ⟨_, rfl⟩
      rw [← hW] at HD HWl HW8
      have HWe := Lib.hid hW
      clear hW
      have HBL : Hid (∀ i, at' W i < 256) := fun i => at_lt HWl.out i
      go_wp2_with fail
      refine (HD.out.at_ HWl.out HW8.out 0 (by decide)).mono ?_
      rintro e w2 ⟨rfl, rfl⟩
      have p2 := HD.out.pt.cell 2
      have f2 := HD.out.pt.frozen 2
      simp at p2
      go_wp2_with fail
      have HD2 := Lib.hid (HD.out.put2 (at' W 0 : Nat))
      clear HD p2 f2
      generalize wr.setCell ⟨P, 2, none⟩ (.int .i64 (at' W 0 : Nat)) = w2 at *
      refine (HD2.out.at_ HWl.out HW8.out 1 (by decide)).mono ?_
      rintro e w3 ⟨rfl, rfl⟩
      have p3 := HD2.out.pt.cell 3
      have f3 := HD2.out.pt.frozen 3
      simp at p3
      go_wp2_with fail
      have HD3 := Lib.hid (HD2.out.put3 (at' W 1 : Nat))
      clear HD2 p3 f3
      generalize w2.setCell ⟨P, 3, none⟩ (.int .i64 (at' W 1 : Nat)) = w3 at *
      refine (HD3.out.at_ HWl.out HW8.out 2 (by decide)).mono ?_
      rintro e w4 ⟨rfl, rfl⟩
      go_wp2_with fail
      refine (HD3.out.at_ HWl.out HW8.out 3 (by decide)).mono ?_
      rintro e w4 ⟨rfl, rfl⟩
      have p4 := HD3.out.pt.cell 4
      have f4 := HD3.out.pt.frozen 4
      simp at p4
      have q2 := HBL.out 2
      have q3 := HBL.out 3
      have HX : Hid (((v2 W 2 : Nat) : Int) = (at' W 2 : Nat) + 256 * (at' W 3 : Nat)) := by
        have : v2 W 2 = at' W 2 + 256 * at' W 3 := rfl
        show _ = _; rw [this]; omega
      generalize at' W 2 = y2 at *
      generalize at' W 3 = y3 at *
      go_wp2_with fail
      rw [← HX.out]
      have HD4 := Lib.hid (HD3.out.put4 (v2 W 2 : Nat))
      clear HD3 p4 f4 HX q2 q3
      generalize w3.setCell ⟨P, 4, none⟩ (.int .i64 (v2 W 2 : Nat)) = w4 at *
      have q6 := HBL.out 6
      have q7 := HBL.out 7
      have q8 := HBL.out 8
      have q9 := HBL.out 9
      have HSm : Hid (((sumM W : Nat) : Int) = (at' W 6 : Nat) + 256 * (at' W 7 : Nat) + 65536 * (at' W 8 : Nat) + 16777216 * (at' W 9 : Nat)) := by
        have : sumM W = at' W 6 + 256 * at' W 7 + 65536 * at' W 8 + 16777216 * at' W 9 := rfl
        show _ = _; rw [this]; omega
      have hA6 := HD4.out.at_ HWl.out HW8.out 6 (by decide)
      have hA7 := HD4.out.at_ HWl.out HW8.out 7 (by decide)
      have hA8 := HD4.out.at_ HWl.out HW8.out 8 (by decide)
      have hA9 := HD4.out.at_ HWl.out HW8.out 9 (by decide)
      have HA6 := Lib.hid hA6
      have HA7 := Lib.hid hA7
      have HA8 := Lib.hid hA8
      have HA9 := Lib.hid hA9
      clear hA6 hA7 hA8 hA9
      generalize at' W 6 = y6 at *
      generalize at' W 7 = y7 at *
      generalize at' W 8 = y8 at *
      generalize at' W 9 = y9 at *
      refine HA6.out.mono ?_
      rintro e w5 ⟨rfl, rfl⟩
      go_wp2_with fail
      refine HA7.out.mono ?_
      rintro e w5 ⟨rfl, rfl⟩
      go_wp2_with fail
      refine HA8.out.mono ?_
      rintro e w5 ⟨rfl, rfl⟩
      go_wp2_with fail
      refine HA9.out.mono ?_
      rintro e w5 ⟨rfl, rfl⟩
      go_upto_block 2 with fail
      rw [← HSm.out]
      clear HA6 HA7 HA8 HA9 q6 q7 q8 q9
      have hb4 := HBL.out 4
      have hb5 := HBL.out 5
      have hs9 : sumM W < 4294967296 := by
        have b6 := HBL.out 6
        have b7 := HBL.out 7
        have b8 := HBL.out 8
        have b9 := HBL.out 9
        unfold sumM
        omega
      clear HYw
      refine dec_loop2 HWl.out HW8.out P _ _ _ _ _ a cp (at' W 4) rfl HD4.out _ _ _ _ _ _ _ _ _ _ _ _ _ _ _ _ _ _ _ _ _ _ _ _ _ _ _ _ _ _ _ _ _ _ _ _ _ _ _ _ _ _ _ _ _ _ _ _ _ _ _ _ _ _ _ _ _ _ _ _ _ _ _ _ _ _ _ _ _ _ _ _ _ _ _ _ _ _ _ _ _ _ _ _ _ _ _ _ _ _ _ _ _ _ _ _ _ _ _ _ _ _ _ _ _ _ _ _ _ _ _ _ _ _ _ _ _ _ _ _ _ _ _ _ _ _ _ _ _ _ _ _ _ _ _ _ _ _ _ _ _ _ _ _ _ _ _ _ _ _ _ _ _ _ _ _ _ _ _ _ _ _ _ _ _ _ _ _ _ _ _ _ _ _ _ _ _ _ _ (fun c x q v W' h => by cases q <;> exact h) ?_
      intro u9 u10 u11 u12 u13 u85 u86 u87 u88 u89 u90 u91 u92 u93 u94 u95 u96 u97 u98 u99 u100 u101 u102 u103 u104 u105 u106 u107 u108 u109 u110 u111 u112 u113 u114 u115 u116 u117 u118 u119 u120 u121 u122 u123 u124 u125 u126 u127 u128 u129 u130 u131 u132 u133 u134 u135 u136 u137 u138 u139 u140 u141 u142 u143 u144 u145 u146 wx hcut
      clear HD4
      obtain ⟨k, fa, fc, av, hk, rfl, hpl, hst, hp200, hD, hFo, hSep, hsz⟩ := hcut
      have HP := Lib.hid hD
      have HF := Lib.hid hFo
      have HPl := Lib.hid hpl
      have HSt := Lib.hid hst
      have HSep := Lib.hid hSep
      have hl1 := hD.lo
      have HLt := Lib.hid hFo.lt
      have hwF := hD.lt
      clear hD hFo hpl hst hSep
      go_upto_block 6 with fail
      refine dec_loop4 HWl.out HW8.out P _ _ _ _ _ a cp (.slice fa k fc) k (at' W 4) (at' W 5) rfl av wx.heap.size (posD W k) hp200 hsz hwF HLt.out HP.out HF.out (Nat.le_refl _) _ _ _ _ _ _ _ _ _ _ _ _ _ _ _ _ _ _ _ _ _ _ _ _ _ _ _ _ _ _ _ _ _ _ _ _ _ _ _ _ _ _ _ _ _ _ _ _ _ _ _ _ _ _ _ _ _ _ _ _ _ _ _ _ _ _ _ _ _ _ _ _ _ _ _ _ _ _ _ _ _ _ _ _ _ _ _ _ _ _ _ _ _ _ _ _ _ _ _ _ _ _ _ _ _ _ _ _ _ _ _ _ _ _ _ _ _ _ _ _ _ _ _ _ _ _ _ _ _ _ _ _ _ _ _ _ _ _ _ _ _ _ _ _ _ _ _ _ _ _ _ _ _ _ _ _ _ _ _ _ _ _ _ _ _ _ _ _ _ _ _ _ _ _ _ _ _ _ _ (fun c x q v W' h => by cases q <;> exact h) ?_
      intro u9 u14 u147 u148 u149 u150 u151 u152 u153 u154 u155 u156 u157 u158 u159 u160 u161 u162 u163 u164 u165 u166 wy hcut
      obtain ⟨j, ia, ic, hj, hjp, hjs, hP, hO, hF, hwy⟩ := hcut
      clear HP HF
      have hF2 := hF.congr (l' := filesD W k) (fun i hi => by rw [filesD_get W (by omega), filesD_get W hi])
      have hdp : DocP (gat l 8) k j := by
        rw [← HWe.out]
        exact ⟨hk, HPl.out, HSt.out, hj, hjp, hjs⟩
      have hds := doc_same HY.out.1 HL.out hdp
      have hE : okB l = true → RDo w l (docM l k j) (sumM W) k j av wx.heap.size := fun hok => ⟨hds.2 hok, by rw [HWe.out], by show k = (filesD (gat l 8) k).length; rw [filesD_len], by show j = (inosM (gat l 8) _ j).length; rw [inosM_len], fun i g hi hg => HLt.out.2 i hi g hg, HSep.out, by omega⟩
      rename_i K31 h31
      refine h31 _ _ ?_
      exact dec_tail (m := docM l k j) hE (by rw [HWe.out]; exact hds.1) hs9 (by show k = (filesD (gat l 8) k).length; rw [filesD_len]) (by show j = (inosM (gat l 8) _ j).length; rw [inosM_len]) (by omega)
        (Nat.le_trans (szF_filesD (gat l 8) k) (by omega)) (by omega) (lb_filesD (gat l 8) (by rw [← HWe.out]; exact HBL.out) k) b o cap HL.out HY.out fa fc ia ic
        (by have h := hP; rw [HWe.out] at h; exact h) (by have h := hF2; rw [HWe.out] at h; exact h) (by have h := hO; rw [HWe.out] at h; exact h) _ _ _ _ _ _ _ _ _ _ _ _ _ _ _ _ _ _ _ _ _ _ _ _ _ _ _ _ _ _ _ _ _ _ _ _ _ _ _ _ _ _ _ _ _ _ _ _ _ _ _ _ _ _ _ _ _ _ _ _ _ _ _ _ _ _ _ _ _ _ _ _ _ _ _ _ _ _ _ _ _ _ _ _ _ _ _ _ _ _ _ _ _ _ _ _ _ _ _ _ _ _ _ _ _ _ _ _ _ _ _ _ _ _ _ _ _ _ _ _ _ _ _ _ _ _ _ _ _ _ _ _ _ _ _ _ _ _ _ _ _ _ _ _ _ _ _ _ _ _ _ _ _ _ _ _ _ _ _ _ _ _ _ _ _ _ _ _ _ _ _ _ _ _ _ _ _ _
set_option maxRecDepth 100000 in
set_option maxHeartbeats 4000000 in
theorem rdecode_any {w : World} (a : Option Addr) (n cap : Nat) (l : List Nat) (hn : n = l.length) (hc : n ≤ cap) (hY : Bytes w a l) : Calls Tryd.prog 44 #[.slice a n cap] w fun e w' => DecO l w e w' := by
  by_cases h : n = 128
  · subst h
    obtain ⟨b, o, rfl, _⟩ := hY.2.2 (fun e => by rw [e] at hn; cases hn)
    exact rdecode_128 b o cap l hn.symm hc hY
  · have h9 : n ≤ 9223372036854775807 := by rw [hn]; exact hY.2.1
    have HO : Hid (okB l = false) := by show _ = _; unfold okB; rw [decide_eq_false (by omega)]; rfl
    have hb := sup_pc w (.cells #[.int .i64 0, .int .i64 0, .int .i64 0, .int .i64 0, .int .i64 0, .slice none 0 0, .slice none 0 0] 36)
    have hres := blo_laid w 36 #[.int .i64 0, .int .i64 0, .int .i64 0, .int .i64 0, .int .i64 0, .slice none 0 0, .slice none 0 0]
    have hi : ((n : Int) != 128) = true := by simp; omega
    have hi2 : ((n : Int) == 128) = false := by simp; omega
    have hi3 : ¬ (n : Int) = 128 := by omega
    have HB := Lib.hid hb
    have HR := Lib.hid hres
    clear hY hc hb hres
    go_enter Tryd.func44, Tryd.ntmps44
    go_wp2_with (refine wpList_store_row rfl 36 (.tmp 2) (.tmp 18) rfl w.heap.size (#[.int .i64 0, .int .i64 0, .int .i64 0, .int .i64 0, .int .i64 0, .slice none 0 0, .slice none 0 0]) (by first | rfl | simp [go_sem]) (by first | rfl | simp [go_sem]) 36 _ hres (by kernel_rfl) rfl (by simp [Value.oneCell']) ?_)
    (try simp only [Exit.inBlock, Exit.then])
    refine bodyPost_ret (results_row_tmp2 (p := 2) (u := 3) (v := 4) (ty := 36) rfl _ _ w.heap.size 36 #[.int .i64 0, .int .i64 0, .int .i64 0, .int .i64 0, .int .i64 0, .slice none 0 0, .slice none 0 0] _ (by simp) HR.out Tryd.underlying36 rfl (by kernel_rfl)) rfl ⟨HB.out, fun _ => rfl, fun h => by rw [HO.out] at h; cases h⟩
end Go.Proofs.YtlkgaefabahkoaaDoor
/-
  The document's Read of a partial segment: what its walk is told.
-/
namespace Go.Proofs.YtlkgaefabahkoaaDoor
open Go.RowKit

def rM (l : List Nat) : Sm := if okB l = true then decM l else ⟨0, 0, 0, 0, 0, [], []⟩
def rS (l : List Nat) : Nat := if okB l = true then sumM (gat l 8) else 0
def rC (l : List Nat) : Int := if okB l = true then 0 else 100
/-- A part in memory, its blocks by their types. -/
structure PtT (W : World) (m : Sm) (fa : Option Addr) (fc : Nat) (ia : Option Addr) (ic : Nat) : Prop where
  fo : ∃ base av, Fo W base (.slice fa m.fs.length fc) av m.fs m.fs.length
  ino : ∃ base, W.ownsRow base IT 1 (.slice ia m.is.length ic) m.is.length (cellsI m.is)
section
variable {W W' : World} {m : Sm} {fa : Option Addr} {fc : Nat} {ia : Option Addr} {ic : Nat}
theorem PtT.later (h : PtT W m fa fc ia ic) (hb : Below W.heap.size W W') : PtT W' m fa fc ia ic := by
  obtain ⟨⟨b, av, h1⟩, ⟨c, h2⟩⟩ := h
  exact ⟨⟨b, av, h1.later hb⟩, ⟨c, own_later h2 hb⟩⟩
theorem PtT.fis (h : PtT W m fa fc ia ic) : Fis W fa m.fs := by
  obtain ⟨⟨b, av, h1⟩, -⟩ := h
  exact h1.fis rfl
theorem PtT.ints (h : PtT W m fa fc ia ic) : Ints W ia m.is := by
  obtain ⟨-, ⟨c, h2⟩⟩ := h
  exact Ints.own h2
theorem PtT.out {X : Nat → Prop} (h : PtT W m fa fc ia ic) (ho : Out X W W') (hX : ∀ g, X g → ∃ t cs, Blo W g t cs ∧ t ≠ FN ∧ t ≠ IT) : PtT W' m fa fc ia ic := by
  obtain ⟨⟨b, av, h1⟩, ⟨c, h2⟩⟩ := h
  have own : ∀ {e : TypeId} {base size n : Nat} {v : Value} {xs : List Value}, e = FN ∨ e = IT → W.ownsRow base e size v n xs → W'.ownsRow base e size v n xs := fun {e base size n v xs} he hr => ho.own hr (fun q e1 e2 => by
    obtain ⟨-, -, cs, hb⟩ := oblo hr e1
    obtain ⟨t, cs2, hb2, n1, n2⟩ := hX q e2
    rcases he with rfl | rfl
    · exact hb.apart hb2 (fun e => n1 e.symm) rfl
    · exact hb.apart hb2 (fun e => n2 e.symm) rfl)
  exact ⟨⟨b, av, own (.inl rfl) h1.row, fun i hi => own (.inr rfl) (h1.its i hi)⟩, ⟨c, own (.inr rfl) h2⟩⟩
theorem PtT.nil (W : World) : PtT W ⟨0, 0, 0, 0, 0, [], []⟩ none 0 none 0 := ⟨⟨0, _, fo_nil W 0 []⟩, ⟨0, by simp [cellsI], .inl ⟨rfl, rfl⟩⟩⟩
end
abbrev tupD (l : List Nat) (fa : Option Addr) (fc : Nat) (ia : Option Addr) (ic : Nat) : Value := .tuple #[.agg (pcs (rM l) fa (rM l).fs.length fc ia (rM l).is.length ic), .int .u32 ((rS l : Nat) : Int), .int .i64 (rC l)]
/-- What Decode answered, wherever it lies. -/
def PDe (l : List Nat) : ObjL := fun v W => ∃ fa fc ia ic, v = tupD l fa fc ia ic ∧ PtT W (rM l) fa fc ia ic
theorem later_pde (l : List Nat) : LaterP (PDe l) := fun v W W' hb h => by
  obtain ⟨fa, fc, ia, ic, rfl, h1⟩ := h
  exact ⟨fa, fc, ia, ic, rfl, h1.later hb⟩
def PPa (l : List Nat) : ObjL := fun v W => ∃ fa fc ia ic, v = .agg (pcs (rM l) fa (rM l).fs.length fc ia (rM l).is.length ic) ∧ PtT W (rM l) fa fc ia ic
theorem later_ppa (l : List Nat) : LaterP (PPa l) := fun v W W' hb h => by
  obtain ⟨fa, fc, ia, ic, rfl, h1⟩ := h
  exact ⟨fa, fc, ia, ic, rfl, h1.later hb⟩
def PBy (l : List Nat) : ObjL := fun v W => ∃ a cap, v = .slice a 128 cap ∧ 128 ≤ cap ∧ Bytes W a l
theorem later_pby15 (l : List Nat) : LaterP (PBy l) := fun v W W' hb h => by
  obtain ⟨a, cap, rfl, hc, h⟩ := h
  exact ⟨a, cap, rfl, hc, h.below hb⟩
abbrev zpr : Array Value := #[.int .i64 0, .int .i64 0, .int .i64 0, .int .i64 0, .int .i64 0, .slice none 0 0, .slice none 0 0]
def PBx (base : Nat) : ObjL := fun v W => ∃ g, v = .pointer (some ⟨g, 0, none⟩) ∧ base ≤ g ∧ Blo W g 36 zpr
theorem later_pbx (base : Nat) : LaterP (PBx base) := fun v W W' hb h => by
  obtain ⟨g, rfl, hg, h⟩ := h
  exact ⟨g, rfl, hg, h.later hb⟩
/-- Behind the store of the part. -/
structure DrR (l : List Nat) (w1 : World) (D : Nat → Bool) (X : Nat → Value) (W : World) : Prop where
  d15 : D 15 = true
  all : ∀ j, j ≠ 12 → j ≠ 13 → j < 15 → D j = true
  x10 : ∃ v, X 10 = .tuple #[v, .int .u32 ((rS l : Nat) : Int), .int .i64 (rC l)]
  x12 : D 12 = true → X 12 = .int .u32 ((rS l : Nat) : Int)
  x13 : D 13 = true → X 13 = .int .i64 (rC l)
  x16 : D 16 = true → X 16 = .int .u32 ((rS l : Nat) : Int)
  x17 : D 17 = true → X 17 = .int .i64 (rC l)
  mem : ∃ g fa fc ia ic, X 14 = .pointer (some ⟨g, 0, none⟩) ∧ w1.heap.size ≤ g ∧ Blo W g 36 (pcs (rM l) fa (rM l).fs.length fc ia (rM l).is.length ic) ∧ PtT W (rM l) fa fc ia ic
  below : Below w1.heap.size w1 W
theorem DrR.put {l : List Nat} {w1 W : World} {D : Nat → Bool} {X : Nat → Value} (h : DrR l w1 D X W) (i : Nat) (v : Value) (h10 : i ≠ 10) (h14 : i ≠ 14) (h12 : i = 12 → v = .int .u32 ((rS l : Nat) : Int)) (h13 : i = 13 → v = .int .i64 (rC l)) (h16 : i = 16 → v = .int .u32 ((rS l : Nat) : Int)) (h17 : i = 17 → v = .int .i64 (rC l)) :
    DrR l w1 (updD D i) (updV X i v) W := by
  obtain ⟨a, b, ⟨t, c⟩, k12, k13, k16, k17, ⟨g, fa, fc, ia, ic, m1, m2, m3, m4⟩, m5⟩ := h
  have aux : ∀ k (A : Value), (D k = true → X k = A) → (i = k → v = A) → updD D i k = true → updV X i v k = A := fun k A hk hv hd => by
    by_cases e : k = i
    · subst e; rw [updV_at]; exact hv rfl
    · rw [updV_ne X i v e]; rw [updD_ne D i e] at hd; exact hk hd
  exact ⟨updD_upO a, fun j h1 h2 h3 => updD_upO (b j h1 h2 h3), ⟨t, by rw [updV_ne X i v (fun e => h10 e.symm)]; exact c⟩, aux 12 _ k12 h12, aux 13 _ k13 h13, aux 16 _ k16 h16, aux 17 _ k17 h17, ⟨g, fa, fc, ia, ic, by rw [updV_ne X i v (fun e => h14 e.symm)]; exact m1, m2, m3, m4⟩, m5⟩
def DrI (RL : List (Nat × ObjL)) (TL : List (Nat × Value)) (w1 : World) (l : List Nat) (D : Nat → Bool) (X : Nat → Value) (W : World) : Prop :=
  (D 15 = false ∧ D 16 = false ∧ D 17 = false ∧ GL RL TL w1 D X W) ∨ DrR l w1 D X W
theorem dr_stored {l : List Nat} {w1 W : World} {D : Nat → Bool} {X : Nat → Value} {g : Nat} {fa : Option Addr} {fc : Nat} {ia : Option Addr} {ic : Nat} (hA6 : D 16 = false) (hA7 : D 17 = false) (hall : ∀ j, j ≠ 12 → j ≠ 13 → j < 15 → D j = true) (p10 : PDe l (X 10) W) (k14 : X 14 = .pointer (some ⟨g, 0, none⟩))
    (k12 : D 12 = true → X 12 = .int .u32 ((rS l : Nat) : Int)) (k13 : D 13 = true → X 13 = .int .i64 (rC l)) (hg : w1.heap.size ≤ g) (hb : Below w1.heap.size w1 W) (hP : PtT W (rM l) fa fc ia ic) (hbx : Blo W g 36 zpr) :
    DrR l w1 (updD D 15) (updV X 15 undef) (W.setRow g (pcs (rM l) fa (rM l).fs.length fc ia (rM l).is.length ic)) := by
  obtain ⟨fa2, fc2, ia2, ic2, h10, -⟩ := p10
  have ho : Out (fun j => j = g) W (W.setRow g (pcs (rM l) fa (rM l).fs.length fc ia (rM l).is.length ic)) := out_row W g _ rfl
  refine ⟨updD_at D 15, fun j h1 h2 h3 => updD_upO (hall j h1 h2 h3), ⟨_, by rw [updV_ne X 15 _ (by decide)]; exact h10⟩, fun h => ?_, fun h => ?_, fun h => ?_, fun h => ?_, ⟨g, fa, fc, ia, ic, by rw [updV_ne X 15 _ (by decide)]; exact k14, hg, blo_row hbx _, hP.out ho (fun j e => ⟨36, zpr, e ▸ hbx, by decide, by decide⟩)⟩, hb.trans (ho.below hb.size (fun j _ e => by omega))⟩
  · rw [updD_ne D 15 (by decide)] at h; rw [updV_ne X 15 _ (by decide)]; exact k12 h
  · rw [updD_ne D 15 (by decide)] at h; rw [updV_ne X 15 _ (by decide)]; exact k13 h
  · rw [updD_ne D 15 (by decide), hA6] at h; cases h
  · rw [updD_ne D 15 (by decide), hA7] at h; cases h
theorem rdec_pd {w : World} (a : Option Addr) (cap : Nat) (l : List Nat) (hl : l.length = 128) (hc : 128 ≤ cap) (hY : Bytes w a l) :
    Calls Tryd.prog 44 #[.slice a 128 cap] w fun e w' => ∃ v, e = .returned v ∧ PDe l v w' ∧ Below w.heap.size w w' :=
  (rdecode_any a 128 cap l hl.symm hc hY).mono fun e w' h => by
    obtain ⟨h1, h2, h3⟩ := h
    unfold PDe
    cases hok : okB l with
    | false =>
      exact ⟨_, h2 hok, ⟨none, 0, none, 0, by unfold tupD rM rS rC; rw [hok]; rfl, by unfold rM; rw [hok]; exact PtT.nil _⟩, h1⟩
    | true =>
      obtain ⟨fa, fc, ia, ic, av, SB, hy⟩ := h3 hok
      have l1 : (decM l).fs.length = at' (gat l 8) 4 := filesM_len _ _
      have l2 : (decM l).is.length = at' (gat l 8) 5 := inosM_len _ _ _
      have e1 : rM l = decM l := by unfold rM; rw [hok]; rfl
      have e2 : rS l = sumM (gat l 8) := by unfold rS; rw [hok]; rfl
      have e3 : rC l = 0 := by unfold rC; rw [hok]; rfl
      refine ⟨_, hy.eq, ⟨fa, fc, ia, ic, by unfold tupD; rw [e1, e2, e3, l1, l2]; rfl, ?_⟩, h1⟩
      rw [e1]
      refine ⟨⟨w.heap.size, av, ?_⟩, ⟨SB, ?_⟩⟩
      · rw [l1]; exact hy.fo
      · rw [l2]; exact hy.ino
theorem conv_bytes (W : World) (l : List Nat) (hl : l.length = 128) (hb : ∀ x ∈ l, x < 256) : ∃ cap W', (convert 9 49 (.string (strOf l))).run Tryd.prog W = .ok (.slice (some ⟨W.heap.size, 0, none⟩) 128 cap) W' ∧ 128 ≤ cap ∧ Below W.heap.size W W' ∧ Bytes W' (some ⟨W.heap.size, 0, none⟩) l := by
  have h := Lib.run_convert_string_bytes (P := Tryd.prog) W 9 49 5 (strOf l) Tryd.underlying9 Tryd.underlying49 Tryd.underlying5
  rw [strOf_size, hl] at h
  refine ⟨_, _, h, grownCap_ge _ _ _ _, ⟨rfl, rfl, rfl, ?_, fun k hk => Lib.bytesWorld_at_old _ _ _ _ hk⟩, hb, by omega, fun _ => ⟨W.heap.size, 0, rfl, fun i hi => ?_⟩⟩
  · rw [Lib.bytesWorld_size]; omega
  · rw [Nat.zero_add, Lib.bytesWorld_cell _ _ _ i (by rw [strOf_size]; exact hi), strOf_toList]
    rw [List.getD_eq_getElem?_getD, List.getD_eq_getElem?_getD, List.getElem?_map, List.getElem?_eq_getElem hi]
    have hx := hb _ (List.getElem_mem hi)
    simp only [Option.map_some, Option.getD_some, UInt8.toNat_ofNat']
    rw [Nat.mod_eq_of_lt hx]
end Go.Proofs.YtlkgaefabahkoaaDoor
