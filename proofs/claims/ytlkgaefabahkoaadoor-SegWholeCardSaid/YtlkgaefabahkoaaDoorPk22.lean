/-
  SgWhW · SgWhA · SgWhB · OpenPair · ArrIn · SgWh: these texts in one.
-/
import Derived.Test.YtlkgaefabahkoaaDoorPk21
import Derived.Test.YtlkgaefabahkoaaDoorPk12
import Derived.Test.YtlkgaefabahkoaaDoorPk04
import Derived.Test.YtlkgaefabahkoaaDoorPk01
import Derived.BigQuiet
import Derived.Deep.DeepCutAuto
import Derived.Test.YtlkgaefabahkoaaDoorPk00
import Derived.StillTailTactics
import Derived.Lib.SmallJoins
import Derived.ProofKit
import Derived.OpenShut
import Derived.ChangeArms
/-
  SegWhole: what the law keeps.
-/
namespace Go.Proofs.YtlkgaefabahkoaaDoor
open Go.RowKit

abbrev A4T := 57
abbrev BT := 4
/-- The disk, the second piece's box, and the numbers'. -/
structure WhP (w : World) (b4 b5 : Nat) (P4 C5 : Array Value) (L : Dl) (d : Dm) (W : World) : Prop where
  dk : Dk w.heap.size W L d
  p4 : Blo W b4 PZT P4
  c5 : Blo W b5 A4T C5
  below : Below w.heap.size w W
/-- And the disk as it was before. -/
structure WhS (w : World) (b4 b5 : Nat) (P4 C5 : Array Value) (Lb L : Dl) (c d : Dm) (W : World) : Prop where
  wp : WhP w b4 b5 P4 C5 L d W
  bf : Dk w.heap.size W Lb c
  ap : ∀ g, Lb.has g → ¬ L.has g
section
variable {w W w' : World} {b4 b5 : Nat} {P4 C5 : Array Value} {Lb L : Dl} {c d d' : Dm} {k : Int} {e : Ending}
theorem WhP.later (h : WhP w b4 b5 P4 C5 L d W) (hb : Below W.heap.size W w') : WhP w b4 b5 P4 C5 L d w' := ⟨h.dk.later hb, h.p4.later hb, h.c5.later hb, h.below.trans (hb.mono h.below.size)⟩
theorem WhS.later (h : WhS w b4 b5 P4 C5 Lb L c d W) (hb : Below W.heap.size W w') : WhS w b4 b5 P4 C5 Lb L c d w' := ⟨h.wp.later hb, h.bf.later hb, h.ap⟩
theorem WhP.code (h : WhP w b4 b5 P4 C5 L d W) (hO : CodeO w.heap.size W L d' k e w') : e = .returned (.int .i64 k) ∧ ∃ q, WhP w b4 b5 P4 C5 { L with qv := q } d' w' := by
  obtain ⟨h1, q, h2, h3, h4⟩ := hO
  exact ⟨h1, q, h2, h3.blo h.p4 (h.dk.apart h.p4 (by decide) (by decide) (by decide)), h3.blo h.c5 (h.dk.apart h.c5 (by decide) (by decide) (by decide)), h.below.trans (h3.below h.below.size (fun i _ hi => (h.dk.has_lt hi).1))⟩
theorem WhS.code (h : WhS w b4 b5 P4 C5 Lb L c d W) (hO : CodeO w.heap.size W L d' k e w') : e = .returned (.int .i64 k) ∧ ∃ q, WhS w b4 b5 P4 C5 Lb { L with qv := q } c d' w' := by
  have hO' := hO
  obtain ⟨h1, q, h2, h3, h4⟩ := hO
  refine ⟨h1, q, ⟨h2, h3.blo h.wp.p4 (h.wp.dk.apart h.wp.p4 (by decide) (by decide) (by decide)), h3.blo h.wp.c5 (h.wp.dk.apart h.wp.c5 (by decide) (by decide) (by decide)), h.wp.below.trans (h3.below h.wp.below.size (fun i _ hi => (h.wp.dk.has_lt hi).1))⟩, h.bf.out h3 (fun i hi hx => h.ap i hi hx), fun g hg hx => ?_⟩
  rcases hx with hx | hx | hx | hx
  · exact h.ap g hg (.inl hx)
  · exact h.ap g hg (.inr (.inl hx))
  · exact h.ap g hg (.inr (.inr (.inl hx)))
  · rcases h4 g hx with h5 | h5
    · exact h.ap g hg (.inr (.inr (.inr h5)))
    · have := (h.bf.has_lt hg).2
      omega
theorem WhP.crash {Lc : Dl} (h : WhP w b4 b5 P4 C5 L d W) (hD : Dk W.heap.size w' Lc c) (hb : Below W.heap.size W w') : WhS w b4 b5 P4 C5 Lc L c d w' :=
  ⟨h.later hb, hD.deeper h.below.size, fun g hg hx => by have := (hD.has_lt hg).1; have := (h.dk.has_lt hx).2; omega⟩
theorem WhS.row {base n : Nat} {v : Value} {xs : List Value} (h : WhS w b4 b5 P4 C5 Lb L c d W) (hr : W.ownsRow base BT 1 v n xs) (hbase : w.heap.size ≤ base) (ho : Out (fun g => v.ownBlock = some g) W w') : WhS w b4 b5 P4 C5 Lb L c d w' := by
  have hb : ∀ g, v.ownBlock = some g → base ≤ g ∧ ∃ cs, Blo W g BT cs := fun g hg => ⟨(oblo hr hg).1, (oblo hr hg).2.2⟩
  refine ⟨⟨h.wp.dk.out ho (fun i hi hx => ?_), ho.blo h.wp.p4 (fun hx => ?_), ho.blo h.wp.c5 (fun hx => ?_), h.wp.below.trans (ho.below h.wp.below.size (fun i _ hx => Nat.le_trans hbase (hb i hx).1))⟩, h.bf.out ho (fun i hi hx => ?_), h.ap⟩
  · obtain ⟨-, cs, hc⟩ := hb i hx
    exact h.wp.dk.apart hc (by decide) (by decide) (by decide) hi
  · obtain ⟨-, cs, hc⟩ := hb _ hx
    exact hc.apart h.wp.p4 (by decide) rfl
  · obtain ⟨-, cs, hc⟩ := hb _ hx
    exact hc.apart h.wp.c5 (by decide) rfl
  · obtain ⟨-, cs, hc⟩ := hb i hx
    exact h.bf.apart hc (by decide) (by decide) (by decide) hi
end
theorem info_boolw : (Tryd.prog.info? 4).map (fun i => (i.zero, i.size, i.bytes)) = some (some (.bool false), 1, 1) := by kernel_rfl
theorem bools_own {w : World} {base n cap : Nat} {a : Option Addr} {l : List Bool} (h : w.ownsRow base BT 1 (.slice a n cap) n (l.map Value.bool)) : Bools w a l := fun hl => by
  have h0 : 0 < l.length := List.length_pos_iff.2 hl
  obtain ⟨b, o, ha, _⟩ := Rds.own h 0 (.bool l[0]) (by simp [h0])
  refine ⟨b, o, ha, fun i hi => ?_⟩
  obtain ⟨b2, o2, ha2, hc⟩ := Rds.own h i (.bool l[i]) (by simp [hi])
  rw [ha] at ha2
  cases ha2
  rw [hc, List.getD_eq_getElem?_getD, List.getElem?_eq_getElem hi]
  rfl
/-- A Write that was begun. -/
theorem seg_in {d dw : Dm} {F : Int} {m : Sm} {ls : List (List Nat)} {code : Int} (h : segW d F m ls = (dw, code)) (hc : code = 0 ∨ code = 102) : chkM m = 0 ∧ wrB d.n F m.x m.fs m.is ls = true := by
  by_cases k1 : chkM m = 0
  · refine ⟨k1, ?_⟩
    by_cases k2 : wrB d.n F m.x m.fs m.is ls = true
    · exact k2
    · unfold segW at h
      rw [if_neg (fun q => q k1), if_pos (bool_no k2)] at h
      cases h
      rcases hc with h | h <;> cases h
  · unfold segW at h
    rw [if_pos k1] at h
    cases h
    rcases hc with h | h
    · exact absurd h k1
    · rcases chk_code m with q | q | q <;> rw [q] at h <;> cases h
end Go.Proofs.YtlkgaefabahkoaaDoor
/-
  SegWhole: what stood elsewhere is as it was: the last loop.
-/
namespace Go.Proofs.YtlkgaefabahkoaaDoor
open Go.RowKit

def stCw (n : Nat) : Code → Bool
  | .region m _ _ => m == n
  | .seq a _ => stCw n a
  | _ => false
def tlCw (n : Nat) : Code → Option Code
  | .seq a b => match tlCw n b with
    | some c => some c
    | none => match stCw n a with
      | true => some b
      | false => none
  | _ => none
noncomputable def whTail (n : Nat) : Code := ((Tryd.f4.body.bind (tlCw n)).getD .skip)
/-- What the last loop keeps. -/
structure WhE (w : World) (g4 : Nat) (P4 : Array Value) (Lb Lc : Dl) (cb cc : Dm) (W : World) : Prop where
  p4 : Blo W g4 PZT P4
  bf : Dk w.heap.size W Lb cb
  dk : Dk w.heap.size W Lc cc
  below : Below w.heap.size w W
theorem WhE.later {w W w' : World} {g4 : Nat} {P4 : Array Value} {Lb Lc : Dl} {cb cc : Dm} (h : WhE w g4 P4 Lb Lc cb cc W) (hb : Below W.heap.size W w') : WhE w g4 P4 Lb Lc cb cc w' := ⟨h.p4.later hb, h.bf.later hb, h.dk.later hb, h.below.trans (hb.mono h.below.size)⟩
abbrev WhPost (w : World) : Exit → Act → World → Prop := bodyPost Tryd.prog Tryd.f4 (fun e w' => e = .returned (.bool true) ∧ Below w.heap.size w w')
set_option maxRecDepth 1000000 in
set_option maxHeartbeats 16000000 in
theorem whole_23 {w W : World} (fF nb g4 : Nat) (m' : Sm) (fa' : Option Addr) (fn' fc' : Nat) (ia' : Option Addr) (inn' ic' : Nat) (da' : Option Addr) (dn' dc' : Nat) {Lb Lc : Dl} {cb cc : Dm} (hS : WhE w g4 (pieceA ((fF : Nat) : Int) m' fa' fn' fc' ia' inn' ic' da' dn' dc') Lb Lc cb cc W)
    (hn1 : cb.n = 300) (hn2 : cc.n = 300) (hx : 0 ≤ m'.x ∧ m'.x ≤ 298 ∧ fF + nb + 2 ≤ 300)
    (hEl : ∀ i : Nat, (i < fF ∨ fF + (nb + 2) ≤ i) → ((i : Nat) : Int) ≠ m'.x → ((i : Nat) : Int) ≠ m'.x + 1 → cc.N i = cb.N i)
    (hBl : ∀ W, Below w.heap.size w W → Calls Tryd.prog 25 #[part m'.e m'.c m'.i m'.p m'.x fa' fn' fc' ia' inn' ic'] W fun en w' => en = .returned (.int .i64 ((nb + 2 : Nat) : Int)) ∧ Below W.heap.size W w')
    (s0 s1 s2 s3 s5 s6 s7 s8 s9 s11 s12 s13 s15 s16 s17 s18 s19 s20 s21 s22 s23 s24 s25 s26 s27 s28 s29 s30 s31 s32 s33 s34 s35 s36 s37 s38 s39 s40 s41 s42 s43 s44 s45 s46 s47 s48 s49 s50 s51 s52 s53 s54 s55 s56 s57 s58 s59 s60 s61 s62 s63 s64 s65 s66 s67 s68 s69 s70 s71 s72 s73 s74 s75 s76 s77 s78 s79 s80 s81 s82 s83 s84 s85 s86 s87 s88 s89 s90 s91 s92 s93 s94 s95 s96 s97 s98 s99 s100 s101 s102 s103 s104 s105 s106 s107 s108 s109 s110 s111 s112 s113 s114 s115 s116 s117 s118 s119 s120 s121 s122 s123 s124 s125 s126 s127 s128 s129 s130 s131 s132 s133 s134 s135 s136 s137 s138 s139 s140 s141 s142 s143 s144 s145 s146 s147 s148 s149 s150 s151 s152 s153 s154 s155 s156 s157 s158 s160 s161 s162 s163 s164 s165 s166 s167 s168 s169 s170 s171 s172 s173 s174 s175 s176 s177 s178 s179 s180 s181 s182 s183 s184 s185 s186 s187 s188 s189 s190 s191 s192 s193 s194 s195 s196 s197 s198 s199 s200 s201 s202 s203 s204 s205 s206 s207 s208 s209 s210 s211 s212 s213 : Value) : (whTail 23).wp Tryd.prog (WhPost w) ⟨#[s0, s1, s2, s3, .pointer (some ⟨g4, 0, none⟩), s5, s6, s7, s8, s9, .pointer (some ⟨Lb.bd, 0, none⟩), s11, s12, s13, .pointer (some ⟨Lc.bd, 0, none⟩), s15, s16, s17, s18, s19, s20, s21, s22, s23, s24, s25, s26, s27, s28, s29, s30, s31, s32, s33, s34, s35, s36, s37, s38, s39, s40, s41, s42, s43, s44, s45, s46, s47, s48, s49, s50, s51, s52, s53, s54, s55, s56, s57, s58, s59, s60, s61, s62, s63, s64, s65, s66, s67, s68, s69, s70, s71, s72, s73, s74, s75, s76, s77, s78, s79, s80, s81, s82, s83, s84, s85, s86, s87, s88, s89, s90, s91, s92, s93, s94, s95, s96, s97, s98, s99, s100, s101, s102, s103, s104, s105, s106, s107, s108, s109, s110, s111, s112, s113, s114, s115, s116, s117, s118, s119, s120, s121, s122, s123, s124, s125, s126, s127, s128, s129, s130, s131, s132, s133, s134, s135, s136, s137, s138, s139, s140, s141, s142, s143, s144, s145, s146, s147, s148, s149, s150, s151, s152, s153, s154, s155, s156, s157, s158, .bool false, s160, s161, s162, s163, s164, s165, s166, s167, s168, s169, s170, s171, s172, s173, s174, s175, s176, s177, s178, s179, s180, s181, s182, s183, s184, s185, s186, s187, s188, s189, s190, s191, s192, s193, s194, s195, s196, s197, s198, s199, s200, s201, s202, s203, s204, s205, s206, s207, s208, s209, s210, s211, s212, s213], []⟩ W := by
  have HS0 := Lib.hid hS
  have HN1 := Lib.hid hn1
  have HN2 := Lib.hid hn2
  have HX := Lib.hid hx
  have HEl := Lib.hid hEl
  have HBl := Lib.hid hBl
  clear hS hn1 hn2 hx hEl hBl
  conv => arg 2; whnf
  go_wp2_with fail
  go_loopw [17] (fun t wr => ∃ i : Nat, i ≤ 300 ∧ t = .int .i64 ((i : Nat) : Int) ∧ WhE w g4 (pieceA ((fF : Nat) : Int) m' fa' fn' fc' ia' inn' ic' da' dn' dc') Lb Lc cb cc wr) (fun t _ => 300 - (intOf t).toNat)
  case atStart => exact ⟨0, by omega, rfl, HS0.out⟩
  case round =>
    clear HS0
    obtain ⟨i, hi, rfl, hS⟩ := hrel
    have HS := Lib.hid hS
    clear hS
    by_cases hlt : i < 300
    · go_wp2_with fail
      refine (read_yes i (by rw [HN1.out]; exact hlt) HS.out.bf).mono ?_
      rintro e wa ⟨g, rfl, hbl, -, hba⟩
      have HSa := Lib.hid (HS.out.later hba)
      have HBa := Lib.hid hbl
      clear hbl hba HS
      go_wp2_with fail
      refine (read_yes i (by rw [HN2.out]; exact hlt) HSa.out.dk).mono ?_
      rintro e wb ⟨g', rfl, hbl, -, hbb⟩
      have HSb := Lib.hid (HSa.out.later hbb)
      have HBb := Lib.hid (HBa.out.out (X := fun _ => False) (Out.of_below hbb) (fun h => h))
      have HBc := Lib.hid hbl
      clear hbl hbb HSa HBa
      go_upto_region 30 with (fail)
      have k0 : ∀ x : Kept wb, x.at_.cell? ⟨g4, 0, none⟩ = some (.int .i64 ((fF : Nat) : Int)) := fun x => (HSb.out.p4.later x.below).cell 0
      have k1 : ∀ x : Kept wb, x.at_.cell? ⟨g4, 1, none⟩ = some (.int .i64 m'.e) := fun x => (HSb.out.p4.later x.below).cell 1
      have k2 : ∀ x : Kept wb, x.at_.cell? ⟨g4, 2, none⟩ = some (.int .i64 m'.c) := fun x => (HSb.out.p4.later x.below).cell 2
      have k3 : ∀ x : Kept wb, x.at_.cell? ⟨g4, 3, none⟩ = some (.int .i64 m'.i) := fun x => (HSb.out.p4.later x.below).cell 3
      have k4 : ∀ x : Kept wb, x.at_.cell? ⟨g4, 4, none⟩ = some (.int .i64 m'.p) := fun x => (HSb.out.p4.later x.below).cell 4
      have k5 : ∀ x : Kept wb, x.at_.cell? ⟨g4, 5, none⟩ = some (.int .i64 m'.x) := fun x => (HSb.out.p4.later x.below).cell 5
      have k6 : ∀ x : Kept wb, x.at_.cell? ⟨g4, 6, none⟩ = some (.slice fa' fn' fc') := fun x => (HSb.out.p4.later x.below).cell 6
      have k7 : ∀ x : Kept wb, x.at_.cell? ⟨g4, 7, none⟩ = some (.slice ia' inn' ic') := fun x => (HSb.out.p4.later x.below).cell 7
      have HCb : Hid (∀ y : Kept wb, Calls Tryd.prog 25 #[part m'.e m'.c m'.i m'.p m'.x fa' fn' fc' ia' inn' ic'] y.at_ fun en w' => en = .returned (.int .i64 ((nb + 2 : Nat) : Int)) ∧ Below y.at_.heap.size y.at_ w') := fun y => HBl.out y.at_ (HSb.out.below.trans (y.below.mono HSb.out.below.size))
      obtain ⟨n2, hn2⟩ : ∃ n2 : Nat, nb + 2 = n2 := ⟨_, rfl⟩
      rw [hn2] at HCb
      obtain ⟨hx0, hx1, hx2⟩ := HX.out
      have hEi := HEl.out i
      rw [hn2] at hEi
      have hb0 : ((fF : Nat) : Int) + ((n2 : Nat) : Int) ≤ 300 := by omega
      have HCv : Hid (∀ (W : World) (g : Nat) (l : List Nat), BBlk W g l → (convert 49 9 (.slice (some ⟨g, 0, none⟩) 64 64)).run Tryd.prog W = .ok (.string (strOf l)) W) := fun W g l hb => run_str W 49 9 5 Tryd.underlying49 Tryd.underlying5 Tryd.underlying9 l _ 64 64 hb.2.1.symm (bytes_blk hb)
      have HBl2 := Lib.hid hlt
      clear hlt hn2
      by_cases c1 : fF ≤ i
      · by_cases c2 : i < fF + n2
        · have p3 : True := trivial
          have p4 : True := trivial
          have g1 : ((fF : Nat) : Int) ≤ ((i : Nat) : Int) := by omega
          have g2 : ((i : Nat) : Int) < ((fF : Nat) : Int) + ((n2 : Nat) : Int) := by omega
          clear hEi c1 c2
          refine wp_region_kept (by kernel_rfl) (by kernel_rfl) ?_
          repeat (first | go_big_quiet_step ((go_at_call 25; with_reducible exact kept_call _ (HCb.out _))) | simp only [p3] | simp only [p4])
          refine wpQuiet_nil ?_
          rintro W ⟨wx, rfl⟩
          have HSx := Lib.hid (HSb.out.later wx.below)
          clear k0 k1 k2 k3 k4 k5 k6 k7 HCb HSb HBb HBc HCv
          go_wp2_with fail
          go_roundw
          case rel => exact ⟨i + 1, by have := HBl2.out; omega, by simp, HSx.out⟩
          case measure => simp [intOf]; have := HBl2.out; omega
        · skip
          by_cases c3 : ((i : Nat) : Int) = m'.x
          · have p4 : True := trivial
            have g1 : ((fF : Nat) : Int) ≤ ((i : Nat) : Int) := by omega
            have g2 : ¬ ((i : Nat) : Int) < ((fF : Nat) : Int) + ((n2 : Nat) : Int) := by omega
            have p3 : (((i : Nat) : Int) == m'.x) = true := by rw [beq_iff_eq]; omega
            clear hEi c3
            refine wp_region_kept (by kernel_rfl) (by kernel_rfl) ?_
            repeat (first | go_big_quiet_step ((go_at_call 25; with_reducible exact kept_call _ (HCb.out _))) | simp only [p3] | simp only [p4])
            refine wpQuiet_nil ?_
            rintro W ⟨wx, rfl⟩
            have HSx := Lib.hid (HSb.out.later wx.below)
            clear k0 k1 k2 k3 k4 k5 k6 k7 HCb HSb HBb HBc HCv
            go_wp2_with fail
            go_roundw
            case rel => exact ⟨i + 1, by have := HBl2.out; omega, by simp, HSx.out⟩
            case measure => simp [intOf]; have := HBl2.out; omega
          · by_cases c4 : ((i : Nat) : Int) = m'.x + 1
            · skip
              have g1 : ((fF : Nat) : Int) ≤ ((i : Nat) : Int) := by omega
              have g2 : ¬ ((i : Nat) : Int) < ((fF : Nat) : Int) + ((n2 : Nat) : Int) := by omega
              have p3 : (((i : Nat) : Int) == m'.x) = false := by rw [beq_eq_false_iff_ne]; omega
              have p4 : (((i : Nat) : Int) == m'.x + 1) = true := by rw [beq_iff_eq]; omega
              clear hEi c3 c4
              refine wp_region_kept (by kernel_rfl) (by kernel_rfl) ?_
              repeat (first | go_big_quiet_step ((go_at_call 25; with_reducible exact kept_call _ (HCb.out _))) | simp only [p3] | simp only [p4])
              refine wpQuiet_nil ?_
              rintro W ⟨wx, rfl⟩
              have HSx := Lib.hid (HSb.out.later wx.below)
              clear k0 k1 k2 k3 k4 k5 k6 k7 HCb HSb HBb HBc HCv
              go_wp2_with fail
              go_roundw
              case rel => exact ⟨i + 1, by have := HBl2.out; omega, by simp, HSx.out⟩
              case measure => simp [intOf]; have := HBl2.out; omega
            · skip
              have g1 : ((fF : Nat) : Int) ≤ ((i : Nat) : Int) := by omega
              have g2 : ¬ ((i : Nat) : Int) < ((fF : Nat) : Int) + ((n2 : Nat) : Int) := by omega
              have p3 : (((i : Nat) : Int) == m'.x) = false := by rw [beq_eq_false_iff_ne]; omega
              have p4 : (((i : Nat) : Int) == m'.x + 1) = false := by rw [beq_eq_false_iff_ne]; omega
              have he := hEi (by omega) c3 c4
              clear hEi c3 c4
              refine wp_region_kept (by kernel_rfl) (by kernel_rfl) ?_
              repeat (first | go_big_quiet_step ((go_at_call 25; with_reducible exact kept_call _ (HCb.out _))) | simp only [p3] | simp only [p4])
              refine wpQuiet_nil ?_
              rintro W ⟨wx, rfl⟩
              have HSx := Lib.hid (HSb.out.later wx.below)
              have hv1 := HCv.out wx.at_ g (cb.N i) (HBb.out.out (X := fun _ => False) (Out.of_below wx.below) (fun h => h))
              have hv2 := HCv.out wx.at_ g' (cc.N i) (HBc.out.out (X := fun _ => False) (Out.of_below wx.below) (fun h => h))
              rw [he] at hv2
              generalize cb.N i = l at hv1 hv2
              have q1 : ((strOf l).toList != (strOf l).toList) = false := by simp
              have q0 : ((strOf l).toList == (strOf l).toList) = true := by simp
              clear he
              clear k0 k1 k2 k3 k4 k5 k6 k7 HCb HSb HBb HBc HCv
              go_wp2_with fail
              go_roundw
              case rel => exact ⟨i + 1, by have := HBl2.out; omega, by simp, HSx.out⟩
              case measure => simp [intOf]; have := HBl2.out; omega
      · skip
        by_cases c3 : ((i : Nat) : Int) = m'.x
        · have p4 : True := trivial
          have g1 : ¬ ((fF : Nat) : Int) ≤ ((i : Nat) : Int) := by omega
          have p3 : (((i : Nat) : Int) == m'.x) = true := by rw [beq_iff_eq]; omega
          clear hEi c3
          refine wp_region_kept (by kernel_rfl) (by kernel_rfl) ?_
          repeat (first | go_big_quiet_step ((go_at_call 25; with_reducible exact kept_call _ (HCb.out _))) | simp only [p3] | simp only [p4])
          refine wpQuiet_nil ?_
          rintro W ⟨wx, rfl⟩
          have HSx := Lib.hid (HSb.out.later wx.below)
          clear k0 k1 k2 k3 k4 k5 k6 k7 HCb HSb HBb HBc HCv
          go_wp2_with fail
          go_roundw
          case rel => exact ⟨i + 1, by have := HBl2.out; omega, by simp, HSx.out⟩
          case measure => simp [intOf]; have := HBl2.out; omega
        · by_cases c4 : ((i : Nat) : Int) = m'.x + 1
          · skip
            have g1 : ¬ ((fF : Nat) : Int) ≤ ((i : Nat) : Int) := by omega
            have p3 : (((i : Nat) : Int) == m'.x) = false := by rw [beq_eq_false_iff_ne]; omega
            have p4 : (((i : Nat) : Int) == m'.x + 1) = true := by rw [beq_iff_eq]; omega
            clear hEi c3 c4
            refine wp_region_kept (by kernel_rfl) (by kernel_rfl) ?_
            repeat (first | go_big_quiet_step ((go_at_call 25; with_reducible exact kept_call _ (HCb.out _))) | simp only [p3] | simp only [p4])
            refine wpQuiet_nil ?_
            rintro W ⟨wx, rfl⟩
            have HSx := Lib.hid (HSb.out.later wx.below)
            clear k0 k1 k2 k3 k4 k5 k6 k7 HCb HSb HBb HBc HCv
            go_wp2_with fail
            go_roundw
            case rel => exact ⟨i + 1, by have := HBl2.out; omega, by simp, HSx.out⟩
            case measure => simp [intOf]; have := HBl2.out; omega
          · skip
            have g1 : ¬ ((fF : Nat) : Int) ≤ ((i : Nat) : Int) := by omega
            have p3 : (((i : Nat) : Int) == m'.x) = false := by rw [beq_eq_false_iff_ne]; omega
            have p4 : (((i : Nat) : Int) == m'.x + 1) = false := by rw [beq_eq_false_iff_ne]; omega
            have he := hEi (by omega) c3 c4
            clear hEi c3 c4
            refine wp_region_kept (by kernel_rfl) (by kernel_rfl) ?_
            repeat (first | go_big_quiet_step ((go_at_call 25; with_reducible exact kept_call _ (HCb.out _))) | simp only [p3] | simp only [p4])
            refine wpQuiet_nil ?_
            rintro W ⟨wx, rfl⟩
            have HSx := Lib.hid (HSb.out.later wx.below)
            have hv1 := HCv.out wx.at_ g (cb.N i) (HBb.out.out (X := fun _ => False) (Out.of_below wx.below) (fun h => h))
            have hv2 := HCv.out wx.at_ g' (cc.N i) (HBc.out.out (X := fun _ => False) (Out.of_below wx.below) (fun h => h))
            rw [he] at hv2
            generalize cb.N i = l at hv1 hv2
            have q1 : ((strOf l).toList != (strOf l).toList) = false := by simp
            have q0 : ((strOf l).toList == (strOf l).toList) = true := by simp
            clear he
            clear k0 k1 k2 k3 k4 k5 k6 k7 HCb HSb HBb HBc HCv
            go_wp2_with fail
            go_roundw
            case rel => exact ⟨i + 1, by have := HBl2.out; omega, by simp, HSx.out⟩
            case measure => simp [intOf]; have := HBl2.out; omega
    · go_wp2
      go_ret
      exact ⟨rfl, HS.out.below⟩
end Go.Proofs.YtlkgaefabahkoaaDoor
/-
  SegWhole: behind the Write: the crash, what is read, and what stood elsewhere.
-/
namespace Go.Proofs.YtlkgaefabahkoaaDoor
open Go.RowKit

/-- What is known of the Write that was begun. -/
structure WhF (w : World) (fF nb : Nat) (m' : Sm) (cb dw : Dm) (code : Int) (ls : List (List Nat)) (dt' : List Nat) : Prop where
  hT : ∀ W, Below w.heap.size w W → Tab W ∧ 0 < W.heap.size
  cd : code = 0 ∨ code = 102
  n1 : cb.n = 300
  n2 : dw.n = 300
  x : 0 ≤ m'.x ∧ m'.x ≤ 298 ∧ fF + nb + 2 ≤ 300
  el : ∀ keep torn sec, ∀ i : Nat, (i < fF ∨ fF + (nb + 2) ≤ i) → ((i : Nat) : Int) ≠ m'.x → ((i : Nat) : Int) ≠ m'.x + 1 → (crashD dw keep torn sec).N i = cb.N i
  ba : ∀ keep torn sec, readC (crashD dw keep torn sec) ((fF : Nat) : Int) = 0 → Back (crashD dw keep torn sec) fF m' ls
  st : code = 0 → ∀ keep torn sec, readC (crashD dw keep torn sec) ((fF : Nat) : Int) = 0
  ll : ls.length = nb ∧ ∀ i, i < nb → nthL ls i = rnd dt' i
  bl : blks m'.fs m'.is = nb + 2
theorem row_snoc {z : World} {base i : Nat} {v : Value} (l : List Bool) (hl : l.length = i) {b : Bool} (h : z.ownsRow base BT 1 v (i + 1) (l.map Value.bool ++ [.bool b])) : ∃ l2 : List Bool, l2.length = i + 1 ∧ z.ownsRow base BT 1 v (i + 1) (l2.map Value.bool) := ⟨l ++ [b], by simp [hl], by rw [List.map_append]; exact h⟩
set_option maxRecDepth 1000000 in
set_option maxHeartbeats 16000000 in
theorem whole_14 {w W : World} (fF nb g4 g5 : Nat) (ad' : Int) (m' : Sm) (fa' : Option Addr) (fn' fc' : Nat) (ia' : Option Addr) (inn' ic' : Nat) (da' : Option Addr) (dn' dc' : Nat) (dt' : List Nat) (z0 z1 z2 z3 : Int) {Lb L : Dl} {cb dw : Dm} {code : Int} {ls : List (List Nat)} (hS : WhS w g4 g5 (pieceA ((fF : Nat) : Int) m' fa' fn' fc' ia' inn' ic' da' dn' dc') #[.int .i64 z0, .int .i64 z1, .int .i64 z2, .int .i64 z3] Lb L cb dw W)
    (hP : PieceIn w ad' m' fa' fn' fc' ia' inn' ic' da' dn' dc' dt') (hF : WhF w fF nb m' cb dw code ls dt') (hQ : fn' ≤ 300000 ∧ inn' ≤ 300000 ∧ szF m'.fs ≤ 400 ∧ nb ≤ 120 ∧ ∀ x ∈ m'.fs, x.lb.length ≤ 300000)
    (hBk : ∀ W, Below w.heap.size w W → Calls Tryd.prog 23 #[part m'.e m'.c m'.i m'.p m'.x fa' fn' fc' ia' inn' ic', .slice da' dn' dc'] W (BlkO W nb dt'))
    (s0 s1 s2 s3 s6 s8 s9 s13 s14 s15 s16 s17 s18 s19 s20 s21 s22 s23 s24 s25 s26 s27 s28 s29 s30 s31 s32 s33 s34 s35 s36 s37 s38 s39 s40 s41 s42 s43 s44 s45 s46 s47 s48 s49 s50 s51 s52 s53 s54 s55 s56 s57 s58 s59 s60 s61 s62 s63 s64 s65 s66 s67 s68 s69 s70 s71 s72 s73 s74 s75 s76 s77 s78 s79 s80 s81 s82 s83 s84 s85 s86 s87 s88 s89 s90 s91 s92 s93 s94 s95 s96 s97 s98 s99 s100 s101 s102 s103 s104 s105 s106 s107 s108 s109 s110 s111 s112 s113 s114 s115 s116 s117 s118 s119 s120 s121 s122 s123 s124 s125 s126 s127 s128 s129 s130 s131 s132 s133 s134 s135 s136 s137 s138 s139 s140 s141 s142 s143 s144 s145 s146 s147 s148 s149 s150 s151 s152 s153 s154 s155 s156 s157 s158 s159 s160 s161 s162 s163 s164 s165 s166 s167 s168 s169 s170 s171 s172 s173 s174 s175 s176 s177 s178 s179 s180 s181 s182 s183 s184 s185 s186 s187 s188 s189 s190 s191 s192 s193 s194 s195 s196 s197 s198 s199 s200 s201 s202 s203 s204 s205 s206 s207 s208 s209 s210 s211 s212 s213 : Value) : (whTail 14).wp Tryd.prog (WhPost w) ⟨#[s0, s1, s2, s3, .pointer (some ⟨g4, 0, none⟩), .pointer (some ⟨g5, 0, none⟩), s6, .pointer (some ⟨L.bd, 0, none⟩), s8, s9, .pointer (some ⟨Lb.bd, 0, none⟩), .int .i64 code, .slice none 0 0, s13, s14, s15, s16, s17, s18, s19, s20, s21, s22, s23, s24, s25, s26, s27, s28, s29, s30, s31, s32, s33, s34, s35, s36, s37, s38, s39, s40, s41, s42, s43, s44, s45, s46, s47, s48, s49, s50, s51, s52, s53, s54, s55, s56, s57, s58, s59, s60, s61, s62, s63, s64, s65, s66, s67, s68, s69, s70, s71, s72, s73, s74, s75, s76, s77, s78, s79, s80, s81, s82, s83, s84, s85, s86, s87, s88, s89, s90, s91, s92, s93, s94, s95, s96, s97, s98, s99, s100, s101, s102, s103, s104, s105, s106, s107, s108, s109, s110, s111, s112, s113, s114, s115, s116, s117, s118, s119, s120, s121, s122, s123, s124, s125, s126, s127, s128, s129, s130, s131, s132, s133, s134, s135, s136, s137, s138, s139, s140, s141, s142, s143, s144, s145, s146, s147, s148, s149, s150, s151, s152, s153, s154, s155, s156, s157, s158, s159, s160, s161, s162, s163, s164, s165, s166, s167, s168, s169, s170, s171, s172, s173, s174, s175, s176, s177, s178, s179, s180, s181, s182, s183, s184, s185, s186, s187, s188, s189, s190, s191, s192, s193, s194, s195, s196, s197, s198, s199, s200, s201, s202, s203, s204, s205, s206, s207, s208, s209, s210, s211, s212, s213], []⟩ W := by
  have HS10 := Lib.hid hS
  have HP' := Lib.hid hP
  have HF := Lib.hid hF
  have HQ' := Lib.hid hQ
  have HBk' := Lib.hid hBk
  have HBl : Hid (∀ W, Below w.heap.size w W → Calls Tryd.prog 25 #[part m'.e m'.c m'.i m'.p m'.x fa' fn' fc' ia' inn' ic'] W fun en w' => en = .returned (.int .i64 ((nb + 2 : Nat) : Int)) ∧ Below W.heap.size W w') := fun W hb => by
    have h := sblocks_any (w := W) (l := m'.fs) m'.e m'.c m'.i m'.p m'.x fa' fn' fc' ia' inn' ic' (hP.part.fin.fis.later hb) hP.part.fin.leq (by have := hQ.2.2.1; omega) (by have := hQ.2.1; omega)
    have e : 2 + inn' + blF m'.fs = nb + 2 := by have := hF.bl; unfold blks at this; have := hP.part.ins.leq; omega
    rw [e] at h
    exact h
  have HZw : Hid (w.heap.size ≤ W.heap.size) := hS.wp.below.size
  have HNz : Hid (∀ keep torn sec, readC (crashD dw keep torn sec) ((fF : Nat) : Int) ≠ 0 → (code == 0) = false) := fun keep torn sec h => by
    rw [beq_eq_false_iff_ne]
    exact fun e => h (hF.st e keep torn sec)
  clear hS hP hF hQ hBk
  conv => arg 2; whnf
  obtain ⟨w10, hw10⟩ : ∃ w10 : World, w10 = W := ⟨_, rfl⟩
  rw [← hw10] at HS10 HZw ⊢
  clear hw10
  go_wp2_with fail
  go_loopw [12, 13] (fun v t wr => ∃ (i : Nat) (ka : Option Addr) (kc : Nat) (l : List Bool), i ≤ 130 ∧ t = .int .i64 ((i : Nat) : Int) ∧ v = .slice ka i kc ∧ l.length = i ∧ wr.ownsRow w10.heap.size BT 1 (.slice ka i kc) i (l.map Value.bool) ∧ WhS w g4 g5 (pieceA ((fF : Nat) : Int) m' fa' fn' fc' ia' inn' ic' da' dn' dc') #[.int .i64 z0, .int .i64 z1, .int .i64 z2, .int .i64 z3] Lb L cb dw wr ∧ w10.heap.size ≤ wr.heap.size) (fun _ t _ => 130 - (intOf t).toNat)
  case atStart => exact ⟨0, none, 0, [], by omega, rfl, rfl, rfl, ⟨by simp, .inl ⟨rfl, rfl⟩⟩, HS10.out, Nat.le_refl _⟩
  case round =>
    clear HS10
    obtain ⟨i, ka, kc, l, hi, rfl, rfl, hl, hO, hS, hsz⟩ := hrel
    have HO := Lib.hid hO
    have HS := Lib.hid hS
    have HLl := Lib.hid hl
    have HSz := Lib.hid hsz
    clear hO hS hl hsz
    have u1 := HS.out.wp.c5.cell 1
    have u2 := HS.out.wp.c5.cell 2
    simp at u1 u2
    by_cases hlt : i < 130
    · obtain ⟨q, hq⟩ : ∃ q : Nat, i % 60 = q := ⟨_, rfl⟩
      have em : (((i : Nat) : Int)) % 60 = ((q : Nat) : Int) := by omega
      have HSy : Hid (∀ b : Bool, w10.heap.size ≤ (wr.alloc (.cells #[.bool b] BT)).heap.size) := fun b => by
        have := HSz.out
        simp
        omega
      clear hq u2
      go_wp2_with (at_builtin; (refine wp_append_rowO rfl (.tmp 107) (.tmp 115) 63 rfl w10.heap.size BT (.bool false) 1 1 Tryd.underlying63 info_boolw (by kernel_rfl) (by decide) (by decide) (.slice ka i kc) i _ rfl (own_later HO.out (sup_pc _ _)) (some ⟨wr.heap.size, 0, none⟩) 1 1 _ rfl rfl (laid_srcO wr BT _ _ rfl) (by simp [Value.oneCell']) (fun h => by cases h) (by omega) (HSy.out _) ?_; intro a5 c5 z5 hr5 hg5 _; have HR5 := Lib.hid hr5; have HS5 := Lib.hid ((HS.out.later (sup_pc _ _)).row (own_later HO.out (sup_pc _ _)) HZw.out (Out.of_grown hg5 (fun g e => e))); have HZ5 := Lib.hid (Nat.le_trans (HSy.out _) hg5.size); clear hr5 hg5))
      have HL2 := Lib.hid (row_snoc l HLl.out HR5.out)
      clear HR5 HLl
      go_roundw
      case rel =>
        obtain ⟨l2, g1, g2⟩ := HL2.out
        exact ⟨i + 1, a5, c5, l2, by omega, by simp, rfl, g1, g2, HS5.out, HZ5.out⟩
      case measure => simp [intOf]; omega
    · obtain rfl : i = 130 := by omega
      go_wp2_with fail
      refine (crash_any HS.out.wp.dk ka l 130 kc HLl.out.symm (by decide) (bools_own HO.out) z2 z1).mono ?_
      rintro e wc ⟨Lc, rfl, hDc, hbc⟩
      have HE := Lib.hid (show WhE w g4 (pieceA ((fF : Nat) : Int) m' fa' fn' fc' ia' inn' ic' da' dn' dc') Lb Lc cb (crashD dw l z2 z1) wc from ⟨HS.out.wp.p4.later hbc, HS.out.bf.later hbc, hDc.deeper HS.out.wp.below.size, HS.out.wp.below.trans (hbc.mono HS.out.wp.below.size)⟩)
      have HEl := Lib.hid (HF.out.el l z2 z1)
      have HBa := Lib.hid (HF.out.ba l z2 z1)
      have HNz2 := Lib.hid (HNz.out l z2 z1)
      have HN2 : Hid ((crashD dw l z2 z1).n = 300) := (crash_n dw l z2 z1).trans HF.out.n2
      clear hDc hbc HS HO HLl HSz HNz u1 u2
      generalize crashD dw l z2 z1 = cc at *
      have hTc := HF.out.hT _ HE.out.below
      have v0 := HE.out.p4.cell 0
      simp at v0
      by_cases hr : readC cc ((fF : Nat) : Int) = 0
      · have HRd := Lib.hid (read_back (HBa.out hr) HE.out.dk hTc.1 hTc.2)
        clear hr hTc HBa HNz2
        go_wp2_with fail
        clear v0
        refine HRd.out.mono ?_
        rintro e w7 ⟨fb, fd, ib, id_, bb, bd_, G7, he, hP7, hR7, hb7⟩
        rw [HF.out.ll.1] at he hR7
        obtain rfl : e = .returned (.tuple #[.agg (fdc ((fF : Nat) : Int) m' fb fd ib id_ bb nb bd_), .int .i64 0]) := he
        (try clear he)
        go_upto_region 23 with (fail)
        have hb8 := sup_pc w7 (.cells (fdc ((fF : Nat) : Int) m' fb fd ib id_ bb nb bd_) 38)
        have HE8 := Lib.hid (HE.out.later (hb7.trans (hb8.mono hb7.size)))
        have HP8 := Lib.hid (hP7.later hb8)
        have HR8 := Lib.hid (hR7.later hb8)
        have HF8 := Lib.hid (blo_laid w7 38 (fdc ((fF : Nat) : Int) m' fb fd ib id_ bb nb bd_))
        clear hb7 hb8 hP7 hR7 HRd HE
        generalize w7.alloc (.cells (fdc ((fF : Nat) : Int) m' fb fd ib id_ bb nb bd_) 38) = w8 at *
        generalize w7.heap.size = g7 at *
        have HK : Hid (∀ W, Below w8.heap.size w8 W → (W.cell? ⟨g7, 0, none⟩ = some (.int .i64 ((fF : Nat) : Int)) ∧ W.cell? ⟨g7, 1, none⟩ = some (.int .i64 m'.e) ∧ W.cell? ⟨g7, 2, none⟩ = some (.int .i64 m'.c) ∧ W.cell? ⟨g7, 3, none⟩ = some (.int .i64 m'.i) ∧ W.cell? ⟨g7, 4, none⟩ = some (.int .i64 m'.p) ∧ W.cell? ⟨g7, 5, none⟩ = some (.int .i64 m'.x) ∧ W.cell? ⟨g7, 6, none⟩ = some (.slice fb m'.fs.length fd) ∧ W.cell? ⟨g7, 7, none⟩ = some (.slice ib m'.is.length id_) ∧ W.cell? ⟨g7, 8, none⟩ = some (.slice bb nb bd_) ∧ W.cell? ⟨g4, 0, none⟩ = some (.int .i64 ((fF : Nat) : Int)) ∧ W.cell? ⟨g4, 1, none⟩ = some (.int .i64 m'.e) ∧ W.cell? ⟨g4, 2, none⟩ = some (.int .i64 m'.c) ∧ W.cell? ⟨g4, 3, none⟩ = some (.int .i64 m'.i) ∧ W.cell? ⟨g4, 4, none⟩ = some (.int .i64 m'.p) ∧ W.cell? ⟨g4, 5, none⟩ = some (.int .i64 m'.x) ∧ W.cell? ⟨g4, 6, none⟩ = some (.slice fa' fn' fc') ∧ W.cell? ⟨g4, 7, none⟩ = some (.slice ia' inn' ic') ∧ W.cell? ⟨g4, 8, none⟩ = some (.slice da' dn' dc'))) := fun W hb => by
          have hF := HF8.out.later hb
          have hX := HE8.out.p4.later hb
          exact ⟨hF.cell 0, hF.cell 1, hF.cell 2, hF.cell 3, hF.cell 4, hF.cell 5, hF.cell 6, hF.cell 7, hF.cell 8, hX.cell 0, hX.cell 1, hX.cell 2, hX.cell 3, hX.cell 4, hX.cell 5, hX.cell 6, hX.cell 7, hX.cell 8⟩
        have HRf : Hid (∀ W, Below w8.heap.size w8 W → Calls Tryd.prog 15 #[.agg (fdc ((fF : Nat) : Int) m' fb fd ib id_ bb nb bd_)] W (RefO W ((fF : Nat) : Int) m' fb fd ib id_ nb (nthL ls))) := fun W hb => ref_any ((fF : Nat) : Int) m' fb fd ib id_ (HR8.out.later hb) (by have := HQ'.out.2.2.2.1; omega)
        have HBk8 : Hid (∀ W, Below w8.heap.size w8 W → Calls Tryd.prog 23 #[part m'.e m'.c m'.i m'.p m'.x fa' fn' fc' ia' inn' ic', .slice da' dn' dc'] W (BlkO W nb dt')) := fun W hb => HBk'.out W (HE8.out.below.trans (hb.mono HE8.out.below.size))
        have HN9 : Hid (nb ≤ 100000) := Nat.le_trans HQ'.out.2.2.2.1 (by decide)
        have HSa : Hid (∀ W ta tc tb td, Below w8.heap.size w8 W → Rds W ta (cellsS (nthL ls) nb) → Rds W tb (cellsS (rnd dt') nb) → Calls Tryd.prog 14 #[.agg (fdr ((fF : Nat) : Int) m' fb fd ib id_ (.slice ta nb tc)), .agg #[.int .i64 ((fF : Nat) : Int), .int .i64 m'.e, .int .i64 m'.c, .int .i64 m'.i, .int .i64 m'.p, .int .i64 m'.x, .slice fa' fn' fc', .slice ia' inn' ic', .slice tb nb td]] W fun e w' => e = .returned (.bool true) ∧ Below W.heap.size W w') := fun W ta tc tb td hb h1 h2 => by
          have hbw := HE8.out.below.trans (hb.mono HE8.out.below.size)
          have e1 : cellsS (nthL ls) nb = cellsS (rnd dt') nb := cellsS_congr nb HF.out.ll.2
          rw [e1] at h1
          have hl1 := HP'.out.part.fin.leq
          have hl2 := HP'.out.part.ins.leq
          have := same15_yes (w := W) (n := nb) ((fF : Nat) : Int) m' fb fd ib id_ fa' fc' ia' ic' ta tc tb td (rnd dt') (HP8.out.fis.later hb) (HP'.out.part.fin.fis.later hbw) (by have := HQ'.out.1; omega) (fun x hx => by have := HQ'.out.2.2.2.2 x hx; omega) (HP8.out.ints.below hb) (HP'.out.part.ins.ints.below hbw) (by have := HQ'.out.2.1; omega) h1 h2 (by have := HQ'.out.2.2.2.1; omega)
          rw [hl1, hl2]
          exact this
        first
          | (go_region_held (fun W => W.cell? ⟨g7, 0, none⟩ = some (.int .i64 ((fF : Nat) : Int)) ∧ W.cell? ⟨g7, 1, none⟩ = some (.int .i64 m'.e) ∧ W.cell? ⟨g7, 2, none⟩ = some (.int .i64 m'.c) ∧ W.cell? ⟨g7, 3, none⟩ = some (.int .i64 m'.i) ∧ W.cell? ⟨g7, 4, none⟩ = some (.int .i64 m'.p) ∧ W.cell? ⟨g7, 5, none⟩ = some (.int .i64 m'.x) ∧ W.cell? ⟨g7, 6, none⟩ = some (.slice fb m'.fs.length fd) ∧ W.cell? ⟨g7, 7, none⟩ = some (.slice ib m'.is.length id_) ∧ W.cell? ⟨g7, 8, none⟩ = some (.slice bb nb bd_) ∧ W.cell? ⟨g4, 0, none⟩ = some (.int .i64 ((fF : Nat) : Int)) ∧ W.cell? ⟨g4, 1, none⟩ = some (.int .i64 m'.e) ∧ W.cell? ⟨g4, 2, none⟩ = some (.int .i64 m'.c) ∧ W.cell? ⟨g4, 3, none⟩ = some (.int .i64 m'.i) ∧ W.cell? ⟨g4, 4, none⟩ = some (.int .i64 m'.p) ∧ W.cell? ⟨g4, 5, none⟩ = some (.int .i64 m'.x) ∧ W.cell? ⟨g4, 6, none⟩ = some (.slice fa' fn' fc') ∧ W.cell? ⟨g4, 7, none⟩ = some (.slice ia' inn' ic') ∧ W.cell? ⟨g4, 8, none⟩ = some (.slice da' dn' dc'))
          (first | exact HK.out _ ((Below.refl _ _).drew) | exact HK.out _ HBz.out | exact HK.out _ HBy2.out | exact HK.out _ HBx.out | exact HK.out _ HBw.out | fail)
          (first
            | (go_at_call 15; (with_reducible refine (HRf.out _ ((Below.refl _ _).drew)).mono ?_); rintro e wa ⟨ta, tc, rfl, hTa, hba⟩; have HTa := Lib.hid hTa; have HBw := Lib.hid (show Below w8.heap.size w8 wa from ((Below.refl w8.heap.size w8).drew).trans (hba.mono (Nat.le_refl _))); clear hTa hba)
            | (go_at_call 23; (with_reducible refine (HBk8.out _ HBw.out).mono ?_); rintro e wb ⟨ba9, bc9, G9, rfl, hR9, hb9⟩; have HR9 := Lib.hid hR9; have HTb := Lib.hid (HTa.out.later hb9); have HBx := Lib.hid (HBw.out.trans (hb9.mono HBw.out.size)); clear hR9 hb9)
            | (go_at_call 19; (with_reducible refine (rtexts_any HR9.out HN9.out).mono ?_); rintro e wc ⟨tb, td, rfl, hTc, hbc⟩; have HTc := Lib.hid hTc; have HTd := Lib.hid (HTb.out.later hbc); have HBy2 := Lib.hid (HBx.out.trans (hbc.mono HBx.out.size)); clear hTc hbc)
            | (go_at_call 14; (with_reducible refine (HSa.out _ _ _ _ _ HBy2.out HTd.out HTc.out).mono ?_); rintro e wd ⟨rfl, hbd⟩; have HBz := Lib.hid (HBy2.out.trans (hbd.mono HBy2.out.size)); clear hbd)
            | fail))
          | fail
        rename_i hHeld
        have HEz := Lib.hid (HE8.out.later HBz.out)
        clear hHeld HK HRf HBk8 HSa HTa HBw HR9 HTb HBx HTc HTd HBy2 HBz HE8 HF8 HR8 HP8
        rename_i K2 h2 K1 h1
        refine h1 _ _ (wp_cond_false rfl (wp_skip ?_))
        exact h2 _ _ (whole_23 fF nb g4 m' fa' fn' fc' ia' inn' ic' da' dn' dc' HEz.out HF.out.n1 HN2.out HF.out.x HEl.out HBl.out _ _ _ _ _ _ _ _ _ _ _ _ _ _ _ _ _ _ _ _ _ _ _ _ _ _ _ _ _ _ _ _ _ _ _ _ _ _ _ _ _ _ _ _ _ _ _ _ _ _ _ _ _ _ _ _ _ _ _ _ _ _ _ _ _ _ _ _ _ _ _ _ _ _ _ _ _ _ _ _ _ _ _ _ _ _ _ _ _ _ _ _ _ _ _ _ _ _ _ _ _ _ _ _ _ _ _ _ _ _ _ _ _ _ _ _ _ _ _ _ _ _ _ _ _ _ _ _ _ _ _ _ _ _ _ _ _ _ _ _ _ _ _ _ _ _ _ _ _ _ _ _ _ _ _ _ _ _ _ _ _ _ _ _ _ _ _ _ _ _ _ _ _ _ _ _ _ _ _ _ _ _ _ _ _ _ _ _ _ _ _ _ _ _ _ _ _ _ _ _ _ _ _ _ _ _ _ _ _ _)
      · have HRd := Lib.hid (segRead_any (w := wc) ((fF : Nat) : Int) HE.out.dk hTc.1 hTc.2)
        have hcz := HNz2.out hr
        have hr1 : (readC cc ((fF : Nat) : Int) != 0) = true := by simpa using hr
        have hr2 : (readC cc ((fF : Nat) : Int) == 0) = false := by simpa using hr
        clear hTc HBa HNz2
        go_wp2_with fail
        clear v0
        refine HRd.out.mono ?_
        rintro e wz ⟨hbz, hne, -⟩
        have he := hne hr
        subst he
        generalize readC cc ((fF : Nat) : Int) = rc at *
        have HEz := Lib.hid (HE.out.later hbz)
        clear hbz hne HRd HE hr
        go_upto_region 23 with (fail)
        refine wp_region_kept (by kernel_rfl) (by kernel_rfl) ?_
        repeat (first | go_big_quiet_step (fail) | simp only [hr1, hr2, hcz])
        refine wpQuiet_nil ?_
        rintro W2 ⟨wx, rfl⟩
        have HEy := Lib.hid ((HEz.out.later (sup_pc wz _)).later wx.below)
        rename_i K2 h2 K1 h1
        refine h1 _ _ (wp_cond_false rfl (wp_skip ?_))
        exact h2 _ _ (whole_23 fF nb g4 m' fa' fn' fc' ia' inn' ic' da' dn' dc' HEy.out HF.out.n1 HN2.out HF.out.x HEl.out HBl.out _ _ _ _ _ _ _ _ _ _ _ _ _ _ _ _ _ _ _ _ _ _ _ _ _ _ _ _ _ _ _ _ _ _ _ _ _ _ _ _ _ _ _ _ _ _ _ _ _ _ _ _ _ _ _ _ _ _ _ _ _ _ _ _ _ _ _ _ _ _ _ _ _ _ _ _ _ _ _ _ _ _ _ _ _ _ _ _ _ _ _ _ _ _ _ _ _ _ _ _ _ _ _ _ _ _ _ _ _ _ _ _ _ _ _ _ _ _ _ _ _ _ _ _ _ _ _ _ _ _ _ _ _ _ _ _ _ _ _ _ _ _ _ _ _ _ _ _ _ _ _ _ _ _ _ _ _ _ _ _ _ _ _ _ _ _ _ _ _ _ _ _ _ _ _ _ _ _ _ _ _ _ _ _ _ _ _ _ _ _ _ _ _ _ _ _ _ _ _ _ _ _ _ _ _ _ _ _ _ _)
end Go.Proofs.YtlkgaefabahkoaaDoor
/-
  An array of two integers that came in by value.
-/
namespace Go.Proofs.YtlkgaefabahkoaaDoor
open Go.RowKit
section
open Go.ChangeShapes Go.WideShapes Go.ChangeAt
/-- An array of two integers that came in by value. -/
theorem open_pair {H : Type} {enc : TypeId × Value → H} {P : Program} {w : World} {base : Nat} {spare : Nat → Bool} {held : Bool} {r : Reach} {b0 : Nat} {t e : TypeId} {v : Value} {d : DataW H} {p : List MemPlace}
    (hs : P.underlying t = some (.array 2 e)) (he : P.underlying e = some (.int .i64)) (hc : P.cellsOf e = 1) (hC : P.cellsOf t = 2) (hv : Value.okWide P w r b0 t v) (h : DataW.Trod enc P w base spare held t v d p) :
    ∃ x y : Int, v = .agg #[.int .i64 x, .int .i64 y] ∧ (Lit.int .i64 x).wf = true ∧ (Lit.int .i64 y).wf = true := by
  simp only [Value.okWide, hs] at hv
  obtain ⟨cs, rfl, hsz, _⟩ := hv
  obtain ⟨c0, c1, rfl⟩ := Go.Joins.array2 (hsz.trans hC)
  obtain ⟨fuel, hf⟩ := h
  obtain ⟨xs, m, rfl, hx1, hlen, hn, hel⟩ := DataW.trod_array hs hf
  have h0 := hel 0 (by decide)
  have h1 := hel 1 (by decide)
  rw [hc] at h0 h1
  rw [List.getElem?_eq_getElem (by omega)] at h0 h1
  obtain ⟨x, e1, _, wx⟩ := DataW.trod_int he h0
  obtain ⟨y, e2, _, wy⟩ := DataW.trod_int he h1
  simp [Value.cells] at e1 e2
  exact ⟨x, y, by rw [e1, e2], wx, wy⟩
end
end Go.Proofs.YtlkgaefabahkoaaDoor
/-
  Arrays of two or four integers that came in by value.
-/
namespace Go.Proofs.YtlkgaefabahkoaaDoor
open Go.RowKit
section
open Go.ChangeShapes Go.WideShapes Go.ChangeAt
theorem array4 {cs : Array Value} (h : cs.size = 4) : ∃ a b c d, cs = #[a, b, c, d] := by
  obtain ⟨l⟩ := cs
  match l, h with
  | [a, b, c, d], _ => exact ⟨a, b, c, d, rfl⟩
theorem open_quad {H : Type} {enc : TypeId × Value → H} {P : Program} {w : World} {base : Nat} {spare : Nat → Bool} {held : Bool} {r : Reach} {b0 : Nat} {t e : TypeId} {v : Value} {d : DataW H} {p : List MemPlace}
    (hs : P.underlying t = some (.array 4 e)) (he : P.underlying e = some (.int .i64)) (hc : P.cellsOf e = 1) (hC : P.cellsOf t = 4) (hv : Value.okWide P w r b0 t v) (h : DataW.Trod enc P w base spare held t v d p) :
    ∃ x y z u : Int, v = .agg #[.int .i64 x, .int .i64 y, .int .i64 z, .int .i64 u] ∧ (Lit.int .i64 x).wf = true ∧ (Lit.int .i64 y).wf = true ∧ (Lit.int .i64 z).wf = true ∧ (Lit.int .i64 u).wf = true := by
  simp only [Value.okWide, hs] at hv
  obtain ⟨cs, rfl, hsz, _⟩ := hv
  obtain ⟨c0, c1, c2, c3, rfl⟩ := array4 (hsz.trans hC)
  obtain ⟨fuel, hf⟩ := h
  obtain ⟨xs, m, rfl, hx1, hlen, hn, hel⟩ := DataW.trod_array hs hf
  have h0 := hel 0 (by decide)
  have h1 := hel 1 (by decide)
  have h2 := hel 2 (by decide)
  have h3 := hel 3 (by decide)
  rw [hc] at h0 h1 h2 h3
  rw [List.getElem?_eq_getElem (by omega)] at h0 h1 h2 h3
  obtain ⟨x, e1, _, wx⟩ := DataW.trod_int he h0
  obtain ⟨y, e2, _, wy⟩ := DataW.trod_int he h1
  obtain ⟨z, e3, _, wz⟩ := DataW.trod_int he h2
  obtain ⟨u, e4, _, wu⟩ := DataW.trod_int he h3
  simp [Value.cells] at e1 e2 e3 e4
  exact ⟨x, y, z, u, by rw [e1, e2, e3, e4], wx, wy, wz, wu⟩
set_option maxRecDepth 100000 in
theorem open_two {H : Type} {enc : TypeId × Value → H} {w : World} {base : Nat} {r : Reach} {b0 : Nat} {v : Value} {d : DataW H} {p : List MemPlace}
    (hv : Value.okWide Tryd.prog w r b0 68 v) (h : DataW.Trod enc Tryd.prog w base (fun _ => true) true 68 v d p) :
    ∃ x y : Int, v = .agg #[.int .i64 x, .int .i64 y] ∧ (Lit.int .i64 x).wf = true ∧ (Lit.int .i64 y).wf = true :=
  open_pair Tryd.underlying68 Tryd.underlying3 (by kernel_rfl) (by kernel_rfl) hv h
set_option maxRecDepth 100000 in
theorem open_four {H : Type} {enc : TypeId × Value → H} {w : World} {base : Nat} {r : Reach} {b0 : Nat} {v : Value} {d : DataW H} {p : List MemPlace}
    (hv : Value.okWide Tryd.prog w r b0 57 v) (h : DataW.Trod enc Tryd.prog w base (fun _ => true) true 57 v d p) :
    ∃ x y z u : Int, v = .agg #[.int .i64 x, .int .i64 y, .int .i64 z, .int .i64 u] ∧ (Lit.int .i64 x).wf = true ∧ (Lit.int .i64 y).wf = true ∧ (Lit.int .i64 z).wf = true ∧ (Lit.int .i64 u).wf = true :=
  open_quad Tryd.underlying57 Tryd.underlying3 (by kernel_rfl) (by kernel_rfl) hv h
end
end Go.Proofs.YtlkgaefabahkoaaDoor
/-
  The walk of SegWhole.
-/
namespace Go.Proofs.YtlkgaefabahkoaaDoor
open Go.RowKit

section
variable {w : World}
set_option maxRecDepth 100000 in
set_option maxHeartbeats 8000000 in
theorem segWhole_walk (ad : Int) (m : Sm) (fa : Option Addr) (fn fc : Nat) (ia : Option Addr) (inn ic : Nat) (da : Option Addr) (dn dc : Nat) (dt : List Nat)
    (ad' : Int) (m' : Sm) (fa' : Option Addr) (fn' fc' : Nat) (ia' : Option Addr) (inn' ic' : Nat) (da' : Option Addr) (dn' dc' : Nat) (dt' : List Nat) (z0 z1 z2 z3 : Int) (w : World)
    (hL : Tab w ∧ 0 < w.heap.size) (hP : PieceIn w ad m fa fn fc ia inn ic da dn dc dt) (hP' : PieceIn w ad' m' fa' fn' fc' ia' inn' ic' da' dn' dc' dt') (_ : (Lit.int .i64 z0).wf = true ∧ (Lit.int .i64 z1).wf = true ∧ (Lit.int .i64 z2).wf = true ∧ (Lit.int .i64 z3).wf = true) :
    Calls Tryd.prog 4 #[.agg (pieceA ad m fa fn fc ia inn ic da dn dc), .agg (pieceA ad' m' fa' fn' fc' ia' inn' ic' da' dn' dc'), .agg #[.int .i64 z0, .int .i64 z1, .int .i64 z2, .int .i64 z3]] w fun e w' => e = .returned (.bool true) ∧ Below w.heap.size w w' := by
  have HT := Lib.hid (show ∀ W, Below w.heap.size w W → Tab W ∧ 0 < W.heap.size from fun W hb => ⟨hL.1.below hb hL.2, by have := hb.size; have := hL.2; omega⟩)
  have HP := Lib.hid hP
  have HP' := Lib.hid hP'
  have hfn := hP.part.fin.leq
  have hin := hP.part.ins.leq
  have hfn' := hP'.part.fin.leq
  have hin' := hP'.part.ins.leq
  obtain ⟨F, hF30, eF⟩ := cut_mod z3 29 (by decide)
  obtain ⟨k0, hk130, ek⟩ := cut_mod z0 129 (by decide)
  simp at eF ek
  have HAw := Lib.hid (fun (W : World) (hb : Below w.heap.size w W) => awake_any W (HT.out W hb).1 (HT.out W hb).2)
  have HFw := Lib.hid (fun (W : World) (hb : Below w.heap.size w W) => few15_any (w := W) ad m.e m.c m.i m.p m.x m.fs m.is fa fn fc ia inn ic da dn dc (hP.part.fin.fis.later hb) hfn hin hP.part.fin.lenm hP.part.ins.lenm hP.le hP.part.fin.lb)
  have HFw' := Lib.hid (fun (W : World) (hb : Below w.heap.size w W) => few15_any (w := W) ad' m'.e m'.c m'.i m'.p m'.x m'.fs m'.is fa' fn' fc' ia' inn' ic' da' dn' dc' (hP'.part.fin.fis.later hb) hfn' hin' hP'.part.fin.lenm hP'.part.ins.lenm hP'.le hP'.part.fin.lb)
  obtain ⟨fF, hfF⟩ : ∃ n, 130 + F = n := ⟨_, rfl⟩
  have eF2 : (130 : Int) + (F : Int) = ((fF : Nat) : Int) := by omega
  have HfF : Hid (130 ≤ fF ∧ fF ≤ 159) := by show _ ∧ _; omega
  obtain ⟨K, hK⟩ : ∃ K : Nat → Pz, K = fun _ => ⟨3, m, fa, fn, fc, ia, inn, ic, da, dn, dc, dt⟩ := ⟨_, rfl⟩
  have HWn : Hid (∀ (W : World) (g : Nat), Below w.heap.size w W → Blo W g PZT (pieceA 3 m fa fn fc ia inn ic da dn dc) → Calls Tryd.prog 10 #[.int .i64 300, .slice (some ⟨g, 0, none⟩) 1 1] W (WrtO 300 K 1 W)) := fun W g hb hX => by
    have hp : Pzs W (some ⟨g, 0, none⟩) 1 K := by
      subst hK
      have h := HP.out.later hb
      exact pzs_one (p := ⟨3, m, fa, fn, fc, ia, inn, ic, da, dn, dc, dt⟩) hX ⟨h.part, h.data, h.len, h.nil, h.le, h.cap, (show (-9223372036854775808 : Int) ≤ 3 ∧ (3 : Int) ≤ 9223372036854775807 by decide)⟩
    exact written_any 300 (by decide) (by decide) _ 1 1 K W (by decide) (HT.out W hb) hp
  have HD1 : Hid (Sur (wtD 300 K 1) ∧ (wtD 300 K 1).armed = false ∧ (wtD 300 K 1).left = 0) := sur_wt 300 K 1
  have HRm1 : Hid (Rm (wtD 300 K 1) 3800) := wtD_rm 300 K 1 (by decide)
  have HN1 : Hid ((wtD 300 K 1).n = 300) := wtD_n 300 K 1
  unfold WrtO at HWn
  rw [show min 1 12 = 1 by rfl] at HWn
  generalize wtD 300 K 1 = d1 at *
  have HFn := Lib.hid hfn
  have HIn := Lib.hid hin
  have HFn' := Lib.hid hfn'
  have HIn' := Lib.hid hin'
  have HB0 : Hid (Below w.heap.size w (((w.alloc (.cells (pieceA ad m fa fn fc ia inn ic da dn dc) PZT)).alloc (.cells (pieceA ad' m' fa' fn' fc' ia' inn' ic' da' dn' dc') PZT)).alloc (.cells #[.int .i64 z0, .int .i64 z1, .int .i64 z2, .int .i64 z3] A4T))) := (((Below.refl _ _).alloc (Nat.le_refl _) _).alloc (by simp) _).alloc (by simp; omega) _
  have HX3 : Hid (Blo (((w.alloc (.cells (pieceA ad m fa fn fc ia inn ic da dn dc) PZT)).alloc (.cells (pieceA ad' m' fa' fn' fc' ia' inn' ic' da' dn' dc') PZT)).alloc (.cells #[.int .i64 z0, .int .i64 z1, .int .i64 z2, .int .i64 z3] A4T)) w.heap.size PZT (pieceA ad m fa fn fc ia inn ic da dn dc)) := ((blo_laid w PZT (pieceA ad m fa fn fc ia inn ic da dn dc)).later (sup_pc _ _)).later (sup_pc _ _)
  have HX4 : Hid (Blo (((w.alloc (.cells (pieceA ad m fa fn fc ia inn ic da dn dc) PZT)).alloc (.cells (pieceA ad' m' fa' fn' fc' ia' inn' ic' da' dn' dc') PZT)).alloc (.cells #[.int .i64 z0, .int .i64 z1, .int .i64 z2, .int .i64 z3] A4T)) (w.heap.size + 1) PZT (pieceA ad' m' fa' fn' fc' ia' inn' ic' da' dn' dc')) := by
    have h := (blo_laid (w.alloc (.cells (pieceA ad m fa fn fc ia inn ic da dn dc) PZT)) PZT (pieceA ad' m' fa' fn' fc' ia' inn' ic' da' dn' dc')).later (sup_pc _ (.cells #[.int .i64 z0, .int .i64 z1, .int .i64 z2, .int .i64 z3] A4T))
    rw [show (w.alloc (.cells (pieceA ad m fa fn fc ia inn ic da dn dc) PZT)).heap.size = w.heap.size + 1 by simp] at h
    exact h
  have HX5 : Hid (Blo (((w.alloc (.cells (pieceA ad m fa fn fc ia inn ic da dn dc) PZT)).alloc (.cells (pieceA ad' m' fa' fn' fc' ia' inn' ic' da' dn' dc') PZT)).alloc (.cells #[.int .i64 z0, .int .i64 z1, .int .i64 z2, .int .i64 z3] A4T)) (w.heap.size + 1 + 1) A4T #[.int .i64 z0, .int .i64 z1, .int .i64 z2, .int .i64 z3]) := by
    have h := blo_laid ((w.alloc (.cells (pieceA ad m fa fn fc ia inn ic da dn dc) PZT)).alloc (.cells (pieceA ad' m' fa' fn' fc' ia' inn' ic' da' dn' dc') PZT)) A4T #[.int .i64 z0, .int .i64 z1, .int .i64 z2, .int .i64 z3]
    rw [show ((w.alloc (.cells (pieceA ad m fa fn fc ia inn ic da dn dc) PZT)).alloc (.cells (pieceA ad' m' fa' fn' fc' ia' inn' ic' da' dn' dc') PZT)).heap.size = w.heap.size + 1 + 1 by simp] at h
    exact h
  clear hL hP hP' hfn hin hfn' hin' hK hfF hF30
  go_enter Tryd.func4, Tryd.ntmps4
  go_upto_region 1 with (fail)
  generalize (((w.alloc (.cells (pieceA ad m fa fn fc ia inn ic da dn dc) PZT)).alloc (.cells (pieceA ad' m' fa' fn' fc' ia' inn' ic' da' dn' dc') PZT)).alloc (.cells #[.int .i64 z0, .int .i64 z1, .int .i64 z2, .int .i64 z3] A4T)) = w0 at *
  have HG4 : Hid (w.heap.size < w.heap.size + 1) := Nat.lt_succ_self _
  have HG5 : Hid (w.heap.size < w.heap.size + 1 + 1) := by show _ < _; omega
  have HG45 : Hid (w.heap.size + 1 < w.heap.size + 1 + 1) := by show _ < _; omega
  generalize w.heap.size + 1 + 1 = g5 at *
  generalize w.heap.size + 1 = g4 at *
  go_wp2_with fail
  refine (HAw.out _ HB0.out).mono ?_
  rintro e w1 ⟨rfl, hb1⟩
  have HB1 := Lib.hid (HB0.out.trans (hb1.mono HB0.out.size))
  have HX3b := Lib.hid (HX3.out.later hb1)
  have HX4b := Lib.hid (HX4.out.later hb1)
  have HX5b := Lib.hid (HX5.out.later hb1)
  have c0 := HX3b.out.cell 0
  have c1 := HX3b.out.cell 1
  have c2 := HX3b.out.cell 2
  have c3 := HX3b.out.cell 3
  have c4 := HX3b.out.cell 4
  have c5 := HX3b.out.cell 5
  have c6 := HX3b.out.cell 6
  have c7 := HX3b.out.cell 7
  have c8 := HX3b.out.cell 8
  simp at c0 c1 c2 c3 c4 c5 c6 c7 c8
  clear hb1 HX3 HX4 HX5 HB0
  cases hfew : few15 m.fs m.is dn with
  | false =>
    rw [hfew] at HFw
    clear hfew
    go_wp2_with fail
    refine (HFw.out _ HB1.out).mono ?_
    rintro e w2 ⟨rfl, hb2⟩
    have HB2 := Lib.hid (HB1.out.trans (hb2.mono HB1.out.size))
    clear hb2 HB1 HX3b HX4b HX5b c0 c1 c2 c3 c4 c5 c6 c7 c8 HFw HFw'
    go_wp2_with fail
    refine (HAw.out _ HB2.out).mono ?_
    rintro e w3 ⟨rfl, hb3⟩
    have HB3 := Lib.hid (HB2.out.trans (hb3.mono HB2.out.size))
    clear hb3 HB2 HAw HT HP HP'
    go_wp2
    go_ret
    exact ⟨rfl, HB3.out⟩
  | true =>
  rw [hfew] at HFw
  clear hfew
  go_wp2_with fail
  refine (HFw.out _ HB1.out).mono ?_
  rintro e w2 ⟨rfl, hb2⟩
  have HB2 := Lib.hid (HB1.out.trans (hb2.mono HB1.out.size))
  have HX3 := Lib.hid (HX3b.out.later hb2)
  have HX4 := Lib.hid (HX4b.out.later hb2)
  have HX5 := Lib.hid (HX5b.out.later hb2)
  clear c0 c1 c2 c3 c4 c5 c6 c7 c8
  have c0 := HX4.out.cell 0
  have c1 := HX4.out.cell 1
  have c2 := HX4.out.cell 2
  have c3 := HX4.out.cell 3
  have c4 := HX4.out.cell 4
  have c5 := HX4.out.cell 5
  have c6 := HX4.out.cell 6
  have c7 := HX4.out.cell 7
  have c8 := HX4.out.cell 8
  simp at c0 c1 c2 c3 c4 c5 c6 c7 c8
  clear hb2 HX3b HX4b HX5b HB1 HFw
  cases hfew' : few15 m'.fs m'.is dn' with
  | false =>
    rw [hfew'] at HFw'
    clear hfew'
    go_wp2_with fail
    refine (HFw'.out _ HB2.out).mono ?_
    rintro e w3 ⟨rfl, hb3⟩
    have HB3 := Lib.hid (HB2.out.trans (hb3.mono HB2.out.size))
    clear hb3 HB2 HX3 HX4 HX5 c0 c1 c2 c3 c4 c5 c6 c7 c8 HFw'
    go_wp2_with fail
    refine (HAw.out _ HB3.out).mono ?_
    rintro e w4 ⟨rfl, hb4⟩
    have HB4 := Lib.hid (HB3.out.trans (hb4.mono HB3.out.size))
    clear hb4 HB3 HAw HT HP HP'
    go_wp2
    go_ret
    exact ⟨rfl, HB4.out⟩
  | true =>
  rw [hfew'] at HFw'
  have hq' := few15_yes hfew'
  have hsz' := few15_szF hfew'
  have hnb' := rdN_blks m'
  have hn120' : rdN m' ≤ 120 := by unfold rdN; omega
  have HLb' := Lib.hid (show ∀ x ∈ m'.fs, ∀ n ∈ x.lb, -9223372036854775808 ≤ n from fun x hx n hn => (Go.bounds_i64 ((HP'.out.part.fin.wf x hx).2.2 n hn)).1)
  have HQ' := Lib.hid (show fn' ≤ 300000 ∧ inn' ≤ 300000 ∧ szF m'.fs ≤ 400 ∧ rdN m' ≤ 120 ∧ ∀ x ∈ m'.fs, x.lb.length ≤ 300000 from ⟨by have := HFn'.out; omega, by have := HIn'.out; omega, hsz', hn120', fun x hx => by have := lb_blF m'.fs x hx; omega⟩)
  have HBk' := Lib.hid (fun (W : World) (hb : Below w.heap.size w W) => blocks_any (w := W) (n := rdN m') m'.e m'.c m'.i m'.p m'.x m'.fs m'.is fa' fn' fc' ia' inn' ic' (HP'.out.part.fin.fis.later hb) HFn'.out HIn'.out hnb' (by have := HIn'.out; omega) da' dn' dc' dt' (HP'.out.data.below hb) HP'.out.len (by omega) HP'.out.nil (by omega))
  have HBy' : Hid (∀ l ∈ lsF (rnd dt') (rdN m'), ∀ x ∈ l, x < 256) := rnd_byte HP'.out.data.1 _ (by omega)
  have HNb' : Hid (blks m'.fs m'.is = rdN m' + 2) := hnb'
  clear hfew' hq' hsz' hnb' hn120'
  generalize rdN m' = nb at *
  go_wp2_with fail
  refine (HFw'.out _ HB2.out).mono ?_
  rintro e w3 ⟨rfl, hb3⟩
  have HB3 := Lib.hid (HB2.out.trans (hb3.mono HB2.out.size))
  have HX3b := Lib.hid (HX3.out.later hb3)
  have HX4b := Lib.hid (HX4.out.later hb3)
  have HX5b := Lib.hid (HX5.out.later hb3)
  clear c0 c1 c2 c3 c4 c5 c6 c7 c8 hb3 HX3 HX4 HX5 HB2 HFw' HAw
  have u0 := HX3b.out.cell 0
  have f3 := HX3b.out.frozen 0
  have HX3 := Lib.hid (show Blo (w3.setCell ⟨w.heap.size, 0, none⟩ (.int .i64 3)) w.heap.size PZT (pieceA 3 m fa fn fc ia inn ic da dn dc) from HX3b.out.put 0 _)
  have HX4 := Lib.hid (HX4b.out.far (p := ⟨w.heap.size, 0, none⟩) (fun e => by have := HG4.out; have e2 : g4 = w.heap.size := e; omega) (.int .i64 3))
  have HX5 := Lib.hid (HX5b.out.far (p := ⟨w.heap.size, 0, none⟩) (fun e => by have := HG5.out; have e2 : g5 = w.heap.size := e; omega) (.int .i64 3))
  have u3 := HX5.out.cell 3
  have v0 := HX4.out.cell 0
  have f4 := HX4.out.frozen 0
  simp at u3 u0 v0
  obtain ⟨hf1, hf2⟩ := HfF.out
  go_upto_region 5 with (fail)
  clear hf1 hf2
  have HX3c := Lib.hid (HX3.out.far (p := ⟨g4, 0, none⟩) (fun e => by have := HG4.out; have e2 : w.heap.size = g4 := e; omega) (.int .i64 ((fF : Nat) : Int)))
  have HX4c := Lib.hid (show Blo ((w3.setCell ⟨w.heap.size, 0, none⟩ (.int .i64 3)).setCell ⟨g4, 0, none⟩ (.int .i64 ((fF : Nat) : Int))) g4 PZT (pieceA ((fF : Nat) : Int) m' fa' fn' fc' ia' inn' ic' da' dn' dc') from HX4.out.put 0 _)
  have HX5c := Lib.hid (HX5.out.far (p := ⟨g4, 0, none⟩) (fun e => by have := HG45.out; have e2 : g5 = g4 := e; omega) (.int .i64 ((fF : Nat) : Int)))
  have HB4 := Lib.hid ((HB3.out.setCell (p := ⟨w.heap.size, 0, none⟩) (Nat.le_refl _) (.int .i64 3)).setCell (p := ⟨g4, 0, none⟩) (Nat.le_of_lt HG4.out) (.int .i64 ((fF : Nat) : Int)))
  clear u0 u3 v0 f3 f4 HX3 HX4 HX5 HX3b HX4b HX5b HB3
  generalize (w3.setCell ⟨w.heap.size, 0, none⟩ (.int .i64 3)).setCell ⟨g4, 0, none⟩ (.int .i64 ((fF : Nat) : Int)) = w4 at *
  have c0 := HX3c.out.cell 0
  have c1 := HX3c.out.cell 1
  have c2 := HX3c.out.cell 2
  have c3 := HX3c.out.cell 3
  have c4 := HX3c.out.cell 4
  have c5 := HX3c.out.cell 5
  have c6 := HX3c.out.cell 6
  have c7 := HX3c.out.cell 7
  have c8 := HX3c.out.cell 8
  simp at c0 c1 c2 c3 c4 c5 c6 c7 c8
  go_wp2_with fail
  have hb5 := sup_pc w4 (.cells (pieceA 3 m fa fn fc ia inn ic da dn dc) PZT)
  have HB5 := Lib.hid (HB4.out.trans (hb5.mono HB4.out.size))
  have HX := Lib.hid (blo_laid w4 PZT (pieceA 3 m fa fn fc ia inn ic da dn dc))
  refine (HWn.out _ _ HB5.out HX.out).mono ?_
  rintro e w5 ⟨L, sa, qa, sc, qc, rfl, hD, hM, hb6⟩
  have hal := sup_pc w5 (.cells (agR sa qa sc qc d1) RDT)
  have hbb := hb5.trans ((hb6.trans (hal.mono hb6.size)).mono hb5.size)
  have HS6 := Lib.hid (show WhP w g4 g5 (pieceA ((fF : Nat) : Int) m' fa' fn' fc' ia' inn' ic' da' dn' dc') #[.int .i64 z0, .int .i64 z1, .int .i64 z2, .int .i64 z3] L d1 (w5.alloc (.cells (agR sa qa sc qc d1) RDT)) from ⟨(hD.deeper (show w.heap.size ≤ _ from HB5.out.size)).later hal, HX4c.out.later hbb, HX5c.out.later hbb, HB4.out.trans (hbb.mono HB4.out.size)⟩)
  have HY6 := Lib.hid (blo_laid w5 RDT (agR sa qa sc qc d1))
  clear hD hM hb5 hb6 hal hbb HB5 HX HWn HX3c HX4c HX5c HB4 c0 c1 c2 c3 c4 c5 c6 c7 c8
  unfold agR
  unfold agR at HS6 HY6
  go_upto_region 6 with (fail)
  generalize w5.alloc (.cells #[.slice sa d1.n sc, .slice qa d1.Q.length qc, .int .i64 d1.steps, .int .i64 (lfD d1)] RDT) = w6 at *
  generalize w5.heap.size = g8 at *
  have y0 := HY6.out.cell 0
  have v0 := HS6.out.p4.cell 0
  simp at y0 v0
  have hn1 := HN1.out
  have hcl := clear_sur HD1.out.1 HD1.out.2.1 fF (by rw [hn1]; have := HfF.out; omega)
  have HCl := Lib.hid (clear_any (w := w6) ((fF : Nat) : Int) (HRm1.out.mono (by decide)) HS6.out.dk)
  have HRm2 : Hid (Rm (clearD d1 ((fF : Nat) : Int)).1 3700) := by
    unfold clearD
    split
    · exact Rm.clean _ (HRm1.out.mono (by decide))
    · exact HRm1.out.mono (by decide)
  rw [hcl.1] at HCl
  have HCs := Lib.hid hcl.2
  clear hcl
  generalize (clearD d1 ((fF : Nat) : Int)).1 = d2 at *
  go_wp2_with fail
  refine HCl.out.mono ?_
  intro e w7 hO
  obtain ⟨rfl, q7, hS7⟩ := HS6.out.code hO
  have HS7 := Lib.hid hS7
  clear hO hS7 HCl HS6 HY6 y0 v0 hn1
  go_wp2_with fail
  refine (crash_any HS7.out.dk none [] 0 0 rfl (by decide) (Bools.nil _ _) (-1) 0).mono ?_
  rintro e w8 ⟨Lb, rfl, hD8, hb8⟩
  have HS8 := Lib.hid (HS7.out.crash hD8 hb8)
  have HcN : Hid (∀ i, (crashD d2 [] (-1) 0).N i = d2.N i) := fun i => HCs.out.sur.crash [] (-1) 0 i
  have Hcn : Hid ((crashD d2 [] (-1) 0).n = 300) := (crash_n d2 [] (-1) 0).trans (HCs.out.n.trans HN1.out)
  clear hD8 hb8 HS7
  generalize crashD d2 [] (-1) 0 = cb at *
  have HAr := Lib.hid (arms_any (w := w8) ((k0 : Nat) : Int) (by omega) HS8.out.wp.dk)
  have harm : armsD d2 ((k0 : Nat) : Int) = (armD d2 ((k0 : Nat) : Int), 0) := by
    unfold armsD
    rw [if_neg (by omega), if_neg (by simp [deadB, HCs.out.arm])]
  rw [harm] at HAr
  have HSu3 : Hid (Sur (armD d2 ((k0 : Nat) : Int))) := ⟨HCs.out.sur.q, HCs.out.sur.s⟩
  have HN3 : Hid ((armD d2 ((k0 : Nat) : Int)).N = d2.N ∧ (armD d2 ((k0 : Nat) : Int)).n = 300) := ⟨rfl, HCs.out.n.trans HN1.out⟩
  have HRm3 : Hid (Rm (armD d2 ((k0 : Nat) : Int)) 3700) := ⟨by show (0 : Int) ≤ ((k0 : Nat) : Int); omega, HRm2.out.st, HRm2.out.ql⟩
  have HZ2 : Hid (d2.N fF = zeroB ∧ d2.N (fF + 1) = zeroB) := HCs.out.zero
  clear harm HRm2 HRm1 HN1 HD1 HCs hk130
  generalize armD d2 ((k0 : Nat) : Int) = d3 at *
  have u0 := HS8.out.wp.c5.cell 0
  simp at u0
  go_wp2_with fail
  refine HAr.out.mono ?_
  intro e w9 hO
  obtain ⟨rfl, q9, hS9⟩ := HS8.out.code hO
  have HS9 := Lib.hid hS9
  clear hO hS9 HAr HS8 u0
  have HK : Hid (∀ W, Blo W g4 PZT (pieceA ((fF : Nat) : Int) m' fa' fn' fc' ia' inn' ic' da' dn' dc') → (W.cell? ⟨g4, 0, none⟩ = some (.int .i64 ((fF : Nat) : Int)) ∧ W.cell? ⟨g4, 1, none⟩ = some (.int .i64 m'.e) ∧ W.cell? ⟨g4, 2, none⟩ = some (.int .i64 m'.c) ∧ W.cell? ⟨g4, 3, none⟩ = some (.int .i64 m'.i) ∧ W.cell? ⟨g4, 4, none⟩ = some (.int .i64 m'.p) ∧ W.cell? ⟨g4, 5, none⟩ = some (.int .i64 m'.x) ∧ W.cell? ⟨g4, 6, none⟩ = some (.slice fa' fn' fc') ∧ W.cell? ⟨g4, 7, none⟩ = some (.slice ia' inn' ic') ∧ W.cell? ⟨g4, 8, none⟩ = some (.slice da' dn' dc'))) := fun W hX => ⟨hX.cell 0, hX.cell 1, hX.cell 2, hX.cell 3, hX.cell 4, hX.cell 5, hX.cell 6, hX.cell 7, hX.cell 8⟩
  have HKb := Lib.hid (fun W (hb : Below w9.heap.size w9 W) => HK.out W (HS9.out.wp.p4.later hb))
  have HBl : Hid (∀ W, Below w9.heap.size w9 W → Calls Tryd.prog 23 #[part m'.e m'.c m'.i m'.p m'.x fa' fn' fc' ia' inn' ic', .slice da' dn' dc'] W (BlkO W nb dt')) := fun W hb => HBk'.out W (HS9.out.wp.below.trans (hb.mono HS9.out.wp.below.size))
  obtain ⟨⟨dw, code⟩, hdw⟩ : ∃ x, segW d3 ((fF : Nat) : Int) m' (lsF (rnd dt') nb) = x := ⟨_, rfl⟩
  have HDw := Lib.hid hdw
  clear hdw
  have HWr : Hid (∀ W base ba bc G, Below w9.heap.size w9 W → RowB W base (.slice ba nb bc) nb G (rnd dt') → Calls Tryd.prog 17 #[.pointer (some ⟨L.bd, 0, none⟩), .int .i64 ((fF : Nat) : Int), part m'.e m'.c m'.i m'.p m'.x fa' fn' fc' ia' inn' ic', .slice ba nb bc] W fun e w' => e = .returned (.int .i64 code) ∧ ∃ q, WhS w g4 g5 (pieceA ((fF : Nat) : Int) m' fa' fn' fc' ia' inn' ic' da' dn' dc') #[.int .i64 z0, .int .i64 z1, .int .i64 z2, .int .i64 z3] Lb { L with qv := q } cb dw w') := fun W base ba bc G hb hR => by
    have hS := HS9.out.later hb
    have hbw := hS.wp.below
    have := write_row (w := W) (n := nb) (L := { L with qv := q9 }) ((fF : Nat) : Int) m' fa' fn' fc' ia' inn' ic' (HP'.out.part.fin.fis.later hbw) HFn'.out (by have := HQ'.out.2.2.1; omega) (HP'.out.part.ins.ints.below hbw) HIn'.out (by have := HQ'.out.2.1; omega) HLb'.out hR (by have := HQ'.out.2.2.2.1; omega) (HT.out W hbw).1 (HT.out W hbw).2 (HRm3.out.mono (by have := HQ'.out.2.2.2.1; omega)) hS.wp.dk
    rw [HDw.out] at this
    exact this.mono fun e w' hO => hS.code hO
  go_upto_region 11 with (fail)
  go_region_held (fun W => W.cell? ⟨g4, 0, none⟩ = some (.int .i64 ((fF : Nat) : Int)) ∧ W.cell? ⟨g4, 1, none⟩ = some (.int .i64 m'.e) ∧ W.cell? ⟨g4, 2, none⟩ = some (.int .i64 m'.c) ∧ W.cell? ⟨g4, 3, none⟩ = some (.int .i64 m'.i) ∧ W.cell? ⟨g4, 4, none⟩ = some (.int .i64 m'.p) ∧ W.cell? ⟨g4, 5, none⟩ = some (.int .i64 m'.x) ∧ W.cell? ⟨g4, 6, none⟩ = some (.slice fa' fn' fc') ∧ W.cell? ⟨g4, 7, none⟩ = some (.slice ia' inn' ic') ∧ W.cell? ⟨g4, 8, none⟩ = some (.slice da' dn' dc'))
    (first | exact HKb.out _ ((Below.refl _ _).drew) | exact HKb.out _ HB3.out | exact HK.out _ HS10.out.wp.p4 | fail)
    (first
      | (go_at_call 23; (with_reducible refine (HBl.out _ ((Below.refl _ _).drew)).mono ?_); rintro e wa ⟨ba, bc, G, rfl, hR3, hb3⟩; have HR3 := Lib.hid hR3; have HB3 := Lib.hid (show Below w9.heap.size w9 wa from ((Below.refl w9.heap.size w9).drew).trans hb3); clear hR3 hb3)
      | (go_at_call 17; (with_reducible refine (HWr.out _ _ _ _ _ HB3.out HR3.out).mono ?_); rintro e w10 ⟨rfl, q10, hS10⟩; have HS10 := Lib.hid hS10; clear hS10)
      | fail)
  rename_i hHeld
  clear hHeld HR3 HB3 HWr HBl HKb HS9 HRm3 HLb'
  have hc4 : code = 0 ∨ code = 102 ∨ code = 22 ∨ code = 27 := by
    have := seg_code d3 ((fF : Nat) : Int) m' (lsF (rnd dt') nb)
    rw [HDw.out] at this
    exact this
  have hgood : (code = 0 ∨ code = 102) ∨ code = 22 ∨ code = 27 := by
    rcases hc4 with h | h | h | h
    · exact .inl (.inl h)
    · exact .inl (.inr h)
    · exact .inr (.inl h)
    · exact .inr (.inr h)
  clear hc4
  rcases hgood with hgood | hbad
  rotate_left
  · have HB10 := Lib.hid HS10.out.wp.below
    clear HS10 HK HDw
    rcases hbad with hc | hc
    all_goals
      subst hc
      go_wp2
      go_ret
      exact ⟨rfl, HB10.out⟩
  have hin := seg_in HDw.out hgood
  have hwl := wrB_len hin.2
  rw [HN3.out.2] at hwl
  have hll : (lsF (rnd dt') nb).length = nb := lsF_length _ _
  have HXr : Hid (0 ≤ m'.x ∧ m'.x ≤ 298 ∧ fF + nb + 2 ≤ 300) := by
    rw [hll] at hwl
    exact ⟨by omega, by omega, by omega⟩
  have HBa : Hid (∀ keep torn sec, readC (crashD dw keep torn sec) ((fF : Nat) : Int) = 0 → Back (crashD dw keep torn sec) fF m' (lsF (rnd dt') nb)) := fun keep torn sec hr => by
    have := seg_cut (d := d3) (F := fF) (m := m') (ls := lsF (rnd dt') nb) HSu3.out (by rw [HN3.out.1]; exact HZ2.out.1) (by rw [HN3.out.1]; exact HZ2.out.2) HBy'.out keep torn sec
    rw [HDw.out] at this
    exact this hr
  have HSt : Hid (code = 0 → ∀ keep torn sec, readC (crashD dw keep torn sec) ((fF : Nat) : Int) = 0) := fun h keep torn sec => by
    have := seg_stands (d := d3) (F := fF) (m := m') (ls := lsF (rnd dt') nb) HSu3.out HBy'.out keep torn sec
    rw [HDw.out] at this
    exact this h
  have HEl : Hid (∀ keep torn sec i, (i < fF ∨ fF + (nb + 2) ≤ i) → ((i : Nat) : Int) ≠ m'.x → ((i : Nat) : Int) ≠ m'.x + 1 → (crashD dw keep torn sec).N i = cb.N i) := fun keep torn sec i h1 h2 h3 => by
    have := seg_else (d := d3) (F := fF) (m := m') (ls := lsF (rnd dt') nb) HSu3.out keep torn sec (i := i) (by rw [HDw.out]; exact hgood) (by rw [HNb'.out]; exact h1) h2 h3
    rw [HDw.out] at this
    rw [HcN.out, ← HN3.out.1]
    exact this
  have HDn : Hid (dw.n = 300) := by
    have := segW_n d3 ((fF : Nat) : Int) m' (lsF (rnd dt') nb)
    rw [HDw.out] at this
    exact this.trans HN3.out.2
  have HLs : Hid ((lsF (rnd dt') nb).length = nb ∧ ∀ i, i < nb → nthL (lsF (rnd dt') nb) i = rnd dt' i) := ⟨hll, fun i hi => lsF_get _ hi⟩
  generalize lsF (rnd dt') nb = ls at *
  clear hin hwl hll HDw HSu3 HN3 HZ2 HcN HBy'
  have hF : WhF w fF nb m' cb dw code ls dt' := ⟨HT.out, hgood, Hcn.out, HDn.out, HXr.out, HEl.out, HBa.out, HSt.out, HLs.out, HNb'.out⟩
  have HF := Lib.hid hF
  clear hF HXr HEl HBa HSt HDn HLs HNb' HK
  rcases hgood with hc | hc
  all_goals
    subst hc
    go_upto_region 14 with (fail)
    rename_i K14 h14
    refine wp_region_lit (wpList_step fun Kq hKq => ?_)
    refine stepO_run (v := .slice none 0 0) (w' := w10) (by simp [Region.wanted]) (by simp [go_sem, execOp]) (hKq _ _ (wpList_nil ?_))
    exact h14 _ _ (whole_14 fF nb g4 g5 ad' m' fa' fn' fc' ia' inn' ic' da' dn' dc' dt' z0 z1 z2 z3 (L := { L with qv := q10 }) HS10.out HP'.out HF.out HQ'.out HBk'.out _ _ _ _ _ _ _ _ _ _ _ _ _ _ _ _ _ _ _ _ _ _ _ _ _ _ _ _ _ _ _ _ _ _ _ _ _ _ _ _ _ _ _ _ _ _ _ _ _ _ _ _ _ _ _ _ _ _ _ _ _ _ _ _ _ _ _ _ _ _ _ _ _ _ _ _ _ _ _ _ _ _ _ _ _ _ _ _ _ _ _ _ _ _ _ _ _ _ _ _ _ _ _ _ _ _ _ _ _ _ _ _ _ _ _ _ _ _ _ _ _ _ _ _ _ _ _ _ _ _ _ _ _ _ _ _ _ _ _ _ _ _ _ _ _ _ _ _ _ _ _ _ _ _ _ _ _ _ _ _ _ _ _ _ _ _ _ _ _ _ _ _ _ _ _ _ _ _ _ _ _ _ _ _ _ _ _ _ _ _ _ _ _ _ _ _ _ _ _ _ _ _ _ _ _ _ _ _)
end
end Go.Proofs.YtlkgaefabahkoaaDoor
