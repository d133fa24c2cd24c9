/-
  The document's Decode: its end: is what was read a summary, and are the bytes its blocks?
-/
import Derived.Test.YtkdjfhbdcfjnnaaSwRDf
import Derived.Test.YtkdjfhbdcfjnnaaSwRChk
import Derived.Test.YtkdjfhbdcfjnnaaQuiet
import Derived.Test.YtkdjfhbdcfjnnaaLaterKit
import Derived.BigQuiet
import Derived.Deep.DeepCutAuto
namespace Go.Proofs.Ytkdjfhbdcfjnnaa
open Go.RowKit

section
variable {w : World} {m : Sm} {fa : Option Addr} {fn fc : Nat} {ia : Option Addr} {inn ic : Nat}
theorem rencode_good (s : Nat) (hs : s < 4294967296) (hk : chkM m = 0) (hF : Fis w fa m.fs) (hI : Ints w ia m.is) (hn : fn = m.fs.length) (hin : inn = m.is.length) :
    Calls Try.prog 21 #[part m.e m.c m.i m.p m.x fa fn fc ia inn ic, .int .u32 s] w (REnc w (encM m s)) := by
  have hg := good_of hk
  obtain ⟨e, c, i, p, x, l, is⟩ := m
  have g1 := hg.e; have g2 := hg.c; have g3 := hg.i; have g4 := hg.p; have g5 := hg.x
  simp only at g1 g2 g3 g4 g5
  obtain ⟨e', rfl⟩ : ∃ u : Nat, e = u := ⟨e.toNat, by omega⟩
  obtain ⟨c', rfl⟩ : ∃ u : Nat, c = u := ⟨c.toNat, by omega⟩
  obtain ⟨i', rfl⟩ : ∃ u : Nat, i = u := ⟨i.toNat, by omega⟩
  obtain ⟨p', rfl⟩ : ∃ u : Nat, p = u := ⟨p.toNat, by omega⟩
  obtain ⟨x', rfl⟩ : ∃ u : Nat, x = u := ⟨x.toNat, by omega⟩
  exact rencode_raw e' c' i' p' x' s l is fa fn fc ia inn ic hg hF hn hI hin hs
end
def PBD (l : List Nat) : ObjL := fun v W => ∃ xa xc, v = .slice xa 128 xc ∧ Bytes W xa l
theorem later_pbd (l : List Nat) : LaterP (PBD l) := fun v W W' hb h => by
  obtain ⟨xa, xc, rfl, hy⟩ := h
  exact ⟨xa, xc, rfl, hy.below hb⟩
theorem cntD_le (o n : Nat) : cntD o n ≤ 45 := by unfold cntD; omega
theorem szF_filesD (w : List Nat) (n : Nat) : szF (filesD w n) ≤ n * 100 := by
  induction n with
  | zero => exact Nat.le_refl _
  | succ n ih =>
    have e : filesD w (n + 1) = filesD w n ++ [fiD w (posD w n)] := by simp [filesD, List.range_succ]
    rw [e, szF_snoc]
    have h1 : (fiD w (posD w n)).lb.length = cntD (posD w n + 4) (at' w (posD w n + 3)) := lbAt_len _ _ _
    have h2 := cntD_le (posD w n + 4) (at' w (posD w n + 3))
    omega
theorem lb_filesD (w : List Nat) (hw : ∀ i, at' w i < 256) (n : Nat) : ∀ x ∈ filesD w n, ∀ k ∈ x.lb, -9223372036854775808 ≤ k ∧ k ≤ 9223372036854775807 := fun x hx k hk => by
  obtain ⟨j, _, rfl⟩ := List.mem_map.1 hx
  obtain ⟨i, _, rfl⟩ := List.mem_map.1 (show k ∈ lbAt w (posD w j + 4) (cntD (posD w j + 4) (at' w (posD w j + 3))) from hk)
  have h1 := hw (posD w j + 4 + 2 * i)
  have h2 := hw (posD w j + 4 + 2 * i + 1)
  unfold v2
  omega
theorem filesD_len (w : List Nat) (n : Nat) : (filesD w n).length = n := by simp [filesD]
/-- What stands when all is read. -/
structure RDo (w : World) (l : List Nat) (m : Sm) (s : Nat) (fn inn : Nat) (av : Nat → Value) (SB : Nat) : Prop where
  fe : m = decM l
  se : s = sumM (gat l 8)
  fl : fn = m.fs.length
  il : inn = m.is.length
  lt : ∀ i g, i < fn → (av i).ownBlock = some g → g < SB
  sep : SepAv av fn
  le : w.heap.size ≤ SB
theorem RDo.fin {w w' : World} {l : List Nat} {m : Sm} {s fn inn : Nat} {av : Nat → Value} {SB fc ic : Nat} {fa ia : Option Addr} {e : Ending} (h : okB l = true → RDo w l m s fn inn av SB) (hok : okB l = true)
    (he : e = .returned (.tuple #[.agg #[.int .i64 m.e, .int .i64 m.c, .int .i64 m.i, .int .i64 m.p, .int .i64 m.x, .slice fa fn fc, .slice ia inn ic], .int .u32 (s : Nat), .int .i64 0]))
    (hF : Fo w' w.heap.size (.slice fa fn fc) av m.fs fn) (hO : w'.ownsRow SB IT 1 (.slice ia inn ic) inn (cellsI m.is)) : ∃ fa fc ia ic av SB, DecY w l (gat l 8) e w' fa fc ia ic av SB := by
  obtain ⟨h1, h2, h3, h4, h5, h6, h7⟩ := h hok
  subst h1
  subst h2
  have e1 : fn = at' (gat l 8) 4 := by rw [h3]; exact filesM_len _ _
  have e2 : inn = at' (gat l 8) 5 := by rw [h4]; exact inosM_len _ _ _
  subst e1
  subst e2
  exact ⟨fa, fc, ia, ic, av, SB, he, hF, hO, h5, h6, h7⟩
def stC (n : Nat) : Code → Bool
  | .region m _ _ => m == n
  | .seq a _ => stC n a
  | _ => false
def tlC (n : Nat) : Code → Option Code
  | .seq a b => match tlC n b with
    | some c => some c
    | none => match stC n a with
      | true => some (.seq a b)
      | false => none
  | _ => none
noncomputable def rdTail : Code := ((Try.f22.body.bind (tlC 31)).getD .skip)
set_option maxRecDepth 1000000 in
set_option maxHeartbeats 16000000 in
theorem dec_tail {w : World} {l : List Nat} {m : Sm} {s fn inn SB : Nat} {av : Nat → Value} (hE : okB l = true → RDo w l m s fn inn av SB) (hok : okB l = true ↔ (chkM m = 0 ∧ encM m s = l)) (hs : s < 4294967296) (hfl : fn = m.fs.length) (hil : inn = m.is.length) (hsw : w.heap.size < SB)
    (hsz : szF m.fs ≤ 1000000000) (hi9 : inn ≤ 1000000000) (hlb : ∀ x ∈ m.fs, ∀ n ∈ x.lb, -9223372036854775808 ≤ n ∧ n ≤ 9223372036854775807)
    (ob oo cap : Nat) (hl : l.length = 128) (hY : Bytes w (some ⟨ob, oo, none⟩) l) (fa : Option Addr) (fc : Nat) (ia : Option Addr) (ic : Nat) {wv : Value} {W : List Nat} {P : Nat} {wy : World}
    (hP : Dr w W m.e m.c m.i m.p m.x P (.slice fa fn fc) (.slice ia inn ic) wv wy) (hF : Fo wy (P + 1) (.slice fa fn fc) av m.fs fn) (hO : wy.ownsRow SB IT 1 (.slice ia inn ic) inn (cellsI m.is))
    (s1 s3 s4 s6 s7 s9 s10 s11 s12 s13 s14 s15 s16 s17 s18 s19 s20 s21 s22 s23 s24 s25 s26 s27 s28 s29 s30 s31 s32 s33 s34 s35 s36 s37 s38 s39 s40 s41 s42 s43 s44 s45 s46 s47 s48 s49 s50 s51 s52 s53 s54 s55 s56 s57 s58 s59 s60 s61 s62 s63 s64 s65 s66 s67 s68 s69 s70 s71 s72 s73 s74 s75 s76 s77 s78 s79 s80 s81 s82 s83 s84 s85 s86 s87 s88 s89 s90 s91 s92 s93 s94 s95 s96 s97 s98 s99 s100 s101 s102 s103 s104 s105 s106 s107 s108 s109 s110 s111 s112 s113 s114 s115 s116 s117 s118 s119 s120 s121 s122 s123 s124 s125 s126 s127 s128 s129 s130 s131 s132 s133 s134 s135 s136 s137 s138 s139 s140 s141 s142 s143 s144 s145 s146 s147 s148 s149 s150 s151 s152 s153 s154 s155 s156 s157 s158 s159 s160 s161 s162 s163 s164 s165 s166 s167 s168 s169 s170 s171 s172 s173 s174 s175 s176 s177 s178 s179 s180 s181 : Value) :
    Code.wp Try.prog rdTail (bodyPost Try.prog Try.f22 (fun e w' => DecO l w e w')) ⟨#[.slice (some ⟨ob, oo, none⟩) 128 cap, s1, .pointer (some ⟨w.heap.size, 0, none⟩), s3, s4, .pointer (some ⟨P, 0, none⟩), s6, s7, .int .u32 (s : Int), s9, s10, s11, s12, s13, s14, s15, s16, s17, s18, s19, s20, s21, s22, s23, s24, s25, s26, s27, s28, s29, s30, s31, s32, s33, s34, s35, s36, s37, s38, s39, s40, s41, s42, s43, s44, s45, s46, s47, s48, s49, s50, s51, s52, s53, s54, s55, s56, s57, s58, s59, s60, s61, s62, s63, s64, s65, s66, s67, s68, s69, s70, s71, s72, s73, s74, s75, s76, s77, s78, s79, s80, s81, s82, s83, s84, s85, s86, s87, s88, s89, s90, s91, s92, s93, s94, s95, s96, s97, s98, s99, s100, s101, s102, s103, s104, s105, s106, s107, s108, s109, s110, s111, s112, s113, s114, s115, s116, s117, s118, s119, s120, s121, s122, s123, s124, s125, s126, s127, s128, s129, s130, s131, s132, s133, s134, s135, s136, s137, s138, s139, s140, s141, s142, s143, s144, s145, s146, s147, s148, s149, s150, s151, s152, s153, s154, s155, s156, s157, s158, s159, s160, s161, s162, s163, s164, s165, s166, s167, s168, s169, s170, s171, s172, s173, s174, s175, s176, s177, s178, s179, s180, s181], []⟩ wy := by
  have hlo := hP.lo
  have HB8 := Lib.hid hP.below
  have HR8 := Lib.hid hP.res
  have HP8 := Lib.hid hP.pt
  have HF8 := Lib.hid hF
  have HO8 := Lib.hid hO
  have HEnd := Lib.hid hE
  have HL := Lib.hid hl
  have hfis := hF.fis hfl
  have hints := Ints.own hO
  have HYy := Lib.hid (hY.below hP.below)
  have HCk : Hid (∀ W', Below wy.heap.size wy W' → Calls Try.prog 13 #[part m.e m.c m.i m.p m.x fa fn fc ia inn ic] W' fun en w' => en = .returned (.int .i64 (chkM m)) ∧ Below W'.heap.size W' w') := fun W' hb => rcheck_any m.e m.c m.i m.p m.x m.fs m.is fa fn fc ia inn ic (hfis.later hb) hfl hsz (hints.below hb) hil hi9 hlb
  have HEn : Hid (chkM m = 0 → ∀ W', Below wy.heap.size wy W' → Calls Try.prog 21 #[part m.e m.c m.i m.p m.x fa fn fc ia inn ic, .int .u32 s] W' (REnc W' (encM m s))) := fun hk W' hb => rencode_good s hs hk (hfis.later hb) (hints.below hb) hfl hil
  have hel : chkM m = 0 → (encM m s).length = 128 := fun hk => encM_len m s (good_of hk)
  have HEl := Lib.hid hel
  have HCw : Hid (∀ W', Below wy.heap.size wy W' → (convert 30 9 (.slice (some ⟨ob, oo, none⟩) 128 cap)).run Try.prog W' = .ok (.string (strOf l)) W') := fun W' hb => run_str W' 30 9 5 Try.underlying30 Try.underlying5 Try.underlying9 _ _ 128 cap hl.symm (HYy.out.below hb)
  have hlt1 := hY.1
  clear hP hF hO hE hfis hints hsz hi9 hlb hl hY hel hfl hil
  conv => arg 2; whnf
  by_cases hk : chkM m = 0
  · have HEn := Lib.hid (HEn.out hk)
    have HCv : Hid (∀ (W' : World) (a : Option Addr) (cp : Nat), Bytes W' a (encM m s) → (convert 30 9 (.slice a 128 cp)).run Try.prog W' = .ok (.string (strOf (encM m s))) W') := fun W' a cp h => run_str W' 30 9 5 Try.underlying30 Try.underlying5 Try.underlying9 _ _ 128 cp (HEl.out hk).symm h
    rw [hk] at HCk
    by_cases heq : encM m s = l
    · have HOk : Hid (okB l = true) := hok.2 ⟨hk, heq⟩
      have e1 : ((strOf (encM m s)).toList == (strOf l).toList) = true := by rw [heq]; simp
      clear hok heq hk
      go_wp2_with fail
      obtain ⟨RL, hRL⟩ : ∃ RL : List (Nat × ObjL), RL = [(6, PBD (encM m s))] := ⟨_, rfl⟩
      obtain ⟨TL, hTL⟩ : ∃ TL : List (Nat × Value), TL = [(0, .agg #[.int .i64 m.e, .int .i64 m.c, .int .i64 m.i, .int .i64 m.p, .int .i64 m.x, .slice fa fn fc, .slice ia inn ic]), (1, .int .i64 0), (2, .bool false), (3, .bool false), (4, .agg #[.int .i64 m.e, .int .i64 m.c, .int .i64 m.i, .int .i64 m.p, .int .i64 m.x, .slice fa fn fc, .slice ia inn ic]), (5, .int .u32 (s : Int)), (7, .string (strOf (encM m s))), (8, .slice (some ⟨ob, oo, none⟩) 128 cap), (9, .string (strOf l)), (10, .bool false), (11, .bool false)] := ⟨_, rfl⟩
      have hKB : keysL RL := by intro x hx y hy e; simp only [hRL, List.mem_cons, List.not_mem_nil, or_false] at hx hy; rcases hx with rfl <;> rcases hy with rfl <;> first | rfl | (exfalso; simp at e; done) | fail
      have hLB : ∀ x ∈ RL, LaterP x.2 := by intro x hx; simp only [hRL, List.mem_cons, List.not_mem_nil, or_false] at hx; rcases hx with rfl; exact later_pbd _
      refine wp_region_inv (n := 12) [(0, 167), (1, 168), (2, 169), (3, 170), (4, 171), (5, 172), (6, 173), (7, 174), (8, 175), (9, 176), (10, 177), (11, 178)] (GL RL TL wy) (by kernel_rfl) (by kernel_rfl) (by kernel_rfl) (fun X => by simp only [putL, Act.put, List.setIfInBounds_toArray, List.set_cons_zero, List.set_cons_succ]; rfl) (fun X => GL.start (Below.refl _ _).drew) ?_ ?_
      · show StepsI _ _ _ _ _ 0 [_, _, _, _, _, _, _, _, _, _, _, _]
        refine ⟨fun D X W hD hd hI K hK => ?_, ?_⟩
        · exact stepO_load_row (by simp [Region.wanted]) 25 (.tmp 5) rfl P rfl 25 #[.int .i64 m.e, .int .i64 m.c, .int .i64 m.i, .int .i64 m.p, .int .i64 m.x, .slice fa fn fc, .slice ia inn ic] (0, 0) _ (HP8.out.later hI.b) Try.underlying25 rfl (by kernel_rfl) (hK _ _ (hI.tell hLB 0 _ (Below.refl _ _) (by simp [hRL]) (by simp [hTL])))
        refine ⟨fun D X W hD hd hI K hK => ?_, ?_⟩
        · have a0 := hI.dt (0, .agg #[.int .i64 m.e, .int .i64 m.c, .int .i64 m.i, .int .i64 m.p, .int .i64 m.x, .slice fa fn fc, .slice ia inn ic]) (by simp [hTL]) (hd ⟨0, .data⟩ (by simp) rfl)
          refine stepO_call (f := 13) (args := #[.agg #[.int .i64 m.e, .int .i64 m.c, .int .i64 m.i, .int .i64 m.p, .int .i64 m.x, .slice fa fn fc, .slice ia inn ic]]) (by simp [Region.wanted]) (by simp [go_sem, execOp, a0]) (HCk.out W hI.b) (fun e W' hr => ⟨_, hr.1, hK _ _ ?_⟩)
          exact hI.tell hLB 1 _ hr.2 (by simp [hRL]) (by simp [hTL])
        refine ⟨fun D X W hD hd hI K hK => ?_, ?_⟩
        · have a1 := hI.dt (1, .int .i64 0) (by simp [hTL]) (hd ⟨1, .data⟩ (by simp) rfl)
          exact stepO_run (v := .bool false) (w' := W) (by simp [Region.wanted]) (by simp [go_sem, execOp, a1]) (hK _ _ (hI.tell hLB 2 _ (Below.refl _ _) (by simp [hRL]) (by simp [hTL])))
        refine ⟨fun D X W hD hd hI K hK => ?_, ?_⟩
        · have a2 := hI.dt (2, .bool false) (by simp [hTL]) (hd ⟨2, .data⟩ (by simp) rfl)
          exact stepO_run (v := .bool false) (w' := W) (by simp [Region.wanted]) (by simp [go_sem, execOp, a2]) (hK _ _ (hI.tell hLB 3 _ (Below.refl _ _) (by simp [hRL]) (by simp [hTL])))
        refine ⟨fun D X W hD hd hI K hK => ?_, ?_⟩
        · have a3 := hI.dt (3, .bool false) (by simp [hTL]) (hd ⟨3, .guard⟩ (by simp) rfl)
          exact stepO_load_row (by simp [Region.wanted, yielded, a3]) 25 (.tmp 5) rfl P rfl 25 #[.int .i64 m.e, .int .i64 m.c, .int .i64 m.i, .int .i64 m.p, .int .i64 m.x, .slice fa fn fc, .slice ia inn ic] (0, 0) _ (HP8.out.later hI.b) Try.underlying25 rfl (by kernel_rfl) (hK _ _ (hI.tell hLB 4 _ (Below.refl _ _) (by simp [hRL]) (by simp [hTL])))
        refine ⟨fun D X W hD hd hI K hK => ?_, ?_⟩
        · have a3 := hI.dt (3, .bool false) (by simp [hTL]) (hd ⟨3, .guard⟩ (by simp) rfl)
          exact stepO_run (v := .int .u32 (s : Int)) (w' := W) (by simp [Region.wanted, yielded, a3]) (by simp [go_sem, execOp, a3]) (hK _ _ (hI.tell hLB 5 _ (Below.refl _ _) (by simp [hRL]) (by simp [hTL])))
        refine ⟨fun D X W hD hd hI K hK => ?_, ?_⟩
        · have a3 := hI.dt (3, .bool false) (by simp [hTL]) (hd ⟨3, .chain⟩ (by simp) rfl)
          have a4 := hI.dt (4, .agg #[.int .i64 m.e, .int .i64 m.c, .int .i64 m.i, .int .i64 m.p, .int .i64 m.x, .slice fa fn fc, .slice ia inn ic]) (by simp [hTL]) (hd ⟨4, .data⟩ (by simp) rfl)
          have a5 := hI.dt (5, .int .u32 (s : Int)) (by simp [hTL]) (hd ⟨5, .data⟩ (by simp) rfl)
          refine stepO_call (f := 21) (args := #[.agg #[.int .i64 m.e, .int .i64 m.c, .int .i64 m.i, .int .i64 m.p, .int .i64 m.x, .slice fa fn fc, .slice ia inn ic], .int .u32 (s : Int)]) (by simp [Region.wanted, yielded, a3]) (by simp [go_sem, execOp, a3, a4, a5]) (HEn.out W hI.b) (fun e W' hr => ?_)
          obtain ⟨xa, xc, he, hy, hb⟩ := hr
          exact ⟨_, he, hK _ _ (hI.fresh hKB hLB 6 _ (PBD (encM m s)) (by simp [hRL]) hb ⟨xa, xc, rfl, hy⟩ (by simp [hTL]))⟩
        refine ⟨fun D X W hD hd hI K hK => ?_, ?_⟩
        · have a3 := hI.dt (3, .bool false) (by simp [hTL]) (hd ⟨3, .guard⟩ (by simp) rfl)
          have r6 := hI.rows (6, PBD (encM m s)) (by simp [hRL]) (hd ⟨6, .data⟩ (by simp) rfl)
          obtain ⟨xa, xc, hx, hy⟩ := r6
          have hx2 : X 6 = _ := hx
          have hcv := HCv.out W xa xc hy
          exact stepO_run (v := .string (strOf (encM m s))) (w' := W) (by simp [Region.wanted, yielded, a3]) (by simp [go_sem, execOp, hx2, hcv]) (hK _ _ (hI.tell hLB 7 _ (Below.refl _ _) (by simp [hRL]) (by simp [hTL])))
        refine ⟨fun D X W hD hd hI K hK => ?_, ?_⟩
        · have a3 := hI.dt (3, .bool false) (by simp [hTL]) (hd ⟨3, .guard⟩ (by simp) rfl)
          exact stepO_run (v := .slice (some ⟨ob, oo, none⟩) 128 cap) (w' := W) (by simp [Region.wanted, yielded, a3]) (by simp [go_sem, execOp, a3]) (hK _ _ (hI.tell hLB 8 _ (Below.refl _ _) (by simp [hRL]) (by simp [hTL])))
        refine ⟨fun D X W hD hd hI K hK => ?_, ?_⟩
        · have a3 := hI.dt (3, .bool false) (by simp [hTL]) (hd ⟨3, .guard⟩ (by simp) rfl)
          have a8 := hI.dt (8, .slice (some ⟨ob, oo, none⟩) 128 cap) (by simp [hTL]) (hd ⟨8, .data⟩ (by simp) rfl)
          have hcv := HCw.out W hI.b
          exact stepO_run (v := .string (strOf l)) (w' := W) (by simp [Region.wanted, yielded, a3]) (by simp [go_sem, execOp, a3, a8, hcv]) (hK _ _ (hI.tell hLB 9 _ (Below.refl _ _) (by simp [hRL]) (by simp [hTL])))
        refine ⟨fun D X W hD hd hI K hK => ?_, ?_⟩
        · have a3 := hI.dt (3, .bool false) (by simp [hTL]) (hd ⟨3, .guard⟩ (by simp) rfl)
          have a7 := hI.dt (7, .string (strOf (encM m s))) (by simp [hTL]) (hd ⟨7, .data⟩ (by simp) rfl)
          have a9 := hI.dt (9, .string (strOf l)) (by simp [hTL]) (hd ⟨9, .data⟩ (by simp) rfl)
          exact stepO_run (v := .bool false) (w' := W) (by simp [Region.wanted, yielded, a3]) (by simp [go_sem, execOp, a3, a7, a9, e1]) (hK _ _ (hI.tell hLB 10 _ (Below.refl _ _) (by simp [hRL]) (by simp [hTL])))
        refine ⟨fun D X W hD hd hI K hK => ?_, ?_⟩
        · have a3 := hI.dt (3, .bool false) (by simp [hTL]) (hd ⟨3, .data⟩ (by simp) rfl)
          have a10 := hI.dt (10, .bool false) (by simp [hTL]) (hd ⟨10, .data⟩ (by simp) rfl)
          exact stepO_run (v := .bool false) (w' := W) (by simp [Region.wanted]) (by simp [go_sem, execOp, a3, a10]) (hK _ _ (hI.tell hLB 11 _ (Below.refl _ _) (by simp [hRL]) (by simp [hTL])))
        exact True.intro
      · intro D X W hD hI
        have a11 := hI.dt (11, .bool false) (by simp [hTL]) (hD 11 (by decide))
        have a11b : X 11 = .bool false := a11
        have HBx := Lib.hid (HB8.out.trans (hI.b.mono HB8.out.size))
        have HRx := Lib.hid (HR8.out.later hI.b)
        have HPx := Lib.hid (HP8.out.later hI.b)
        have HFx := Lib.hid (HF8.out.later hI.b)
        have HOx := Lib.hid (own_later HO8.out hI.b)
        clear hI hD a11 hKB hLB hRL hTL HCk HP8 HR8 HF8 HO8 HB8
        rw [a11b]
        simp only [List.drop_succ_cons, List.drop_zero]
        have hres := HRx.out
        go_wp2_with (first | (refine wpList_load_row rfl 25 (.tmp 5) rfl P rfl 25 #[.int .i64 m.e, .int .i64 m.c, .int .i64 m.i, .int .i64 m.p, .int .i64 m.x, .slice fa fn fc, .slice ia inn ic] (0, 0) _ HPx.out Try.underlying25 rfl (by kernel_rfl) ?_) | (refine wpList_store_row rfl 25 (.tmp 2) (.tmp 180) rfl w.heap.size (#[.int .i64 m.e, .int .i64 m.c, .int .i64 m.i, .int .i64 m.p, .int .i64 m.x, .slice fa fn fc, .slice ia inn ic]) (by first | rfl | simp [go_sem]) (by first | rfl | simp [go_sem]) 25 _ hres (by kernel_rfl) rfl (by simp [Value.oneCell']) ?_))
        (try simp only [Exit.inBlock, Exit.then])
        have hout : Out (fun g => g = w.heap.size) W (W.setRow w.heap.size #[.int .i64 m.e, .int .i64 m.c, .int .i64 m.i, .int .i64 m.p, .int .i64 m.x, .slice fa fn fc, .slice ia inn ic]) := out_row W w.heap.size _ rfl
        refine bodyPost_ret (results_row_tmp2 (p := 2) (u := 3) (v := 4) (ty := 25) rfl _ _ w.heap.size 25 #[.int .i64 m.e, .int .i64 m.c, .int .i64 m.i, .int .i64 m.p, .int .i64 m.x, .slice fa fn fc, .slice ia inn ic] _ (by simp) (blo_row HRx.out #[.int .i64 m.e, .int .i64 m.c, .int .i64 m.i, .int .i64 m.p, .int .i64 m.x, .slice fa fn fc, .slice ia inn ic]) Try.underlying25 rfl (by kernel_rfl)) rfl ⟨below_setRow HBx.out (Nat.le_refl _) _, fun h => (by rw [HOk.out] at h; cases h), fun _ => ?_⟩
        exact RDo.fin HEnd.out HOk.out rfl ((HFx.out.out hout (fun g e _ => by omega)).weak (by omega)) (own_out HOx.out hout (fun g e _ => by omega))
    · have HOk : Hid (okB l = false) := by
        show _ = _
        cases h : okB l with
        | false => rfl
        | true => exact absurd (hok.1 h).2 heq
      have e1 : ((strOf (encM m s)).toList == (strOf l).toList) = false := str_ne (encM_lt m s) hlt1 heq
      clear hok heq hk
      go_wp2_with fail
      obtain ⟨RL, hRL⟩ : ∃ RL : List (Nat × ObjL), RL = [(6, PBD (encM m s))] := ⟨_, rfl⟩
      obtain ⟨TL, hTL⟩ : ∃ TL : List (Nat × Value), TL = [(0, .agg #[.int .i64 m.e, .int .i64 m.c, .int .i64 m.i, .int .i64 m.p, .int .i64 m.x, .slice fa fn fc, .slice ia inn ic]), (1, .int .i64 0), (2, .bool false), (3, .bool false), (4, .agg #[.int .i64 m.e, .int .i64 m.c, .int .i64 m.i, .int .i64 m.p, .int .i64 m.x, .slice fa fn fc, .slice ia inn ic]), (5, .int .u32 (s : Int)), (7, .string (strOf (encM m s))), (8, .slice (some ⟨ob, oo, none⟩) 128 cap), (9, .string (strOf l)), (10, .bool true), (11, .bool true)] := ⟨_, rfl⟩
      have hKB : keysL RL := by intro x hx y hy e; simp only [hRL, List.mem_cons, List.not_mem_nil, or_false] at hx hy; rcases hx with rfl <;> rcases hy with rfl <;> first | rfl | (exfalso; simp at e; done) | fail
      have hLB : ∀ x ∈ RL, LaterP x.2 := by intro x hx; simp only [hRL, List.mem_cons, List.not_mem_nil, or_false] at hx; rcases hx with rfl; exact later_pbd _
      refine wp_region_inv (n := 12) [(0, 167), (1, 168), (2, 169), (3, 170), (4, 171), (5, 172), (6, 173), (7, 174), (8, 175), (9, 176), (10, 177), (11, 178)] (GL RL TL wy) (by kernel_rfl) (by kernel_rfl) (by kernel_rfl) (fun X => by simp only [putL, Act.put, List.setIfInBounds_toArray, List.set_cons_zero, List.set_cons_succ]; rfl) (fun X => GL.start (Below.refl _ _).drew) ?_ ?_
      · show StepsI _ _ _ _ _ 0 [_, _, _, _, _, _, _, _, _, _, _, _]
        refine ⟨fun D X W hD hd hI K hK => ?_, ?_⟩
        · exact stepO_load_row (by simp [Region.wanted]) 25 (.tmp 5) rfl P rfl 25 #[.int .i64 m.e, .int .i64 m.c, .int .i64 m.i, .int .i64 m.p, .int .i64 m.x, .slice fa fn fc, .slice ia inn ic] (0, 0) _ (HP8.out.later hI.b) Try.underlying25 rfl (by kernel_rfl) (hK _ _ (hI.tell hLB 0 _ (Below.refl _ _) (by simp [hRL]) (by simp [hTL])))
        refine ⟨fun D X W hD hd hI K hK => ?_, ?_⟩
        · have a0 := hI.dt (0, .agg #[.int .i64 m.e, .int .i64 m.c, .int .i64 m.i, .int .i64 m.p, .int .i64 m.x, .slice fa fn fc, .slice ia inn ic]) (by simp [hTL]) (hd ⟨0, .data⟩ (by simp) rfl)
          refine stepO_call (f := 13) (args := #[.agg #[.int .i64 m.e, .int .i64 m.c, .int .i64 m.i, .int .i64 m.p, .int .i64 m.x, .slice fa fn fc, .slice ia inn ic]]) (by simp [Region.wanted]) (by simp [go_sem, execOp, a0]) (HCk.out W hI.b) (fun e W' hr => ⟨_, hr.1, hK _ _ ?_⟩)
          exact hI.tell hLB 1 _ hr.2 (by simp [hRL]) (by simp [hTL])
        refine ⟨fun D X W hD hd hI K hK => ?_, ?_⟩
        · have a1 := hI.dt (1, .int .i64 0) (by simp [hTL]) (hd ⟨1, .data⟩ (by simp) rfl)
          exact stepO_run (v := .bool false) (w' := W) (by simp [Region.wanted]) (by simp [go_sem, execOp, a1]) (hK _ _ (hI.tell hLB 2 _ (Below.refl _ _) (by simp [hRL]) (by simp [hTL])))
        refine ⟨fun D X W hD hd hI K hK => ?_, ?_⟩
        · have a2 := hI.dt (2, .bool false) (by simp [hTL]) (hd ⟨2, .data⟩ (by simp) rfl)
          exact stepO_run (v := .bool false) (w' := W) (by simp [Region.wanted]) (by simp [go_sem, execOp, a2]) (hK _ _ (hI.tell hLB 3 _ (Below.refl _ _) (by simp [hRL]) (by simp [hTL])))
        refine ⟨fun D X W hD hd hI K hK => ?_, ?_⟩
        · have a3 := hI.dt (3, .bool false) (by simp [hTL]) (hd ⟨3, .guard⟩ (by simp) rfl)
          exact stepO_load_row (by simp [Region.wanted, yielded, a3]) 25 (.tmp 5) rfl P rfl 25 #[.int .i64 m.e, .int .i64 m.c, .int .i64 m.i, .int .i64 m.p, .int .i64 m.x, .slice fa fn fc, .slice ia inn ic] (0, 0) _ (HP8.out.later hI.b) Try.underlying25 rfl (by kernel_rfl) (hK _ _ (hI.tell hLB 4 _ (Below.refl _ _) (by simp [hRL]) (by simp [hTL])))
        refine ⟨fun D X W hD hd hI K hK => ?_, ?_⟩
        · have a3 := hI.dt (3, .bool false) (by simp [hTL]) (hd ⟨3, .guard⟩ (by simp) rfl)
          exact stepO_run (v := .int .u32 (s : Int)) (w' := W) (by simp [Region.wanted, yielded, a3]) (by simp [go_sem, execOp, a3]) (hK _ _ (hI.tell hLB 5 _ (Below.refl _ _) (by simp [hRL]) (by simp [hTL])))
        refine ⟨fun D X W hD hd hI K hK => ?_, ?_⟩
        · have a3 := hI.dt (3, .bool false) (by simp [hTL]) (hd ⟨3, .chain⟩ (by simp) rfl)
          have a4 := hI.dt (4, .agg #[.int .i64 m.e, .int .i64 m.c, .int .i64 m.i, .int .i64 m.p, .int .i64 m.x, .slice fa fn fc, .slice ia inn ic]) (by simp [hTL]) (hd ⟨4, .data⟩ (by simp) rfl)
          have a5 := hI.dt (5, .int .u32 (s : Int)) (by simp [hTL]) (hd ⟨5, .data⟩ (by simp) rfl)
          refine stepO_call (f := 21) (args := #[.agg #[.int .i64 m.e, .int .i64 m.c, .int .i64 m.i, .int .i64 m.p, .int .i64 m.x, .slice fa fn fc, .slice ia inn ic], .int .u32 (s : Int)]) (by simp [Region.wanted, yielded, a3]) (by simp [go_sem, execOp, a3, a4, a5]) (HEn.out W hI.b) (fun e W' hr => ?_)
          obtain ⟨xa, xc, he, hy, hb⟩ := hr
          exact ⟨_, he, hK _ _ (hI.fresh hKB hLB 6 _ (PBD (encM m s)) (by simp [hRL]) hb ⟨xa, xc, rfl, hy⟩ (by simp [hTL]))⟩
        refine ⟨fun D X W hD hd hI K hK => ?_, ?_⟩
        · have a3 := hI.dt (3, .bool false) (by simp [hTL]) (hd ⟨3, .guard⟩ (by simp) rfl)
          have r6 := hI.rows (6, PBD (encM m s)) (by simp [hRL]) (hd ⟨6, .data⟩ (by simp) rfl)
          obtain ⟨xa, xc, hx, hy⟩ := r6
          have hx2 : X 6 = _ := hx
          have hcv := HCv.out W xa xc hy
          exact stepO_run (v := .string (strOf (encM m s))) (w' := W) (by simp [Region.wanted, yielded, a3]) (by simp [go_sem, execOp, hx2, hcv]) (hK _ _ (hI.tell hLB 7 _ (Below.refl _ _) (by simp [hRL]) (by simp [hTL])))
        refine ⟨fun D X W hD hd hI K hK => ?_, ?_⟩
        · have a3 := hI.dt (3, .bool false) (by simp [hTL]) (hd ⟨3, .guard⟩ (by simp) rfl)
          exact stepO_run (v := .slice (some ⟨ob, oo, none⟩) 128 cap) (w' := W) (by simp [Region.wanted, yielded, a3]) (by simp [go_sem, execOp, a3]) (hK _ _ (hI.tell hLB 8 _ (Below.refl _ _) (by simp [hRL]) (by simp [hTL])))
        refine ⟨fun D X W hD hd hI K hK => ?_, ?_⟩
        · have a3 := hI.dt (3, .bool false) (by simp [hTL]) (hd ⟨3, .guard⟩ (by simp) rfl)
          have a8 := hI.dt (8, .slice (some ⟨ob, oo, none⟩) 128 cap) (by simp [hTL]) (hd ⟨8, .data⟩ (by simp) rfl)
          have hcv := HCw.out W hI.b
          exact stepO_run (v := .string (strOf l)) (w' := W) (by simp [Region.wanted, yielded, a3]) (by simp [go_sem, execOp, a3, a8, hcv]) (hK _ _ (hI.tell hLB 9 _ (Below.refl _ _) (by simp [hRL]) (by simp [hTL])))
        refine ⟨fun D X W hD hd hI K hK => ?_, ?_⟩
        · have a3 := hI.dt (3, .bool false) (by simp [hTL]) (hd ⟨3, .guard⟩ (by simp) rfl)
          have a7 := hI.dt (7, .string (strOf (encM m s))) (by simp [hTL]) (hd ⟨7, .data⟩ (by simp) rfl)
          have a9 := hI.dt (9, .string (strOf l)) (by simp [hTL]) (hd ⟨9, .data⟩ (by simp) rfl)
          exact stepO_run (v := .bool true) (w' := W) (by simp [Region.wanted, yielded, a3]) (by simp [go_sem, execOp, a3, a7, a9, e1]) (hK _ _ (hI.tell hLB 10 _ (Below.refl _ _) (by simp [hRL]) (by simp [hTL])))
        refine ⟨fun D X W hD hd hI K hK => ?_, ?_⟩
        · have a3 := hI.dt (3, .bool false) (by simp [hTL]) (hd ⟨3, .data⟩ (by simp) rfl)
          have a10 := hI.dt (10, .bool true) (by simp [hTL]) (hd ⟨10, .data⟩ (by simp) rfl)
          exact stepO_run (v := .bool true) (w' := W) (by simp [Region.wanted]) (by simp [go_sem, execOp, a3, a10]) (hK _ _ (hI.tell hLB 11 _ (Below.refl _ _) (by simp [hRL]) (by simp [hTL])))
        exact True.intro
      · intro D X W hD hI
        have a11 := hI.dt (11, .bool true) (by simp [hTL]) (hD 11 (by decide))
        have a11b : X 11 = .bool true := a11
        have HBx := Lib.hid (HB8.out.trans (hI.b.mono HB8.out.size))
        have HRx := Lib.hid (HR8.out.later hI.b)
        have HPx := Lib.hid (HP8.out.later hI.b)
        have HFx := Lib.hid (HF8.out.later hI.b)
        have HOx := Lib.hid (own_later HO8.out hI.b)
        clear hI hD a11 hKB hLB hRL hTL HCk HP8 HR8 HF8 HO8 HB8
        rw [a11b]
        simp only [List.drop_succ_cons, List.drop_zero]
        have hres := HRx.out
        go_wp2_with (refine wpList_store_row rfl 25 (.tmp 2) (.tmp 179) rfl w.heap.size (#[.int .i64 0, .int .i64 0, .int .i64 0, .int .i64 0, .int .i64 0, .slice none 0 0, .slice none 0 0]) (by first | rfl | simp [go_sem]) (by first | rfl | simp [go_sem]) 25 _ hres (by kernel_rfl) rfl (by simp [Value.oneCell']) ?_)
        (try simp only [Exit.inBlock, Exit.then])
        refine bodyPost_ret (results_row_tmp2 (p := 2) (u := 3) (v := 4) (ty := 25) rfl _ _ w.heap.size 25 #[.int .i64 0, .int .i64 0, .int .i64 0, .int .i64 0, .int .i64 0, .slice none 0 0, .slice none 0 0] _ (by simp) (blo_row HRx.out #[.int .i64 0, .int .i64 0, .int .i64 0, .int .i64 0, .int .i64 0, .slice none 0 0, .slice none 0 0]) Try.underlying25 rfl (by kernel_rfl)) rfl ⟨below_setRow HBx.out (Nat.le_refl _) _, fun _ => rfl, fun h => by rw [HOk.out] at h; cases h⟩
  · have HOk : Hid (okB l = false) := by
      show _ = _
      cases h : okB l with
      | false => rfl
      | true => exact absurd (hok.1 h).1 hk
    obtain ⟨z, hzz⟩ : ∃ z, chkM m = z := ⟨_, rfl⟩
    rw [hzz] at HCk hk
    have hz : (z != 0) = true := by simp [hk]
    have hz2 : (z == 0) = false := by simp [hk]
    clear hok hk hzz
    go_wp2_with fail
    obtain ⟨RL, hRL⟩ : ∃ RL : List (Nat × ObjL), RL = [] := ⟨_, rfl⟩
    obtain ⟨TL, hTL⟩ : ∃ TL : List (Nat × Value), TL = [(0, .agg #[.int .i64 m.e, .int .i64 m.c, .int .i64 m.i, .int .i64 m.p, .int .i64 m.x, .slice fa fn fc, .slice ia inn ic]), (1, .int .i64 z), (2, .bool true), (3, .bool true), (4, undef), (5, undef), (6, undef), (7, undef), (8, undef), (9, undef), (10, undef), (11, .bool true)] := ⟨_, rfl⟩
    have hKB : keysL RL := by intro x hx; simp [hRL] at hx
    have hLB : ∀ x ∈ RL, LaterP x.2 := by intro x hx; simp [hRL] at hx
    refine wp_region_inv (n := 12) [(0, 167), (1, 168), (2, 169), (3, 170), (4, 171), (5, 172), (6, 173), (7, 174), (8, 175), (9, 176), (10, 177), (11, 178)] (GL RL TL wy) (by kernel_rfl) (by kernel_rfl) (by kernel_rfl) (fun X => by simp only [putL, Act.put, List.setIfInBounds_toArray, List.set_cons_zero, List.set_cons_succ]; rfl) (fun X => GL.start (Below.refl _ _).drew) ?_ ?_
    · show StepsI _ _ _ _ _ 0 [_, _, _, _, _, _, _, _, _, _, _, _]
      refine ⟨fun D X W hD hd hI K hK => ?_, ?_⟩
      · exact stepO_load_row (by simp [Region.wanted]) 25 (.tmp 5) rfl P rfl 25 #[.int .i64 m.e, .int .i64 m.c, .int .i64 m.i, .int .i64 m.p, .int .i64 m.x, .slice fa fn fc, .slice ia inn ic] (0, 0) _ (HP8.out.later hI.b) Try.underlying25 rfl (by kernel_rfl) (hK _ _ (hI.tell hLB 0 _ (Below.refl _ _) (by simp [hRL]) (by simp [hTL])))
      refine ⟨fun D X W hD hd hI K hK => ?_, ?_⟩
      · have a0 := hI.dt (0, .agg #[.int .i64 m.e, .int .i64 m.c, .int .i64 m.i, .int .i64 m.p, .int .i64 m.x, .slice fa fn fc, .slice ia inn ic]) (by simp [hTL]) (hd ⟨0, .data⟩ (by simp) rfl)
        refine stepO_call (f := 13) (args := #[.agg #[.int .i64 m.e, .int .i64 m.c, .int .i64 m.i, .int .i64 m.p, .int .i64 m.x, .slice fa fn fc, .slice ia inn ic]]) (by simp [Region.wanted]) (by simp [go_sem, execOp, a0]) (HCk.out W hI.b) (fun e W' hr => ⟨_, hr.1, hK _ _ ?_⟩)
        exact hI.tell hLB 1 _ hr.2 (by simp [hRL]) (by simp [hTL])
      refine ⟨fun D X W hD hd hI K hK => ?_, ?_⟩
      · have a1 := hI.dt (1, .int .i64 z) (by simp [hTL]) (hd ⟨1, .data⟩ (by simp) rfl)
        exact stepO_run (v := .bool true) (w' := W) (by simp [Region.wanted]) (by simp [go_sem, execOp, a1, hz]) (hK _ _ (hI.tell hLB 2 _ (Below.refl _ _) (by simp [hRL]) (by simp [hTL])))
      refine ⟨fun D X W hD hd hI K hK => ?_, ?_⟩
      · have a2 := hI.dt (2, .bool true) (by simp [hTL]) (hd ⟨2, .data⟩ (by simp) rfl)
        exact stepO_run (v := .bool true) (w' := W) (by simp [Region.wanted]) (by simp [go_sem, execOp, a2]) (hK _ _ (hI.tell hLB 3 _ (Below.refl _ _) (by simp [hRL]) (by simp [hTL])))
      refine ⟨fun D X W hD hd hI K hK => ?_, ?_⟩
      · have a3 := hI.dt (3, .bool true) (by simp [hTL]) (hd ⟨3, .guard⟩ (by simp) rfl)
        rw [if_neg (by simp [Region.wanted, yielded, a3])]
        exact hK _ _ (hI.tell hLB 4 _ (Below.refl _ _) (by simp [hRL]) (by simp [hTL]))
      refine ⟨fun D X W hD hd hI K hK => ?_, ?_⟩
      · have a3 := hI.dt (3, .bool true) (by simp [hTL]) (hd ⟨3, .guard⟩ (by simp) rfl)
        rw [if_neg (by simp [Region.wanted, yielded, a3])]
        exact hK _ _ (hI.tell hLB 5 _ (Below.refl _ _) (by simp [hRL]) (by simp [hTL]))
      refine ⟨fun D X W hD hd hI K hK => ?_, ?_⟩
      · have a3 := hI.dt (3, .bool true) (by simp [hTL]) (hd ⟨3, .chain⟩ (by simp) rfl)
        have a4 := hI.dt (4, undef) (by simp [hTL]) (hd ⟨4, .data⟩ (by simp) rfl)
        have a5 := hI.dt (5, undef) (by simp [hTL]) (hd ⟨5, .data⟩ (by simp) rfl)
        rw [if_neg (by simp [Region.wanted, yielded, a3])]
        exact hK _ _ (hI.tell hLB 6 _ (Below.refl _ _) (by simp [hRL]) (by simp [hTL]))
      refine ⟨fun D X W hD hd hI K hK => ?_, ?_⟩
      · have a3 := hI.dt (3, .bool true) (by simp [hTL]) (hd ⟨3, .guard⟩ (by simp) rfl)
        have a6 := hI.dt (6, undef) (by simp [hTL]) (hd ⟨6, .data⟩ (by simp) rfl)
        rw [if_neg (by simp [Region.wanted, yielded, a3])]
        exact hK _ _ (hI.tell hLB 7 _ (Below.refl _ _) (by simp [hRL]) (by simp [hTL]))
      refine ⟨fun D X W hD hd hI K hK => ?_, ?_⟩
      · have a3 := hI.dt (3, .bool true) (by simp [hTL]) (hd ⟨3, .guard⟩ (by simp) rfl)
        rw [if_neg (by simp [Region.wanted, yielded, a3])]
        exact hK _ _ (hI.tell hLB 8 _ (Below.refl _ _) (by simp [hRL]) (by simp [hTL]))
      refine ⟨fun D X W hD hd hI K hK => ?_, ?_⟩
      · have a3 := hI.dt (3, .bool true) (by simp [hTL]) (hd ⟨3, .guard⟩ (by simp) rfl)
        have a8 := hI.dt (8, undef) (by simp [hTL]) (hd ⟨8, .data⟩ (by simp) rfl)
        rw [if_neg (by simp [Region.wanted, yielded, a3])]
        exact hK _ _ (hI.tell hLB 9 _ (Below.refl _ _) (by simp [hRL]) (by simp [hTL]))
      refine ⟨fun D X W hD hd hI K hK => ?_, ?_⟩
      · have a3 := hI.dt (3, .bool true) (by simp [hTL]) (hd ⟨3, .guard⟩ (by simp) rfl)
        have a7 := hI.dt (7, undef) (by simp [hTL]) (hd ⟨7, .data⟩ (by simp) rfl)
        have a9 := hI.dt (9, undef) (by simp [hTL]) (hd ⟨9, .data⟩ (by simp) rfl)
        rw [if_neg (by simp [Region.wanted, yielded, a3])]
        exact hK _ _ (hI.tell hLB 10 _ (Below.refl _ _) (by simp [hRL]) (by simp [hTL]))
      refine ⟨fun D X W hD hd hI K hK => ?_, ?_⟩
      · have a3 := hI.dt (3, .bool true) (by simp [hTL]) (hd ⟨3, .data⟩ (by simp) rfl)
        have a10 := hI.dt (10, undef) (by simp [hTL]) (hd ⟨10, .data⟩ (by simp) rfl)
        exact stepO_run (v := .bool true) (w' := W) (by simp [Region.wanted]) (by simp [go_sem, execOp, a3, a10]) (hK _ _ (hI.tell hLB 11 _ (Below.refl _ _) (by simp [hRL]) (by simp [hTL])))
      exact True.intro
    · intro D X W hD hI
      have a11 := hI.dt (11, .bool true) (by simp [hTL]) (hD 11 (by decide))
      have a11b : X 11 = .bool true := a11
      have HBx := Lib.hid (HB8.out.trans (hI.b.mono HB8.out.size))
      have HRx := Lib.hid (HR8.out.later hI.b)
      have HPx := Lib.hid (HP8.out.later hI.b)
      have HFx := Lib.hid (HF8.out.later hI.b)
      have HOx := Lib.hid (own_later HO8.out hI.b)
      clear hI hD a11 hKB hLB hRL hTL HCk HP8 HR8 HF8 HO8 HB8
      rw [a11b]
      simp only [List.drop_succ_cons, List.drop_zero]
      have hres := HRx.out
      go_wp2_with (refine wpList_store_row rfl 25 (.tmp 2) (.tmp 179) rfl w.heap.size (#[.int .i64 0, .int .i64 0, .int .i64 0, .int .i64 0, .int .i64 0, .slice none 0 0, .slice none 0 0]) (by first | rfl | simp [go_sem]) (by first | rfl | simp [go_sem]) 25 _ hres (by kernel_rfl) rfl (by simp [Value.oneCell']) ?_)
      (try simp only [Exit.inBlock, Exit.then])
      refine bodyPost_ret (results_row_tmp2 (p := 2) (u := 3) (v := 4) (ty := 25) rfl _ _ w.heap.size 25 #[.int .i64 0, .int .i64 0, .int .i64 0, .int .i64 0, .int .i64 0, .slice none 0 0, .slice none 0 0] _ (by simp) (blo_row HRx.out #[.int .i64 0, .int .i64 0, .int .i64 0, .int .i64 0, .int .i64 0, .slice none 0 0, .slice none 0 0]) Try.underlying25 rfl (by kernel_rfl)) rfl ⟨below_setRow HBx.out (Nat.le_refl _) _, fun _ => rfl, fun h => by rw [HOk.out] at h; cases h⟩
end Go.Proofs.Ytkdjfhbdcfjnnaa
