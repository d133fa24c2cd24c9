/-
  The walk of To: which pointers lead to a block; the answer's rows are new.
-/
import Derived.Test.YtnlmpnpelnmpeaaIxWalks
import Derived.Test.YtnlmpnpelnmpeaaMem
import Derived.Deep.RegionHeld3
import Derived.Deep.RegionLaw
import Derived.Deep.DeepCutAuto
namespace Go.Proofs.Ytnlmpnpelnmpeaa
open Go.RowKit

/-- The blocks of pointers, and the pointers in them, from one on down to a block. -/
def stepsM : Nat → Int → Int → Int → List (Int × Int)
  | 0, _, _, _ => []
  | k + 1, f, F, L => (numM F L, (f - F) / spanM (L - 1)) :: stepsM k f (F + (f - F) / spanM (L - 1) * spanM (L - 1)) (L - 1)
def pathM (f lv : Int) : List (Int × Int) := stepsM (rLev f - lv).toNat f (rFst f) (rLev f)
def metasM (f lv : Int) : List Int := (pathM f lv).map (·.1)
def slotsM (f lv : Int) : List Int := (pathM f lv).map (·.2)
theorem info_int : (Try.prog.info? 3).map (fun i => (i.zero, i.size, i.bytes)) = some (some (.int .i64 0), 1, 8) := by kernel_rfl
/-- How memory stands in To's loop. -/
structure ToSt (w : World) (gb ga : Nat) (f lv F L R : Int) (vm vs : Value) (nm ns : Nat) (ms ss : List Int) (wr : World) : Prop where
  ba : Blo wr ga 108 #[.int .i64 F, .int .i64 L]
  bb : Blo wr gb 108 #[.int .i64 f, .int .i64 lv]
  bp : Blo wr (gb + 1) 127 #[.int .i64 R, vm, vs]
  b0 : Blo wr w.heap.size 127 #[.int .i64 0, .slice none 0 0, .slice none 0 0]
  l0 : w.heap.size < gb
  l1 : gb + 1 < ga
  om : wr.ownsRow w.heap.size 3 1 vm nm (cellsI ms)
  os : wr.ownsRow w.heap.size 3 1 vs ns (cellsI ss)
  ap : ∀ k, vm.ownBlock = some k → vs.ownBlock ≠ some k
  hb : Below w.heap.size w wr
section
variable {w wr wr' : World} {gb ga : Nat} {f lv F L R : Int} {vm vs : Value} {nm ns : Nat} {ms ss : List Int}
theorem ToSt.later (h : ToSt w gb ga f lv F L R vm vs nm ns ms ss wr) (hb : Below wr.heap.size wr wr') : ToSt w gb ga f lv F L R vm vs nm ns ms ss wr' :=
  ⟨h.ba.later hb, h.bb.later hb, h.bp.later hb, h.b0.later hb, h.l0, h.l1, own_later h.om hb, own_later h.os hb, h.ap, h.hb.trans (hb.mono h.hb.size)⟩
theorem apart_row {vm vs : Value} (h : ∀ k, vm.ownBlock = some k → vs.ownBlock ≠ some k) : vs.ownBlock = none ∨ vs.ownBlock ≠ vm.ownBlock := by
  cases hv : vs.ownBlock with
  | none => exact .inl rfl
  | some k => exact .inr fun e => h k e.symm hv
theorem apart_row' {vm vs : Value} (h : ∀ k, vm.ownBlock = some k → vs.ownBlock ≠ some k) : vm.ownBlock = none ∨ vm.ownBlock ≠ vs.ownBlock := by
  cases hv : vm.ownBlock with
  | none => exact .inl rfl
  | some k => exact .inr fun e => h k hv e.symm
theorem ToSt.appM {w2 : World} {g1 cap1 n1 : Nat} {N : Int} (h : ToSt w gb ga f lv F L R vm vs nm ns ms ss wr) (hg : wr.grownBy w2 vm.ownBlock)
    (ho : w2.ownsRow w.heap.size 3 1 (.slice (some ⟨g1, 0, none⟩) n1 cap1) n1 (cellsI (ms ++ [N]))) (hat : vm.ownBlock = some g1 ∨ g1 = wr.heap.size) :
    ToSt w gb ga f lv F L R (.slice (some ⟨g1, 0, none⟩) n1 cap1) vs n1 ns (ms ++ [N]) ss (w2.setCell ⟨gb + 1, 1, none⟩ (.slice (some ⟨g1, 0, none⟩) n1 cap1)) := by
  have bp2 := h.bp.grown hg (h.bp.row_apart h.om (by decide))
  have ba2 := h.ba.grown hg (h.ba.row_apart h.om (by decide))
  have bb2 := h.bb.grown hg (h.bb.row_apart h.om (by decide))
  have b02 := h.b0.grown hg (h.b0.row_apart h.om (by decide))
  have os2 := h.os.kept hg (apart_row h.ap)
  have l1 := h.l1
  have l0 := h.l0
  have hb2 : Below w.heap.size w w2 := h.hb.grown hg h.hb.size (fun k hk => (h.om.lt k hk).1)
  refine ⟨ba2.far (by simp; omega) _, bb2.far (by simp) _, ?_, b02.far (by simp; omega) _, h.l0, h.l1, own_far ho (bp2.row_apart ho (by decide)) _, own_far os2 (bp2.row_apart os2 (by decide)) _, ?_, hb2.setCell (p := ⟨gb + 1, 1, none⟩) (by simp; omega) _⟩
  · have := bp2.put 1 (.slice (some ⟨g1, 0, none⟩) n1 cap1)
    simpa using this
  · intro k hk
    simp [Value.ownBlock] at hk
    subst hk
    rcases hat with e | e
    · exact h.ap _ e
    · subst e
      intro e2
      have := (h.os.lt _ e2).2
      omega
theorem ToSt.appS {w2 : World} {g1 cap1 n1 : Nat} {N : Int} (h : ToSt w gb ga f lv F L R vm vs nm ns ms ss wr) (hg : wr.grownBy w2 vs.ownBlock)
    (ho : w2.ownsRow w.heap.size 3 1 (.slice (some ⟨g1, 0, none⟩) n1 cap1) n1 (cellsI (ss ++ [N]))) (hat : vs.ownBlock = some g1 ∨ g1 = wr.heap.size) :
    ToSt w gb ga f lv F L R vm (.slice (some ⟨g1, 0, none⟩) n1 cap1) nm n1 ms (ss ++ [N]) (w2.setCell ⟨gb + 1, 2, none⟩ (.slice (some ⟨g1, 0, none⟩) n1 cap1)) := by
  have bp2 := h.bp.grown hg (h.bp.row_apart h.os (by decide))
  have ba2 := h.ba.grown hg (h.ba.row_apart h.os (by decide))
  have bb2 := h.bb.grown hg (h.bb.row_apart h.os (by decide))
  have b02 := h.b0.grown hg (h.b0.row_apart h.os (by decide))
  have om2 := h.om.kept hg (apart_row' h.ap)
  have l1 := h.l1
  have l0 := h.l0
  have hb2 : Below w.heap.size w w2 := h.hb.grown hg h.hb.size (fun k hk => (h.os.lt k hk).1)
  refine ⟨ba2.far (by simp; omega) _, bb2.far (by simp) _, ?_, b02.far (by simp; omega) _, h.l0, h.l1, own_far om2 (bp2.row_apart om2 (by decide)) _, own_far ho (bp2.row_apart ho (by decide)) _, ?_, hb2.setCell (p := ⟨gb + 1, 2, none⟩) (by simp; omega) _⟩
  · have := bp2.put 2 (.slice (some ⟨g1, 0, none⟩) n1 cap1)
    simpa using this
  · intro k hk e
    simp [Value.ownBlock] at e
    subst e
    rcases hat with e | e
    · exact h.ap _ hk e
    · subst e
      have := (h.om.lt _ hk).2
      omega
theorem ToSt.turn {F' L' : Int} {g' : Nat} (h : ToSt w gb ga f lv F L R vm vs nm ns ms ss wr) (hg' : wr.heap.size = g') :
    ToSt w gb g' f lv F' L' R vm vs nm ns ms ss ((((wr.setCell ⟨ga, 0, none⟩ (.int .i64 F')).setCell ⟨ga, 1, none⟩ (.int .i64 L'))).alloc (.cells #[.int .i64 F', .int .i64 L'] 108)) := by
  subst hg'
  have l1 := h.l1
  have l0 := h.l0
  have lt := h.ba.lt
  have hs : ((wr.setCell ⟨ga, 0, none⟩ (.int .i64 F')).setCell ⟨ga, 1, none⟩ (.int .i64 L')).heap.size = wr.heap.size := by simp [World.setCell]
  have om1 := own_far h.om (p := ⟨ga, 0, none⟩) (h.ba.row_apart h.om (by decide)) (.int .i64 F')
  have os1 := own_far h.os (p := ⟨ga, 0, none⟩) (h.ba.row_apart h.os (by decide)) (.int .i64 F')
  have om2 := own_far om1 (p := ⟨ga, 1, none⟩) (h.ba.row_apart h.om (by decide)) (.int .i64 L')
  have os2 := own_far os1 (p := ⟨ga, 1, none⟩) (h.ba.row_apart h.os (by decide)) (.int .i64 L')
  have n0 : w.heap.size ≠ ga := by omega
  have nb : gb ≠ ga := by omega
  have np : gb + 1 ≠ ga := by omega
  have hb2 : Below w.heap.size w ((wr.setCell ⟨ga, 0, none⟩ (.int .i64 F')).setCell ⟨ga, 1, none⟩ (.int .i64 L')) := (h.hb.setCell (p := ⟨ga, 0, none⟩) (by simp; omega) _).setCell (p := ⟨ga, 1, none⟩) (by simp; omega) _
  refine ⟨?_, ((h.bb.far nb _).far nb _).alloc _, ((h.bp.far np _).far np _).alloc _, ((h.b0.far n0 _).far n0 _).alloc _, h.l0, by omega, om2.alloc _, os2.alloc _, h.ap, hb2.alloc hb2.size _⟩
  rw [← hs]
  exact blo_laid _ _ _
end
/-- How things stand at the head of To's loop. -/
def ToRel (w : World) (f lv R : Int) (full : List (Int × Int)) (gb : Nat) (t : Value) (wr : World) : Prop :=
  ∃ (F L : Int) (done : List (Int × Int)) (ga : Nat) (vm vs : Value), t = .pointer (some ⟨ga, 0, none⟩) ∧ lv ≤ L ∧ L ≤ 3 ∧ 0 ≤ F ∧ F ≤ f ∧ done ++ stepsM (L - lv).toNat f F L = full ∧ done.length ≤ 3 - L.toNat ∧
    ToSt w gb ga f lv F L R vm vs done.length done.length (done.map (·.1)) (done.map (·.2)) wr
/-- What To answers of a block. -/
def ToYes (w : World) (f lv : Int) (e : Ending) (w' : World) : Prop :=
  ∃ a1 c1 a2 c2, e = .returned (.tuple #[.agg #[.int .i64 (rPtr f), .slice a1 (metasM f lv).length c1, .slice a2 (slotsM f lv).length c2], .int .i64 0]) ∧ w'.ownsRow w.heap.size 3 1 (.slice a1 (metasM f lv).length c1) (metasM f lv).length (cellsI (metasM f lv)) ∧ Below w.heap.size w w'
theorem div_mul_bd (f F S : Int) (h0 : F ≤ f) (hS : 1 ≤ S) : 0 ≤ (f - F) / S ∧ (f - F) / S ≤ f - F ∧ 0 ≤ (f - F) / S * S ∧ (f - F) / S * S ≤ f - F := by
  have h1 := Int.ediv_nonneg (show 0 ≤ f - F by omega) (show 0 ≤ S by omega)
  have h2 := Int.ediv_mul_le (f - F) (show S ≠ 0 by omega)
  have h3 := Int.ediv_le_self (a := f - F) S (by omega)
  exact ⟨h1, h3, Int.mul_nonneg h1 (by omega), h2⟩
set_option maxRecDepth 20000 in
set_option maxHeartbeats 1000000 in
theorem to_yes (n : Int) (w : World) (hn : -9223372036854775808 ≤ n) (h : isB n = true) (hr : lvOf n ≤ rLev (fOf n)) :
    Calls Try.prog 62 #[.int .i64 n] w (ToYes w (fOf n) (lvOf n)) := by
  have HF : Hid (∀ W, Calls Try.prog 45 #[.int .i64 n] W fun e w' => e = .returned (.tuple #[.agg #[.int .i64 (fOf n), .int .i64 (lvOf n)], .bool true]) ∧ Below W.heap.size W w') := fun W => find_yes n W hn h
  have hl := lvOf_bd n
  have hf := fOf_bd n h
  clear hn h
  generalize lvOf n = lv at *
  generalize fOf n = f at *
  have hL := rLev_bd f
  have hFst := rFst_bd f hf.1
  have HR := Lib.hid (root_any f)
  go_enter Try.func62, Try.ntmps62
  go_wp2_with fail
  have hg0 := blo_laid w 127 #[.int .i64 0, .slice none 0 0, .slice none 0 0]
  have G0 := Lib.hid hg0
  clear hg0
  have HB0 := Lib.hid (sup_below w (.cells #[.int .i64 0, .slice none 0 0, .slice none 0 0] 127))
  refine (HF.out _).mono ?_
  rintro e w1 ⟨rfl, hb1⟩
  have G1 := Lib.hid (G0.out.later hb1)
  have HB1 : Hid (Below w.heap.size w w1) := HB0.out.trans (hb1.mono HB0.out.size)
  have hz1 : w.heap.size < w1.heap.size := G1.out.lt
  clear hb1 G0 HB0
  go_wp2_with fail
  refine (HR.out _).mono ?_
  rintro e w2 ⟨rfl, rfl⟩
  clear HR
  go_wp2_with fail
  have P0 := blo_laid w1 108 #[.int .i64 f, .int .i64 lv]
  have P1 := blo_laid (w1.alloc (.cells #[.int .i64 f, .int .i64 lv] 108)) 127 #[.int .i64 (rPtr f), .slice none 0 0, .slice none 0 0]
  have P2 := blo_laid ((w1.alloc (.cells #[.int .i64 f, .int .i64 lv] 108)).alloc (.cells #[.int .i64 (rPtr f), .slice none 0 0, .slice none 0 0] 127)) 108 #[.int .i64 (rFst f), .int .i64 (rLev f)]
  have P3 : ToRel w f lv (rPtr f) (pathM f lv) w1.heap.size (.pointer (some ⟨w1.heap.size + 1 + 1, 0, none⟩)) (((w1.alloc (.cells #[.int .i64 f, .int .i64 lv] 108)).alloc (.cells #[.int .i64 (rPtr f), .slice none 0 0, .slice none 0 0] 127)).alloc (.cells #[.int .i64 (rFst f), .int .i64 (rLev f)] 108)) := by
    refine ⟨rFst f, rLev f, [], w1.heap.size + 1 + 1, .slice none 0 0, .slice none 0 0, rfl, hr, hL.2, hFst.1, hFst.2, by simp [pathM], by simp, ⟨?_, ?_, ?_, ?_, hz1, by omega, ⟨rfl, .inl ⟨rfl, rfl⟩⟩, ⟨rfl, .inl ⟨rfl, rfl⟩⟩, by simp [Value.ownBlock], ?_⟩⟩
    · simpa using P2
    · exact (P0.alloc _).alloc _
    · have := P1.alloc (.cells #[.int .i64 (rFst f), .int .i64 (rLev f)] 108); simpa using this
    · exact ((G1.out.alloc _).alloc _).alloc _
    · exact ((HB1.out.alloc HB1.out.size _).alloc (by simp; omega) _).alloc (by simp; omega) _
  have P := Lib.hid P3
  have HPost : Hid (ToYes w f lv = fun e w' => ∃ a1 c1 a2 c2, e = .returned (.tuple #[.agg #[.int .i64 (rPtr f), .slice a1 (pathM f lv).length c1, .slice a2 (pathM f lv).length c2], .int .i64 0]) ∧ w'.ownsRow w.heap.size 3 1 (.slice a1 (pathM f lv).length c1) (pathM f lv).length (cellsI ((pathM f lv).map (·.1))) ∧ Below w.heap.size w w') := by
    show _ = _
    unfold ToYes
    simp [metasM, slotsM]
  clear P0 P1 P2 P3 G1 HB1 HF hFst hr
  generalize pathM f lv = full at *
  generalize rPtr f = R at *
  generalize (((w1.alloc (.cells #[.int .i64 f, .int .i64 lv] 108)).alloc (.cells #[.int .i64 R, .slice none 0 0, .slice none 0 0] 127)).alloc (.cells #[.int .i64 (rFst f), .int .i64 (rLev f)] 108)) = w3 at *
  generalize w1.heap.size = gb at *
  go_loopw [10] (fun t wr => ToRel w f lv R full gb t wr) (fun t wr => match t with | .pointer (some a) => (match wr.cell? ⟨a.block, 1, none⟩ with | some (.int _ k) => k.toNat | _ => 0) | _ => 0)
  case atStart => exact P.out
  case round =>
    obtain ⟨F, L, done, ga, vm, vs, rfl, hlL, hL3, hF0, hFf, hfull, hdl, hst⟩ := hrel
    have ST := Lib.hid hst
    have HU := Lib.hid hfull
    have a0 := hst.ba.cell 0
    have a1 := hst.ba.cell 1
    have bb1 := hst.bb.cell 1
    have bb0 := hst.bb.cell 0
    have p0 := hst.bp.cell 0
    have p1 := hst.bp.cell 1
    have p2 := hst.bp.cell 2
    simp at a0 a1 bb0 bb1 p0 p1 p2
    clear hst hfull
    by_cases hlt : lv < L
    · have hs := spanM_bd (L - 1)
      have HS : Hid (∀ W, Calls Try.prog 49 #[.int .i64 (L - 1)] W fun e w' => e = .returned (.int .i64 (spanM (L - 1))) ∧ W = w') := fun W => span_any (L - 1) W (by omega) (by omega)
      have HN : Hid (∀ W, Calls Try.prog 50 #[.agg #[.int .i64 F, .int .i64 L]] W fun e w' => e = .returned (.int .i64 (numM F L)) ∧ Below W.heap.size W w') := fun W => number_any F L W hF0 (by omega) (by omega) hL3
      have hnext : Hid (done ++ [(numM F L, (f - F) / spanM (L - 1))] ++ stepsM (L - 1 - lv).toNat f (F + (f - F) / spanM (L - 1) * spanM (L - 1)) (L - 1) = full) := by
        show _ = _
        rw [← HU.out]
        have e : (L - lv).toNat = (L - 1 - lv).toNat + 1 := by omega
        rw [e]
        simp [stepsM]
      have hd := div_mul_bd f F (spanM (L - 1)) hFf hs.1
      clear HU
      generalize numM F L = N at *
      generalize spanM (L - 1) = S at *
      have hS0 : (S == 0) = false := by simpa using (by omega : ¬ S = 0)
      generalize hq : (f - F) / S = q at *
      have HQ := Lib.hid hq
      clear hq
      go_wp2_with fail
      refine (HS.out _).mono ?_
      rintro e wx ⟨rfl, rfl⟩
      go_wp2_with fail
      rw [HQ.out]
      obtain ⟨i0, hi0, hz0, hz1, hz2⟩ := info_parts info_int
      have hsz := ST.out.hb.size
      have KP : Hid (∀ W, Below wr.heap.size wr W → W.cell? ⟨gb + 1, 1, none⟩ = some vm) := fun W hb => by simpa using (ST.out.bp.later hb).cell 1
      go_cut [] (fun wx => ∃ g1 cap1, ToSt w gb ga f lv F L R (.slice (some ⟨g1, 0, none⟩) (done.length + 1) cap1) vs (done.length + 1) done.length (done.map (·.1) ++ [N]) (done.map (·.2)) wx)
      case first =>
        go_region_law (first
          | (refine step_append_lies _ (by rfl) _ _ _ (by rfl) w.heap.size 3 i0 _ 1 8 Try.underlying22 hi0 hz0 hz1 hz2 rfl (by omega) vm done.length (cellsI (done.map (·.1))) (by rfl) (own_later ST.out.om (HBx.out.alloc HBx.out.size _))
              ⟨wx.heap.size, 0, none⟩ 1 1 [.int .i64 N] (by rfl) (by rfl) (World.news_of_block (cs := #[.int .i64 N]) (t := 3) (fr := (0, 0)) (heap_alloc_new wx _)) (by simp [Value.oneCell'])
              (by omega) (by simp only [maxLen]; omega) (by omega) (by have := HBx.out.size; simp; omega) (wx.heap.size + 1) (by simp) ?_; intro g1 cap1 w4 hown hgrow hat hlt1
             have STx := Lib.hid (ST.out.later (HBx.out.alloc HBx.out.size (.cells #[.int .i64 N] 3)))
             have ST5 := Lib.hid (STx.out.appM (N := N) hgrow (by rw [← cellsI_append]; exact hown) (by simpa using hat))
             have hB4 := Lib.hid (STx.out.bp.grown hgrow (STx.out.bp.row_apart STx.out.om (by decide)))
             have hB5 : w4.cell? ⟨gb + 1, 1, none⟩ = some vm := by simpa using hB4.out.cell 1
             have hF4 := hB4.out.frozen 1
             clear hown hgrow hat hB4 STx hy1 hy2)
          | (go_simp; go_at_call 50; refine (HN.out _).mono ?_; rintro e wx ⟨rfl, hbx⟩; have HBx : Hid (Below wr.heap.size wr wx) := ((Below.refl _ _).drew).trans hbx; have hy1 := KP.out _ HBx.out; have hy2 := fun o => KP.out _ (HBx.out.alloc HBx.out.size o); clear hbx))
        all_goals (go_wp2_with fail; go_meet; exact ⟨g1, cap1, ST5.out⟩)
      case rest =>
        obtain ⟨g1, cap1, hst5⟩ := hcut
        have ST5 := Lib.hid hst5
        clear hst5 KP HN HS a0 a1 bb0 bb1 p0 p1 p2 hS0 HQ
        have a0 := ST5.out.ba.cell 0
        have a1 := ST5.out.ba.cell 1
        have p2 := ST5.out.bp.cell 2
        have fa0 := ST5.out.ba.frozen 0
        have fa1 := ST5.out.ba.frozen 1
        have fp2 := ST5.out.bp.frozen 2
        simp at a0 a1 p2
        have hz5 := ST5.out.hb.size
        have hne : ¬ (ga = gb + 1) := by have := ST5.out.l1; omega
        have hne2 : ¬ (gb + 1 = ga) := by have := ST5.out.l1; omega
        clear a0 a1 fa0 fa1
        go_wp2_with (at_builtin; refine wp_append_int rfl (.tmp 57) (.tmp 59) 22 rfl w.heap.size 3 Try.underlying22 info_int vs done.length (done.map (·.2)) rfl (own_later ST5.out.os ((Below.refl _ _).alloc (Nat.le_refl _) _)) _ q rfl (by simp) (by omega) (by simp <;> omega) ?_; intro g2 cap2 w6 hown hgrow hat hlt1; have STx := Lib.hid (ST5.out.later ((Below.refl _ _).alloc (Nat.le_refl _) (.cells #[.int .i64 q] 3))); have ST6 := Lib.hid (STx.out.appS (N := q) hgrow hown hat); have hB6 := Lib.hid (STx.out.bp.grown hgrow (STx.out.bp.row_apart STx.out.os (by decide))); have hA6 := Lib.hid (STx.out.ba.grown hgrow (STx.out.ba.row_apart STx.out.os (by decide))); have q2 : w6.cell? ⟨gb + 1, 2, none⟩ = some vs := (by simpa using hB6.out.cell 2); have fq2 := hB6.out.frozen 2; have a0 : w6.cell? ⟨ga, 0, none⟩ = some (.int .i64 F) := (by simpa using hA6.out.cell 0); have a1 : w6.cell? ⟨ga, 1, none⟩ = some (.int .i64 L) := (by simpa using hA6.out.cell 1); have fa0 := hA6.out.frozen 0; have fa1 := hA6.out.frozen 1; clear hown hgrow hat hB6 hA6 p2 fp2 STx)
        have ST7 := Lib.hid (ST6.out.turn (F' := F + q * S) (L' := L - 1) (g' := w6.heap.size) (by simp [World.setCell]))
        clear q2 fq2 a0 a1 fa0 fa1 ST5 ST6
        go_roundw
        case rel =>
          refine ⟨F + q * S, L - 1, done ++ [(N, q)], _, .slice (some ⟨g1, 0, none⟩) (done.length + 1) cap1, .slice (some ⟨g2, 0, none⟩) (done.length + 1) cap2, rfl, by omega, by omega, by omega, by omega, hnext.out, by simp; omega, ?_⟩
          have e := ST7.out
          simp only [List.map_append, List.length_append]
          exact e
        case measure =>
          have e0 := ST7.out.ba.cell 1
          simp at e0
          have e1 := ST.out.ba.cell 1
          simp at e1
          simp [e0, e1]
          omega
    · obtain rfl : L = lv := by omega
      have hdone : done = full := by rw [← HU.out]; simp [stepsM]
      clear HU
      subst hdone
      obtain ⟨am, cm, rfl, hcm⟩ := own_slice ST.out.om
      obtain ⟨az, cz, rfl, hcz⟩ := own_slice ST.out.os
      have hz := ST.out.b0.cell 0
      have hz1 := ST.out.b0.cell 1
      have hz2 := ST.out.b0.cell 2
      have hy0 := ST.out.b0.frozen 0
      have hy1 := ST.out.b0.frozen 1
      have hy2 := ST.out.b0.frozen 2
      simp at hz hz1 hz2
      go_wp2_with fail
      refine bodyPost_ret (v := .tuple #[.agg #[.int .i64 R, .slice am done.length cm, .slice az done.length cz], .int .i64 0]) (by simp [results, Try.results62, go_sem, hz, hz1, hz2]) rfl ?_
      rw [HPost.out]
      have hlz := ST.out.b0.row_apart ST.out.om (by decide)
      have hls := ST.out.b0.row_apart ST.out.os (by decide)
      exact ⟨am, cm, az, cz, rfl, own_far (own_far (own_far ST.out.om (p := ⟨w.heap.size, 0, none⟩) hlz _) (p := ⟨w.heap.size, 1, none⟩) hlz _) (p := ⟨w.heap.size, 2, none⟩) hlz _,
        ((ST.out.hb.setCell (p := ⟨w.heap.size, 0, none⟩) (Nat.le_refl _) _).setCell (p := ⟨w.heap.size, 1, none⟩) (Nat.le_refl _) _).setCell (p := ⟨w.heap.size, 2, none⟩) (Nat.le_refl _) _⟩
end Go.Proofs.Ytnlmpnpelnmpeaa
