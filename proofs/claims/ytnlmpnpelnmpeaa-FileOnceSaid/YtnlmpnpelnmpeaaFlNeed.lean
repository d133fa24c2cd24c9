/-
  The walk of need: the blocks of pointers come that lead to data.
-/
import Derived.Test.YtnlmpnpelnmpeaaFlGet
import Derived.Test.YtnlmpnpelnmpeaaFlPath
import Derived.Deep.DeepCutAuto
namespace Go.Proofs.Ytnlmpnpelnmpeaa
open Go.RowKit Go.Maps

theorem updO_self {α : Type} (f : Int → α) (x : Int) : updO f x (f x) = f := by
  funext y; unfold updO; split
  · rename_i h; rw [h]
  · rfl
def ctA (ct : Int → Int) (l : List Int) : Int → Int := fun x => ct x + if x ∈ l then 1 else 0
theorem ctA_nil (ct : Int → Int) : ctA ct [] = ct := by funext x; simp [ctA]
theorem ctA_snoc (ct : Int → Int) (l : List Int) (x : Int) (h : x ∉ l) : ctA ct (l ++ [x]) = updO (ctA ct l) x (ctA ct l x + 1) := by
  funext y
  by_cases e : y = x
  · subst e; rw [updO_at]; simp [ctA, h]
  · rw [updO_ne _ _ e]; simp [ctA, e]
theorem take_way {l : List Int} (hn : l.Nodup) {j : Nat} (hj : j < l.length) : l.take (j + 1) = l.take j ++ [l[j]] ∧ l[j] ∉ l.take j := by
  refine ⟨by rw [List.take_succ_eq_append_getElem hj], fun h => ?_⟩
  obtain ⟨i, hi, e⟩ := List.mem_take_iff_getElem.1 h
  have := (List.getElem_inj hn).1 e
  omega
section
variable {B M b n : Nat} {d : Nat → Int} {f : Int → Option Nat} {ad ct : Int → Int} {w w' : World}
theorem FC.fresh (h : FC B M b n d f ad ct w) (x : Int) (hf : f x = none) (hm : PM w' b (n + 1) (updO f x (some w.heap.size))) (hw : Blo w' w.heap.size MT #[.int .i64 0, .int .i64 1]) (hg : w.grownBy w' (some b)) :
    FC B M b (n + 1) d (updO f x (some w.heap.size)) ad (updO ct x (ct x + 1)) w' ∧ FS B b w w' := by
  obtain ⟨cs, hb, hr⟩ := h.box
  have hc0 : ct x = 0 := by have := h.is x; rw [hf] at this; have h0 := h.cB x; simp at this; omega
  have ha0 := h.az x hc0
  have hold : ∀ y g, f y = some g → g < w.heap.size := fun y g e => (h.mt y g e).1.lt
  refine ⟨⟨⟨cs, hb.grown hg (fun e => h.mp.blo hb (by simpa using e.symm)), hr⟩, hm, fun y => ?_, fun y k e => ?_, fun y z k e1 e2 => ?_, h.lo, h.dB, h.aB, fun y => ?_, fun y hy => ?_⟩, ?_⟩
  · by_cases e : y = x
    · subst e; rw [updO_at, updO_at, hc0]; rfl
    · rw [updO_ne _ _ e, updO_ne _ _ e]; exact h.is y
  · by_cases e2 : y = x
    · subst e2
      rw [updO_at] at e; cases e
      rw [updO_at, ha0, hc0]
      exact ⟨hw, h.hle⟩
    · rw [updO_ne _ _ e2] at e
      rw [updO_ne _ _ e2]
      exact ⟨(h.mt y k e).1.grown hg (fun e3 => h.mp.blo (h.mt y k e).1 (by simpa using e3.symm)), (h.mt y k e).2⟩
  · by_cases h1 : y = x <;> by_cases h2 : z = x
    · rw [h1, h2]
    · subst h1; rw [updO_at] at e1; rw [updO_ne _ _ h2] at e2; have := hold z k e2; cases e1; omega
    · subst h2; rw [updO_at] at e2; rw [updO_ne _ _ h1] at e1; have := hold y k e1; cases e2; omega
    · rw [updO_ne _ _ h1] at e1; rw [updO_ne _ _ h2] at e2; exact h.ap y z k e1 e2
  · by_cases e : y = x
    · subst e; rw [updO_at, hc0]; omega
    · rw [updO_ne _ _ e]; exact h.cB y
  · by_cases e : y = x
    · subst e; exact ha0
    · rw [updO_ne _ _ e] at hy; exact h.az y hy
  · exact FS.of_grown hg h.hle (fun y e => by
      cases e
      refine ⟨h.lo.2, fun o ho => ?_⟩
      obtain ⟨D, ⟨es, clock, hx, _⟩, _⟩ := h.mp
      rw [hx] at ho
      cases ho
      rfl)
def NdR (w : World) (B M b n : Nat) (d : Nat → Int) (ad ct : Int → Int) (ms : List Int) (q : Nat) (v : Value) (t : Value) (wr : World) : Prop :=
  ∃ (j : Nat) (f : Int → Option Nat) (c : Int → Int), j ≤ q ∧ t = .int .i64 j ∧ FC B M b (n + j) d f ad c wr ∧ c = ctA ct (ms.take j) ∧ FS B b w wr ∧ wr.ownsRow w.heap.size 3 1 v q (cellsI ms)
set_option maxHeartbeats 2000000 in
theorem need_any (k : Nat) (hk : k < 600) (h : FC B M b n d f ad ct w) (hc : ∀ x ∈ way k, ct x < 600) (hn : n < 900000) :
    Calls Try.prog 46 #[.pointer (some ⟨M, 0, none⟩), .int .i64 k] w fun e w' => e = .returned (.tuple #[]) ∧ (∃ f', FC B M b (n + (way k).length) d f' ad (ctA ct (way k)) w') ∧ FS B b w w' := by
  have HT := Lib.hid (fun W => to_data k W hk)
  have hW := way_f k hk
  have hl3 := hW.len
  have HN := Lib.hid hW.nodup
  have HBd := Lib.hid hW.bd
  generalize hms : way k = ms at *
  clear hms hW
  have HH := Lib.hid h
  have HC := Lib.hid hc
  have hBw := h.hle
  clear h hc
  go_enter Try.func46, Try.ntmps46
  go_wp2_with fail
  refine (HT.out _).mono ?_
  rintro e w1 ⟨r, a1, c1, a2, n2, c2, rfl, ho, hb1⟩
  obtain ⟨q, hq⟩ : ∃ q, q = ms.length := ⟨_, rfl⟩
  have HQ := Lib.hid hq
  rw [← hq] at ho hl3 ⊢
  have HO1 := Lib.hid ho
  have HH1 := Lib.hid (HH.out.later hb1)
  have HS1 := Lib.hid (FS.of_below (b := b) hb1 hBw)
  clear ho hb1 hq
  go_wp2_with fail
  have hl2 := sup_below w1 (.cells #[.int .i64 r, .slice a1 q c1, .slice a2 n2 c2] 127)
  have HO2 := Lib.hid (own_later HO1.out hl2)
  have HH2 := Lib.hid (HH1.out.later hl2)
  have HS2 := Lib.hid (HS1.out.trans (FS.of_below (b := b) hl2 HH1.out.hle))
  clear hl2 HO1 HH1 HS1
  generalize w1.alloc (.cells #[.int .i64 r, .slice a1 q c1, .slice a2 n2 c2] 127) = w2 at *
  go_loopw [16] (fun t wr => NdR w B M b n d ad ct ms q (.slice a1 q c1) t wr) (fun t _ => q - (intOf t).toNat)
  case atStart => exact ⟨0, f, ct, Nat.zero_le _, rfl, HH2.out, by rw [List.take_zero, ctA_nil], HS2.out, HO2.out⟩
  case round =>
    clear HH2 HS2 HO2
    obtain ⟨j, f1, c1x, hj, rfl, hh, hcx, hs, ho⟩ := hrel
    by_cases hlt : j < q
    · obtain ⟨g1, rfl, -, -, ⟨cs9, hb9⟩, -⟩ := own_some ho (by omega)
      have hl : j < ms.length := by rw [← HQ.out]; exact hlt
      obtain ⟨hT1, hT2⟩ := take_way HN.out hl
      have cJ : wr.cell? ⟨g1, j, none⟩ = some (.int .i64 ms[j]) := by
        rw [ho.cellAt j (by omega), cellsI_get ms j hl]; simp [List.getD_eq_getElem?_getD, hl]
      have hbx := HBd.out ms[j] (List.getElem_mem hl)
      have hcm := HC.out ms[j] (List.getElem_mem hl)
      have hcj : c1x ms[j] = ct ms[j] := by rw [hcx]; simp [ctA, hT2]
      have hcn : ctA ct (ms.take (j + 1)) = updO c1x ms[j] (c1x ms[j] + 1) := by rw [hT1, ctA_snoc _ _ _ hT2, ← hcx]
      rw [← hcj] at hcm
      clear hT1 hT2 hcx hcj hb9
      have HCn := Lib.hid hcn
      have HS := Lib.hid hs
      have HO := Lib.hid ho
      have HF := Lib.hid hh
      have HWf := Lib.hid (wfI ms[j] (by omega) (by omega))
      clear hcn hs ho
      generalize ms[j] = x at *
      clear hl
      have c600 := hh.bd
      have hcb := hh.cB x
      have hn2 : n + j < 1000000 := by omega
      cases hf : f1 x with
      | none =>
        have HP := Lib.hid hh.mp
        have HPn := Lib.hid (hh.mp.later (sup_pc wr (.cells #[.int .i64 0, .int .i64 0] MT)))
        clear hh
        go_wp2_with (first
          | (at_lookup; refine wp_look_some _ rfl _ _ PT rfl _ undM (zeroM _) b _ _ rfl HPm.out x rfl HWf.out wr.heap.size (updO_at _ _ _) ?_)
          | (at_lookup; refine wp_look_none _ rfl _ _ PT rfl _ undM (zeroM _) b _ _ rfl HP.out x rfl HWf.out hf ?_)
          | (at_mapUpdate; refine wp_map_put _ rfl _ _ _ PT rfl _ undM b (n + j) f1 rfl HPn.out hn2 x rfl HWf.out (some wr.heap.size) rfl rfl ?_; intro w4 hpm hgr; have HPm := Lib.hid hpm; have HGr := Lib.hid hgr; have hnb := HF.out.mp.lt; have HBx := Lib.hid ((blo_laid wr MT #[.int .i64 0, .int .i64 0]).grown hgr (by intro e; simp at e; omega)); have cm := HBx.out.cell 1; have fm := HBx.out.frozen 1; simp at cm; have c601 := ((HF.out.later (sup_pc wr (.cells #[.int .i64 0, .int .i64 0] MT))).kept_bd hgr); clear hpm hgr hnb))
        have hfr := HF.out.fresh x hf (HPm.out.far (a := ⟨wr.heap.size, 1, none⟩) (by have := HF.out.mp.lt; show b ≠ wr.heap.size; omega) (.int .i64 1)) (HBx.out.put 1 (.int .i64 1)) (grown_new HGr.out)
        have hc0 : c1x x + 1 = 1 := by have := HF.out.is x; rw [hf] at this; simp at this; omega
        go_roundw
        case rel => exact ⟨j + 1, _, _, hlt, by simp, hfr.1, HCn.out.symm, HS.out.trans hfr.2, hfr.2.own HO.out (by decide) (by decide)⟩
        case measure => simp [intOf]; omega
      | some g =>
        have HP := Lib.hid hh.mp
        have hmt := (hh.mt x g hf).1
        obtain ⟨cv, hcv⟩ : ∃ cv, c1x x = cv := ⟨_, rfl⟩
        rw [hcv] at hmt hcb hcm
        have HCv := Lib.hid hcv
        have HBg := Lib.hid hmt
        have cm := hmt.cell 1
        have fm := hmt.frozen 1
        simp at cm
        clear hh hmt hcv
        go_wp2_with (at_lookup; refine wp_look_some _ rfl _ _ PT rfl _ undM (zeroM _) b _ _ rfl HP.out x rfl HWf.out g hf ?_)
        have hmm : FC B M b (n + j) d f1 ad (ctA ct (ms.take (j + 1))) (wr.setCell ⟨g, 1, none⟩ (.int .i64 (cv + 1))) ∧ FS B b wr (wr.setCell ⟨g, 1, none⟩ (.int .i64 (cv + 1))) := by
          have e := HF.out.meta x g hf (ad x) (cv + 1) (HF.out.aB x) (by omega) (HBg.out.put 1 (.int .i64 (cv + 1))) (grown_put wr ⟨g, 1, none⟩ _)
          rw [updO_self] at e
          rw [HCn.out, HCv.out]
          exact e
        go_roundw
        case rel => exact ⟨j + 1, _, _, hlt, by simp, hmm.1.mono (by omega), rfl, HS.out.trans hmm.2, hmm.2.own HO.out (by decide) (by decide)⟩
        case measure => simp [intOf]; omega
    · obtain rfl : j = q := by omega
      have hcx2 : c1x = ctA ct ms := by rw [hcx, HQ.out, List.take_length]
      have HF := Lib.hid hh
      have HS := Lib.hid hs
      rw [hcx2] at HF
      clear hh hs ho hcx hcx2
      go_wp2_with fail
      go_end0
      exact ⟨rfl, ⟨f1, by have e := HF.out; rw [HQ.out] at e; exact e⟩, HS.out⟩
end
end Go.Proofs.Ytnlmpnpelnmpeaa
