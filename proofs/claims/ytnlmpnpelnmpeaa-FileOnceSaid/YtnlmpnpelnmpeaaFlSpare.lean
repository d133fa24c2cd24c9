/-
  The walk of spare: the blocks of pointers go that led to data alone.
-/
import Derived.Test.YtnlmpnpelnmpeaaFlNeed
namespace Go.Proofs.Ytnlmpnpelnmpeaa
open Go.RowKit Go.Maps

def ctS (ct : Int → Int) (l : List Int) : Int → Int := fun x => ct x - if x ∈ l then 1 else 0
def adS (ct ad : Int → Int) (l : List Int) : Int → Int := fun x => if x ∈ l ∧ ct x = 1 then 0 else ad x
/-- The addresses that are told no more. -/
def glM (ct ad : Int → Int) (l : List Int) : List Int := l.flatMap fun x => if ct x = 1 then goneM (ad x) 0 else []
theorem ctS_nil (ct : Int → Int) : ctS ct [] = ct := by funext x; simp [ctS]
theorem adS_nil (ct ad : Int → Int) : adS ct ad [] = ad := by funext x; simp [adS]
theorem ctS_snoc (ct : Int → Int) (l : List Int) (x : Int) (h : x ∉ l) : ctS ct (l ++ [x]) = updO (ctS ct l) x (ctS ct l x - 1) := by
  funext y
  by_cases e : y = x
  · subst e; rw [updO_at]; simp [ctS, h]
  · rw [updO_ne _ _ e]; simp [ctS, e]
theorem adS_one (ct ad : Int → Int) (l : List Int) (x : Int) (h : ct x = 1) : adS ct ad (l ++ [x]) = updO (adS ct ad l) x 0 := by
  funext y
  by_cases e : y = x
  · subst e; rw [updO_at]; simp [adS, h]
  · rw [updO_ne _ _ e]; simp [adS, e]
theorem adS_more (ct ad : Int → Int) (l : List Int) (x : Int) (h : ct x ≠ 1) : adS ct ad (l ++ [x]) = adS ct ad l := by
  funext y
  by_cases e : y = x
  · subst e; simp [adS, h]
  · simp [adS, e]
theorem glM_snoc (ct ad : Int → Int) (l : List Int) (x : Int) : glM ct ad (l ++ [x]) = glM ct ad l ++ (if ct x = 1 then goneM (ad x) 0 else []) := by simp [glM]
theorem goneM_len (a b : Int) : (goneM a b).length ≤ 1 := by unfold goneM; split <;> simp
theorem glM_len (ct ad : Int → Int) : ∀ l : List Int, (glM ct ad l).length ≤ l.length
  | [] => by simp [glM]
  | x :: l => by
    have ih := glM_len ct ad l
    have := goneM_len (ad x) 0
    have e : glM ct ad (x :: l) = (if ct x = 1 then goneM (ad x) 0 else []) ++ glM ct ad l := by simp [glM]
    rw [e, List.length_append, List.length_cons]
    split
    · omega
    · simp only [List.length_nil]; omega
section
variable {B M b n : Nat} {d : Nat → Int} {f : Int → Option Nat} {ad ct : Int → Int} {w w' w'' : World}
theorem FS.row (h : FS B b w w') {base m size : Nat} {e : TypeId} {v : Value} {xs : List Value} (hv : w'.ownsRow base e size v m xs) (hb : w.heap.size ≤ base) (hB : B ≤ w.heap.size) (hg : w'.grownBy w'' v.ownBlock) : FS B b w w'' := by
  have hne : ∀ y, y < base → some y ≠ v.ownBlock := fun y hy e => by
    rcases hv.2 with ⟨rfl, _⟩ | ⟨g, cap, cur, rfl, h1, _⟩
    · cases e
    · have : y = g := by simpa [Value.ownBlock] using e
      omega
  have hsz := h.sz
  refine ⟨h.be.trans ⟨hg.os, hg.tape, hg.output, hg.size, fun y hy => hg.block y (by omega) (hne y (by omega))⟩, Nat.le_trans hsz hg.size, fun y o h1 h2 => ?_⟩
  have hl : y < w.heap.size := (Array.getElem?_eq_some_iff.1 h1).1
  rw [hg.block y (by omega) (hne y (by omega))]
  exact h.st y o h1 h2
theorem FC.del (h : FC B M b n d f ad ct w) (x : Int) (g : Nat) (hf : f x = some g) (u : Value) (hm : PM w' b n (updO f x none)) (hg : (w.setCell ⟨g, 1, none⟩ u).grownBy w' (some b)) :
    FC B M b n d (updO f x none) (updO ad x 0) (updO ct x 0) w' ∧ FS B b w w' := by
  obtain ⟨cs, hb, hr⟩ := h.box
  have hx := (h.mt x g hf).1
  have hg1 := grown_put w ⟨g, 1, none⟩ u
  have stay : ∀ {k : Nat} {t : TypeId} {c : Array Value}, Blo w k t c → k ≠ g → Blo w' k t c := fun {k} {t} {c} hk hkg =>
    (hk.grown hg1 (fun e => hkg (Option.some.inj e))).grown hg (fun e => h.mp.blo hk (Option.some.inj e).symm)
  refine ⟨⟨⟨cs, stay hb (hb.apart hx (by decide)), hr⟩, hm, fun y => ?_, fun y k e => ?_, fun y z k e1 e2 => ?_, h.lo, h.dB, fun y => ?_, fun y => ?_, fun y hy => ?_⟩, ?_⟩
  · by_cases e : y = x
    · subst e; rw [updO_at, updO_at]; rfl
    · rw [updO_ne _ _ e, updO_ne _ _ e]; exact h.is y
  · by_cases e2 : y = x
    · subst e2; rw [updO_at] at e; cases e
    · rw [updO_ne _ _ e2] at e
      rw [updO_ne _ _ e2, updO_ne _ _ e2]
      exact ⟨stay (h.mt y k e).1 (fun e3 => e2 (h.ap y x g (by rw [e, e3]) hf)), (h.mt y k e).2⟩
  · by_cases h1 : y = x
    · subst h1; rw [updO_at] at e1; cases e1
    · by_cases h2 : z = x
      · subst h2; rw [updO_at] at e2; cases e2
      · rw [updO_ne _ _ h1] at e1; rw [updO_ne _ _ h2] at e2; exact h.ap y z k e1 e2
  · by_cases e : y = x
    · subst e; rw [updO_at]; omega
    · rw [updO_ne _ _ e]; exact h.aB y
  · by_cases e : y = x
    · subst e; rw [updO_at]; omega
    · rw [updO_ne _ _ e]; exact h.cB y
  · by_cases e : y = x
    · subst e; rw [updO_at]
    · rw [updO_ne _ _ e] at hy; rw [updO_ne _ _ e]; exact h.az y hy
  · have s1 : FS B b w (w.setCell ⟨g, 1, none⟩ u) := FS.of_grown hg1 h.hle (fun y e => by
      cases e
      refine ⟨(h.mt x g hf).2, fun o ho => ?_⟩
      rw [show w.heap[g]? = _ from hx] at ho
      cases ho
      exact .inr rfl)
    refine s1.trans (FS.of_grown hg (Nat.le_trans h.hle s1.sz) (fun y e => by
      cases e
      refine ⟨h.lo.2, fun o ho => ?_⟩
      have h2 := h.mp.far (a := ⟨g, 1, none⟩) (h.mp.blo hx) u
      obtain ⟨D, ⟨es, clock, hy, _⟩, _⟩ := h2
      rw [hy] at ho
      cases ho
      rfl))
def SpR (w : World) (B M b n : Nat) (d : Nat → Int) (ad ct : Int → Int) (ms : List Int) (q B2 : Nat) (v1 : Value) (v t : Value) (wr : World) : Prop :=
  ∃ (j : Nat) (f : Int → Option Nat) (a c : Int → Int) (m : Nat) (l : List Int), j ≤ q ∧ t = .int .i64 j ∧ FC B M b n d f a c wr ∧ c = ctS ct (ms.take j) ∧ a = adS ct ad (ms.take j) ∧ FS B b w wr ∧ wr.ownsRow w.heap.size 3 1 v1 q (cellsI ms) ∧
    wr.ownsRow B2 3 1 v m (cellsI l) ∧ m = l.length ∧ l = glM ct ad (ms.take j) ∧ m ≤ j
theorem own_weak {w : World} {b s : Nat} {e : TypeId} {size n : Nat} {v : Value} {xs : List Value} (h : w.ownsRow b e size v n xs) (hs : s ≤ b) : w.ownsRow s e size v n xs := by
  refine ⟨h.1, ?_⟩
  rcases h.2 with h1 | ⟨g, cap, cur, h1, h2, h3⟩
  · exact .inl h1
  · exact .inr ⟨g, cap, cur, h1, by omega, h3⟩
set_option maxHeartbeats 4000000 in
theorem spare_any (k : Nat) (hk : k < 600) (h : FC B M b n d f ad ct w) (hc : ∀ x ∈ way k, 1 ≤ ct x) :
    Calls Try.prog 47 #[.pointer (some ⟨M, 0, none⟩), .int .i64 k] w fun e w' => ∃ v m, e = .returned v ∧ m = (glM ct ad (way k)).length ∧ w'.ownsRow w.heap.size 3 1 v m (cellsI (glM ct ad (way k))) ∧ (∃ f', FC B M b n d f' (adS ct ad (way k)) (ctS ct (way k)) w') ∧ FS B b w w' := by
  have HT := Lib.hid (fun W => to_data k W hk)
  have hW := way_f k hk
  have hl3 := hW.len
  have HN := Lib.hid hW.nodup
  have HBd := Lib.hid hW.bd
  generalize hms : way k = ms at *
  clear hms hW
  have HH := Lib.hid h
  have HC := Lib.hid hc
  have hBw := h.hle
  clear h hc
  go_enter Try.func47, Try.ntmps47
  go_wp2_with fail
  refine (HT.out _).mono ?_
  rintro e w1 ⟨r, a1, c1, a2, n2, c2, rfl, ho, hb1⟩
  obtain ⟨q, hq⟩ : ∃ q, q = ms.length := ⟨_, rfl⟩
  have HQ := Lib.hid hq
  rw [← hq] at ho hl3 ⊢
  have HO1 := Lib.hid ho
  have HH1 := Lib.hid (HH.out.later hb1)
  have HS1 := Lib.hid (FS.of_below (b := b) hb1 hBw)
  clear ho hb1 hq
  go_wp2_with fail
  have hl2 := sup_below w1 (.cells #[.int .i64 r, .slice a1 q c1, .slice a2 n2 c2] 127)
  have HO2 := Lib.hid (own_later HO1.out hl2)
  have HA : Hid (∀ y, (Value.slice a1 q c1).ownBlock = some y → y < w1.heap.size) := fun y e => by
    rcases HO1.out.2 with ⟨e2, _⟩ | ⟨g, cap, cur, e2, _, h3, _⟩
    · rw [e2] at e; cases e
    · rw [e2] at e; cases e; exact Blo.lt h3
  have HH2 := Lib.hid (HH1.out.later hl2)
  have HS2 := Lib.hid (HS1.out.trans (FS.of_below (b := b) hl2 HH1.out.hle))
  have hwz : w.heap.size ≤ w1.heap.size := HS1.out.sz
  have hwz2 := hl2.size
  clear hl2 HO1 HH1 HS1
  generalize hB2 : w1.heap.size = B2 at *
  generalize w1.alloc (.cells #[.int .i64 r, .slice a1 q c1, .slice a2 n2 c2] 127) = w2 at *
  clear hB2
  go_loopw [7, 19] (fun v t wr => SpR w B M b n d ad ct ms q B2 (.slice a1 q c1) v t wr ∧ B2 ≤ wr.heap.size) (fun _ t _ => q - (intOf t).toNat)
  case atStart => exact ⟨⟨0, f, ad, ct, 0, [], Nat.zero_le _, rfl, HH2.out, by rw [List.take_zero, ctS_nil], by rw [List.take_zero, adS_nil], HS2.out, HO2.out, ⟨rfl, .inl ⟨rfl, rfl⟩⟩, rfl, by simp [glM], Nat.le_refl _⟩, hwz2⟩
  case round =>
    clear HH2 HS2 HO2
    obtain ⟨⟨j, f1, ax, cx, m, l, hj, rfl, hh, hcx, hax, hs, ho, hol, hm, hl, hmj⟩, hBr⟩ := hrel
    obtain ⟨la, lc, rfl, -⟩ := own_slice hol
    by_cases hlt : j < q
    · obtain ⟨g1, rfl, -, -, ⟨cs9, hb9⟩, -⟩ := own_some ho (by omega)
      have hjl : j < ms.length := by rw [← HQ.out]; exact hlt
      obtain ⟨hT1, hT2⟩ := take_way HN.out hjl
      have cJ : wr.cell? ⟨g1, j, none⟩ = some (.int .i64 ms[j]) := by
        rw [ho.cellAt j (by omega), cellsI_get ms j hjl]; simp [List.getD_eq_getElem?_getD, hjl]
      have hbx := HBd.out ms[j] (List.getElem_mem hjl)
      have hcm := HC.out ms[j] (List.getElem_mem hjl)
      have hcj : cx ms[j] = ct ms[j] := by rw [hcx]; simp [ctS, hT2]
      have haj : ax ms[j] = ad ms[j] := by rw [hax]; simp [adS, hT2]
      have hcn : ctS ct (ms.take (j + 1)) = updO cx ms[j] (cx ms[j] - 1) := by rw [hT1, ctS_snoc _ _ _ hT2, ← hcx]
      have ha1 : ct ms[j] = 1 → adS ct ad (ms.take (j + 1)) = updO ax ms[j] 0 := fun e => by rw [hT1, adS_one _ _ _ _ e, ← hax]
      have ha2 : ct ms[j] ≠ 1 → adS ct ad (ms.take (j + 1)) = ax := fun e => by rw [hT1, adS_more _ _ _ _ e, ← hax]
      have hgl : glM ct ad (ms.take (j + 1)) = l ++ (if ct ms[j] = 1 then goneM (ax ms[j]) 0 else []) := by rw [hT1, glM_snoc, ← hl, haj]
      rw [← hcj] at hcm ha1 ha2 hgl
      clear hT1 hT2 hcx hax hcj haj hb9 hl
      have HCn := Lib.hid hcn
      have HA1 := Lib.hid ha1
      have HA2 := Lib.hid ha2
      have HGl := Lib.hid hgl
      have HS := Lib.hid hs
      have HO := Lib.hid ho
      have HL := Lib.hid hol
      have HM := Lib.hid hm
      have HF := Lib.hid hh
      have HWf := Lib.hid (wfI ms[j] (by omega) (by omega))
      clear hcn ha1 ha2 hgl hs ho hol hm
      generalize ms[j] = x at *
      clear hjl hbx
      have c600 := hh.bd
      have hcb := hh.cB x
      obtain ⟨g, hf⟩ : ∃ g, f1 x = some g := by
        have := hh.is x
        rw [decide_eq_true (by omega)] at this
        exact Option.isSome_iff_exists.1 this
      have HP := Lib.hid hh.mp
      have hmt := (hh.mt x g hf).1
      obtain ⟨cv, hcv⟩ : ∃ cv, cx x = cv := ⟨_, rfl⟩
      obtain ⟨av, hav⟩ : ∃ av, ax x = av := ⟨_, rfl⟩
      rw [hcv, hav] at hmt
      rw [hcv] at hcb hcm
      have HCv := Lib.hid hcv
      have HAv := Lib.hid hav
      have cm := hmt.cell 1
      have fm := hmt.frozen 1
      have HBg := Lib.hid hmt
      obtain ⟨cs0, hb0, _⟩ := hh.box
      have hne := hmt.apart hb0 (by decide)
      clear hb0
      simp at cm
      clear hmt hcv hav
      by_cases hone : cv = 1
      · subst hone
        have HPn := Lib.hid (HP.out.far (a := ⟨g, 1, none⟩) (HP.out.blo HBg.out) (.int .i64 0))
        have hbg : b ≠ g := HP.out.blo HBg.out
        have HBg2 := Lib.hid (HBg.out.put 1 (.int .i64 0))
        clear hh
        go_wp2_with (first
          | (at_lookup; refine wp_look_some _ rfl _ _ PT rfl _ undM (zeroM _) b _ _ rfl HP.out x rfl HWf.out g hf ?_)
          | (at_delete; refine wp_map_del _ rfl _ _ PT rfl _ undM b n f1 rfl HPn.out x rfl HWf.out ?_; intro w4 hpm hgr; have HPm := Lib.hid hpm; have HGr := Lib.hid hgr; have HBx := Lib.hid (HBg2.out.grown hgr (by intro e; exact hbg (Option.some.inj e).symm)); have cm0 := HBx.out.cell 0; simp at cm0; clear hpm hgr))
        have hdl := HF.out.del x g hf (.int .i64 0) HPm.out HGr.out
        have HF4 := Lib.hid hdl.1
        have HS4 := Lib.hid (HS.out.trans hdl.2)
        have HO4 := Lib.hid (hdl.2.own HO.out (by decide) (by decide))
        have HL4 := Lib.hid (hdl.2.own HL.out (by decide) (by decide))
        have hz4 := hdl.2.sz
        clear hdl HPm HGr HPn HBg2 HBx HP c600 cm fm cJ
        refine (gone_any B2 m (.slice la m lc) l av 0 HL4.out (by omega) (by omega)).mono ?_
        rintro e w5 ⟨v5, rfl, hr5, hg5⟩
        have HF5 := Lib.hid (HF4.out.row HL4.out (by decide) (by decide) hg5)
        have HS5 := Lib.hid (HS4.out.row HL4.out (by omega) hBw hg5)
        have HO5 := Lib.hid (own_grown_ne HO4.out HL4.out HA.out hg5)
        have hz5 := hg5.size
        have hgo : (goneM av 0).length ≤ 1 := goneM_len _ _
        have hnew : glM ct ad (ms.take (j + 1)) = l ++ goneM av 0 := by rw [HGl.out, HCv.out, if_pos rfl, HAv.out]
        have hct : ctS ct (ms.take (j + 1)) = updO cx x 0 := by rw [HCn.out, HCv.out]; rfl
        have had : adS ct ad (ms.take (j + 1)) = updO ax x 0 := HA1.out HCv.out
        have hlen : m + (goneM av 0).length = (l ++ goneM av 0).length := by rw [List.length_append, HM.out]
        go_wp2_with fail
        go_roundw
        case rel => exact ⟨⟨j + 1, _, _, _, _, _, hlt, by simp, HF5.out, hct.symm, had.symm, HS5.out, HO5.out, hr5, hlen, hnew.symm, by omega⟩, by omega⟩
        case measure => simp [intOf]; omega
      · have h2 : ¬ (cv - 1 = 0) := by omega
        have hc2 := HBg.out.put 1 (.int .i64 (cv - 1))
        have hmm : FC B M b n d f1 (adS ct ad (ms.take (j + 1))) (ctS ct (ms.take (j + 1))) (wr.setCell ⟨g, 1, none⟩ (.int .i64 (cv - 1))) ∧ FS B b wr (wr.setCell ⟨g, 1, none⟩ (.int .i64 (cv - 1))) := by
          have e := HF.out.meta x g hf av (cv - 1) (by rw [← HAv.out]; exact HF.out.aB x) (by omega) hc2 (grown_put wr ⟨g, 1, none⟩ _)
          rw [← HAv.out, updO_self] at e
          rw [HCn.out, HCv.out, HA2.out (by rw [HCv.out]; exact hone)]
          exact e
        have hgl2 : glM ct ad (ms.take (j + 1)) = l := by rw [HGl.out, HCv.out, if_neg hone, List.append_nil]
        have HMM := Lib.hid hmm
        have HG2 := Lib.hid hgl2
        clear hh hmm hgl2 hc2
        go_wp2_with (at_lookup; refine wp_look_some _ rfl _ _ PT rfl _ undM (zeroM _) b _ _ rfl HP.out x rfl HWf.out g hf ?_)
        have hz4 := HMM.out.2.sz
        go_roundw
        case rel => exact ⟨⟨j + 1, _, _, _, _, _, hlt, by simp, HMM.out.1, rfl, rfl, HS.out.trans HMM.out.2, HMM.out.2.own HO.out (by decide) (by decide), HMM.out.2.own HL.out (by decide) (by decide), HM.out, HG2.out.symm, by omega⟩, by omega⟩
        case measure => simp [intOf]; omega
    · obtain rfl : j = q := by omega
      rw [HQ.out, List.take_length] at hcx hax hl
      have HF := Lib.hid hh
      have HS := Lib.hid hs
      have HL := Lib.hid hol
      rw [hcx, hax] at HF
      subst hl
      have HM := Lib.hid hm
      clear hh hs ho hcx hax hol hm hmj
      go_wp2_with fail
      go_ret
      exact ⟨_, m, rfl, HM.out, own_weak HL.out hwz, ⟨f1, HF.out⟩, HS.out⟩
end
end Go.Proofs.Ytnlmpnpelnmpeaa
