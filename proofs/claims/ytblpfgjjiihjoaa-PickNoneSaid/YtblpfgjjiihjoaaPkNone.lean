/-
  The walk of PickNone.
-/
import Derived.Test.YtblpfgjjiihjoaaPkTurned
import Derived.Test.YtblpfgjjiihjoaaPkTake
namespace Go.Proofs.Ytblpfgjjiihjoaa
open Go.RowKit

section
variable {w w' : World} {l : List Cd} {n cap : Nat}
theorem blo_cells {g : Nat} {t : TypeId} : ∀ (vs : List Value) (o : Nat) (w : World) (cs : Array Value), Blo w g t cs → ∃ cs', Blo (w.setCells g o vs) g t cs' ∧ cs'.size = cs.size ∧ ∀ j, cs'[j]? = if o ≤ j ∧ j < o + vs.length ∧ j < cs.size then vs[j - o]? else cs[j]? := by
  intro vs
  induction vs with
  | nil => intro o w cs h; exact ⟨cs, h, rfl, fun j => by rw [if_neg]; simp; omega⟩
  | cons v vs ih =>
    intro o w cs h
    obtain ⟨cs', h1, h2, h3⟩ := ih (o + 1) (w.setCell ⟨g, o, none⟩ v) (cs.setIfInBounds o v) (h.put o v)
    refine ⟨cs', h1, by simpa using h2, fun j => ?_⟩
    rw [h3 j, Array.size_setIfInBounds, List.length_cons]
    by_cases c1 : o + 1 ≤ j ∧ j < o + 1 + vs.length ∧ j < cs.size
    · rw [if_pos c1, if_pos (by omega), show j - o = (j - (o + 1)) + 1 by omega, List.getElem?_cons_succ]
    · rw [if_neg c1, Array.getElem?_setIfInBounds]
      by_cases e : o = j
      · subst e
        rw [if_pos rfl]
        by_cases hs : o < cs.size
        · rw [if_pos hs, if_pos (by omega), Nat.sub_self, List.getElem?_cons_zero]
        · rw [if_neg hs, if_neg (by omega), Array.getElem?_eq_none (by omega)]
      · rw [if_neg e, if_neg (by omega)]
theorem erase_parts (V : List Cd) (p : Nat) : V.eraseIdx p = V.take p ++ V.drop (p + 1) := List.eraseIdx_eq_take_drop_succ ..
theorem own_cut {base g cp p : Nat} {V : List Cd} (h : w.ownsRow base CD 4 (.slice (some ⟨g, 0, none⟩) n cp) n (cellsI (flatC V))) (hn : n = V.length) (hp : p < n) :
    (w.setCells g (p * 4) (cellsI (flatC (V.drop (p + 1))))).ownsRow base CD 4 (.slice (some ⟨g, 0, none⟩) (p + (n - (p + 1))) cp) (p + (n - (p + 1))) (cellsI (flatC (V.eraseIdx p))) := by
  obtain ⟨q1, ⟨q2, _⟩ | ⟨g', cap', cur, hv, a1, a2, a3, a4, a5, a6⟩⟩ := h
  · cases q2
  · cases hv
    obtain ⟨cs', h1, h2, h3⟩ := blo_cells (cellsI (flatC (V.drop (p + 1)))) (p * 4) w cur a2
    have hlen : (cellsI (flatC (V.eraseIdx p))).length = (p + (n - (p + 1))) * 4 := by
      rw [cellsI_length, flatC_length, List.length_eraseIdx_of_lt (by omega)]; omega
    refine ⟨hlen, .inr ⟨g, cp, cs', rfl, a1, h1, by omega, a4, by rw [h2]; exact a5, ?_⟩⟩
    have hd : (cellsI (flatC (V.drop (p + 1)))).length = (n - (p + 1)) * 4 := by rw [cellsI_length, flatC_length, List.length_drop]; omega
    have hk : (cellsI (flatC (V.take p))).length = p * 4 := by rw [cellsI_length, flatC_length, List.length_take]; omega
    have hsz : n * 4 ≤ cp * 4 := by omega
    apply List.ext_getElem?
    intro j
    rw [List.getElem?_take, erase_parts, ← flatC_append, ← cellsI_append]
    by_cases hj : j < (p + (n - (p + 1))) * 4
    · rw [if_pos hj, Array.getElem?_toList, h3 j, hd]
      by_cases hjp : j < p * 4
      · rw [if_neg (by omega), List.getElem?_append_left (by omega)]
        have e1 : (cellsI (flatC V))[j]? = cur[j]? := by
          rw [← a6, List.getElem?_take_of_lt (by omega), Array.getElem?_toList]
        have e2 : (cellsI (flatC (V.take p)) ++ cellsI (flatC (V.drop p)))[j]? = (cellsI (flatC V))[j]? := by rw [cellsI_append, flatC_append, List.take_append_drop]
        rw [← e1, ← e2, List.getElem?_append_left (by omega)]
      · rw [if_pos (by omega), List.getElem?_append_right (by omega), hk]
    · rw [if_neg hj, List.getElem?_eq_none]
      rw [List.length_append, hk, hd]; omega
theorem insC_perm (out : List Cd) (c : Cd) : (insC out c).Perm (c :: out) := by
  unfold insC
  refine List.perm_middle.trans ?_
  rw [List.take_append_drop]
theorem ordC_perm (l : List Cd) : (ordC l).Perm l := by
  refine list_snoc (p := fun l => (ordC l).Perm l) (by simp [ordC]) (fun l a ih => ?_) l
  rw [ordC_snoc]
  refine (insC_perm _ _).trans ((ih.cons a).trans ?_)
  exact (List.perm_append_singleton a l).symm
theorem ordC_calm (hg : GoodL l) : (ordC l).Pairwise (fun a b => betB b a = false) := by
  have h1 : ordC l = (ordR (rks l)).map Rk.c := by rw [ordR_map, rks_map]
  rw [h1, List.pairwise_map]
  exact (ordR_sort l hg).imp fun h => ((less_not _ _).1 h.1).1
theorem cutS_from {g k cp p : Nat} {L : List Cd} (hL : L.length = k) (hk : k ≤ cp) (hp : p ≤ k) (hmx : k ≤ 1000000) (hC : Cds w (some ⟨g, 0, none⟩) L) :
    ∃ ad : Addr, (∀ W : World, (Instr.slice SC (.slice (some ⟨g, 0, none⟩) k cp) (some (.int .i64 p)) none none).run Try.prog W = .ok (.slice (some ad) (k - p) (cp - p)) W) ∧ Cds w (some ad) (L.drop p) := by
  obtain ⟨y, h1, h2, h3⟩ := cutP_from (p := p) hL hk hp hmx hC (fun h => by cases h)
  cases y with
  | some ad => exact ⟨ad, h1, h2⟩
  | none =>
    have ht' : Try.prog.underlying SC = some (.slice (Try.prog.elem SC)) := by simp [Program.elem, Try.underlying22]
    have he : Try.prog.elem SC = CD := by simp [Program.elem, Try.underlying22]
    have := h1 w
    rw [run_slice_l w SC _ _ _ ht' .i64 _ (by omega) (by omega), he, size_cd] at this
    simp [Result.andThen, sliced] at this
    split at this <;> cases this
theorem below_cells {B g : Nat} {a : World} (hg : B ≤ g) : ∀ (vs : List Value) (o : Nat) {w : World}, Below B a w → Below B a (w.setCells g o vs)
  | [], _, _, h => h
  | v :: vs, o, _, h => below_cells hg vs (o + 1) (h.setCell (p := ⟨g, o, none⟩) hg v)
structure NnR (w3 : World) (V : List Cd) (x : Option Addr) (cp : Nat) (wr : World) : Prop where
  own : wr.ownsRow w3.heap.size CD 4 (.slice x V.length cp) V.length (cellsI (flatC V))
  below : Below w3.heap.size w3 wr
theorem NnR.later {w3 wr : World} {V : List Cd} {x : Option Addr} {cp : Nat} (h : NnR w3 V x cp wr) (hb : Below wr.heap.size wr w') : NnR w3 V x cp w' := ⟨own_later h.own hb, h.below.trans (hb.mono h.below.size)⟩
def NnI (w3 : World) (T : List Cd) (m : Nat) (v i : Value) (wr : World) : Prop :=
  ∃ (p : Nat) (V : List Cd) (x : Option Addr) (cp : Nat), p ≤ m ∧ i = .int .i64 p ∧ v = .slice x V.length cp ∧ V.Perm (T.drop p) ∧ NnR w3 V x cp wr
def AtIs (V : List Cd) (c : Cd) (q : Nat) (at_ : Int) : Prop := (at_ = -1 ∧ ∀ j, j < q → V.getD j c0 ≠ c) ∨ (∃ p : Nat, p < q ∧ at_ = p ∧ V.getD p c0 = c)
def AtJ (w3 : World) (V : List Cd) (x : Option Addr) (cp : Nat) (c : Cd) (gx : Nat) (v i : Value) (wr : World) : Prop :=
  ∃ (q : Nat) (at_ : Int), q ≤ V.length ∧ i = .int .i64 q ∧ v = .int .i64 at_ ∧ AtIs V c q at_ ∧ NnR w3 V x cp wr ∧ Blo wr gx CD (cdv c)
def NnC (w3 : World) (V : List Cd) (x : Option Addr) (cp : Nat) (i : Value) (wr : World) : Prop :=
  ∃ p : Nat, p ≤ V.length ∧ i = .int .i64 p ∧ NnR w3 V x cp wr
def NnD (w3 : World) (V : List Cd) (x : Option Addr) (cp : Nat) (c : Cd) (gx m : Nat) (i : Value) (wr : World) : Prop :=
  ∃ p : Nat, p ≤ m ∧ i = .int .i64 p ∧ NnR w3 V x cp wr ∧ Blo wr gx CD (cdv c)
theorem getD_mem {V : List Cd} {p : Nat} (h : p < V.length) : V.getD p c0 ∈ V := by
  rw [List.getD_eq_getElem?_getD, List.getElem?_eq_getElem h]
  exact List.getElem_mem _
theorem drop_cons {T : List Cd} {p : Nat} (h : p < T.length) : T.drop p = T.getD p c0 :: T.drop (p + 1) := by
  rw [List.drop_eq_getElem_cons h, List.getD_eq_getElem?_getD, List.getElem?_eq_getElem h]
  rfl
theorem perm_erase {V T : List Cd} {p i : Nat} {c : Cd} (hV : V.Perm (T.drop i)) (hi : i < T.length) (hc : T.getD i c0 = c) (hp : p < V.length) (he : V.getD p c0 = c) : (V.eraseIdx p).Perm (T.drop (i + 1)) := by
  rw [drop_cons hi, hc] at hV
  have h1 : (V.getD p c0 :: V.eraseIdx p).Perm V := by
    rw [erase_parts]
    have h2 : (V.take p ++ V.getD p c0 :: V.drop (p + 1)).Perm (V.getD p c0 :: (V.take p ++ V.drop (p + 1))) := List.perm_middle
    rw [← drop_cons hp, List.take_append_drop] at h2
    exact h2.symm
  rw [he] at h1
  exact (h1.trans hV).cons_inv
set_option maxRecDepth 100000 in
set_option maxHeartbeats 8000000 in
theorem pickNone_walk (a : Option Addr) (n cap : Nat) (z : List Int) (k : Int) (W : World) (hq : Quads W a n z) (hnil : a = none → n = 0 ∧ cap = 0) (hr : (Lit.int .i64 k).wf = true) :
    Calls Try.prog 6 #[.slice a n cap, .int .i64 k] W fun e w' => e = .returned (.bool true) ∧ Below W.heap.size W w' := by
  obtain ⟨l, hC, hn, hf, hmx⟩ := quads_list hq
  have HC := Lib.hid hC
  have HN := Lib.hid hn
  have HF := Lib.hid hf
  have HR := Lib.hid (wf_bounds hr)
  have HNil := Lib.hid hnil
  obtain ⟨i0, hi0, hz0, hs0, hb0⟩ := info_parts info_cd
  have HI0 := Lib.hid hi0
  have HS0 := Lib.hid hs0
  clear hq hC hn hf hr hnil hz0 hb0 hi0 hs0
  go_enter Try.func6, Try.ntmps6
  go_wp2_with fail
  refine (awake_any _).mono ?_
  rintro e w1 ⟨rfl, hb1⟩
  have HB1 := Lib.hid hb1
  clear hb1
  by_cases h600 : n ≤ 100
  · have t0 : ¬ (100 : Int) < (n : Int) := by omega
    have HC1 := Lib.hid ((HC.out.below HB1.out).below (sup_pk w1 (.cells #[] CD)))
    have HAN : Hid (a = none → l = [] ∧ cap = 0) := fun h => ⟨List.eq_nil_of_length_eq_zero (by rw [← HN.out]; exact (HNil.out h).1), (HNil.out h).2⟩
    go_wp2_with (at_builtin; refine wp_append_cds rfl (.tmp 25) (.tmp 26) SC rfl w1.heap.size CD Try.underlying22 info_cd _ 0 [] rfl (World.ownsRow_lit w1 #[] 0 (Nat.le_refl _) (by unfold maxLen; omega) rfl) a n cap l rfl HN.out HC1.out HAN.out (by omega) (by simp) ?_; intro a2 cp2 w2 hown hgrow; rw [Nat.zero_add, List.nil_append] at hown; rw [Nat.zero_add]; have HO2 := Lib.hid hown; have HB2 := Lib.hid ((sup_pk w1 (.cells #[] CD)).grown hgrow (by simp) (fun q hq => by cases hq; exact Nat.le_refl _)); clear hown hgrow)
    refine (best_any k (Cds.own HO2.out) HN.out hmx).mono ?_
    rintro e w3 ⟨x, m, cp, L, zz, hI, rfl, hm, hO, hb3⟩
    have HB3 := Lib.hid (HB1.out.trans ((HB2.out.trans (hb3.mono HB2.out.size)).mono HB1.out.size))
    have HL := Lib.hid (Cds.own hO)
    have HM := Lib.hid hm
    have hfit := hI.fit HF.out
    have HF2 := Lib.hid hfit.1
    have hle : m ≤ 100 := by rw [hm]; have := hfit.2; have := HN.out; omega
    clear hm hO hb3 HB2 HC1 HO2 hfit
    rcases hI with ⟨q, hnil, hzz⟩ | ⟨q1, q2, hLk, hzz⟩
    · subst hzz
      have hm0 : m = 0 := by rw [HM.out, hnil]; rfl
      subst hm0
      clear q hnil
      go_wp2_with fail
      go_ret
      exact ⟨rfl, HB3.out⟩
    · subst hzz
      obtain ⟨K, rfl⟩ : ∃ K : Nat, k = (K : Int) := ⟨k.toNat, by omega⟩
      rw [Int.toNat_natCast] at hLk
      obtain ⟨T, hT⟩ : ∃ T, ordC l = T := ⟨_, rfl⟩
      rw [hT] at hLk
      have hTn : T.length = n := by rw [← hT, ordC_length]; exact HN.out.symm
      have hmin : m = min n K := by rw [HM.out, hLk, List.length_take, hTn]; omega
      have HTp : Hid (T.Perm l) := by rw [← hT]; exact ordC_perm l
      have HTc : Hid (T.Pairwise (fun a b => betB b a = false)) := by rw [← hT]; exact ordC_calm q1.2
      have HTg : Hid (GoodL T) := by rw [← hT]; exact ordC_good q1.2
      have HTf : Hid (FitL T) := by rw [← hT]; exact HF.out.ord
      have HTn := Lib.hid hTn
      have hLm : L = T.take m := by
        rw [hLk, hmin]
        rcases Nat.le_total n K with h | h
        · rw [Nat.min_eq_left h, List.take_of_length_le (by omega), List.take_of_length_le (by omega)]
        · rw [Nat.min_eq_right h]
      have HLm := Lib.hid hLm
      have HLat : Hid (∀ j, j < m → L.getD j c0 = T.getD j c0) := fun j hj => by
        rw [hLm, List.getD_eq_getElem?_getD, List.getD_eq_getElem?_getD, List.getElem?_take_of_lt hj]
      have hmn : m ≤ n := by omega
      have tm : (if K < n then (K : Int) else (n : Int)) = (m : Int) := by
        by_cases h : K < n
        · rw [if_pos h]; omega
        · rw [if_neg h]; omega
      clear q1 q2 hLk hTn hT hLm hmin
      have HC3 := Lib.hid ((HC.out.below HB3.out).below (sup_pk w3 (.cells #[] CD)))
      go_wp2_with (at_builtin; refine wp_append_cds rfl (.tmp 44) (.tmp 45) SC rfl w3.heap.size CD Try.underlying22 info_cd _ 0 [] rfl (World.ownsRow_lit w3 #[] 0 (Nat.le_refl _) (by unfold maxLen; omega) rfl) a n cap l rfl HN.out HC3.out HAN.out (by omega) (by simp) ?_; intro a4 cp4 w4 hown hgrow; rw [Nat.zero_add, List.nil_append] at hown; rw [Nat.zero_add]; have HO4 := Lib.hid hown; have HB4 := Lib.hid ((sup_pk w3 (.cells #[] CD)).grown hgrow (by simp) (fun q hq => by cases hq; exact Nat.le_refl _)); clear hown hgrow)
      have HSt : Hid (NnI w3 T m (.slice a4 n cp4) (.int .i64 0) w4) := ⟨0, l, a4, cp4, Nat.zero_le _, rfl, by rw [HN.out], by rw [List.drop_zero]; exact HTp.out.symm, by rw [← HN.out]; exact HO4.out, HB4.out⟩
      clear HC3 HO4 HB4 tm
      go_loopw [7, 49] (fun v i wr => NnI w3 T m v i wr) (fun _ i _ => m - (intOf i).toNat)
      case atStart => exact HSt.out
      case round =>
        clear HSt
        obtain ⟨p, V, xv, cpv, hp, rfl, rfl, hV, hR⟩ := hrel
        have HV := Lib.hid hV
        have HR5 := Lib.hid hR
        clear hV hR
        by_cases hlt : p < m
        · have hpL : p < L.length := by rw [← HM.out]; exact hlt
          have hpT : p < T.length := by rw [HTn.out]; omega
          obtain ⟨b, o, rfl, _⟩ := HL.out.at hpL
          obtain ⟨q1, q2, q3, q4⟩ := (HL.out.below HR5.out.below).cells hpL
          obtain ⟨c, hc⟩ : ∃ c, L.getD p c0 = c := ⟨_, rfl⟩
          have hcT : T.getD p c0 = c := by rw [← HLat.out p hlt]; exact hc
          have hcg : GoodC c := by rw [← hcT]; exact HTg.out.at hpT
          have hcf : FitC c := by rw [← hcT]; exact HTf.out.at hpT
          rw [hc] at q1 q2 q3 q4
          have HcT := Lib.hid hcT
          have HcG := Lib.hid hcg
          have HcF := Lib.hid hcf
          have hcV : c ∈ V := HV.out.symm.subset (by rw [drop_cons hpT, hcT]; exact List.mem_cons_self ..)
          have HcV := Lib.hid hcV
          have hb5 := sup_pk wr (.cells #[.int .i64 c.seg, .int .i64 c.live, .int .i64 c.cap, .int .i64 c.age] CD)
          have HR6 := Lib.hid (HR5.out.later hb5)
          have HX6 := Lib.hid (blo_laid wr CD (cdv c))
          unfold cdv at HX6
          have k0 : (0 : Int) ≤ (p : Int) := by omega
          have k1 : (p : Int) < (m : Int) := by omega
          have HpT := Lib.hid hpT
          have HpL := Lib.hid hpL
          clear hc hcT hcg hcf hcV hb5 HR5 hpL hpT
          go_upto_region 12 with (fail)
          generalize (wr.alloc (.cells #[.int .i64 c.seg, .int .i64 c.live, .int .i64 c.cap, .int .i64 c.age] CD)) = w6 at *
          generalize wr.heap.size = gx at *
          clear q1 q2 q3 q4
          have hreg : ∀ (w7 : World), Below w6.heap.size w6 w7 → NnR w3 V xv cpv w7 ∧ Blo w7 gx CD (cdv c) := fun w7 hb => ⟨HR6.out.later hb, HX6.out.later hb⟩
          have HReg := Lib.hid hreg
          clear hreg
          rcases Nat.eq_zero_or_pos p with hp0 | hp0
          · have t1 : decide ((0 : Int) < (p : Int)) = false := decide_eq_false (by omega)
            have t2 : decide (0 < p) = false := decide_eq_false (by omega)
            clear hp0
            refine wp_region_kept (by kernel_rfl) (by kernel_rfl) ?_
            repeat (go_big_quiet_step (fail))
            refine wpQuiet_nil ?_
            rintro W7 ⟨wx, rfl⟩
            obtain ⟨hn7, hx7⟩ := HReg.out _ wx.below
            have HN7 := Lib.hid hn7
            have HX7 := Lib.hid hx7
            clear hn7 hx7 HReg HR6 HX6 t1 t2
            generalize wx.at_ = w7 at *
            go_wp2_with fail
            go_loopw [10, 67] (fun v i wr => AtJ w3 V xv cpv c gx v i wr) (fun _ i _ => V.length - (intOf i).toNat)
            case atStart => exact ⟨0, -1, Nat.zero_le _, rfl, rfl, .inl ⟨rfl, fun j hj => by omega⟩, HN7.out, HX7.out⟩
            case round =>
              clear HN7 HX7
              obtain ⟨q, at_, hq, rfl, rfl, hat, hR, hX⟩ := hrel
              by_cases hlt2 : q < V.length
              · obtain ⟨g, o3, rfl, q1, q2, q3, q4⟩ := (Cds.own hR.own).at hlt2
                obtain ⟨d, hd⟩ : ∃ d, V.getD q c0 = d := ⟨_, rfl⟩
                have hdf : FitC d := by
                  have := HV.out.subset (getD_mem hlt2)
                  rw [hd] at this
                  exact HTf.out d (List.mem_of_mem_drop this)
                rw [hd] at q1 q2 q3 q4
                have z0 := hX.cell 0
                have z1 := hX.cell 1
                have z2 := hX.cell 2
                have z3 := hX.cell 3
                simp [cdv] at z0 z1 z2 z3
                have HRr := Lib.hid hR
                have HXr := Lib.hid hX
                have HAt := Lib.hid hat
                obtain ⟨r, hr⟩ : ∃ r : Bool, ∀ W, (binOp .eql CD (.agg (cdv d)) (.agg (cdv c))).run Try.prog W = .ok (.bool r) W ∧ (r = true ↔ d = c) := by
                  obtain ⟨r, h1, h2⟩ := eql_cd d c hdf HcF.out w3
                  refine ⟨r, fun W => ?_⟩
                  obtain ⟨r', h3, h4⟩ := eql_cd d c hdf HcF.out W
                  have : r' = r := by
                    cases r <;> cases r' <;> simp_all
                  subst this
                  exact ⟨h3, h4⟩
                have heq := fun W => (hr W).1
                have HIff := Lib.hid ((hr w3).2)
                have HD := Lib.hid hd
                unfold cdv at heq
                have jq0 : (0 : Int) ≤ (q : Int) := by omega
                have i1 : (q : Int) < (V.length : Int) := by omega
                have i2 : (q : Int) ≤ 100 := by have := HV.out.length_eq; rw [List.length_drop, HTn.out] at this; omega
                clear hr hdf hd hR hX hat
                cases r with
                | true =>
                  have HAt2 : Hid (AtIs V c (q + 1) (q : Int)) := .inr ⟨q, by omega, rfl, by rw [HD.out]; exact HIff.out.1 rfl⟩
                  go_wp2_with fail
                  go_quiet (fail)
                  have HR8 : Hid (NnR w3 V _ cpv (wr.drewN nq)) := HRr.out.later (below_drewN (Below.refl _ _) nq)
                  have HX8 : Hid (Blo (wr.drewN nq) gx CD (cdv c)) := HXr.out.later (below_drewN (Below.refl _ _) nq)
                  clear HRr HXr HAt z0 z1 z2 z3 q1 q2 q3 q4 heq
                  generalize wr.drewN nq = w8 at *
                  go_wp2_with fail
                  go_roundw
                  case rel => exact ⟨q + 1, _, by omega, by simp, rfl, HAt2.out, HR8.out, HX8.out⟩
                  case measure => simp [intOf]; omega
                | false =>
                  have HAt2 : Hid (AtIs V c (q + 1) at_) := by
                    rcases HAt.out with ⟨h1, h2⟩ | ⟨p2, h1, h2, h3⟩
                    · refine .inl ⟨h1, fun j hj => ?_⟩
                      by_cases e : j = q
                      · subst e; rw [HD.out]; intro e2; have := HIff.out.2 e2; cases this
                      · exact h2 j (by omega)
                    · exact .inr ⟨p2, by omega, h2, h3⟩
                  go_wp2_with fail
                  go_quiet (fail)
                  have HR8 : Hid (NnR w3 V _ cpv (wr.drewN nq)) := HRr.out.later (below_drewN (Below.refl _ _) nq)
                  have HX8 : Hid (Blo (wr.drewN nq) gx CD (cdv c)) := HXr.out.later (below_drewN (Below.refl _ _) nq)
                  clear HRr HXr HAt z0 z1 z2 z3 q1 q2 q3 q4 heq
                  generalize wr.drewN nq = w8 at *
                  go_wp2_with fail
                  go_roundw
                  case rel => exact ⟨q + 1, _, by omega, by simp, rfl, HAt2.out, HR8.out, HX8.out⟩
                  case measure => simp [intOf]; omega
              · have hqV : q = V.length := by omega
                rcases hat with ⟨_, h2⟩ | ⟨pp, h1, rfl, h3⟩
                · obtain ⟨j, hj, e⟩ := List.mem_iff_getElem.1 HcV.out
                  exact absurd (by rw [List.getD_eq_getElem?_getD, List.getElem?_eq_getElem hj]; exact e) (h2 j (by omega))
                · have hpV : pp < V.length := by omega
                  have hlen := HV.out.length_eq
                  have hVn : V.length ≤ 100 := by
                    rw [hlen, List.length_drop, HTn.out]; omega
                  obtain ⟨g, rfl, hg, hfz⟩ := own_some hR.own (by omega)
                  obtain ⟨hl1, hl2, hl3⟩ := own_lit hR.own
                  obtain ⟨ps, hps⟩ : ∃ s, pp + 1 = s := ⟨_, rfl⟩
                  obtain ⟨ad, hcf, hcC⟩ := cutS_from (p := ps) (cp := cpv) rfl hl3 (by omega) (by omega) (Cds.own hR.own)
                  have hcu := cutP_upto (x := some ⟨g, 0, none⟩) (p := pp) (k := V.length) (cp := cpv) hl3 (by omega) (by omega) hl2
                  have HcC := Lib.hid hcC
                  have HVn := Lib.hid (perm_erase HV.out HpT.out HcT.out hpV h3)
                  have HRr := Lib.hid hR
                  have hln : (V.eraseIdx pp).length = pp + (V.length - ps) := by rw [List.length_eraseIdx_of_lt hpV]; omega
                  have HLn := Lib.hid hln
                  have hsome : ∀ (wd : World), Below wr.heap.size wr wd → ∀ j, j < (cellsI (flatC (V.drop ps))).length → (wd.cell? ⟨g, 0 + pp * 4 + j, none⟩).isSome = true ∧ wd.frozen? ⟨g, 0 + pp * 4 + j, none⟩ = false := by
                    intro wd hb j hj
                    have ho := own_later hR.own hb
                    obtain ⟨q1, ⟨q2, _⟩ | ⟨g', cap', cur, hv, a1, a2, a3, a4, a5, a6⟩⟩ := ho
                    · cases q2
                    · cases hv
                      have hbl : Blo wd g CD cur := a2
                      rw [cellsI_length, flatC_length, List.length_drop] at hj
                      exact ⟨by rw [hbl.cell, Array.getElem?_eq_getElem (by omega)]; rfl, hbl.frozen _⟩
                  have HSome := Lib.hid hsome
                  have hone : ∀ u ∈ cellsI (flatC (V.drop ps)), u.oneCell' = true := fun u hu => by
                    simp only [cellsI, List.mem_map] at hu
                    obtain ⟨_, _, rfl⟩ := hu
                    rfl
                  have HOne := Lib.hid hone
                  have hroom : pp + (V.length - ps) ≤ cpv := by omega
                  have e0 : IntKind.i64.wrap (ps : Int) = (ps : Int) := IntWalk.i64_in _ (by omega)
                  have HPs := Lib.hid hps
                  have e1 : (pp : Int) + 1 = (ps : Int) := by omega
                  have jj0 : (0 : Int) ≤ (pp : Int) := by omega
                  clear hcC hln hsome hone hlen hfz hR hX h1 hqV hps
                  go_wp2_with fail
                  go_region_law (refine step_append_room (by rfl) (.tmp 82) (.tmp 86) SC (by rfl) CD i0 4 Try.underlying22 HI0.out HS0.out g 0 pp cpv (by simp [go_sem]) ad (V.length - ps) (cpv - ps) (cellsI (flatC (V.drop ps))) (by simp [go_sem]) (by rw [cellsI_length, flatC_length, List.length_drop]) (HcC.out.below (Below.refl _ _).drew).flat HOne.out hroom (HSome.out _ (Below.refl _ _).drew) ?_)
                  clear e0 e1
                  have hR9 : NnR w3 (V.eraseIdx pp) (some ⟨g, 0, none⟩) cpv (wr.drew.setCells g (pp * 4) (cellsI (flatC (V.drop ps)))) := by
                    have hd := HRr.out.later ((Below.refl wr.heap.size wr).drew)
                    rw [← HPs.out]
                    exact ⟨by rw [HLn.out, ← HPs.out]; exact own_cut hd.own rfl hpV, below_cells hg _ _ hd.below⟩
                  have HR9 := Lib.hid hR9
                  clear hR9
                  go_wp2_with fail
                  go_roundw
                  case rel => exact ⟨p + 1, V.eraseIdx pp, some ⟨g, 0, none⟩, cpv, by omega, by simp, by rw [HLn.out], HVn.out, HR9.out⟩
                  case measure => simp [intOf]; omega
          · have t1 : decide ((0 : Int) < (p : Int)) = true := decide_eq_true (by omega)
            have t2 : decide (0 < p) = true := decide_eq_true hp0
            obtain ⟨r, hr⟩ : ∃ r, r + 1 = p := ⟨p - 1, by omega⟩
            have e0 : (p : Int) - 1 = (r : Int) := by omega
            have e1 : IntKind.i64.wrap ((p : Int) - 1) = (r : Int) := by rw [e0]; exact IntWalk.i64_in _ (by omega)
            have j0 : (0 : Int) ≤ (r : Int) := by omega
            have j1 : (r : Int) < (m : Int) := by omega
            have hrL : r < L.length := by have := HpL.out; omega
            obtain ⟨d, hd⟩ : ∃ d, L.getD r c0 = d := ⟨_, rfl⟩
            have hdT : T.getD r c0 = d := by rw [← HLat.out r (by omega)]; exact hd
            have hdg : GoodC d := by rw [← hdT]; exact HTg.out.at (by have := HpT.out; omega)
            have hcd : betB c d = false := by
              have h1 := (List.pairwise_iff_getElem.1 HTc.out) r p (by have := HpT.out; omega) HpT.out (by omega)
              have e2 := HcT.out
              rw [List.getD_eq_getElem?_getD, List.getElem?_eq_getElem HpT.out] at e2
              rw [List.getD_eq_getElem?_getD, List.getElem?_eq_getElem (by have := HpT.out; omega)] at hdT
              simp only [Option.getD_some] at e2 hdT
              rw [e2, hdT] at h1
              exact h1
            have HB : Hid (∀ W : World, Calls Try.prog 18 #[.agg #[.int .i64 c.seg, .int .i64 c.live, .int .i64 c.cap, .int .i64 c.age], .agg #[.int .i64 d.seg, .int .i64 d.live, .int .i64 d.cap, .int .i64 d.age]] W fun e w' => e = .returned (.bool false) ∧ Below W.heap.size W w') := fun W => by
              have := better_any c d W HcG.out hdg
              rw [hcd] at this
              exact this
            have u : ∀ y : Kept w6, _ := fun y => (HL.out.below ((HReg.out _ y.below).1.below)).cells hrL
            simp only [hd] at u
            have u0 := fun y => (u y).1
            have u1 := fun y => (u y).2.1
            have u2 := fun y => (u y).2.2.1
            have u3 := fun y => (u y).2.2.2
            have z0 : ∀ y : Kept w6, y.at_.cell? ⟨gx, 0, none⟩ = some (.int .i64 c.seg) := fun y => (HReg.out _ y.below).2.cell 0
            have z1 : ∀ y : Kept w6, y.at_.cell? ⟨gx, 1, none⟩ = some (.int .i64 c.live) := fun y => (HReg.out _ y.below).2.cell 1
            have z2 : ∀ y : Kept w6, y.at_.cell? ⟨gx, 2, none⟩ = some (.int .i64 c.cap) := fun y => (HReg.out _ y.below).2.cell 2
            have z3 : ∀ y : Kept w6, y.at_.cell? ⟨gx, 3, none⟩ = some (.int .i64 c.age) := fun y => (HReg.out _ y.below).2.cell 3
            clear u hd hdT hdg hcd hrL e0 hr
            refine wp_region_kept (by kernel_rfl) (by kernel_rfl) ?_
            repeat (go_big_quiet_step ((go_at_call 18; with_reducible exact kept_call _ (HB.out _))))
            refine wpQuiet_nil ?_
            rintro W7 ⟨wx, rfl⟩
            obtain ⟨hn7, hx7⟩ := HReg.out _ wx.below
            have HN7 := Lib.hid hn7
            have HX7 := Lib.hid hx7
            clear hn7 hx7 HReg HR6 HX6 t1 t2 u0 u1 u2 u3 z0 z1 z2 z3 e1 HB
            generalize wx.at_ = w7 at *
            go_wp2_with fail
            go_loopw [10, 67] (fun v i wr => AtJ w3 V xv cpv c gx v i wr) (fun _ i _ => V.length - (intOf i).toNat)
            case atStart => exact ⟨0, -1, Nat.zero_le _, rfl, rfl, .inl ⟨rfl, fun j hj => by omega⟩, HN7.out, HX7.out⟩
            case round =>
              clear HN7 HX7
              obtain ⟨q, at_, hq, rfl, rfl, hat, hR, hX⟩ := hrel
              by_cases hlt2 : q < V.length
              · obtain ⟨g, o3, rfl, q1, q2, q3, q4⟩ := (Cds.own hR.own).at hlt2
                obtain ⟨d, hd⟩ : ∃ d, V.getD q c0 = d := ⟨_, rfl⟩
                have hdf : FitC d := by
                  have := HV.out.subset (getD_mem hlt2)
                  rw [hd] at this
                  exact HTf.out d (List.mem_of_mem_drop this)
                rw [hd] at q1 q2 q3 q4
                have z0 := hX.cell 0
                have z1 := hX.cell 1
                have z2 := hX.cell 2
                have z3 := hX.cell 3
                simp [cdv] at z0 z1 z2 z3
                have HRr := Lib.hid hR
                have HXr := Lib.hid hX
                have HAt := Lib.hid hat
                obtain ⟨r, hr⟩ : ∃ r : Bool, ∀ W, (binOp .eql CD (.agg (cdv d)) (.agg (cdv c))).run Try.prog W = .ok (.bool r) W ∧ (r = true ↔ d = c) := by
                  obtain ⟨r, h1, h2⟩ := eql_cd d c hdf HcF.out w3
                  refine ⟨r, fun W => ?_⟩
                  obtain ⟨r', h3, h4⟩ := eql_cd d c hdf HcF.out W
                  have : r' = r := by
                    cases r <;> cases r' <;> simp_all
                  subst this
                  exact ⟨h3, h4⟩
                have heq := fun W => (hr W).1
                have HIff := Lib.hid ((hr w3).2)
                have HD := Lib.hid hd
                unfold cdv at heq
                have jq0 : (0 : Int) ≤ (q : Int) := by omega
                have i1 : (q : Int) < (V.length : Int) := by omega
                have i2 : (q : Int) ≤ 100 := by have := HV.out.length_eq; rw [List.length_drop, HTn.out] at this; omega
                clear hr hdf hd hR hX hat
                cases r with
                | true =>
                  have HAt2 : Hid (AtIs V c (q + 1) (q : Int)) := .inr ⟨q, by omega, rfl, by rw [HD.out]; exact HIff.out.1 rfl⟩
                  go_wp2_with fail
                  go_quiet (fail)
                  have HR8 : Hid (NnR w3 V _ cpv (wr.drewN nq)) := HRr.out.later (below_drewN (Below.refl _ _) nq)
                  have HX8 : Hid (Blo (wr.drewN nq) gx CD (cdv c)) := HXr.out.later (below_drewN (Below.refl _ _) nq)
                  clear HRr HXr HAt z0 z1 z2 z3 q1 q2 q3 q4 heq
                  generalize wr.drewN nq = w8 at *
                  go_wp2_with fail
                  go_roundw
                  case rel => exact ⟨q + 1, _, by omega, by simp, rfl, HAt2.out, HR8.out, HX8.out⟩
                  case measure => simp [intOf]; omega
                | false =>
                  have HAt2 : Hid (AtIs V c (q + 1) at_) := by
                    rcases HAt.out with ⟨h1, h2⟩ | ⟨p2, h1, h2, h3⟩
                    · refine .inl ⟨h1, fun j hj => ?_⟩
                      by_cases e : j = q
                      · subst e; rw [HD.out]; intro e2; have := HIff.out.2 e2; cases this
                      · exact h2 j (by omega)
                    · exact .inr ⟨p2, by omega, h2, h3⟩
                  go_wp2_with fail
                  go_quiet (fail)
                  have HR8 : Hid (NnR w3 V _ cpv (wr.drewN nq)) := HRr.out.later (below_drewN (Below.refl _ _) nq)
                  have HX8 : Hid (Blo (wr.drewN nq) gx CD (cdv c)) := HXr.out.later (below_drewN (Below.refl _ _) nq)
                  clear HRr HXr HAt z0 z1 z2 z3 q1 q2 q3 q4 heq
                  generalize wr.drewN nq = w8 at *
                  go_wp2_with fail
                  go_roundw
                  case rel => exact ⟨q + 1, _, by omega, by simp, rfl, HAt2.out, HR8.out, HX8.out⟩
                  case measure => simp [intOf]; omega
              · have hqV : q = V.length := by omega
                rcases hat with ⟨_, h2⟩ | ⟨pp, h1, rfl, h3⟩
                · obtain ⟨j, hj, e⟩ := List.mem_iff_getElem.1 HcV.out
                  exact absurd (by rw [List.getD_eq_getElem?_getD, List.getElem?_eq_getElem hj]; exact e) (h2 j (by omega))
                · have hpV : pp < V.length := by omega
                  have hlen := HV.out.length_eq
                  have hVn : V.length ≤ 100 := by
                    rw [hlen, List.length_drop, HTn.out]; omega
                  obtain ⟨g, rfl, hg, hfz⟩ := own_some hR.own (by omega)
                  obtain ⟨hl1, hl2, hl3⟩ := own_lit hR.own
                  obtain ⟨ps, hps⟩ : ∃ s, pp + 1 = s := ⟨_, rfl⟩
                  obtain ⟨ad, hcf, hcC⟩ := cutS_from (p := ps) (cp := cpv) rfl hl3 (by omega) (by omega) (Cds.own hR.own)
                  have hcu := cutP_upto (x := some ⟨g, 0, none⟩) (p := pp) (k := V.length) (cp := cpv) hl3 (by omega) (by omega) hl2
                  have HcC := Lib.hid hcC
                  have HVn := Lib.hid (perm_erase HV.out HpT.out HcT.out hpV h3)
                  have HRr := Lib.hid hR
                  have hln : (V.eraseIdx pp).length = pp + (V.length - ps) := by rw [List.length_eraseIdx_of_lt hpV]; omega
                  have HLn := Lib.hid hln
                  have hsome : ∀ (wd : World), Below wr.heap.size wr wd → ∀ j, j < (cellsI (flatC (V.drop ps))).length → (wd.cell? ⟨g, 0 + pp * 4 + j, none⟩).isSome = true ∧ wd.frozen? ⟨g, 0 + pp * 4 + j, none⟩ = false := by
                    intro wd hb j hj
                    have ho := own_later hR.own hb
                    obtain ⟨q1, ⟨q2, _⟩ | ⟨g', cap', cur, hv, a1, a2, a3, a4, a5, a6⟩⟩ := ho
                    · cases q2
                    · cases hv
                      have hbl : Blo wd g CD cur := a2
                      rw [cellsI_length, flatC_length, List.length_drop] at hj
                      exact ⟨by rw [hbl.cell, Array.getElem?_eq_getElem (by omega)]; rfl, hbl.frozen _⟩
                  have HSome := Lib.hid hsome
                  have hone : ∀ u ∈ cellsI (flatC (V.drop ps)), u.oneCell' = true := fun u hu => by
                    simp only [cellsI, List.mem_map] at hu
                    obtain ⟨_, _, rfl⟩ := hu
                    rfl
                  have HOne := Lib.hid hone
                  have hroom : pp + (V.length - ps) ≤ cpv := by omega
                  have e0 : IntKind.i64.wrap (ps : Int) = (ps : Int) := IntWalk.i64_in _ (by omega)
                  have HPs := Lib.hid hps
                  have e1 : (pp : Int) + 1 = (ps : Int) := by omega
                  have jj0 : (0 : Int) ≤ (pp : Int) := by omega
                  clear hcC hln hsome hone hlen hfz hR hX h1 hqV hps
                  go_wp2_with fail
                  go_region_law (refine step_append_room (by rfl) (.tmp 82) (.tmp 86) SC (by rfl) CD i0 4 Try.underlying22 HI0.out HS0.out g 0 pp cpv (by simp [go_sem]) ad (V.length - ps) (cpv - ps) (cellsI (flatC (V.drop ps))) (by simp [go_sem]) (by rw [cellsI_length, flatC_length, List.length_drop]) (HcC.out.below (Below.refl _ _).drew).flat HOne.out hroom (HSome.out _ (Below.refl _ _).drew) ?_)
                  clear e0 e1
                  have hR9 : NnR w3 (V.eraseIdx pp) (some ⟨g, 0, none⟩) cpv (wr.drew.setCells g (pp * 4) (cellsI (flatC (V.drop ps)))) := by
                    have hd := HRr.out.later ((Below.refl wr.heap.size wr).drew)
                    rw [← HPs.out]
                    exact ⟨by rw [HLn.out, ← HPs.out]; exact own_cut hd.own rfl hpV, below_cells hg _ _ hd.below⟩
                  have HR9 := Lib.hid hR9
                  clear hR9
                  go_wp2_with fail
                  go_roundw
                  case rel => exact ⟨p + 1, V.eraseIdx pp, some ⟨g, 0, none⟩, cpv, by omega, by simp, by rw [HLn.out], HVn.out, HR9.out⟩
                  case measure => simp [intOf]; omega
        · have hpm : p = m := by omega
          have HVm : Hid (V.Perm (T.drop m)) := by rw [← hpm]; exact HV.out
          clear hpm HV
          go_wp2_with fail
          go_loopw [91] (fun i wr => NnC w3 V xv cpv i wr) (fun i _ => V.length - (intOf i).toNat)
          case atStart => exact ⟨0, Nat.zero_le _, rfl, HR5.out⟩
          case round =>
            clear HR5
            obtain ⟨q, hq, rfl, hR⟩ := hrel
            by_cases hlt3 : q < V.length
            · have i2 : (q : Int) ≤ 100 := by have := HVm.out.length_eq; rw [List.length_drop, HTn.out] at this; omega
              obtain ⟨g, o3, rfl, q1, q2, q3, q4⟩ := (Cds.own hR.own).at hlt3
              obtain ⟨c, hc⟩ : ∃ c, V.getD q c0 = c := ⟨_, rfl⟩
              have hcm : c ∈ T.drop m := HVm.out.subset (by rw [← hc]; exact getD_mem hlt3)
              have hcg : GoodC c := HTg.out c (List.mem_of_mem_drop hcm)
              rw [hc] at q1 q2 q3 q4
              have HcM := Lib.hid hcm
              have HcG := Lib.hid hcg
              have HR6 := Lib.hid (hR.later (sup_pk wr (.cells #[.int .i64 c.seg, .int .i64 c.live, .int .i64 c.cap, .int .i64 c.age] CD)))
              have HX6 := Lib.hid (blo_laid wr CD (cdv c))
              unfold cdv at HX6
              clear hc hcm hcg hR
              go_wp2_with fail
              generalize (wr.alloc (.cells #[.int .i64 c.seg, .int .i64 c.live, .int .i64 c.cap, .int .i64 c.age] CD)) = w6 at *
              generalize wr.heap.size = gx at *
              clear q1 q2 q3 q4
              go_loopw [97] (fun i wr => NnD w3 V _ cpv c gx m i wr) (fun i _ => m - (intOf i).toNat)
              case atStart => exact ⟨0, Nat.zero_le _, rfl, HR6.out, HX6.out⟩
              case round =>
                clear HR6 HX6
                obtain ⟨j, hj, rfl, hR, hX⟩ := hrel
                by_cases hlt4 : j < m
                · have hjL : j < L.length := by rw [← HM.out]; exact hlt4
                  obtain ⟨b, o, rfl, _⟩ := HL.out.at hjL
                  obtain ⟨y0, y1, y2, y3⟩ := (HL.out.below hR.below).cells hjL
                  obtain ⟨d, hd⟩ : ∃ d, L.getD j c0 = d := ⟨_, rfl⟩
                  have hdm : d ∈ T.take m := by rw [← HLm.out, ← hd]; exact getD_mem hjL
                  have hdg : GoodC d := HTg.out d (List.mem_of_mem_take hdm)
                  have hcd : betB c d = false := by
                    have h1 := HTc.out
                    rw [← List.take_append_drop m T] at h1
                    exact (List.pairwise_append.1 h1).2.2 d hdm c HcM.out
                  rw [hd] at y0 y1 y2 y3
                  have HB : Hid (∀ W : World, Calls Try.prog 18 #[.agg #[.int .i64 c.seg, .int .i64 c.live, .int .i64 c.cap, .int .i64 c.age], .agg #[.int .i64 d.seg, .int .i64 d.live, .int .i64 d.cap, .int .i64 d.age]] W fun e w' => e = .returned (.bool false) ∧ Below W.heap.size W w') := fun W => by
                    have := better_any c d W HcG.out hdg
                    rw [hcd] at this
                    exact this
                  have hbd := sup_pk wr (.cells #[.int .i64 d.seg, .int .i64 d.live, .int .i64 d.cap, .int .i64 d.age] CD)
                  have HR7 := Lib.hid (hR.later hbd)
                  have hX7 := hX.later hbd
                  have HX7 := Lib.hid hX7
                  have z0 := hX7.cell 0
                  have z1 := hX7.cell 1
                  have z2 := hX7.cell 2
                  have z3 := hX7.cell 3
                  simp [cdv] at z0 z1 z2 z3
                  clear hd hdm hdg hcd hR hX hX7 hbd hjL
                  go_wp2_with fail
                  refine (HB.out _).mono ?_
                  rintro e w8 ⟨rfl, hb8⟩
                  have HR8 := Lib.hid (HR7.out.later hb8)
                  have HX8 := Lib.hid (HX7.out.later hb8)
                  clear hb8 HB HR7 HX7 y0 y1 y2 y3 z0 z1 z2 z3
                  go_wp2_with fail
                  go_roundw
                  case rel => exact ⟨j + 1, by omega, by simp, HR8.out, HX8.out⟩
                  case measure => simp [intOf]; omega
                · have HRz := Lib.hid hR
                  clear hR hX
                  go_wp2_with fail
                  go_roundw
                  case rel => exact ⟨q + 1, by omega, by simp, HRz.out⟩
                  case measure => simp [intOf]; omega
            · have HBz := Lib.hid (HB3.out.trans (hR.below.mono HB3.out.size))
              clear hR
              go_wp2
              go_ret
              exact ⟨rfl, HBz.out⟩
  · have t0 : (100 : Int) < (n : Int) := by omega
    go_wp2_with fail
    refine (awake_any _).mono ?_
    rintro e w2 ⟨rfl, hb2⟩
    have HB2 := Lib.hid (HB1.out.trans (hb2.mono HB1.out.size))
    clear hb2
    go_wp2
    go_ret
    exact ⟨rfl, HB2.out⟩
end
end Go.Proofs.Ytblpfgjjiihjoaa
