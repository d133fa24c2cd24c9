/-
  The walk of FileOnce.
-/
import Derived.Test.YtnlmpnpelnmpeaaFlOnceM
import Derived.Test.YtnlmpnpelnmpeaaFlMovesL
import Derived.Test.YtnlmpnpelnmpeaaQuads
import Derived.Test.YtnlmpnpelnmpeaaQuiet
import Derived.Deep.DeepCutAuto
namespace Go.Proofs.Ytnlmpnpelnmpeaa
open Go.RowKit Go.Maps

theorem cut_pos (x : Int) (m : Nat) (hm : 0 < m) (h42 : m ≤ 42) : ∃ i : Nat, i < m ∧ wrap64 ((IntKind.u64.wrap x).tmod (m : Int)) = (i : Int) := by
  have h0 : 0 ≤ IntKind.u64.wrap x := by simp [IntKind.wrap, IntKind.signed, IntKind.bits]; omega
  have h1 := Int.tmod_nonneg (m : Int) h0
  have h2 := Int.tmod_lt_of_pos (IntKind.u64.wrap x) (show (0 : Int) < (m : Int) by omega)
  refine ⟨((IntKind.u64.wrap x).tmod (m : Int)).toNat, by omega, ?_⟩
  unfold wrap64
  omega
section
variable {B M b n : Nat} {d : Nat → Int} {ad : Int → Int} {w w' : World}
/-- A block that there is: data, or a block of pointers that leads to data with an address. -/
def OnV (d : Nat → Int) (x : Int) : Prop := (∃ k : Nat, k < 600 ∧ x = k) ∨ (x ∈ metAll ∧ 0 < cov d x)
theorem OnV.wf {d : Nat → Int} {x : Int} (h : OnV d x) : (Lit.int .i64 x).wf = true := by
  rcases h with ⟨k, hk, rfl⟩ | ⟨h, _⟩
  · exact wfI _ (by omega) (by omega)
  · have := metAll_f.2.2.1 x h; exact wfI _ (by omega) (by omega)
theorem val_has (d : Nat → Int) (ad : Int → Int) (k : Nat) (hk : k < 600) (h : d k ≠ 0) : d k ∈ valB d ad := List.mem_append_left _ (List.mem_flatMap.2 ⟨k, List.mem_range.2 hk, (nz_mem _ _).2 ⟨rfl, h⟩⟩)
theorem val_meta (d : Nat → Int) (ad : Int → Int) (x : Int) (hx : x ∈ metAll) (h : ad x ≠ 0) : ad x ∈ valB d ad := List.mem_append_right _ (List.mem_flatMap.2 ⟨x, hx, (nz_mem _ _).2 ⟨rfl, h⟩⟩)
set_option maxRecDepth 20000 in
/-- Set of a block that there is: what is told no more, and what is told then. -/
theorem set_once (x : Int) (hx : OnV d x) (v : Int) (h0 : 0 ≤ v) (h1 : v < 4096) (hv : v = 0 ∨ v ∉ valB d ad) (h : FX B M b n d ad w) (hn : n < 800000) :
    Calls Try.prog 12 #[.pointer (some ⟨M, 0, none⟩), .int .i64 x, .int .i64 v] w fun e w' => ∃ u m G d' ad', e = .returned (.tuple #[u, .int .i64 0]) ∧ m = G.length ∧ m ≤ 3000 ∧ w'.ownsRow w.heap.size 3 1 u m (cellsI G) ∧
      FX B M b (n + 1800) d' ad' w' ∧ FS B b w w' ∧ (valB d ad ++ nz v).Perm (G ++ valB d' ad') ∧ G.Pairwise (· ≤ ·) := by
  rcases hx with ⟨k, hk, rfl⟩ | ⟨hm, hc⟩
  · refine (set_data k hk v h0 h1 h (by omega)).mono ?_
    rintro e w' ⟨u, m, rfl, hm, ho, hf, hs⟩
    have hl := sdL_len d ad k hk v
    refine ⟨u, m, _, _, _, rfl, hm, by omega, ho, hf.mono (by omega), hs, set_perm d ad k hk v ?_ h.az, srt_sorted _⟩
    rcases hv with rfl | hv
    · exact .inl rfl
    · by_cases e0 : v = 0
      · exact .inl e0
      · exact .inr (fun e => hv (by rw [e]; exact val_has d ad k hk (by rw [← e]; exact e0)))
  · have hb := metAll_f.2.2.1 x hm
    refine (set_meta x hb.2.2.1 hb.2.2.2 (wfI _ (by omega) (by omega)) hc v h0 h1 h).mono ?_
    rintro e w' ⟨u, m, rfl, hm2, ho, hf, hs⟩
    have hl := goneM_len (ad x) v
    refine ⟨u, m, _, _, _, rfl, hm2, by omega, ho, hf.mono (by omega), hs, meta_perm d ad x hm v ?_, ?_⟩
    · rcases hv with rfl | hv
      · exact .inl rfl
      · by_cases e0 : v = 0
        · exact .inl e0
        · exact .inr (fun e => hv (by rw [e]; exact val_meta d ad x hm (by rw [← e]; exact e0)))
    · unfold goneM; split <;> simp
set_option maxRecDepth 20000 in
theorem cut_once (fr : Nat) (hfr : fr ≤ 600) (h : FX B M b n d ad w) (hn : n < 800000) :
    Calls Try.prog 23 #[.pointer (some ⟨M, 0, none⟩), .int .i64 fr] w fun e w' => ∃ u m G d' ad', e = .returned (.tuple #[u, .int .i64 0]) ∧ m = G.length ∧ m ≤ 3000 ∧ w'.ownsRow w.heap.size 3 1 u m (cellsI G) ∧
      FX B M b (n + 1800) d' ad' w' ∧ FS B b w w' ∧ (valB d ad).Perm (G ++ valB d' ad') ∧ G.Pairwise (· ≤ ·) := by
  have h1 := cut_any fr hfr h hn
  have hp := cut_perm d ad fr hfr h.az
  have hl := clL_len d ad fr 600 (Nat.le_refl _)
  have hss := srt_sorted (clL d ad fr 600)
  have hsl := srt_len (clL d ad fr 600)
  obtain ⟨G0, hG0⟩ : ∃ G0, G0 = clL d ad fr 600 := ⟨_, rfl⟩
  obtain ⟨d', hd'⟩ : ∃ d', d' = dC d fr 600 := ⟨_, rfl⟩
  obtain ⟨ad', had'⟩ : ∃ ad', ad' = aC d ad fr 600 := ⟨_, rfl⟩
  rw [← hG0, ← hd', ← had'] at h1 hp
  rw [← hG0] at hl hss hsl
  clear hG0 hd' had'
  generalize srt G0 = G at *
  refine h1.mono ?_
  rintro e w' ⟨u, m, rfl, hm, ho, hf, hs⟩
  exact ⟨u, m, G, d', ad', rfl, hm, by omega, ho, hf, hs, hp, hss⟩
end
theorem IM.look {w : World} {g n : Nat} {v : Int → Option Int} {ks : List Int} (h : IM w g n v ks) (k : Int) (hkw : (Lit.int .i64 k).wf = true) (c : Int) (hc : (v k).getD 0 = c) : (Instr.lookup 32 (.map (some g)) (.int .i64 k) false).run Try.prog w = .ok (.int .i64 c) w := by
  obtain ⟨D, h1, h2, _⟩ := h
  obtain ⟨c', hrun, hat, _⟩ := h1.lookup_int keyI Try.underlying32 Try.underlying3 (zeroI w) (keyOf_int_mk Try.underlying3 hkw)
  have e : (v k).getD 0 = c' := by
    clear hrun
    rw [(h2 k).2] at hat
    injection hat with hat
    injection hat with _ hat
  rw [hrun, ← e, hc]
theorem IM.keys {w : World} {g n : Nat} {v : Int → Option Int} {ks : List Int} {S : List Int} (h : IM w g n v ks) (hS : MS S v) (hn : S.Nodup) : (∀ a, a ∈ ks ↔ a ∈ S) ∧ ks.length = S.length := by
  obtain ⟨D, _, _, h5, h6, _⟩ := h
  have key : ∀ a, a ∈ ks ↔ a ∈ S := fun a => by
    rw [h6, hS a]
    by_cases e : a ∈ S <;> simp [e]
  exact ⟨key, len_same2 h5 hn key⟩
theorem neg_tmod4 (x : Int) : -4 < x.tmod 4 := by
  by_cases h : 0 ≤ x
  · have := Int.tmod_nonneg 4 h; omega
  · have h1 := Int.tmod_lt_of_pos (-x) (show (0 : Int) < 4 by decide)
    rw [Int.neg_tmod] at h1
    omega
theorem IM.mono {w : World} {g n n' : Nat} {v : Int → Option Int} {ks : List Int} (h : IM w g n v ks) (hn : n ≤ n') : IM w g n' v ks := by
  obtain ⟨D, h1, h2⟩ := h
  exact ⟨D, h1.mono hn, h2⟩
abbrev OT : TypeId := 61
/-- The state of the law. -/
def OnS (w : World) (M b g len : Nat) (nx t : Value) (wr : World) : Prop :=
  ∃ (j q : Nat) (d : Nat → Int) (ad : Int → Int) (v : Int → Option Int) (ks : List Int), j ≤ len ∧ j ≤ 60 ∧ t = .int .i64 j ∧ nx = .int .i64 q ∧ 1 ≤ q ∧ q ≤ j + 1 ∧ FX w.heap.size M b (1800 * j) d ad wr ∧ IM wr g j v ks ∧ MS (valB d ad) v ∧ (valB d ad).Nodup ∧ (∀ a ∈ valB d ad, 1 ≤ a ∧ a < q) ∧ Below w.heap.size w wr
def OnC (w : World) (M b g j : Nat) (nx gn e : Value) (wr : World) : Prop :=
  ∃ (q m : Nat) (ga : Option Addr) (gc : Nat) (G : List Int) (d : Nat → Int) (ad : Int → Int) (v : Int → Option Int) (ks : List Int), nx = .int .i64 q ∧ e = .int .i64 0 ∧ gn = .slice ga m gc ∧ 1 ≤ q ∧ q ≤ j + 2 ∧ m = G.length ∧ m ≤ 3000 ∧ wr.ownsRow w.heap.size 3 1 (.slice ga m gc) m (cellsI G) ∧ G.Pairwise (· ≤ ·) ∧
    FX w.heap.size M b (1800 * j + 1800) d ad wr ∧ IM wr g (j + 1) v ks ∧ MS (G ++ valB d ad) v ∧ (G ++ valB d ad).Nodup ∧ (∀ a ∈ G ++ valB d ad, 1 ≤ a ∧ a < q) ∧ Below w.heap.size w wr
def OnG (w : World) (M b g j n : Nat) (G V : List Int) (d : Nat → Int) (ad : Int → Int) (gn : Value) (m : Nat) (t : Value) (wr : World) : Prop :=
  ∃ (k : Nat) (v : Int → Option Int) (ks : List Int), k ≤ m ∧ t = .int .i64 k ∧ FX w.heap.size M b n d ad wr ∧ IM wr g j v ks ∧ MS (G.drop k ++ V) v ∧ wr.ownsRow w.heap.size 3 1 gn m (cellsI G) ∧ Below w.heap.size w wr
def OnP (w : World) (M b g j n : Nat) (d : Nat → Int) (ad : Int → Int) (v : Int → Option Int) (ks : List Int) (P : List (Int × Int)) (r : Nat) (vp : Value) (t : Value) (wr : World) : Prop :=
  ∃ k : Nat, k ≤ r ∧ t = .int .i64 k ∧ FX w.heap.size M b n d ad wr ∧ IM wr g j v ks ∧ wr.ownsRow w.heap.size LT 2 vp r (cellsP P) ∧ Below w.heap.size w wr
set_option maxRecDepth 100000 in
set_option maxHeartbeats 8000000 in
theorem fileOnce_walk (a : Option Addr) (len cap : Nat) (zs : List Int) (w : World) (hp : Quads w a len zs) :
    Calls Try.prog 5 #[.slice a len cap] w fun e w' => e = .returned (.bool true) ∧ Below w.heap.size w w' := by
  have HP := Lib.hid hp
  clear hp
  have hmm := @run_makeMap Try.prog
  go_enter Try.func5, Try.ntmps5
  go_wp2_with fail
  refine (new_any w).mono ?_
  rintro e w1 ⟨rfl, hf1, hb1⟩
  have HF1 := Lib.hid hf1
  have HB1 := Lib.hid hb1
  have hz1 := hb1.size
  clear hf1 hb1
  go_wp2_with fail
  refine (awake_any w1).mono ?_
  rintro e w2 ⟨rfl, hb2⟩
  have HF2 := Lib.hid (HF1.out.later hb2)
  have HB2 := Lib.hid (HB1.out.trans (hb2.mono HB1.out.size))
  have hbl : w.heap.size < w2.heap.size := by obtain ⟨f, hh⟩ := HF2.out; exact hh.mp.lt
  clear hb2 HF1 HB1
  go_wp2_with fail
  have him := IM.made w2
  have hl3 := sup_pc w2 (.map #[] 0)
  have hv0 : valB (fun _ => 0) (fun _ => 0) = [] := by
    unfold valB
    rw [flat_congr (g := fun _ => []) (fun z _ => nz_zero), flat_congr (g := fun _ => []) (fun z _ => nz_zero)]
    simp
  have HS3 : Hid (OnS w (w.heap.size + 1) w.heap.size w2.heap.size len (.int .i64 1) (.int .i64 0) (w2.alloc (.map #[] 0))) :=
    ⟨0, 1, _, _, _, _, Nat.zero_le _, by omega, rfl, rfl, Nat.le_refl _, Nat.le_refl _, HF2.out.later hl3, him, by rw [hv0]; exact (fun a => by simp), by rw [hv0]; exact List.nodup_nil, by rw [hv0]; exact (fun a h => by cases h), HB2.out.trans (hl3.mono HB2.out.size)⟩
  have hgb : w2.heap.size ≠ w.heap.size := by omega
  have hgw : w.heap.size ≤ w2.heap.size := by omega
  clear him hl3 HF2 HB2 hmm hv0
  generalize w2.alloc (.map #[] 0) = w3 at *
  generalize w2.heap.size = g at *
  generalize hM : w.heap.size + 1 = M at *
  clear hM
  go_loopw [4, 6] (fun nx t wr => OnS w M w.heap.size g len nx t wr) (fun _ t _ => 60 - (intOf t).toNat)
  case atStart => exact HS3.out
  case round =>
    clear HS3
    obtain ⟨j, q, d, ad, v, ks, hjl, hj60, rfl, rfl, hq1, hq2, hf, hm, hv, hnd, hbd, hb⟩ := hrel
    have HF := Lib.hid hf
    have HM := Lib.hid hm
    have HV := Lib.hid hv
    have HNd := Lib.hid hnd
    have HBd := Lib.hid hbd
    have HB := Lib.hid hb
    clear hf hm hv hb hnd hbd
    by_cases hlt : j < len ∧ j < 60
    · obtain ⟨hl1, hl2⟩ := hlt
      obtain ⟨ba, oa, rfl, hcs⟩ := HP.out.2.2 (by omega)
      obtain ⟨c0, c1, c2, c3⟩ := hcs j hl1
      have d0 := cell_later HB.out c0
      have d1 := cell_later HB.out c1
      have d2 := cell_later HB.out c2
      have d3 := cell_later HB.out c3
      clear hcs c0 c1 c2 c3
      generalize zs.getD (j * 4) 0 = z0 at *
      generalize zs.getD (j * 4 + 1) 0 = z1 at *
      generalize zs.getD (j * 4 + 2) 0 = z2 at *
      generalize zs.getD (j * 4 + 3) 0 = z3 at *
      have hi1 : (j : Int) < (len : Int) := by omega
      have hi2 : (j : Int) < 60 := by omega
      go_upto_if 42 with fail
      have hl4 := sup_pc wr (.cells #[.int .i64 z0, .int .i64 z1, .int .i64 z2, .int .i64 z3] OT)
      have HO4 := Lib.hid (blo_laid wr OT #[.int .i64 z0, .int .i64 z1, .int .i64 z2, .int .i64 z3])
      have HF4 := Lib.hid (HF.out.later hl4)
      have HM4 := Lib.hid (HM.out.later hl4)
      have HB4 := Lib.hid (HB.out.trans (hl4.mono HB.out.size))
      clear d0 d1 d2 d3 hl4 HF HM HB
      generalize wr.alloc (.cells #[.int .i64 z0, .int .i64 z1, .int .i64 z2, .int .i64 z3] OT) = w4 at *
      generalize wr.heap.size = g7 at *
      go_cut [4, 8, 9] (fun nx gn e wx => OnC w M w.heap.size g j nx gn e wx)
      case first =>
        have o0 := HO4.out.cell 0
        have o1 := HO4.out.cell 1
        simp at o0 o1
        by_cases hk : z0 = 2
        · have x1 : (z0 == 2) = true := by simpa using hk
          obtain ⟨fr, hfr, ef⟩ := cut601 z1
          have HE := Lib.hid ef
          clear ef hk
          go_wp2_with fail
          rw [HE.out]
          have HB5 := HB4
          refine (cut_once fr hfr HF4.out (by omega)).mono ?_
          rintro e w9 ⟨u9, m9, G9, d9, ad9, rfl, hm9, hm3, ho9, hf9, hs9, hp9, hso9⟩
          have HM9 := Lib.hid (HM4.out.fs hs9 hgb)
          have HB9 := Lib.hid (HB5.out.trans hs9.be)
          obtain ⟨ga, gc, rfl, -⟩ := own_slice ho9
          have HG9 := Lib.hid (own_weak ho9 HB5.out.size)
          have HF9 := Lib.hid hf9
          have HSo := Lib.hid hso9
          have HV9 := Lib.hid (HV.out.perm (fun a => hp9.mem_iff))
          have HN9 := Lib.hid (hp9.nodup_iff.1 HNd.out)
          have HD9 := Lib.hid (fun a ha => HBd.out a (hp9.mem_iff.2 ha))
          have HL9 := Lib.hid (And.intro hm9 hm3)
          clear hf9 hs9 ho9 hp9 hso9 hm9 hm3
          go_wp2_with fail
          go_meet
          exact ⟨q, m9, ga, gc, G9, d9, ad9, _, _, rfl, rfl, rfl, by omega, by omega, HL9.out.1, HL9.out.2, HG9.out, HSo.out, HF9.out, HM9.out.mono (by omega), HV9.out, HN9.out, HD9.out, HB9.out⟩
        · have x1 : (z0 == 2) = false := by simpa using hk
          obtain ⟨k, hk6, ek⟩ := cut600 z1
          have HE := Lib.hid ek
          clear ek hk
          go_wp2_with fail
          rw [HE.out]
          clear HE o0 o1
          refine (metas_anyF HF4.out).mono ?_
          rintro e w5 ⟨u5, ml, rfl, hml, ho5, hb5⟩
          obtain ⟨a5, c5, rfl, -⟩ := own_slice ho5
          have HF5 := Lib.hid (HF4.out.later hb5)
          have HM5 := Lib.hid (HM4.out.later hb5)
          have HB5 := Lib.hid (HB4.out.trans (hb5.mono HB4.out.size))
          have HO5 := Lib.hid (HO4.out.later hb5)
          have HR5 := Lib.hid ho5
          have HMl := Lib.hid hml
          have hml42 : ml ≤ 42 := by have := metL_len d; omega
          clear hml ho5 hb5 HF4 HM4 HB4 HO4
          have o0 := HO5.out.cell 0
          have o2 := HO5.out.cell 2
          have o3 := HO5.out.cell 3
          simp at o0 o2 o3
          have h3 : z0 ≠ 3 ∨ (z0 = 3 ∧ ml = 0) ∨ (z0 = 3 ∧ 0 < ml) := by omega
          rcases h3 with h3 | ⟨h3, rfl⟩ | ⟨h3, h31⟩
          · have x3 : (z0 == 3) = false := by simpa using h3
            have HXv : Hid (OnV d (k : Int)) := .inl ⟨k, hk6, rfl⟩
            generalize (k : Int) = x at *
            clear h3
            obtain ⟨r4, e4⟩ : ∃ r4, z2.tmod 4 = r4 := ⟨_, rfl⟩
            have t1 := Int.tmod_lt_of_pos z2 (show (0 : Int) < 4 by decide)
            have t2 := neg_tmod4 z2
            rw [e4] at t1 t2
            by_cases h4 : r4 = 0
            · subst h4
              go_wp2_with fail
              refine (set_once x HXv.out 0 (by decide) (by decide) (.inl rfl) HF5.out (by omega)).mono ?_
              rintro e w9 ⟨u9, m9, G9, d9, ad9, rfl, hm9, hm3, ho9, hf9, hs9, hp9, hso9⟩
              rw [nz_zero, List.append_nil] at hp9
              have HM9 := Lib.hid (HM5.out.fs hs9 hgb)
              have HB9 := Lib.hid (HB5.out.trans hs9.be)
              obtain ⟨ga, gc, rfl, -⟩ := own_slice ho9
              have HG9 := Lib.hid (own_weak ho9 HB5.out.size)
              have HF9 := Lib.hid hf9
              have HSo := Lib.hid hso9
              have HV9 := Lib.hid (HV.out.perm (fun a => hp9.mem_iff))
              have HN9 := Lib.hid (hp9.nodup_iff.1 HNd.out)
              have HD9 := Lib.hid (fun a ha => HBd.out a (hp9.mem_iff.2 ha))
              have HL9 := Lib.hid (And.intro hm9 hm3)
              clear hf9 hs9 ho9 hp9 hso9 hm9 hm3
              go_wp2_with fail
              go_meet
              exact ⟨q, m9, ga, gc, G9, d9, ad9, _, _, rfl, rfl, rfl, by omega, by omega, HL9.out.1, HL9.out.2, HG9.out, HSo.out, HF9.out, HM9.out.mono (by omega), HV9.out, HN9.out, HD9.out, HB9.out⟩
            · have y4 : (r4 == 0) = false := by simpa using h4
              have HQn : Hid ((q : Int) ∉ valB d ad) := fun e => by have := (HBd.out _ e).2; omega
              have hvq : (v (q : Int)).getD 0 = 0 := by rw [HV.out, if_neg HQn.out]; rfl
              have HVq := Lib.hid hvq
              have HWq := Lib.hid (wfI (q : Int) (by omega) (by omega))
              have HV6 := Lib.hid (HV.out.put (q : Int))
              have HN6 : Hid ((valB d ad ++ [(q : Int)]).Nodup) := List.nodup_append.2 ⟨HNd.out, by simp, fun a ha b hb => by simp at hb; subst hb; intro e; subst e; exact HQn.out ha⟩
              have HD6 : Hid (∀ a ∈ valB d ad ++ [(q : Int)], 1 ≤ a ∧ a < ((q + 1 : Nat) : Int)) := fun a ha => by
                rcases List.mem_append.1 ha with h1 | h1
                · have := HBd.out a h1; omega
                · simp at h1; omega
              clear hvq
              go_wp2_with (first
                | (at_lookup; refine wp_imap_get _ rfl _ _ rfl g j v ks rfl HM5.out (q : Int) rfl HWq.out 0 HVq.out ?_)
                | (at_mapUpdate; refine wp_imap_put _ rfl _ _ _ rfl g j v ks rfl HM5.out (by omega) (q : Int) rfl HWq.out 1 rfl (wfI 1 (by decide) (by decide)) ?_; intro w6 hm6 hg6; have HM6 := Lib.hid hm6; have HG6 := Lib.hid hg6; clear hm6 hg6))
              have HF6 := Lib.hid (HF5.out.map HM5.out hgb HG6.out)
              have HB6 := Lib.hid (HB5.out.grown HG6.out HB5.out.size (fun z e => by cases e; exact hgw))
              clear HF5 HB5
              have HF5 := HF6
              have HB5 := HB6
              clear HF6 HB6
              refine (set_once x HXv.out (q : Int) (by omega) (by omega) (.inr HQn.out) HF5.out (by omega)).mono ?_
              rintro e w9 ⟨u9, m9, G9, d9, ad9, rfl, hm9, hm3, ho9, hf9, hs9, hp9, hso9⟩
              rw [show nz (q : Int) = [(q : Int)] by unfold nz; rw [if_pos (by omega)]] at hp9
              have HM9 := Lib.hid (HM6.out.fs hs9 hgb)
              have HB9 := Lib.hid (HB5.out.trans hs9.be)
              obtain ⟨ga, gc, rfl, -⟩ := own_slice ho9
              have HG9 := Lib.hid (own_weak ho9 HB5.out.size)
              have HF9 := Lib.hid hf9
              have HSo := Lib.hid hso9
              have HV9 := Lib.hid (HV6.out.perm (fun a => hp9.mem_iff))
              have HN9 := Lib.hid (hp9.nodup_iff.1 HN6.out)
              have HD9 := Lib.hid (fun a ha => HD6.out a (hp9.mem_iff.2 ha))
              have HL9 := Lib.hid (And.intro hm9 hm3)
              clear hf9 hs9 ho9 hp9 hso9 hm9 hm3
              go_wp2_with fail
              go_meet
              exact ⟨q + 1, m9, ga, gc, G9, d9, ad9, _, _, by simp, rfl, rfl, by omega, by omega, HL9.out.1, HL9.out.2, HG9.out, HSo.out, HF9.out, HM9.out, HV9.out, HN9.out, HD9.out, HB9.out⟩
          · have x3 : (z0 == 3) = true := by simpa using h3
            have HXv : Hid (OnV d (k : Int)) := .inl ⟨k, hk6, rfl⟩
            generalize (k : Int) = x at *
            clear h3
            obtain ⟨r4, e4⟩ : ∃ r4, z2.tmod 4 = r4 := ⟨_, rfl⟩
            have t1 := Int.tmod_lt_of_pos z2 (show (0 : Int) < 4 by decide)
            have t2 := neg_tmod4 z2
            rw [e4] at t1 t2
            by_cases h4 : r4 = 0
            · subst h4
              go_wp2_with fail
              refine (set_once x HXv.out 0 (by decide) (by decide) (.inl rfl) HF5.out (by omega)).mono ?_
              rintro e w9 ⟨u9, m9, G9, d9, ad9, rfl, hm9, hm3, ho9, hf9, hs9, hp9, hso9⟩
              rw [nz_zero, List.append_nil] at hp9
              have HM9 := Lib.hid (HM5.out.fs hs9 hgb)
              have HB9 := Lib.hid (HB5.out.trans hs9.be)
              obtain ⟨ga, gc, rfl, -⟩ := own_slice ho9
              have HG9 := Lib.hid (own_weak ho9 HB5.out.size)
              have HF9 := Lib.hid hf9
              have HSo := Lib.hid hso9
              have HV9 := Lib.hid (HV.out.perm (fun a => hp9.mem_iff))
              have HN9 := Lib.hid (hp9.nodup_iff.1 HNd.out)
              have HD9 := Lib.hid (fun a ha => HBd.out a (hp9.mem_iff.2 ha))
              have HL9 := Lib.hid (And.intro hm9 hm3)
              clear hf9 hs9 ho9 hp9 hso9 hm9 hm3
              go_wp2_with fail
              go_meet
              exact ⟨q, m9, ga, gc, G9, d9, ad9, _, _, rfl, rfl, rfl, by omega, by omega, HL9.out.1, HL9.out.2, HG9.out, HSo.out, HF9.out, HM9.out.mono (by omega), HV9.out, HN9.out, HD9.out, HB9.out⟩
            · have y4 : (r4 == 0) = false := by simpa using h4
              have HQn : Hid ((q : Int) ∉ valB d ad) := fun e => by have := (HBd.out _ e).2; omega
              have hvq : (v (q : Int)).getD 0 = 0 := by rw [HV.out, if_neg HQn.out]; rfl
              have HVq := Lib.hid hvq
              have HWq := Lib.hid (wfI (q : Int) (by omega) (by omega))
              have HV6 := Lib.hid (HV.out.put (q : Int))
              have HN6 : Hid ((valB d ad ++ [(q : Int)]).Nodup) := List.nodup_append.2 ⟨HNd.out, by simp, fun a ha b hb => by simp at hb; subst hb; intro e; subst e; exact HQn.out ha⟩
              have HD6 : Hid (∀ a ∈ valB d ad ++ [(q : Int)], 1 ≤ a ∧ a < ((q + 1 : Nat) : Int)) := fun a ha => by
                rcases List.mem_append.1 ha with h1 | h1
                · have := HBd.out a h1; omega
                · simp at h1; omega
              clear hvq
              go_wp2_with (first
                | (at_lookup; refine wp_imap_get _ rfl _ _ rfl g j v ks rfl HM5.out (q : Int) rfl HWq.out 0 HVq.out ?_)
                | (at_mapUpdate; refine wp_imap_put _ rfl _ _ _ rfl g j v ks rfl HM5.out (by omega) (q : Int) rfl HWq.out 1 rfl (wfI 1 (by decide) (by decide)) ?_; intro w6 hm6 hg6; have HM6 := Lib.hid hm6; have HG6 := Lib.hid hg6; clear hm6 hg6))
              have HF6 := Lib.hid (HF5.out.map HM5.out hgb HG6.out)
              have HB6 := Lib.hid (HB5.out.grown HG6.out HB5.out.size (fun z e => by cases e; exact hgw))
              clear HF5 HB5
              have HF5 := HF6
              have HB5 := HB6
              clear HF6 HB6
              refine (set_once x HXv.out (q : Int) (by omega) (by omega) (.inr HQn.out) HF5.out (by omega)).mono ?_
              rintro e w9 ⟨u9, m9, G9, d9, ad9, rfl, hm9, hm3, ho9, hf9, hs9, hp9, hso9⟩
              rw [show nz (q : Int) = [(q : Int)] by unfold nz; rw [if_pos (by omega)]] at hp9
              have HM9 := Lib.hid (HM6.out.fs hs9 hgb)
              have HB9 := Lib.hid (HB5.out.trans hs9.be)
              obtain ⟨ga, gc, rfl, -⟩ := own_slice ho9
              have HG9 := Lib.hid (own_weak ho9 HB5.out.size)
              have HF9 := Lib.hid hf9
              have HSo := Lib.hid hso9
              have HV9 := Lib.hid (HV6.out.perm (fun a => hp9.mem_iff))
              have HN9 := Lib.hid (hp9.nodup_iff.1 HN6.out)
              have HD9 := Lib.hid (fun a ha => HD6.out a (hp9.mem_iff.2 ha))
              have HL9 := Lib.hid (And.intro hm9 hm3)
              clear hf9 hs9 ho9 hp9 hso9 hm9 hm3
              go_wp2_with fail
              go_meet
              exact ⟨q + 1, m9, ga, gc, G9, d9, ad9, _, _, by simp, rfl, rfl, by omega, by omega, HL9.out.1, HL9.out.2, HG9.out, HSo.out, HF9.out, HM9.out, HV9.out, HN9.out, HD9.out, HB9.out⟩
          · have x3 : (z0 == 3) = true := by simpa using h3
            have h32 : (0 : Int) < (ml : Int) := by omega
            have h33 : ((ml : Int) == 0) = false := by simp; omega
            obtain ⟨i, hi, ei⟩ := cut_pos z3 ml h31 hml42
            have hil : i < (metL d).length := by rw [← HMl.out]; exact hi
            have HXv : Hid (OnV d (metL d)[i]) := .inr ⟨(List.mem_filter.1 (List.getElem_mem hil)).1, (metL_mem d _).1 (List.getElem_mem hil)⟩
            obtain ⟨g1, rfl, -, -, -, -⟩ := own_some HR5.out h31
            have cX : w5.cell? ⟨g1, i, none⟩ = some (.int .i64 (metL d)[i]) := by
              rw [HR5.out.cellAt i (by omega), cellsI_get _ i hil]; simp [List.getD_eq_getElem?_getD, hil]
            generalize (metL d)[i] = x at *
            have hwu : IntKind.u64.wrap (ml : Int) = (ml : Int) := by simp [IntKind.wrap, IntKind.signed, IntKind.bits]; omega
            have hi9 : (i : Int) < (ml : Int) := by omega
            clear h3 hil
            obtain ⟨r4, e4⟩ : ∃ r4, z2.tmod 4 = r4 := ⟨_, rfl⟩
            have t1 := Int.tmod_lt_of_pos z2 (show (0 : Int) < 4 by decide)
            have t2 := neg_tmod4 z2
            rw [e4] at t1 t2
            by_cases h4 : r4 = 0
            · subst h4
              go_wp2_with fail
              refine (set_once x HXv.out 0 (by decide) (by decide) (.inl rfl) HF5.out (by omega)).mono ?_
              rintro e w9 ⟨u9, m9, G9, d9, ad9, rfl, hm9, hm3, ho9, hf9, hs9, hp9, hso9⟩
              rw [nz_zero, List.append_nil] at hp9
              have HM9 := Lib.hid (HM5.out.fs hs9 hgb)
              have HB9 := Lib.hid (HB5.out.trans hs9.be)
              obtain ⟨ga, gc, rfl, -⟩ := own_slice ho9
              have HG9 := Lib.hid (own_weak ho9 HB5.out.size)
              have HF9 := Lib.hid hf9
              have HSo := Lib.hid hso9
              have HV9 := Lib.hid (HV.out.perm (fun a => hp9.mem_iff))
              have HN9 := Lib.hid (hp9.nodup_iff.1 HNd.out)
              have HD9 := Lib.hid (fun a ha => HBd.out a (hp9.mem_iff.2 ha))
              have HL9 := Lib.hid (And.intro hm9 hm3)
              clear hf9 hs9 ho9 hp9 hso9 hm9 hm3
              go_wp2_with fail
              go_meet
              exact ⟨q, m9, ga, gc, G9, d9, ad9, _, _, rfl, rfl, rfl, by omega, by omega, HL9.out.1, HL9.out.2, HG9.out, HSo.out, HF9.out, HM9.out.mono (by omega), HV9.out, HN9.out, HD9.out, HB9.out⟩
            · have y4 : (r4 == 0) = false := by simpa using h4
              have HQn : Hid ((q : Int) ∉ valB d ad) := fun e => by have := (HBd.out _ e).2; omega
              have hvq : (v (q : Int)).getD 0 = 0 := by rw [HV.out, if_neg HQn.out]; rfl
              have HVq := Lib.hid hvq
              have HWq := Lib.hid (wfI (q : Int) (by omega) (by omega))
              have HV6 := Lib.hid (HV.out.put (q : Int))
              have HN6 : Hid ((valB d ad ++ [(q : Int)]).Nodup) := List.nodup_append.2 ⟨HNd.out, by simp, fun a ha b hb => by simp at hb; subst hb; intro e; subst e; exact HQn.out ha⟩
              have HD6 : Hid (∀ a ∈ valB d ad ++ [(q : Int)], 1 ≤ a ∧ a < ((q + 1 : Nat) : Int)) := fun a ha => by
                rcases List.mem_append.1 ha with h1 | h1
                · have := HBd.out a h1; omega
                · simp at h1; omega
              clear hvq
              go_wp2_with (first
                | (at_lookup; refine wp_imap_get _ rfl _ _ rfl g j v ks rfl HM5.out (q : Int) rfl HWq.out 0 HVq.out ?_)
                | (at_mapUpdate; refine wp_imap_put _ rfl _ _ _ rfl g j v ks rfl HM5.out (by omega) (q : Int) rfl HWq.out 1 rfl (wfI 1 (by decide) (by decide)) ?_; intro w6 hm6 hg6; have HM6 := Lib.hid hm6; have HG6 := Lib.hid hg6; clear hm6 hg6))
              have HF6 := Lib.hid (HF5.out.map HM5.out hgb HG6.out)
              have HB6 := Lib.hid (HB5.out.grown HG6.out HB5.out.size (fun z e => by cases e; exact hgw))
              clear HF5 HB5
              have HF5 := HF6
              have HB5 := HB6
              clear HF6 HB6
              refine (set_once x HXv.out (q : Int) (by omega) (by omega) (.inr HQn.out) HF5.out (by omega)).mono ?_
              rintro e w9 ⟨u9, m9, G9, d9, ad9, rfl, hm9, hm3, ho9, hf9, hs9, hp9, hso9⟩
              rw [show nz (q : Int) = [(q : Int)] by unfold nz; rw [if_pos (by omega)]] at hp9
              have HM9 := Lib.hid (HM6.out.fs hs9 hgb)
              have HB9 := Lib.hid (HB5.out.trans hs9.be)
              obtain ⟨ga, gc, rfl, -⟩ := own_slice ho9
              have HG9 := Lib.hid (own_weak ho9 HB5.out.size)
              have HF9 := Lib.hid hf9
              have HSo := Lib.hid hso9
              have HV9 := Lib.hid (HV6.out.perm (fun a => hp9.mem_iff))
              have HN9 := Lib.hid (hp9.nodup_iff.1 HN6.out)
              have HD9 := Lib.hid (fun a ha => HD6.out a (hp9.mem_iff.2 ha))
              have HL9 := Lib.hid (And.intro hm9 hm3)
              clear hf9 hs9 ho9 hp9 hso9 hm9 hm3
              go_wp2_with fail
              go_meet
              exact ⟨q + 1, m9, ga, gc, G9, d9, ad9, _, _, by simp, rfl, rfl, by omega, by omega, HL9.out.1, HL9.out.2, HG9.out, HSo.out, HF9.out, HM9.out, HV9.out, HN9.out, HD9.out, HB9.out⟩
      case rest =>
        obtain ⟨q2, m, ga, gc, G, d2, ad2, v2, ks2, rfl, rfl, rfl, hq3, hq4, hmG, hm3, hg, hso, hf, him, hv, hn, hbd, hb⟩ := hcut
        have HF5 := Lib.hid hf
        have HM5 := Lib.hid him
        have HV5 := Lib.hid hv
        have HN5 := Lib.hid hn
        have HD5 := Lib.hid hbd
        have HB5 := Lib.hid hb
        have HG5 := Lib.hid hg
        have HSo := Lib.hid hso
        have HMg := Lib.hid hmG
        have HNG : Hid (G.Nodup) := (List.nodup_append.1 hn).1
        clear hf him hv hn hbd hb hg hso hmG HF4 HM4 HB4 HO4 HV HNd HBd
        rename World => w5
        have HVl : Hid (∀ a ∈ valB d2 ad2, a ∉ G) := fun a ha hg => (List.nodup_append.1 HN5.out).2.2 a hg a ha rfl
        have HNv : Hid ((valB d2 ad2).Nodup) := (List.nodup_append.1 HN5.out).2.1
        have HDv : Hid (∀ a ∈ valB d2 ad2, 1 ≤ a ∧ a < (q2 : Int)) := fun a ha => HD5.out a (List.mem_append_right _ ha)
        have HDg : Hid (∀ a ∈ G, 1 ≤ a ∧ a < (q2 : Int)) := fun a ha => HD5.out a (List.mem_append_left _ ha)
        clear HN5 HD5
        go_wp2_with fail
        go_loopw [101] (fun t wr => OnG w M w.heap.size g (j + 1) (1800 * j + 1800) G (valB d2 ad2) d2 ad2 (.slice ga m gc) m t wr) (fun t _ => m - (intOf t).toNat)
        case atStart => exact ⟨0, v2, ks2, Nat.zero_le _, rfl, HF5.out, HM5.out, by rw [List.drop_zero]; exact HV5.out, HG5.out, HB5.out⟩
        case round =>
          clear HF5 HM5 HV5 HG5 HB5
          rename World => wq
          obtain ⟨k, v3, ks3, hk, rfl, hf, him, hv, hg, hb⟩ := hrel
          have HF := Lib.hid hf
          have HM := Lib.hid him
          have HV := Lib.hid hv
          have HG := Lib.hid hg
          have HB := Lib.hid hb
          clear hf him hv hg hb
          by_cases hkm : k < m
          · obtain ⟨g1, rfl, -, -, -, -⟩ := own_some HG.out (by omega)
            have hkl : k < G.length := by rw [← HMg.out]; exact hkm
            have cK : wq.cell? ⟨g1, k, none⟩ = some (.int .i64 G[k]) := by
              rw [HG.out.cellAt k (by omega), cellsI_get _ k hkl]; simp [List.getD_eq_getElem?_getD, hkl]
            have hdr : G.drop k = G[k] :: G.drop (k + 1) := List.drop_eq_getElem_cons hkl
            have hbx := HDg.out G[k] (List.getElem_mem hkl)
            have hin : G[k] ∈ G.drop k ++ valB d2 ad2 := List.mem_append_left _ (by rw [hdr]; exact List.mem_cons_self ..)
            have hnd : (G.drop k ++ valB d2 ad2).Nodup := List.nodup_append.2 ⟨HNG.out.sublist (List.drop_sublist _ _), HNv.out, fun a ha b hb e => HVl.out b hb (by rw [← e]; exact List.mem_of_mem_drop ha)⟩
            have hkey := HM.out.keys HV.out hnd
            have HIn : Hid (G[k] ∈ ks3) := (hkey.1 _).2 hin
            have hv1 : (v3 G[k]).getD 0 = 1 := by rw [HV.out, if_pos hin]; rfl
            have HV1 := Lib.hid hv1
            have HV9 : Hid (MS (G.drop (k + 1) ++ valB d2 ad2) (updO v3 G[k] none)) := by
              have h1 := HV.out
              rw [hdr, List.cons_append] at h1
              rw [hdr, List.cons_append] at hnd
              exact h1.del (List.nodup_cons.1 hnd).1
            have HWf := Lib.hid (wfI G[k] (by omega) (by omega))
            clear hv1 hin hkey hnd hdr
            rcases k with _ | k
            · generalize G[0] = y at *
              clear hkl hbx
              go_wp2_with (first
                | (at_lookup; refine wp_imap_get _ rfl _ _ rfl g (j + 1) v3 ks3 rfl HM.out y rfl HWf.out 1 HV1.out ?_)
                | (at_delete; refine wp_imap_del _ rfl _ _ rfl g (j + 1) v3 ks3 rfl HM.out y rfl HWf.out HIn.out ?_; intro w6 hm6 hg6; have HM6 := Lib.hid hm6; have HG6 := Lib.hid hg6; clear hm6 hg6))
              have HF6 := Lib.hid (HF.out.map HM.out hgb HG6.out)
              have HR6 := Lib.hid (own_map HG.out HM.out HG6.out)
              have HB6 := Lib.hid (HB.out.grown HG6.out HB.out.size (fun z e => by cases e; exact hgw))
              go_roundw
              case rel => exact ⟨1, _, _, by omega, by simp, HF6.out, HM6.out, HV9.out, HR6.out, HB6.out⟩
              case measure => simp [intOf]; omega
            · have cK1 : wq.cell? ⟨g1, k, none⟩ = some (.int .i64 G[k]) := by
                rw [HG.out.cellAt k (by omega), cellsI_get _ k (by omega)]; simp [List.getD_eq_getElem?_getD, show k < G.length by omega]
              have hlt2 := sorted_lt HSo.out HNG.out k hkl
              generalize G[k + 1] = y at *
              generalize G[k] = y0 at *
              clear hkl hbx
              have hge : ¬ y ≤ y0 := by omega
              go_wp2_with (first
                | (at_lookup; refine wp_imap_get _ rfl _ _ rfl g (j + 1) v3 ks3 rfl HM.out y rfl HWf.out 1 HV1.out ?_)
                | (at_delete; refine wp_imap_del _ rfl _ _ rfl g (j + 1) v3 ks3 rfl HM.out y rfl HWf.out HIn.out ?_; intro w6 hm6 hg6; have HM6 := Lib.hid hm6; have HG6 := Lib.hid hg6; clear hm6 hg6))
              have HF6 := Lib.hid (HF.out.map HM.out hgb HG6.out)
              have HR6 := Lib.hid (own_map HG.out HM.out HG6.out)
              have HB6 := Lib.hid (HB.out.grown HG6.out HB.out.size (fun z e => by cases e; exact hgw))
              go_roundw
              case rel => exact ⟨k + 1 + 1, _, _, by omega, by simp, HF6.out, HM6.out, HV9.out, HR6.out, HB6.out⟩
              case measure => simp [intOf]; omega
          · obtain rfl : k = m := by omega
            have hv4 := HV.out
            rw [HMg.out, List.drop_length, List.nil_append] at hv4
            have HV4 := Lib.hid hv4
            have hkey := HM.out.keys hv4 HNv.out
            have HAz := Lib.hid HF.out.az
            have hsn := plc_snd d2 ad2 HAz.out
            have HSn := Lib.hid hsn
            have HPb := Lib.hid (plc_bd HF.out)
            have HPm := Lib.hid (fun p (hp : p ∈ plcL d2 ad2) => (plc_mem d2 ad2 p).1 hp)
            clear hv4 HG HV hsn
            go_wp2_with fail
            refine (places_any HF.out).mono ?_
            rintro e w7 ⟨u7, r, rfl, hr, ho7, hb7⟩
            obtain ⟨a7, c7, rfl, -⟩ := own_slice ho7
            have HF7 := Lib.hid (HF.out.later hb7)
            have HM7 := Lib.hid (HM.out.later hb7)
            have HO7 := Lib.hid (own_weak ho7 HB.out.size)
            have HB7 := Lib.hid (HB.out.trans (hb7.mono HB.out.size))
            have hrk : ks3.length = r := by rw [hkey.2, ← HSn.out, List.length_map, hr]
            have HR := Lib.hid hr
            have hne : ((r : Int) != (r : Int)) = false := by simp
            have hr9 : r ≤ 1000000 := by have := plc_len d2 ad2; omega
            clear ho7 hb7 HF HM HB hr hkey
            go_wp2_with (at_len; refine wp_imap_len _ rfl _ rfl g (j + 1) v3 ks3 rfl HM7.out ?_; rw [hrk])
            clear hrk
            have HPw : Hid (∀ p ∈ plcL d2 ad2, (v3 p.2).getD 0 = 1 ∧ getM d2 ad2 p.1 = p.2) := fun p hp => by
              refine ⟨?_, ?_⟩
              · have : p.2 ∈ valB d2 ad2 := by rw [← HSn.out]; exact List.mem_map.2 ⟨p, hp, rfl⟩
                rw [HV4.out, if_pos this]; rfl
              · rcases HPm.out p hp with ⟨n, h1, _, rfl⟩ | ⟨x, h1, _, rfl⟩
                · exact getM_data d2 ad2 n h1
                · have := (metAll_f.2.2.1 x (List.mem_filter.1 ((metL_mem d2 x).2 h1)).1).2.1
                  unfold getM
                  rw [if_neg (by simp only; omega)]
            have hqb := And.intro hq3 hq4
            clear HPm HSn
            generalize hP : plcL d2 ad2 = P at *
            clear hP
            go_loopw [135] (fun t wr => OnP w M w.heap.size g (j + 1) (1800 * j + 1800) d2 ad2 v3 ks3 P r (.slice a7 r c7) t wr) (fun t _ => r - (intOf t).toNat)
            case atStart => exact ⟨0, Nat.zero_le _, rfl, HF7.out, HM7.out, HO7.out, HB7.out⟩
            case round =>
              clear HF7 HM7 HO7 HB7
              rename World => wp
              obtain ⟨i, hi, rfl, hf, him, ho, hb⟩ := hrel
              have HF := Lib.hid hf
              have HM := Lib.hid him
              have HO := Lib.hid ho
              have HB := Lib.hid hb
              clear hf him ho hb
              by_cases hir : i < r
              · obtain ⟨g1, rfl, -, -, -, -⟩ := own_some HO.out (by omega)
                have hil : i < P.length := by rw [← HR.out]; exact hir
                obtain ⟨e1, e2⟩ := cellsP_get P i hil
                have cA : wp.cell? ⟨g1, i * 2, none⟩ = some (.int .i64 P[i].1) := by rw [HO.out.cellAt (i * 2) (by omega), Nat.mul_comm]; exact e1
                have cB : wp.cell? ⟨g1, i * 2 + 1, none⟩ = some (.int .i64 P[i].2) := by rw [HO.out.cellAt (i * 2 + 1) (by omega), Nat.mul_comm]; exact e2
                have hbd := HPb.out P[i] (List.getElem_mem hil)
                obtain ⟨hw1, hw2⟩ := HPw.out P[i] (List.getElem_mem hil)
                have HW1 := Lib.hid (wfI P[i].1 (by omega) (by omega))
                have HW2 := Lib.hid (wfI P[i].2 (by omega) (by omega))
                have HV1 := Lib.hid hw1
                have HV2 := Lib.hid hw2
                clear e1 e2 hbd hw1 hw2
                generalize P[i].1 = x1 at *
                generalize P[i].2 = x2 at *
                clear hil
                have hl8 := sup_pc wp (.cells #[.int .i64 x1, .int .i64 x2] LT)
                have HM8 := Lib.hid (HM.out.later hl8)
                have HF8 := Lib.hid (HF.out.later hl8)
                have HO8 := Lib.hid (own_later HO.out hl8)
                have HB8 := Lib.hid (HB.out.trans (hl8.mono HB.out.size))
                have HL8 := Lib.hid (blo_laid wp LT #[.int .i64 x1, .int .i64 x2])
                clear hl8 HM HF HO HB
                go_wp2_with fail
                clear cA cB
                generalize wp.alloc (.cells #[.int .i64 x1, .int .i64 x2] LT) = w8 at *
                generalize wp.heap.size = g8 at *
                have p0 : ∀ y : Kept w8, y.at_.cell? ⟨g8, 0, none⟩ = some (.int .i64 x1) := fun y => ((HL8.out.later y.below).cell 0).trans rfl
                have p1 : ∀ y : Kept w8, y.at_.cell? ⟨g8, 1, none⟩ = some (.int .i64 x2) := fun y => ((HL8.out.later y.below).cell 1).trans rfl
                have lk : ∀ y : Kept w8, (Instr.lookup 32 (.map (some g)) (.int .i64 x2) false).run Try.prog y.at_ = .ok (.int .i64 1) y.at_ := fun y => (HM8.out.later y.below).look x2 HW2.out 1 HV1.out
                have HGt : Hid (∀ y : Kept w8, Calls Try.prog 24 #[.pointer (some ⟨M, 0, none⟩), .int .i64 x1] y.at_ fun e w' => e = .returned (.int .i64 x2) ∧ y.at_ = w') := fun y => by
                  have := get_x x1 HW1.out (HF8.out.later y.below)
                  rw [HV2.out] at this
                  exact this
                have z1 : (x2 != x2) = false := by simp
                refine wp_region_kept (by kernel_rfl) (by kernel_rfl) ?_
                repeat (first | go_big_quiet_step ((go_at_call 24; with_reducible exact kept_call_same _ (HGt.out _))) | simp only [z1])
                refine wpQuiet_nil ?_
                rintro W ⟨wx, rfl⟩
                have HFx := Lib.hid (HF8.out.later wx.below)
                have HMx := Lib.hid (HM8.out.later wx.below)
                have HOx := Lib.hid (own_later HO8.out wx.below)
                have HBx := Lib.hid (HB8.out.trans (wx.below.mono HB8.out.size))
                clear p0 p1 lk HGt HF8 HM8 HO8 HB8 HL8
                go_wp2_with fail
                go_roundw
                case rel => exact ⟨i + 1, hir, by simp, HFx.out, HMx.out, HOx.out, HBx.out⟩
                case measure => simp [intOf]; omega
              · obtain rfl : i = r := by omega
                have HF9 := Lib.hid (HF.out.mono (n' := 1800 * (j + 1)) (by omega))
                clear HF HO
                go_wp2_with fail
                go_roundw
                case rel => exact ⟨j + 1, q2, d2, ad2, v3, ks3, hl1, hl2, by simp, rfl, hqb.1, by omega, HF9.out, HM.out, HV4.out, HNv.out, HDv.out, HB.out⟩
                case measure => simp [intOf]; omega
    · have hx : (¬ (j : Int) < (len : Int)) ∨ ((j : Int) < (len : Int) ∧ ¬ (j : Int) < 60) := by omega
      clear hlt
      rcases hx with i1 | ⟨i1, i2⟩
      all_goals
        go_wp2_with fail
        go_ret
        exact ⟨rfl, HB.out⟩
end Go.Proofs.Ytnlmpnpelnmpeaa
