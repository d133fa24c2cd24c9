/-
  ImapLoads.
-/
import Derived.Test.YtbacfbdeeogkgaaImLawM
namespace Go.Proofs.Ytbacfbdeeogkgaa
open Go.RowKit Go.Maps

def L4R (w : World) (L : List (List Nat)) (A : Nat → Option Addr) (C : Nat → Nat) (v : Value) (m : Nat) (QQ : World → Prop) (t : Value) (W : World) : Prop := ∃ i : Nat, i ≤ m ∧ t = .int .i64 i ∧ InS w L A C v m i W ∧ QQ W
def L5R (w : World) (L : List (List Nat)) (A : Nat → Option Addr) (C : Nat → Nat) (v : Value) (m i : Nat) (QQ : World → Prop) (t : Value) (W : World) : Prop :=
  ∃ (k : Nat) (ys : List Nat), k ≤ (nthL L i).length ∧ t = .int .i64 k ∧ W.ownsRow w.heap.size U8 1 (slA A C L i) (nthL L i).length (cellsB ys) ∧ (∀ y ∈ ys, y < 256) ∧ InS w L A C v m (i + 1) W ∧ QQ W
theorem l5_step {w W : World} {L : List (List Nat)} {A : Nat → Option Addr} {C : Nat → Nat} {v : Value} {m i k N0 : Nat} {QQ : World → Prop} {ys : List Nat} (hk : k < (nthL L i).length) (hap : Apart A C L m) (hi : i < m)
    (ho : W.ownsRow w.heap.size U8 1 (slA A C L i) (nthL L i).length (cellsB ys)) (hy : ∀ y ∈ ys, y < 256) (hs : InS w L A C v m (i + 1) W) (hq : QQ W) (hQs : ∀ W p u, p.block < N0 → QQ W → QQ (W.setCell p u)) (hlow : ∀ j, j < m → ∀ g, (slA A C L j).ownBlock = some g → g < N0) (y gi : Nat) (hgi : (slA A C L i).ownBlock = some gi) :
    L5R w L A C v m i QQ (.int .i64 ((k : Int) + 1)) (W.setCell ⟨gi, k, none⟩ (.int .u8 (((y : Int) + 1) % 256))) := by
  have e : (Value.int .u8 (((y : Int) + 1) % 256)) = .int .u8 (((y + 1) % 256 : Nat) : Int) := rfl
  rw [e]
  have hA : ∃ ci, slA A C L i = .slice (some ⟨gi, 0, none⟩) (nthL L i).length ci := by
    rcases ho.2 with ⟨x, _⟩ | ⟨g1, c1, cur1, x, _⟩
    · rw [x] at hgi; cases hgi
    · rw [x] at hgi
      simp [Value.ownBlock] at hgi
      subst hgi
      exact ⟨c1, x⟩
  obtain ⟨ci, hA⟩ := hA
  rw [hA] at ho
  have hst := (ho.stored k (.int .u8 (((y + 1) % 256 : Nat) : Int))).1
  have e4 : (cellsB ys).set k (.int .u8 (((y + 1) % 256 : Nat) : Int)) = cellsB (ys.set k ((y + 1) % 256)) := by simp [cellsB, List.map_set]
  rw [e4] at hst
  have hbs : w.heap.size ≤ gi := (ho.lt gi rfl).1
  refine ⟨k + 1, ys.set k ((y + 1) % 256), hk, by simp, by rw [hA]; exact hst, fun z hz => ?_, ⟨own_far hs.row (fun e2 => own_ne ho hs.row (by decide) gi rfl e2.symm) _, fun j ha hb => own_far (hs.own j ha hb) (fun e2 => hap i j (by omega) hb gi hgi e2.symm) _, hs.bel.setCell (p := ⟨gi, k, none⟩) hbs _⟩, hQs W _ _ (hlow i hi gi hgi) hq⟩
  rcases List.mem_or_eq_of_mem_set hz with h | h
  · exact hy z h
  · rw [h]; exact Nat.mod_lt _ (by decide)
def L1R (w : World) (L : List (List Nat)) (v t : Value) (W : World) : Prop := ∃ (k : Nat) (A : Nat → Option Addr) (C : Nat → Nat), k ≤ L.length ∧ t = .int .i64 k ∧ InS w L A C v k 0 W ∧ Apart A C L k ∧ ∀ j, j < k → (nthL L j).length ≤ 200
theorem own_emptyB (w : World) : (w.alloc (.cells #[] U8)).ownsRow w.heap.size U8 1 (.slice (some ⟨w.heap.size, 0, none⟩) 0 0) 0 (cellsB []) :=
  ⟨rfl, .inr ⟨w.heap.size, 0, #[], rfl, Nat.le_refl _, heap_alloc_new w _, Nat.le_refl _, by decide, rfl, rfl⟩⟩
set_option maxRecDepth 100000 in
set_option maxHeartbeats 16000000 in
theorem imapLoads_walk (n : Int) (a : Option Addr) (m cap : Nat) (A0 : Nat → Option Addr) (C0 : Nat → Nat) (L : List (List Nat)) (w : World) (hn : (Lit.int .i64 n).wf = true) (hl : Lists w a m A0 C0 L) :
    Calls Try.prog 3 #[.int .i64 n, .slice a m cap] w fun e w' => e = .returned (.bool true) ∧ Below w.heap.size w w' := by
  by_cases hbig : 60 < m
  · have h1' : (60 : Int) < (m : Int) := by omega
    clear hbig hl hn
    go_enter Try.func3, Try.ntmps3
    go_wp2_with fail
    refine (awake_any _).mono ?_
    rintro e w1 ⟨rfl, hb1⟩
    have HB1 := Lib.hid hb1
    clear hb1
    go_wp2_with fail
    refine (awake_any _).mono ?_
    rintro e w2 ⟨rfl, hb2⟩
    have HB2 := Lib.hid (HB1.out.trans (hb2.mono HB1.out.size))
    clear hb2 HB1
    go_wp2_with fail
    go_ret
    exact ⟨rfl, HB2.out⟩
  · have h1' : ¬ (60 : Int) < (m : Int) := by omega
    have HM60 : Hid (m ≤ 60) := by show _ ≤ _; omega
    have HLs := Lib.hid hl
    have HLn := Lib.hid hl.len
    have H256 : Hid (∀ i, i < m → ∀ x ∈ nthL L i, x < 256) := fun i hi => (hl.each i hi).1.1
    clear hbig hl hn
    go_enter Try.func3, Try.ntmps3
    go_wp2_with fail
    refine (awake_any _).mono ?_
    rintro e w1 ⟨rfl, hb1⟩
    have HS0 : Hid (L1R w L (.slice none 0 0) (.int .i64 0) w1) := ⟨0, fun _ => none, fun _ => 0, Nat.zero_le _, rfl, ⟨⟨rfl, .inl ⟨rfl, rfl⟩⟩, fun j _ h => by omega, hb1⟩, fun _ _ _ h => by omega, fun _ h => by omega⟩
    clear hb1
    go_wp2_with fail
    go_loopw [5, 24] (fun v t wr => L1R w L v t wr) (fun _ t _ => m - (intOf t).toNat)
    case atStart => exact HS0.out
    case round =>
      clear HS0 h1'
      obtain ⟨k, A, C, hk, rfl, hs, hap, h2⟩ := hrel
      obtain ⟨a0, c0, rfl, -⟩ := own_slice hs.row
      have HS := Lib.hid hs
      have HAp := Lib.hid hap
      have H2 := Lib.hid h2
      have HK := Lib.hid hk
      have k0 : (0 : Int) ≤ (k : Int) := by omega
      have m60 : (m : Int) ≤ 60 := by have := HM60.out; omega
      clear hs hap h2 hk
      by_cases hlt : k < m
      · have k1 : (k : Int) < (m : Int) := by omega
        have HKm := Lib.hid hlt
        have hll := HLs.out.below HS.out.bel
        obtain ⟨b, o, rfl, hcl⟩ := hll.at_ (by omega)
        have hck := hcl k hlt
        obtain ⟨hby, hno, hle⟩ := hll.each k hlt
        have HBy := Lib.hid hby
        have HNo := Lib.hid hno
        clear hll hcl hby hno hle hlt
        by_cases h200 : (nthL L k).length ≤ 200
        · have q1 : ¬ (200 : Int) < ((nthL L k).length : Int) := by omega
          have H200 := Lib.hid h200
          obtain ⟨ll, hll⟩ : ∃ ll, ll = (nthL L k).length := ⟨_, rfl⟩
          have HLL := Lib.hid hll
          have ha1 := sup_im wr (.cells #[] U8)
          have HO1 := Lib.hid (own_emptyB wr)
          have HB1 := Lib.hid ha1
          have HY1 := Lib.hid (HBy.out.below ha1)
          rw [← hll] at q1 hck
          clear ha1 h200 hll
          generalize hA0k : A0 k = ak at *
          generalize hC0k : C0 k = ck at *
          clear hA0k hC0k
          go_wp2_with (at_builtin; first
            | (refine wp_append_bytes rfl (.tmp 32) (.tmp 33) 24 rfl wr.heap.size U8 Try.underlying24 info_u8 _ 0 [] rfl HO1.out (fun _ h => by cases h) ak ll ck (nthL L k) rfl HLL.out HY1.out HNo.out (by have := H200.out; have := HLL.out; omega) HB1.out.size ?_; intro a5 c5 w5 ho5 hg5 hB5 hN5; have HO5 := Lib.hid ho5; have HB5 := Lib.hid (HB1.out.grown hg5 HB1.out.size (fun q hq => (HO1.out.lt q hq).1)); clear ho5 hg5 hB5 hN5)
            | (refine wp_append_row rfl (.tmp 31) (.tmp 35) 22 rfl w.heap.size SLB (.slice none 0 0) 1 24 Try.underlying22 info_slb rfl (by decide) (by decide) (.slice a0 k c0) k (cellsA A C L k) rfl (own_later (own_later HS.out.row HB5.out) (sup_im w5 (.cells #[.slice a5 ll c5] SLB))) (some ⟨w5.heap.size, 0, none⟩) 1 1 [.slice a5 ll c5] rfl rfl (fun ad e j u hj => by cases e; rw [Addr.add_lit]; show World.cell? _ ⟨w5.heap.size, 0 + j, none⟩ = _; rw [Nat.zero_add, (blo_laid w5 SLB #[.slice a5 ll c5]).cell]; simpa using hj) (fun u hu => by simp at hu; subst hu; rfl) (fun e => by cases e) (by have := HKm.out; have := HM60.out; omega) (Nat.le_trans HS.out.bel.size (Nat.le_trans HB5.out.size (by simp))) ?_; intro a8 c8 w8 ho8 hg8; have HO8 := Lib.hid ho8; have HG8 := Lib.hid hg8; clear ho8 hg8))
          have h5 : (w5.alloc (.cells #[.slice a5 ll c5] SLB)).ownsRow wr.heap.size U8 1 (.slice a5 (nthL L k).length c5) (nthL L k).length (cellsB (nthL L k)) := by
            rw [← HLL.out]
            simpa using own_later HO5.out (sup_im w5 (.cells #[.slice a5 ll c5] SLB))
          obtain ⟨hi2, hap2⟩ := InS.more ((HS.out.later HB5.out).later (sup_im w5 (.cells #[.slice a5 ll c5] SLB))) HAp.out (fun j hj g e => ((HS.out.own j (Nat.zero_le _) hj).lt g e).2) h5 HS.out.bel.size HG8.out (by rw [← HLL.out]; exact HO8.out)
          refine ⟨⟨k + 1, upd A k a5, upd C k c5, by have := HKm.out; have := HLn.out; omega, by simp, hi2, hap2, fun j hj => ?_⟩, by simp [intOf]; have := HKm.out; omega⟩
          by_cases e : j = k
          · subst e; exact H200.out
          · exact H2.out j (by omega)
        · have q1 : (200 : Int) < ((nthL L k).length : Int) := by omega
          clear h200
          go_wp2_with fail
          go_ret
          exact ⟨rfl, HS.out.bel⟩
      · have k1 : ¬ (k : Int) < (m : Int) := by omega
        obtain rfl : m = k := by have := HK.out; have := HLn.out; omega
        have H200 : Hid (∀ j, j < m → (nthL L j).length ≤ 200) := H2.out
        have hin := HS.out.lists HLn.out (by have := HM60.out; omega) H256.out
        have HLp := Lib.hid (loads_p n a0 m c0 A C L wr hin)
        have HLd := Lib.hid (fun W hb => loads_d n a m cap A0 C0 L W (HLs.out.below hb))
        have HGo := Lib.hid (ld_good L n.toNat)
        have HLw : Hid (∀ j, j < m → ∀ g, (slA A C L j).ownBlock = some g → g < wr.heap.size) := fun j hj g e => ((HS.out.own j (Nat.zero_le _) hj).lt g e).2
        clear hin hlt
        generalize codeL n L = cc at *
        go_wp2_with fail
        refine HLp.out.mono ?_
        rintro e w5 ⟨mv, rfl, hP, hb5⟩
        have HS5 := Lib.hid (HS.out.later hb5)
        have HP := Lib.hid hP
        have HB5 := Lib.hid hb5
        clear hP hb5 HLp
        go_wp2_with fail
        refine (HLd.out w5 HS5.out.bel).mono ?_
        rintro e w6 ⟨da, dn, dc, rfl, hD, hb6⟩
        have HS6 := Lib.hid (HS5.out.later hb6)
        have HD := Lib.hid hD
        have HB6 := Lib.hid hb6
        clear hD hb6 HLd HS5
        go_upto_region 13 with fail
        have hal := sup_im w6 (.cells #[.slice da dn dc] RMP)
        have HI9 := Lib.hid (HS6.out.later hal)
        rcases HP.out with ⟨hcc, rfl⟩ | ⟨rfl, h4, hn2, hok, hn8, bm, gs, gd, rfl, him, hge⟩
        · have hne : (cc == 0) = false := by rw [beq_eq_false_iff_ne]; rcases hcc with e | e <;> omega
          have hne2 : (cc != 0) = true := by rw [bne, hne]; rfl
          have hne3 : (cc != cc) = false := by simp
          obtain ⟨QQ, hQQ⟩ : ∃ QQ : World → Prop, QQ = fun _ => True := ⟨_, rfl⟩
          have HQ9 : Hid (QQ (w6.alloc (.cells #[.slice da dn dc] RMP))) := by show QQ _; rw [hQQ]; trivial
          have HQs : Hid (∀ W p u, p.block < wr.heap.size → QQ W → QQ (World.setCell W p u)) := by show ∀ _, _; rw [hQQ]; exact fun _ _ _ _ _ => trivial
          have HQl : Hid (∀ W W' : World, Below W.heap.size W W' → QQ W → QQ W') := by show ∀ _, _; rw [hQQ]; exact fun _ _ _ _ => trivial
          clear hcc hQQ hal HP HD HS6 HGo HB5 HB6 HS
          generalize w6.alloc (.cells #[.slice da dn dc] RMP) = w7 at *
          generalize w6.heap.size = g10 at *
          generalize wr.heap.size = N0 at *
          have HL0 : Hid (L4R w L A C (.slice a0 m c0) m QQ (.int .i64 0) w7) := ⟨0, Nat.zero_le _, rfl, HI9.out, HQ9.out⟩
          go_wp2_with fail
          go_loopw [62] (fun t wr => L4R w L A C (.slice a0 m c0) m QQ t wr) (fun t _ => m - (intOf t).toNat)
          case atStart => exact HL0.out
          case round =>
            clear HL0 HI9 HQ9
            obtain ⟨i, hi, rfl, hs, hq⟩ := hrel
            have HS := Lib.hid hs
            have HQw := Lib.hid hq
            have HIi := Lib.hid hi
            have i0 : (0 : Int) ≤ (i : Int) := by omega
            have m60 : (m : Int) ≤ 60 := by have := HM60.out; omega
            clear hs hi hq
            by_cases hlt : i < m
            · have i1 : (i : Int) < (m : Int) := by omega
              have HIm := Lib.hid hlt
              obtain ⟨sb, hsb, hsc⟩ := HS.out.cell hlt
              subst hsb
              have hown := HS.out.own i (Nat.le_refl _) hlt
              obtain ⟨a', cap', hva, -, hby, -⟩ := Bytes.own hown (H256.out i hlt)
              cases hva
              have hll := HLs.out.below HS.out.bel
              obtain ⟨b, o, hab, hcl⟩ := hll.at_ (by omega)
              subst hab
              have hbb := (hll.each i hlt).1
              have k1 : ∀ x : Kept wr, x.at_.cell? ⟨sb, i, none⟩ = some (.slice (A i) (nthL L i).length (C i)) := fun x => cell_later x.below hsc
              have k2 : ∀ x : Kept wr, x.at_.cell? ⟨b, o + i, none⟩ = some (.slice (A0 i) (nthL L i).length (C0 i)) := fun x => cell_later x.below (hcl i hlt)
              have k3 : ∀ x : Kept wr, (convert 24 9 (.slice (A i) (nthL L i).length (C i))).run Try.prog x.at_ = .ok (.string (strOf (nthL L i))) x.at_ := fun x => text_of (hby.below x.below) _ _ rfl
              have k4 : ∀ x : Kept wr, (convert 24 9 (.slice (A0 i) (nthL L i).length (C0 i))).run Try.prog x.at_ = .ok (.string (strOf (nthL L i))) x.at_ := fun x => text_of (hbb.below x.below) _ _ rfl
              have HLi : Hid ((nthL L i).length ≤ 200) := H200.out i hlt
              clear hsc hown hby hll hcl hbb hlt
              generalize hA : A i = ai at *
              generalize hC : C i = ci at *
              have HA := Lib.hid hA
              have HC := Lib.hid hC
              clear hA hC
              generalize A0 i = ai0 at *
              generalize C0 i = ci0 at *
              have HNl : Hid (∃ ll, ll = (nthL L i).length) := ⟨_, rfl⟩
              obtain ⟨ll, hll⟩ := HNl.out
              have HLL := Lib.hid hll
              rw [← hll] at k1 k2 k3 k4
              clear hll HNl
              generalize strOf (nthL L i) = tx at *
              have htx : (tx.toList == tx.toList) = true := by simp
              go_upto_region 18 with fail
              refine wp_region_kept (by kernel_rfl) (by kernel_rfl) ?_
              repeat (go_big_quiet_step (fail))
              refine wpQuiet_nil ?_
              rintro W1 ⟨wx, rfl⟩
              have HS3 := Lib.hid (HS.out.later wx.below)
              have HQ3 := Lib.hid (HQl.out _ _ wx.below HQw.out)
              have c1 : wx.at_.cell? ⟨sb, i, none⟩ = some (.slice ai ll ci) := k1 wx
              clear k1 k2 k3 k4 HS HQw
              generalize wx.at_ = w3 at *
              go_wp2_with fail
              go_loopw [81] (fun t wq => L5R w L A C (.slice (some ⟨sb, 0, none⟩) m c0) m i QQ t wq) (fun t _ => ll - (intOf t).toNat)
              case atStart => exact ⟨0, nthL L i, Nat.zero_le _, rfl, HS3.out.own i (Nat.le_refl _) HIm.out, H256.out i HIm.out, ⟨HS3.out.row, fun j h1 h2 => HS3.out.own j (by omega) h2, HS3.out.bel⟩, HQ3.out⟩
              case round =>
                clear HS3 c1 HQ3
                obtain ⟨k, ys, hk, rfl, hown, hy8, hs, hq⟩ := hrel
                have HO := Lib.hid hown
                have HY := Lib.hid hy8
                have HS4 := Lib.hid hs
                have HQ4 := Lib.hid hq
                have HKk := Lib.hid hk
                have j0 : (0 : Int) ≤ (k : Int) := by omega
                have l200 : (ll : Int) ≤ 200 := by have := HLi.out; have := HLL.out; omega
                have c1 : wr.cell? ⟨sb, i, none⟩ = some (.slice ai ll ci) := by
                  obtain ⟨sb', e1, e2⟩ := hs.cell HIm.out
                  cases e1
                  rw [e2]
                  show some (Value.slice (A i) (nthL L i).length (C i)) = _
                  rw [HA.out, HC.out, HLL.out]
                clear hown hy8 hs hq hk
                by_cases hlt : k < ll
                · have j1 : (k : Int) < (ll : Int) := by omega
                  have HKl := Lib.hid hlt
                  have hyl : ys.length = ll := by have := HO.out.1; rw [cellsB_length, Nat.mul_one] at this; rw [this, HLL.out]
                  obtain ⟨gi, hgi⟩ : ∃ gi, ai = some ⟨gi, 0, none⟩ := by
                    have h2 := HO.out.2
                    unfold slA at h2
                    rw [HA.out, HC.out, ← HLL.out] at h2
                    rcases h2 with ⟨h1, h0⟩ | ⟨g', c, cur, h1, _⟩
                    · omega
                    · cases h1; exact ⟨g', rfl⟩
                  subst hgi
                  have ho2 : wr.ownsRow w.heap.size U8 1 (.slice (some ⟨gi, 0, none⟩) ll ci) ll (cellsB ys) := by
                    have h2 := HO.out
                    unfold slA at h2
                    rw [HA.out, HC.out, ← HLL.out] at h2
                    exact h2
                  have hcell : wr.cell? ⟨gi, k, none⟩ = some (.int .u8 (ys.getD k 0 : Nat)) := by rw [ho2.cellAt k (by omega)]; exact cellsB_get ys k (by omega)
                  have hfro := ho2.frozenAt k
                  have hy := getD_byte HY.out k
                  obtain ⟨y, hyy⟩ : ∃ y, ys.getD k 0 = y := ⟨_, rfl⟩
                  rw [hyy] at hcell hy
                  have hnx := l5_step (QQ := QQ) (k := k) (by rw [← HLL.out]; exact hlt) HAp.out HIm.out HO.out HY.out HS4.out HQ4.out HQs.out HLw.out y gi (by unfold slA; rw [HA.out]; rfl)
                  have HNx := Lib.hid hnx
                  clear hyy hyl hlt ho2 hnx
                  go_wp2_with fail
                  exact ⟨HNx.out, by simp [intOf]; have := HKl.out; omega⟩
                · have j1 : ¬ (k : Int) < (ll : Int) := by omega
                  clear hlt
                  go_wp2_with fail
                  exact ⟨⟨i + 1, HIm.out, by simp, HS4.out, HQ4.out⟩, by simp [intOf]; have := HIm.out; omega⟩
            · have i1 : ¬ (i : Int) < (m : Int) := by omega
              clear hlt
              go_wp2
              go_ret
              exact ⟨rfl, HS.out.bel⟩
        · obtain ⟨g, hg, hgw, hrm⟩ := HD.out rfl
          cases hg
          have HIm := Lib.hid (him.later HB6.out)
          have HOk := Lib.hid (HGo.out hok)
          have HN4 : Hid (4 ≤ n.toNat ∧ n.toNat ≤ 200) := by show _ ∧ _; omega
          have HB0 : Hid (ldB L n.toNat (8 * L.length) 0 = false) := by show ldB _ _ _ _ = _; unfold ldB ldA; rw [if_neg (by omega)]; rfl
          have hb56 := HB5.out.size
          have hb67 := HB6.out.size
          obtain ⟨QQ, hQQ⟩ : ∃ QQ : World → Prop, QQ = fun W => Im W bm gs gd n.toNat 0 (ldA L n.toNat (8 * L.length)) (ldV L n.toNat (8 * L.length)) (ldB L n.toNat (8 * L.length)) ∧ Rm W g n.toNat (ldA L n.toNat (8 * L.length)) (ldV L n.toNat (8 * L.length)) (ldB L n.toNat (8 * L.length)) (fun _ => false) ∧ Blo W w6.heap.size RMP #[.slice (some ⟨g, 0, none⟩) n.toNat n.toNat] := ⟨_, rfl⟩
          have HQ9 : Hid (QQ (w6.alloc (.cells #[.slice (some ⟨g, 0, none⟩) n.toNat n.toNat] RMP))) := by show QQ _; rw [hQQ]; exact ⟨HIm.out.later hal, hrm.later hal, blo_laid w6 RMP _⟩
          have HQs : Hid (∀ W p u, p.block < wr.heap.size → QQ W → QQ (World.setCell W p u)) := by
            show ∀ _, _
            rw [hQQ]
            exact fun W p u hp ⟨x, y, z⟩ => ⟨x.far (by omega) (by omega) (by omega) u, y.far (by omega) u, z.far (by omega) u⟩
          have HQl : Hid (∀ W W' : World, Below W.heap.size W W' → QQ W → QQ W') := by show ∀ _, _; rw [hQQ]; exact fun _ _ hb ⟨x, y, z⟩ => ⟨x.later hb, y.later hb, z.later hb⟩
          have HQo : Hid (∀ W, QQ W → Im W bm gs gd n.toNat 0 (ldA L n.toNat (8 * L.length)) (ldV L n.toNat (8 * L.length)) (ldB L n.toNat (8 * L.length)) ∧ Rm W g n.toNat (ldA L n.toNat (8 * L.length)) (ldV L n.toNat (8 * L.length)) (ldB L n.toNat (8 * L.length)) (fun _ => false) ∧ Blo W w6.heap.size RMP #[.slice (some ⟨g, 0, none⟩) n.toNat n.toNat]) := by show ∀ _, _; rw [hQQ]; exact fun _ h => h
          clear h4 hn2 hok hn8 him hge hrm hgw hb56 hb67 hQQ hal HP HD HS6 HGo HIm HB5 HB6 HS
          generalize w6.alloc (.cells #[.slice (some ⟨g, 0, none⟩) n.toNat n.toNat] RMP) = w7 at *
          generalize w6.heap.size = g10 at *
          generalize wr.heap.size = N0 at *
          generalize n.toNat = nn at *
          have HL0 : Hid (L4R w L A C (.slice a0 m c0) m QQ (.int .i64 0) w7) := ⟨0, Nat.zero_le _, rfl, HI9.out, HQ9.out⟩
          go_wp2_with fail
          go_loopw [62] (fun t wr => L4R w L A C (.slice a0 m c0) m QQ t wr) (fun t _ => m - (intOf t).toNat)
          case atStart => exact HL0.out
          case round =>
            clear HL0 HI9 HQ9
            obtain ⟨i, hi, rfl, hs, hq⟩ := hrel
            have HS := Lib.hid hs
            have HQw := Lib.hid hq
            have HIi := Lib.hid hi
            have i0 : (0 : Int) ≤ (i : Int) := by omega
            have m60 : (m : Int) ≤ 60 := by have := HM60.out; omega
            clear hs hi hq
            by_cases hlt : i < m
            · have i1 : (i : Int) < (m : Int) := by omega
              have HIm := Lib.hid hlt
              obtain ⟨sb, hsb, hsc⟩ := HS.out.cell hlt
              subst hsb
              have hown := HS.out.own i (Nat.le_refl _) hlt
              obtain ⟨a', cap', hva, -, hby, -⟩ := Bytes.own hown (H256.out i hlt)
              cases hva
              have hll := HLs.out.below HS.out.bel
              obtain ⟨b, o, hab, hcl⟩ := hll.at_ (by omega)
              subst hab
              have hbb := (hll.each i hlt).1
              have k1 : ∀ x : Kept wr, x.at_.cell? ⟨sb, i, none⟩ = some (.slice (A i) (nthL L i).length (C i)) := fun x => cell_later x.below hsc
              have k2 : ∀ x : Kept wr, x.at_.cell? ⟨b, o + i, none⟩ = some (.slice (A0 i) (nthL L i).length (C0 i)) := fun x => cell_later x.below (hcl i hlt)
              have k3 : ∀ x : Kept wr, (convert 24 9 (.slice (A i) (nthL L i).length (C i))).run Try.prog x.at_ = .ok (.string (strOf (nthL L i))) x.at_ := fun x => text_of (hby.below x.below) _ _ rfl
              have k4 : ∀ x : Kept wr, (convert 24 9 (.slice (A0 i) (nthL L i).length (C0 i))).run Try.prog x.at_ = .ok (.string (strOf (nthL L i))) x.at_ := fun x => text_of (hbb.below x.below) _ _ rfl
              have HLi : Hid ((nthL L i).length ≤ 200) := H200.out i hlt
              clear hsc hown hby hll hcl hbb hlt
              generalize hA : A i = ai at *
              generalize hC : C i = ci at *
              have HA := Lib.hid hA
              have HC := Lib.hid hC
              clear hA hC
              generalize A0 i = ai0 at *
              generalize C0 i = ci0 at *
              have HNl : Hid (∃ ll, ll = (nthL L i).length) := ⟨_, rfl⟩
              obtain ⟨ll, hll⟩ := HNl.out
              have HLL := Lib.hid hll
              rw [← hll] at k1 k2 k3 k4
              clear hll HNl
              generalize strOf (nthL L i) = tx at *
              have htx : (tx.toList == tx.toList) = true := by simp
              go_upto_region 18 with fail
              refine wp_region_kept (by kernel_rfl) (by kernel_rfl) ?_
              repeat (go_big_quiet_step (fail))
              refine wpQuiet_nil ?_
              rintro W1 ⟨wx, rfl⟩
              have HS3 := Lib.hid (HS.out.later wx.below)
              have HQ3 := Lib.hid (HQl.out _ _ wx.below HQw.out)
              have c1 : wx.at_.cell? ⟨sb, i, none⟩ = some (.slice ai ll ci) := k1 wx
              clear k1 k2 k3 k4 HS HQw
              generalize wx.at_ = w3 at *
              go_wp2_with fail
              go_loopw [81] (fun t wq => L5R w L A C (.slice (some ⟨sb, 0, none⟩) m c0) m i QQ t wq) (fun t _ => ll - (intOf t).toNat)
              case atStart => exact ⟨0, nthL L i, Nat.zero_le _, rfl, HS3.out.own i (Nat.le_refl _) HIm.out, H256.out i HIm.out, ⟨HS3.out.row, fun j h1 h2 => HS3.out.own j (by omega) h2, HS3.out.bel⟩, HQ3.out⟩
              case round =>
                clear HS3 c1 HQ3
                obtain ⟨k, ys, hk, rfl, hown, hy8, hs, hq⟩ := hrel
                have HO := Lib.hid hown
                have HY := Lib.hid hy8
                have HS4 := Lib.hid hs
                have HQ4 := Lib.hid hq
                have HKk := Lib.hid hk
                have j0 : (0 : Int) ≤ (k : Int) := by omega
                have l200 : (ll : Int) ≤ 200 := by have := HLi.out; have := HLL.out; omega
                have c1 : wr.cell? ⟨sb, i, none⟩ = some (.slice ai ll ci) := by
                  obtain ⟨sb', e1, e2⟩ := hs.cell HIm.out
                  cases e1
                  rw [e2]
                  show some (Value.slice (A i) (nthL L i).length (C i)) = _
                  rw [HA.out, HC.out, HLL.out]
                clear hown hy8 hs hq hk
                by_cases hlt : k < ll
                · have j1 : (k : Int) < (ll : Int) := by omega
                  have HKl := Lib.hid hlt
                  have hyl : ys.length = ll := by have := HO.out.1; rw [cellsB_length, Nat.mul_one] at this; rw [this, HLL.out]
                  obtain ⟨gi, hgi⟩ : ∃ gi, ai = some ⟨gi, 0, none⟩ := by
                    have h2 := HO.out.2
                    unfold slA at h2
                    rw [HA.out, HC.out, ← HLL.out] at h2
                    rcases h2 with ⟨h1, h0⟩ | ⟨g', c, cur, h1, _⟩
                    · omega
                    · cases h1; exact ⟨g', rfl⟩
                  subst hgi
                  have ho2 : wr.ownsRow w.heap.size U8 1 (.slice (some ⟨gi, 0, none⟩) ll ci) ll (cellsB ys) := by
                    have h2 := HO.out
                    unfold slA at h2
                    rw [HA.out, HC.out, ← HLL.out] at h2
                    exact h2
                  have hcell : wr.cell? ⟨gi, k, none⟩ = some (.int .u8 (ys.getD k 0 : Nat)) := by rw [ho2.cellAt k (by omega)]; exact cellsB_get ys k (by omega)
                  have hfro := ho2.frozenAt k
                  have hy := getD_byte HY.out k
                  obtain ⟨y, hyy⟩ : ∃ y, ys.getD k 0 = y := ⟨_, rfl⟩
                  rw [hyy] at hcell hy
                  have hnx := l5_step (QQ := QQ) (k := k) (by rw [← HLL.out]; exact hlt) HAp.out HIm.out HO.out HY.out HS4.out HQ4.out HQs.out HLw.out y gi (by unfold slA; rw [HA.out]; rfl)
                  have HNx := Lib.hid hnx
                  clear hyy hyl hlt ho2 hnx
                  go_wp2_with fail
                  exact ⟨HNx.out, by simp [intOf]; have := HKl.out; omega⟩
                · have j1 : ¬ (k : Int) < (ll : Int) := by omega
                  clear hlt
                  go_wp2_with fail
                  exact ⟨⟨i + 1, HIm.out, by simp, HS4.out, HQ4.out⟩, by simp [intOf]; have := HIm.out; omega⟩
            · have i1 : ¬ (i : Int) < (m : Int) := by omega
              clear hlt
              obtain ⟨hi1, hr1, hx1⟩ := HQo.out _ HQw.out
              have b10 : World.cell? _ ⟨g10, 0, none⟩ = some (.slice (some ⟨g, 0, none⟩) nn nn) := (hx1.cell 0).trans rfl
              have HTl := Lib.hid (tells_any bm gs gd g nn _ _ _ _ HN4.out.1 HN4.out.2 hi1 hr1 HOk.out HB0.out)
              clear hi1 hr1 hx1
              go_wp2_with fail
              refine HTl.out.mono ?_
              rintro e w8 ⟨rfl, hb8⟩
              have HB8 := Lib.hid (HS.out.bel.trans (hb8.mono HS.out.bel.size))
              clear hb8
              go_wp2
              go_ret
              exact ⟨rfl, HB8.out⟩
end Go.Proofs.Ytbacfbdeeogkgaa
