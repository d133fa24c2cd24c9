/-
  The document's Order.
-/
import Derived.Test.YtblpfgjjiihjoaaPkRefBet
namespace Go.Proofs.Ytblpfgjjiihjoaa
open Go.RowKit

section
variable {w w' : World} {a : Option Addr} {l : List Cd} {n cap : Nat}
theorem size_rcd (W : World) : (sizeOf RCD).run Try.prog W = .ok 4 W := by kernel_rfl
/-- 'x[p:]' of a list of candidates. -/
theorem cutC_from {x : Option Addr} {k cp p : Nat} {L : List Cd} (hL : L.length = k) (hk : k ≤ cp) (hp : p ≤ k) (hmx : k ≤ 1000000) (hC : Cds w x L) (hn : x = none → cp = 0) (hlit : ∀ y, x = some y → ∃ b o, y = ⟨b, o, none⟩) :
    ∃ y, (∀ W : World, (Instr.slice SRC (.slice x k cp) (some (.int .i64 p)) none none).run Try.prog W = .ok (.slice y (k - p) (cp - p)) W) ∧ Cds w y (L.drop p) ∧ (y = none → L.drop p = [] ∧ cp - p = 0) := by
  have ht' : Try.prog.underlying SRC = some (.slice (Try.prog.elem SRC)) := by simp [Program.elem, Try.underlying27]
  have he : Try.prog.elem SRC = RCD := by simp [Program.elem, Try.underlying27]
  refine ⟨if cp = p then x else x.map (·.add (p * 4)), fun W => ?_, ?_, fun h => ?_⟩
  · rw [run_slice_l W SRC _ _ _ ht' .i64 _ (by omega) (by omega), he, size_rcd]
    simp [Result.andThen, sliced]
  · by_cases e : cp = p
    · have : L.drop p = [] := List.drop_eq_nil_of_le (by omega)
      rw [this]; exact Cds.nil _ _
    · rw [if_neg e]
      cases x with
      | none =>
        have : L.drop p = [] := List.drop_eq_nil_of_le (by have := hn rfl; omega)
        rw [this]; exact Cds.nil _ _
      | some y => exact hC.drop p
  · by_cases e : cp = p
    · exact ⟨List.drop_eq_nil_of_le (by omega), by omega⟩
    · rw [if_neg e] at h
      cases x with
      | none => exact absurd (hn rfl) (by omega)
      | some y => cases h
/-- 'x[:p]'. -/
theorem cutC_upto {x : Option Addr} {k cp p : Nat} (hk : k ≤ cp) (hp : p ≤ k) (hmx : k ≤ 1000000) (hlit : ∀ y, x = some y → ∃ b o, y = ⟨b, o, none⟩) (W : World) :
    (Instr.slice SRC (.slice x k cp) none (some (.int .i64 p)) none).run Try.prog W = .ok (.slice x p cp) W := by
  have ht' : Try.prog.underlying SRC = some (.slice (Try.prog.elem SRC)) := by simp [Program.elem, Try.underlying27]
  have he : Try.prog.elem SRC = RCD := by simp [Program.elem, Try.underlying27]
  rw [run_slice_h W SRC _ _ _ ht' .i64 _ (by omega) (by omega), he, size_rcd]
  cases x with
  | none => simp [Result.andThen, sliced]
  | some y =>
    obtain ⟨b, o, rfl⟩ := hlit y rfl
    simp [Result.andThen, sliced, Addr.add_lit]
theorem own_lit {base m cp : Nat} {e : TypeId} {size : Nat} {x : Option Addr} {xs : List Value} (h : w.ownsRow base e size (.slice x m cp) m xs) : (x = none → cp = 0) ∧ (∀ y, x = some y → ∃ b o, y = ⟨b, o, none⟩) ∧ m ≤ cp := by
  rcases h.2 with ⟨h1, h2⟩ | ⟨g, c, cur, h1, _, _, h3, _⟩
  · cases h1; exact ⟨fun _ => rfl, (fun y h => by cases h), Nat.le_refl _⟩
  · cases h1; exact ⟨(fun h => by cases h), fun y h => by cases h; exact ⟨g, 0, rfl⟩, h3⟩
theorem Cds.cells {b o : Nat} (h : Cds w (some ⟨b, o, none⟩) l) {i : Nat} (hi : i < l.length) : w.cell? ⟨b, o + i * 4, none⟩ = some (.int .i64 (l.getD i c0).seg) ∧ w.cell? ⟨b, o + i * 4 + 1, none⟩ = some (.int .i64 (l.getD i c0).live) ∧ w.cell? ⟨b, o + i * 4 + 2, none⟩ = some (.int .i64 (l.getD i c0).cap) ∧ w.cell? ⟨b, o + i * 4 + 3, none⟩ = some (.int .i64 (l.getD i c0).age) := by
  obtain ⟨b', o', ha, hc⟩ := h.at hi
  cases ha
  exact hc
theorem none_take {x : Option Addr} {cp k p : Nat} {T : List Cd} (h : x = none → cp = 0) (hk : k ≤ cp) (hp : p ≤ k) : x = none → T.take p = [] ∧ cp = 0 := fun e => by
  have h0 := h e
  exact ⟨by rw [List.take_eq_nil_iff]; left; omega, h0⟩
structure OrR (w : World) (l : List Cd) (k cp : Nat) (x : Option Addr) (wr : World) : Prop where
  own : wr.ownsRow w.heap.size RCD 4 (.slice x k cp) k (cellsI (flatC (ordC (l.take k))))
  below : Below w.heap.size w wr
theorem OrR.later {k cp : Nat} {x : Option Addr} {wr : World} (h : OrR w l k cp x wr) (hb : Below wr.heap.size wr w') : OrR w l k cp x w' := ⟨own_later h.own hb, h.below.trans (hb.mono h.below.size)⟩
def OrI (w : World) (l : List Cd) (n : Nat) (v i : Value) (wr : World) : Prop :=
  ∃ k cp x, k ≤ n ∧ i = .int .i64 ((k : Nat) : Int) ∧ v = .slice x k cp ∧ OrR w l k cp x wr
def AtI (wo : World) (c : Cd) (T : List Cd) (k : Nat) (v : Value) (wz : World) : Prop :=
  ∃ p : Nat, p ≤ k ∧ v = .int .i64 p ∧ posC c T p = posC c T k ∧ Below wo.heap.size wo wz
def OrdOut (l : List Cd) (n : Nat) (w : World) (e : Ending) (w' : World) : Prop :=
  ∃ x cp, e = .returned (.slice x n cp) ∧ OrR w l n cp x w'
set_option maxHeartbeats 8000000 in
theorem order_any (hC : Cds w a l) (hn : n = l.length) (hmx : n ≤ 512) (hg : GoodL l) :
    Calls Try.prog 22 #[.slice a n cap] w (OrdOut l n w) := by
  have HC := Lib.hid hC
  have HN := Lib.hid hn
  have HG := Lib.hid hg
  have HS0 : Hid (OrR w l 0 0 none w) := ⟨World.ownsRow_nil _ _ _ _, Below.refl _ _⟩
  clear hC hn hg
  go_enter Try.func22, Try.ntmps22
  go_wp2_with fail
  go_loopw [3, 9] (fun v i wr => OrI w l n v i wr) (fun _ i _ => n - (intOf i).toNat)
  case atStart => exact ⟨0, 0, none, Nat.zero_le _, rfl, rfl, HS0.out⟩
  case round =>
    clear HS0
    obtain ⟨k, cp, x, hk, rfl, rfl, hR⟩ := hrel
    by_cases hlt : k < n
    · have hkl : k < l.length := by rw [← HN.out]; exact hlt
      obtain ⟨T, hT⟩ : ∃ T, ordC (l.take k) = T := ⟨_, rfl⟩
      obtain ⟨c, hc⟩ : ∃ c, l.getD k c0 = c := ⟨_, rfl⟩
      have hTl : T.length = k := by rw [← hT, ordC_length, List.length_take]; omega
      have HNext : Hid (ordC (l.take (k + 1)) = T.take (posC c T k) ++ c :: T.drop (posC c T k)) := by
        show _ = _
        rw [take_snocC l k hkl, ordC_snoc, hT, hc]
        unfold insC
        rw [hTl]
      have hTG : ∀ j, j < k → GoodC (T.getD j c0) := fun j hj => by
        have h1 : T = (ordR (rks (l.take k))).map Rk.c := by rw [← hT, ordR_map, rks_map]
        have h2 : GoodL (l.take k) := HG.out.take k
        rw [h1]
        have hlen : j < (ordR (rks (l.take k))).length := by
          have := congrArg List.length h1
          rw [List.length_map] at this
          omega
        rw [getD_map _ _ hlen]
        have hm := List.getElem_mem hlen
        rw [ordR_mem, rks_mem] at hm
        obtain ⟨i, hi, e⟩ := hm
        rw [← e]
        exact h2.at hi
      have hcg : GoodC c := by rw [← hc]; exact HG.out.at hkl
      have hO := hR.own
      rw [hT] at hO
      obtain ⟨hl1, hl2, hl3⟩ := own_lit hO
      have hCl := HC.out.below hR.below
      have hCT : Cds wr x T := Cds.own hO
      have HCl := Lib.hid hCl
      have HCT := Lib.hid hCT
      have HTG := Lib.hid hTG
      have HCG := Lib.hid hcg
      have HR := Lib.hid hR
      have HL1 := Lib.hid hl1
      have HL2 := Lib.hid hl2
      have HTl := Lib.hid hTl
      have HL3 := Lib.hid hl3
      have HCc := Lib.hid hc
      clear hl1 hl2 hl3 hR hcg hTG hCT hCl hO hTl hc hT
      obtain ⟨b, o, rfl, q1, q2, q3, q4⟩ := HCl.out.at hkl
      rw [HCc.out] at q1 q2 q3 q4
      clear q1 q2 q3 q4
      have hkl2 := hkl
      have HKL := Lib.hid hkl2
      clear hkl hkl2
      have k0 : (0 : Int) ≤ (k : Int) := by omega
      have k1 : (k : Int) < (n : Int) := by omega
      obtain ⟨wo, rfl⟩ : ∃ x, x = wr := ⟨_, rfl⟩
      go_wp2_with fail
      go_loopw [5] (fun v wz => AtI wo c T k v wz) (fun v _ => (intOf v).toNat)
      case atStart => exact ⟨k, Nat.le_refl _, rfl, rfl, Below.refl _ _⟩
      case round =>
        obtain ⟨p, hp, rfl, hpos, hbz⟩ := hrel
        have HBz := Lib.hid hbz
        have HPos := Lib.hid hpos
        clear hbz hpos
        rcases Nat.eq_zero_or_pos p with hp0 | hp0
        · have t0 : ¬ (0 : Int) < (p : Int) := by omega
          have t1 : decide ((0 : Int) < (p : Int)) = false := decide_eq_false t0
          have t2 : decide (0 < p) = false := decide_eq_false (by omega)
          have HP : Hid (posC c T k = p) := by show _ = _; rw [← HPos.out, hp0]; rfl
          clear hp0 HPos
          go_wp2_with fail
          refine wp_region_kept (by kernel_rfl) (by kernel_rfl) ?_
          repeat (go_big_quiet_step (fail))
          refine wpQuiet_nil ?_
          rintro W ⟨wx, rfl⟩
          have HBy : Hid (Below wo.heap.size wo wx.at_) := HBz.out.trans (wx.below.mono HBz.out.size)
          clear HBz
          generalize wx.at_ = wy at *
          have hkT : k ≤ cp := HL3.out
          have HBw := Lib.hid (HR.out.below.trans (HBy.out.mono HR.out.below.size))
          obtain ⟨y, hcy, hyC, hyn⟩ := cutC_from (p := p) HTl.out hkT hp (by omega) (HCT.out.below HBy.out) HL1.out HL2.out
          have hcu := cutC_upto (p := p) hkT hp (by omega) HL2.out
          have HYC := Lib.hid hyC
          have HYN := Lib.hid hyn
          have HCT2 := Lib.hid (((HCT.out.below HBy.out).take p).below (sup_pk wy (.cells #[] RCD)))
          have HCL2 := Lib.hid (HCl.out.below HBy.out)
          have HAN := Lib.hid (none_take (T := T) HL1.out hkT hp)
          clear hyC hyn HCl HBy HCT hkT
          have p0 : (0 : Int) ≤ (p : Int) := by omega
          have p1 : (p : Int) ≤ (k : Int) := by omega
          go_wp2_with (first
            | (at_builtin; refine wp_append_cds rfl (.tmp 30) (.tmp 33) SRC rfl wy.heap.size RCD Try.underlying27 info_rcd _ 0 [] rfl (World.ownsRow_lit wy #[] 0 (Nat.le_refl _) (by unfold maxLen; omega) rfl) _ p cp (T.take p) rfl (by rw [List.length_take, HTl.out]; omega) HCT2.out HAN.out (by omega) (by simp) ?_; intro a1 cp1 w4 hown hgrow; rw [Nat.zero_add, List.nil_append] at hown; rw [Nat.zero_add]; have HO4 := Lib.hid hown; have HB4 := Lib.hid ((sup_pk wy (.cells #[] RCD)).grown hgrow (by simp) (fun q hq => by cases hq; exact Nat.le_refl _)); have hq4 := (HCL2.out.below HB4.out).cells HKL.out; simp only [HCc.out] at hq4; obtain ⟨q1, q2, q3, q4⟩ := hq4; have HO4' := Lib.hid (own_later HO4.out (sup_pk w4 (.cells #[.int .i64 c.seg, .int .i64 c.live, .int .i64 c.cap, .int .i64 c.age] RCD))); have hs4 := HB4.out.size; clear hown hgrow)
            | (at_builtin; refine wp_append_cds rfl (.tmp 35) (.tmp 40) SRC rfl wy.heap.size RCD Try.underlying27 info_rcd (.slice a1 p cp1) p (T.take p) rfl HO4'.out (some ⟨w4.heap.size, 0, none⟩) 1 1 [c] rfl rfl (Cds.one w4 c RCD) (fun h => by cases h) (by omega) (by simp; omega) ?_; intro a2 cp2 w5 hown hgrow; have HO5 := Lib.hid hown; have HB5 := Lib.hid ((HB4.out.trans ((sup_pk w4 (.cells #[.int .i64 c.seg, .int .i64 c.live, .int .i64 c.cap, .int .i64 c.age] RCD)).mono hs4)).grown hgrow (by simp; omega) (fun q hq => own_ge HO4.out hq)); clear hown hgrow; clear q1 q2 q3 q4 HO4' HO4)
            | (at_builtin; refine wp_append_cds rfl (.tmp 42) (.tmp 45) SRC rfl wy.heap.size RCD Try.underlying27 info_rcd (.slice a2 (p + 1) cp2) (p + 1) (T.take p ++ [c]) rfl HO5.out y (k - p) (cp - p) (T.drop p) rfl (by rw [List.length_drop, HTl.out]) (HYC.out.below HB5.out) HYN.out (by omega) HB5.out.size ?_; intro a3 cp3 w6 hown hgrow; rw [show p + 1 + (k - p) = k + 1 by omega] at hown; rw [show p + 1 + (k - p) = k + 1 by omega]; have HO6 := Lib.hid hown; have HB6 := Lib.hid (HB5.out.grown hgrow HB5.out.size (fun q hq => own_ge HO5.out hq)); clear hown hgrow))
          have hR6 : OrR w l (k + 1) cp3 a3 w6 := by
            refine ⟨?_, HBw.out.trans (HB6.out.mono HBw.out.size)⟩
            rw [HNext.out, HP.out]
            have h6 := HO6.out
            rw [show T.take p ++ [c] ++ T.drop p = T.take p ++ c :: T.drop p by simp] at h6
            exact own_mono h6 HBw.out.size
          have HR6 := Lib.hid hR6
          clear hR6 hcy hcu
          go_roundw
          case rel => exact ⟨k + 1, cp3, a3, by omega, by simp, rfl, HR6.out⟩
          case measure => simp [intOf]; omega
        · obtain ⟨q, hq⟩ : ∃ q, q + 1 = p := ⟨p - 1, by omega⟩
          have t0 : (0 : Int) < (p : Int) := by omega
          have t1 : decide ((0 : Int) < (p : Int)) = true := decide_eq_true t0
          have t2 : decide (0 < p) = true := decide_eq_true hp0
          have e0 : (p : Int) - 1 = (q : Int) := by omega
          have e1 : IntKind.i64.wrap ((p : Int) - 1) = (q : Int) := by rw [e0]; exact IntWalk.i64_in _ (by omega)
          have j0 : (0 : Int) ≤ (q : Int) := by omega
          have j1 : (q : Int) < (k : Int) := by omega
          have hqT : q < T.length := by rw [HTl.out]; omega
          obtain ⟨b2, o2, rfl, _⟩ := HCT.out.at hqT
          obtain ⟨d, hd⟩ : ∃ d, T.getD q c0 = d := ⟨_, rfl⟩
          have hdg := HTG.out q (by omega)
          rw [hd] at hdg
          have z : ∀ y : Kept wr, _ := fun y => (HCl.out.below (HBz.out.trans (y.below.mono HBz.out.size))).cells HKL.out
          have u : ∀ y : Kept wr, _ := fun y => (HCT.out.below (HBz.out.trans (y.below.mono HBz.out.size))).cells hqT
          simp only [HCc.out] at z
          simp only [hd] at u
          have z0 := fun y => (z y).1
          have z1 := fun y => (z y).2.1
          have z2 := fun y => (z y).2.2.1
          have z3 := fun y => (z y).2.2.2
          have u0 := fun y => (u y).1
          have u1 := fun y => (u y).2.1
          have u2 := fun y => (u y).2.2.1
          have u3 := fun y => (u y).2.2.2
          have HRB := Lib.hid (fun W => refBet_any c d W HCG.out hdg)
          unfold cdv at HRB
          have HBq : Hid (posC c T p = if betB c d = true then posC c T q else p) := by
            show _ = _
            rw [← hq]
            show (if betB c (T.getD q c0) = true then posC c T q else q + 1) = _
            rw [hd]
          have HQ := Lib.hid hq
          clear z u hd hdg hq hqT e0
          cases hbb : betB c d with
          | true =>
            rw [hbb] at HRB HBq
            clear hbb
            go_wp2_with fail
            refine wp_region_kept (by kernel_rfl) (by kernel_rfl) ?_
            repeat (go_big_quiet_step ((go_at_call 19; exact kept_call _ (HRB.out _))))
            refine wpQuiet_nil ?_
            rintro W ⟨wx, rfl⟩
            have HBy : Hid (Below wo.heap.size wo wx.at_) := HBz.out.trans (wx.below.mono HBz.out.size)
            clear HBz z0 z1 z2 z3 u0 u1 u2 u3 HRB e1
            generalize wx.at_ = wy at *
            have e0 : (p : Int) - 1 = (q : Int) := by have := HQ.out; omega
            go_wp2_with fail
            go_roundw
            case rel => exact ⟨q, by omega, rfl, by rw [← HPos.out, HBq.out]; rfl, HBy.out⟩
            case measure => simp [intOf]; omega
          | false =>
            rw [hbb] at HRB HBq
            have HP : Hid (posC c T k = p) := by show _ = _; rw [← HPos.out, HBq.out]; rfl
            clear hbb HBq HPos
            go_wp2_with fail
            refine wp_region_kept (by kernel_rfl) (by kernel_rfl) ?_
            repeat (go_big_quiet_step ((go_at_call 19; exact kept_call _ (HRB.out _))))
            refine wpQuiet_nil ?_
            rintro W ⟨wx, rfl⟩
            have HBy : Hid (Below wo.heap.size wo wx.at_) := HBz.out.trans (wx.below.mono HBz.out.size)
            clear HBz z0 z1 z2 z3 u0 u1 u2 u3 HRB e1
            generalize wx.at_ = wy at *
            have hkT : k ≤ cp := HL3.out
            have HBw := Lib.hid (HR.out.below.trans (HBy.out.mono HR.out.below.size))
            obtain ⟨y, hcy, hyC, hyn⟩ := cutC_from (p := p) HTl.out hkT hp (by omega) (HCT.out.below HBy.out) HL1.out HL2.out
            have hcu := cutC_upto (p := p) hkT hp (by omega) HL2.out
            have HYC := Lib.hid hyC
            have HYN := Lib.hid hyn
            have HCT2 := Lib.hid (((HCT.out.below HBy.out).take p).below (sup_pk wy (.cells #[] RCD)))
            have HCL2 := Lib.hid (HCl.out.below HBy.out)
            have HAN := Lib.hid (none_take (T := T) HL1.out hkT hp)
            clear hyC hyn HCl HBy HCT hkT
            have p0 : (0 : Int) ≤ (p : Int) := by omega
            have p1 : (p : Int) ≤ (k : Int) := by omega
            go_wp2_with (first
              | (at_builtin; refine wp_append_cds rfl (.tmp 30) (.tmp 33) SRC rfl wy.heap.size RCD Try.underlying27 info_rcd _ 0 [] rfl (World.ownsRow_lit wy #[] 0 (Nat.le_refl _) (by unfold maxLen; omega) rfl) _ p cp (T.take p) rfl (by rw [List.length_take, HTl.out]; omega) HCT2.out HAN.out (by omega) (by simp) ?_; intro a1 cp1 w4 hown hgrow; rw [Nat.zero_add, List.nil_append] at hown; rw [Nat.zero_add]; have HO4 := Lib.hid hown; have HB4 := Lib.hid ((sup_pk wy (.cells #[] RCD)).grown hgrow (by simp) (fun q hq => by cases hq; exact Nat.le_refl _)); have hq4 := (HCL2.out.below HB4.out).cells HKL.out; simp only [HCc.out] at hq4; obtain ⟨q1, q2, q3, q4⟩ := hq4; have HO4' := Lib.hid (own_later HO4.out (sup_pk w4 (.cells #[.int .i64 c.seg, .int .i64 c.live, .int .i64 c.cap, .int .i64 c.age] RCD))); have hs4 := HB4.out.size; clear hown hgrow)
              | (at_builtin; refine wp_append_cds rfl (.tmp 35) (.tmp 40) SRC rfl wy.heap.size RCD Try.underlying27 info_rcd (.slice a1 p cp1) p (T.take p) rfl HO4'.out (some ⟨w4.heap.size, 0, none⟩) 1 1 [c] rfl rfl (Cds.one w4 c RCD) (fun h => by cases h) (by omega) (by simp; omega) ?_; intro a2 cp2 w5 hown hgrow; have HO5 := Lib.hid hown; have HB5 := Lib.hid ((HB4.out.trans ((sup_pk w4 (.cells #[.int .i64 c.seg, .int .i64 c.live, .int .i64 c.cap, .int .i64 c.age] RCD)).mono hs4)).grown hgrow (by simp; omega) (fun q hq => own_ge HO4.out hq)); clear hown hgrow; clear q1 q2 q3 q4 HO4' HO4)
              | (at_builtin; refine wp_append_cds rfl (.tmp 42) (.tmp 45) SRC rfl wy.heap.size RCD Try.underlying27 info_rcd (.slice a2 (p + 1) cp2) (p + 1) (T.take p ++ [c]) rfl HO5.out y (k - p) (cp - p) (T.drop p) rfl (by rw [List.length_drop, HTl.out]) (HYC.out.below HB5.out) HYN.out (by omega) HB5.out.size ?_; intro a3 cp3 w6 hown hgrow; rw [show p + 1 + (k - p) = k + 1 by omega] at hown; rw [show p + 1 + (k - p) = k + 1 by omega]; have HO6 := Lib.hid hown; have HB6 := Lib.hid (HB5.out.grown hgrow HB5.out.size (fun q hq => own_ge HO5.out hq)); clear hown hgrow))
            have hR6 : OrR w l (k + 1) cp3 a3 w6 := by
              refine ⟨?_, HBw.out.trans (HB6.out.mono HBw.out.size)⟩
              rw [HNext.out, HP.out]
              have h6 := HO6.out
              rw [show T.take p ++ [c] ++ T.drop p = T.take p ++ c :: T.drop p by simp] at h6
              exact own_mono h6 HBw.out.size
            have HR6 := Lib.hid hR6
            clear hR6 hcy hcu
            go_roundw
            case rel => exact ⟨k + 1, cp3, a3, by omega, by simp, rfl, HR6.out⟩
            case measure => simp [intOf]; omega
    · have hkn : k = n := by omega
      subst hkn
      have HR := Lib.hid hR
      clear hR
      go_wp2
      go_ret
      exact ⟨x, cp, rfl, HR.out⟩
end
end Go.Proofs.Ytblpfgjjiihjoaa
