/-
  The walk of PointMixed.
-/
import Derived.Test.YtmkhliabmodbdaaPtMixM
import Derived.Test.YtmkhliabmodbdaaPtNewLaw
namespace Go.Proofs.Ytmkhliabmodbdaa
open Go.RowKit

theorem info_u8' : (Try.prog.info? U8).map (fun i => (i.zero, i.size, i.bytes)) = some (some (.int .u8 0), 1, 1) := by kernel_rfl
theorem cut_lh8 (g s : Nat) (hs : s + 16 ≤ 64) (W : World) :
    (Instr.slice 36 (.slice (some ⟨g, 0, none⟩) 64 64) (some (.int .i64 (s : Int))) (some (.int .i64 ((s : Int) + 16))) none).run Try.prog W = .ok (.slice (some ⟨g, s, none⟩) 16 (64 - s)) W := by
  have ht' : Try.prog.underlying 36 = some (.slice (Try.prog.elem 36)) := by simp [Program.elem, Try.underlying36]
  have he : Try.prog.elem 36 = U8 := by simp [Program.elem, Try.underlying36]
  have e2 : ¬ 64 = s := by omega
  have e3 : ((s : Int) + 16).toNat = s + 16 := by omega
  rw [run_slice_lh W 36 _ _ _ ht' .i64 .i64 _ _ (by omega) (by omega) (by omega), he, size_u8w]
  simp [Result.andThen, sliced, Addr.add_lit, e2, e3]
theorem part16 {w : World} {g s : Nat} {l : List Nat} (h : BBlk w g l) (hs : s + 16 ≤ 64) : Bytes w (some ⟨g, s, none⟩) ((l.drop s).take 16) :=
  ⟨fun x hx => h.2.2 x (List.mem_of_mem_drop (List.mem_of_mem_take hx)), by simp; omega, fun _ => ⟨g, s, rfl, fun i hi => by
    have hi2 : i < 16 := by simp at hi; omega
    rw [bcell h (by omega), List.getD_eq_getElem?_getD, List.getD_eq_getElem?_getD, List.getElem?_take_of_lt hi2, List.getElem?_drop]⟩⟩
theorem own_nil' {w : World} {base n cap : Nat} {e : TypeId} {a : Option Addr} {l : List Nat} (h : w.ownsRow base e 1 (.slice a n cap) n (cellsB l)) : (a = none → l = [] ∧ cap = 0) ∧ n ≤ cap := by
  have hlen : n = l.length := by have := h.1; rw [cellsB_length, Nat.mul_one] at this; exact this.symm
  rcases h.2 with ⟨h1, h0⟩ | ⟨g, c, cur, h1, _, _, h2, _⟩
  · cases h1
    exact ⟨fun _ => ⟨List.eq_nil_of_length_eq_zero (by omega), rfl⟩, by omega⟩
  · cases h1
    exact ⟨(fun h => by cases h), h2⟩
def MixR (W w3 : World) (ga gb : Nat) (p q : Pt) (x : Nat) (i v : Value) (wr : World) : Prop :=
  ∃ k : Nat, k ≤ 4 ∧ i = .int .i64 k ∧ (∃ a cap, v = .slice a (16 * k) cap ∧ wr.ownsRow w3.heap.size U8 1 (.slice a (16 * k) cap) (16 * k) (cellsB ((L64 (mixN p q x)).take (16 * k)))) ∧ BBlk wr ga (encP p) ∧ BBlk wr gb (encP q) ∧ Below w3.heap.size w3 wr
theorem mixed_tail (p q : Pt) (x : Nat) (hp : Good4 p) (hq : Good4 q) (hne : ¬ (p.e = q.e ∧ p.c = q.c)) : ∃ (r : Pt) (code : Int), ((decP (L64 (mixN p q x)) = some r ∧ code = 0) ∨ (decP (L64 (mixN p q x)) = none ∧ r = ⟨0, 0, 0, 0⟩ ∧ code = 100)) ∧ ((x % 16 = 0 ∨ x % 16 = 15) ↔ code = 0) := by
  by_cases h0 : x % 16 = 0
  · exact ⟨q, 0, .inl ⟨by rw [mix_nil h0]; exact decP_enc hq, rfl⟩, by simp [h0]⟩
  · by_cases h15 : x % 16 = 15
    · exact ⟨p, 0, .inl ⟨by rw [mix_all h15]; exact decP_enc hp, rfl⟩, by simp [h15]⟩
    · exact ⟨_, 100, .inr ⟨mix_none hp hq hne h0 h15, rfl, rfl⟩, by simp [h0, h15]⟩
set_option maxRecDepth 100000 in
set_option maxHeartbeats 8000000 in
theorem mixed_good (p q : Pt) (x : Nat) (hx : x < 256) (hp : Good4 p) (hq : Good4 q) (hne : ¬ (p.e = q.e ∧ p.c = q.c)) (W : World) :
    Calls Try.prog 8 #[.agg (ptA p), .agg (ptA q), .int .u8 (x : Int)] W fun e w' => e = .returned (.bool true) ∧ Below W.heap.size W w' := by
  obtain ⟨r, code, hdec, hcode⟩ := mixed_tail p q x hp hq hne
  have HDec := Lib.hid hdec
  have HCode := Lib.hid hcode
  have HE1 := Lib.hid (fun w => encode_good p w hp)
  have HE2 := Lib.hid (fun w => encode_good q w hq)
  have HMb := Lib.hid (@mix_byte p q x hp hq)
  have hb2 : Below W.heap.size W ((W.alloc (.cells (ptA p) PNT)).alloc (.cells (ptA q) PNT)) := ((Below.refl _ _).alloc (Nat.le_refl _) _).alloc (by simp) _
  have HB2 := Lib.hid hb2
  have HGa := Lib.hid ((blo_laid W PNT (ptA p)).alloc (.cells (ptA q) PNT))
  have HGb : Hid (Blo ((W.alloc (.cells (ptA p) PNT)).alloc (.cells (ptA q) PNT)) (W.heap.size + 1) PNT (ptA q)) := by
    have := blo_laid (W.alloc (.cells (ptA p) PNT)) PNT (ptA q)
    rw [show (W.alloc (.cells (ptA p) PNT)).heap.size = W.heap.size + 1 by simp] at this
    exact this
  have hjoin : ∀ k, k < 4 → (L64 (mixN p q x)).take (16 * k) ++ ((if bitW x k = true then encP p else encP q).drop (16 * k)).take 16 = (L64 (mixN p q x)).take (16 * (k + 1)) := fun k hk => by
    by_cases c : bitW x k = true
    · rw [if_pos c, encP_eq]; exact L64_join _ _ k hk (fun j hj => by unfold mixN; rw [hj, if_pos c])
    · rw [if_neg c, encP_eq]; exact L64_join _ _ k hk (fun j hj => by unfold mixN; rw [hj, if_neg c])
  have HJoin := Lib.hid hjoin
  clear hdec hcode hb2 hp hq hjoin
  obtain ⟨pe, pc, pn, pf⟩ := p
  obtain ⟨qe, qc, qn, qf⟩ := q
  simp only [ptA_def] at *
  go_enter Try.func8, Try.ntmps8
  go_wp2_with fail
  refine (awake_any _).mono ?_
  rintro e w1 ⟨rfl, hb1⟩
  have HB1 := Lib.hid (HB2.out.trans (hb1.mono HB2.out.size))
  have HA1 := Lib.hid (HGa.out.later hb1)
  have HC1 := Lib.hid (HGb.out.later hb1)
  clear hb1 HB2 HGa HGb
  have a0 := HA1.out.cell 0
  have a1 := HA1.out.cell 1
  have a2 := HA1.out.cell 2
  have a3 := HA1.out.cell 3
  have c0 := HC1.out.cell 0
  have c1 := HC1.out.cell 1
  have c2 := HC1.out.cell 2
  have c3 := HC1.out.cell 3
  simp at a0 a1 a2 a3 c0 c1 c2 c3
  have hcase : ((pe == qe) = false) ∨ ((pe == qe) = true ∧ (pc == qc) = false) := by
    by_cases h1 : pe = qe
    · right
      exact ⟨by simp [h1], by rw [beq_eq_false_iff_ne]; intro h2; exact hne ⟨h1, h2⟩⟩
    · left; rw [beq_eq_false_iff_ne]; exact h1
  clear hne
  rcases hcase with ht | ⟨ht, ht2⟩
  all_goals
    go_wp2_with fail
    clear ht
    try clear ht2
    refine (HE1.out _).mono ?_
    rintro e w2 ⟨ga, rfl, hxa, hga, hb2⟩
    have HB2 := Lib.hid (HB1.out.trans (hb2.mono HB1.out.size))
    have HC2 := Lib.hid (HC1.out.later hb2)
    have HXa := Lib.hid hxa
    clear a0 a1 a2 a3 c0 c1 c2 c3 hxa hga hb2 HB1 HA1 HC1 HE1
    have c0 := HC2.out.cell 0
    have c1 := HC2.out.cell 1
    have c2 := HC2.out.cell 2
    have c3 := HC2.out.cell 3
    simp at c0 c1 c2 c3
    go_wp2_with fail
    refine (HE2.out _).mono ?_
    rintro e w3 ⟨gb, rfl, hxb, hgb, hb3⟩
    have HB3 := Lib.hid (HB2.out.trans (hb3.mono HB2.out.size))
    have HXa3 := Lib.hid (HXa.out.out (X := fun _ => False) (Out.of_below hb3) (fun h => h))
    have HXb3 := Lib.hid hxb
    clear c0 c1 c2 c3 hxb hgb hb3 HB2 HC2 HXa HE2
    have HSt : Hid (MixR W w3 ga gb ⟨pe, pc, pn, pf⟩ ⟨qe, qc, qn, qf⟩ x (.int .i64 0) (.slice none 0 0) w3) := ⟨0, by omega, rfl, ⟨none, 0, rfl, World.ownsRow_nil _ _ _ _⟩, HXa3.out, HXb3.out, Below.refl _ _⟩
    have HGaLt : Hid (ga < w3.heap.size) := HXa3.out.1.lt
    have HGbLt : Hid (gb < w3.heap.size) := HXb3.out.1.lt
    clear HXa3 HXb3
    go_wp2_with fail
    go_loopw [12, 11] (fun i v wr => MixR W w3 ga gb ⟨pe, pc, pn, pf⟩ ⟨qe, qc, qn, qf⟩ x i v wr) (fun i _ _ => 4 - (intOf i).toNat)
    case atStart => exact HSt.out
    case round =>
      clear HSt
      obtain ⟨k, hk, rfl, ⟨am, cm, rfl, hown⟩, hxa, hxb, hb⟩ := hrel
      have HOw := Lib.hid hown
      have HXa := Lib.hid hxa
      have HXb := Lib.hid hxb
      have HB := Lib.hid hb
      clear hown hxa hxb hb
      by_cases hlt : k < 4
      · have k0 : (0 : Int) ≤ (k : Int) := by omega
        have k1 : (k : Int) < 4 := by omega
        have hbt := and_one8 (x / 2 ^ k) (Nat.lt_of_le_of_lt (Nat.div_le_self _ _) hx)
        have HJ := Lib.hid (HJoin.out k hlt)
        obtain ⟨s, hs⟩ : ∃ s, 16 * k = s := ⟨_, rfl⟩
        have hs48 : s ≤ 48 := by omega
        have e1 : (16 : Int) * (k : Int) = (s : Int) := by omega
        have hca := cut_lh8 ga s (by omega)
        have hcb := cut_lh8 gb s (by omega)
        have HS := Lib.hid hs
        have hsn : 16 * (k + 1) = s + 16 := by omega
        have HSn := Lib.hid hsn
        rw [hs] at HOw HJ
        rw [hsn] at HJ
        rw [hs]
        clear hs hsn
        have hpow : ((x / 2 ^ k : Nat) : Int) = (x : Int) / 2 ^ k := by simp
        rw [hpow] at hbt
        clear hpow
        have HLn : ∀ l : List Nat, l.length = 64 → ((l.drop s).take 16).length = 16 := fun l hl => by rw [List.length_take, List.length_drop, hl]; omega
        have HLa := Lib.hid (HLn (encP ⟨pe, pc, pn, pf⟩) (encP_length _))
        have HLb := Lib.hid (HLn (encP ⟨qe, qc, qn, qf⟩) (encP_length _))
        have HLt : Hid (∀ y ∈ (L64 (mixN ⟨pe, pc, pn, pf⟩ ⟨qe, qc, qn, qf⟩ x)).take s, y < 256) := fun y hy => HMb.out y (List.mem_of_mem_take hy)
        clear HLn
        cases hbw : bitW x k with
        | true =>
          rw [hbw, if_pos rfl] at HJ
          have hbt2 : (bits .and .u8 ((x : Int) / 2 ^ k) 1 == 1) = true := by rw [hbt]; exact hbw
          clear hbt hbw
          go_wp2_with (at_builtin; refine wp_append_bytes rfl (.tmp 57) (.tmp 64) 36 rfl w3.heap.size U8 Try.underlying36 info_u8' (.slice am s cm) s _ (by first | rfl | simp [go_sem]) HOw.out HLt.out (some ⟨ga, s, none⟩) 16 (64 - s) _ (by first | rfl | simp [go_sem]) HLa.out.symm (part16 HXa.out (by omega)) (fun h => by cases h) (by omega) HB.out.size ?_; intro a2 cp2 w5 hown hgrow hbys hlen; have HOw5 := Lib.hid hown; have HB5 := Lib.hid (HB.out.grown hgrow HB.out.size (fun g hg => (own_lt HOw.out hg).1)); have HXa5 : Hid (BBlk w5 ga (encP ⟨pe, pc, pn, pf⟩)) := ⟨HXa.out.1.grown hgrow (fun e => absurd (own_lt HOw.out e.symm).1 (by have := HGaLt.out; omega)), HXa.out.2⟩; have HXb5 : Hid (BBlk w5 gb (encP ⟨qe, qc, qn, qf⟩)) := ⟨HXb.out.1.grown hgrow (fun e => absurd (own_lt HOw.out e.symm).1 (by have := HGbLt.out; omega)), HXb.out.2⟩; clear hown hgrow hbys hlen)
          have HOw6 : Hid (w5.ownsRow w3.heap.size U8 1 (.slice a2 (16 * (k + 1)) cp2) (16 * (k + 1)) (cellsB ((L64 (mixN ⟨pe, pc, pn, pf⟩ ⟨qe, qc, qn, qf⟩ x)).take (16 * (k + 1))))) := by
            rw [HSn.out, ← HJ.out]; exact HOw5.out
          clear HOw5 HOw HXa HXb HB HJ
          go_roundw
          case rel => exact ⟨k + 1, by omega, by simp, ⟨a2, cp2, by rw [HSn.out], HOw6.out⟩, HXa5.out, HXb5.out, HB5.out⟩
          case measure => simp [intOf]; omega
        | false =>
          rw [hbw, if_neg (by decide)] at HJ
          have hbt2 : (bits .and .u8 ((x : Int) / 2 ^ k) 1 == 1) = false := by rw [hbt]; exact hbw
          clear hbt hbw
          go_wp2_with (at_builtin; refine wp_append_bytes rfl (.tmp 66) (.tmp 73) 36 rfl w3.heap.size U8 Try.underlying36 info_u8' (.slice am s cm) s _ (by first | rfl | simp [go_sem]) HOw.out HLt.out (some ⟨gb, s, none⟩) 16 (64 - s) _ (by first | rfl | simp [go_sem]) HLb.out.symm (part16 HXb.out (by omega)) (fun h => by cases h) (by omega) HB.out.size ?_; intro a2 cp2 w5 hown hgrow hbys hlen; have HOw5 := Lib.hid hown; have HB5 := Lib.hid (HB.out.grown hgrow HB.out.size (fun g hg => (own_lt HOw.out hg).1)); have HXa5 : Hid (BBlk w5 ga (encP ⟨pe, pc, pn, pf⟩)) := ⟨HXa.out.1.grown hgrow (fun e => absurd (own_lt HOw.out e.symm).1 (by have := HGaLt.out; omega)), HXa.out.2⟩; have HXb5 : Hid (BBlk w5 gb (encP ⟨qe, qc, qn, qf⟩)) := ⟨HXb.out.1.grown hgrow (fun e => absurd (own_lt HOw.out e.symm).1 (by have := HGbLt.out; omega)), HXb.out.2⟩; clear hown hgrow hbys hlen)
          have HOw6 : Hid (w5.ownsRow w3.heap.size U8 1 (.slice a2 (16 * (k + 1)) cp2) (16 * (k + 1)) (cellsB ((L64 (mixN ⟨pe, pc, pn, pf⟩ ⟨qe, qc, qn, qf⟩ x)).take (16 * (k + 1))))) := by
            rw [HSn.out, ← HJ.out]; exact HOw5.out
          clear HOw5 HOw HXa HXb HB HJ
          go_roundw
          case rel => exact ⟨k + 1, by omega, by simp, ⟨a2, cp2, by rw [HSn.out], HOw6.out⟩, HXa5.out, HXb5.out, HB5.out⟩
          case measure => simp [intOf]; omega
      · have hke : k = 4 := by omega
        subst hke
        have htk : (L64 (mixN ⟨pe, pc, pn, pf⟩ ⟨qe, qc, qn, qf⟩ x)).take (16 * 4) = L64 (mixN ⟨pe, pc, pn, pf⟩ ⟨qe, qc, qn, qf⟩ x) := List.take_of_length_le (by rw [L64_length]; decide)
        rw [htk] at HOw
        clear htk
        have HBw : Hid (Below W.heap.size W wr) := HB3.out.trans (HB.out.mono HB3.out.size)
        obtain ⟨a', cap', hv, hn', hBy, _⟩ := Bytes.own HOw.out HMb.out
        cases hv
        have hcap := (own_nil' HOw.out).2
        have HBy := Lib.hid hBy
        clear hn' hBy HOw HXa HXb HB
        have HD : Hid (Calls Try.prog 31 #[.slice am 64 cm] wr (DecO wr r code)) := decode_64 am cm _ wr (L64_length _) hcap HBy.out r code HDec.out
        obtain ⟨re, rc, rn, rf⟩ := r
        go_wp2_with fail
        refine HD.out.mono ?_
        rintro e w9 ⟨rfl, hb9⟩
        simp only [ptA_def]
        have HB9 := Lib.hid (HBw.out.trans ((hb9.alloc hb9.size (.cells #[.int .i64 re, .int .i64 rc, .int .i64 rn, .int .i64 rf] PNT)).mono HBw.out.size))
        clear hb9 HD HBy HBw hcap
        by_cases h0 : x % 16 = 0
        · have hc : code = 0 := HCode.out.1 (.inl h0)
          subst hc
          have t1 : (((x : Int) % 16) == 0) = true := by rw [beq_iff_eq]; omega
          clear h0
          go_wp2
          go_ret
          exact ⟨rfl, HB9.out⟩
        · have t1 : (((x : Int) % 16) == 0) = false := by rw [beq_eq_false_iff_ne]; omega
          by_cases h15 : x % 16 = 15
          · have hc : code = 0 := HCode.out.1 (.inr h15)
            subst hc
            have t2 : (((x : Int) % 16) == 15) = true := by rw [beq_iff_eq]; omega
            clear h0 h15
            go_wp2
            go_ret
            exact ⟨rfl, HB9.out⟩
          · have t2 : (((x : Int) % 16) == 15) = false := by rw [beq_eq_false_iff_ne]; omega
            have hc : code = 100 := by
              rcases HDec.out with ⟨_, h⟩ | ⟨_, _, h⟩
              · rcases HCode.out.2 h with h' | h'
                · exact absurd h' h0
                · exact absurd h' h15
              · exact h
            subst hc
            clear h0 h15
            go_wp2
            go_ret
            exact ⟨rfl, HB9.out⟩
end Go.Proofs.Ytmkhliabmodbdaa
