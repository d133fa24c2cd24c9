/-
  The document's points: Good, Four cut to two bytes.
-/
import Derived.Test.YtmkhliabmodbdaaPtRefN
import Derived.Test.YtmkhliabmodbdaaDrTx
import Derived.Test.YtmkhliabmodbdaaCopyIn
import Derived.Deep.RegionHeld3
namespace Go.Proofs.Ytmkhliabmodbdaa
open Go.RowKit

set_option maxRecDepth 100000 in
set_option maxHeartbeats 2000000 in
theorem rgood_any (e c n f : Int) (w : World) : Calls Try.prog 24 #[.agg #[.int .i64 e, .int .i64 c, .int .i64 n, .int .i64 f]] w fun e' w' => e' = .returned (.bool (decide (Good4 ⟨e, c, n, f⟩))) ∧ Below w.heap.size w w' := by
  have hb := sup_pt w (.cells #[.int .i64 e, .int .i64 c, .int .i64 n, .int .i64 f] RPT)
  have HB := Lib.hid hb
  clear hb
  by_cases h : Good4 ⟨e, c, n, f⟩
  · rw [decide_eq_true h]
    obtain ⟨⟨h1, h2⟩, ⟨h3, h4⟩, ⟨h5, h6⟩, ⟨h7, h8⟩⟩ := h
    simp only at h1 h2 h3 h4 h5 h6 h7 h8
    have g1 : e < 65536 := by omega
    have g2 : c < 65536 := by omega
    have g3 : n < 4096 := by omega
    have g4 : f < 4096 := by omega
    go_enter Try.func24, Try.ntmps24
    go_wp2
    go_ret
    exact ⟨rfl, HB.out⟩
  · rw [decide_eq_false h]
    have H := Lib.hid h
    clear h
    go_enter Try.func24, Try.ntmps24
    go_wp2
    all_goals
      go_ret
      refine ⟨?_, HB.out⟩
      first
        | rfl
        | (exfalso; apply H.out; unfold Good4; simp only; omega)
        | (have hg := H.out; unfold Good4 at hg; simp only at hg; congr 2; simp; omega)
def fourL (v : Nat) : List Nat := [v % 256, v / 256, 0, 0]
set_option maxHeartbeats 400000 in
theorem four_any (v : Nat) (w : World) (hv : v < 65536) :
    Calls Try.prog 44 #[.int .i64 v] w fun e w' => e = .returned (.slice (some ⟨w.heap.size, 0, none⟩) 4 4) ∧ w' = w.alloc (.cells (cellsB (fourL v)).toArray U8) := by
  go_enter Try.func44, Try.ntmps44
  go_wp2
  go_ret
  refine ⟨rfl, ?_⟩
  have e1 : v / 256 % 256 = v / 256 := by omega
  have e2 : v / 65536 % 256 = 0 := by omega
  have e3 : v / 16777216 % 256 = 0 := by omega
  have e4 : (v : Int) / 65536 % 256 = 0 := by omega
  have e5 : (v : Int) / 16777216 % 256 = 0 := by omega
  have e6 : (v : Int) / 256 % 256 = (v : Int) / 256 := by omega
  have e7 : (v : Int) / 16777216 = 0 := by omega
  first
    | rfl
    | (simp [fourL, cellsB, e1, e2, e3, e4, e5, e6, e7]; done)
    | (simp [fourL, cellsB, e1, e2, e3, e4, e5, e6, e7]; omega)
theorem cut_h2 (g n cap : Nat) (hn : 2 ≤ n) (hc : n ≤ cap) (W : World) :
    (Instr.slice 36 (.slice (some ⟨g, 0, none⟩) n cap) none (some (.int .i64 2)) none).run Try.prog W = .ok (.slice (some ⟨g, 0, none⟩) 2 cap) W := by
  have ht' : Try.prog.underlying 36 = some (.slice (Try.prog.elem 36)) := by simp [Program.elem, Try.underlying36]
  have he : Try.prog.elem 36 = U8 := by simp [Program.elem, Try.underlying36]
  have e2 : ¬ cap = 0 := by omega
  rw [run_slice_h W 36 _ _ _ ht' .i64 _ (by omega) (by omega), he, size_u8w]
  simp [Result.andThen, sliced, Addr.add, e2]
theorem info_u8b : (Try.prog.info? U8).map (fun i => (i.zero, i.size, i.bytes)) = some (some (.int .u8 0), 1, 1) := by kernel_rfl
/-- Two bytes of a block of four, as a row of the call's own. -/
theorem own_two {w : World} {g base : Nat} {l : List Nat} (h : Blo w g U8 (cellsB l).toArray) (hl : l.length = 4) (hb : base ≤ g) : w.ownsRow base U8 1 (.slice (some ⟨g, 0, none⟩) 2 4) 2 (cellsB (l.take 2)) :=
  ⟨by rw [cellsB_length, List.length_take]; omega, .inr ⟨g, 4, _, rfl, hb, h, by decide, by decide, by rw [List.size_toArray, cellsB_length, hl], by simp [cellsB, List.map_take]⟩⟩
def headL (n f : Nat) : List Nat := [n % 256, n / 256, f % 256, f / 256]
def padL (n f k : Nat) : List Nat := headL n f ++ List.replicate k 0
theorem pad_length (n f k : Nat) : (padL n f k).length = 4 + k := by simp [padL, headL]; omega
theorem pad_snoc (n f k : Nat) : padL n f k ++ [0] = padL n f (k + 1) := by simp [padL, List.replicate_succ']
def vlen : Value → Nat
  | .slice _ n _ => n
  | _ => 0
def EnR (w : World) (e c n f : Nat) (v : Value) (wr : World) : Prop :=
  ∃ m : Nat, (4 ≤ m ∧ m ≤ 44) ∧ wr.ownsRow (w.heap.size + 1) U8 1 v m (cellsB (padL n f (m - 4))) ∧ Blo wr w.heap.size RPT #[.int .i64 e, .int .i64 c, .int .i64 n, .int .i64 f] ∧ Below w.heap.size w wr
def secL (e c n f k : Nat) : List Nat := [e % 256, e / 256] ++ [c % 256, c / 256] ++ [k] ++ ((padL n f 40).drop (11 * k)).take 11
theorem enc_step (e c n f k : Nat) (hk : k < 4) : (L64 (encB e c n f)).take (16 * k) ++ [e % 256, e / 256] ++ [c % 256, c / 256] ++ [k] ++ ((padL n f 40).drop (11 * k)).take 11 = (L64 (encB e c n f)).take (16 * (k + 1)) := by
  match k, hk with
  | 0, _ => rfl
  | 1, _ => rfl
  | 2, _ => rfl
  | 3, _ => rfl
theorem cut_part (g cap lo : Nat) (hi : lo + 11 ≤ 44) (hc : 44 ≤ cap) (hc2 : cap ≤ 9223372036854775807) (W : World) :
    (Instr.slice 36 (.slice (some ⟨g, 0, none⟩) 44 cap) (some (.int .i64 (lo : Int))) (some (.int .i64 ((lo : Int) + 11))) none).run Try.prog W = .ok (.slice (some ⟨g, lo, none⟩) 11 (cap - lo)) W := by
  have ht' : Try.prog.underlying 36 = some (.slice (Try.prog.elem 36)) := by simp [Program.elem, Try.underlying36]
  have he : Try.prog.elem 36 = U8 := by simp [Program.elem, Try.underlying36]
  have e2 : ¬ cap = lo := by omega
  have e3 : ((lo : Int) + 11).toNat - lo = 11 := by omega
  rw [run_slice_lh W 36 _ _ _ ht' .i64 .i64 _ _ (by omega) (by omega) (by omega), he, size_u8w]
  simp [Result.andThen, sliced, Addr.add_lit, e2, e3]
theorem four_src (W : World) (v : Nat) : ∀ ad, some (⟨W.heap.size, 0, none⟩ : Addr) = some ad → ∀ j u, (cellsB [v % 256, v / 256])[j]? = some u → (W.alloc (.cells (cellsB (fourL v)).toArray U8)).cell? (ad.add j) = some u := fun ad had j u hj => by
  cases had
  rw [Addr.add_lit, Nat.zero_add, (blo_laid W U8 _).cell, List.getElem?_toArray, ← hj]
  match j with
  | 0 => rfl
  | 1 => rfl
  | j + 2 => simp [cellsB] at hj
def EnR2 (W0 : World) (e c n f : Nat) (v t : Value) (wr : World) : Prop :=
  ∃ k m : Nat, k ≤ 4 ∧ m = 16 * k ∧ t = .int .i64 k ∧ wr.ownsRow W0.heap.size U8 1 v m (cellsB ((L64 (encB e c n f)).take m)) ∧ Below W0.heap.size W0 wr
set_option maxRecDepth 100000 in
set_option maxHeartbeats 4000000 in
theorem rencode_nat (e c n f : Nat) (w : World) (h : Good4 ⟨e, c, n, f⟩) : Calls Try.prog 25 #[.agg #[.int .i64 e, .int .i64 c, .int .i64 n, .int .i64 f]] w fun e' w' => e' = .returned (.string (strOf (L64 (encB e c n f)))) ∧ Below w.heap.size w w' := by
  obtain ⟨⟨h1, h2⟩, ⟨h3, h4⟩, ⟨h5, h6⟩, ⟨h7, h8⟩⟩ := h
  simp only at h1 h2 h3 h4 h5 h6 h7 h8
  have he : e < 65536 := by omega
  have hc : c < 65536 := by omega
  have hn : n < 65536 := by omega
  have hf : f < 65536 := by omega
  have HE := Lib.hid (fun W => four_any e W he)
  have HEb : Hid (∀ x ∈ L64 (encB e c n f), x < 256) := encP_byte (p := ⟨e, c, n, f⟩) ⟨⟨h1, h2⟩, ⟨h3, h4⟩, ⟨h5, h6⟩, ⟨h7, h8⟩⟩
  have HCc := Lib.hid (fun W => four_any c W hc)
  have HN := Lib.hid (fun W => four_any n W hn)
  have HF := Lib.hid (fun W => four_any f W hf)
  have HBx := Lib.hid (blo_laid w RPT #[.int .i64 (e : Int), .int .i64 (c : Int), .int .i64 (n : Int), .int .i64 (f : Int)])
  have hb := sup_pt w (.cells #[.int .i64 (e : Int), .int .i64 (c : Int), .int .i64 (n : Int), .int .i64 (f : Int)] RPT)
  have HB := Lib.hid hb
  clear hb h1 h2 h3 h4 h5 h6 h7 h8 he hc hn hf
  go_enter Try.func25, Try.ntmps25
  go_upto_region 1 with (fail)
  have hsz : (w.alloc (.cells #[.int .i64 (e : Int), .int .i64 (c : Int), .int .i64 (n : Int), .int .i64 (f : Int)] RPT)).heap.size = w.heap.size + 1 := by simp
  generalize (w.alloc (.cells #[.int .i64 (e : Int), .int .i64 (c : Int), .int .i64 (n : Int), .int .i64 (f : Int)] RPT)) = w1 at *
  have HSz : Hid (w1.heap.size = w.heap.size + 1) := hsz
  clear hsz
  have KP : Hid (∀ W, Below w1.heap.size w1 W → W.cell? ⟨w.heap.size, 2, none⟩ = some (.int .i64 n) ∧ W.cell? ⟨w.heap.size, 3, none⟩ = some (.int .i64 f)) := fun W hb => ⟨by simpa using (HBx.out.later hb).cell 2, by simpa using (HBx.out.later hb).cell 3⟩
  have hcut := fun W => cut_h2 w1.heap.size 4 4 (by decide) (by decide) W
  have hcut2 := fun W => cut_h2 (w1.heap.size + 1) 4 4 (by decide) (by decide) W
  have hb2 : Below w1.heap.size w1 ((w1.alloc (.cells (cellsB (fourL n)).toArray U8)).alloc (.cells (cellsB (fourL f)).toArray U8)).drew := (((Below.refl _ _).alloc (Nat.le_refl _) _).alloc (by simp) _).drew
  have HB2 := Lib.hid hb2
  have HOwn : Hid (((w1.alloc (.cells (cellsB (fourL n)).toArray U8)).alloc (.cells (cellsB (fourL f)).toArray U8)).drew.ownsRow w1.heap.size U8 1 (.slice (some ⟨w1.heap.size, 0, none⟩) 2 4) 2 (cellsB ((fourL n).take 2))) :=
    own_two (((blo_laid w1 U8 (cellsB (fourL n)).toArray)).alloc _) rfl (Nat.le_refl _)
  have HNew : Hid (∀ j u, (cellsB ((fourL f).take 2))[j]? = some u → ((w1.alloc (.cells (cellsB (fourL n)).toArray U8)).alloc (.cells (cellsB (fourL f)).toArray U8)).drew.cell? ((⟨w1.heap.size + 1, 0, none⟩ : Addr).add j) = some u) := fun j u hj => by
    have hb := blo_laid (w1.alloc (.cells (cellsB (fourL n)).toArray U8)) U8 (cellsB (fourL f)).toArray
    rw [show (w1.alloc (.cells (cellsB (fourL n)).toArray U8)).heap.size = w1.heap.size + 1 by simp] at hb
    rw [Addr.add_lit, Nat.zero_add, (hb.drew).cell, List.getElem?_toArray, ← hj]
    match j with
    | 0 => rfl
    | 1 => rfl
    | j + 2 => simp [fourL, cellsB] at hj
  clear hb2
  obtain ⟨i0, hi0, hz0, hz1, hz2⟩ := info_parts info_u8b
  go_region_held3 (fun W => W.cell? ⟨w.heap.size, 2, none⟩ = some (.int .i64 n) ∧ W.cell? ⟨w.heap.size, 3, none⟩ = some (.int .i64 f)) ((first | exact KP.out _ ((Below.refl _ _).drew) | exact KP.out _ (((Below.refl _ _).drew).alloc (Nat.le_refl _) _) | exact KP.out _ (((Below.refl _ _).alloc (Nat.le_refl _) _).drew) | exact KP.out _ HB2.out | exact HKS.out | fail)) ((first
    | (go_at_call 44; (with_reducible refine (HN.out _).mono ?_); rintro e' W' ⟨rfl, rfl⟩)
    | (go_at_call 44; (with_reducible refine (HF.out _).mono ?_); rintro e' W' ⟨rfl, rfl⟩)
    | (refine step_append_lies _ (by rfl) (.tmp 9) (.tmp 13) 36 (by rfl) w1.heap.size U8 i0 _ 1 1 Try.underlying36 hi0 hz0 hz1 hz2 rfl (by decide) (.slice (some ⟨w1.heap.size, 0, none⟩) 2 4) 2 (cellsB ((fourL n).take 2)) (by simp [go_sem]) HOwn.out ⟨w1.heap.size + 1, 0, none⟩ 2 4 (cellsB ((fourL f).take 2)) (by simp [go_sem]) rfl HNew.out (cellsB_one _) (by decide) (by decide) (by decide) HB2.out.size (w1.heap.size + 1 + 1) (by simp) ?_; intro g3 cap3 w3 hown hgrow hat hlt; have HO3 := Lib.hid hown; have HB3 := Lib.hid (HB2.out.grown hgrow HB2.out.size (fun q hq => by simp [Value.ownBlock] at hq; omega)); have HKS := Lib.hid (KP.out _ HB3.out); clear hown hgrow hat hlt)
    | fail))
  have HBw := Lib.hid (HB.out.trans (HB3.out.mono HB.out.size))
  have HB3x := Lib.hid (HBx.out.later HB3.out)
  have HSt : Hid (EnR w e c n f (.slice (some ⟨g3, 0, none⟩) (2 + 2) cap3) w3) := ⟨4, by decide, by rw [← HSz.out]; exact HO3.out, HB3x.out, HBw.out⟩
  clear HBw HB3x HO3 HB3 HKS KP HB2 HOwn HNew HBx HB hcut hcut2 HN HF
  simp only [Nat.reduceAdd]
  go_wp2_with fail
  go_loopw [3] (fun v wr => EnR w e c n f v wr) (fun v _ => 44 - vlen v)
  case atStart => exact HSt.out
  case round =>
    clear HSt
    obtain ⟨m, ⟨hm1, hm2⟩, hO, hX, hB⟩ := hrel
    obtain ⟨av, cv, hv, hcv⟩ := own_slice hO
    subst hv
    have HO := Lib.hid hO
    have HX := Lib.hid hX
    have HB := Lib.hid hB
    clear hO hX hB
    by_cases hlt : m < 44
    · have i1 : (m : Int) < 44 := by omega
      have HMl : Hid (m < 44) := hlt
      have hal : Below wr.heap.size wr (wr.alloc (.cells #[.int .u8 0] U8)) := (Below.refl _ _).alloc (Nat.le_refl _) _
      have HAl := Lib.hid hal
      clear hal
      go_wp2_with (at_builtin; (refine wp_append_row rfl (.tmp 18) (.tmp 19) 36 rfl (w.heap.size + 1) U8 (.int .u8 0) 1 1 Try.underlying36 info_u8b rfl (by decide) (by decide) (.slice av m cv) m (cellsB (padL n f (m - 4))) rfl (own_later HO.out HAl.out) (some ⟨wr.heap.size, 0, none⟩) 1 1 (cellsB [0]) rfl rfl (fun ad had j u hj => by cases had; rw [Addr.add_lit, Nat.zero_add, (blo_laid wr U8 #[.int .u8 0]).cell, ← hj]; simp [cellsB]) (cellsB_one _) (fun h => by cases h) (by omega) (Nat.le_trans HX.out.lt HAl.out.size) ?_; intro a5 c5 w5 hown hgrow; have HO5 := Lib.hid hown; have HX5 := Lib.hid ((HX.out.later HAl.out).grown hgrow ((HX.out.later HAl.out).row_apart (own_later HO.out HAl.out) (by decide))); have HB5 := Lib.hid ((HB.out.trans (HAl.out.mono HB.out.size)).grown hgrow (Nat.le_trans HB.out.size HAl.out.size) (fun q hq => by have := (own_lt (own_later HO.out HAl.out) hq).1; omega)); clear hown hgrow))
      go_roundw
      case rel =>
        refine ⟨m + 1, by have := HMl.out; omega, ?_, HX5.out, HB5.out⟩
        have h := HO5.out
        have e1 : cellsB (padL n f (m - 4)) ++ cellsB [0] = cellsB (padL n f (m + 1 - 4)) := by
          rw [show m + 1 - 4 = m - 4 + 1 by omega, ← pad_snoc]; simp [cellsB]
        rw [e1] at h
        exact h
      case measure => simp [vlen]; have := HMl.out; omega
    · have hme : m = 44 := by omega
      subst hme
      have i1 : ¬ ((44 : Nat) : Int) < 44 := by decide
      obtain ⟨gw, cw, hvw, hcw, hcw2⟩ : ∃ gw cw, av = some ⟨gw, 0, none⟩ ∧ cv = cw ∧ cw ≤ 9223372036854775807 := by
        rcases id HO.out.2 with ⟨h1, h0⟩ | ⟨g, cap7, cur, h1, _, _, _, hcc, _⟩
        · cases h0
        · cases h1; exact ⟨g, cv, rfl, rfl, hcc⟩
      subst hvw hcw
      obtain ⟨cv9, rfl⟩ : ∃ cv9, cv9 = cv := ⟨_, rfl⟩
      have HCw : Hid (44 ≤ cv9 ∧ cv9 ≤ 9223372036854775807) := ⟨hcv, hcw2⟩
      have HSrc : Hid (∀ W, Below wr.heap.size wr W → ∀ j, j < 44 → W.cell? ⟨gw, j, none⟩ = some (.int .u8 ((padL n f 40).getD j 0 : Nat))) := fun W hb j hj => by
        have h1 := (own_later HO.out hb).cellAt j (by omega)
        rw [h1, cellsB_get _ _ (by rw [pad_length]; omega)]
      have HX1 : Hid (∀ W, Below wr.heap.size wr W → W.cell? ⟨w.heap.size, 0, none⟩ = some (.int .i64 e) ∧ W.cell? ⟨w.heap.size, 1, none⟩ = some (.int .i64 c)) := fun W hb => ⟨by simpa using (HX.out.later hb).cell 0, by simpa using (HX.out.later hb).cell 1⟩
      have hxl := HX.out.lt
      clear HO HX
      go_wp2_with fail
      obtain ⟨wr0, rfl⟩ : ∃ wr0, wr0 = wr := ⟨_, rfl⟩
      have HSt : Hid (EnR2 wr0 e c n f (.slice none 0 0) (.int .i64 0) wr0) := ⟨0, 0, by decide, rfl, rfl, ⟨rfl, .inl ⟨rfl, rfl⟩⟩, Below.refl _ _⟩
      go_loopw [4, 5] (fun v t wr => EnR2 wr0 e c n f v t wr) (fun _ t _ => 4 - (intOf t).toNat)
      case atStart => exact HSt.out
      case round =>
        clear HSt
        obtain ⟨k, m0, hk, hm0, rfl, hO, hB⟩ := hrel
        obtain ⟨av, cv, hv, hcv⟩ := own_slice hO
        subst hv
        have HO := Lib.hid hO
        have HB7 := Lib.hid hB
        have HM0 : Hid (16 * k = m0) := hm0.symm
        have hm64 : m0 ≤ 64 := by omega
        clear hO hB hm0
        have k0 : (0 : Int) ≤ (k : Int) := by omega
        by_cases hlt : k < 4
        · have k1 : (k : Int) < 4 := by omega
          have HKn : Hid (k < 4) := hlt
          have hkm : (k : Int) % 256 = (k : Int) := by omega
          obtain ⟨x0, x1⟩ := HX1.out _ HB7.out
          obtain ⟨X0, hX0⟩ : ∃ X0, (L64 (encB e c n f)).take m0 = X0 := ⟨_, rfl⟩
          rw [hX0] at HO
          have HX0 := Lib.hid hX0
          clear hX0
          go_wp2_with fail
          refine (HE.out wr).mono ?_
          rintro e' w' ⟨rfl, rfl⟩
          have hcut := fun V => cut_h2 wr.heap.size 4 4 (by decide) (by decide) V
          have ha1 : Below wr.heap.size wr (wr.alloc (.cells (cellsB (fourL e)).toArray U8)) := (Below.refl _ _).alloc (Nat.le_refl _) _
          have HA1 := Lib.hid (HB7.out.trans (ha1.mono HB7.out.size))
          have HP1 := Lib.hid (own_later HO.out ha1)
          have HY1 := Lib.hid (four_src wr e)
          clear ha1
          go_upto_region 9 with (at_builtin; (refine wp_append_row rfl (.tmp 25) (.tmp 29) 36 rfl wr0.heap.size U8 (.int .u8 0) 1 1 Try.underlying36 info_u8b rfl (by decide) (by decide) (.slice av m0 cv) m0 (cellsB X0) rfl HP1.out (some ⟨wr.heap.size, 0, none⟩) 2 4 (cellsB [e % 256, e / 256]) rfl rfl HY1.out (cellsB_one _) (fun h => by cases h) (by omega) HA1.out.size ?_; intro a1 c1 W1 hown hgrow; have HO1 := Lib.hid hown; have HB1 : Hid (Below wr0.heap.size wr0 W1) := HA1.out.grown hgrow HA1.out.size (fun q hq => (own_lt HP1.out hq).1); clear hown hgrow))
          clear hcut x0 x1 HA1 HP1 HY1 HO HB7
          obtain ⟨x0, x1⟩ := HX1.out _ HB1.out
          go_wp2_with fail
          refine (HCc.out W1).mono ?_
          rintro e' w' ⟨rfl, rfl⟩
          have hcut := fun V => cut_h2 W1.heap.size 4 4 (by decide) (by decide) V
          have ha1 : Below W1.heap.size W1 (W1.alloc (.cells (cellsB (fourL c)).toArray U8)) := (Below.refl _ _).alloc (Nat.le_refl _) _
          have HA1 := Lib.hid (HB1.out.trans (ha1.mono HB1.out.size))
          have HP1 := Lib.hid (own_later HO1.out ha1)
          have HY1 := Lib.hid (four_src W1 c)
          clear ha1
          go_upto_region 10 with (at_builtin; refine wp_append_row rfl (.tmp 31) (.tmp 35) 36 rfl wr0.heap.size U8 (.int .u8 0) 1 1 Try.underlying36 info_u8b rfl (by decide) (by decide) (.slice a1 (m0 + 2) c1) (m0 + 2) (cellsB X0 ++ cellsB [e % 256, e / 256]) rfl HP1.out (some ⟨W1.heap.size, 0, none⟩) 2 4 (cellsB [c % 256, c / 256]) rfl rfl HY1.out (cellsB_one _) (fun h => by cases h) (by omega) HA1.out.size ?_; intro a2 c2 W2 hown hgrow; have HO2 := Lib.hid hown; have HB2 : Hid (Below wr0.heap.size wr0 W2) := HA1.out.grown hgrow HA1.out.size (fun q hq => (own_lt HP1.out hq).1); clear hown hgrow)
          clear hcut x0 x1 HA1 HP1 HY1 HO1 HB1
          have ha1 : Below W2.heap.size W2 (W2.alloc (.cells #[.int .u8 (k : Int)] U8)) := (Below.refl _ _).alloc (Nat.le_refl _) _
          have HA1 := Lib.hid (HB2.out.trans (ha1.mono HB2.out.size))
          have HP1 := Lib.hid (own_later HO2.out ha1)
          have HY1 : Hid (∀ ad, some (⟨W2.heap.size, 0, none⟩ : Addr) = some ad → ∀ j u, (cellsB [k])[j]? = some u → (W2.alloc (.cells #[.int .u8 (k : Int)] U8)).cell? (ad.add j) = some u) := fun ad had j u hj => by
            cases had; rw [Addr.add_lit, Nat.zero_add, (blo_laid W2 U8 #[.int .u8 (k : Int)]).cell, ← hj]; simp [cellsB]
          clear ha1
          go_upto_region 11 with (at_builtin; refine wp_append_row rfl (.tmp 37) (.tmp 40) 36 rfl wr0.heap.size U8 (.int .u8 0) 1 1 Try.underlying36 info_u8b rfl (by decide) (by decide) (.slice a2 (m0 + 2 + 2) c2) (m0 + 2 + 2) (cellsB X0 ++ cellsB [e % 256, e / 256] ++ cellsB [c % 256, c / 256]) rfl HP1.out (some ⟨W2.heap.size, 0, none⟩) 1 1 (cellsB [k]) rfl rfl HY1.out (cellsB_one _) (fun h => by cases h) (by omega) HA1.out.size ?_; intro a3 c3 W3 hown hgrow; have HO3 := Lib.hid hown; have HB3 : Hid (Below wr0.heap.size wr0 W3) := HA1.out.grown hgrow HA1.out.size (fun q hq => (own_lt HP1.out hq).1); clear hown hgrow)
          clear HA1 HP1 HY1 HO2 HB2 hkm
          obtain ⟨lo, hlo⟩ : ∃ lo, 11 * k = lo := ⟨_, rfl⟩
          have hlo2 : lo ≤ 33 := by omega
          have hloi : 11 * (k : Int) = (lo : Int) := by omega
          have hcut := fun V => cut_part gw cv9 lo (by omega) HCw.out.1 HCw.out.2 V
          have HY1 : Hid (∀ ad, some (⟨gw, lo, none⟩ : Addr) = some ad → ∀ j u, (cellsB (((padL n f 40).drop lo).take 11))[j]? = some u → W3.cell? (ad.add j) = some u) := fun ad had j u hj => by
            cases had
            have hjl : j < 11 := by
              have := (List.getElem?_eq_some_iff.1 hj).1
              rw [cellsB_length, List.length_take] at this; omega
            rw [Addr.add_lit, HSrc.out W3 HB3.out (lo + j) (by omega), ← hj, cellsB_get _ _ (by rw [List.length_take, List.length_drop, pad_length]; omega)]
            rw [List.getD_eq_getElem?_getD, List.getD_eq_getElem?_getD, List.getElem?_take_of_lt hjl, List.getElem?_drop]
          have HYl : Hid ((cellsB (((padL n f 40).drop lo).take 11)).length = 11 * 1) := by
            show (cellsB (((padL n f 40).drop lo).take 11)).length = 11 * 1
            rw [cellsB_length, List.length_take, List.length_drop, pad_length]; omega
          have HLo := Lib.hid hlo
          clear hlo
          go_wp2_with (at_builtin; refine wp_append_row rfl (.tmp 42) (.tmp 49) 36 rfl wr0.heap.size U8 (.int .u8 0) 1 1 Try.underlying36 info_u8b rfl (by decide) (by decide) (.slice a3 (m0 + 2 + 2 + 1) c3) (m0 + 2 + 2 + 1) (cellsB X0 ++ cellsB [e % 256, e / 256] ++ cellsB [c % 256, c / 256] ++ cellsB [k]) rfl HO3.out (some ⟨gw, lo, none⟩) 11 (cv9 - lo) (cellsB (((padL n f 40).drop lo).take 11)) rfl HYl.out HY1.out (cellsB_one _) (fun h => by cases h) (by omega) HB3.out.size ?_; intro a4 c4 W4 hown hgrow; have HO4 := Lib.hid hown; have HB4 : Hid (Below wr0.heap.size wr0 W4) := HB3.out.grown hgrow HB3.out.size (fun q hq => (own_lt HO3.out hq).1); clear hown hgrow)
          clear hcut hloi HY1 HYl HO3 HB3
          have HO9 : Hid (W4.ownsRow wr0.heap.size U8 1 (.slice a4 (m0 + 2 + 2 + 1 + 11) c4) (m0 + 2 + 2 + 1 + 11) (cellsB ((L64 (encB e c n f)).take (m0 + 2 + 2 + 1 + 11)))) := by
            have h := HO4.out
            have e1 : cellsB X0 ++ cellsB [e % 256, e / 256] ++ cellsB [c % 256, c / 256] ++ cellsB [k] ++ cellsB (((padL n f 40).drop lo).take 11) = cellsB ((L64 (encB e c n f)).take (16 * (k + 1))) := by
              rw [← enc_step e c n f k HKn.out, HM0.out, HX0.out, HLo.out]
              simp only [cellsB, List.map_append]
            rw [e1] at h
            rw [show (L64 (encB e c n f)).take (m0 + 2 + 2 + 1 + 11) = (L64 (encB e c n f)).take (16 * (k + 1)) by rw [show m0 + 2 + 2 + 1 + 11 = 16 * (k + 1) by have := HM0.out; omega]]
            exact h
          clear HO4
          go_roundw
          case rel => exact ⟨k + 1, m0 + 2 + 2 + 1 + 11, HKn.out, by have := HM0.out; omega, by simp, HO9.out, HB4.out⟩
          case measure => simp [intOf]; have := HKn.out; omega
        · have hke : k = 4 := by omega
          obtain rfl : m0 = 64 := by have := HM0.out; omega
          subst hke
          have k1 : ¬ ((4 : Nat) : Int) < 4 := by decide
          have hO : wr.ownsRow wr0.heap.size U8 1 (.slice av 64 cv) 64 (cellsB (L64 (encB e c n f))) := by
            have h := HO.out
            rw [List.take_of_length_le (by rw [L64_length]; decide)] at h
            exact h
          have hby : Bytes wr av (L64 (encB e c n f)) := by
            refine ⟨HEb.out, by rw [L64_length]; decide, fun _ => ?_⟩
            rcases id hO.2 with ⟨h1, h0⟩ | ⟨g, cc, cur, h1, _⟩
            · cases h0
            · cases h1
              exact ⟨g, 0, rfl, fun j hj => by rw [Nat.zero_add, hO.cellAt j (by rw [L64_length] at hj; exact hj), cellsB_get _ _ hj]⟩
          have hcv := run_str wr 36 9 U8 Try.underlying36 Try.underlying5 Try.underlying9 (L64 (encB e c n f)) av 64 cv (L64_length _).symm hby
          clear hO hby HO
          go_wp2
          go_ret
          exact ⟨rfl, HB.out.trans (HB7.out.mono HB.out.size)⟩
end Go.Proofs.Ytmkhliabmodbdaa
