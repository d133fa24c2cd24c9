/-
  strings.ContainsAny of any string at its two bad bytes: whatever runes stand in it.
-/
import Derived.Test.YtagigeacjendiaaMem
import Derived.Test.YtagigeacjendiaaRunes
import Derived.Test.YtagigeacjendiaaShelf
import Derived.Test.YtagigeacjendiaaRows
import Derived.Lib.OthersKept
import Derived.Lib.IndexAny
import Derived.Deep.LoopGhost
import Derived.Deep.QuietTactic
import Derived.BigQuiet
import Derived.WalkMore
import Derived.Deep.DeepMust
namespace Go.Proofs.Ytagigeacjendiaa
open Go.RowKit

theorem bdrN {B : Nat} {a w : World} (h : Below B a w) (q : Nat) : Below B a (w.drewN q) := ⟨h.os, h.tape, h.output, h.size, h.block⟩
abbrev nulSl : ByteArray := ⟨#[0, 47]⟩
theorem enc_big (R : Nat) (h : 128 ≤ R) : (∃ x y : UInt8, Utf8.encode (R : Int) = ⟨#[x, y]⟩ ∧ 128 ≤ y.toNat) ∨ (∃ x y z : UInt8, Utf8.encode (R : Int) = ⟨#[x, y, z]⟩) ∨ (∃ x y z u : UInt8, Utf8.encode (R : Int) = ⟨#[x, y, z, u]⟩) := by
  have hc : 128 ≤ (if Utf8.valid (R : Int) then (R : Int).toNat else Utf8.runeError) := by
    split
    · omega
    · decide
  unfold Utf8.encode
  generalize (if Utf8.valid (R : Int) then (R : Int).toNat else Utf8.runeError) = c at hc ⊢
  simp only [show ¬ c < 128 by omega, if_false]
  split
  · exact .inl ⟨_, _, rfl, by simp only [UInt8.toNat_ofNat']; omega⟩
  · split
    · exact .inr (.inl ⟨_, _, _, rfl⟩)
    · exact .inr (.inr ⟨_, _, _, _, rfl⟩)
theorem valid_rune (R : Nat) (h : 128 ≤ R) (h1 : R < 55296 ∨ 57344 ≤ R) (h2 : R ≤ 1114111) : Lib.validRune (R : Int) = true := by
  unfold Lib.validRune; simp; omega
set_option maxRecDepth 100000 in
set_option maxHeartbeats 4000000 in
theorem indexRune_err (w : World) : Calls Try.prog 39 #[.string nulSl, .int .i32 65533] w fun e w' => e = .returned (.int .i64 (-1)) ∧ Below w.heap.size w w' := by
  have HB : ∀ p, Below w.heap.size w (w.iter nulSl p) := fun p => (Below.refl _ w).alloc (Nat.le_refl _) _
  have HBe := Lib.hid (HB 2)
  clear HB
  have n0 := fun ty => run_next_ascii (P := Try.prog) w nulSl 0 ty (by decide) (by decide)
  have n1 := fun ty => run_next_ascii (P := Try.prog) w nulSl 1 ty (by decide) (by decide)
  have n2 := fun ty => run_next_end (P := Try.prog) w nulSl 2 ty (by decide)
  rw [show ((nulSl[0]'(by decide)).toNat) = 0 from rfl] at n0
  rw [show ((nulSl[1]'(by decide)).toNat) = 47 from rfl] at n1
  go_enter Try.func39, Try.ntmps39
  go_wp2_with fail
  refine wp_loop_rounds 3 ?_
  rw [rounds_succ]
  go_wp2_with fail
  rw [rounds_succ]
  go_wp2_with fail
  rw [rounds_succ]
  go_wp2_with fail
  go_ret
  exact ⟨rfl, HBe.out⟩
set_option maxRecDepth 100000 in
set_option maxHeartbeats 8000000 in
theorem indexRune_far (R : Nat) (w : World) (h : 128 ≤ R) (h1 : R < 55296 ∨ 57344 ≤ R) (h2 : R ≤ 1114111) : Calls Try.prog 39 #[.string nulSl, .int .i32 (R : Int)] w fun e w' => e = .returned (.int .i64 (-1)) ∧ Below w.heap.size w w' := by
  by_cases he : R = 65533
  · subst he; exact indexRune_err w
  · have hv := valid_rune R h h1 h2
    have b1 : ¬ (R : Int) < 128 := by omega
    have b2 : ((R : Int) == 65533) = false := beq_eq_false_iff_ne.2 (by omega)
    have b3 : (0 : Int) ≤ R := by omega
    have hcv : ∀ W, (convert 21 9 (.int .i32 (R : Int))).run Try.prog W = .ok (.string (Utf8.encode (R : Int))) W := fun W => by
      simp [convert, run_underlying Try.underlying21, run_underlying Try.underlying9, Conv.intToString]
    have hE := enc_big R h
    have HBe := Lib.hid (Below.refl w.heap.size w)
    generalize Utf8.encode (R : Int) = E at *
    rcases hE with ⟨x, y, rfl, hy⟩ | ⟨x, y, z, rfl⟩ | ⟨x, y, z, u, rfl⟩
    · have b4 : (((47 : Nat) : Int) != (y.toNat : Int)) = true := by simp; omega
      clear h h1 h2 he
      go_enter Try.func39, Try.ntmps39
      go_wp2_with (go_at_call 46; refine (Try.utf8_ValidRune _ _).mono ?_; rintro e w' ⟨rfl, hw⟩; rw [hw, hv])
      go_step3
      go_wp2_with fail
      refine wp_loop_rounds 1 ?_
      rw [rounds_succ]
      go_wp2_with fail
      go_step3
      go_wp2_with fail
      go_quiet (fail)
      rename_i K1 a1 K2 a2 K3 a3
      refine a3 _ _ ?_
      clear a1 a2 a3
      have i1 : ∀ h, (nulSl[1]'h).toNat = 47 := fun _ => rfl
      have i2 : ∀ h, ((⟨#[x, y]⟩ : ByteArray)[1]'h) = y := fun _ => rfl
      rw [i1, i2, b4]
      clear i1 i2 b4
      have HBe2 : Hid (Below w.heap.size w (w.drewN nq)) := Lib.hid (bdrN (Below.refl _ _) nq)
      clear hw HBe
      generalize w.drewN nq = w1 at *
      go_wp2_with fail
      refine wp_region_quiet_lit (by kernel_rfl) (by kernel_rfl) ?_
      repeat (go_big_quiet_step ((go_at_call 45; go_must (exact Calls.quiet_of_same (Try.strings_IndexByte _ _ _)))))
      refine wpQuiet_nil ?_
      rintro _ ⟨q2, rfl⟩
      rename_i K4 a4
      refine a4 _ _ ?_
      clear a4
      have i3 : ∀ c, Lib.indexByte (ByteArray.data ByteArray.empty).toList c = -1 := fun _ => rfl
      rw [i3]
      clear i3
      go_wp2_with fail
      rw [Exit.noGoto_ret]
      simp only [Exit.inBlock, Exit.then]
      rw [Exit.noGoto_ret]
      go_ret
      exact ⟨rfl, bdrN HBe2.out q2⟩
    all_goals
      clear h h1 h2 he
      go_enter Try.func39, Try.ntmps39
      go_wp2_with (go_at_call 46; refine (Try.utf8_ValidRune _ _).mono ?_; rintro e w' ⟨rfl, hw⟩; rw [hw, hv])
      go_step3
      go_wp2_with fail
      refine wp_loop_rounds 1 ?_
      rw [rounds_succ]
      go_wp2_with fail
      rw [Exit.noGoto_ret]
      go_ret
      exact ⟨rfl, HBe.out⟩
/-! IndexAny of at most eight bytes. -/
theorem byte_at (s : ByteArray) (j : Nat) (h : j < s.size) : s.data.toList[j]? = some (s.get! j) := by
  rw [Lib.data_getElem? s j h]
  congr 1
  simp [ByteArray.get!, getElem!_pos, h]
  rfl
theorem noAny_run {s : ByteArray} {pos K : Nat} (h : Lib.NoAny s.data.toList [0, 47] pos) (hp : pos + K ≤ s.size) (hb : ∀ j, pos ≤ j → j < pos + K → 128 ≤ byteAt s j) : Lib.NoAny s.data.toList [0, 47] (pos + K) := fun j b hj hx => by
  rcases Nat.lt_or_ge j pos with h1 | h1
  · exact h j b h1 hx
  · rw [byte_at s j (by omega)] at hx
    cases hx
    have h2 := hb j h1 hj
    unfold byteAt at h2
    have e1 : ¬ s.get! j = 0 := fun e => by rw [e] at h2; exact absurd h2 (by decide)
    have e2 : ¬ s.get! j = 47 := fun e => by rw [e] at h2; exact absurd h2 (by decide)
    show ([0, 47] : List UInt8).contains (s.get! j) = false
    simp [e1, e2]
set_option maxRecDepth 100000 in
set_option maxHeartbeats 8000000 in
theorem indexAny_short (s : ByteArray) (w : World) (h8 : s.size ≤ 8) :
    Calls Try.prog 34 #[.string s, .string nulSl] w fun e w' => e = .returned (.int .i64 (Lib.indexAny s.data.toList [0, 47])) ∧ Below w.heap.size w w' := by
  have h8z : decide ((8 : Int) < (s.size : Int)) = false := decide_eq_false (by omega)
  have HB0 := Lib.hid (Below.refl w.heap.size w)
  go_enter Try.func34, Try.ntmps34
  go_wp2_with (go_at_call 40; refine (Try.strings_shouldUseASCIISet _ _).mono ?_; rintro e w' ⟨rfl, hw⟩; rw [hw, h8z])
  clear h8z
  go_loopg [9, 10] s.size (fun g _ _ wx => ∃ pos : Nat, s.size ≤ pos + g ∧ pos ≤ s.size ∧ wx.heap[w.heap.size]? = some (.stringIter s pos) ∧ Below w.heap.size w wx ∧ Lib.NoAny s.data.toList [0, 47] pos)
  case atStart => exact ⟨0, by omega, Nat.zero_le _, World.iter_heap w s 0, HB0.out.alloc (Nat.le_refl _) _, Lib.NoAny.zero _ _⟩
  case round =>
    obtain ⟨pos, hfu, hps, hit, hbw, hno⟩ := hrel
    have HN := Lib.hid hno
    have HBw := Lib.hid hbw
    clear hno hbw
    by_cases hlt : pos < s.size
    · obtain ⟨g', rfl⟩ : ∃ g', gk = g' + 1 := ⟨gk - 1, by omega⟩
      have hnx : ∀ ty, (Instr.next (.pointer (some ⟨w.heap.size, 0, none⟩)) true ty).run Try.prog wr = _ := fun ty => Lib.run_next_any_at wr w.heap.size s pos ty hit hlt
      rcases rune_at s pos hlt with ⟨hb, hd⟩ | ⟨R, K, hd, hR1, hR2, hR3, hK, hpk, hbs⟩
      · rw [hd] at hnx
        have HI := Lib.hid (Lib.iterAt_heap wr w.heap.size s pos (pos + 1) hit)
        have HB2 := Lib.hid (Lib.below_iterAt HBw.out (k := w.heap.size) (Nat.le_refl _) s (pos + 1))
        have HX := Lib.hid (byte_at s pos hlt)
        have hc := Lib.contains_iff_indexByte [0, 47] (s.get! pos)
        have hback : ((byteAt s pos : Int)).toNat.toUInt8 = s.get! pos := by unfold byteAt; simp
        have HC : Hid (∀ b, ([0, 47] : List UInt8).contains (s.get! pos) = b → ([0, 47] : List UInt8).contains (s.get! pos) = b) := fun b h => h
        clear hit hd
        generalize byteAt s pos = B at *
        cases hin : ([0, 47] : List UInt8).contains (s.get! pos)
        · rw [hin] at hc
          have hneg : ¬ ((0 : Int) ≤ Lib.indexByte [0, 47] (s.get! pos)) := of_decide_eq_false hc.symm
          have HIn := Lib.hid hin
          clear hc hin HC
          go_wp2_with (go_at_call 39; refine (Try.strings_IndexRune_ascii _ _ _ (by omega) (by omega)).mono ?_; rintro e w' ⟨rfl, hw⟩; rw [hw, hback])
          go_roundg g'
          case measure => omega
          case rel => exact ⟨pos + 1, by omega, hlt, HI.out, HB2.out, HN.out.succ HX.out HIn.out⟩
        · rw [hin] at hc
          have hpos : (0 : Int) ≤ Lib.indexByte [0, 47] (s.get! pos) := of_decide_eq_true hc.symm
          have HIn := Lib.hid hin
          clear hc hin HC
          go_wp2_with (go_at_call 39; refine (Try.strings_IndexRune_ascii _ _ _ (by omega) (by omega)).mono ?_; rintro e w' ⟨rfl, hw⟩; rw [hw, hback])
          go_ret
          exact ⟨by rw [Lib.indexAny_hit HN.out HX.out HIn.out]; rfl, HB2.out⟩
      · rw [hd] at hnx
        have HI := Lib.hid (Lib.iterAt_heap wr w.heap.size s pos (pos + K) hit)
        have HB2 := Lib.hid (Lib.below_iterAt HBw.out (k := w.heap.size) (Nat.le_refl _) s (pos + K))
        have HN2 := Lib.hid (noAny_run HN.out hpk hbs)
        have hlts : w.heap.size < (wr.iterAt w.heap.size s (pos + K)).heap.size := (Array.getElem?_eq_some_iff.1 HI.out).1
        clear hit hd hbs
        generalize wr.iterAt w.heap.size s (pos + K) = w2 at *
        go_wp2_with (go_at_call 39; refine (indexRune_far R _ hR1 hR2 hR3).mono ?_; rintro e w' ⟨rfl, hb3⟩; have HB3 := Lib.hid hb3; clear hb3)
        go_roundg g'
        case measure => omega
        case rel => exact ⟨pos + K, by omega, hpk, (HB3.out.block _ hlts).trans HI.out, HB2.out.trans (HB3.out.mono (Nat.le_of_lt hlts)), HN2.out⟩
    · obtain rfl : pos = s.size := by omega
      have hnx := fun ty => Lib.run_next_end_at (P := Try.prog) wr w.heap.size s s.size ty hit hlt
      clear hit
      go_wp2_with fail
      go_ret
      exact ⟨by rw [Lib.indexAny_none (by rw [← Lib.size_eq]; exact HN.out)]; rfl, HBw.out⟩
theorem zv_set : ∀ w, (zeroValue 83).run Try.prog w = .ok (.agg (Array.replicate 256 (.bool false))) w := (zero_of_info (P := Try.prog) (t := 83) (n := 256) (by kernel_rfl)).1
theorem nul_ascii : ∀ (j : Nat) b, nulSl.data.toList[j]? = some b → b.toNat < 128 := fun j b h => by
  match j, h with
  | 0, h => cases h; decide
  | 1, h => cases h; decide
  | j + 2, h => simp at h
theorem indexAny_nul (s : ByteArray) (w : World) (hs : s.size < 4294967281) :
    Calls Try.prog 34 #[.string s, .string nulSl] w fun e w' => e = .returned (.int .i64 (Lib.indexAny s.data.toList [0, 47])) ∧ Below w.heap.size w w' := by
  by_cases h8 : s.size ≤ 8
  · exact indexAny_short s w h8
  · exact (Try.strings_IndexAny_long zv_set s nulSl w (by decide) (by omega) hs (by decide) nul_ascii).mono fun e w' ⟨h1, h2⟩ => ⟨h1, by
      rw [h2]
      exact ((Below.refl _ _).alloc (Nat.le_refl _) _).alloc (by simp) _⟩
/-- Is there a byte 0 or 47? -/
def badB (s : ByteArray) : Bool := Lib.containsAny s.data.toList [0, 47]
set_option maxHeartbeats 1000000 in
theorem containsAny_nul (s : ByteArray) (w : World) (hs : s.size < 4294967281) :
    Calls Try.prog 31 #[.string s, .string nulSl] w fun e w' => e = .returned (.bool (badB s)) ∧ Below w.heap.size w w' := by
  have HE : Hid (decide (0 ≤ Lib.indexAny s.data.toList [0, 47]) = badB s) := rfl
  have HA := Lib.hid (indexAny_nul s w hs)
  generalize Lib.indexAny s.data.toList [0, 47] = ix at *
  generalize badB s = bb at *
  go_enter Try.func31, Try.ntmps31
  go_wp2_with (go_at_call 34; refine HA.out.mono ?_; rintro e w' ⟨rfl, hw⟩)
  go_ret
  exact ⟨by rw [← HE.out]; rfl, hw⟩
end Go.Proofs.Ytagigeacjendiaa
