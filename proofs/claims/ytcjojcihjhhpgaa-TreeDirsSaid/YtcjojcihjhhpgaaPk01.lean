/-
  Runes · NmAny · NmName · NaMath · Row · NaStr · NaSplit · NaParent · NaWit: these texts in one.
-/
import Derived.Lib.DecodeN
import Derived.Lib.RuneCount
import Derived.Test.YtcjojcihjhhpgaaPk00
import Derived.Test.YtcjojcihjhhpgaaShelf
import Derived.Test.YtcjojcihjhhpgaaRows
import Derived.Lib.OthersKept
import Derived.Lib.IndexAny
import Derived.Deep.LoopGhost
import Derived.Deep.QuietTactic
import Derived.BigQuiet
import Derived.WalkMore
import Derived.Deep.DeepMust
import Derived.Lib.FieldsP
import Derived.Lib.Join
import Derived.Lib.RabinKarpLaws
import Derived.Laws.AppendOwnNone
import Derived.OwnWalk
import Derived.Maps.AppendAt
import Derived.RegionTactic
import Derived.Deep.RegionHeld
import Derived.Deep.DeepCutAuto
/-
  Runes of a string of bytes: a byte below 128, or a rune from 128 on whose bytes are all from 128 on.
-/
namespace Go.Proofs.Ytcjojcihjhhpgaa
open Go.RowKit Go.Lib

set_option maxRecDepth 100000 in
set_option maxHeartbeats 2000000 in
theorem decodeN_rune (n b0 b1 b2 b3 : Nat) (hn : 1 ≤ n) (h0 : b0 < 256) (h1 : b1 < 256) (h2 : b2 < 256) (h3 : b3 < 256) :
    (b0 < 128 ∧ decodeN n b0 b1 b2 b3 = (b0, 1)) ∨
    (∃ R K, decodeN n b0 b1 b2 b3 = (R, K) ∧ 128 ≤ b0 ∧ 128 ≤ R ∧ (R < 55296 ∨ 57344 ≤ R) ∧ R ≤ 1114111 ∧ 1 ≤ K ∧ K ≤ n ∧ K ≤ 4 ∧ (1 < K → 128 ≤ b1) ∧ (2 < K → 128 ≤ b2) ∧ (3 < K → 128 ≤ b3)) := by
  unfold decodeN
  repeat' split
  all_goals first
    | (left; exact ⟨by assumption, rfl⟩)
    | (right; exact ⟨_, _, rfl, by omega, by omega, by omega, by omega, by omega, by omega, by omega, by omega, by omega, by omega⟩)
def byteAt (s : ByteArray) (i : Nat) : Nat := (s.get! i).toNat
theorem byteAt_lt (s : ByteArray) (i : Nat) : byteAt s i < 256 := UInt8.toNat_lt _
theorem rune_at (s : ByteArray) (pos : Nat) (h : pos < s.size) :
    (byteAt s pos < 128 ∧ Utf8.decode s pos = (byteAt s pos, 1)) ∨
    (∃ R K, Utf8.decode s pos = (R, K) ∧ 128 ≤ R ∧ (R < 55296 ∨ 57344 ≤ R) ∧ R ≤ 1114111 ∧ 1 ≤ K ∧ pos + K ≤ s.size ∧ ∀ j, pos ≤ j → j < pos + K → 128 ≤ byteAt s j) := by
  rw [decode_at]
  rcases decodeN_rune (s.size - pos) (byteAt s pos) (byteAt s (pos + 1)) (byteAt s (pos + 2)) (byteAt s (pos + 3)) (by omega) (byteAt_lt _ _) (byteAt_lt _ _) (byteAt_lt _ _) (byteAt_lt _ _) with h1 | ⟨R, K, he, hb0, h1, h2, h3, h4, h5, h6, h7, h8, h9⟩
  · exact .inl h1
  · refine .inr ⟨R, K, he, h1, h2, h3, h4, by omega, fun j hj hk => ?_⟩
    have : j = pos ∨ j = pos + 1 ∨ j = pos + 2 ∨ j = pos + 3 := by omega
    rcases this with rfl | rfl | rfl | rfl
    · exact hb0
    · exact h7 (by omega)
    · exact h8 (by omega)
    · exact h9 (by omega)
end Go.Proofs.Ytcjojcihjhhpgaa
/-
  strings.ContainsAny of any string at its two bad bytes: whatever runes stand in it.
-/
namespace Go.Proofs.Ytcjojcihjhhpgaa
open Go.RowKit

theorem bdrN {B : Nat} {a w : World} (h : Below B a w) (q : Nat) : Below B a (w.drewN q) := ⟨h.os, h.tape, h.output, h.size, h.block⟩
abbrev nulSl : ByteArray := ⟨#[0, 47]⟩
theorem enc_big (R : Nat) (h : 128 ≤ R) : (∃ x y : UInt8, Utf8.encode (R : Int) = ⟨#[x, y]⟩ ∧ 128 ≤ y.toNat) ∨ (∃ x y z : UInt8, Utf8.encode (R : Int) = ⟨#[x, y, z]⟩) ∨ (∃ x y z u : UInt8, Utf8.encode (R : Int) = ⟨#[x, y, z, u]⟩) := by
  have hc : 128 ≤ (if Utf8.valid (R : Int) then (R : Int).toNat else Utf8.runeError) := by
    split
    · omega
    · decide
  unfold Utf8.encode
  generalize (if Utf8.valid (R : Int) then (R : Int).toNat else Utf8.runeError) = c at hc ⊢
  simp only [show ¬ c < 128 by omega, if_false]
  split
  · exact .inl ⟨_, _, rfl, by simp only [UInt8.toNat_ofNat']; omega⟩
  · split
    · exact .inr (.inl ⟨_, _, _, rfl⟩)
    · exact .inr (.inr ⟨_, _, _, _, rfl⟩)
theorem valid_rune (R : Nat) (h : 128 ≤ R) (h1 : R < 55296 ∨ 57344 ≤ R) (h2 : R ≤ 1114111) : Lib.validRune (R : Int) = true := by
  unfold Lib.validRune; simp; omega
set_option maxRecDepth 100000 in
set_option maxHeartbeats 4000000 in
theorem indexRune_err (w : World) : Calls Try.prog 94 #[.string nulSl, .int .i32 65533] w fun e w' => e = .returned (.int .i64 (-1)) ∧ Below w.heap.size w w' := by
  have HB : ∀ p, Below w.heap.size w (w.iter nulSl p) := fun p => (Below.refl _ w).alloc (Nat.le_refl _) _
  have HBe := Lib.hid (HB 2)
  clear HB
  have n0 := fun ty => run_next_ascii (P := Try.prog) w nulSl 0 ty (by decide) (by decide)
  have n1 := fun ty => run_next_ascii (P := Try.prog) w nulSl 1 ty (by decide) (by decide)
  have n2 := fun ty => run_next_end (P := Try.prog) w nulSl 2 ty (by decide)
  rw [show ((nulSl[0]'(by decide)).toNat) = 0 from rfl] at n0
  rw [show ((nulSl[1]'(by decide)).toNat) = 47 from rfl] at n1
  go_enter Try.func94, Try.ntmps94
  go_wp2_with fail
  refine wp_loop_rounds 3 ?_
  rw [rounds_succ]
  go_wp2_with fail
  rw [rounds_succ]
  go_wp2_with fail
  rw [rounds_succ]
  go_wp2_with fail
  go_ret
  exact ⟨rfl, HBe.out⟩
set_option maxRecDepth 100000 in
set_option maxHeartbeats 8000000 in
theorem indexRune_far (R : Nat) (w : World) (h : 128 ≤ R) (h1 : R < 55296 ∨ 57344 ≤ R) (h2 : R ≤ 1114111) : Calls Try.prog 94 #[.string nulSl, .int .i32 (R : Int)] w fun e w' => e = .returned (.int .i64 (-1)) ∧ Below w.heap.size w w' := by
  by_cases he : R = 65533
  · subst he; exact indexRune_err w
  · have hv := valid_rune R h h1 h2
    have b1 : ¬ (R : Int) < 128 := by omega
    have b2 : ((R : Int) == 65533) = false := beq_eq_false_iff_ne.2 (by omega)
    have b3 : (0 : Int) ≤ R := by omega
    have hcv : ∀ W, (convert 21 9 (.int .i32 (R : Int))).run Try.prog W = .ok (.string (Utf8.encode (R : Int))) W := fun W => by
      simp [convert, run_underlying Try.underlying21, run_underlying Try.underlying9, Conv.intToString]
    have hE := enc_big R h
    have HBe := Lib.hid (Below.refl w.heap.size w)
    generalize Utf8.encode (R : Int) = E at *
    rcases hE with ⟨x, y, rfl, hy⟩ | ⟨x, y, z, rfl⟩ | ⟨x, y, z, u, rfl⟩
    · have b4 : (((47 : Nat) : Int) != (y.toNat : Int)) = true := by simp; omega
      clear h h1 h2 he
      go_enter Try.func94, Try.ntmps94
      go_wp2_with (go_at_call 99; refine (Try.utf8_ValidRune _ _).mono ?_; rintro e w' ⟨rfl, hw⟩; rw [hw, hv])
      go_step3
      go_wp2_with fail
      refine wp_loop_rounds 1 ?_
      rw [rounds_succ]
      go_wp2_with fail
      go_step3
      go_wp2_with fail
      go_quiet (fail)
      rename_i K1 a1 K2 a2 K3 a3
      refine a3 _ _ ?_
      clear a1 a2 a3
      have i1 : ∀ h, (nulSl[1]'h).toNat = 47 := fun _ => rfl
      have i2 : ∀ h, ((⟨#[x, y]⟩ : ByteArray)[1]'h) = y := fun _ => rfl
      rw [i1, i2, b4]
      clear i1 i2 b4
      have HBe2 : Hid (Below w.heap.size w (w.drewN nq)) := Lib.hid (bdrN (Below.refl _ _) nq)
      clear hw HBe
      generalize w.drewN nq = w1 at *
      go_wp2_with fail
      refine wp_region_quiet_lit (by kernel_rfl) (by kernel_rfl) ?_
      repeat (go_big_quiet_step ((go_at_call 98; go_must (exact Calls.quiet_of_same (Try.strings_IndexByte _ _ _)))))
      refine wpQuiet_nil ?_
      rintro _ ⟨q2, rfl⟩
      rename_i K4 a4
      refine a4 _ _ ?_
      clear a4
      have i3 : ∀ c, Lib.indexByte (ByteArray.data ByteArray.empty).toList c = -1 := fun _ => rfl
      rw [i3]
      clear i3
      go_wp2_with fail
      rw [Exit.noGoto_ret]
      simp only [Exit.inBlock, Exit.then]
      rw [Exit.noGoto_ret]
      go_ret
      exact ⟨rfl, bdrN HBe2.out q2⟩
    all_goals
      clear h h1 h2 he
      go_enter Try.func94, Try.ntmps94
      go_wp2_with (go_at_call 99; refine (Try.utf8_ValidRune _ _).mono ?_; rintro e w' ⟨rfl, hw⟩; rw [hw, hv])
      go_step3
      go_wp2_with fail
      refine wp_loop_rounds 1 ?_
      rw [rounds_succ]
      go_wp2_with fail
      rw [Exit.noGoto_ret]
      go_ret
      exact ⟨rfl, HBe.out⟩
/-! IndexAny of at most eight bytes. -/
theorem byte_at (s : ByteArray) (j : Nat) (h : j < s.size) : s.data.toList[j]? = some (s.get! j) := by
  rw [Lib.data_getElem? s j h]
  congr 1
  simp [ByteArray.get!, getElem!_pos, h]
  rfl
theorem noAny_run {s : ByteArray} {pos K : Nat} (h : Lib.NoAny s.data.toList [0, 47] pos) (hp : pos + K ≤ s.size) (hb : ∀ j, pos ≤ j → j < pos + K → 128 ≤ byteAt s j) : Lib.NoAny s.data.toList [0, 47] (pos + K) := fun j b hj hx => by
  rcases Nat.lt_or_ge j pos with h1 | h1
  · exact h j b h1 hx
  · rw [byte_at s j (by omega)] at hx
    cases hx
    have h2 := hb j h1 hj
    unfold byteAt at h2
    have e1 : ¬ s.get! j = 0 := fun e => by rw [e] at h2; exact absurd h2 (by decide)
    have e2 : ¬ s.get! j = 47 := fun e => by rw [e] at h2; exact absurd h2 (by decide)
    show ([0, 47] : List UInt8).contains (s.get! j) = false
    simp [e1, e2]
set_option maxRecDepth 100000 in
set_option maxHeartbeats 8000000 in
theorem indexAny_short (s : ByteArray) (w : World) (h8 : s.size ≤ 8) :
    Calls Try.prog 93 #[.string s, .string nulSl] w fun e w' => e = .returned (.int .i64 (Lib.indexAny s.data.toList [0, 47])) ∧ Below w.heap.size w w' := by
  have h8z : decide ((8 : Int) < (s.size : Int)) = false := decide_eq_false (by omega)
  have HB0 := Lib.hid (Below.refl w.heap.size w)
  go_enter Try.func93, Try.ntmps93
  go_wp2_with (go_at_call 95; refine (Try.strings_shouldUseASCIISet _ _).mono ?_; rintro e w' ⟨rfl, hw⟩; rw [hw, h8z])
  clear h8z
  go_loopg [9, 10] s.size (fun g _ _ wx => ∃ pos : Nat, s.size ≤ pos + g ∧ pos ≤ s.size ∧ wx.heap[w.heap.size]? = some (.stringIter s pos) ∧ Below w.heap.size w wx ∧ Lib.NoAny s.data.toList [0, 47] pos)
  case atStart => exact ⟨0, by omega, Nat.zero_le _, World.iter_heap w s 0, HB0.out.alloc (Nat.le_refl _) _, Lib.NoAny.zero _ _⟩
  case round =>
    obtain ⟨pos, hfu, hps, hit, hbw, hno⟩ := hrel
    have HN := Lib.hid hno
    have HBw := Lib.hid hbw
    clear hno hbw
    by_cases hlt : pos < s.size
    · obtain ⟨g', rfl⟩ : ∃ g', gk = g' + 1 := ⟨gk - 1, by omega⟩
      have hnx : ∀ ty, (Instr.next (.pointer (some ⟨w.heap.size, 0, none⟩)) true ty).run Try.prog wr = _ := fun ty => Lib.run_next_any_at wr w.heap.size s pos ty hit hlt
      rcases rune_at s pos hlt with ⟨hb, hd⟩ | ⟨R, K, hd, hR1, hR2, hR3, hK, hpk, hbs⟩
      · rw [hd] at hnx
        have HI := Lib.hid (Lib.iterAt_heap wr w.heap.size s pos (pos + 1) hit)
        have HB2 := Lib.hid (Lib.below_iterAt HBw.out (k := w.heap.size) (Nat.le_refl _) s (pos + 1))
        have HX := Lib.hid (byte_at s pos hlt)
        have hc := Lib.contains_iff_indexByte [0, 47] (s.get! pos)
        have hback : ((byteAt s pos : Int)).toNat.toUInt8 = s.get! pos := by unfold byteAt; simp
        have HC : Hid (∀ b, ([0, 47] : List UInt8).contains (s.get! pos) = b → ([0, 47] : List UInt8).contains (s.get! pos) = b) := fun b h => h
        clear hit hd
        generalize byteAt s pos = B at *
        cases hin : ([0, 47] : List UInt8).contains (s.get! pos)
        · rw [hin] at hc
          have hneg : ¬ ((0 : Int) ≤ Lib.indexByte [0, 47] (s.get! pos)) := of_decide_eq_false hc.symm
          have HIn := Lib.hid hin
          clear hc hin HC
          go_wp2_with (go_at_call 94; refine (Try.strings_IndexRune_ascii _ _ _ (by omega) (by omega)).mono ?_; rintro e w' ⟨rfl, hw⟩; rw [hw, hback])
          go_roundg g'
          case measure => omega
          case rel => exact ⟨pos + 1, by omega, hlt, HI.out, HB2.out, HN.out.succ HX.out HIn.out⟩
        · rw [hin] at hc
          have hpos : (0 : Int) ≤ Lib.indexByte [0, 47] (s.get! pos) := of_decide_eq_true hc.symm
          have HIn := Lib.hid hin
          clear hc hin HC
          go_wp2_with (go_at_call 94; refine (Try.strings_IndexRune_ascii _ _ _ (by omega) (by omega)).mono ?_; rintro e w' ⟨rfl, hw⟩; rw [hw, hback])
          go_ret
          exact ⟨by rw [Lib.indexAny_hit HN.out HX.out HIn.out]; rfl, HB2.out⟩
      · rw [hd] at hnx
        have HI := Lib.hid (Lib.iterAt_heap wr w.heap.size s pos (pos + K) hit)
        have HB2 := Lib.hid (Lib.below_iterAt HBw.out (k := w.heap.size) (Nat.le_refl _) s (pos + K))
        have HN2 := Lib.hid (noAny_run HN.out hpk hbs)
        have hlts : w.heap.size < (wr.iterAt w.heap.size s (pos + K)).heap.size := (Array.getElem?_eq_some_iff.1 HI.out).1
        clear hit hd hbs
        generalize wr.iterAt w.heap.size s (pos + K) = w2 at *
        go_wp2_with (go_at_call 94; refine (indexRune_far R _ hR1 hR2 hR3).mono ?_; rintro e w' ⟨rfl, hb3⟩; have HB3 := Lib.hid hb3; clear hb3)
        go_roundg g'
        case measure => omega
        case rel => exact ⟨pos + K, by omega, hpk, (HB3.out.block _ hlts).trans HI.out, HB2.out.trans (HB3.out.mono (Nat.le_of_lt hlts)), HN2.out⟩
    · obtain rfl : pos = s.size := by omega
      have hnx := fun ty => Lib.run_next_end_at (P := Try.prog) wr w.heap.size s s.size ty hit hlt
      clear hit
      go_wp2_with fail
      go_ret
      exact ⟨by rw [Lib.indexAny_none (by rw [← Lib.size_eq]; exact HN.out)]; rfl, HBw.out⟩
theorem zv_set : ∀ w, (zeroValue 147).run Try.prog w = .ok (.agg (Array.replicate 256 (.bool false))) w := (zero_of_info (P := Try.prog) (t := 147) (n := 256) (by kernel_rfl)).1
theorem nul_ascii : ∀ (j : Nat) b, nulSl.data.toList[j]? = some b → b.toNat < 128 := fun j b h => by
  match j, h with
  | 0, h => cases h; decide
  | 1, h => cases h; decide
  | j + 2, h => simp at h
theorem indexAny_nul (s : ByteArray) (w : World) (hs : s.size < 4294967281) :
    Calls Try.prog 93 #[.string s, .string nulSl] w fun e w' => e = .returned (.int .i64 (Lib.indexAny s.data.toList [0, 47])) ∧ Below w.heap.size w w' := by
  by_cases h8 : s.size ≤ 8
  · exact indexAny_short s w h8
  · exact (Try.strings_IndexAny_long zv_set s nulSl w (by decide) (by omega) hs (by decide) nul_ascii).mono fun e w' ⟨h1, h2⟩ => ⟨h1, by
      rw [h2]
      exact ((Below.refl _ _).alloc (Nat.le_refl _) _).alloc (by simp) _⟩
/-- Is there a byte 0 or 47? -/
def badB (s : ByteArray) : Bool := Lib.containsAny s.data.toList [0, 47]
set_option maxHeartbeats 1000000 in
theorem containsAny_nul (s : ByteArray) (w : World) (hs : s.size < 4294967281) :
    Calls Try.prog 92 #[.string s, .string nulSl] w fun e w' => e = .returned (.bool (badB s)) ∧ Below w.heap.size w w' := by
  have HE : Hid (decide (0 ≤ Lib.indexAny s.data.toList [0, 47]) = badB s) := rfl
  have HA := Lib.hid (indexAny_nul s w hs)
  generalize Lib.indexAny s.data.toList [0, 47] = ix at *
  generalize badB s = bb at *
  go_enter Try.func92, Try.ntmps92
  go_wp2_with (go_at_call 93; refine HA.out.mono ?_; rintro e w' ⟨rfl, hw⟩)
  go_ret
  exact ⟨by rw [← HE.out]; rfl, hw⟩
end Go.Proofs.Ytcjojcihjhhpgaa
/-
  Name, of the program and of the document, at any text.
-/
namespace Go.Proofs.Ytcjojcihjhhpgaa
open Go.RowKit

/-- What is wrong with a name. -/
def nmE (s : ByteArray) : Int := if 14 < s.size then 36 else if s = ⟨#[]⟩ ∨ s = ⟨#[46]⟩ ∨ s = ⟨#[46, 46]⟩ then 22 else if badB s = true then 22 else 0
theorem nmE_long {s : ByteArray} (h : 14 < s.size) : nmE s = 36 := by unfold nmE; rw [if_pos h]
theorem nmE_dots {s : ByteArray} (h : ¬ 14 < s.size) (h1 : s = ⟨#[]⟩ ∨ s = ⟨#[46]⟩ ∨ s = ⟨#[46, 46]⟩) : nmE s = 22 := by unfold nmE; rw [if_neg h, if_pos h1]
theorem nmE_bad {s : ByteArray} (h : ¬ 14 < s.size) (h2 : badB s = true) : nmE s = 22 := by unfold nmE; rw [if_neg h]; split <;> simp [h2]
theorem nmE_ok {s : ByteArray} (h : ¬ 14 < s.size) (h1 : ¬ (s = ⟨#[]⟩ ∨ s = ⟨#[46]⟩ ∨ s = ⟨#[46, 46]⟩)) (h2 : badB s = false) : nmE s = 0 := by unfold nmE; rw [if_neg h, if_neg h1, h2]; rfl
theorem bne_of {s : ByteArray} {l : List UInt8} (h : ¬ s = ⟨l.toArray⟩) : (s.toList == l) = false := by
  refine beq_eq_false_iff_ne.2 fun e => h ?_
  rw [Lib.toList_data] at e
  cases s with
  | mk d => cases d with
    | mk q => simp at e; rw [e]
set_option maxHeartbeats 4000000 in
theorem name_any (s : ByteArray) (w : World) : Calls Try.prog 90 #[.string s] w fun e w' => e = .returned (.int .i64 (nmE s)) ∧ Below w.heap.size w w' := by
  have HB := Lib.hid (Below.refl w.heap.size w)
  by_cases h1 : 14 < s.size
  · rw [nmE_long h1]
    have hl : (14 : Int) < (s.size : Int) := by omega
    go_enter Try.func90, Try.ntmps90
    go_wp2
    go_ret
    exact ⟨rfl, HB.out⟩
  · by_cases h2 : s = ⟨#[]⟩ ∨ s = ⟨#[46]⟩ ∨ s = ⟨#[46, 46]⟩
    · rw [nmE_dots h1 h2]
      rcases h2 with rfl | rfl | rfl
      all_goals
        go_enter Try.func90, Try.ntmps90
        go_wp2
        go_ret
        exact ⟨rfl, HB.out⟩
    · have hl : ¬ (14 : Int) < (s.size : Int) := by omega
      have HC := Lib.hid (containsAny_nul s w (by omega))
      have n0 : ¬ s = ⟨#[]⟩ := fun e => h2 (.inl e)
      have n1 : ¬ s = ⟨#[46]⟩ := fun e => h2 (.inr (.inl e))
      have n2 : ¬ s = ⟨#[46, 46]⟩ := fun e => h2 (.inr (.inr e))
      have m0 : ¬ s.toList = [] := fun e => absurd (bne_of (l := []) n0) (by rw [e]; decide)
      have m0' : s.toList.isEmpty = false := by cases h : s.toList with | nil => exact absurd h m0 | cons _ _ => rfl
      have m1 := bne_of (l := [46]) n1
      have m2 := bne_of (l := [46, 46]) n2
      have HE : Hid (nmE s = if badB s = true then 22 else 0) := by
        show nmE s = _
        unfold nmE; rw [if_neg h1, if_neg h2]
      clear h1 h2 n0 n1 n2
      cases hb : badB s
      · rw [hb] at HE HC
        have e := HE.out
        rw [if_neg (by decide)] at e
        rw [e]
        clear e HE hb
        go_enter Try.func90, Try.ntmps90
        go_wp2_with (go_at_call 92; refine HC.out.mono ?_; rintro e w' ⟨rfl, hw⟩)
        go_ret
        exact ⟨rfl, hw⟩
      · rw [hb] at HE HC
        have e := HE.out
        rw [if_pos rfl] at e
        rw [e]
        clear e HE hb
        go_enter Try.func90, Try.ntmps90
        go_wp2_with (go_at_call 92; refine HC.out.mono ?_; rintro e w' ⟨rfl, hw⟩)
        go_ret
        exact ⟨rfl, hw⟩
/-! The document's. -/
theorem badB_no {s : ByteArray} (h : Lib.NoAny s.data.toList [0, 47] s.data.toList.length) : badB s = false := by
  unfold badB Lib.containsAny; rw [Lib.indexAny_none h]; rfl
theorem badB_hit {s : ByteArray} {i : Nat} {x : UInt8} (h : Lib.NoAny s.data.toList [0, 47] i) (hx : s.data.toList[i]? = some x) (hc : ([0, 47] : List UInt8).contains x = true) : badB s = true := by
  unfold badB Lib.containsAny; rw [Lib.indexAny_hit h hx hc]; simp
set_option maxHeartbeats 4000000 in
theorem refName_any (s : ByteArray) (w : World) : Calls Try.prog 53 #[.string s] w fun e w' => e = .returned (.int .i64 (nmE s)) ∧ w = w' := by
  by_cases h1 : 14 < s.size
  · rw [nmE_long h1]
    have hl : (14 : Int) < (s.size : Int) := by omega
    go_enter Try.func53, Try.ntmps53
    go_wp2
    go_ret
    exact ⟨rfl, rfl⟩
  · by_cases h2 : s = ⟨#[]⟩ ∨ s = ⟨#[46]⟩ ∨ s = ⟨#[46, 46]⟩
    · rw [nmE_dots h1 h2]
      rcases h2 with rfl | rfl | rfl
      all_goals
        go_enter Try.func53, Try.ntmps53
        go_wp2
        go_ret
        exact ⟨rfl, rfl⟩
    · have hl : ¬ (14 : Int) < (s.size : Int) := by omega
      have hsz : s.size ≤ 14 := by omega
      have n0 : ¬ s = ⟨#[]⟩ := fun e => h2 (.inl e)
      have n1 : ¬ s = ⟨#[46]⟩ := fun e => h2 (.inr (.inl e))
      have n2 : ¬ s = ⟨#[46, 46]⟩ := fun e => h2 (.inr (.inr e))
      have m0 : ¬ s.toList = [] := fun e => absurd (bne_of (l := []) n0) (by rw [e]; decide)
      have m0' : s.toList.isEmpty = false := by cases h : s.toList with | nil => exact absurd h m0 | cons _ _ => rfl
      have m1 := bne_of (l := [46]) n1
      have m2 := bne_of (l := [46, 46]) n2
      have HY : Hid (badB s = true → nmE s = 22) := fun h => nmE_bad h1 h
      have HN : Hid (badB s = false → nmE s = 0) := fun h => nmE_ok h1 h2 h
      clear h1 h2 n0 n1 n2
      generalize nmE s = ans at *
      go_enter Try.func53, Try.ntmps53
      go_wp2
      go_loop [3] (fun i => ∃ k : Nat, k ≤ s.size ∧ i = .int .i64 k ∧ Lib.NoAny s.data.toList [0, 47] k) (fun i => s.size - (intOf i).toNat)
      case atStart => exact ⟨0, Nat.zero_le _, rfl, Lib.NoAny.zero _ _⟩
      case round =>
        obtain ⟨k, hk, rfl, hno⟩ := hrel
        have HNo := Lib.hid hno
        clear hno
        by_cases hlt : k < s.size
        · have HX := Lib.hid (byte_at s k hlt)
          have hg : s[k] = s.get! k := by
            simp [ByteArray.get!, getElem!_pos, hlt]
            rfl
          by_cases z0 : s.get! k = 0
          · have HA : Hid (ans = 22) := HY.out (badB_hit HNo.out HX.out (by rw [z0]; decide))
            have hv : s[k].toNat = 0 := by rw [hg, z0]; rfl
            clear hg z0 HX
            go_wp2
            go_ret
            exact ⟨by rw [HA.out]; rfl, rfl⟩
          · by_cases z1 : s.get! k = 47
            · have HA : Hid (ans = 22) := HY.out (badB_hit HNo.out HX.out (by rw [z1]; decide))
              have hv : s[k].toNat = 47 := by rw [hg, z1]; rfl
              clear hg z0 z1 HX
              go_wp2
              go_ret
              exact ⟨by rw [HA.out]; rfl, rfl⟩
            · have HN2 := Lib.hid (HNo.out.succ HX.out (by simp [z0, z1]))
              have hv0 : ((s[k].toNat : Int) == 0) = false := beq_eq_false_iff_ne.2 fun e => z0 (by rw [← hg]; exact UInt8.toNat_inj.1 (by simpa using e))
              have hv1 : ((s[k].toNat : Int) == 47) = false := beq_eq_false_iff_ne.2 fun e => z1 (by rw [← hg]; exact UInt8.toNat_inj.1 (by show _ = 47; omega))
              clear hg z0 z1 HX
              go_wp2
              go_round
              case rel => exact ⟨k + 1, hlt, by go_num, HN2.out⟩
              case measure => simp [intOf]; omega
        · obtain rfl : k = s.size := by omega
          have HA : Hid (ans = 0) := HN.out (badB_no (by rw [← Lib.size_eq]; exact HNo.out))
          go_wp2
          go_ret
          exact ⟨by rw [HA.out]; rfl, rfl⟩
end Go.Proofs.Ytcjojcihjhhpgaa
/-
  Paths in numbers: what stands between slashes.
-/
namespace Go.Proofs.Ytcjojcihjhhpgaa
open Go.RowKit

abbrev ba (l : List UInt8) : ByteArray := ⟨l.toArray⟩
theorem ba_data (l : List UInt8) : (ba l).data.toList = l := by simp [ba]
theorem ba_of (s : ByteArray) : ba s.data.toList = s := by cases s; simp [ba]
theorem ba_inj {l m : List UInt8} (h : ba l = ba m) : l = m := by
  have := congrArg (fun s : ByteArray => s.data.toList) h
  simpa using this
theorem str_ext {s t : ByteArray} (h : s.data.toList = t.data.toList) : s = t := by rw [← ba_of s, ← ba_of t, h]
/-- The texts between slashes (cur: what stands ahead). -/
def toks : List UInt8 → List UInt8 → List (List UInt8)
  | cur, [] => if cur = [] then [] else [cur]
  | cur, c :: l => if c = 47 then (if cur = [] then toks [] l else cur :: toks [] l) else toks (cur ++ [c]) l
theorem toks_run : ∀ (a l cur : List UInt8), (∀ c ∈ a, c ≠ 47) → toks cur (a ++ l) = toks (cur ++ a) l
  | [], l, cur, _ => by simp
  | c :: a, l, cur, h => by
    rw [List.cons_append, toks, if_neg (h c List.mem_cons_self), toks_run a l (cur ++ [c]) (fun x hx => h x (List.mem_cons_of_mem _ hx)), List.append_assoc]; rfl
theorem toks_slash (l : List UInt8) : toks [] (47 :: l) = toks [] l := by rw [toks, if_pos rfl, if_pos rfl]
theorem toks_end {cur : List UInt8} (h : cur ≠ []) (l : List UInt8) : toks cur (47 :: l) = cur :: toks [] l := by rw [toks, if_pos rfl, if_neg h]
theorem toks_nil {cur : List UInt8} (h : cur ≠ []) : toks cur [] = [cur] := by rw [toks, if_neg h]
def piece (L : List UInt8) (a b : Nat) : List UInt8 := (L.drop a).take (b - a)
theorem extract_list (s : ByteArray) (a b : Nat) : (s.extract a b).data.toList = piece s.data.toList a b := by
  have h := Go.Proofs.ext_win s a b
  rw [Lib.toList_data] at h
  exact h
theorem piece_add (L : List UInt8) (a b c : Nat) (h1 : a ≤ b) (h2 : b ≤ c) : piece L a b ++ piece L b c = piece L a c := by
  unfold piece
  rw [show c - a = (b - a) + (c - b) by omega, List.take_add, List.drop_drop, show a + (b - a) = b by omega]
theorem piece_len (L : List UInt8) (a b : Nat) (h : b ≤ L.length) : (piece L a b).length = b - a := by
  unfold piece; rw [List.length_take, List.length_drop]; omega
theorem piece_drop (L : List UInt8) (a b : Nat) (h : a ≤ b) : L.drop a = piece L a b ++ L.drop b := by
  unfold piece
  conv => lhs; rw [← List.take_append_drop (b - a) (L.drop a)]
  rw [List.drop_drop, show a + (b - a) = b by omega]
theorem piece_get (L : List UInt8) (a b j : Nat) (h : j < b - a) : (piece L a b)[j]? = L[a + j]? := by
  unfold piece; rw [List.getElem?_take_of_lt h, List.getElem?_drop]
def openP (L : List UInt8) (st : Option Nat) (pos : Nat) : List UInt8 := match st with | some a => piece L a pos | none => []
theorem open_run (s : ByteArray) (pos K : Nat) (st : Option Nat) (hst : ∀ a, st = some a → a < pos) (hK : pos + K ≤ s.size) (hb : ∀ j, pos ≤ j → j < pos + K → s.get! j ≠ 47) :
    toks (openP s.data.toList st pos) (s.data.toList.drop pos) = toks (openP s.data.toList (some (st.getD pos)) (pos + K)) (s.data.toList.drop (pos + K)) := by
  rw [piece_drop s.data.toList pos (pos + K) (by omega), toks_run]
  · congr 1
    cases st with
    | none => rfl
    | some a => exact piece_add _ _ _ _ (Nat.le_of_lt (hst a rfl)) (by omega)
  · intro c hc
    obtain ⟨j, hj, he⟩ := List.getElem_of_mem hc
    have hl := piece_len s.data.toList pos (pos + K) (by rw [← Lib.size_eq]; exact hK)
    have e2 : (piece s.data.toList pos (pos + K))[j]? = some c := by rw [List.getElem?_eq_getElem hj, he]
    rw [piece_get _ _ _ _ (by omega), byte_at s (pos + j) (by omega)] at e2
    cases e2
    exact hb _ (by omega) (by omega)
theorem drop_at (s : ByteArray) (pos : Nat) (h : pos < s.size) : s.data.toList.drop pos = s.get! pos :: s.data.toList.drop (pos + 1) := by
  have hb := byte_at s pos h
  obtain ⟨hl, he⟩ := List.getElem?_eq_some_iff.1 hb
  rw [List.drop_eq_getElem_cons hl, he]
theorem byte_ne {s : ByteArray} {j : Nat} (h : byteAt s j ≠ 47) : s.get! j ≠ 47 := fun e => h (by unfold byteAt; rw [e]; rfl)
theorem spans_toks (s : ByteArray) : ∀ (f pos : Nat) (st : Option Nat) (acc : List (Nat × Nat)), s.size ≤ pos + f → pos ≤ s.size → (∀ a, st = some a → a < pos) →
    (Lib.closeSpans s (Lib.spansFromP (fun x => x == 47) s f pos st acc)).map (fun p => piece s.data.toList p.1 p.2) = acc.map (fun p => piece s.data.toList p.1 p.2) ++ toks (openP s.data.toList st pos) (s.data.toList.drop pos) := by
  have fin : ∀ (st : Option Nat) (acc : List (Nat × Nat)), (∀ a, st = some a → a < s.size) → (Lib.closeSpans s (acc, st)).map (fun p => piece s.data.toList p.1 p.2) = acc.map (fun p => piece s.data.toList p.1 p.2) ++ toks (openP s.data.toList st s.size) (s.data.toList.drop s.size) := fun st acc hst => by
    rw [List.drop_eq_nil_of_le (by rw [← Lib.size_eq]; exact Nat.le_refl _)]
    cases st with
    | none => simp [Lib.closeSpans, openP, toks]
    | some a =>
      have hl := piece_len s.data.toList a s.size (by rw [← Lib.size_eq]; exact Nat.le_refl _)
      have hne : piece s.data.toList a s.size ≠ [] := fun e => by rw [e] at hl; have := hst a rfl; simp at hl; omega
      show (acc ++ [(a, s.size)]).map _ = _ ++ toks (piece s.data.toList a s.size) []
      rw [toks_nil hne, List.map_append]; rfl
  intro f
  induction f with
  | zero =>
    intro pos st acc h1 h2 hst
    obtain rfl : pos = s.size := by omega
    exact fin st acc hst
  | succ f ih =>
    intro pos st acc h1 h2 hst
    by_cases hlt : pos < s.size
    · have nosl : ∀ R K, Utf8.decode s pos = (R, K) → R ≠ 47 → 1 ≤ K → pos + K ≤ s.size → (∀ j, pos ≤ j → j < pos + K → s.get! j ≠ 47) →
          (Lib.closeSpans s (Lib.spansFromP (fun x => x == 47) s (f + 1) pos st acc)).map (fun p => piece s.data.toList p.1 p.2) = acc.map (fun p => piece s.data.toList p.1 p.2) ++ toks (openP s.data.toList st pos) (s.data.toList.drop pos) := by
        intro R K hd hR hK hpk hb
        have hp : ((R == 47) = true) = False := by simp [hR]
        rw [open_run s pos K st hst hpk hb, ← ih (pos + K) (some (st.getD pos)) acc (by omega) hpk (fun a e => by cases e; cases st with | none => show pos < _; omega | some b => have := hst b rfl; show b < _; omega)]
        simp only [Lib.spansFromP, hlt, if_true, hd, hp, if_false]
        cases st <;> rfl
      rcases rune_at s pos hlt with ⟨hb, hd⟩ | ⟨R, K, hd, hR1, hR2, hR3, hK, hpk, hbs⟩
      · by_cases h47 : byteAt s pos = 47
        · have hg : s.get! pos = 47 := UInt8.toNat_inj.1 h47
          rw [drop_at s pos hlt, hg]
          rw [h47] at hd
          simp only [Lib.spansFromP, hlt, if_true, hd, beq_self_eq_true]
          cases st with
          | none =>
            rw [show openP s.data.toList none pos = [] from rfl, toks_slash]
            exact ih (pos + 1) none acc (by omega) hlt (fun a e => by cases e)
          | some a =>
            have hl := piece_len s.data.toList a pos (by rw [← Lib.size_eq]; omega)
            have hne : piece s.data.toList a pos ≠ [] := fun e => by rw [e] at hl; have := hst a rfl; simp at hl; omega
            rw [show openP s.data.toList (some a) pos = piece s.data.toList a pos from rfl, toks_end hne]
            have := ih (pos + 1) none (acc ++ [(a, pos)]) (by omega) hlt (fun a e => by cases e)
            rw [List.map_append, List.append_assoc] at this
            exact this
        · refine nosl _ 1 hd h47 (by omega) (by omega) (fun j h3 h4 => ?_)
          obtain rfl : j = pos := by omega
          exact byte_ne h47
      · refine nosl R K hd (by omega) hK hpk (fun j h3 h4 => byte_ne (by have := hbs j h3 h4; omega))
    · obtain rfl : pos = s.size := by omega
      rw [Lib.spansFromP_end _ s (f + 1) s.size st acc (by omega)]
      exact fin st acc hst
/-- A path's names. -/
def nml (s : ByteArray) : List ByteArray := (toks [] s.data.toList).map ba
theorem fields_nml (s : ByteArray) : Lib.goFieldsP (fun x => x == 47) s = nml s := by
  have h := spans_toks s s.size 0 none [] (by omega) (Nat.zero_le _) (fun a e => by cases e)
  have h2 := congrArg (List.map ba) h
  rw [List.map_map] at h2
  unfold nml Lib.goFieldsP Lib.spansOfP
  simp only [List.map_nil, List.nil_append, List.drop_zero] at h2
  rw [show openP s.data.toList none 0 = [] from rfl] at h2
  rw [← h2]
  refine List.map_congr_left fun p _ => ?_
  simp only [Function.comp_apply]
  rw [← extract_list, ba_of]
/-- The first error of the names. -/
def chkL : List ByteArray → Int
  | [] => 0
  | x :: l => if nmE x = 0 then chkL l else nmE x
theorem chkL_append_ok {l : List ByteArray} (h : chkL l = 0) (m : List ByteArray) : chkL (l ++ m) = chkL m := by
  induction l with
  | nil => rfl
  | cons x l ih =>
    unfold chkL at h
    by_cases hx : nmE x = 0
    · rw [if_pos hx] at h
      rw [List.cons_append, chkL, if_pos hx, ih h]
    · rw [if_neg hx] at h; exact absurd h hx
theorem chkL_one {l : List ByteArray} {x : ByteArray} (h : chkL l = 0) (hx : nmE x = 0) : chkL (l ++ [x]) = 0 := by
  rw [chkL_append_ok h]; simp [chkL, hx]
theorem chkL_bad {l : List ByteArray} {x : ByteArray} (h : chkL l = 0) (hx : nmE x ≠ 0) (m : List ByteArray) : chkL (l ++ x :: m) = nmE x := by
  rw [chkL_append_ok h, chkL, if_neg hx]
theorem chkL_all {l : List ByteArray} : chkL l = 0 ↔ ∀ x ∈ l, nmE x = 0 := by
  induction l with
  | nil => simp [chkL]
  | cons x l ih =>
    rw [chkL]
    by_cases hx : nmE x = 0
    · rw [if_pos hx, ih]; simp [hx]
    · rw [if_neg hx]; simp [hx]
def dirB (s : ByteArray) : Bool := decide (s.get! (s.size - 1) = 47)
/-- What Split answers: the error, the names, whether it is of a directory. -/
def spE (s : ByteArray) : Int := if 255 < s.size then 36 else if s.size = 0 ∨ s.get! 0 ≠ 47 then 22 else chkL (nml s)
def spL (s : ByteArray) : List ByteArray := if spE s = 0 then nml s else []
def spD (s : ByteArray) : Bool := if spE s = 0 then dirB s else false
end Go.Proofs.Ytcjojcihjhhpgaa
/-
  Rows of elements of any size, told by their cells: append, what is read.
-/
namespace Go.Proofs.Ytcjojcihjhhpgaa
open Go.RowKit

/-- 'append(own, more...)' at elements of any size, told by their cells. -/
theorem wp_append_row {P : Program} {w : World} {ops : Array Oper} {rest : List Oper} {o : Oper} {act : Act} {Q : Exit → Act → World → Prop} (hgd : o.guard = none) (s x : Operand) (t : TypeId)
    (ho : o.op = .call { callee := .builtin .append, args := #[s, x], argTypes := #[t, t] })
    (base : Nat) (e : TypeId) (z : Value) (size bytes : Nat) (ht : P.underlying t = some (.slice e)) (hi : (P.info? e).map (fun i => (i.zero, i.size, i.bytes)) = some (some z, size, bytes)) (hzs : z.cells.size = size) (hsz : 0 < size) (hby : bytes ≤ 1000)
    (v : Value) (n : Nat) (xs : List Value) (hs : act.eval s = v) (hown : w.ownsRow base e size v n xs)
    (ao : Option Addr) (m c : Nat) (ys : List Value) (hx : act.eval x = .slice ao m c) (hl : ys.length = m * size) (hy : ∀ ad, ao = some ad → ∀ j u, ys[j]? = some u → w.cell? (ad.add j) = some u) (h1 : ∀ u ∈ ys, u.oneCell' = true) (hnone : ao = none → m = 0 ∧ c = 0)
    (hroom : n + m ≤ 1000000) (hbase : base ≤ w.heap.size)
    (h : ∀ a' cap' w', w'.ownsRow base e size (.slice a' (n + m) cap') (n + m) (xs ++ ys) → w.grownBy w' v.ownBlock → wpList P ops Q rest (act.put o.dst (.slice a' (n + m) cap')) w') : wpList P ops Q (o :: rest) act w := by
  obtain ⟨i, hi0, hz, hs1, hb1⟩ := info_parts hi
  have fin : ∀ v' w', w'.ownsRow base e size v' (n + m) (xs ++ ys) → w.grownBy w' v.ownBlock → wpList P ops Q rest (act.put o.dst v') w' := by
    intro v' w' h1 h2
    obtain ⟨a', cap', rfl, _⟩ := own_slice h1
    exact h a' cap' w' h1 h2
  cases ao with
  | none =>
    obtain ⟨rfl, rfl⟩ := hnone rfl
    have hys : ys = [] := List.eq_nil_of_length_eq_zero (by rw [hl]; simp)
    subst hys
    refine wpList_append_own_none hgd s x t ho base e i size ht hi0 v n xs hs hown hx ?_
    have := fin v w (by simpa using hown) ⟨rfl, rfl, rfl, Nat.le_refl _, fun _ _ _ => rfl⟩
    exact this
  | some ad =>
    refine wpList_append_own w hgd s x t ho base e i _ size bytes ht hi0 hz hs1 hb1 hzs hsz v n xs hs hown ad m c ys hx hl (hy ad rfl) h1 (by unfold maxLen; omega) ?_ hbase ?_
    · exact Nat.le_trans (Nat.mul_le_mul hroom hby) (by decide)
    · intro v' w' h1 h2 _
      exact fin v' w' h1 h2
/-- What a slice that is read holds, told by its cells. -/
def Rds (w : World) (a : Option Addr) (xs : List Value) : Prop := ∀ j u, xs[j]? = some u → ∃ b o, a = some ⟨b, o, none⟩ ∧ w.cell? ⟨b, o + j, none⟩ = some u
theorem Rds.later {w w' : World} {a : Option Addr} {xs : List Value} (h : Rds w a xs) (hb : Below w.heap.size w w') : Rds w' a xs := fun j u hj => by
  obtain ⟨b, o, ha, hc⟩ := h j u hj
  exact ⟨b, o, ha, cell_later hb hc⟩
theorem Rds.add {w : World} {a : Option Addr} {xs : List Value} (h : Rds w a xs) : ∀ ad, a = some ad → ∀ j u, xs[j]? = some u → w.cell? (ad.add j) = some u := fun ad ha j u hj => by
  obtain ⟨b, o, ha', hc⟩ := h j u hj
  rw [ha] at ha'
  cases ha'
  rw [Addr.add_lit]
  exact hc
theorem Rds.own {w : World} {base : Nat} {e : TypeId} {size : Nat} {a : Option Addr} {n cap : Nat} {xs : List Value} (h : w.ownsRow base e size (.slice a n cap) n xs) : Rds w a xs := fun j u hj => by
  rcases id h.2 with ⟨h1, h0⟩ | ⟨g, c, cur, h1, _⟩
  · have hl := h.1
    rw [h0] at hl
    have : xs = [] := List.eq_nil_of_length_eq_zero (by simpa using hl)
    rw [this] at hj; cases hj
  · cases h1
    have hjl : j < xs.length := by
      rcases Nat.lt_or_ge j xs.length with h | h
      · exact h
      · rw [List.getElem?_eq_none h] at hj; cases hj
    refine ⟨g, 0, rfl, ?_⟩
    rw [Nat.zero_add, h.cellAt j (Nat.lt_of_lt_of_eq hjl h.1), hj]
/-- The same, at a step of a region that draws its order. -/
theorem step_append_row {P : Program} {ops : Array Oper} {Q : Exit → Act → World → Prop} {o : Oper} {a : Act} {w : World} {K : Act → World → Prop} {E : Prop} (hg : o.guard = none) (s x : Operand) (t : TypeId) (ho : o.op = .call { callee := .builtin .append, args := #[s, x], argTypes := #[t, t] })
    (base : Nat) (e : TypeId) (z : Value) (size bytes : Nat) (ht : P.underlying t = some (.slice e)) (hi : (P.info? e).map (fun i => (i.zero, i.size, i.bytes)) = some (some z, size, bytes)) (hzs : z.cells.size = size) (hsz : 0 < size) (hby : bytes ≤ 1000)
    (v : Value) (n : Nat) (xs : List Value) (hs : a.eval s = v) (hown : w.ownsRow base e size v n xs) (ao : Option Addr) (m c : Nat) (ys : List Value) (hx : a.eval x = .slice ao m c) (hl : ys.length = m * size) (hy : ∀ ad, ao = some ad → ∀ j u, ys[j]? = some u → w.cell? (ad.add j) = some u) (h1 : ∀ u ∈ ys, u.oneCell' = true) (hnone : ao = none → m = 0 ∧ c = 0)
    (hroom : n + m ≤ 1000000) (hbase : base ≤ w.heap.size)
    (hk : ∀ v' w', w'.ownsRow base e size v' (n + m) (xs ++ ys) → w.grownBy w' v.ownBlock → (v'.ownBlock = v.ownBlock ∨ v'.ownBlock = some w.heap.size) → K (a.put o.dst v') w') :
    if Region.wanted o (yielded ops a.tmps) = true then Oper.wp P o a w K Q else E := by
  obtain ⟨i, hi0, hz, hs1, hb1⟩ := info_parts hi
  rw [if_pos (by simp [Region.wanted, hg])]
  unfold Oper.wp
  cases ao with
  | none =>
    obtain ⟨rfl, rfl⟩ := hnone rfl
    have hys : ys = [] := List.eq_nil_of_length_eq_zero (by rw [hl]; simp)
    subst hys
    have hrun := run_append_owned_none (P := P) (w := w) base t o.type e i size ht hi0 v n xs hown
    simp [execOp, ho, resolve, invoke, builtin, hs, hx, hrun, Result.andThen]
    exact hk v w (by simpa using hown) ⟨rfl, rfl, rfl, Nat.le_refl _, fun _ _ _ => rfl⟩ (.inl rfl)
  | some ad =>
    obtain ⟨v', w', hrun, h2, h3, _, h5⟩ := run_append_own_at (P := P) w base t o.type e i z size bytes ht hi0 hz hs1 hb1 hzs hsz v n xs hown ad m c ys hl (hy ad rfl) h1 (by unfold maxLen; omega) (Nat.le_trans (Nat.mul_le_mul hroom hby) (by decide)) hbase
    simp [execOp, ho, resolve, invoke, builtin, hs, hx, hrun, Result.andThen]
    exact hk v' w' h2 h3 h5
end Go.Proofs.Ytcjojcihjhhpgaa
/-
  Lists of texts in memory; two of them held against each other; what is wrong with one.
-/
namespace Go.Proofs.Ytcjojcihjhhpgaa
open Go.RowKit

abbrev STR := 9
abbrev SLS := 28
/-- What a slice of texts that is read holds. -/
def Strs (w : World) (a : Option Addr) (l : List ByteArray) : Prop := l ≠ [] → ∃ b o, a = some ⟨b, o, none⟩ ∧ ∀ i, i < l.length → w.cell? ⟨b, o + i, none⟩ = some (.string (l.getD i ⟨#[]⟩))
theorem Strs.nil (w : World) (a : Option Addr) : Strs w a [] := fun h => absurd rfl h
theorem Strs.below {w w' : World} {a : Option Addr} {l : List ByteArray} (h : Strs w a l) (hb : Below w.heap.size w w') : Strs w' a l := fun hl => by
  obtain ⟨b, o, ha, hc⟩ := h hl
  exact ⟨b, o, ha, fun i hi => cell_later hb (hc i hi)⟩
def cellsS (l : List ByteArray) : List Value := l.map Value.string
theorem cellsS_length (l : List ByteArray) : (cellsS l).length = l.length := by simp [cellsS]
theorem cellsS_get (l : List ByteArray) (i : Nat) (hi : i < l.length) : (cellsS l)[i]? = some (.string (l.getD i ⟨#[]⟩)) := by
  simp [cellsS, List.getD_eq_getElem?_getD, List.getElem?_eq_getElem hi]
theorem cellsS_append (l m : List ByteArray) : cellsS l ++ cellsS m = cellsS (l ++ m) := by simp [cellsS]
theorem Strs.own {w : World} {base : Nat} {e : TypeId} {a : Option Addr} {n cap : Nat} {l : List ByteArray} (h : w.ownsRow base e 1 (.slice a n cap) n (cellsS l)) : Strs w a l := fun hl => by
  have hlen : n = l.length := by have := h.1; rw [cellsS_length, Nat.mul_one] at this; exact this.symm
  rcases id h.2 with ⟨h1, h0⟩ | ⟨g, c, cur, h1, _⟩
  · exact absurd (List.eq_nil_of_length_eq_zero (by omega)) hl
  · cases h1
    exact ⟨g, 0, rfl, fun i hi => by rw [Nat.zero_add, h.cellAt i (by omega), cellsS_get l i hi]⟩
theorem Strs.laid (w : World) (l : List ByteArray) (cs : Array Value) (t : TypeId) (h : cs.toList = cellsS l) : Strs (w.alloc (.cells cs t)) (some ⟨w.heap.size, 0, none⟩) l := fun _ =>
  ⟨w.heap.size, 0, rfl, fun i hi => by rw [Nat.zero_add, (blo_laid w t cs).cell i, ← Array.getElem?_toList, h, cellsS_get l i hi]⟩
theorem Strs.take {w : World} {a : Option Addr} {l : List ByteArray} (h : Strs w a l) (k : Nat) : Strs w a (l.take k) := fun hl => by
  obtain ⟨b, o, ha, hc⟩ := h (fun e => hl (by rw [e]; simp))
  exact ⟨b, o, ha, fun i hi => by
    rw [List.length_take] at hi
    rw [hc i (by omega), List.getD_eq_getElem?_getD, List.getD_eq_getElem?_getD, List.getElem?_take_of_lt (by omega)]⟩
theorem sDrewN {B : Nat} {a w : World} (h : Below B a w) (n : Nat) : Below B a (w.drewN n) := ⟨h.os, h.tape, h.output, h.size, h.block⟩
set_option maxHeartbeats 400000 in
theorem texts_len (a b : Option Addr) (n k c d : Nat) (w : World) (h : n ≠ k) :
    Calls Try.prog 14 #[.slice a n c, .slice b k d] w fun e w' => e = .returned (.bool false) ∧ w = w' := by
  have hb : ((n : Int) == (k : Int)) = false := by simpa using (by omega : ¬ (n : Int) = (k : Int))
  have hb' : ((n : Int) != (k : Int)) = true := by simpa using (by omega : ¬ (n : Int) = (k : Int))
  go_enter Try.func14, Try.ntmps14
  go_wp2
  go_ret
  exact ⟨rfl, rfl⟩
def TxRel (w : World) (l m : List ByteArray) (n : Nat) (t : Value) (wr : World) : Prop := ∃ k q : Nat, t = .int .i64 k ∧ k ≤ n ∧ l.take k = m.take k ∧ wr = w.drewN q
theorem toList_ne {x y : ByteArray} (h : x ≠ y) : (x.toList == y.toList) = false := beq_eq_false_iff_ne.2 fun e => h (by rw [Lib.toList_data, Lib.toList_data] at e; exact str_ext e)
set_option maxHeartbeats 1000000 in
theorem texts_same (l m : List ByteArray) (a b : Option Addr) (n c d : Nat) (w : World) (hl : n = l.length) (hm : n = m.length) (hn : n < 1000000000) (ha : Strs w a l) (hb : Strs w b m) :
    Calls Try.prog 14 #[.slice a n c, .slice b n d] w fun e w' => e = .returned (.bool (decide (l = m))) ∧ Below w.heap.size w w' := by
  have HL := Lib.hid hl
  have HM := Lib.hid hm
  have HA := Lib.hid ha
  have HB := Lib.hid hb
  have hb0 : ((n : Int) != (n : Int)) = false := by simp
  clear hl hm ha hb
  go_enter Try.func14, Try.ntmps14
  go_wp2
  go_loopw [13, 5] (fun t _ wr => TxRel w l m n t wr) (fun t _ _ => n - (intOf t).toNat)
  case atStart => exact ⟨0, 0, rfl, by omega, by simp, rfl⟩
  case round =>
    obtain ⟨k, q, rfl, hk, hp, rfl⟩ := hrel
    have HP := Lib.hid hp
    clear hp
    by_cases hlt : k < n
    · obtain ⟨b1, o1, rfl, h1⟩ := HA.out (by intro e; have := HL.out; rw [e] at this; simp at this; omega)
      obtain ⟨b2, o2, rfl, h2⟩ := HB.out (by intro e; have := HM.out; rw [e] at this; simp at this; omega)
      have x1 := h1 k (by have := HL.out; omega)
      have x2 := h2 k (by have := HM.out; omega)
      have e1 : Hid (l.take (k + 1) = l.take k ++ [l.getD k ⟨#[]⟩]) := by
        show _ = _
        rw [List.take_add_one, List.getD_eq_getElem?_getD, List.getElem?_eq_getElem (by have := HL.out; omega)]; rfl
      have e2 : Hid (m.take (k + 1) = m.take k ++ [m.getD k ⟨#[]⟩]) := by
        show _ = _
        rw [List.take_add_one, List.getD_eq_getElem?_getD, List.getElem?_eq_getElem (by have := HM.out; omega)]; rfl
      clear h1 h2
      generalize l.getD k ⟨#[]⟩ = x at *
      generalize m.getD k ⟨#[]⟩ = y at *
      have z0 : (0 : Int) ≤ (k : Int) := by omega
      have z1 : (k : Int) < (n : Int) := by omega
      by_cases hxy : x = y
      · subst hxy
        have hc : (x.toList != x.toList) = false := by simp
        go_wp2_with fail
        go_quiet (fail)
        go_wp2
        exact ⟨⟨k + 1, _, by go_num, by omega, by rw [e1.out, e2.out, HP.out], rfl⟩, by simp [intOf]; omega⟩
      · have hc : (x.toList == y.toList) = false := toList_ne hxy
        have hc' : (!(x.toList == y.toList)) = true := by rw [hc]; rfl
        have hne : Hid (decide (l = m) = false) := by
          show _ = _
          apply decide_eq_false
          intro e
          subst e
          have := e1.out.symm.trans e2.out
          have := List.append_cancel_left this
          simp at this
          exact hxy this
        go_wp2_with fail
        go_quiet (fail)
        go_wp2
        go_ret
        rw [hne.out]
        exact ⟨rfl, sDrewN (sDrewN (Below.refl _ _) _) _⟩
    · obtain rfl : k = n := by omega
      have heq : Hid (decide (l = m) = true) := by
        show _ = _
        apply decide_eq_true
        have := HP.out
        rw [List.take_of_length_le (by have := HL.out; omega), List.take_of_length_le (by have := HM.out; omega)] at this
        exact this
      go_wp2
      go_ret
      rw [heq.out]
      exact ⟨rfl, sDrewN (Below.refl _ _) _⟩
theorem texts_any (l m : List ByteArray) (a b : Option Addr) (n k c d : Nat) (w : World) (hl : n = l.length) (hm : k = m.length) (hn : n < 1000000000) (ha : Strs w a l) (hb : Strs w b m) :
    Calls Try.prog 14 #[.slice a n c, .slice b k d] w fun e w' => e = .returned (.bool (decide (l = m))) ∧ Below w.heap.size w w' := by
  by_cases h : n = k
  · subst h
    exact texts_same l m a b n c d w hl hm hn ha hb
  · have hne : decide (l = m) = false := decide_eq_false (fun e => h (by rw [hl, hm, e]))
    rw [hne]
    exact (texts_len a b n k c d w h).mono fun e w' ⟨h1, h2⟩ => ⟨h1, by rw [← h2]; exact Below.refl _ _⟩
/-! check: the first error of the names. -/
theorem chkL_at {l : List ByteArray} {k : Nat} (hk : k < l.length) (h : chkL (l.take k) = 0) : chkL (l.take (k + 1)) = nmE (l.getD k ⟨#[]⟩) ∧ (nmE (l.getD k ⟨#[]⟩) ≠ 0 → chkL l = nmE (l.getD k ⟨#[]⟩)) := by
  have e1 : l.take (k + 1) = l.take k ++ [l.getD k ⟨#[]⟩] := by rw [List.take_add_one, List.getD_eq_getElem?_getD, List.getElem?_eq_getElem hk]; rfl
  constructor
  · rw [e1, chkL_append_ok h]
    simp only [chkL]
    split
    · rename_i h0; exact h0.symm
    · rfl
  · intro hne
    have e2 : l = l.take k ++ l.getD k ⟨#[]⟩ :: l.drop (k + 1) := by
      conv => lhs; rw [← List.take_append_drop (k + 1) l, e1]
      rw [List.append_assoc]; rfl
    conv => lhs; rw [e2]
    exact chkL_bad h hne _
set_option maxHeartbeats 1000000 in
theorem check_any (l : List ByteArray) (a : Option Addr) (n c : Nat) (w : World) (hl : n = l.length) (hn : n < 1000000000) (ha : Strs w a l) :
    Calls Try.prog 82 #[.slice a n c] w fun e w' => e = .returned (.int .i64 (chkL l)) ∧ Below w.heap.size w w' := by
  have HL := Lib.hid hl
  have HA := Lib.hid ha
  have HB0 := Lib.hid (Below.refl w.heap.size w)
  clear hl ha
  go_enter Try.func82, Try.ntmps82
  go_wp2
  go_loopw [8, 4, 5] (fun t _ _ wr => ∃ k : Nat, t = .int .i64 k ∧ k ≤ n ∧ chkL (l.take k) = 0 ∧ Below w.heap.size w wr) (fun t _ _ _ => n - (intOf t).toNat)
  case atStart => exact ⟨0, rfl, by omega, by simp [chkL], HB0.out⟩
  case round =>
    obtain ⟨k, rfl, hk, hp, hbw⟩ := hrel
    have HP := Lib.hid hp
    have HBw := Lib.hid hbw
    clear hp hbw
    by_cases hlt : k < n
    · obtain ⟨b1, o1, rfl, h1⟩ := (HA.out.below HBw.out) (by intro e; have := HL.out; rw [e] at this; simp at this; omega)
      have x1 := h1 k (by have := HL.out; omega)
      obtain ⟨q1, q2⟩ := chkL_at (by have := HL.out; omega) HP.out
      have HQ1 := Lib.hid q1
      have HQ2 := Lib.hid q2
      have HN := Lib.hid (name_any (l.getD k ⟨#[]⟩))
      clear h1 q1 q2
      generalize l.getD k ⟨#[]⟩ = x at *
      have z0 : (0 : Int) ≤ (k : Int) := by omega
      have z1 : (k : Int) < (n : Int) := by omega
      by_cases hx : nmE x = 0
      · rw [hx] at HN HQ1
        clear hx HQ2
        go_wp2_with (go_at_call 90; refine (HN.out _).mono ?_; rintro e w' ⟨rfl, hw⟩; have HW := Lib.hid hw; clear hw)
        go_roundw
        case rel => exact ⟨k + 1, by go_num, by omega, HQ1.out, HBw.out.trans (HW.out.mono HBw.out.size)⟩
        case measure => simp [intOf]; omega
      · have HE := Lib.hid (HQ2.out hx)
        have h3 : (nmE x != 0) = true := by simpa using hx
        clear HQ1 HQ2
        generalize nmE x = z at *
        go_wp2_with (go_at_call 90; refine (HN.out _).mono ?_; rintro e w' ⟨rfl, hw⟩; have HW := Lib.hid hw; clear hw)
        go_ret
        exact ⟨by rw [HE.out]; rfl, HBw.out.trans (HW.out.mono HBw.out.size)⟩
    · obtain rfl : k = n := by omega
      have HE : Hid (chkL l = 0) := by
        show _ = _
        have := HP.out
        rwa [List.take_of_length_le (by have := HL.out; omega)] at this
      go_wp2
      go_ret
      exact ⟨by rw [HE.out]; rfl, HBw.out⟩
end Go.Proofs.Ytcjojcihjhhpgaa
/-
  Split and Parent of the program.
-/
namespace Go.Proofs.Ytcjojcihjhhpgaa
open Go.RowKit

theorem isSlash_any (x : Nat) (w : World) : Calls Try.prog 81 #[.int .i32 (x : Int)] w fun e w' => e = .returned (.bool (x == 47)) ∧ w = w' := by
  have hx : Hid ((((x : Nat) : Int) == 47) = (x == 47)) := by
    show _ = _
    rw [Bool.eq_iff_iff]; simp; omega
  go_enter Try.func81, Try.ntmps81
  go_wp2
  go_ret
  exact ⟨by rw [← hx.out]; rfl, rfl⟩
theorem pred_slash (w : World) : PredAtRunes Try.prog 81 #[] (fun x => x == 47) w := fun W x _ _ =>
  (isSlash_any x W).mono fun e w' ⟨h1, h2⟩ => ⟨h1, 0, by rw [← h2]; rfl⟩
theorem enters_slash : ∀ args w, (callFunc 81 args).run Try.prog w = .ok (.enter 81 args) w := enters_of Try.func81 (by kernel_rfl) rfl
theorem nml_len_le (s : ByteArray) : (nml s).length ≤ s.size := by
  have key : ∀ (l cur : List UInt8), (toks cur l).length ≤ l.length + (if cur = [] then 0 else 1) := by
    intro l
    induction l with
    | nil => intro cur; rw [toks]; split <;> simp
    | cons c l ih =>
      intro cur
      rw [toks]
      split
      · split
        · have := ih []; simp at this ⊢; omega
        · have := ih []; simp at this ⊢; omega
      · have := ih (cur ++ [c]); simp at this ⊢; split <;> omega
  unfold nml
  rw [List.length_map]
  have := key s.data.toList []
  rw [Lib.size_eq]
  simpa using this
/-- FieldsFunc at slashes. -/
theorem fields_any (s : ByteArray) (w : World) (hs : s.size ≤ 255) : Calls Try.prog 80 #[.string s, .func (.func 81) #[] #[]] w fun e w' =>
    ∃ A, e = .returned (.slice (some ⟨A, 0, none⟩) (nml s).length (nml s).length) ∧ Strs w' (some ⟨A, 0, none⟩) (nml s) ∧ Below w.heap.size w w' :=
  (Try.strings_FieldsFunc_runes 81 #[] enters_slash (fun x => x == 47) s w (by omega) (pred_slash w)).mono fun e w' ⟨A, h1, _, h3, h4⟩ => by
    rw [fields_nml] at h1 h3
    exact ⟨A, h1, Strs.own h3, h4⟩
def SpO (w : World) (s : ByteArray) (e : Ending) (w' : World) : Prop := ∃ a n c, e = .returned (.tuple #[.slice a n c, .bool (spD s), .int .i64 (spE s)]) ∧ n = (spL s).length ∧ n ≤ c ∧ Strs w' a (spL s) ∧ (a = none → n = 0 ∧ c = 0) ∧ Below w.heap.size w w'
theorem spE_long {s : ByteArray} (h : 255 < s.size) : spE s = 36 := by unfold spE; rw [if_pos h]
theorem spE_rel {s : ByteArray} (h : ¬ 255 < s.size) (h1 : s.size = 0 ∨ s.get! 0 ≠ 47) : spE s = 22 := by unfold spE; rw [if_neg h, if_pos h1]
theorem spE_chk {s : ByteArray} (h : ¬ 255 < s.size) (h1 : ¬ (s.size = 0 ∨ s.get! 0 ≠ 47)) : spE s = chkL (nml s) := by unfold spE; rw [if_neg h, if_neg h1]
theorem spO_bad {w w' : World} {s : ByteArray} {z : Int} (h : spE s = z) (hz : z ≠ 0) (hb : Below w.heap.size w w') : SpO w s (.returned (.tuple #[.slice none 0 0, .bool false, .int .i64 z])) w' := by
  have h1 : spL s = [] := by unfold spL; rw [if_neg (by rw [h]; exact hz)]
  have h2 : spD s = false := by unfold spD; rw [if_neg (by rw [h]; exact hz)]
  exact ⟨none, 0, 0, by rw [h2, h], by rw [h1]; rfl, Nat.le_refl _, by rw [h1]; exact Strs.nil _ _, fun _ => ⟨rfl, rfl⟩, hb⟩
theorem spO_ok {w w' : World} {s : ByteArray} {a : Option Addr} {n c : Nat} (h : spE s = 0) (hn : n = (nml s).length) (hc : n ≤ c) (hs : Strs w' a (nml s)) (ha : a = none → n = 0 ∧ c = 0) (hb : Below w.heap.size w w') : SpO w s (.returned (.tuple #[.slice a n c, .bool (dirB s), .int .i64 0])) w' := by
  have h1 : spL s = nml s := by unfold spL; rw [if_pos h]
  have h2 : spD s = dirB s := by unfold spD; rw [if_pos h]
  exact ⟨a, n, c, by rw [h2, h], by rw [h1]; exact hn, hc, by rw [h1]; exact hs, ha, hb⟩
theorem get_bang (s : ByteArray) (k : Nat) (h : k < s.size) : s[k]'h = s.get! k := by
  simp [ByteArray.get!, getElem!_pos, h]
  rfl
theorem toList_empty {s : ByteArray} (h : s.size ≠ 0) : s.toList.isEmpty = false ∧ ¬ s.toList = [] := by
  have h1 : ¬ s.toList = [] := fun e => h (by rw [Lib.toList_data] at e; rw [Lib.size_eq, e]; rfl)
  refine ⟨?_, h1⟩
  cases hh : s.toList with
  | nil => exact absurd hh h1
  | cons _ _ => rfl
set_option maxRecDepth 100000 in
set_option maxHeartbeats 4000000 in
theorem split_any (s : ByteArray) (w : World) : Calls Try.prog 65 #[.string s] w (SpO w s) := by
  have HB := Lib.hid (Below.refl w.heap.size w)
  by_cases h1 : 255 < s.size
  · have HE := Lib.hid (spE_long h1)
    have hl : (255 : Int) < (s.size : Int) := by omega
    clear h1
    go_enter Try.func65, Try.ntmps65
    go_wp2
    exact bodyPost_ret (v := .tuple #[.slice none 0 0, .bool false, .int .i64 36]) (by simp [results, Try.results65, go_sem]) rfl (spO_bad HE.out (by decide) HB.out)
  · have hl : ¬ (255 : Int) < (s.size : Int) := by omega
    by_cases h2 : s.size = 0
    · have HE := Lib.hid (spE_rel h1 (.inl h2))
      obtain rfl : s = ⟨#[]⟩ := str_ext (by rw [Lib.size_eq] at h2; rw [List.eq_nil_of_length_eq_zero h2])
      clear h1 h2 hl
      go_enter Try.func65, Try.ntmps65
      go_wp2
      exact bodyPost_ret (v := .tuple #[.slice none 0 0, .bool false, .int .i64 22]) (by simp [results, Try.results65, go_sem]) rfl (spO_bad HE.out (by decide) HB.out)
    · obtain ⟨m0', m0⟩ := toList_empty h2
      have hpos : (0 : Int) < (s.size : Int) := by omega
      have hpos' : 0 < s.size := by omega
      by_cases h3 : s.get! 0 = 47
      · have HE : Hid (spE s = chkL (nml s)) := spE_chk h1 (fun h => h.elim h2 (fun h => h h3))
        have hv : (s[0]'hpos').toNat = 47 := by rw [get_bang s 0 hpos', h3]; rfl
        have HF := Lib.hid (fields_any s w (by omega))
        have HLn : Hid ((nml s).length < 1000000000) := by have := nml_len_le s; show _ < _; omega
        have HD : Hid (∀ h, (((s[s.size - 1]'h).toNat : Int) == 47) = dirB s) := fun h => by
          unfold dirB
          rw [get_bang s _ h, Bool.eq_iff_iff]
          simp
          constructor
          · intro e; exact UInt8.toNat_inj.1 (by show _ = 47; omega)
          · intro e; rw [e]; rfl
        have h255 : s.size ≤ 255 := by omega
        clear h1 h2 h3
        go_enter Try.func65, Try.ntmps65
        go_wp2_with fail
        refine HF.out.mono ?_
        rintro e w1 ⟨A, rfl, hst, hb1⟩
        have HSt := Lib.hid hst
        have HB1 := Lib.hid hb1
        have HCk := Lib.hid (check_any (nml s) (some ⟨A, 0, none⟩) (nml s).length (nml s).length w1 rfl HLn.out hst)
        clear hst hb1 HF
        go_wp2_with fail
        refine HCk.out.mono ?_
        rintro e w2 ⟨rfl, hb2⟩
        have HSt2 := Lib.hid (HSt.out.below hb2)
        have HB2 := Lib.hid (HB1.out.trans (hb2.mono HB1.out.size))
        clear hb2 HSt HB1 HCk HLn
        by_cases hc : chkL (nml s) = 0
        · rw [hc] at HE ⊢
          clear hc
          have hlast : s.size - 1 < s.size := by omega
          have z1 : (0 : Int) ≤ (s.size : Int) - 1 := by omega
          have z2 : (s.size : Int) - 1 < (s.size : Int) := by omega
          have z3 : ((s.size : Int) - 1).toNat = s.size - 1 := by omega
          have z4 : IntKind.i64.wrap ((s.size : Int) - 1) = (s.size : Int) - 1 := IntWalk.i64_in _ (by omega)
          have z5 : (1 : Int) ≤ (s.size : Int) := by omega
          go_wp2_with fail
          go_region
          go_wp2
          refine bodyPost_ret (v := .tuple #[.slice (some ⟨A, 0, none⟩) (nml s).length (nml s).length, .bool (dirB s), .int .i64 0]) ?_ rfl (spO_ok HE.out rfl (Nat.le_refl _) HSt2.out (fun e => by cases e) (sDrewN HB2.out _))
          simp [results, Try.results65, go_sem]
          exact HD.out _
        · have h4 : (chkL (nml s) == 0) = false := beq_eq_false_iff_ne.2 hc
          have HZ := Lib.hid hc
          clear hc
          generalize chkL (nml s) = z at *
          go_wp2
          exact bodyPost_ret (v := .tuple #[.slice none 0 0, .bool false, .int .i64 z]) (by simp [results, Try.results65, go_sem]) rfl (spO_bad HE.out HZ.out HB2.out)
      · have HE := Lib.hid (spE_rel h1 (.inr h3))
        have hv : (((s[0]'hpos').toNat : Int) == 47) = false := by
          rw [get_bang s 0 hpos']
          exact beq_eq_false_iff_ne.2 fun e => h3 (UInt8.toNat_inj.1 (by show _ = 47; omega))
        clear h1 h2 h3
        go_enter Try.func65, Try.ntmps65
        go_wp2
        exact bodyPost_ret (v := .tuple #[.slice none 0 0, .bool false, .int .i64 22]) (by simp [results, Try.results65, go_sem]) rfl (spO_bad HE.out (by decide) HB.out)
end Go.Proofs.Ytcjojcihjhhpgaa
/-
  Parent of the program.
-/
namespace Go.Proofs.Ytcjojcihjhhpgaa
open Go.RowKit

theorem size_strx (w : World) : (Go.sizeOf 9).run Try.prog w = .ok 1 w := by kernel_rfl
theorem und_sls : Try.prog.underlying SLS = some (.slice (Try.prog.elem SLS)) := by simp [Program.elem, Try.underlying28]
theorem elem_sls : Try.prog.elem SLS = STR := by simp [Program.elem, Try.underlying28]
theorem addr_zero (b o : Nat) : (⟨b, o, none⟩ : Addr).add 0 = ⟨b, o, none⟩ := rfl
/-- 'x[:hi:hi]'. -/
theorem cutS_hm (b o n cap hi : Nat) (v : Int) (hv : v = (hi : Int)) (hhi : hi ≤ cap) (W : World) :
    (Instr.slice SLS (.slice (some ⟨b, o, none⟩) n cap) none (some (.int .i64 v)) (some (.int .i64 v))).run Try.prog W = .ok (.slice (some ⟨b, o, none⟩) hi hi) W := by
  subst hv
  rw [run_slice_hm W SLS _ _ _ und_sls .i64 .i64 _ _ (by omega) (by omega) (by omega), elem_sls, size_strx]
  simp [Result.andThen, sliced, addr_zero]
/-- 'x[:hi]'. -/
theorem cutS_h (b o n cap hi : Nat) (v : Int) (hv : v = (hi : Int)) (hhi : hi ≤ cap) (W : World) :
    (Instr.slice SLS (.slice (some ⟨b, o, none⟩) n cap) none (some (.int .i64 v)) none).run Try.prog W = .ok (.slice (some ⟨b, o, none⟩) hi cap) W := by
  subst hv
  rw [run_slice_h W SLS _ _ _ und_sls .i64 _ (by omega) (by omega), elem_sls, size_strx]
  simp [Result.andThen, sliced, addr_zero]
/-- What Parent answers. -/
def paE (s : ByteArray) : Int := if spE s = 0 then (if nml s = [] then 22 else 0) else spE s
def paL (s : ByteArray) : List ByteArray := (spL s).take ((spL s).length - 1)
def paN (s : ByteArray) : ByteArray := (spL s).getD ((spL s).length - 1) ⟨#[]⟩
def PaO (w : World) (s : ByteArray) (e : Ending) (w' : World) : Prop := ∃ a n c, e = .returned (.tuple #[.slice a n c, .string (paN s), .int .i64 (paE s)]) ∧ n = (paL s).length ∧ n ≤ c ∧ Strs w' a (paL s) ∧ (a = none → n = 0 ∧ c = 0) ∧ Below w.heap.size w w'
theorem spL_nil {s : ByteArray} (h : spE s ≠ 0) : spL s = [] := by unfold spL; rw [if_neg h]
theorem paO_bad {w w' : World} {s : ByteArray} {z : Int} (h : paE s = z) (hl : spL s = []) (hb : Below w.heap.size w w') : PaO w s (.returned (.tuple #[.slice none 0 0, .string ⟨#[]⟩, .int .i64 z])) w' := by
  have h1 : paL s = [] := by unfold paL; rw [hl]; rfl
  have h2 : paN s = ⟨#[]⟩ := by unfold paN; rw [hl]; rfl
  exact ⟨none, 0, 0, by rw [h2, h], by rw [h1]; rfl, Nat.le_refl _, by rw [h1]; exact Strs.nil _ _, fun _ => ⟨rfl, rfl⟩, hb⟩
theorem paE_sp {s : ByteArray} (h : spE s ≠ 0) : paE s = spE s := by unfold paE; rw [if_neg h]
theorem paE_none {s : ByteArray} (h : spE s = 0) (h1 : spL s = []) : paE s = 22 := by
  unfold spL at h1; rw [if_pos h] at h1
  unfold paE; rw [if_pos h, if_pos h1]
theorem paE_ok {s : ByteArray} (h : spE s = 0) (h1 : spL s ≠ []) : paE s = 0 := by
  unfold spL at h1; rw [if_pos h] at h1
  unfold paE; rw [if_pos h, if_neg h1]
set_option maxRecDepth 100000 in
set_option maxHeartbeats 4000000 in
theorem parent_any (s : ByteArray) (w : World) : Calls Try.prog 60 #[.string s] w (PaO w s) := by
  have HS := Lib.hid (split_any s w)
  have HLen : Hid ((spL s).length < 1000000000) := by
    show _ < _
    have h1 := nml_len_le s
    unfold spL
    split
    · rename_i h0
      by_cases h2 : 255 < s.size
      · rw [spE_long h2] at h0; exact absurd h0 (by decide)
      · omega
    · simp
  by_cases hz : spE s = 0
  · by_cases hl : spL s = []
    · have HE := Lib.hid (paE_none hz hl)
      have HL := Lib.hid hl
      go_enter Try.func60, Try.ntmps60
      go_wp2_with fail
      refine HS.out.mono ?_
      rintro e w1 ⟨a, n, c, rfl, hn, -, -, -, hb1⟩
      rw [hl] at hn
      obtain rfl : n = 0 := hn
      rw [hz]
      have HB1 := Lib.hid hb1
      clear hz hl hb1 HLen HS
      generalize spD s = d at *
      go_wp2
      exact bodyPost_ret (v := .tuple #[.slice none 0 0, .string ⟨#[]⟩, .int .i64 22]) (by simp [results, Try.results60, go_sem]) rfl (paO_bad HE.out HL.out HB1.out)
    · have HE := Lib.hid (paE_ok hz hl)
      have hlen : (spL s).length ≠ 0 := fun e => hl (List.eq_nil_of_length_eq_zero e)
      have HPl : Hid (paL s = (spL s).take ((spL s).length - 1)) := rfl
      have HPn : Hid (paN s = (spL s).getD ((spL s).length - 1) ⟨#[]⟩) := rfl
      go_enter Try.func60, Try.ntmps60
      go_wp2_with fail
      refine HS.out.mono ?_
      rintro e w1 ⟨a, n, c, rfl, hn, hc, hst, -, hb1⟩
      rw [hz]
      have HB1 := Lib.hid hb1
      obtain ⟨b, o, rfl, hcell⟩ := hst hl
      rw [← hn] at hlen HLen HPl HPn hcell
      have HSt := Lib.hid hst
      have HN := Lib.hid hn
      have x1 := hcell (n - 1) (by omega)
      have z0 : (1 : Int) ≤ (n : Int) := by omega
      have z2 : (n : Int) < 1000000000 := by have := HLen.out; omega
      have z4 : IntKind.i64.wrap ((n : Int) - 1) = (n : Int) - 1 := IntWalk.i64_in _ (by omega)
      have z5 : (0 : Int) ≤ (n : Int) - 1 := by omega
      have z6 : (n : Int) - 1 < (n : Int) := by omega
      have z7 : ((n : Int) - 1).toNat = n - 1 := by omega
      have hcut := cutS_hm b o n c (n - 1) ((n : Int) - 1) (by omega) (by omega)
      have HPs : Hid (∀ e w', (∃ q, w' = w1.drewN q) → e = .returned (.tuple #[.slice (some ⟨b, o, none⟩) (n - 1) (n - 1), .string ((spL s).getD (n - 1) ⟨#[]⟩), .int .i64 0]) → PaO w s e w') := fun e w' ⟨q, hq⟩ he => by
        subst hq he
        refine ⟨some ⟨b, o, none⟩, n - 1, n - 1, by rw [HPn.out, HE.out], by rw [HPl.out, List.length_take, ← HN.out]; omega, Nat.le_refl _, ?_, (fun e => by cases e), sDrewN HB1.out q⟩
        rw [HPl.out]
        exact (hst.take (n - 1)).below (sDrewN (Below.refl _ _) q)
      clear hz hl hb1 HLen HS hlen hn HN hst hcell hc HE HPl HPn HSt HB1
      generalize spD s = d at *
      generalize (spL s).getD (n - 1) ⟨#[]⟩ = last at *
      clear z2
      go_wp2_with fail
      go_region
      go_wp2
      exact bodyPost_ret (v := .tuple #[.slice (some ⟨b, o, none⟩) (n - 1) (n - 1), .string last, .int .i64 0]) (by simp [results, Try.results60, go_sem]) rfl (HPs.out _ _ ⟨_, rfl⟩ rfl)
  · have HE := Lib.hid (paE_sp hz)
    have HL := Lib.hid (spL_nil hz)
    have h4 : (spE s == 0) = false := beq_eq_false_iff_ne.2 hz
    go_enter Try.func60, Try.ntmps60
    go_wp2_with fail
    refine HS.out.mono ?_
    rintro e w1 ⟨a, n, c, rfl, -, -, -, -, hb1⟩
    have HB1 := Lib.hid hb1
    clear hz hb1 HLen HS
    generalize spD s = d at *
    have HE2 : Hid (paE s = spE s) := HE
    generalize spE s = z at *
    go_wp2
    exact bodyPost_ret (v := .tuple #[.slice none 0 0, .string ⟨#[]⟩, .int .i64 z]) (by simp [results, Try.results60, go_sem]) rfl (paO_bad HE.out HL.out HB1.out)
end Go.Proofs.Ytcjojcihjhhpgaa
/-
  Within.
-/
namespace Go.Proofs.Ytcjojcihjhhpgaa
open Go.RowKit

def wiB (l m : List ByteArray) : Bool := decide (l.length ≤ m.length) && decide (l = m.take l.length)
theorem equalS_any (l m : List ByteArray) (a b : Option Addr) (n c d : Nat) (w : World) (hn : n = l.length) (hk : n = m.length) (hs : n < 1000000) (ha : Strs w a l) (hb : Strs w b m) :
    Calls Try.prog 79 #[.slice a n c, .slice b n d] w fun e w' => e = .returned (.bool (decide (l = m))) ∧ ∃ q, w' = w.drewN q := by
  subst hn
  by_cases hl : l = []
  · subst hl
    have hm : m = [] := List.eq_nil_of_length_eq_zero hk.symm
    subst hm
    exact (Try.slices_Equal_string_empty a b c 0 d w (by omega)).mono fun e w' ⟨h1, h2⟩ => ⟨h1, 0, by rw [h2]; rfl⟩
  · have hm : m ≠ [] := fun e => hl (List.eq_nil_of_length_eq_zero (by rw [hk, e]; rfl))
    obtain ⟨b1, o1, rfl, h1⟩ := ha hl
    obtain ⟨b2, o2, rfl, h2⟩ := hb hm
    refine (Try.slices_Equal_string b1 o1 l.length c b2 o2 l.length d l m w (Nat.le_refl _) (by omega) (by omega) (by omega) h1 h2).mono fun e w' ⟨h3, h4⟩ => ⟨?_, h4⟩
    have e1 : l.take l.length = l := List.take_of_length_le (Nat.le_refl _)
    have e2 : m.take l.length = m := List.take_of_length_le (by omega)
    exact h3.trans (congrArg (fun b => Ending.returned (Value.bool b)) (decide_eq_decide.2 (by rw [e1, e2])))
theorem cutS_any (a : Option Addr) (n cap hi : Nat) (ha : cap ≠ 0 → ∀ x, a = some x → x.add 0 = x) (hhi : hi ≤ cap) (W : World) :
    (Instr.slice SLS (.slice a n cap) none (some (.int .i64 (hi : Int))) none).run Try.prog W = .ok (.slice a hi cap) W := by
  rw [run_slice_h W SLS _ _ _ und_sls .i64 _ (by omega) (by omega), elem_sls, size_strx]
  by_cases hc : cap = 0
  · simp [Result.andThen, sliced, hc]
  · have : a.map (fun x => x.add 0) = a := by
      cases a with
      | none => rfl
      | some x => simp [ha hc x rfl]
    simp [Result.andThen, sliced, this]
theorem strs_add {w : World} {a : Option Addr} {l : List ByteArray} (h : Strs w a l) (hl : l ≠ []) : ∀ x, a = some x → x.add 0 = x := fun x hx => by
  obtain ⟨b, o, ha, _⟩ := h hl
  rw [ha] at hx; cases hx; rfl
set_option maxHeartbeats 2000000 in
theorem within_any (l m : List ByteArray) (a b : Option Addr) (n k c d : Nat) (w : World) (hn : n = l.length) (hk : k = m.length) (hd : k ≤ d) (hs : k < 1000000) (hx : d ≠ 0 → ∀ x, b = some x → x.add 0 = x) (ha : Strs w a l) (hb : Strs w b m) :
    Calls Try.prog 63 #[.slice a n c, .slice b k d] w fun e w' => e = .returned (.bool (wiB l m)) ∧ Below w.heap.size w w' := by
  have HB := Lib.hid (Below.refl w.heap.size w)
  by_cases hle : n ≤ k
  · have hcut := cutS_any b k d n hx (by omega)
    have HQ : Hid (∀ W, Below w.heap.size w W → Calls Try.prog 79 #[.slice a n c, .slice b n d] W fun e w' => e = .returned (.bool (wiB l m)) ∧ ∃ q, w' = W.drewN q) := fun W hW => by
      have hw : wiB l m = decide (l = m.take n) := by unfold wiB; rw [← hn, decide_eq_true (show n ≤ m.length by omega)]; rfl
      rw [hw]
      exact equalS_any l (m.take n) a b n c d W hn (by rw [List.length_take]; omega) (by omega) (ha.below hW) ((hb.below hW).take n)
    have hle' : (n : Int) ≤ (k : Int) := by omega
    clear hn hk hd hs hx ha hb hle
    generalize wiB l m = r at *
    go_enter Try.func63, Try.ntmps63
    go_wp2_with fail
    refine (HQ.out _ HB.out).mono ?_
    rintro e w1 ⟨rfl, q, rfl⟩
    go_wp2_with fail
    go_ret
    exact ⟨by simp, sDrewN HB.out q⟩
  · have hw : wiB l m = false := by unfold wiB; rw [← hn, decide_eq_false (show ¬ n ≤ m.length by omega)]; rfl
    rw [hw]
    have hle' : ¬ (n : Int) ≤ (k : Int) := by omega
    clear hn hk hd hs hx ha hb hle hw
    go_enter Try.func63, Try.ntmps63
    go_wp2
    go_ret
    exact ⟨rfl, HB.out⟩
end Go.Proofs.Ytcjojcihjhhpgaa
