/-
  The walk of SumTells: one or two bits turned, and any within 32 in a row, change the sum.
-/
import Derived.Test.YtpgddaipbonjjaaDoorSumOpens
import Derived.Test.YtpgddaipbonjjaaDoorSumTellsMath
import Derived.StillTailTactics
import Derived.Lib.SmallJoins
import Derived.ProofKit
namespace Go.Proofs.YtpgddaipbonjjaaDoor
open Go.RowKit

theorem p8_u8 : ∀ r, r < 8 → IntKind.u8.wrap (1 * 2 ^ r) = ((2 ^ r : Nat) : Int) := by decide
theorem shl_u8 (p : Nat) : Op.shift .shl .u8 1 .i64 ((p : Int).tmod 8) = pure (.int .u8 ((2 ^ (p % 8) : Nat) : Int)) := by
  have e : (p : Int).tmod 8 = ((p % 8 : Nat) : Int) := rfl
  rw [e, shift_shl .u8 .i64 1 _ (by omega) (by show ((p % 8 : Nat) : Int) ≤ 8; omega), Int.toNat_natCast, p8_u8 _ (Nat.mod_lt _ (by decide))]
set_option maxHeartbeats 400000 in
theorem turn1_any (l : List Nat) (p g m cap base : Nat) (w : World) (hp : p < 8 * m) (hm : m ≤ 2000) (hown : w.ownsRow base 5 1 (.slice (some ⟨g, 0, none⟩) m cap) m (cellsB l)) (h8 : ∀ y ∈ l, y < 256) :
    Calls Tryd.prog 19 #[.slice (some ⟨g, 0, none⟩) m cap, .int .i64 p] w fun e w' => e = .returned (.tuple #[]) ∧ w'.ownsRow base 5 1 (.slice (some ⟨g, 0, none⟩) m cap) m (cellsB (turnL l p)) ∧ Below base w w' := by
  have hlen : l.length = m := by have := hown.1; rwa [cellsB_length, Nat.mul_one] at this
  have hi : p / 8 < m := by omega
  have hc : w.cell? ⟨g, p / 8, none⟩ = some (.int .u8 (l.getD (p / 8) 0 : Nat)) := by rw [hown.cellAt (p / 8) (by omega)]; exact cellsB_get l _ (by omega)
  have hf := hown.frozenAt (p / 8)
  have hy := getD_byte h8 (p / 8)
  have HO := Lib.hid hown
  have hT : Hid ((cellsB l).set (p / 8) (.int .u8 ((l.getD (p / 8) 0 ^^^ 2 ^ (p % 8) : Nat) : Int)) = cellsB (turnL l p)) := by
    show _ = _
    simp [cellsB, turnL, List.map_set]
  obtain ⟨y, hyy⟩ : ∃ y, l.getD (p / 8) 0 = y := ⟨_, rfl⟩
  rw [hyy] at hc hy hT
  have hshl := shl_u8 p
  have hv := pow8_lt p
  obtain ⟨v, hvv⟩ : ∃ v, 2 ^ (p % 8) = v := ⟨_, rfl⟩
  rw [hvv] at hshl hv hT
  have hxx := u8_xor_nat y v hy hv
  have e1 : IntKind.i64.wrap ((p : Int) / 8) = (p : Int) / 8 := IntWalk.i64_in _ (by omega)
  have hb1 : (0 : Int) ≤ (p : Int) / 8 := by omega
  have hb2 : (p : Int) / 8 < (m : Int) := by omega
  have hb3 : ((p : Int) / 8).toNat = p / 8 := by omega
  clear hvv
  clear hown hyy hlen
  go_enter Tryd.func19, Tryd.ntmps19
  go_wp2_with fail
  go_still_tail 10, (by kernel_rfl)
  have HO3 : Hid (w.drew.ownsRow base 5 1 (.slice (some ⟨g, 0, none⟩) m cap) m (cellsB l)) := HO.out
  have HB3 : Hid (Below base w w.drew) := (Below.refl _ _).drew
  have hc3 : w.drew.cell? ⟨g, p / 8, none⟩ = some (.int .u8 y) := hc
  have hf3 : w.drew.frozen? ⟨g, p / 8, none⟩ = false := hf
  clear hc hf hshl hxx e1
  change wpList _ _ _ _ _ w.drew
  generalize w.drew = wq at HO3 HB3 hc3 hf3 ⊢
  go_wp2
  go_end0
  have hg : base ≤ g := by
    rcases HO.out.2 with ⟨h1, _⟩ | ⟨g', c, cur, h1, h2, _⟩
    · cases h1
    · cases h1; exact h2
  have hs := (HO3.out.stored (p / 8) (.int .u8 ((y ^^^ v : Nat) : Int))).1
  rw [hT.out] at hs
  exact ⟨rfl, hs, HB3.out.setCell hg _⟩

theorem cut_mod8 (x : Int) (n : Nat) (h0 : 0 < n) (hn : n < 4611686018427387904) : ∃ k : Nat, k < n ∧ wrap64 ((IntKind.u64.wrap x).tmod (n : Int)) = (k : Int) := by
  obtain ⟨k, hk, e⟩ := cut_mod x (n - 1) (by omega)
  refine ⟨k, by omega, ?_⟩
  rw [← e]
  congr 2
  omega
set_option maxHeartbeats 400000 in
theorem sumTells_off (n : Nat) (a : Option Addr) (cap : Nat) (x y : Int) (row : Int) (w : World) (hlen : n = 0 ∨ 2000 < n) (hn : n ≤ 9223372036854775807) (ht : Tab w) (hz : 0 < w.heap.size) :
    Calls Tryd.prog 8 #[.slice a n cap, .agg #[.int .i64 x, .int .i64 y], .int .u32 row] w fun e w' => e = .returned (.bool true) ∧ Below w.heap.size w w' := by
  have HT := Lib.hid ht
  clear ht
  rcases hlen with rfl | hlen
  all_goals
    go_enter Tryd.func8, Tryd.ntmps8
    go_wp2_with fail
    have hb0 : Below w.heap.size w (w.alloc (.cells #[.int .i64 x, .int .i64 y] 39)) := (Below.refl _ _).alloc (Nat.le_refl _) _
    refine (awake_any _ (HT.out.below hb0 hz) (by have := hb0.size; omega)).mono ?_
    rintro e w1 ⟨rfl, hb1⟩
    have hb1' : Below w.heap.size w w1 := hb0.trans (hb1.mono hb0.size)
    clear hb1 hb0
    go_wp2_with fail
    refine (awake_any _ (HT.out.below hb1' hz) (by have := hb1'.size; omega)).mono ?_
    rintro e w2 ⟨rfl, hb2⟩
    have hb3 : Below w.heap.size w w2 := hb1'.trans (hb2.mono hb1'.size)
    go_wp2
    go_ret
    exact ⟨rfl, hb3⟩
theorem own_some {w : World} {base m cap : Nat} {e : TypeId} {a : Option Addr} {xs : List Value} (h : w.ownsRow base e 1 (.slice a m cap) m xs) (h0 : 0 < m) : ∃ g, a = some ⟨g, 0, none⟩ := by
  rcases h.2 with ⟨h1, h2⟩ | ⟨g', c, cur, h1, _⟩
  · omega
  · cases h1; exact ⟨g', rfl⟩
theorem Bytes.of_own {w : World} {base m cap : Nat} {e : TypeId} {a : Option Addr} {l : List Nat} (h : w.ownsRow base e 1 (.slice a m cap) m (cellsB l)) (h8 : ∀ y ∈ l, y < 256) : Bytes w a l := by
  obtain ⟨a2, c2, he, _, hB, _⟩ := Bytes.own h h8
  cases he
  exact hB
theorem turn1_at (l : List Nat) (p : Nat) (pi : Int) (hpi : pi = (p : Int)) (g m cap base : Nat) (w : World) (hp : p < 8 * m) (hm : m ≤ 2000) (hown : w.ownsRow base 5 1 (.slice (some ⟨g, 0, none⟩) m cap) m (cellsB l)) (h8 : ∀ y ∈ l, y < 256) :
    Calls Tryd.prog 19 #[.slice (some ⟨g, 0, none⟩) m cap, .int .i64 pi] w fun e w' => e = .returned (.tuple #[]) ∧ w'.ownsRow base 5 1 (.slice (some ⟨g, 0, none⟩) m cap) m (cellsB (turnL l p)) ∧ Below base w w' := by
  subst hpi
  exact turn1_any l p g m cap base w hp hm hown h8
/-- What stands at the head of each round in which a row's bits are turned. -/
def BurstRel (w : World) (g m cap : Nat) (l : List Nat) (x row : Nat) (i : Value) (wr : World) : Prop :=
  ∃ (k : Nat) (dl : List Nat), i = .int .i64 k ∧ k ≤ 32 ∧ x + k ≤ 8 * m ∧ wr.ownsRow w.heap.size 5 1 (.slice (some ⟨g, 0, none⟩) m cap) m (cellsB dl) ∧ Burst l dl x row k ∧ Below w.heap.size w wr
theorem burst_turn {w wr : World} {g m cap x row k : Nat} {l dl : List Nat} (h1 : k < 32) (h2 : x + k < 8 * m) (_ : m = l.length) (ho : wr.ownsRow w.heap.size 5 1 (.slice (some ⟨g, 0, none⟩) m cap) m (cellsB dl))
    (hu : Burst l dl x row (k + 1)) (hb : Below w.heap.size w wr) : BurstRel w g m cap l x row (.int .i64 ((k : Int) + 1)) wr :=
  ⟨k + 1, dl, by go_num, by omega, by omega, ho, hu, hb⟩
theorem and_one (row k : Nat) (hrow : row < 4294967296) : bits .and .u32 ((row : Int) / 2 ^ k) 1 = ((row / 2 ^ k % 2 : Nat) : Int) := by
  have h2 : row / 2 ^ k < 4294967296 := Nat.lt_of_le_of_lt (Nat.div_le_self _ _) hrow
  have := u32_and_nat (row / 2 ^ k) 1 h2 (by omega)
  rw [Nat.and_one_is_mod] at this
  rw [← this]
  congr 1
set_option maxHeartbeats 1000000 in
theorem sumTells_on (l : List Nat) (m : Nat) (hml : m = l.length) (a : Option Addr) (cap : Nat) (x y : Int) (row : Nat) (w : World) (hrow : row < 4294967296) (h0 : 0 < m) (hm : m ≤ 2000) (ht : Tab w) (hz : 0 < w.heap.size) (h : Bytes w a l) (ha : a = none → l = [] ∧ cap = 0) :
    Calls Tryd.prog 8 #[.slice a m cap, .agg #[.int .i64 x, .int .i64 y], .int .u32 row] w fun e w' => e = .returned (.bool true) ∧ Below w.heap.size w w' := by
  have HT := Lib.hid ht
  have H := Lib.hid h
  have HA := Lib.hid ha
  have HML := Lib.hid hml
  have hm0 : ((m : Int) == 0) = false := by simpa using (by omega : ¬ m = 0)
  clear ht h ha hml
  go_enter Tryd.func8, Tryd.ntmps8
  go_wp2_with fail
  have hb0 : Below w.heap.size w (w.alloc (.cells #[.int .i64 x, .int .i64 y] 39)) := (Below.refl _ _).alloc (Nat.le_refl _) _
  have hx0 : Hid ((w.alloc (.cells #[.int .i64 x, .int .i64 y] 39)).cell? ⟨w.heap.size, 0, none⟩ = some (.int .i64 x)) := by show _ = _; simp
  have hy0 : Hid ((w.alloc (.cells #[.int .i64 x, .int .i64 y] 39)).cell? ⟨w.heap.size, 1, none⟩ = some (.int .i64 y)) := by show _ = _; simp
  refine (awake_any _ (HT.out.below hb0 hz) (by have := hb0.size; omega)).mono ?_
  rintro e w1 ⟨rfl, hb1⟩
  have hx1 := cell_later hb1 hx0.out
  have hy1 := cell_later hb1 hy0.out
  have HB1 : Hid (Below w.heap.size w w1) := hb0.trans (hb1.mono hb0.size)
  clear hb0 hb1 hx0 hy0
  go_wp2_with fail
  refine (sum_len l m HML.out a cap _ (HT.out.below HB1.out hz) (H.out.below HB1.out)).mono ?_
  rintro e w' ⟨rfl, rfl⟩
  obtain ⟨p, hp, hpe⟩ := cut_mod8 x (8 * m) (by omega) (by omega)
  obtain ⟨q, hq, hqe⟩ := cut_mod8 y (8 * m) (by omega) (by omega)
  have hn0 : (8 * (m : Int) == 0) = false := by simpa using (by omega : ¬ m = 0)
  rw [show ((8 * m : Nat) : Int) = 8 * (m : Int) by omega] at hpe hqe
  go_wp2_with fail
  go_quiet (fail)
  rename_i nq
  have HB2 : Hid (Below w.heap.size w (w1.drewN nq)) := below_drewN HB1.out _
  generalize w1.drewN nq = w2 at HB2 ⊢
  clear hx1 hy1 hn0 hm0
  have H8 := Lib.hid H.out.1
  have HN : Hid (8 * m = 8 * l.length) := by show _ = _; rw [HML.out]
  have t1 := turn_one l p (by rw [← HN.out]; exact hp)
  have t2 := turn_two l p q (by rw [← HN.out]; omega) (by rw [← HN.out]; exact hp) (by rw [← HN.out]; exact hq)
  have f1 : ((crc (turnL l p) : Int) == (crc l : Int)) = false := by simpa using fun e => t1 (by omega)
  have f2 : ((crc (turnL (turnL l p) q) : Int) == (crc l : Int)) = ((p : Int) == (q : Int)) := by
    rw [Bool.eq_iff_iff]
    simp only [beq_iff_eq]
    constructor
    · intro e; have := t2.1 (by omega); omega
    · intro e; have := t2.2 (by omega); omega
  have HT1 := Lib.hid (turnL_lt H8.out p (by rw [← HN.out]; exact hp))
  have HT2 := Lib.hid (turnL_lt HT1.out q (by rw [turnL_length, ← HN.out]; exact hq))
  have L1 : Hid (m = (turnL l p).length) := by show _ = _; rw [turnL_length]; exact HML.out
  have L2 : Hid (m = (turnL (turnL l p) q).length) := by show _ = _; rw [turnL_length]; exact L1.out
  clear t1 t2
  go_wp2_with (at_builtin; refine wp_append_bytes rfl (.tmp 46) (.tmp 47) 22 rfl w2.heap.size 5 Tryd.underlying22 info_u8 _ 0 [] rfl (World.ownsRow_lit w2 #[] 0 (Nat.le_refl _) (by unfold maxLen; omega) rfl) (by simp) a m cap l rfl HML.out ((H.out.below HB2.out).below ((Below.refl _ _).alloc (Nat.le_refl _) _)) HA.out (by omega) (by simp) ?_; intro a' cap' w3 hown hgr hB hn; rw [Nat.zero_add, List.nil_append] at hown; have HO3 := Lib.hid hown; have HB3 : Hid (Below w2.heap.size w2 w3) := ((Below.refl _ _).alloc (Nat.le_refl _) _).grown hgr (by simp) (fun k hk => by cases hk; exact Nat.le_refl _); clear hown hgr hB hn)
  clear hpe hqe
  obtain ⟨g, hg⟩ := own_some HO3.out h0
  subst hg
  refine (turn1_any l p g m cap' w2.heap.size _ hp hm HO3.out H8.out).mono ?_
  rintro e w4 ⟨rfl, ho4, hb4⟩
  have HO4 := Lib.hid ho4
  have HB4 : Hid (Below w2.heap.size w2 w4) := HB3.out.trans hb4
  have HD4 : Hid (Below w.heap.size w w4) := HB2.out.trans (HB4.out.mono HB2.out.size)
  have HY4 : Hid (Bytes w4 (some ⟨g, 0, none⟩) (turnL l p)) := Bytes.of_own ho4 HT1.out
  clear ho4 hb4
  go_wp2_with fail
  refine (sum_len (turnL l p) m L1.out _ cap' _ (HT.out.below HD4.out hz) HY4.out).mono ?_
  rintro e w' ⟨rfl, rfl⟩
  go_wp2_with fail
  refine (turn1_any (turnL l p) q g m cap' w2.heap.size _ hq hm HO4.out HT1.out).mono ?_
  rintro e w5 ⟨rfl, ho5, hb5⟩
  have HB5 : Hid (Below w2.heap.size w2 w5) := HB4.out.trans hb5
  have HD5 : Hid (Below w.heap.size w w5) := HB2.out.trans (HB5.out.mono HB2.out.size)
  have HY5 : Hid (Bytes w5 (some ⟨g, 0, none⟩) (turnL (turnL l p) q)) := Bytes.of_own ho5 HT2.out
  clear ho5 hb5
  go_wp2_with fail
  refine (sum_len (turnL (turnL l p) q) m L2.out _ cap' _ (HT.out.below HD5.out hz) HY5.out).mono ?_
  rintro e w' ⟨rfl, rfl⟩
  go_wp2_with (at_builtin; refine wp_append_bytes rfl (.tmp 69) (.tmp 70) 22 rfl w5.heap.size 5 Tryd.underlying22 info_u8 _ 0 [] rfl (World.ownsRow_lit w5 #[] 0 (Nat.le_refl _) (by unfold maxLen; omega) rfl) (by simp) a m cap l rfl HML.out ((H.out.below HD5.out).below ((Below.refl _ _).alloc (Nat.le_refl _) _)) HA.out (by omega) (by simp) ?_; intro a6 cap6 w6 hown hgr hB hn; rw [Nat.zero_add, List.nil_append] at hown; have HO6 := Lib.hid hown; have HB6 : Hid (Below w5.heap.size w5 w6) := ((Below.refl _ _).alloc (Nat.le_refl _) _).grown hgr (by simp) (fun k hk => by cases hk; exact Nat.le_refl _); clear hown hgr hB hn)
  obtain ⟨g6, hg6⟩ := own_some HO6.out h0
  subst hg6
  have HP := Lib.hid hp
  clear hq f1 f2
  go_loopw [14] (fun i wr => BurstRel w5 g6 m cap6 l p row i wr) (fun i _ => 32 - (intOf i).toNat)
  case atStart => exact ⟨0, l, rfl, by omega, by omega, HO6.out, Burst.start H8.out p row, HB6.out⟩
  case round =>
    obtain ⟨k, dl, rfl, hk, hkn, hown, hbu, hbr⟩ := hrel
    have HO := Lib.hid hown
    have HU := Lib.hid hbu
    have HB := Lib.hid hbr
    clear hown hbu hbr
    by_cases hlt : k < 32 ∧ p + k < 8 * m
    · obtain ⟨hlt1, hlt2⟩ := hlt
      have g1 : (k : Int) < 32 := by omega
      have g2 : (p : Int) + (k : Int) < 8 * (m : Int) := by omega
      have g3 : ((p : Int) + (k : Int)).toNat = p + k := by omega
      by_cases hb : row / 2 ^ k % 2 = 1
      · have hand := and_one row k hrow
        rw [hb] at hand
        have HBit := Lib.hid hb
        clear hb
        go_wp2_with (go_at_call 19; refine (turn1_at dl (p + k) _ (by omega) g6 m cap6 w5.heap.size _ hlt2 hm HO.out HU.out.lt).mono ?_; rintro e wz ⟨rfl, hoz, hbz⟩; have HOz := Lib.hid hoz; have HBz := Lib.hid hbz; clear hoz hbz)
        go_roundw
        case rel => exact burst_turn hlt1 hlt2 HML.out HOz.out (HU.out.turn HBit.out (by rw [← HML.out]; exact hlt2)) (HB.out.trans HBz.out)
        case measure => simp [intOf]; omega
      · have hand := and_one row k hrow
        have hb0 : row / 2 ^ k % 2 = 0 := by omega
        rw [hb0] at hand
        have HBit := Lib.hid hb
        clear hb hb0
        go_wp2
        go_roundw
        case rel => exact burst_turn hlt1 hlt2 HML.out HO.out (HU.out.skip HBit.out) HB.out
        case measure => simp [intOf]; omega
    · have HDr : Hid (Below w.heap.size w wr) := HD5.out.trans (HB.out.mono HD5.out.size)
      have HYr : Hid (Bytes wr (some ⟨g6, 0, none⟩) dl) := Bytes.of_own HO.out HU.out.lt
      have Ld : Hid (m = dl.length) := by show _ = _; rw [HU.out.len]; exact HML.out
      have s1 : ∀ q, (convert 22 9 (.slice (some ⟨g6, 0, none⟩) m cap6)).run Tryd.prog (wr.drewN q) = .ok (.string (strOf dl)) (wr.drewN q) := fun q => run_str _ 22 9 5 Tryd.underlying22 Tryd.underlying5 Tryd.underlying9 dl _ m cap6 Ld.out (HYr.out.drewN q)
      have s2 : ∀ q, (convert 22 9 (.slice a m cap)).run Tryd.prog (wr.drewN q) = .ok (.string (strOf l)) (wr.drewN q) := fun q => run_str _ 22 9 5 Tryd.underlying22 Tryd.underlying5 Tryd.underlying9 l a m cap HML.out ((H.out.below HDr.out).drewN q)
      have hend : ¬ ((k : Int) < 32 ∧ (p : Int) + (k : Int) < 8 * (m : Int)) := fun e => hlt (by omega)
      have f3 : Hid (((crc dl : Int) == (crc l : Int)) = decide (dl = l)) := by
        show _ = _
        rw [Bool.eq_iff_iff]
        simp only [beq_iff_eq, decide_eq_true_eq]
        rw [← HU.out.told hk]
        omega
      have f4 : Hid (((strOf dl).toList == (strOf l).toList) = decide (dl = l)) := by
        show _ = _
        by_cases hd : dl = l
        · subst hd; simp
        · rw [str_ne HU.out.lt H8.out hd, decide_eq_false hd]
      have HTr := Lib.hid (HT.out.below HDr.out hz)
      go_wp2_with fail
      all_goals
        go_quiet ((go_at_call 11; exact Calls.quiet_of_same (flip_same (sum_len dl m Ld.out (some ⟨g6, 0, none⟩) cap6 _ (HTr.out.drewN _) (HYr.out.drewN _)))))
        go_wp2
        go_ret
        exact ⟨by rw [f3.out, f4.out]; simp, below_drewN HDr.out _⟩
section
open Go.ChangeShapes Go.WideShapes Go.ChangeAt
/-- An array of two integers that came in by value. -/
theorem open_pair {H : Type} {enc : TypeId × Value → H} {P : Program} {w : World} {base : Nat} {spare : Nat → Bool} {held : Bool} {r : Reach} {b0 : Nat} {t e : TypeId} {v : Value} {d : DataW H} {p : List MemPlace}
    (hs : P.underlying t = some (.array 2 e)) (he : P.underlying e = some (.int .i64)) (hc : P.cellsOf e = 1) (hC : P.cellsOf t = 2) (hv : Value.okWide P w r b0 t v) (h : DataW.Trod enc P w base spare held t v d p) :
    ∃ x y : Int, v = .agg #[.int .i64 x, .int .i64 y] ∧ (Lit.int .i64 x).wf = true ∧ (Lit.int .i64 y).wf = true := by
  simp only [Value.okWide, hs] at hv
  obtain ⟨cs, rfl, hsz, _⟩ := hv
  obtain ⟨c0, c1, rfl⟩ := Go.Joins.array2 (hsz.trans hC)
  obtain ⟨fuel, hf⟩ := h
  obtain ⟨xs, m, rfl, hx1, hlen, hn, hel⟩ := DataW.trod_array hs hf
  have h0 := hel 0 (by decide)
  have h1 := hel 1 (by decide)
  rw [hc] at h0 h1
  rw [List.getElem?_eq_getElem (by omega)] at h0 h1
  obtain ⟨x, e1, _, wx⟩ := DataW.trod_int he h0
  obtain ⟨y, e2, _, wy⟩ := DataW.trod_int he h1
  simp [Value.cells] at e1 e2
  exact ⟨x, y, by rw [e1, e2], wx, wy⟩
end
theorem sumTells_walk (a0 : Option Addr) (len0 cap0 : Nat) (z0 : List Int) (x y row : Int) (w : World) (hL : Tab w ∧ 0 < w.heap.size) (w0 : IsRow .u8 w a0 len0 cap0 z0) (_ : True) (w2 : (Lit.int .u32 row).wf = true) :
    Calls Tryd.prog 8 #[.slice a0 len0 cap0, .agg #[.int .i64 x, .int .i64 y], .int .u32 row] w fun e w' => e = .returned (.bool true) ∧ Below w.heap.size w w' := by
  obtain ⟨l, hl, hB, ha, hm, hc⟩ := w0.bytes
  by_cases h : len0 = 0 ∨ 2000 < len0
  · exact sumTells_off len0 a0 cap0 x y row w h hm hL.1 hL.2
  · have hr := bounds_u32 w2
    obtain ⟨r, rfl⟩ := Int.eq_ofNat_of_zero_le hr.1
    exact sumTells_on l len0 hl a0 cap0 x y r w (by omega) (by omega) (by omega) hL.1 hL.2 hB ha
end Go.Proofs.YtpgddaipbonjjaaDoor
