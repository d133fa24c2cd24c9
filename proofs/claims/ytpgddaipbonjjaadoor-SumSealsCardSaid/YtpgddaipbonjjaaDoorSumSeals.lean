/-
  The walk of SumSeals: bytes with their sum, opened again, and in memory of their own.
-/
import Derived.Test.YtpgddaipbonjjaaDoorSumOpens
namespace Go.Proofs.YtpgddaipbonjjaaDoor
open Go.RowKit

theorem run_make_cap {P : Program} (T e : TypeId) (ht : P.underlying T = some (.slice e)) (hi : (P.info? e).map (fun i => (i.zero, i.size, i.bytes)) = some (some (.int .u8 0), 1, 1))
    (w : World) (m : Int) (n : Nat) (hm : m = (n : Int)) (hn : n ≤ 140737488355328) :
    (Instr.makeSlice T (.int .i64 0) (.int .i64 m)).run P w = .ok (.slice (some ⟨w.heap.size, 0, none⟩) 0 n) (w.alloc (.cells (cellsB (List.replicate n 0)).toArray e)) := by
  obtain ⟨i, hi0, hz, hs1, hb1⟩ := info_parts hi
  subst hm
  have hr := run_make (P := P) w T e i (.int .u8 0) ht hi0 hz .i64 .i64 0 n (by omega) (by omega) (by rw [hb1]; omega) (by omega)
  simp only [Int.toNat_natCast] at hr
  rw [hr, hs1]
  congr 3
  apply Array.toList_inj.1
  rw [show (Value.int .u8 0).cells = #[Value.int .u8 0] from rfl, Nat.mul_one, toList_madeCells_one]
  simp [cellsB]
theorem Row.own {w : World} {g base n : Nat} {l : List Nat} (h : Row w g l) (hn : n = l.length) (hb : base ≤ g) (hm : n ≤ 1099511627776) : w.ownsRow base 5 1 (.slice (some ⟨g, 0, none⟩) n n) n (cellsB l) := by
  subst hn
  refine ⟨by rw [cellsB_length, Nat.mul_one], .inr ⟨g, l.length, (cellsB l).toArray, rfl, hb, h, Nat.le_refl _, by unfold maxLen; omega, by rw [List.size_toArray, cellsB_length, Nat.mul_one], ?_⟩⟩
  rw [Nat.mul_one, List.take_of_length_le (by simp [cellsB_length])]
theorem pair_cells : ∀ i, i < ([1, 2] : List Nat).length → (#[Value.int .u8 1, .int .u8 2] : Array Value)[i]? = some (.int .u8 (([1, 2] : List Nat).getD i 0 : Nat)) := by
  intro i hi
  match i, hi with
  | 0, _ | 1, _ => rfl
/-- What stands at the head of each round in which bytes of one's own are turned. -/
def IncRel (w : World) (base g n cap : Nat) (i : Value) (wr : World) : Prop :=
  ∃ (k : Nat) (ys : List Nat), k ≤ n ∧ i = .int .i64 k ∧ wr.ownsRow base 5 1 (.slice (some ⟨g, 0, none⟩) n cap) n (cellsB ys) ∧ (∀ y ∈ ys, y < 256) ∧ Below base w wr
theorem inc_step {w wr : World} {base g n cap k : Nat} {ys : List Nat} (hk : k < n) (ho : wr.ownsRow base 5 1 (.slice (some ⟨g, 0, none⟩) n cap) n (cellsB ys)) (hy : ∀ y ∈ ys, y < 256) (hb : Below base w wr) (y : Nat) :
    IncRel w base g n cap (.int .i64 ((k : Int) + 1)) (wr.setCell ⟨g, k, none⟩ (.int .u8 (((y : Int) + 1) % 256))) := by
  have e : (Value.int .u8 (((y : Int) + 1) % 256)) = .int .u8 (((y + 1) % 256 : Nat) : Int) := rfl
  rw [e]
  have hs := (ho.stored k (.int .u8 (((y + 1) % 256 : Nat) : Int))).1
  have hg : base ≤ g := by
    rcases ho.2 with ⟨h1, _⟩ | ⟨g', c, cur, h1, h2, _⟩
    · cases h1
    · cases h1; exact h2
  refine ⟨k + 1, ys.set k ((y + 1) % 256), by omega, by go_num, ?_, ?_, hb.setCell hg _⟩
  · have : (cellsB ys).set k (.int .u8 (((y + 1) % 256 : Nat) : Int)) = cellsB (ys.set k ((y + 1) % 256)) := by simp [cellsB, List.map_set]
    rw [this] at hs
    exact hs
  · intro z hz
    rcases List.mem_or_eq_of_mem_set hz with h | h
    · exact hy z h
    · omega

set_option maxHeartbeats 400000 in
theorem sumSeals_long (n : Nat) (a : Option Addr) (cap : Nat) (w : World) (hlen : 5000 < n) (hn : n ≤ 9223372036854775807) (ht : Tab w) (hz : 0 < w.heap.size) :
    Calls Tryd.prog 5 #[.slice a n cap] w fun e w' => e = .returned (.bool true) ∧ Below w.heap.size w w' := by
  have HT := Lib.hid ht
  clear ht
  go_enter Tryd.func5, Tryd.ntmps5
  go_wp2_with fail
  refine (awake_any _ HT.out hz).mono ?_
  rintro e w1 ⟨rfl, hb1⟩
  go_wp2_with fail
  refine (awake_any _ (HT.out.below hb1 hz) (by have := hb1.size; omega)).mono ?_
  rintro e w2 ⟨rfl, hb2⟩
  have hb3 : Below w.heap.size w w2 := hb1.trans (hb2.mono hb1.size)
  go_wp2
  go_ret
  exact ⟨rfl, hb3⟩
set_option maxHeartbeats 4000000 in
theorem sumSeals_short (l : List Nat) (n : Nat) (hn : n = l.length) (a : Option Addr) (cap : Nat) (w : World) (hlen : n ≤ 5000) (ht : Tab w) (hz : 0 < w.heap.size) (h : Bytes w a l) (ha : a = none → l = [] ∧ cap = 0) :
    Calls Tryd.prog 5 #[.slice a n cap] w fun e w' => e = .returned (.bool true) ∧ Below w.heap.size w w' := by
  have H := Lib.hid h
  have HT := Lib.hid ht
  have HA := Lib.hid ha
  have HN := Lib.hid hn
  have H8 := Lib.hid h.1
  have HS8 := Lib.hid (sealN_lt h.1)
  have HL4 : Hid (n + 4 = (sealN l).length) := by show _ = _; rw [len4, hn]
  have HTK : Hid ((sealN l).take n = l) := by show _ = _; rw [hn]; simp [sealN]
  clear h ht ha hn
  go_enter Tryd.func5, Tryd.ntmps5
  go_wp2_with fail
  refine (awake_any _ HT.out hz).mono ?_
  rintro e w1 ⟨rfl, hb1⟩
  have HB1 := Lib.hid hb1
  have H1 := Lib.hid (H.out.below hb1)
  have hmk := run_make_cap (P := Tryd.prog) 22 5 Tryd.underlying22 info_u8 w1 ((n : Int) + 20) (n + 20) (by omega) (by omega)
  clear hb1
  go_wp2_with (at_builtin; refine wp_append_bytes rfl (.tmp 20) (.tmp 21) 22 rfl w1.heap.size 5 Tryd.underlying22 info_u8 _ 0 [] rfl (World.ownsRow_made w1 _ (n + 20) (Nat.le_refl _) (by unfold maxLen; omega) (by simp [cellsB_length])) (by simp) a n cap l rfl HN.out (H1.out.below ((Below.refl _ _).alloc (Nat.le_refl _) _)) HA.out (by omega) (by simp) ?_; intro a' cap' w2 hown hgr hB hn; have HC := Lib.hid (copied_of HB1.out HN.out hown _ hgr (fun k hk => by cases hk; exact Nat.le_refl _) hB); clear hown hgr hB hn)
  refine (seal_any l n HN.out (by omega) a' cap' _ (HT.out.below HC.out.below hz) (by have := HC.out.below.size; omega) HC.out.bytes).mono ?_
  rintro e w3 ⟨rfl, hr3, hb3⟩
  have HR3 := Lib.hid hr3
  have HB3 := Lib.hid hb3
  clear hr3 hb3
  have hsL : (sealN l).length ≤ 9223372036854775807 := by rw [← HL4.out]; omega
  have hcs : Hid (∀ W, Row W w2.heap.size (sealN l) → (convert 22 9 (.slice (some ⟨w2.heap.size, 0, none⟩) (n + 4) (n + 4))).run Tryd.prog W = .ok (.string (strOf (sealN l))) W) := fun W hr =>
    run_str W 22 9 5 Tryd.underlying22 Tryd.underlying5 Tryd.underlying9 (sealN l) _ _ _ HL4.out (hr.bytes HS8.out hsL)
  have HD3 : Hid (Below w.heap.size w w3) := HC.out.below.trans (HB3.out.mono HC.out.below.size)
  have hg3 : w2.heap.size < w3.heap.size := by
    have h := HR3.out
    unfold Row at h
    rcases Nat.lt_or_ge w2.heap.size w3.heap.size with h' | h'
    · exact h'
    · rw [Array.getElem?_eq_none h'] at h; cases h
  go_wp2_with fail
  go_region_held (fun W => (convert 22 9 (.slice (some ⟨w2.heap.size, 0, none⟩) (n + 4) (n + 4))).run Tryd.prog W = .ok (.string (strOf (sealN l))) W)
    (first | exact hcs.out _ HR3.out | exact hcs.out _ HR4.out)
    (first | (go_at_call 15; refine (refSeal_any l n HN.out (by omega) a cap _ (H.out.below HD3.out.drew) HA.out).mono ?_; rintro e w4 ⟨a4, cap4, rfl, hby, hbw, _, _⟩; have HB4 : Hid (Below w3.heap.size w3 w4) := ((Below.refl _ _).drew).trans hbw; have hcv := run_str w4 22 9 5 Tryd.underlying22 Tryd.underlying5 Tryd.underlying9 (sealN l) a4 _ cap4 HL4.out hby; have HR4 : Hid (Row w4 w2.heap.size (sealN l)) := HR3.out.below HB4.out hg3; clear hby hbw))
  have HX4 := Lib.hid (HR4.out.bytes HS8.out hsL)
  have HD4 : Hid (Below w.heap.size w w4) := HD3.out.trans (HB4.out.mono HD3.out.size)
  clear hcv
  go_wp2_with fail
  refine (open_good (sealN l) (n + 4) n HL4.out rfl (by omega) _ (n + 4) (Nat.le_refl _) _ (HT.out.below HD4.out hz) HX4.out (fun h => by cases h) (by rw [HTK.out])).mono ?_
  rintro e w5 ⟨gx, rfl, hr5, hg5, hb5⟩
  rw [HTK.out] at hr5
  have HR5 := Lib.hid hr5
  have HB5 := Lib.hid hb5
  have HD5 : Hid (Below w.heap.size w w5) := HD4.out.trans (hb5.mono HD4.out.size)
  have HG5 := Lib.hid hg5
  clear hr5 hb5 hg5
  have s1 := run_str w5 22 9 5 Tryd.underlying22 Tryd.underlying5 Tryd.underlying9 l (some ⟨gx, 0, none⟩) n n HN.out (HR5.out.bytes H8.out (by rw [← HN.out]; omega))
  have s2 := run_str w5 22 9 5 Tryd.underlying22 Tryd.underlying5 Tryd.underlying9 l a n cap HN.out (H.out.below HD5.out)
  go_wp2_with (at_builtin; refine wp_append_bytes rfl (.tmp 45) (.tmp 46) 22 rfl w4.heap.size 5 Tryd.underlying22 info_u8 _ n l rfl ((HR5.out.own HN.out HG5.out (by omega)).alloc _) H8.out (some ⟨w5.heap.size, 0, none⟩) 2 2 [1, 2] rfl rfl (Bytes.laid w5 [1, 2] _ _ _ (by decide) (by decide) pair_cells) (fun h => by cases h) (by omega) (by have := HB5.out.size; simp; omega) ?_; intro a6 cap6 w6 hown hgr hB hn; have HO6 := Lib.hid hown; have HB6 : Hid (Below w4.heap.size w4 w6) := (HB5.out.alloc HB5.out.size _).grown hgr (by have := HB5.out.size; simp; omega) (fun k hk => by cases hk; exact HG5.out); have HY6 := Lib.hid hB; clear hown hgr hB hn)
  clear s1 s2
  obtain ⟨g6, hg6⟩ : ∃ g6, a6 = some ⟨g6, 0, none⟩ := by
    rcases HO6.out.2 with ⟨h1, h0⟩ | ⟨g', c, cur, h1, _⟩
    · omega
    · cases h1; exact ⟨g', rfl⟩
  subst hg6
  go_loopw [50] (fun i wr => IncRel w4 w4.heap.size g6 (n + 2) cap6 i wr) (fun i _ => n + 2 - (intOf i).toNat)
  case atStart => exact ⟨0, l ++ [1, 2], by omega, rfl, HO6.out, HY6.out.1, HB6.out⟩
  case round =>
    obtain ⟨k, ys, hk, rfl, hown, hy8, hbr⟩ := hrel
    have HO := Lib.hid hown
    have HY := Lib.hid hy8
    have HB := Lib.hid hbr
    clear hown hy8 hbr
    by_cases hlt : k < n + 2
    · have hyl : ys.length = n + 2 := by have := HO.out.1; rwa [cellsB_length, Nat.mul_one] at this
      have hcell : wr.cell? ⟨g6, k, none⟩ = some (.int .u8 (ys.getD k 0 : Nat)) := by rw [HO.out.cellAt k (by omega)]; exact cellsB_get ys k (by omega)
      have hfro := HO.out.frozenAt k
      have hy := getD_byte HY.out k
      obtain ⟨y, hyy⟩ : ∃ y, ys.getD k 0 = y := ⟨_, rfl⟩
      rw [hyy] at hcell hy
      clear hyy hyl
      go_wp2
      go_roundw
      case rel => exact inc_step hlt HO.out HY.out HB.out y
      case measure => simp [intOf]; omega
    · obtain rfl : k = n + 2 := by omega
      clear hlt
      have hg4 : w2.heap.size < w4.heap.size := by have := HB4.out.size; omega
      have HR7 : Hid (Row wr w2.heap.size (sealN l)) := HR4.out.below HB.out hg4
      have HD7 : Hid (Below w.heap.size w wr) := HD4.out.trans (HB.out.mono HD4.out.size)
      have hg7 : w2.heap.size < wr.heap.size := by have := HB.out.size; omega
      go_wp2_with fail
      go_region_held (fun W => (convert 22 9 (.slice (some ⟨w2.heap.size, 0, none⟩) (n + 4) (n + 4))).run Tryd.prog W = .ok (.string (strOf (sealN l))) W)
        (first | exact hcs.out _ HR7.out | exact hcs.out _ HR8.out)
        (first | (go_at_call 15; refine (refSeal_any l n HN.out (by omega) a cap _ (H.out.below HD7.out.drew) HA.out).mono ?_; rintro e w8 ⟨a8, cap8, rfl, hby, hbw, _, _⟩; have HB8 : Hid (Below wr.heap.size wr w8) := ((Below.refl _ _).drew).trans hbw; have hcv := run_str w8 22 9 5 Tryd.underlying22 Tryd.underlying5 Tryd.underlying9 (sealN l) a8 _ cap8 HL4.out hby; have HR8 : Hid (Row w8 w2.heap.size (sealN l)) := HR7.out.below HB8.out hg7; clear hby hbw))
      clear hcv
      have HD8 : Hid (Below w2.heap.size w2 w8) := HB3.out.trans ((HB4.out.mono HB3.out.size).trans ((HB.out.mono (by omega)).trans (HB8.out.mono (by omega))))
      go_wp2_with fail
      obtain ⟨wo, rfl⟩ : ∃ wo : World, wo = wr := ⟨_, rfl⟩
      go_loopw [68] (fun i wq => IncRel w2 w2.heap.size w2.heap.size (n + 4) (n + 4) i wq) (fun i _ => n + 4 - (intOf i).toNat)
      case atStart => exact ⟨0, sealN l, by omega, rfl, HR8.out.own HL4.out (Nat.le_refl _) (by omega), HS8.out, HD8.out⟩
      case round =>
        obtain ⟨k, ys, hk, rfl, hown, hy8, hbr⟩ := hrel
        have HO9 := Lib.hid hown
        have HY9 := Lib.hid hy8
        have HB9 := Lib.hid hbr
        clear hown hy8 hbr
        by_cases hlt : k < n + 4
        · have hyl : ys.length = n + 4 := by have := HO9.out.1; rwa [cellsB_length, Nat.mul_one] at this
          have hcell : wr.cell? ⟨w2.heap.size, k, none⟩ = some (.int .u8 (ys.getD k 0 : Nat)) := by rw [HO9.out.cellAt k (by omega)]; exact cellsB_get ys k (by omega)
          have hfro := HO9.out.frozenAt k
          have hy := getD_byte HY9.out k
          obtain ⟨y, hyy⟩ : ∃ y, ys.getD k 0 = y := ⟨_, rfl⟩
          rw [hyy] at hcell hy
          clear hyy hyl
          go_wp2
          go_roundw
          case rel => exact inc_step hlt HO9.out HY9.out HB9.out y
          case measure => simp [intOf]; omega
        · obtain rfl : k = n + 4 := by omega
          clear hlt
          have HDz : Hid (Below w.heap.size w wr) := HC.out.below.trans (HB9.out.mono HC.out.below.size)
          have s3 := run_str wr 22 9 5 Tryd.underlying22 Tryd.underlying5 Tryd.underlying9 l a' n cap' HN.out (HC.out.bytes.below HB9.out)
          have s4 := run_str wr 22 9 5 Tryd.underlying22 Tryd.underlying5 Tryd.underlying9 l a n cap HN.out (H.out.below HDz.out)
          go_wp2
          go_ret
          exact ⟨rfl, HDz.out⟩
theorem sumSeals_walk (a0 : Option Addr) (len0 cap0 : Nat) (z0 : List Int) (w : World) (hL : Tab w ∧ 0 < w.heap.size) (w0 : IsRow .u8 w a0 len0 cap0 z0) :
    Calls Tryd.prog 5 #[.slice a0 len0 cap0] w fun e w' => e = .returned (.bool true) ∧ Below w.heap.size w w' := by
  obtain ⟨l, hl, hB, ha, hm, hc⟩ := w0.bytes
  by_cases h : len0 ≤ 5000
  · exact sumSeals_short l len0 hl a0 cap0 w h hL.1 hL.2 hB ha
  · exact sumSeals_long len0 a0 cap0 w (by omega) hm hL.1 hL.2
end Go.Proofs.YtpgddaipbonjjaaDoor
