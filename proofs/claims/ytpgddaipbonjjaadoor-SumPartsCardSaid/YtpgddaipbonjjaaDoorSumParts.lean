/-
  The walk of SumParts: the sum of lists of bytes, one behind the other.
-/
import Derived.Test.YtpgddaipbonjjaaDoorSumWalks
import Derived.Deep.Slices
namespace Go.Proofs.YtpgddaipbonjjaaDoor
open Go.RowKit

theorem crc_nil : crc [] = 0 := by decide +kernel
def nthL (L : List (List Nat)) (i : Nat) : List Nat := L.getD i []
/-- A slice of slices of bytes: its lists, where each stands, and its room. -/
structure Lists (w : World) (a : Option Addr) (n : Nat) (A : Nat → Option Addr) (C : Nat → Nat) (L : List (List Nat)) : Prop where
  len : n = L.length
  le : n ≤ 9223372036854775807
  at_ : n ≠ 0 → ∃ b o, a = some ⟨b, o, none⟩ ∧ ∀ i, i < n → w.cell? ⟨b, o + i, none⟩ = some (.slice (A i) (nthL L i).length (C i))
  each : ∀ i, i < n → Bytes w (A i) (nthL L i) ∧ (A i = none → nthL L i = [] ∧ C i = 0) ∧ (nthL L i).length ≤ C i
theorem Lists.below {w w' : World} {a : Option Addr} {n : Nat} {A : Nat → Option Addr} {C : Nat → Nat} {L : List (List Nat)} (h : Lists w a n A C L) (hb : Below w.heap.size w w') : Lists w' a n A C L :=
  ⟨h.len, h.le, fun hn => by
    obtain ⟨b, o, ha, hc⟩ := h.at_ hn
    exact ⟨b, o, ha, fun i hi => cell_later hb (hc i hi)⟩, fun i hi => ⟨(h.each i hi).1.below hb, (h.each i hi).2⟩⟩
def flat (L : List (List Nat)) (k : Nat) : List Nat := (L.take k).flatten
theorem flat_succ (L : List (List Nat)) (k : Nat) (h : k < L.length) : flat L (k + 1) = flat L k ++ nthL L k := by
  unfold flat
  rw [List.take_succ_eq_append_getElem h, List.flatten_append, nthL, List.getD_eq_getElem?_getD, List.getElem?_eq_getElem h]
  simp
theorem flat_bytes {w : World} {a : Option Addr} {n : Nat} {A : Nat → Option Addr} {C : Nat → Nat} {L : List (List Nat)} (h : Lists w a n A C L) : ∀ k, k ≤ n → ∀ x ∈ flat L k, x < 256 := by
  intro k
  induction k with
  | zero => intro _ x hx; simp [flat] at hx
  | succ k ih =>
    intro hk x hx
    rw [flat_succ L k (by have := h.len; omega), List.mem_append] at hx
    rcases hx with hx | hx
    · exact ih (by omega) x hx
    · exact (h.each k (by omega)).1.1 x hx

set_option maxHeartbeats 400000 in
theorem parts_some (b o cap n : Nat) (A : Nat → Option Addr) (C : Nat → Nat) (L : List (List Nat)) (w : World) (ht : Tab w) (h : Lists w (some ⟨b, o, none⟩) n A C L) (hn : n ≠ 0) :
    Calls Tryd.prog 18 #[.slice (some ⟨b, o, none⟩) n cap] w fun e w' => e = .returned (.int .u32 (crc (flat L n) : Nat)) ∧ w = w' := by
  have HT := Lib.hid ht
  have H := Lib.hid h
  have hle := h.le
  have hcells : Hid (∀ i, i < n → w.cell? ⟨b, o + i, none⟩ = some (.slice (A i) (nthL L i).length (C i))) := by
    obtain ⟨b', o', hab, hc⟩ := h.at_ hn
    cases hab
    exact hc
  have c0 : Hid (crc [] = 0) := crc_nil
  clear ht h hn
  go_enter Tryd.func18, Tryd.ntmps18
  go_wp2_with fail
  refine (sum_len [] 0 rfl _ _ _ HT.out (Bytes.none _ _)).mono ?_
  rintro e w' ⟨rfl, rfl⟩
  rw [c0.out]
  go_wp2_with fail
  go_loop [3, 9] (fun t i => ∃ k : Nat, k ≤ n ∧ i = .int .i64 k ∧ t = .int .u32 (crc (flat L k) : Nat)) (fun _ i => n - (intOf i).toNat)
  case atStart => exact ⟨0, by omega, rfl, by rw [show flat L 0 = [] from rfl, c0.out]; rfl⟩
  case round =>
    obtain ⟨k, hk, rfl, rfl⟩ := hrel
    by_cases hlt : k < n
    · have hcell := hcells.out k hlt
      have hB := Lib.hid (H.out.each k hlt)
      have hl8 : Hid (crc (flat L k) < 4294967296) := crc_lt _ (flat_bytes H.out k hk)
      have HS : Hid (moreN (crc (flat L k)) (nthL L k) = crc (flat L (k + 1))) := by show _ = _; rw [more_crc, flat_succ L k (by have := H.out.len; omega)]
      have hlen := hB.out.1.2.1
      go_wp2_with (go_at_call 13; refine (more_len _ (nthL L k) _ rfl (A k) (C k) _ hl8.out HT.out hB.out.1).mono ?_; rintro e w' ⟨rfl, rfl⟩)
      go_round
      case rel => exact ⟨k + 1, by omega, by go_num, by rw [HS.out]⟩
      case measure => simp [intOf]; omega
    · obtain rfl : k = n := by omega
      clear hlt
      go_wp2
      go_ret
      exact ⟨rfl, rfl⟩
set_option maxHeartbeats 400000 in
theorem parts_none (a : Option Addr) (cap : Nat) (w : World) (ht : Tab w) :
    Calls Tryd.prog 18 #[.slice a 0 cap] w fun e w' => e = .returned (.int .u32 0) ∧ w = w' := by
  have HT := Lib.hid ht
  have c0 : Hid (crc [] = 0) := crc_nil
  clear ht
  go_enter Tryd.func18, Tryd.ntmps18
  go_wp2_with fail
  refine (sum_len [] 0 rfl _ _ _ HT.out (Bytes.none _ _)).mono ?_
  rintro e w' ⟨rfl, rfl⟩
  rw [c0.out]
  go_wp2_with fail
  refine wp_loop_rounds 1 ?_
  rw [rounds_succ]
  go_wp2
  go_ret
  exact ⟨rfl, rfl⟩
theorem parts_any (a : Option Addr) (cap n : Nat) (A : Nat → Option Addr) (C : Nat → Nat) (L : List (List Nat)) (w : World) (ht : Tab w) (h : Lists w a n A C L) :
    Calls Tryd.prog 18 #[.slice a n cap] w fun e w' => e = .returned (.int .u32 (crc (flat L n) : Nat)) ∧ w = w' := by
  by_cases hn : n = 0
  · subst hn
    have : crc (flat L 0) = 0 := by rw [show flat L 0 = [] from rfl]; decide +kernel
    rw [this]
    exact parts_none a cap w ht
  · obtain ⟨b, o, rfl, _⟩ := h.at_ hn
    exact parts_some b o cap n A C L w ht h hn

set_option maxHeartbeats 400000 in
theorem sumParts_long (n : Nat) (a : Option Addr) (cap : Nat) (w : World) (hlen : 100 < n) (hn : n ≤ 9223372036854775807) (ht : Tab w) (hz : 0 < w.heap.size) :
    Calls Tryd.prog 7 #[.slice a n cap] w fun e w' => e = .returned (.bool true) ∧ Below w.heap.size w w' := by
  have HT := Lib.hid ht
  clear ht
  go_enter Tryd.func7, Tryd.ntmps7
  go_wp2_with fail
  refine (awake_any _ HT.out hz).mono ?_
  rintro e w1 ⟨rfl, hb1⟩
  go_wp2_with fail
  refine (awake_any _ (HT.out.below hb1 hz) (by have := hb1.size; omega)).mono ?_
  rintro e w2 ⟨rfl, hb2⟩
  have hb3 : Below w.heap.size w w2 := hb1.trans (hb2.mono hb1.size)
  go_wp2
  go_ret
  exact ⟨rfl, hb3⟩
theorem flat_len_succ (L : List (List Nat)) (k : Nat) (h : k < L.length) : (flat L (k + 1)).length = (flat L k).length + (nthL L k).length := by rw [flat_succ L k h, List.length_append]
/-- What stands at the head of each round. -/
def PartsRel (w : World) (n : Nat) (L : List (List Nat)) (t i : Value) (wr : World) : Prop :=
  ∃ (k : Nat) (a' : Option Addr) (cap' : Nat), k ≤ n ∧ i = .int .i64 k ∧ t = .slice a' (flat L k).length cap' ∧ wr.ownsRow w.heap.size 5 1 (.slice a' (flat L k).length cap') (flat L k).length (cellsB (flat L k)) ∧
    Below w.heap.size w wr ∧ (flat L k).length ≤ 5000
theorem parts_step {w wr w2 : World} {n k : Nat} {L : List (List Nat)} {a' a2 : Option Addr} {cap' cap2 : Nat} (hk : k < n) (hfs : flat L (k + 1) = flat L k ++ nthL L k)
    (ho : wr.ownsRow w.heap.size 5 1 (.slice a' (flat L k).length cap') (flat L k).length (cellsB (flat L k)))
    (h : w2.ownsRow w.heap.size 5 1 (.slice a2 ((flat L k).length + (nthL L k).length) cap2) ((flat L k).length + (nthL L k).length) (cellsB (flat L k ++ nthL L k)))
    (hg : wr.grownBy w2 (Value.slice a' (flat L k).length cap').ownBlock) (hb : Below w.heap.size w wr) (hl : ((nthL L k).length : Int) ≤ 5000 - ((flat L k).length : Int)) :
    PartsRel w n L (.slice a2 ((flat L k).length + (nthL L k).length) cap2) (.int .i64 ((k : Int) + 1)) w2 := by
  have e : (flat L (k + 1)).length = (flat L k).length + (nthL L k).length := by rw [hfs, List.length_append]
  refine ⟨k + 1, a2, cap2, by omega, by go_num, by rw [e], by rw [e, hfs]; exact h, hb.grown hg hb.size (fun g hgg => (ho.lt g hgg).1), by rw [e]; omega⟩
set_option maxHeartbeats 800000 in
theorem sumParts_some (b o cap n : Nat) (A : Nat → Option Addr) (C : Nat → Nat) (L : List (List Nat)) (w : World) (hlen : n ≤ 100) (ht : Tab w) (hz : 0 < w.heap.size) (h : Lists w (some ⟨b, o, none⟩) n A C L) (hn : n ≠ 0) :
    Calls Tryd.prog 7 #[.slice (some ⟨b, o, none⟩) n cap] w fun e w' => e = .returned (.bool true) ∧ Below w.heap.size w w' := by
  have HT := Lib.hid ht
  have H := Lib.hid h
  have HN := Lib.hid hn
  clear ht h hn
  go_enter Tryd.func7, Tryd.ntmps7
  go_wp2_with fail
  refine (awake_any _ HT.out hz).mono ?_
  rintro e w1 ⟨rfl, hb1⟩
  have HB1 := Lib.hid hb1
  clear hb1
  go_wp2_with fail
  go_loopw [3, 16] (fun t i wr => PartsRel w n L t i wr) (fun _ i _ => n - (intOf i).toNat)
  case atStart => exact ⟨0, none, 0, by omega, rfl, rfl, World.ownsRow_nil _ _ _ _, HB1.out, by simp [flat]⟩
  case round =>
    obtain ⟨k, a', cap', hk, rfl, rfl, hown, hbr, hfl⟩ := hrel
    have HO := Lib.hid hown
    have HB := Lib.hid hbr
    have HTr := Lib.hid (HT.out.below hbr hz)
    have HLr := Lib.hid (H.out.below hbr)
    have hsz := hbr.size
    clear hown hbr
    by_cases hlt : k < n
    · have hcell : wr.cell? ⟨b, o + k, none⟩ = some (.slice (A k) (nthL L k).length (C k)) := by
        obtain ⟨b', o', hab, hc⟩ := HLr.out.at_ HN.out
        cases hab
        exact hc k hlt
      have hB := Lib.hid (HLr.out.each k hlt)
      have hlen2 := hB.out.1.2.1
      have hfs : Hid (flat L (k + 1) = flat L k ++ nthL L k) := flat_succ L k (by have := H.out.len; omega)
      by_cases hbig : (5000 : Int) - ((flat L k).length : Int) < ((nthL L k).length : Int)
      · go_wp2
        go_ret
        exact ⟨rfl, HB.out⟩
      · have hle3 : ((nthL L k).length : Int) ≤ 5000 - ((flat L k).length : Int) := by omega
        clear hbig
        have hfb : Hid (∀ x ∈ flat L k, x < 256) := flat_bytes H.out k hk
        go_wp2_with (at_builtin; refine wp_append_bytes rfl _ _ 22 rfl w.heap.size 5 Tryd.underlying22 info_u8 _ _ (flat L k) rfl HO.out hfb.out (A k) _ (C k) (nthL L k) rfl rfl hB.out.1 hB.out.2.1 (by omega) hsz ?_; intro a2 cap2 w2 hown hgr hBB hNN; have HO2 := Lib.hid hown; have HG2 := Lib.hid hgr; clear hown hgr hBB hNN)
        go_roundw
        case rel => exact parts_step hlt hfs.out HO.out HO2.out HG2.out HB.out hle3
        case measure => simp [intOf]; omega
    · obtain rfl : k = n := by omega
      clear hlt
      have hflb : Hid (Bytes wr a' (flat L k)) := by
        obtain ⟨a2, c2, he, _, hB, _⟩ := Bytes.own HO.out (flat_bytes H.out k hk)
        cases he
        exact hB
      go_wp2_with fail
      refine (parts_any _ _ _ A C L _ HTr.out HLr.out).mono ?_
      rintro e w' ⟨rfl, rfl⟩
      go_wp2_with fail
      refine (ref_len _ _ rfl _ _ _ hflb.out).mono ?_
      rintro e w' ⟨rfl, rfl⟩
      go_wp2
      go_ret
      exact ⟨rfl, HB.out⟩

set_option maxHeartbeats 800000 in
theorem sumParts_none (a : Option Addr) (cap : Nat) (w : World) (ht : Tab w) (hz : 0 < w.heap.size) :
    Calls Tryd.prog 7 #[.slice a 0 cap] w fun e w' => e = .returned (.bool true) ∧ Below w.heap.size w w' := by
  have HT := Lib.hid ht
  clear ht
  have cn := crc_nil
  go_enter Tryd.func7, Tryd.ntmps7
  go_wp2_with fail
  refine (awake_any _ HT.out hz).mono ?_
  rintro e w1 ⟨rfl, hb1⟩
  have HB1 := Lib.hid hb1
  have HT1 := Lib.hid (HT.out.below hb1 hz)
  clear hb1
  go_wp2_with fail
  refine wp_loop_rounds 1 ?_
  rw [rounds_succ]
  go_wp2_with fail
  refine (parts_none _ _ _ HT1.out).mono ?_
  rintro e w' ⟨rfl, rfl⟩
  go_wp2_with fail
  refine (ref_len [] 0 rfl _ _ _ (Bytes.none _ _)).mono ?_
  rintro e w' ⟨rfl, rfl⟩
  go_wp2
  go_ret
  exact ⟨rfl, HB1.out⟩
theorem sumParts_any (a : Option Addr) (cap n : Nat) (A : Nat → Option Addr) (C : Nat → Nat) (L : List (List Nat)) (w : World) (ht : Tab w) (hz : 0 < w.heap.size) (h : Lists w a n A C L) :
    Calls Tryd.prog 7 #[.slice a n cap] w fun e w' => e = .returned (.bool true) ∧ Below w.heap.size w w' := by
  by_cases hlen : n ≤ 100
  · by_cases hn : n = 0
    · subst hn
      exact sumParts_none a cap w ht hz
    · obtain ⟨b, o, rfl, _⟩ := h.at_ hn
      exact sumParts_some b o cap n A C L w hlen ht hz h hn
  · exact sumParts_long n a cap w (by omega) h.le ht hz
section
open Go.ChangeShapes Go.WideShapes Go.ChangeAt
/-- A slice of slices of bytes that came in. -/
theorem lists_of_trod {H : Type} {enc : TypeId × Value → H} {P : Program} {w : World} {base : Nat} {t e u : TypeId} {fuel : Nat} {cs : List Value} {x : DataW H × List MemPlace}
    (ht : P.underlying t = some (.slice e)) (hc : P.cellsOf e = 1) (he : P.underlying e = some (.slice u)) (hcu : P.cellsOf u = 1) (hu : P.underlying u = some (.int .u8))
    (h : DataW.trod enc P w base (fun _ => true) true fuel t cs = some x) :
    ∃ (a : Option Addr) (n cap : Nat) (A : Nat → Option Addr) (C : Nat → Nat) (L : List (List Nat)), cs = [.slice a n cap] ∧ Lists w a n A C L := by
  have hm0 : (maxLen : Nat) = 9223372036854775807 := by decide
  rcases Go.Deep.open_slice1 ht hc h with ⟨rfl, _⟩ | ⟨a, len, cap, m, n, V, D, Pl, rfl, _, hl, hm, hmm, _, hx⟩
  · exact ⟨none, 0, 0, fun _ => none, fun _ => 0, [], rfl, ⟨rfl, by omega, fun h => absurd rfl h, fun i hi => absurd hi (by omega)⟩⟩
  · have hmc : len ≤ m := by rw [hmm]; split <;> omega
    have each : ∀ i, i < len → ∃ (ai : Option Addr) (ci : Nat) (li : List Nat), V i = .slice ai li.length ci ∧ Bytes w ai li ∧ (ai = none → li = [] ∧ ci = 0) ∧ li.length ≤ ci := by
      intro i hi
      obtain ⟨_, ht2⟩ := hx i (by omega)
      have hrow : ∃ ai ni ci zs, V i = .slice ai ni ci ∧ IsRow .u8 w ai ni ci zs := by
        rcases open_ints he hu hcu ht2 with ⟨hcs, _⟩ | ⟨x, l, c, zs, hcs, _, h1, h2, h3, _, hcell, hwz⟩
        · simp at hcs
          exact ⟨none, 0, 0, [], hcs, .inl ⟨rfl, rfl, rfl, rfl⟩⟩
        · simp at hcs
          exact ⟨some x, l, c, zs, hcs, .inr ⟨_, rfl, h1, h2, by simpa using h3, hcell, hwz⟩⟩
      obtain ⟨ai, ni, ci, zs, hV, hr⟩ := hrow
      obtain ⟨li, rfl, hB, ha, _, hcap⟩ := hr.bytes
      exact ⟨ai, ci, li, hV, hB, ha, hcap⟩
    obtain ⟨A, hA⟩ := Go.Deep.choose_lt (α := Option Addr) (p := fun i ai => ∃ (ci : Nat) (li : List Nat), V i = .slice ai li.length ci ∧ Bytes w ai li ∧ (ai = none → li = [] ∧ ci = 0) ∧ li.length ≤ ci) each
    obtain ⟨C, hC⟩ := Go.Deep.choose_lt (α := Nat) (p := fun i ci => ∃ (li : List Nat), V i = .slice (A i) li.length ci ∧ Bytes w (A i) li ∧ (A i = none → li = [] ∧ ci = 0) ∧ li.length ≤ ci) hA
    obtain ⟨F, hF⟩ := Go.Deep.choose_lt (α := List Nat) (p := fun i li => V i = .slice (A i) li.length (C i) ∧ Bytes w (A i) li ∧ (A i = none → li = [] ∧ C i = 0) ∧ li.length ≤ C i) hC
    have hnth : ∀ i, i < len → nthL ((List.range len).map F) i = F i := by
      intro i hi
      unfold nthL
      rw [List.getD_eq_getElem?_getD, List.getElem?_map, List.getElem?_range hi]
      rfl
    refine ⟨some a, len, cap, A, C, (List.range len).map F, rfl, ⟨by simp, by omega, fun hn => ?_, fun i hi => ?_⟩⟩
    · obtain ⟨b, off, spot⟩ := a
      have hspot : spot = none := by simpa [Addr.add] using World.cell?_spot (hx 0 (by omega)).1
      subst hspot
      refine ⟨b, off, rfl, fun i hi => ?_⟩
      have := (hx i (by omega)).1
      rw [Addr.add_lit] at this
      rw [this, hnth i hi, (hF i hi).1]
    · rw [hnth i hi]
      exact (hF i hi).2
end
theorem sumParts_walk (a0 : Option Addr) (len0 cap0 : Nat) (A0 : Nat → Option Addr) (C0 : Nat → Nat) (L0 : List (List Nat)) (w : World) (hL : Tab w ∧ 0 < w.heap.size) (w0 : Lists w a0 len0 A0 C0 L0) :
    Calls Tryd.prog 7 #[.slice a0 len0 cap0] w fun e w' => e = .returned (.bool true) ∧ Below w.heap.size w w' :=
  sumParts_any a0 cap0 len0 A0 C0 L0 w hL.1 hL.2 w0
end Go.Proofs.YtpgddaipbonjjaaDoor
