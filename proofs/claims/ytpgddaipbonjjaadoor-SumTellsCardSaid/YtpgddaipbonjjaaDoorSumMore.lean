/-
  The walk of SumMore: the sum of bytes cut anywhere.
-/
import Derived.Test.YtpgddaipbonjjaaDoorSumWalks
import Derived.Deep.QuietTactic
import Derived.BigQuiet
namespace Go.Proofs.YtpgddaipbonjjaaDoor
open Go.RowKit

theorem size_u8 (w : World) : (Go.sizeOf 5).run Tryd.prog w = .ok 1 w := by kernel_rfl
set_option maxHeartbeats 400000 in
theorem sumMore_long (n : Nat) (a : Option Addr) (cap : Nat) (cut : Int) (w : World) (hlen : 5000 < n) (hn : n ≤ 9223372036854775807) (ht : Tab w) (hz : 0 < w.heap.size) :
    Calls Tryd.prog 4 #[.slice a n cap, .int .i64 cut] w fun e w' => e = .returned (.bool true) ∧ Below w.heap.size w w' := by
  have HT := Lib.hid ht
  clear ht
  go_enter Tryd.func4, Tryd.ntmps4
  go_wp2_with fail
  refine (awake_any _ HT.out hz).mono ?_
  rintro e w1 ⟨rfl, hb1⟩
  go_wp2_with fail
  refine (awake_any _ (HT.out.below hb1 hz) (by have := hb1.size; omega)).mono ?_
  rintro e w2 ⟨rfl, hb2⟩
  have hb3 : Below w.heap.size w w2 := hb1.trans (hb2.mono hb1.size)
  go_wp2
  go_ret
  exact ⟨rfl, hb3⟩
set_option maxHeartbeats 400000 in
theorem sumMore_short (l : List Nat) (a : Option Addr) (cap : Nat) (cut : Int) (w : World) (hlen : l.length ≤ 5000) (hcap : l.length ≤ cap) (ht : Tab w) (hz : 0 < w.heap.size) (h : Bytes w a l) (ha : a = none → l = [] ∧ cap = 0) :
    Calls Tryd.prog 4 #[.slice a l.length cap, .int .i64 cut] w fun e w' => e = .returned (.bool true) ∧ Below w.heap.size w w' := by
  have H := Lib.hid h
  have HT := Lib.hid ht
  have HA := Lib.hid ha
  clear h ht ha
  go_enter Tryd.func4, Tryd.ntmps4
  go_wp2_with fail
  refine (awake_any _ HT.out hz).mono ?_
  rintro e w1 ⟨rfl, hb1⟩
  have hz1 := hb1.size
  have H1 := Lib.hid (H.out.below hb1)
  have HT1 := Lib.hid (HT.out.below hb1 hz)
  obtain ⟨k, hk, hcut⟩ := cut_mod cut l.length (by omega)
  obtain ⟨a1, hs1, hB1, _⟩ := slice_head (P := Tryd.prog) 22 5 Tryd.underlying22 size_u8 rfl H1.out HA.out hcap k hk
  obtain ⟨a2, hs2, hB2, _⟩ := slice_tail (P := Tryd.prog) 22 5 Tryd.underlying22 size_u8 rfl H1.out HA.out hcap k hk
  have K1 : Hid (k = (l.take k).length) := by show _ = _; simp; omega
  have K2 : Hid (l.length - k = (l.drop k).length) := by show _ = _; simp
  have KB1 := Lib.hid hB1
  have KB2 := Lib.hid hB2
  have KM : Hid (moreN (crc (l.take k)) (l.drop k) = crc l) := by show _ = _; rw [more_crc, List.take_append_drop]
  have KL : Hid (crc (l.take k) < 4294967296) := crc_lt _ hB1.1
  clear hB1 hB2
  go_wp2_with fail
  go_quiet ((first | (go_at_call 11; exact Calls.quiet_of_same (flip_same (sum_len (l.take k) k K1.out a1 _ _ (HT1.out.drewN _) (KB1.out.drewN _)))) | (go_at_call 13; exact Calls.quiet_of_same (flip_same (more_len (crc (l.take k)) (l.drop k) _ K2.out a2 _ _ KL.out (HT1.out.drewN _) (KB2.out.drewN _)))) | (go_at_call 12; exact Calls.quiet_of_same (flip_same (ref_len l _ rfl a _ _ (H1.out.drewN _))))))
  go_wp2
  go_ret
  exact ⟨by rw [KM.out]; simp, below_drewN hb1 _⟩
theorem sumMore_walk (a0 : Option Addr) (len0 cap0 : Nat) (z0 : List Int) (a1 : Int) (w : World) (hL : Tab w ∧ 0 < w.heap.size) (w0 : IsRow .u8 w a0 len0 cap0 z0) (_ : (Lit.int .i64 a1).wf = true) :
    Calls Tryd.prog 4 #[.slice a0 len0 cap0, .int .i64 a1] w fun e w' => e = .returned (.bool true) ∧ Below w.heap.size w w' := by
  obtain ⟨l, rfl, hB, ha, hm, hc⟩ := w0.bytes
  by_cases h : l.length ≤ 5000
  · exact sumMore_short l a0 cap0 a1 w h hc hL.1 hL.2 hB ha
  · exact sumMore_long l.length a0 cap0 a1 w (by omega) hm hL.1 hL.2
end Go.Proofs.YtpgddaipbonjjaaDoor
