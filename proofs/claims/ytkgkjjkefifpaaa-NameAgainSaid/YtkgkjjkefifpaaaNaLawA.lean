/-
  NameAgain.
-/
import Derived.Test.YtkgkjjkefifpaaaNaMathB
import Derived.Test.YtkgkjjkefifpaaaKit
namespace Go.Proofs.Ytkgkjjkefifpaaa
open Go.RowKit

def moB (mo : List Nat) (i : Nat) : Bool := decide (i < mo.length) && decide (mo.getD i 0 % 2 = 1)
def lgB (mo : List Nat) (s : ByteArray) (k : Nat) : ByteArray := ba (dbl (moB mo) 0 (s.data.toList.take k))
theorem lgB_succ (mo : List Nat) (s : ByteArray) (k : Nat) (h : k < s.size) :
    (if s.get! k = 47 ∧ moB mo k = true then lgB mo s k ++ s.extract k (k + 1) ++ ⟨#[47]⟩ else lgB mo s k ++ s.extract k (k + 1)) = lgB mo s (k + 1) := by
  have hb := byte_at s k h
  obtain ⟨hl, he⟩ := List.getElem?_eq_some_iff.1 hb
  have e1 : s.data.toList.take (k + 1) = s.data.toList.take k ++ [s.get! k] := by rw [List.take_succ_eq_append_getElem hl, he]
  have e2 : lgB mo s k ++ s.extract k (k + 1) = ba (dbl (moB mo) 0 (s.data.toList.take k) ++ [s.get! k]) := ba_snoc _ s k h
  have e3 : (s.data.toList.take k).length = k := by rw [List.length_take]; omega
  unfold lgB at e2 ⊢
  rw [e2, e1, dbl_snoc, e3, Nat.zero_add]
  split
  · refine str_ext ?_
    simp
  · rfl
theorem lgB_size (mo : List Nat) (s : ByteArray) (k : Nat) : (lgB mo s k).size ≤ 2 * k := by
  unfold lgB
  rw [ba_size]
  have := (dbl_len (moB mo) (s.data.toList.take k) 0).2
  have h2 : (s.data.toList.take k).length ≤ k := List.length_take_le _ _
  omega
def LgR (mo : List Nat) (s : ByteArray) (w4 : World) (v13 v14 : Value) (W : World) : Prop := ∃ k : Nat, k ≤ s.size ∧ v14 = .int .i64 k ∧ v13 = .string (lgB mo s k) ∧ w4 = W
theorem spL_len3 (s : ByteArray) : (spL s).length ≤ 255 := by
  have h1 := nml_len_le s
  unfold spL
  split
  · rename_i h0
    by_cases h2 : 255 < s.size
    · rw [spE_long h2] at h0; exact absurd h0 (by decide)
    · omega
  · simp
set_option maxRecDepth 100000 in
set_option maxHeartbeats 8000000 in
theorem nameAgain_bytes (s : ByteArray) (a : Option Addr) (n c : Nat) (mo : List Nat) (w : World) (hn : n = mo.length) (hmo : Bytes w a mo) : Calls Try.prog 5 #[.string s, .slice a n c] w fun e w' => e = .returned (.bool true) ∧ Below w.heap.size w w' := by
  by_cases hl : 255 < s.size
  · have hl' : (255 : Int) < (s.size : Int) := by omega
    clear hl hn hmo
    go_enter Try.func5, Try.ntmps5
    go_wp2_with fail
    refine (awake_any _).mono ?_
    rintro e w1 ⟨rfl, hb1⟩
    have HB1 := Lib.hid hb1
    clear hb1
    go_wp2_with fail
    refine (awake_any _).mono ?_
    rintro e w2 ⟨rfl, hb2⟩
    have HB2 := Lib.hid (HB1.out.trans (hb2.mono HB1.out.size))
    clear hb2 HB1
    go_wp2_with fail
    go_ret
    exact ⟨rfl, HB2.out⟩
  · have hl' : ¬ (255 : Int) < (s.size : Int) := by omega
    have HS := Lib.hid (split_any s)
    unfold SpO at HS
    by_cases hz : spE s = 0
    · have HSz : Hid (s.size ≤ 255) := by show _ ≤ _; omega
      have HJE := joE_nml hz
      have HFj := spE_joS HJE
      rw [← spL_ok hz] at HJE HFj
      have HJE := Lib.hid HJE
      have HFj := Lib.hid HFj
      have HDb := Lib.hid (fun b h => spE_dbl b hz h)
      have HLs := Lib.hid (spL_len3 s)
      have HMo := Lib.hid hmo
      have HNm := Lib.hid hn
      rw [hz] at HS
      clear hz hn hmo hl
      generalize spD s = d at *
      generalize spL s = l at *
      go_enter Try.func5, Try.ntmps5
      go_wp2_with fail
      refine (awake_any _).mono ?_
      rintro e w1 ⟨rfl, hb1⟩
      have HB1 := Lib.hid hb1
      clear hb1
      go_wp2_with fail
      refine (HS.out _).mono ?_
      rintro e w2 ⟨a2, n2, c2, rfl, hn2, hc2, hst2, -, hb2⟩
      have HN2 := Lib.hid hn2
      have HS2 := Lib.hid hst2
      have HB2 := Lib.hid (HB1.out.trans (hb2.mono HB1.out.size))
      have HJ := Lib.hid (join_any l a2 n2 c2 w2 hn2 hc2 (by have := HLs.out; omega) hst2)
      unfold JoO at HJ
      rw [HJE.out, joR_ok HJE.out] at HJ
      have HSp := Lib.hid (split_any (joS l))
      unfold SpO at HSp
      rw [HFj.out.1, HFj.out.2.1, HFj.out.2.2.1] at HSp
      clear hn2 hc2 hst2 hb2 HB1 HFj HJE
      generalize joS l = jj at *
      generalize decide (l = []) = dl at *
      go_wp2_with fail
      refine HJ.out.mono ?_
      rintro e w3 ⟨rfl, hb3⟩
      have HS3 := Lib.hid (HS2.out.below hb3)
      have HB3 := Lib.hid (HB2.out.trans (hb3.mono HB2.out.size))
      clear hb3 HS2 HB2 HJ
      go_wp2_with fail
      refine (HSp.out _).mono ?_
      rintro e w4 ⟨a4, n4, c4, rfl, hn4, -, hst4, -, hb4⟩
      have HS4 := Lib.hid (HS3.out.below hb4)
      have HB4 := Lib.hid (HB3.out.trans (hb4.mono HB3.out.size))
      have HT := Lib.hid (texts_any l l a2 a4 n2 n4 c2 c4 w4 HN2.out hn4 (by have := HLs.out; have := HN2.out; omega) (HS3.out.below hb4) hst4)
      rw [decide_eq_true (rfl : l = l)] at HT
      clear hb4 hn4 hst4 HS3 HB3 HSp
      go_wp2_with fail
      refine HT.out.mono ?_
      rintro e w5 ⟨rfl, hb5⟩
      have HS5 := Lib.hid (HS4.out.below hb5)
      have HB5 := Lib.hid (HB4.out.trans (hb5.mono HB4.out.size))
      have HMo5 := Lib.hid (HMo.out.below HB5.out)
      clear hb5 HS4 HB4 HT HMo
      go_wp2_with fail
      go_loopw [13, 14] (fun v13 v14 wr => LgR mo s w5 v13 v14 wr) (fun _ v14 _ => s.size - (intOf v14).toNat)
      case atStart => exact ⟨0, Nat.zero_le _, rfl, rfl, rfl⟩
      case round =>
        obtain ⟨k, hk, rfl, rfl, rfl⟩ := hrel
        by_cases hlt : k < s.size
        · have k0 : (0 : Int) ≤ (k : Int) := by omega
          have k1 : (k : Int) < (s.size : Int) := by omega
          have k2 : (k : Int) < 300 := by have := HSz.out; omega
          have HL := Lib.hid (lgB_succ mo s k hlt)
          have hsz := lgB_size mo s k
          have hx1 : (s.extract k (k + 1)).size = 1 := by
            rw [Lib.size_eq, extract_list, piece_len _ _ _ (by rw [← Lib.size_eq]; omega)]; omega
          have hz3 : (lgB mo s k).size + (s.extract k (k + 1)).size ≤ 9223372036854775807 := by omega
          have hz4 : (lgB mo s k).size + (s.extract k (k + 1)).size + 1 ≤ 9223372036854775807 := by omega
          have hz5 : ¬ 9223372036854775807 < (lgB mo s k).size + (min (k + 1) s.size - k) + 1 := by omega
          have HK : Hid (k < s.size) := hlt
          clear hsz hx1 hk
          generalize lgB mo s k = lk at *
          by_cases h47 : s.get! k = 47
          · have hv : (s[k]'hlt).toNat = 47 := by rw [get_bang s k hlt, h47]; rfl
            by_cases hkm : k < n
            · obtain ⟨bb, oo, rfl, hcell⟩ := HMo5.out.2.2 (by intro e; have := HNm.out; rw [e] at this; simp at this; omega)
              have x1 := hcell k (by rw [← HNm.out]; exact hkm)
              have hlt256 := getD_byte HMo5.out.1 k
              have km : (k : Int) < (n : Int) := by omega
              have hmB : moB mo k = decide (mo.getD k 0 % 2 = 1) := by unfold moB; rw [decide_eq_true (show k < mo.length by rw [← HNm.out]; exact hkm)]; rfl
              rw [hmB] at HL
              clear hmB hcell hkm
              generalize mo.getD k 0 = x at *
              have x0 : (0 : Int) ≤ (x : Int) := by omega
              have x2 : (x : Int) < 256 := by omega
              by_cases hodd : x % 2 = 1
              · have HE : Hid (lk ++ s.extract k (k + 1) ++ ⟨#[47]⟩ = lgB mo s (k + 1)) := by
                  have e := HL.out
                  rw [if_pos ⟨h47, decide_eq_true hodd⟩] at e
                  exact e
                have o1 : (x : Int) % 2 = 1 := by omega
                have o2 : ((x : Int) % 2 == 1) = true := by rw [o1]; rfl
                clear HL h47 hodd hlt256
                go_wp2_with fail
                exact ⟨⟨k + 1, HK.out, by go_num, by rw [HE.out], rfl⟩, by simp [intOf]; have := HK.out; omega⟩
              · have HE : Hid (lk ++ s.extract k (k + 1) = lgB mo s (k + 1)) := by
                  have e := HL.out
                  rw [if_neg (fun h => hodd (of_decide_eq_true h.2))] at e
                  exact e
                have o1 : (x : Int) % 2 = 0 := by omega
                have o2 : ((x : Int) % 2 == 1) = false := by rw [o1]; rfl
                clear HL h47 hodd hlt256
                go_wp2_with fail
                exact ⟨⟨k + 1, HK.out, by go_num, by rw [HE.out], rfl⟩, by simp [intOf]; have := HK.out; omega⟩
            · have HE : Hid (lk ++ s.extract k (k + 1) = lgB mo s (k + 1)) := by
                have e := HL.out
                rw [if_neg (fun h => by
                  have h2 := h.2
                  unfold moB at h2
                  rw [decide_eq_false (show ¬ k < mo.length by rw [← HNm.out]; exact hkm)] at h2
                  cases h2)] at e
                exact e
              have km : ¬ (k : Int) < (n : Int) := by omega
              clear HL h47 hkm
              go_wp2_with fail
              exact ⟨⟨k + 1, HK.out, by go_num, by rw [HE.out], rfl⟩, by simp [intOf]; have := HK.out; omega⟩
          · have HE : Hid (lk ++ s.extract k (k + 1) = lgB mo s (k + 1)) := by
              have e := HL.out
              rw [if_neg (fun h => h47 h.1)] at e
              exact e
            have hv : (((s[k]'hlt).toNat : Int) == 47) = false := by
              rw [get_bang s k hlt]
              exact beq_eq_false_iff_ne.2 fun e => h47 (UInt8.toNat_inj.1 (by show _ = 47; omega))
            clear HL h47
            go_wp2_with fail
            exact ⟨⟨k + 1, HK.out, by go_num, by rw [HE.out], rfl⟩, by simp [intOf]; have := HK.out; omega⟩
        · obtain rfl : k = s.size := by omega
          have hfull : lgB mo s s.size = ba (dbl (moB mo) 0 s.data.toList) := by
            unfold lgB
            rw [List.take_of_length_le (by rw [← Lib.size_eq]; exact Nat.le_refl _)]
          rw [hfull]
          have hsl : (ba (dbl (moB mo) 0 s.data.toList)).size = (dbl (moB mo) 0 s.data.toList).length := ba_size _
          have HQ := Lib.hid (split_any (ba (dbl (moB mo) 0 s.data.toList)))
          unfold SpO at HQ
          by_cases hlong : 255 < (dbl (moB mo) 0 s.data.toList).length
          · have e1 := spE_long (s := ba (dbl (moB mo) 0 s.data.toList)) (by rw [hsl]; exact hlong)
            have y1 : (255 : Int) < ((ba (dbl (moB mo) 0 s.data.toList)).size : Int) := by omega
            rw [e1] at HQ
            clear hfull hsl hlong e1 hlt HDb
            generalize spD (ba (dbl (moB mo) 0 s.data.toList)) = dq at *
            generalize spL (ba (dbl (moB mo) 0 s.data.toList)) = lq at *
            generalize ba (dbl (moB mo) 0 s.data.toList) = lg at *
            go_wp2_with fail
            refine (HQ.out _).mono ?_
            rintro e w6 ⟨a6, n6, c6, rfl, -, -, -, -, hb6⟩
            have HB6 := Lib.hid (HB5.out.trans (hb6.mono HB5.out.size))
            clear hb6 HB5
            go_wp2_with fail
            go_ret
            exact ⟨rfl, HB6.out⟩
          · obtain ⟨e1, e2, e3⟩ := HDb.out (moB mo) hlong
            have y1 : ¬ (255 : Int) < ((ba (dbl (moB mo) 0 s.data.toList)).size : Int) := by omega
            rw [e1, e2, e3] at HQ
            clear hfull hsl hlong e1 e2 e3 hlt HDb
            generalize ba (dbl (moB mo) 0 s.data.toList) = lg at *
            have hdd : (d == d) = true := by simp
            go_wp2_with fail
            refine (HQ.out _).mono ?_
            rintro e w6 ⟨a6, n6, c6, rfl, hn6, -, hst6, -, hb6⟩
            have HB6 := Lib.hid (HB5.out.trans (hb6.mono HB5.out.size))
            have HT := Lib.hid (texts_any l l a6 a2 n6 n2 c6 c2 w6 hn6 HN2.out (by have := HLs.out; omega) hst6 (HS5.out.below hb6))
            rw [decide_eq_true (rfl : l = l)] at HT
            clear hn6 hst6 hb6 HB5
            go_wp2_with fail
            refine HT.out.mono ?_
            rintro e w7 ⟨rfl, hb7⟩
            have HB7 := Lib.hid (HB6.out.trans (hb7.mono HB6.out.size))
            clear hb7 HB6
            go_wp2_with fail
            go_ret
            exact ⟨rfl, HB7.out⟩
    · have e1 := spL_nil hz
      have e2 := spD_no hz
      have h4 : (spE s == 0) = false := beq_eq_false_iff_ne.2 hz
      rw [e1, e2] at HS
      clear hz e1 e2 hn hmo hl
      generalize spE s = z at *
      go_enter Try.func5, Try.ntmps5
      go_wp2_with fail
      refine (awake_any _).mono ?_
      rintro e w1 ⟨rfl, hb1⟩
      have HB1 := Lib.hid hb1
      clear hb1
      go_wp2_with fail
      refine (HS.out _).mono ?_
      rintro e w2 ⟨a2, n2, c2, rfl, hn2, -, -, -, hb2⟩
      obtain rfl : n2 = 0 := hn2
      have HB2 := Lib.hid (HB1.out.trans (hb2.mono HB1.out.size))
      clear hb2 HB1
      go_wp2_with fail
      go_ret
      exact ⟨rfl, HB2.out⟩
theorem nameAgain_walk (s : ByteArray) (a : Option Addr) (n c : Nat) (zs : List Int) (w : World) (_hs : s.size ≤ maxLen) (hr : IsRow .u8 w a n c zs) : Calls Try.prog 5 #[.string s, .slice a n c] w fun e w' => e = .returned (.bool true) ∧ Below w.heap.size w w' := by
  obtain ⟨l, hn, hb, -, -, -⟩ := hr.bytes
  exact nameAgain_bytes s a n c l w hn hb
end Go.Proofs.Ytkgkjjkefifpaaa
