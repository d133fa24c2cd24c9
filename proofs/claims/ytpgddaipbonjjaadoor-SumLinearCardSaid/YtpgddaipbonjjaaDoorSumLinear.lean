/-
  The walk of SumLinear: what the sum is turned by hangs on the turning bytes alone.
-/
import Derived.Test.YtpgddaipbonjjaaDoorSumOpens
import Derived.StillTailTactics
namespace Go.Proofs.YtpgddaipbonjjaaDoor
open Go.RowKit

theorem run_min_int4 {P : Program} (w : World) (ts : Array TypeId) (t : TypeId) (x y z u : Int) : (Builtin.min_ ts t #[.int .i64 x, .int .i64 y, .int .i64 z, .int .i64 u]).run P w = .ok (.int .i64 (if u < (if z < (if y < x then y else x) then z else (if y < x then y else x)) then u else (if z < (if y < x then y else x) then z else (if y < x then y else x)))) w := by
  simp [Builtin.min_, Builtin.min2]
def turnedN (l x : List Nat) (n k : Nat) : List Nat := (xorL (l.take n) (x.take n)).take k ++ List.replicate (n - k) 0
theorem xorL_length (l x : List Nat) (n : Nat) (hl : n ≤ l.length) (hx : n ≤ x.length) : (xorL (l.take n) (x.take n)).length = n := by
  simp [xorL]; omega
theorem xorL_get (l x : List Nat) (n k : Nat) (hl : n ≤ l.length) (hx : n ≤ x.length) (hk : k < n) : (xorL (l.take n) (x.take n)).getD k 0 = l.getD k 0 ^^^ x.getD k 0 := by
  unfold xorL
  rw [List.getD_eq_getElem?_getD, List.getD_eq_getElem?_getD, List.getD_eq_getElem?_getD, List.getElem?_zipWith, List.getElem?_take_of_lt hk, List.getElem?_take_of_lt hk,
    List.getElem?_eq_getElem (by omega : k < l.length), List.getElem?_eq_getElem (by omega : k < x.length)]
  rfl
theorem turnedN_set (l x : List Nat) (n k : Nat) (hl : n ≤ l.length) (hx : n ≤ x.length) (hk : k < n) : (turnedN l x n k).set k (l.getD k 0 ^^^ x.getD k 0) = turnedN l x n (k + 1) := by
  unfold turnedN
  have hlen := xorL_length l x n hl hx
  rw [← xorL_get l x n k hl hx hk, take_snocN _ k (by omega)]
  have e : n - k = (n - (k + 1)) + 1 := by omega
  rw [e, List.replicate_succ, List.set_append]
  have ht : ((xorL (l.take n) (x.take n)).take k).length = k := by simp; omega
  rw [ht, if_neg (Nat.lt_irrefl _), Nat.sub_self]
  simp
theorem turnedN_length (l x : List Nat) (n k : Nat) (hl : n ≤ l.length) (hx : n ≤ x.length) (hk : k ≤ n) : (turnedN l x n k).length = n := by
  have hlen := xorL_length l x n hl hx
  simp [turnedN]; omega
theorem turnedN_all (l x : List Nat) (n : Nat) (hl : n ≤ l.length) (hx : n ≤ x.length) : turnedN l x n n = xorL (l.take n) (x.take n) := by
  unfold turnedN
  rw [Nat.sub_self, List.take_of_length_le (by rw [xorL_length l x n hl hx]; exact Nat.le_refl _)]
  simp
theorem xor8_lt {a b : Nat} (ha : a < 256) (hb : b < 256) : a ^^^ b < 256 := Nat.xor_lt_two_pow (n := 8) ha hb
theorem xorL_lt {l x : List Nat} (hl : ∀ y ∈ l, y < 256) (hx : ∀ y ∈ x, y < 256) : ∀ y ∈ xorL l x, y < 256 := by
  induction l generalizing x with
  | nil => intro y hy; simp [xorL] at hy
  | cons p l ih => cases x with
    | nil => intro y hy; simp [xorL] at hy
    | cons q x =>
      intro y hy
      simp only [xorL, List.zipWith_cons_cons, List.mem_cons] at hy
      rcases hy with rfl | hy
      · exact xor8_lt (hl p (by simp)) (hx q (by simp))
      · exact ih (fun z hz => hl z (by simp [hz])) (fun z hz => hx z (by simp [hz])) y hy

set_option maxHeartbeats 1000000 in
theorem linear_any (l x : List Nat) (n bn bx : Nat) (al ax : Option Addr) (ml cl mx cx : Nat) (hml : ml = l.length) (hmx : mx = x.length) (hcl : ml ≤ cl) (w : World) (hnl : n ≤ l.length) (hnx : n ≤ x.length) (hn5 : n ≤ 500)
    (ht : Tab w) (hz : 0 < w.heap.size) (hl : Bytes w al l) (hal : al = none → l = [] ∧ cl = 0) (hx : Bytes w ax x) (cn : w.cell? ⟨bn, 0, none⟩ = some (.int .i64 n)) (cxx : w.cell? ⟨bx, 0, none⟩ = some (.slice ax mx cx)) :
    Calls Tryd.prog 20 #[.slice al ml cl, .pointer (some ⟨bn, 0, none⟩), .pointer (some ⟨bx, 0, none⟩)] w fun e w' => e = .returned (.int .u32 (crcFold 0 (x.take n) : Nat)) ∧ Below w.heap.size w w' := by
  have hmk := run_make_bytes (P := Tryd.prog) 22 5 Tryd.underlying22 info_u8 w (n : Int) n rfl (by omega)
  have hbn := World.block_lt_of_cell? w _ cn
  have hbx := World.block_lt_of_cell? w _ cxx
  have HL := Lib.hid hl
  have HX := Lib.hid hx
  have HT := Lib.hid ht
  have HAL := Lib.hid hal
  have HML := Lib.hid hml
  have HMX := Lib.hid hmx
  have HCN := Lib.hid cn
  have HCX := Lib.hid cxx
  have hrow0 : Hid (Row (w.alloc (.cells (cellsB (List.replicate n 0)).toArray 5)) w.heap.size (List.replicate n 0)) := row_laid w _
  clear hl hx ht hal hml hmx cxx
  go_enter Tryd.func20, Tryd.ntmps20
  go_wp2_with fail
  clear cn hmk
  go_loopw [11] (fun i wr => ∃ k : Nat, k ≤ n ∧ i = .int .i64 k ∧ Row wr w.heap.size (turnedN l x n k) ∧ Below w.heap.size w wr) (fun i _ => n - (intOf i).toNat)
  case atStart => exact ⟨0, by omega, rfl, by have := hrow0.out; simpa [turnedN] using this, (Below.refl _ _).alloc (Nat.le_refl _) _⟩
  case round =>
    obtain ⟨k, hk, rfl, hrow, hbr⟩ := hrel
    have HR := Lib.hid hrow
    have HB := Lib.hid hbr
    clear hrow hbr
    by_cases hlt : k < n
    · have hcx : wr.cell? ⟨bx, 0, none⟩ = some (.slice ax mx cx) := (HB.out.cell hbx).trans HCX.out
      obtain ⟨b1, o1, hal, hc1⟩ := (HL.out.below HB.out).2.2 (fun e => by subst e; simp at hnl; omega)
      obtain ⟨b2, o2, hax, hc2⟩ := (HX.out.below HB.out).2.2 (fun e => by subst e; simp at hnx; omega)
      subst hal hax
      have h1 := hc1 k (by omega)
      have h2 := hc2 k (by omega)
      have g1 := getD_byte HL.out.1 k
      have g2 := getD_byte HX.out.1 k
      have hst : Hid ((turnedN l x n k).set k (l.getD k 0 ^^^ x.getD k 0) = turnedN l x n (k + 1)) := turnedN_set l x n k hnl hnx hlt
      obtain ⟨p, hp⟩ : ∃ p, l.getD k 0 = p := ⟨_, rfl⟩
      obtain ⟨q, hq⟩ : ∃ q, x.getD k 0 = q := ⟨_, rfl⟩
      rw [hp] at h1 g1 hst
      rw [hq] at h2 g2 hst
      have hxx := u8_xor_nat p q g1 g2
      have hcell := HR.out.cell k (by rw [turnedN_length l x n k hnl hnx (by omega)]; exact hlt)
      have hfro := HR.out.frozen k
      have hkl : (k : Int) < (ml : Int) := by have := HML.out; omega
      have hkx : (k : Int) < (mx : Int) := by have := HMX.out; omega
      have hk0 : (0 : Int) ≤ (k : Int) := by omega
      have hkn : (k : Int) < (n : Int) := by omega
      clear hc1 hc2 hp hq
      go_wp2_with fail
      go_still_tail 12, (by kernel_rfl)
      have HR3 : Hid (Row wr.drew w.heap.size (turnedN l x n k)) := HR.out
      have HB3 : Hid (Below w.heap.size w wr.drew) := HB.out.drew
      have hcell3 : wr.drew.cell? ⟨w.heap.size, k, none⟩ = some (.int .u8 ((turnedN l x n k).getD k 0 : Nat)) := hcell
      have hfro3 : wr.drew.frozen? ⟨w.heap.size, k, none⟩ = false := hfro
      clear hcell hfro h1 h2 hcx HR HB
      change wpList _ _ _ _ _ wr.drew
      generalize wr.drew = wq at HR3 HB3 hcell3 hfro3 ⊢
      go_wp2
      go_roundw
      case rel => exact ⟨k + 1, by omega, by go_num, by have := HR3.out.set k (p ^^^ q); rw [hst.out] at this; exact this, HB3.out.setCell (Nat.le_refl _) _⟩
      case measure => simp [intOf]; omega
    · obtain rfl : k = n := by omega
      clear hlt
      have hcn : wr.cell? ⟨bn, 0, none⟩ = some (.int .i64 k) := (HB.out.cell hbn).trans HCN.out
      have hrr := HR.out
      rw [turnedN_all l x k hnl hnx] at hrr
      have HY : Hid (Bytes wr (some ⟨w.heap.size, 0, none⟩) (xorL (l.take k) (x.take k))) := hrr.bytes (xorL_lt (fun y hy => HL.out.1 y (List.mem_of_mem_take hy)) (fun y hy => HX.out.1 y (List.mem_of_mem_take hy))) (by rw [xorL_length l x k hnl hnx]; omega)
      have HLen : Hid (k = (xorL (l.take k) (x.take k)).length) := (xorL_length l x k hnl hnx).symm
      clear hrr
      have HTr := Lib.hid (HT.out.below HB.out hz)
      obtain ⟨a1, hs1, hB1, _⟩ := slice_head (P := Tryd.prog) 22 5 Tryd.underlying22 size_u8 HML.out (HL.out.below HB.out) HAL.out hcl k (by rw [HML.out]; exact hnl)
      have HB1 := Lib.hid hB1
      have HK1 : Hid (k = (l.take k).length) := by show _ = _; simp; omega
      have hc1 := crc_lt _ HY.out.1
      have hc2 := crc_lt _ hB1.1
      have hxx := u32_xor_nat _ _ hc1 hc2
      rw [crc_xor (l.take k) (x.take k) (by simp; omega)] at hxx
      clear hB1 hc1 hc2
      go_wp2_with fail
      have K1 := Lib.hid fun q => Calls.quiet_of_same (flip_same (sum_len (xorL (l.take k) (x.take k)) k HLen.out (some ⟨w.heap.size, 0, none⟩) k _ (HTr.out.drewN q) (HY.out.drewN q)))
      have K2 := Lib.hid fun q => Calls.quiet_of_same (flip_same (sum_len (l.take k) k HK1.out a1 cl _ (HTr.out.drewN q) (HB1.out.drewN q)))
      go_quiet ((go_at_call 11; first | (with_reducible exact K1.out _) | (with_reducible exact K2.out _)))
      go_wp2
      go_ret
      exact ⟨rfl, below_drewN HB.out _⟩

def min4 (p q r : Nat) : Nat := min (min (min p q) r) 500
theorem run_min_nat {P : Program} (w : World) (ts : Array TypeId) (t : TypeId) (p q r : Nat) : (Builtin.min_ ts t #[.int .i64 (p : Int), .int .i64 (q : Int), .int .i64 (r : Int), .int .i64 500]).run P w = .ok (.int .i64 (min4 p q r : Nat)) w := by
  rw [run_min_int4]
  congr 2
  unfold min4
  repeat' split
  all_goals omega
set_option maxHeartbeats 1000000 in
theorem sumLinear_any (la lb lx : List Nat) (na nb nx : Nat) (a b x : Option Addr) (ca cb cx : Nat) (ha : na = la.length) (hb : nb = lb.length) (hx : nx = lx.length) (hca : na ≤ ca) (hcb : nb ≤ cb) (w : World) (ma : na ≤ 9223372036854775807) (mb : nb ≤ 9223372036854775807) (mx : nx ≤ 9223372036854775807)
    (ht : Tab w) (hz : 0 < w.heap.size) (hBa : Bytes w a la) (hNa : a = none → la = [] ∧ ca = 0) (hBb : Bytes w b lb) (hNb : b = none → lb = [] ∧ cb = 0) (hBx : Bytes w x lx) :
    Calls Tryd.prog 9 #[.slice a na ca, .slice b nb cb, .slice x nx cx] w fun e w' => e = .returned (.bool true) ∧ Below w.heap.size w w' := by
  have hmin := fun (W : World) (ts : Array TypeId) (t : TypeId) => run_min_nat (P := Tryd.prog) W ts t na nb nx
  have n1 : min4 na nb nx ≤ na ∧ min4 na nb nx ≤ nb ∧ min4 na nb nx ≤ nx ∧ min4 na nb nx ≤ 500 := by unfold min4; omega
  generalize min4 na nb nx = n at hmin n1
  obtain ⟨n1, n2, n3, n4⟩ := n1
  have HA := Lib.hid ha
  have HB := Lib.hid hb
  have HX := Lib.hid hx
  have HBa := Lib.hid hBa
  have HBb := Lib.hid hBb
  have HBx := Lib.hid hBx
  have HNa := Lib.hid hNa
  have HNb := Lib.hid hNb
  have HT := Lib.hid ht
  clear ha hb hx hBa hBb hBx hNa hNb ht
  go_enter Tryd.func9, Tryd.ntmps9
  go_wp2_with fail
  have HW : Hid (Below w.heap.size w ((w.alloc (.cells #[.slice x nx cx] 22)).alloc (.cells #[.int .i64 n] 3))) := ((Below.refl _ _).alloc (Nat.le_refl _) _).alloc (by simp) _
  have HC1 : Hid (((w.alloc (.cells #[.slice x nx cx] 22)).alloc (.cells #[.int .i64 n] 3)).cell? ⟨w.heap.size, 0, none⟩ = some (.slice x nx cx)) := by
    show _ = _
    simp
  have HC2 : Hid (((w.alloc (.cells #[.slice x nx cx] 22)).alloc (.cells #[.int .i64 n] 3)).cell? ⟨w.heap.size + 1, 0, none⟩ = some (.int .i64 n)) := by
    show _ = _
    simp
  generalize (w.alloc (.cells #[.slice x nx cx] 22)).alloc (.cells #[.int .i64 n] 3) = wa at HW HC1 HC2 ⊢
  refine (awake_any _ (HT.out.below HW.out hz) (by have := HW.out.size; omega)).mono ?_
  rintro e w1 ⟨rfl, hb1⟩
  have HB1 : Hid (Below w.heap.size w w1) := HW.out.trans (hb1.mono HW.out.size)
  have HD1 : Hid (w1.cell? ⟨w.heap.size, 0, none⟩ = some (.slice x nx cx)) := cell_later hb1 HC1.out
  have HD2 : Hid (w1.cell? ⟨w.heap.size + 1, 0, none⟩ = some (.int .i64 n)) := cell_later hb1 HC2.out
  clear hb1 hmin
  go_wp2_with fail
  refine (linear_any la lx n (w.heap.size + 1) w.heap.size a x na ca nx cx HA.out HX.out hca w1 (by rw [← HA.out]; exact n1) (by rw [← HX.out]; exact n3) n4 (HT.out.below HB1.out hz) (by have := HB1.out.size; omega) (HBa.out.below HB1.out) HNa.out (HBx.out.below HB1.out) HD2.out HD1.out).mono ?_
  rintro e w2 ⟨rfl, hb2⟩
  have HB2 : Hid (Below w.heap.size w w2) := HB1.out.trans (hb2.mono HB1.out.size)
  have HE1 : Hid (w2.cell? ⟨w.heap.size, 0, none⟩ = some (.slice x nx cx)) := cell_later hb2 HD1.out
  have HE2 : Hid (w2.cell? ⟨w.heap.size + 1, 0, none⟩ = some (.int .i64 n)) := cell_later hb2 HD2.out
  clear hb2
  go_wp2_with fail
  refine (linear_any lb lx n (w.heap.size + 1) w.heap.size b x nb cb nx cx HB.out HX.out hcb w2 (by rw [← HB.out]; exact n2) (by rw [← HX.out]; exact n3) n4 (HT.out.below HB2.out hz) (by have := HB2.out.size; omega) (HBb.out.below HB2.out) HNb.out (HBx.out.below HB2.out) HE2.out HE1.out).mono ?_
  rintro e w3 ⟨rfl, hb3⟩
  have HB3 : Hid (Below w.heap.size w w3) := HB2.out.trans (hb3.mono HB2.out.size)
  clear hb3
  go_wp2
  go_ret
  exact ⟨rfl, HB3.out⟩
theorem sumLinear_walk (a0 : Option Addr) (len0 cap0 : Nat) (z0 : List Int) (a1 : Option Addr) (len1 cap1 : Nat) (z1 : List Int) (a2 : Option Addr) (len2 cap2 : Nat) (z2 : List Int) (w : World) (hL : Tab w ∧ 0 < w.heap.size) (w0 : IsRow .u8 w a0 len0 cap0 z0) (w1 : IsRow .u8 w a1 len1 cap1 z1) (w2 : IsRow .u8 w a2 len2 cap2 z2) :
    Calls Tryd.prog 9 #[.slice a0 len0 cap0, .slice a1 len1 cap1, .slice a2 len2 cap2] w fun e w' => e = .returned (.bool true) ∧ Below w.heap.size w w' := by
  obtain ⟨l0, h0, hB0, hn0, hm0, hc0⟩ := w0.bytes
  obtain ⟨l1, h1, hB1, hn1, hm1, hc1⟩ := w1.bytes
  obtain ⟨l2, h2, hB2, hn2, hm2, hc2⟩ := w2.bytes
  exact sumLinear_any l0 l1 l2 len0 len1 len2 a0 a1 a2 cap0 cap1 cap2 h0 h1 h2 hc0 hc1 w hm0 hm1 hm2 hL.1 hL.2 hB0 hn0 hB1 hn1 hB2
end Go.Proofs.YtpgddaipbonjjaaDoor
