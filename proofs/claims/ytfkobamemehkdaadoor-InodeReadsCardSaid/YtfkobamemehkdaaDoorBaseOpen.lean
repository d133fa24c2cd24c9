/-
  The walks of Open, the program's and the document's.
-/
import Derived.Test.YtfkobamemehkdaaDoorBaseSeal
import Derived.Deep.RegionHeld
namespace Go.Proofs.YtfkobamemehkdaaDoor
open Go.RowKit

set_option maxHeartbeats 400000 in
theorem refOpen_few (l : List Nat) (n : Nat) (hlt : n < 4) (a : Option Addr) (cap : Nat) (w : World) :
    Calls Tryd.prog 29 #[.slice a n cap] w fun e w' => e = .returned (.tuple #[.slice none 0 0, .int .i64 100]) ∧ w = w' := by
  go_enter Tryd.func29, Tryd.ntmps29
  go_wp2
  go_ret2
  exact ⟨rfl, rfl⟩
theorem len4 (l : List Nat) : (sealN l).length = l.length + 4 := by simp [sealN, le4]
theorem sealN_lt {l : List Nat} (h : ∀ x ∈ l, x < 256) : ∀ x ∈ sealN l, x < 256 := by
  intro x hx
  rcases List.mem_append.1 hx with h1 | h1
  · exact h x h1
  · exact le4_lt _ x h1
/-- What the document's Open answers of bytes that are sealed. -/
def RefOpened (w : World) (l : List Nat) (k : Nat) (e : Ending) (w' : World) : Prop :=
  ∃ a' cap', e = .returned (.tuple #[.slice a' k cap', .int .i64 0]) ∧ Bytes w' a' (l.take k) ∧ Below w.heap.size w w'
set_option maxHeartbeats 800000 in
theorem refOpen_good (l : List Nat) (n k : Nat) (hn : n = l.length) (hk : n = k + 4) (hmax : n ≤ 1099511627776) (a : Option Addr) (cap : Nat) (hc : n ≤ cap) (w : World) (h : Bytes w a l) (ha : a = none → l = [] ∧ cap = 0) (hs : sealN (l.take k) = l) :
    Calls Tryd.prog 29 #[.slice a n cap] w (RefOpened w l k) := by
  have hK : Hid (∀ W, Below w.heap.size w W → (convert 27 9 (.slice a n cap)).run Tryd.prog W = .ok (.string (strOf l)) W) := fun W hb =>
    run_str W 27 9 5 Tryd.underlying27 Tryd.underlying5 Tryd.underlying9 l a n cap hn (h.below hb)
  obtain ⟨a1, hs1, hB1, ha1⟩ := slice_head (P := Tryd.prog) 27 5 Tryd.underlying27 size_u8 hn h ha hc k (by omega)
  have H := Lib.hid h
  have HB1 := Lib.hid hB1
  have HA1 := Lib.hid ha1
  have HK1 : Hid (k = (l.take k).length) := by show _ = _; simp; omega
  have HS := Lib.hid hs
  have HK2 : Hid (k + 4 = l.length) := by show _ = _; omega
  have hkn : ((n : Int) - 4) = (k : Int) := by omega
  have hkm : k ≤ 1099511627776 := by omega
  clear h ha hn hB1 ha1 hs hk
  go_enter Tryd.func29, Tryd.ntmps29
  go_wp2_with fail
  go_region_held (fun W => (convert 27 9 (.slice a n cap)).run Tryd.prog W = .ok (.string (strOf l)) W)
    (first | exact hK.out _ ((Below.refl _ _).drew) | exact hK.out _ HBw.out)
    (first | (go_at_call 28; refine (refSeal_any (l.take k) k HK1.out hkm a1 cap _ (HB1.out.below ((Below.refl _ _).drew)) HA1.out).mono ?_; rintro e w2 ⟨a', cap', rfl, hby, hbw, _, _⟩; rw [HS.out] at hby; have HBw : Hid (Below w.heap.size w w2) := ((Below.refl _ _).drew).trans hbw; have HBy := Lib.hid hby; have hcv := run_str w2 27 9 5 Tryd.underlying27 Tryd.underlying5 Tryd.underlying9 l a' _ cap' HK2.out HBy.out; clear hby hbw))
  go_wp2
  go_ret2
  exact ⟨a1, cap, rfl, HB1.out.below HBw.out, HBw.out⟩
set_option maxHeartbeats 800000 in
theorem refOpen_bad (l : List Nat) (n k : Nat) (hn : n = l.length) (hk : n = k + 4) (hmax : n ≤ 1099511627776) (a : Option Addr) (cap : Nat) (hc : n ≤ cap) (w : World) (h : Bytes w a l) (ha : a = none → l = [] ∧ cap = 0) (hs : sealN (l.take k) ≠ l) :
    Calls Tryd.prog 29 #[.slice a n cap] w fun e w' => e = .returned (.tuple #[.slice none 0 0, .int .i64 101]) ∧ Below w.heap.size w w' := by
  have hK : Hid (∀ W, Below w.heap.size w W → (convert 27 9 (.slice a n cap)).run Tryd.prog W = .ok (.string (strOf l)) W) := fun W hb =>
    run_str W 27 9 5 Tryd.underlying27 Tryd.underlying5 Tryd.underlying9 l a n cap hn (h.below hb)
  obtain ⟨a1, hs1, hB1, ha1⟩ := slice_head (P := Tryd.prog) 27 5 Tryd.underlying27 size_u8 hn h ha hc k (by omega)
  have H := Lib.hid h
  have HB1 := Lib.hid hB1
  have HA1 := Lib.hid ha1
  have HK1 : Hid (k = (l.take k).length) := by show _ = _; simp; omega
  have HS := Lib.hid hs
  have HK2 : Hid (k + 4 = l.length) := by show _ = _; omega
  have hkn : ((n : Int) - 4) = (k : Int) := by omega
  have hkm : k ≤ 1099511627776 := by omega
  have hne := str_ne (sealN_lt hB1.1) h.1 hs
  clear h ha hn hB1 ha1 hs hk
  go_enter Tryd.func29, Tryd.ntmps29
  go_wp2_with fail
  go_region_held (fun W => (convert 27 9 (.slice a n cap)).run Tryd.prog W = .ok (.string (strOf l)) W)
    (first | exact hK.out _ ((Below.refl _ _).drew) | exact hK.out _ HBw.out)
    (first | (go_at_call 28; refine (refSeal_any (l.take k) k HK1.out hkm a1 cap _ (HB1.out.below ((Below.refl _ _).drew)) HA1.out).mono ?_; rintro e w2 ⟨a', cap', rfl, hby, hbw, _, _⟩; have HBw : Hid (Below w.heap.size w w2) := ((Below.refl _ _).drew).trans hbw; have HBy := Lib.hid hby; have hcv := run_str w2 27 9 5 Tryd.underlying27 Tryd.underlying5 Tryd.underlying9 (sealN (l.take k)) a' _ cap' (by rw [len4, ← HK1.out]) HBy.out; clear hby hbw))
  go_wp2
  go_ret2
  exact ⟨rfl, HBw.out⟩

set_option maxHeartbeats 400000 in
theorem open_few (n : Nat) (hlt : n < 4) (a : Option Addr) (cap : Nat) (w : World) :
    Calls Tryd.prog 24 #[.slice a n cap] w fun e w' => e = .returned (.tuple #[.slice none 0 0, .int .i64 100]) ∧ w = w' := by
  go_enter Tryd.func24, Tryd.ntmps24
  go_wp2
  go_ret2
  exact ⟨rfl, rfl⟩
theorem le4_of (x0 x1 x2 x3 : Nat) (h0 : x0 < 256) (h1 : x1 < 256) (h2 : x2 < 256) (h3 : x3 < 256) : le4 (x0 + x1 * 256 + x2 * 65536 + x3 * 16777216) = [x0, x1, x2, x3] := by
  unfold le4
  have e0 : (x0 + x1 * 256 + x2 * 65536 + x3 * 16777216) % 256 = x0 := by omega
  have e1 : (x0 + x1 * 256 + x2 * 65536 + x3 * 16777216) / 256 % 256 = x1 := by omega
  have e2 : (x0 + x1 * 256 + x2 * 65536 + x3 * 16777216) / 65536 % 256 = x2 := by omega
  have e3 : (x0 + x1 * 256 + x2 * 65536 + x3 * 16777216) / 16777216 % 256 = x3 := by omega
  rw [e0, e1, e2, e3]
/-- The number that the last four bytes are. -/
def leV (t : List Nat) : Nat := t.getD 0 0 + t.getD 1 0 * 256 + t.getD 2 0 * 65536 + t.getD 3 0 * 16777216
theorem sealed_iff (l : List Nat) (k : Nat) (hk : l.length = k + 4) (h : ∀ x ∈ l, x < 256) : sealN (l.take k) = l ↔ leV (l.drop k) = crc (l.take k) := by
  have ht : (l.drop k).length = 4 := by simp; omega
  have hb : ∀ x ∈ l.drop k, x < 256 := fun x hx => h x (List.mem_of_mem_drop hx)
  obtain ⟨x0, x1, x2, x3, hx⟩ : ∃ x0 x1 x2 x3, l.drop k = [x0, x1, x2, x3] := by
    match hd : l.drop k, ht with
    | [x0, x1, x2, x3], _ => exact ⟨x0, x1, x2, x3, rfl⟩
  rw [hx] at hb
  have hl : l = l.take k ++ [x0, x1, x2, x3] := by rw [← hx, List.take_append_drop]
  have hc := crc_lt (l.take k) (fun x hx => h x (List.mem_of_mem_take hx))
  have b0 := hb x0 (by simp)
  have b1 := hb x1 (by simp)
  have b2 := hb x2 (by simp)
  have b3 := hb x3 (by simp)
  constructor
  · intro e
    have e2 : le4 (crc (l.take k)) = [x0, x1, x2, x3] := by
      have e3 : l.take k ++ le4 (crc (l.take k)) = l.take k ++ [x0, x1, x2, x3] := by
        rw [← hl]
        exact e
      exact List.append_cancel_left e3
    rw [hx]
    simp only [le4, List.cons.injEq, and_true] at e2
    simp only [leV, List.getD_cons_zero, List.getD_cons_succ]
    omega
  · intro e
    rw [hx] at e
    simp only [leV, List.getD_cons_zero, List.getD_cons_succ] at e
    unfold sealN
    rw [← e, le4_of x0 x1 x2 x3 b0 b1 b2 b3]
    exact hl.symm
theorem get_len (t : List Nat) (m : Nat) (hm : m = 4) (ht : t.length = 4) (a : Option Addr) (c : Nat) (w : World) (h : Bytes w a t) :
    Calls Tryd.prog 32 #[.slice a m c] w fun e w' => e = .returned (.int .u32 (leV t : Nat)) ∧ w = w' := by
  subst hm
  obtain ⟨b, o, rfl, hc⟩ := h.2.2 (fun e => by subst e; simp at ht)
  have c0 := hc 0 (by omega)
  have c1 := hc 1 (by omega)
  have c2 := hc 2 (by omega)
  have c3 := hc 3 (by omega)
  rw [Nat.add_zero] at c0
  exact get_any _ _ _ _ b o 4 c w (by decide) (by decide) (getD_byte h.1 0) (getD_byte h.1 1) (getD_byte h.1 2) (getD_byte h.1 3) c0 c1 c2 c3
theorem leV_lt {t : List Nat} (h : ∀ x ∈ t, x < 256) : leV t < 4294967296 := by
  have := getD_byte h 0
  have := getD_byte h 1
  have := getD_byte h 2
  have := getD_byte h 3
  unfold leV
  omega
/-- What the program's Open answers of bytes that are sealed. -/
def Opened (w : World) (l : List Nat) (k : Nat) (e : Ending) (w' : World) : Prop :=
  ∃ g, e = .returned (.tuple #[.slice (some ⟨g, 0, none⟩) k k, .int .i64 0]) ∧ Row w' g (l.take k) ∧ w.heap.size ≤ g ∧ Below w.heap.size w w'
set_option maxHeartbeats 800000 in
theorem open_bad (l : List Nat) (n k : Nat) (hn : n = l.length) (hk : n = k + 4) (hmax : n ≤ 1099511627776) (a : Option Addr) (cap : Nat) (hc : n ≤ cap) (w : World) (ht : Tab w) (h : Bytes w a l) (ha : a = none → l = [] ∧ cap = 0) (hs : sealN (l.take k) ≠ l) :
    Calls Tryd.prog 24 #[.slice a n cap] w fun e w' => e = .returned (.tuple #[.slice none 0 0, .int .i64 101]) ∧ Below w.heap.size w w' := by
  obtain ⟨a1, hs1, hB1, ha1⟩ := slice_head (P := Tryd.prog) 27 5 Tryd.underlying27 size_u8 hn h ha hc k (by omega)
  obtain ⟨a2, hs2, hB2, ha2⟩ := slice_tail (P := Tryd.prog) 27 5 Tryd.underlying27 size_u8 hn h ha hc k (by omega)
  have HT := Lib.hid ht
  have HB1 := Lib.hid hB1
  have HB2 := Lib.hid hB2
  have HK1 : Hid (k = (l.take k).length) := by show _ = _; simp; omega
  have HK3 : Hid (n - k = 4) := by show _ = _; omega
  have HK2 : Hid ((l.drop k).length = 4) := by show _ = _; simp; omega
  have hne : ((leV (l.drop k) : Int) == (crc (l.take k) : Int)) = false := by
    have := mt (sealed_iff l k (by omega) h.1).2 hs
    simpa using fun e => this (by omega)
  have hkn : ((n : Int) - 4) = (k : Int) := by omega
  have hk0 : ¬ ((n : Int) - 4 < 0) := by omega
  have hkm : k ≤ 1099511627776 := by omega
  clear h ha hn hB1 ha1 hB2 ha2 hs hk ht
  go_enter Tryd.func24, Tryd.ntmps24
  go_wp2_with fail
  go_quiet ((first | (go_at_call 32; exact Calls.quiet_of_same (flip_same (get_len (l.drop k) _ HK3.out HK2.out a2 _ _ (HB2.out.drewN _)))) | (go_at_call 31; exact Calls.quiet_of_same (flip_same (sum_len (l.take k) k HK1.out a1 _ _ (HT.out.drewN _) (HB1.out.drewN _))))))
  go_wp2
  go_ret2
  exact ⟨rfl, below_drewN (Below.refl _ _) _⟩
theorem drew_size (w : World) (q : Nat) : (w.drewN q).heap.size = w.heap.size := rfl
set_option maxHeartbeats 800000 in
theorem open_good (l : List Nat) (n k : Nat) (hn : n = l.length) (hk : n = k + 4) (hmax : n ≤ 1099511627776) (a : Option Addr) (cap : Nat) (hc : n ≤ cap) (w : World) (ht : Tab w) (h : Bytes w a l) (ha : a = none → l = [] ∧ cap = 0) (hs : sealN (l.take k) = l) :
    Calls Tryd.prog 24 #[.slice a n cap] w (Opened w l k) := by
  obtain ⟨a1, hs1, hB1, ha1⟩ := slice_head (P := Tryd.prog) 27 5 Tryd.underlying27 size_u8 hn h ha hc k (by omega)
  obtain ⟨a2, hs2, hB2, ha2⟩ := slice_tail (P := Tryd.prog) 27 5 Tryd.underlying27 size_u8 hn h ha hc k (by omega)
  obtain ⟨a3, hs3, hB3⟩ := slice_full (P := Tryd.prog) 27 5 Tryd.underlying27 size_u8 hn h hc k (by omega)
  have HT := Lib.hid ht
  have HB1 := Lib.hid hB1
  have HB2 := Lib.hid hB2
  have HB3 := Lib.hid hB3
  have HK1 : Hid (k = (l.take k).length) := by show _ = _; simp; omega
  have HK3 : Hid (n - k = 4) := by show _ = _; omega
  have HK2 : Hid ((l.drop k).length = 4) := by show _ = _; simp; omega
  have heq : ((leV (l.drop k) : Int) == (crc (l.take k) : Int)) = true := by
    have := (sealed_iff l k (by omega) h.1).1 hs
    simp [this]
  have hkn : ((n : Int) - 4) = (k : Int) := by omega
  have hk0 : ¬ ((n : Int) - 4 < 0) := by omega
  have hkm : k ≤ 1099511627776 := by omega
  clear h ha hn hB1 ha1 hB2 ha2 hB3 hs hk ht
  go_enter Tryd.func24, Tryd.ntmps24
  go_wp2_with fail
  go_quiet ((first | (go_at_call 32; exact Calls.quiet_of_same (flip_same (get_len (l.drop k) _ HK3.out HK2.out a2 _ _ (HB2.out.drewN _)))) | (go_at_call 31; exact Calls.quiet_of_same (flip_same (sum_len (l.take k) k HK1.out a1 _ _ (HT.out.drewN _) (HB1.out.drewN _))))))
  rename_i nq
  have HB4 : Hid (Bytes (w.drewN nq) a3 (l.take k)) := HB3.out.drewN _
  have HW : Hid (Below w.heap.size w (w.drewN nq)) := below_drewN (Below.refl _ _) _
  have hsz := drew_size w nq
  generalize w.drewN nq = w1 at HB4 HW hsz ⊢
  have HZ := Lib.hid hsz
  clear hsz
  have hmk := run_make_bytes (P := Tryd.prog) 27 5 Tryd.underlying27 info_u8 w1 (k : Int) k rfl (by omega)
  have L1 : Hid ((cellsB (l.take k)).length = Nat.min k k) := by show _ = min k k; rw [cellsB_length, ← HK1.out]; omega
  have L2 : Hid (0 + (cellsB (l.take k)).length ≤ (cellsB (List.replicate k 0)).length) := by show _ ≤ _; simp only [cellsB_length, List.length_replicate]; rw [← HK1.out]; omega
  have L3 : Hid (splice (cellsB (List.replicate k 0)) 0 (cellsB (l.take k)) = cellsB (l.take k)) := by
    show _ = _
    rw [splice_cells (l.take k) k, ← HK1.out, Nat.sub_self]
    simp
  have hrow0 : Hid ((w1.alloc (.cells (cellsB (List.replicate k 0)).toArray 5)).heap[w1.heap.size]? = some (.cells (cellsB (List.replicate k 0)).toArray 5 (0, 0))) := row_laid w1 _
  go_wp2_with (refine wpList_copy_splice rfl (.tmp 27) (.tmp 28) 27 27 rfl 5 Tryd.underlying27 size_one _ _ _ _ _ _ rfl rfl w1.heap.size 0 (cellsB (List.replicate k 0)) 5 hrow0.out (cellsB (l.take k)) L1.out (fun hp => ⟨rfl, Bytes.src (HB4.out.below ((Below.refl _ _).alloc (Nat.le_refl _) _)) hp⟩) L2.out (cellsB_one _) w1.heap.size w1 ((Below.refl _ _).alloc (Nat.le_refl _) _) (Nat.le_refl _) ?_; intro w2 hrow2 hb2; rw [L3.out] at hrow2; have HR2 := Lib.hid hrow2; have HB5 := Lib.hid hb2; clear hrow2 hb2)
  go_ret2
  exact ⟨w1.heap.size, rfl, HR2.out, by rw [HZ.out]; exact Nat.le_refl _, HW.out.trans (by have := HB5.out; rwa [HZ.out] at this)⟩
end Go.Proofs.YtfkobamemehkdaaDoor
