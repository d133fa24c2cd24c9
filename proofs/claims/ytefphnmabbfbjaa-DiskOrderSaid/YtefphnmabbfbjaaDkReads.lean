/-
  The walk of DiskReads.
-/
import Derived.Test.YtefphnmabbfbjaaDkAwake
import Derived.Deep.RegionWith
namespace Go.Proofs.Ytefphnmabbfbjaa
open Go.RowKit

theorem cut4096' (x : Int) : ∃ k : Nat, k < 4096 ∧ wrap64 ((IntKind.u64.wrap x).tmod 4096) = (k : Int) := by
  obtain ⟨k, hk, e⟩ := cut_mod x 4095 (by decide)
  exact ⟨k, by omega, e⟩
section
variable {C : Nat} {w w' : World} {L : Dl} {d : Dm}
set_option maxHeartbeats 1000000 in
theorem write_len' (i : Nat) (a : Option Addr) (m cap : Nat) (hi : i < d.n) (hm : m ≠ 64) (hm2 : m ≤ 9223372036854775807) (h : Dk C w L d) : Calls Try.prog 15 #[.pointer (some ⟨L.bd, 0, none⟩), .int .i64 i, .slice a m cap] w fun e w' => e = .returned (.int .i64 22) ∧ w = w' := by
  have t1 := h.top.cell 1
  have k0 : (0 : Int) ≤ (i : Int) := by omega
  have k1 : (i : Int) < (d.n : Int) := by omega
  have k2 : ((m : Int) != 64) = true := by rw [bne_iff_ne]; omega
  simp at t1
  clear h
  go_enter Try.func15, Try.ntmps15
  go_wp2
  go_ret
  exact ⟨rfl, rfl⟩
theorem BBlk.bytes {g : Nat} {l : List Nat} (h : BBlk w g l) : Bytes w (some ⟨g, 0, none⟩) l := ⟨h.2.2, by rw [h.2.1]; decide, fun _ => ⟨g, 0, rfl, fun i hi => by
  rw [Nat.zero_add, h.1.cell, List.getElem?_toArray, cellsB_get _ _ hi]⟩⟩
theorem BBlk.str {g : Nat} {l : List Nat} (h : BBlk w g l) : (convert 36 9 (.slice (some ⟨g, 0, none⟩) 64 64)).run Try.prog w = .ok (.string (strOf l)) w :=
  run_str w 36 9 5 Try.underlying36 Try.underlying5 Try.underlying9 l _ 64 64 h.2.1.symm h.bytes
end
theorem exec_str {s : ByteArray} (ρ : Operand → Value) (x : Operand) (u : Value) (hx : ρ x = u) (d : Option Tmp) (ty : TypeId) (pos : String) (af : Array Edge) (g : Option (Nat × Bool)) (w : World) (h : (convert 36 9 u).run Try.prog w = .ok (.string s) w) :
    (execOp ρ ⟨d, .convert 36 9 x, ty, pos, af, g⟩).run Try.prog w = .ok (.value (.string s)) w := by
  subst hx
  simp [execOp, h]
theorem cellsB_set (l : List Nat) (k v : Nat) : (cellsB l).set k (.int .u8 (v : Int)) = cellsB (l.set k v) := by simp [cellsB, List.map_set]
def ReaR (W : World) (gy : Nat) (L : Dl) (d : Dm) (t : Value) (wr : World) : Prop :=
  ∃ k : Nat, k ≤ 64 ∧ t = .int .i64 k ∧ (∃ m, BBlk wr gy m) ∧ Dk W.heap.size wr L d ∧ Below W.heap.size W wr
set_option maxRecDepth 100000 in
set_option maxHeartbeats 4000000 in
theorem diskReads_walk (x i : Int) (a : Option Addr) (bn cap : Nat) (z : List Int) (W : World) (_ : (Lit.int .i64 x).wf = true) (hi : (Lit.int .i64 i).wf = true) (hbs : IsRow .u8 W a bn cap z) :
    Calls Try.prog 6 #[.int .i64 x, .int .i64 i, .slice a bn cap] W fun e w' => e = .returned (.bool true) ∧ Below W.heap.size W w' := by
  obtain ⟨n0, hn0, hx⟩ := cut4096' x
  obtain ⟨l, hl1, hl2, hl3, hl4, hl5⟩ := hbs.bytes
  obtain ⟨n, hn⟩ : ∃ n, n0 + 1 = n := ⟨_, rfl⟩
  have hnn : (n0 : Int) + 1 = (n : Int) := by omega
  have HLen := Lib.hid hl1
  have HBs := Lib.hid hl2
  clear hl1 hl2 hl3 hbs hn hi
  have hnB : 1 ≤ n ∧ n ≤ 4096 := by omega
  obtain ⟨hnB1, hnB2⟩ := hnB
  go_enter Try.func6, Try.ntmps6
  go_wp2_with fail
  refine (awake_any _).mono ?_
  rintro e w1 ⟨rfl, hb1⟩
  have HB1 := Lib.hid hb1
  clear hb1
  go_wp2_with fail
  refine (new_any n w1 hnB1 hnB2).mono ?_
  rintro e w2 ⟨L, rfl, hD, hb⟩
  have HD := Lib.hid (hD.deeper HB1.out.size)
  have HB := Lib.hid (HB1.out.trans (hb.mono HB1.out.size))
  clear hD hb HB1 hnn hx
  go_wp2_with fail
  have HSz : Hid (Calls Try.prog 23 #[.pointer (some ⟨L.bd, 0, none⟩)] w2 fun e w' => e = .returned (.int .i64 (n : Nat)) ∧ w2 = w') := size_any HD.out
  refine HSz.out.mono ?_
  rintro e w2' ⟨rfl, rfl⟩
  clear HSz
  go_wp2_with fail
  by_cases hin : 0 ≤ i ∧ i < (n : Int)
  · obtain ⟨p, rfl⟩ : ∃ p : Nat, i = (p : Int) := ⟨i.toNat, by omega⟩
    have hp : p < n := by omega
    have hp0 : (0 : Int) ≤ (p : Int) := by omega
    have hp1 : (p : Int) < (n : Int) := by omega
    clear hin
    refine (read_yes p hp HD.out).mono ?_
    rintro e w3 ⟨gx, rfl, hx3, hg3, hb3⟩
    have HX3 := Lib.hid hx3
    have HD3 := Lib.hid (HD.out.later hb3)
    have HB3 := Lib.hid (HB.out.trans (hb3.mono HB.out.size))
    have HGx : Hid (¬ L.has gx) := fun h => by have := (HD.out.has_lt h).2; omega
    clear hx3 hg3 hb3 HD HB
    go_wp2_with fail
    refine (bytes_any a bn cap l _ HLen.out hl4 (HBs.out.below HB3.out)).mono ?_
    rintro e w4 ⟨gb, rfl, hk4, hg4, hb4⟩
    have HX4 := Lib.hid (HX3.out.out (X := fun _ => False) (Out.of_below hb4) (fun h => h))
    have HD4 := Lib.hid (HD3.out.later hb4)
    have HB4 := Lib.hid (HB3.out.trans (hb4.mono HB3.out.size))
    have HK4 := Lib.hid hk4
    clear hk4 hg4 hb4 HD3 HB3 HX3
    go_wp2_with fail
    refine (write_yes (d := newD n) p gb 64 (byt l) hp rfl (show (0 : Int) ≤ 0 by decide) (show (0 : Int) < 1000000 by decide) (show 0 < 1000000 by decide) HK4.out HD4.out).mono ?_
    intro e w5 hO
    have hX5 : BBlk w5 gx zeroB := HX4.out.out hO.2.choose_spec.2.1 HGx.out
    obtain ⟨rfl, L5, e5, hD5, hb5⟩ := hO.use HD4.out HB4.out (Nat.le_refl _) (Nat.le_refl _)
    have HD5 := Lib.hid hD5
    have HB5 := Lib.hid hb5
    have HX5 := Lib.hid hX5
    rw [← e5]
    clear hO hD5 hb5 hX5 e5 HD4 HB4 HX4 HK4 HGx
    go_wp2_with fail
    have hc3 : (convert 36 9 (.slice (some ⟨w5.heap.size, 0, none⟩) 64 64)).run Try.prog (w5.alloc (.cells Z64 U8)).drew = .ok (.string (strOf zeroB)) (w5.alloc (.cells Z64 U8)).drew := ((bblk_zero w5).out (X := fun _ => False) (Out.of_below ((Below.refl _ _).drew)) (fun h => h)).str
    have hm1 := run_make64
    obtain ⟨Z3, hm3⟩ : ∃ Z : Array Value, ∀ W : World, (Instr.makeSlice 36 (.int .i64 63) (.int .i64 63)).run Try.prog W = .ok (.slice (some ⟨W.heap.size, 0, none⟩) 63 63) (W.alloc (.cells Z U8)) := ⟨(List.replicate 63 (Value.int .u8 0)).toArray, fun _ => by kernel_rfl⟩
    have HWl : Hid (∀ W' a, Below w5.heap.size w5 W' → Calls Try.prog 15 #[.pointer (some ⟨L5.bd, 0, none⟩), .int .i64 p, .slice a 63 63] W' fun e w' => e = .returned (.int .i64 22) ∧ W' = w') := fun W' a hb => write_len' p a 63 63 hp (by decide) (by decide) (HD5.out.later hb)
    have hss : ((strOf zeroB).toList != (strOf zeroB).toList) = false := by simp
    refine wp_region_held_drew (S := fun W => Below w5.heap.size w5 W) (by kernel_rfl) ((Below.refl w5.heap.size w5).drew) (fun hHeld => ?_)
    refine wpAnyH_take (i := 0) (oi := ⟨some 73, _, _, _, _, _⟩) (v := ?_) rfl (by kernel_rfl) (by kernel_rfl) (by kernel_rfl) (fun _ _ _ h => h) (Or.inl ⟨by rfl, fun W hW => ?_⟩) (by assumption) ?_
    rotate_left
    · skip; go_simp; try with_reducible rfl
    simp only [Act.put, List.setIfInBounds_toArray, List.set_cons_zero, List.set_cons_succ]
    refine wpAnyH_take (i := 1) (oi := ⟨some 74, _, _, _, _, _⟩) (v := ?_) rfl (by kernel_rfl) (by kernel_rfl) (by kernel_rfl) (fun _ _ _ h => h) (Or.inl ⟨by rfl, fun W hW => ?_⟩) (by assumption) ?_
    rotate_left
    · skip; go_simp; try with_reducible rfl
    simp only [Act.put, List.setIfInBounds_toArray, List.set_cons_zero, List.set_cons_succ]
    refine wpAnyH_take (i := 2) (oi := ⟨some 75, _, _, _, _, _⟩) (v := ?_) rfl (by kernel_rfl) (by kernel_rfl) (by kernel_rfl) (fun _ _ _ h => h) (Or.inl ⟨by rfl, fun W hW => ?_⟩) (by assumption) ?_
    rotate_left
    · skip; go_simp; try with_reducible rfl
    simp only [Act.put, List.setIfInBounds_toArray, List.set_cons_zero, List.set_cons_succ]
    refine wpAnyH_take (i := 3) (oi := ⟨some 76, _, _, _, _, _⟩) (v := ?_) rfl (by kernel_rfl) (by kernel_rfl) (by kernel_rfl) (fun _ _ _ h => h) (Or.inl ⟨by rfl, fun W hW => ?_⟩) (by assumption) ?_
    rotate_left
    · skip; go_simp; try with_reducible rfl
    simp only [Act.put, List.setIfInBounds_toArray, List.set_cons_zero, List.set_cons_succ]
    refine wpAnyH_take (i := 4) (oi := ⟨some 77, _, _, _, _, _⟩) (v := ?_) rfl (by kernel_rfl) (by kernel_rfl) (by kernel_rfl) (fun _ _ _ h => h) (Or.inl ⟨by rfl, fun W hW => ?_⟩) (by assumption) ?_
    rotate_left
    · skip; go_simp; try with_reducible rfl
    simp only [Act.put, List.setIfInBounds_toArray, List.set_cons_zero, List.set_cons_succ]
    refine wpAnyH_take (i := 5) (oi := ⟨some 78, _, _, _, _, _⟩) (v := ?_) rfl (by kernel_rfl) (by kernel_rfl) (by kernel_rfl) (fun _ _ _ h => h) (Or.inl ⟨by rfl, fun W hW => ?_⟩) (by assumption) ?_
    rotate_left
    · skip; go_simp; try with_reducible rfl
    simp only [Act.put, List.setIfInBounds_toArray, List.set_cons_zero, List.set_cons_succ]
    refine wpAnyH_take (i := 6) (oi := ⟨some 79, _, _, _, _, _⟩) (v := ?_) rfl (by kernel_rfl) (by kernel_rfl) (by kernel_rfl) (fun _ _ _ h => h) (Or.inl ⟨by rfl, fun W hW => ?_⟩) (by assumption) ?_
    rotate_left
    · skip; go_simp; try with_reducible rfl
    simp only [Act.put, List.setIfInBounds_toArray, List.set_cons_zero, List.set_cons_succ]
    refine wpAnyH_take (i := 7) (oi := ⟨some 80, _, _, _, _, _⟩) (v := ?_) rfl (by kernel_rfl) (by kernel_rfl) (by kernel_rfl) (fun _ _ _ h => h) (Or.inl ⟨by rfl, fun W hW => ?_⟩) (by assumption) ?_
    rotate_left
    · skip; go_simp; try with_reducible rfl
    simp only [Act.put, List.setIfInBounds_toArray, List.set_cons_zero, List.set_cons_succ]
    refine wpAnyH_take (i := 8) (oi := ⟨some 81, _, _, _, _, _⟩) (v := ?_) rfl (by kernel_rfl) (by kernel_rfl) (by kernel_rfl) (fun _ _ _ h => h) (Or.inl ⟨by rfl, fun W hW => ?_⟩) (by assumption) ?_
    rotate_left
    · (refine exec_str _ _ _ ?_ _ _ _ _ _ W (HX5.out.out (X := fun _ => False) (Out.of_below hW) (fun h => h)).str) <;> (first | rfl | simp [Act.eval])
    simp only [Act.put, List.setIfInBounds_toArray, List.set_cons_zero, List.set_cons_succ]
    refine wpAnyH_ready (rs := [9]) (by kernel_rfl) (by simp) ?_
    refine AllReadyH.cons (o := ⟨some 82, _, _, _, _, _⟩) rfl (fun K hK => ?_) AllReadyH.nil
    go_simp
    refine hK.out _ _ (by first | exact hHeld | exact ((Below.refl _ _).alloc (Nat.le_refl _) _).drew | exact ((((Below.refl _ _).alloc (Nat.le_refl _) _).alloc (by simp) _).drew)) (fun hHeld => ?_)
    clear hK K
    try simp only [Act.put, List.setIfInBounds_toArray, List.set_cons_zero, List.set_cons_succ]
    refine wpAnyH_ready (rs := [10]) (by kernel_rfl) (by simp) ?_
    refine AllReadyH.cons (o := ⟨some 83, _, _, _, _, _⟩) rfl (fun K hK => ?_) AllReadyH.nil
    go_simp
    refine hK.out _ _ (by first | exact hHeld | exact ((Below.refl _ _).alloc (Nat.le_refl _) _).drew | exact ((((Below.refl _ _).alloc (Nat.le_refl _) _).alloc (by simp) _).drew)) (fun hHeld => ?_)
    clear hK K
    try simp only [Act.put, List.setIfInBounds_toArray, List.set_cons_zero, List.set_cons_succ]
    refine wpAnyH_take (i := 11) (oi := ⟨some 84, _, _, _, _, _⟩) (v := ?_) rfl (by kernel_rfl) (by kernel_rfl) (by kernel_rfl) (fun _ _ _ h => h) (Or.inl ⟨by rfl, fun W hW => ?_⟩) (by assumption) ?_
    rotate_left
    · skip; go_simp; try with_reducible rfl
    simp only [Act.put, List.setIfInBounds_toArray, List.set_cons_zero, List.set_cons_succ]
    refine wpAnyH_take (i := 12) (oi := ⟨some 85, _, _, _, _, _⟩) (v := ?_) rfl (by kernel_rfl) (by kernel_rfl) (by kernel_rfl) (fun _ _ _ h => h) (Or.inl ⟨by rfl, fun W hW => ?_⟩) (by assumption) ?_
    rotate_left
    · skip; go_simp; try with_reducible rfl
    simp only [Act.put, List.setIfInBounds_toArray, List.set_cons_zero, List.set_cons_succ]
    refine wpAnyH_take (i := 13) (oi := ⟨some 86, _, _, _, _, _⟩) (v := ?_) rfl (by kernel_rfl) (by kernel_rfl) (by kernel_rfl) (fun _ _ _ h => h) (Or.inl ⟨by rfl, fun W hW => ?_⟩) (by assumption) ?_
    rotate_left
    · skip; go_simp; try with_reducible rfl
    simp only [Act.put, List.setIfInBounds_toArray, List.set_cons_zero, List.set_cons_succ]
    refine wpAnyH_take (i := 14) (oi := ⟨some 87, _, _, _, _, _⟩) (v := ?_) rfl (by kernel_rfl) (by kernel_rfl) (by kernel_rfl) (fun _ _ _ h => h) (Or.inl ⟨by rfl, fun W hW => ?_⟩) (by assumption) ?_
    rotate_left
    · skip; go_simp; try with_reducible rfl
    simp only [Act.put, List.setIfInBounds_toArray, List.set_cons_zero, List.set_cons_succ]
    refine wpAnyH_take (i := 15) (oi := ⟨some 88, _, _, _, _, _⟩) (v := ?_) rfl (by kernel_rfl) (by kernel_rfl) (by kernel_rfl) (fun _ _ _ h => h) (Or.inl ⟨by rfl, fun W hW => ?_⟩) (by assumption) ?_
    rotate_left
    · skip; go_simp; try with_reducible rfl
    simp only [Act.put, List.setIfInBounds_toArray, List.set_cons_zero, List.set_cons_succ]
    refine wpAnyH_ready (rs := [16]) (by kernel_rfl) (by simp) ?_
    refine AllReadyH.cons (o := ⟨some 89, _, _, _, _, _⟩) rfl (fun K hK => ?_) AllReadyH.nil
    go_simp
    refine hK.out _ _ (by first | exact hHeld | exact ((Below.refl _ _).alloc (Nat.le_refl _) _).drew | exact ((((Below.refl _ _).alloc (Nat.le_refl _) _).alloc (by simp) _).drew)) (fun hHeld => ?_)
    clear hK K
    try simp only [Act.put, List.setIfInBounds_toArray, List.set_cons_zero, List.set_cons_succ]
    refine wpAnyH_ready (rs := [17]) (by kernel_rfl) (by simp) ?_
    refine AllReadyH.cons (o := ⟨some 90, _, _, _, _, _⟩) rfl (fun K hK => ?_) AllReadyH.nil
    go_simp
    go_wp2_with (go_at_call 15; (refine (HWl.out _ _ ?_).mono ?_); exact hHeld; rintro e wz ⟨rfl, rfl⟩)
    refine hK.out _ _ (by first | exact hHeld | exact ((Below.refl _ _).alloc (Nat.le_refl _) _).drew | exact ((((Below.refl _ _).alloc (Nat.le_refl _) _).alloc (by simp) _).drew)) (fun hHeld => ?_)
    clear hK K
    try simp only [Act.put, List.setIfInBounds_toArray, List.set_cons_zero, List.set_cons_succ]
    refine wpAnyH_take (i := 18) (oi := ⟨some 91, _, _, _, _, _⟩) (v := ?_) rfl (by kernel_rfl) (by kernel_rfl) (by kernel_rfl) (fun _ _ _ h => h) (Or.inl ⟨by rfl, fun W hW => ?_⟩) (by assumption) ?_
    rotate_left
    · skip; go_simp; try with_reducible rfl
    simp only [Act.put, List.setIfInBounds_toArray, List.set_cons_zero, List.set_cons_succ]
    refine wpAnyH_take (i := 19) (oi := ⟨some 92, _, _, _, _, _⟩) (v := ?_) rfl (by kernel_rfl) (by kernel_rfl) (by kernel_rfl) (fun _ _ _ h => h) (Or.inl ⟨by rfl, fun W hW => ?_⟩) (by assumption) ?_
    rotate_left
    · skip; go_simp; try with_reducible rfl
    simp only [Act.put, List.setIfInBounds_toArray, List.set_cons_zero, List.set_cons_succ]
    refine wpAnyH_done (by kernel_rfl) ?_ _
    clear hc3 hm1 hm3 hss
    go_wp2_with fail
    have hbx : Below w5.heap.size w5 ((w5.alloc (.cells Z64 U8)).alloc (.cells Z3 U8)).drew := (((Below.refl _ _).alloc (Nat.le_refl _) _).alloc (by simp) _).drew
    have HD6 := Lib.hid (HD5.out.later hbx)
    have HB6 := Lib.hid (HB5.out.trans (hbx.mono HB5.out.size))
    clear hbx HD5 HB5 HX5 HWl
    generalize ((w5.alloc (Obj.cells Z64 U8)).alloc (Obj.cells Z3 U8)).drew = w6 at *
    have HR6 : Hid (Calls Try.prog 21 #[.pointer (some ⟨L5.bd, 0, none⟩), .int .i64 p] w6 (ReadO w6 (byt l))) := by
      have h := read_yes p hp HD6.out
      rw [show (putD (newD n) p (byt l)).N p = byt l from updB_at _ _ _] at h
      exact h
    refine HR6.out.mono ?_
    rintro e w7 ⟨gy, rfl, hy, hgy, hb7⟩
    have HD7 := Lib.hid (HD6.out.later hb7)
    have HB7 := Lib.hid (HB6.out.trans (hb7.mono HB6.out.size))
    have HGy : Hid (¬ L5.has gy) := fun h => by have := (HD6.out.has_lt h).2; omega
    have HGyW : Hid (W.heap.size ≤ gy) := Nat.le_trans HB6.out.size hgy
    have HSt : Hid (ReaR W gy L5 (putD (newD n) p (byt l)) (.int .i64 0) w7) := ⟨0, by omega, rfl, ⟨_, hy⟩, HD7.out, HB7.out⟩
    clear hy hgy hb7 HD6 HB6 HR6 HD7 HB7
    go_wp2_with fail
    go_loopw [101, 13] (fun t _ wr => ReaR W gy L5 (putD (newD n) p (byt l)) t wr) (fun t _ _ => 64 - (intOf t).toNat)
    case atStart => exact HSt.out
    case round =>
      clear HSt
      obtain ⟨k, hk, rfl, ⟨m, hm⟩, hD, hb⟩ := hrel
      have HM := Lib.hid hm
      have HD := Lib.hid hD
      have HB := Lib.hid hb
      clear hm hD hb
      by_cases hlt : k < 64
      · have k0 : (0 : Int) ≤ (k : Int) := by omega
        have k1 : (k : Int) < 64 := by omega
        have hc := HM.out.1.cell k
        rw [List.getElem?_toArray, cellsB_get _ _ (by rw [HM.out.2.1]; exact hlt)] at hc
        have hf := HM.out.1.frozen k
        have hx0 : m.getD k 0 < 256 := getD_b HM.out.2.2 k
        have hv : (((m.getD k 0 : Nat) : Int) + 1) % 256 = (((m.getD k 0 + 1) % 256 : Nat) : Int) := by omega
        have HX : Hid (BBlk (wr.setCell ⟨gy, k, none⟩ (.int .u8 ((((m.getD k 0 : Nat) : Int) + 1) % 256))) gy (m.set k ((m.getD k 0 + 1) % 256))) := ⟨by
          have := HM.out.1.put k (.int .u8 (((m.getD k 0 + 1) % 256 : Nat) : Int))
          rw [List.setIfInBounds_toArray, cellsB_set] at this
          rw [hv]
          exact this, by rw [List.length_set]; exact HM.out.2.1, fun x hx => by
          rcases List.mem_or_eq_of_mem_set hx with h | h
          · exact HM.out.2.2 x h
          · rw [h]; exact Nat.mod_lt _ (by decide)⟩
        have ho : ∀ u, Out (fun j => j = gy) wr (wr.setCell ⟨gy, k, none⟩ u) := fun u => out_put wr ⟨gy, k, none⟩ u rfl
        have HO := Lib.hid ho
        clear ho hv
        generalize m.getD k 0 = x at *
        go_wp2_with fail
        have HD2 := Lib.hid (HD.out.out (HO.out (.int .u8 (((x : Int) + 1) % 256))) (fun i hi e => HGy.out (by rw [← e]; exact hi)))
        have HB2 := Lib.hid (HB.out.setCell (p := ⟨gy, k, none⟩) HGyW.out (.int .u8 (((x : Int) + 1) % 256)))
        clear hc hf HD HB HO HM
        go_roundw
        case rel => exact ⟨k + 1, by omega, by simp, ⟨_, HX.out⟩, HD2.out, HB2.out⟩
        case measure => simp [intOf]; omega
      · have hke : k = 64 := by omega
        have k1 : ¬ (k : Int) < 64 := by omega
        have HR8 : Hid (Calls Try.prog 21 #[.pointer (some ⟨L5.bd, 0, none⟩), .int .i64 p] wr (ReadO wr (byt l))) := by
          have h := read_yes p hp HD.out
          rw [show (putD (newD n) p (byt l)).N p = byt l from updB_at _ _ _] at h
          exact h
        clear hke HM
        go_wp2_with fail
        refine HR8.out.mono ?_
        rintro e w8 ⟨gz, rfl, hz, hgz, hb8⟩
        have HD8 := Lib.hid (HD.out.later hb8)
        have HB8 := Lib.hid (HB.out.trans (hb8.mono HB.out.size))
        have HZ8 := Lib.hid hz
        have HBy : Hid (∀ W', Below w8.heap.size w8 W' → Calls Try.prog 16 #[.slice a bn cap] W' (BytO W' (byt l))) := fun W' hb => bytes_any a bn cap l _ HLen.out hl4 (HBs.out.below (HB8.out.trans (hb.mono HB8.out.size)))
        have HQu : Hid (∀ W', Below w8.heap.size w8 W' → Calls Try.prog 20 #[.pointer (some ⟨L5.bd, 0, none⟩)] W' (QueO W' [(p, byt l)])) := fun W' hb => queue_any (HD8.out.later hb)
        clear hz hgz hb8 HR8 HD HB
        go_wp2_with fail
        refine wp_region_held_drew (S := fun W => Below w8.heap.size w8 W) (by kernel_rfl) ((Below.refl w8.heap.size w8).drew) (fun hHeld => ?_)
        refine wpAnyH_take (i := 0) (oi := ⟨some 117, _, _, _, _, _⟩) (v := ?_) rfl (by kernel_rfl) (by kernel_rfl) (by kernel_rfl) (fun _ _ _ h => h) (Or.inl ⟨by rfl, fun W hW => ?_⟩) (by assumption) ?_
        rotate_left
        · skip; go_simp; try with_reducible rfl
        simp only [Act.put, List.setIfInBounds_toArray, List.set_cons_zero, List.set_cons_succ]
        refine wpAnyH_take (i := 1) (oi := ⟨some 118, _, _, _, _, _⟩) (v := ?_) rfl (by kernel_rfl) (by kernel_rfl) (by kernel_rfl) (fun _ _ _ h => h) (Or.inl ⟨by rfl, fun W hW => ?_⟩) (by assumption) ?_
        rotate_left
        · skip; go_simp; try with_reducible rfl
        simp only [Act.put, List.setIfInBounds_toArray, List.set_cons_zero, List.set_cons_succ]
        refine wpAnyH_take (i := 2) (oi := ⟨some 119, _, _, _, _, _⟩) (v := ?_) rfl (by kernel_rfl) (by kernel_rfl) (by kernel_rfl) (fun _ _ _ h => h) (Or.inl ⟨by rfl, fun W hW => ?_⟩) (by assumption) ?_
        rotate_left
        · skip; go_simp; try with_reducible rfl
        simp only [Act.put, List.setIfInBounds_toArray, List.set_cons_zero, List.set_cons_succ]
        refine wpAnyH_take (i := 3) (oi := ⟨some 120, _, _, _, _, _⟩) (v := ?_) rfl (by kernel_rfl) (by kernel_rfl) (by kernel_rfl) (fun _ _ _ h => h) (Or.inl ⟨by rfl, fun W hW => ?_⟩) (by assumption) ?_
        rotate_left
        · skip; go_simp; try with_reducible rfl
        simp only [Act.put, List.setIfInBounds_toArray, List.set_cons_zero, List.set_cons_succ]
        refine wpAnyH_take (i := 4) (oi := ⟨some 121, _, _, _, _, _⟩) (v := ?_) rfl (by kernel_rfl) (by kernel_rfl) (by kernel_rfl) (fun _ _ _ h => h) (Or.inl ⟨by rfl, fun W hW => ?_⟩) (by assumption) ?_
        rotate_left
        · (refine exec_str _ _ _ ?_ _ _ _ _ _ W (HZ8.out.out (X := fun _ => False) (Out.of_below hW) (fun h => h)).str) <;> (first | rfl | simp [Act.eval])
        simp only [Act.put, List.setIfInBounds_toArray, List.set_cons_zero, List.set_cons_succ]
        refine wpAnyH_take (i := 5) (oi := ⟨some 122, _, _, _, _, _⟩) (v := ?_) rfl (by kernel_rfl) (by kernel_rfl) (by kernel_rfl) (fun _ _ _ h => h) (Or.inl ⟨by rfl, fun W hW => ?_⟩) (by assumption) ?_
        rotate_left
        · skip; go_simp; try with_reducible rfl
        simp only [Act.put, List.setIfInBounds_toArray, List.set_cons_zero, List.set_cons_succ]
        refine wpAnyH_ready (rs := [6]) (by kernel_rfl) (by simp) ?_
        refine AllReadyH.cons (o := ⟨some 123, _, _, _, _, _⟩) rfl (fun K hK => ?_) AllReadyH.nil
        go_simp
        go_wp2_with (go_at_call 16; (refine (HBy.out _ ?_).mono ?_); exact hHeld; rintro e w9 ⟨g9, rfl, hk9, hg9, hb9⟩; have hcv := hk9.str; have HW9 := Lib.hid (hHeld.trans (hb9.mono hHeld.size)); clear hk9 hg9 hb9)
        refine hK.out _ _ HW9.out (fun hHeld => ?_)
        clear hK K
        try simp only [Act.put, List.setIfInBounds_toArray, List.set_cons_zero, List.set_cons_succ]
        refine wpAnyH_ready (rs := [7]) (by kernel_rfl) (by simp) ?_
        refine AllReadyH.cons (o := ⟨some 124, _, _, _, _, _⟩) rfl (fun K hK => ?_) AllReadyH.nil
        go_simp
        refine hK.out _ _ HW9.out (fun hHeld => ?_)
        clear hK K
        try simp only [Act.put, List.setIfInBounds_toArray, List.set_cons_zero, List.set_cons_succ]
        refine wpAnyH_take (i := 8) (oi := ⟨some 125, _, _, _, _, _⟩) (v := ?_) rfl (by kernel_rfl) (by kernel_rfl) (by kernel_rfl) (fun _ _ _ h => h) (Or.inl ⟨by rfl, fun W hW => ?_⟩) (by assumption) ?_
        rotate_left
        · skip; go_simp; try with_reducible rfl
        simp only [Act.put, List.setIfInBounds_toArray, List.set_cons_zero, List.set_cons_succ]
        refine wpAnyH_take (i := 9) (oi := ⟨some 126, _, _, _, _, _⟩) (v := ?_) rfl (by kernel_rfl) (by kernel_rfl) (by kernel_rfl) (fun _ _ _ h => h) (Or.inl ⟨by rfl, fun W hW => ?_⟩) (by assumption) ?_
        rotate_left
        · skip; go_simp; try with_reducible rfl
        simp only [Act.put, List.setIfInBounds_toArray, List.set_cons_zero, List.set_cons_succ]
        refine wpAnyH_take (i := 10) (oi := ⟨some 127, _, _, _, _, _⟩) (v := ?_) rfl (by kernel_rfl) (by kernel_rfl) (by kernel_rfl) (fun _ _ _ h => h) (Or.inl ⟨by rfl, fun W hW => ?_⟩) (by assumption) ?_
        rotate_left
        · skip; go_simp; try with_reducible rfl
        simp only [Act.put, List.setIfInBounds_toArray, List.set_cons_zero, List.set_cons_succ]
        refine wpAnyH_take (i := 11) (oi := ⟨some 128, _, _, _, _, _⟩) (v := ?_) rfl (by kernel_rfl) (by kernel_rfl) (by kernel_rfl) (fun _ _ _ h => h) (Or.inl ⟨by rfl, fun W hW => ?_⟩) (by assumption) ?_
        rotate_left
        · skip; go_simp; try with_reducible rfl
        simp only [Act.put, List.setIfInBounds_toArray, List.set_cons_zero, List.set_cons_succ]
        refine wpAnyH_ready (rs := [12]) (by kernel_rfl) (by simp) ?_
        refine AllReadyH.cons (o := ⟨some 129, _, _, _, _, _⟩) rfl (fun K hK => ?_) AllReadyH.nil
        go_simp
        go_wp2_with (go_at_call 20; (refine (HQu.out _ ?_).mono ?_); exact hHeld; rintro e w10 ⟨gq, rfl, hk10, hg10, hb10⟩; have HW10 := Lib.hid (hHeld.trans (hb10.mono hHeld.size)); clear hk10 hg10 hb10)
        refine hK.out _ _ HW10.out (fun hHeld => ?_)
        clear hK K
        try simp only [Act.put, List.setIfInBounds_toArray, List.set_cons_zero, List.set_cons_succ]
        refine wpAnyH_take (i := 13) (oi := ⟨some 130, _, _, _, _, _⟩) (v := ?_) rfl (by kernel_rfl) (by kernel_rfl) (by kernel_rfl) (fun _ _ _ h => h) (Or.inl ⟨by rfl, fun W hW => ?_⟩) (by assumption) ?_
        rotate_left
        · skip; go_simp; try with_reducible rfl
        simp only [Act.put, List.setIfInBounds_toArray, List.set_cons_zero, List.set_cons_succ]
        refine wpAnyH_take (i := 14) (oi := ⟨some 131, _, _, _, _, _⟩) (v := ?_) rfl (by kernel_rfl) (by kernel_rfl) (by kernel_rfl) (fun _ _ _ h => h) (Or.inl ⟨by rfl, fun W hW => ?_⟩) (by assumption) ?_
        rotate_left
        · skip; go_simp; try with_reducible rfl
        simp only [Act.put, List.setIfInBounds_toArray, List.set_cons_zero, List.set_cons_succ]
        refine wpAnyH_take (i := 15) (oi := ⟨some 132, _, _, _, _, _⟩) (v := ?_) rfl (by kernel_rfl) (by kernel_rfl) (by kernel_rfl) (fun _ _ _ h => h) (Or.inl ⟨by rfl, fun W hW => ?_⟩) (by assumption) ?_
        rotate_left
        · skip; go_simp; try with_reducible rfl
        simp only [Act.put, List.setIfInBounds_toArray, List.set_cons_zero, List.set_cons_succ]
        refine wpAnyH_take (i := 16) (oi := ⟨some 6, _, _, _, _, _⟩) (v := ?_) rfl (by kernel_rfl) (by kernel_rfl) (by kernel_rfl) (fun _ _ _ h => h) (Or.inl ⟨by rfl, fun W hW => ?_⟩) (by assumption) ?_
        rotate_left
        · skip; go_simp; try with_reducible rfl
        simp only [Act.put, List.setIfInBounds_toArray, List.set_cons_zero, List.set_cons_succ]
        refine wpAnyH_done (by kernel_rfl) ?_ _
        clear hcv
        have HF := Lib.hid (HB8.out.trans (HW10.out.mono HB8.out.size))
        go_wp2
        go_ret
        exact ⟨by simp, HF.out⟩
  · have hout : i < 0 ∨ (n : Int) ≤ i := by omega
    clear hin
    have HRb := Lib.hid (read_bad i hout HD.out)
    refine HRb.out.mono ?_
    rintro e w3 ⟨rfl, rfl⟩
    clear HRb
    go_wp2_with fail
    refine (bytes_any a bn cap l _ HLen.out hl4 (HBs.out.below HB.out)).mono ?_
    rintro e w4 ⟨gb, rfl, hk4, hg4, hb4⟩
    have HD4 := Lib.hid (HD.out.later hb4)
    have HB4 := Lib.hid (HB.out.trans (hb4.mono HB.out.size))
    clear hk4 hg4 hb4 HD HB
    have HWr : Hid (Calls Try.prog 15 #[.pointer (some ⟨L.bd, 0, none⟩), .int .i64 i, .slice (some ⟨gb, 0, none⟩) 64 64] w4 (CodeO W.heap.size w4 L (newD n) 22)) := by
      rcases hout with h | h
      · exact write_low i _ 64 64 h HD4.out
      · exact write_high i _ 64 64 h HD4.out
    go_wp2_with fail
    refine HWr.out.mono ?_
    intro e w5 hO
    obtain ⟨rfl, L5, e5, hD5, hb5⟩ := hO.use HD4.out HB4.out (Nat.le_refl _) (Nat.le_refl _)
    have HSt : Hid (Calls Try.prog 19 #[.pointer (some ⟨L.bd, 0, none⟩)] w5 fun e w' => e = .returned (.int .i64 0) ∧ w5 = w') := by
      rw [← e5]; exact steps_any hD5
    have HB5 := Lib.hid hb5
    clear hO hD5 hb5 e5 HD4 HB4 HWr
    rcases hout with h | h
    · go_wp2_with fail
      refine HSt.out.mono ?_
      rintro e w6 ⟨rfl, rfl⟩
      go_wp2
      go_ret
      exact ⟨rfl, HB5.out⟩
    · have h0 : ¬ i < 0 := by omega
      go_wp2_with fail
      refine HSt.out.mono ?_
      rintro e w6 ⟨rfl, rfl⟩
      go_wp2
      go_ret
      exact ⟨rfl, HB5.out⟩
end Go.Proofs.Ytefphnmabbfbjaa
