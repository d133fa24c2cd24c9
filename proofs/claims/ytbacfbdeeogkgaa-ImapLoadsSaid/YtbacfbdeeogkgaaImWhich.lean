/-
  The inode map's walks: which, Room, Busy, put, Free, Set, Force.
-/
import Derived.Test.YtbacfbdeeogkgaaImWalks
import Derived.Test.YtbacfbdeeogkgaaIntsEq
namespace Go.Proofs.Ytbacfbdeeogkgaa
open Go.RowKit Go.Maps

theorem info_int : (Try.prog.info? 3).map (fun i => (i.zero, i.size, i.bytes)) = some (some (.int .i64 0), 1, 8) := by kernel_rfl
/-- The inodes of the first k places, the root's place on, for which something holds. -/
def lstI (p : Nat → Bool) : Nat → List Int
  | 0 => []
  | k + 1 => if 1 ≤ k ∧ p k = true then lstI p k ++ [(k : Int) + 1] else lstI p k
theorem lstI_len (p : Nat → Bool) : ∀ k, (lstI p k).length ≤ k
  | 0 => Nat.le_refl _
  | k + 1 => by
    have := lstI_len p k
    show (if 1 ≤ k ∧ p k = true then lstI p k ++ [(k : Int) + 1] else lstI p k : List Int).length ≤ _
    split
    · simp; omega
    · omega
theorem lstI_one (p : Nat → Bool) : lstI p 1 = [] := rfl
def WhR (w : World) (p : Nat → Bool) (n : Nat) (v i : Value) (wr : World) : Prop :=
  ∃ (m : Nat) (a : Option Addr) (cap : Nat), 1 ≤ m ∧ m ≤ n ∧ i = .int .i64 ((m : Int) + 1) ∧ v = .slice a (lstI p m).length cap ∧ wr.ownsRow w.heap.size 3 1 (.slice a (lstI p m).length cap) (lstI p m).length (cellsI (lstI p m)) ∧ Below w.heap.size w wr
def WhO (w : World) (p : Nat → Bool) (n : Nat) (e : Ending) (w' : World) : Prop :=
  ∃ a cap, e = .returned (.slice a (lstI p n).length cap) ∧ w'.ownsRow w.heap.size 3 1 (.slice a (lstI p n).length cap) (lstI p n).length (cellsI (lstI p n)) ∧ Below w.heap.size w w'
section
variable {w w' : World} {bm gs gd n N i : Nat} {A V : Nat → Int} {B : Nat → Bool}
set_option maxHeartbeats 2000000 in
theorem which_can (h : Im w bm gs gd n N A V B) (h1 : 1 ≤ n) (hn : n ≤ 200) :
    Calls Try.prog 34 #[.pointer (some ⟨bm, 0, none⟩), .func (.func 32) #[.pointer (some ⟨bm, 0, none⟩)] #[]] w (WhO w (canB V B) n) := by
  obtain ⟨p, hp⟩ : ∃ p, p = (canB V B) := ⟨_, rfl⟩
  have HCall : Hid (∀ (W : World) (i : Nat), i < n → Below w.heap.size w W → Calls Try.prog 32 #[.pointer (some ⟨bm, 0, none⟩), .int .i64 ((i : Int) + 1)] W fun e w' => e = .returned (.bool (p i)) ∧ W = w') := by
    show ∀ _, _
    intro W i hi hb
    rw [hp]
    exact canGive_any (h.later hb) hi hn
  have HT : Hid (∀ W : World, Below w.heap.size w W → W.cell? ⟨bm, 0, none⟩ = some (.slice (some ⟨gs, 0, none⟩) n n)) := fun W hb => by simpa using (h.later hb).top.cell 0
  rw [← hp]
  clear hp h
  go_enter Try.func34, Try.ntmps34
  go_wp2_with fail
  go_loopw [5, 6] (fun v i wr => WhR w p n v i wr) (fun _ i _ => n + 1 - (intOf i).toNat)
  case atStart => exact ⟨1, none, 0, Nat.le_refl _, h1, rfl, rfl, World.ownsRow_nil _ _ _ _, Below.refl _ _⟩
  case round =>
    obtain ⟨m, a, cap, hm1, hm, rfl, rfl, ho, hb⟩ := hrel
    have HO := Lib.hid ho
    have HB := Lib.hid hb
    have hsz := hb.size
    have hll := lstI_len p m
    have t0 := HT.out wr hb
    have i1 : (0 : Int) ≤ (m : Int) := by omega
    clear ho
    by_cases hlt : m < n
    · have i2 : (m : Int) < (n : Int) := by omega
      have HC := Lib.hid (HCall.out wr m hlt hb)
      clear hb
      by_cases hpm : p m = true
      · rw [hpm] at HC
        have HL : Hid (lstI p (m + 1) = lstI p m ++ [(m : Int) + 1]) := by show (if 1 ≤ m ∧ p m = true then _ else _) = _; rw [if_pos ⟨hm1, hpm⟩]
        clear hpm
        go_wp2_with fail
        refine HC.out.mono ?_
        rintro e w5 ⟨rfl, rfl⟩
        go_wp2_with (at_builtin; refine wp_append_int rfl (.tmp 19) (.tmp 21) 40 rfl w.heap.size 3 Try.underlying40 info_int _ (lstI p m).length (lstI p m) rfl (HO.out.alloc _) _ ((m : Int) + 1) rfl (by simp) (by omega) (by simp; omega) ?_; intro g2 cap2 w6 hown hgrow hat hlt1; have HO6 := Lib.hid hown; have HB6 : Hid (Below w.heap.size w w6) := ((HB.out.alloc hsz _).grown hgrow (by simp; omega) (fun q hq => (HO.out.lt q hq).1)); clear hown hgrow hat)
        go_roundw
        case rel => exact ⟨m + 1, some ⟨g2, 0, none⟩, cap2, by omega, by omega, by simp, by rw [HL.out]; simp, by rw [HL.out]; simpa using HO6.out, HB6.out⟩
        case measure => simp [intOf]; omega
      · have hpf : p m = false := by simpa using hpm
        rw [hpf] at HC
        have HL : Hid (lstI p (m + 1) = lstI p m) := by show (if 1 ≤ m ∧ p m = true then _ else _) = _; rw [if_neg (fun q => hpm q.2)]
        clear hpm hpf
        go_wp2_with fail
        refine HC.out.mono ?_
        rintro e w5 ⟨rfl, rfl⟩
        go_wp2_with fail
        go_roundw
        case rel => exact ⟨m + 1, a, cap, by omega, by omega, by simp, by rw [HL.out], by rw [HL.out]; exact HO.out, HB.out⟩
        case measure => simp [intOf]; omega
    · obtain rfl : m = n := by omega
      clear hlt hb
      go_wp2
      go_ret
      exact ⟨a, cap, rfl, HO.out, HB.out⟩
set_option maxHeartbeats 2000000 in
theorem which_bus (h : Im w bm gs gd n N A V B) (h1 : 1 ≤ n) (hn : n ≤ 200) :
    Calls Try.prog 34 #[.pointer (some ⟨bm, 0, none⟩), .func (.func 37) #[.pointer (some ⟨bm, 0, none⟩)] #[]] w (WhO w B n) := by
  obtain ⟨p, hp⟩ : ∃ p, p = B := ⟨_, rfl⟩
  have HCall : Hid (∀ (W : World) (i : Nat), i < n → Below w.heap.size w W → Calls Try.prog 37 #[.pointer (some ⟨bm, 0, none⟩), .int .i64 ((i : Int) + 1)] W fun e w' => e = .returned (.bool (p i)) ∧ W = w') := by
    show ∀ _, _
    intro W i hi hb
    rw [hp]
    exact isBusy_any (h.later hb) hi hn
  have HT : Hid (∀ W : World, Below w.heap.size w W → W.cell? ⟨bm, 0, none⟩ = some (.slice (some ⟨gs, 0, none⟩) n n)) := fun W hb => by simpa using (h.later hb).top.cell 0
  rw [← hp]
  clear hp h
  go_enter Try.func34, Try.ntmps34
  go_wp2_with fail
  go_loopw [5, 6] (fun v i wr => WhR w p n v i wr) (fun _ i _ => n + 1 - (intOf i).toNat)
  case atStart => exact ⟨1, none, 0, Nat.le_refl _, h1, rfl, rfl, World.ownsRow_nil _ _ _ _, Below.refl _ _⟩
  case round =>
    obtain ⟨m, a, cap, hm1, hm, rfl, rfl, ho, hb⟩ := hrel
    have HO := Lib.hid ho
    have HB := Lib.hid hb
    have hsz := hb.size
    have hll := lstI_len p m
    have t0 := HT.out wr hb
    have i1 : (0 : Int) ≤ (m : Int) := by omega
    clear ho
    by_cases hlt : m < n
    · have i2 : (m : Int) < (n : Int) := by omega
      have HC := Lib.hid (HCall.out wr m hlt hb)
      clear hb
      by_cases hpm : p m = true
      · rw [hpm] at HC
        have HL : Hid (lstI p (m + 1) = lstI p m ++ [(m : Int) + 1]) := by show (if 1 ≤ m ∧ p m = true then _ else _) = _; rw [if_pos ⟨hm1, hpm⟩]
        clear hpm
        go_wp2_with fail
        refine HC.out.mono ?_
        rintro e w5 ⟨rfl, rfl⟩
        go_wp2_with (at_builtin; refine wp_append_int rfl (.tmp 19) (.tmp 21) 40 rfl w.heap.size 3 Try.underlying40 info_int _ (lstI p m).length (lstI p m) rfl (HO.out.alloc _) _ ((m : Int) + 1) rfl (by simp) (by omega) (by simp; omega) ?_; intro g2 cap2 w6 hown hgrow hat hlt1; have HO6 := Lib.hid hown; have HB6 : Hid (Below w.heap.size w w6) := ((HB.out.alloc hsz _).grown hgrow (by simp; omega) (fun q hq => (HO.out.lt q hq).1)); clear hown hgrow hat)
        go_roundw
        case rel => exact ⟨m + 1, some ⟨g2, 0, none⟩, cap2, by omega, by omega, by simp, by rw [HL.out]; simp, by rw [HL.out]; simpa using HO6.out, HB6.out⟩
        case measure => simp [intOf]; omega
      · have hpf : p m = false := by simpa using hpm
        rw [hpf] at HC
        have HL : Hid (lstI p (m + 1) = lstI p m) := by show (if 1 ≤ m ∧ p m = true then _ else _) = _; rw [if_neg (fun q => hpm q.2)]
        clear hpm hpf
        go_wp2_with fail
        refine HC.out.mono ?_
        rintro e w5 ⟨rfl, rfl⟩
        go_wp2_with fail
        go_roundw
        case rel => exact ⟨m + 1, a, cap, by omega, by omega, by simp, by rw [HL.out], by rw [HL.out]; exact HO.out, HB.out⟩
        case measure => simp [intOf]; omega
    · obtain rfl : m = n := by omega
      clear hlt hb
      go_wp2
      go_ret
      exact ⟨a, cap, rfl, HO.out, HB.out⟩
set_option maxHeartbeats 400000 in
theorem room_any (h : Im w bm gs gd n N A V B) (h1 : 1 ≤ n) (hn : n ≤ 200) :
    Calls Try.prog 13 #[.pointer (some ⟨bm, 0, none⟩)] w fun e w' => e = .returned (.int .i64 ((lstI (canB V B) n).length : Nat)) ∧ Below w.heap.size w w' := by
  have HW := Lib.hid (which_can h h1 hn)
  have hmf : ∀ (fn : Fn) (first cap : Array Value) (w : World), (Instr.makeFunc fn first cap).run Try.prog w = .ok (.func fn first cap) w := fun _ _ _ _ => rfl
  clear h
  go_enter Try.func13, Try.ntmps13
  go_wp2_with fail
  refine HW.out.mono ?_
  rintro e w' ⟨a, cap, rfl, _, hb⟩
  have HB := Lib.hid hb
  clear hb
  go_wp2
  go_ret
  exact ⟨rfl, HB.out⟩
set_option maxHeartbeats 400000 in
theorem busy_any (h : Im w bm gs gd n N A V B) (h1 : 1 ≤ n) (hn : n ≤ 200) :
    Calls Try.prog 17 #[.pointer (some ⟨bm, 0, none⟩)] w (WhO w B n) := by
  have HW := Lib.hid (which_bus h h1 hn)
  have hmf : ∀ (fn : Fn) (first cap : Array Value) (w : World), (Instr.makeFunc fn first cap).run Try.prog w = .ok (.func fn first cap) w := fun _ _ _ _ => rfl
  clear h
  go_enter Try.func17, Try.ntmps17
  go_wp2_with fail
  refine HW.out.mono ?_
  rintro e w' ⟨a, cap, rfl, ho, hb⟩
  have HB := Lib.hid hb
  have HO := Lib.hid ho
  clear hb ho
  go_wp2
  go_ret
  exact ⟨a, cap, rfl, HO.out, HB.out⟩
end
end Go.Proofs.Ytbacfbdeeogkgaa
