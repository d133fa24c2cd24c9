/-
  The walks of a file's map: isData, gone, Get, Has.
-/
import Derived.Test.YtnlmpnpelnmpeaaFlMem
import Derived.Test.YtnlmpnpelnmpeaaIxLev
namespace Go.Proofs.Ytnlmpnpelnmpeaa
open Go.RowKit Go.Maps

theorem isData_yes (k : Nat) (w : World) (h : k < 600) : Calls Try.prog 43 #[.int .i64 k] w fun e w' => e = .returned (.bool true) ∧ w = w' := by
  have h1 : (k : Int) < 600 := by omega
  have h0 : (0 : Int) ≤ (k : Int) := by omega
  go_enter Try.func43, Try.ntmps43
  go_wp2
  go_ret
  exact ⟨rfl, rfl⟩
theorem isData_no (x : Int) (w : World) (h : ¬ (0 ≤ x ∧ x < 600)) : Calls Try.prog 43 #[.int .i64 x] w fun e w' => e = .returned (.bool false) ∧ w = w' := by
  by_cases h0 : 0 ≤ x
  · have h1 : ¬ x < 600 := by omega
    go_enter Try.func43, Try.ntmps43
    go_wp2
    go_ret
    exact ⟨rfl, rfl⟩
  · go_enter Try.func43, Try.ntmps43
    go_wp2
    go_ret
    exact ⟨rfl, rfl⟩
section
variable {B M b n : Nat} {d : Nat → Int} {f : Int → Option Nat} {ad ct : Int → Int} {w : World}
theorem get_data (k : Nat) (hk : k < 600) (h : FC B M b n d f ad ct w) : Calls Try.prog 24 #[.pointer (some ⟨M, 0, none⟩), .int .i64 k] w fun e w' => e = .returned (.int .i64 (d k)) ∧ w = w' := by
  have c0 := h.dat k hk
  have h1 : (k : Int) < 600 := by omega
  have h0 : (0 : Int) ≤ (k : Int) := by omega
  clear h
  go_enter Try.func24, Try.ntmps24
  go_wp2_with fail
  refine (isData_yes k w hk).mono ?_
  rintro e w1 ⟨rfl, rfl⟩
  go_wp2
  go_ret
  exact ⟨rfl, rfl⟩
theorem get_none (x : Int) (hw : (Lit.int .i64 x).wf = true) (hx : ¬ (0 ≤ x ∧ x < 600)) (h : FC B M b n d f ad ct w) (hf : f x = none) : Calls Try.prog 24 #[.pointer (some ⟨M, 0, none⟩), .int .i64 x] w fun e w' => e = .returned (.int .i64 0) ∧ w = w' := by
  have c0 := h.bd
  have HP := Lib.hid h.mp
  have HW := hw
  clear hw
  clear h
  go_enter Try.func24, Try.ntmps24
  go_wp2_with fail
  refine (isData_no x w hx).mono ?_
  rintro e w1 ⟨rfl, rfl⟩
  go_wp2_with (at_lookup; refine wp_look_ok_none w rfl _ _ PT rfl _ undM (zeroM w) b n f rfl HP.out x rfl HW hf ?_)
  go_ret
  exact ⟨rfl, rfl⟩
theorem get_meta (x : Int) (hw : (Lit.int .i64 x).wf = true) (hx : ¬ (0 ≤ x ∧ x < 600)) (h : FC B M b n d f ad ct w) (g : Nat) (hf : f x = some g) : Calls Try.prog 24 #[.pointer (some ⟨M, 0, none⟩), .int .i64 x] w fun e w' => e = .returned (.int .i64 (ad x)) ∧ w = w' := by
  have c0 := h.bd
  have HP := Lib.hid h.mp
  have HW := hw
  clear hw
  have c1 : w.cell? ⟨g, 0, none⟩ = some (.int .i64 (ad x)) := ((h.mt x g hf).1.cell 0).trans rfl
  clear h
  go_enter Try.func24, Try.ntmps24
  go_wp2_with fail
  refine (isData_no x w hx).mono ?_
  rintro e w1 ⟨rfl, rfl⟩
  go_wp2_with (at_lookup; refine wp_look_ok_some w rfl _ _ PT rfl _ undM (zeroM w) b n f rfl HP.out x rfl HW g hf ?_)
  go_ret
  exact ⟨rfl, rfl⟩
end
/-- The address of any block. -/
def getM (d : Nat → Int) (ad : Int → Int) (x : Int) : Int := if 0 ≤ x ∧ x < 600 then d x.toNat else ad x
theorem getM_data (d : Nat → Int) (ad : Int → Int) (k : Nat) (h : k < 600) : getM d ad k = d k := by unfold getM; rw [if_pos (by omega), Int.toNat_natCast]
theorem getM_bd {B M b n : Nat} {d : Nat → Int} {f : Int → Option Nat} {ad ct : Int → Int} {w : World} (h : FC B M b n d f ad ct w) (x : Int) : 0 ≤ getM d ad x ∧ getM d ad x < 4096 := by
  unfold getM; split
  · exact h.dB _
  · exact h.aB _
theorem get_any {B M b n : Nat} {d : Nat → Int} {f : Int → Option Nat} {ad ct : Int → Int} {w : World} (x : Int) (hw : (Lit.int .i64 x).wf = true) (h : FC B M b n d f ad ct w) : Calls Try.prog 24 #[.pointer (some ⟨M, 0, none⟩), .int .i64 x] w fun e w' => e = .returned (.int .i64 (getM d ad x)) ∧ w = w' := by
  by_cases hx : 0 ≤ x ∧ x < 600
  · obtain ⟨k, rfl⟩ : ∃ k : Nat, x = k := ⟨x.toNat, by omega⟩
    rw [getM_data d ad k (by omega)]
    exact get_data k (by omega) h
  · unfold getM
    rw [if_neg hx]
    cases hf : f x with
    | none =>
      have := h.is x
      rw [hf] at this
      have h0 := h.cB x
      have h1 := h.az x (by simp at this; omega)
      rw [h1]
      exact get_none x hw hx h hf
    | some g => exact get_meta x hw hx h g hf
def hasM (d : Nat → Int) (ad ct : Int → Int) (x : Int) : Bool := decide (0 < ct x) || decide (getM d ad x ≠ 0)
theorem has_any {B M b n : Nat} {d : Nat → Int} {f : Int → Option Nat} {ad ct : Int → Int} {w : World} (x : Int) (hw : (Lit.int .i64 x).wf = true) (h : FC B M b n d f ad ct w) : Calls Try.prog 11 #[.pointer (some ⟨M, 0, none⟩), .int .i64 x] w fun e w' => e = .returned (.bool (hasM d ad ct x)) ∧ w = w' := by
  have c0 := h.bd
  have HP := Lib.hid h.mp
  have HW := hw
  clear hw
  have HI := h.is x
  have HG := Lib.hid (get_any x HW h)
  unfold hasM
  generalize getM d ad x = z at *
  clear h
  cases hf : f x with
  | none =>
    rw [hf] at HI
    have hc : decide (0 < ct x) = false := HI.symm
    rw [hc]
    clear HI hc
    by_cases hz : z = 0
    · have e1 : (z != 0) = false := by simp [hz]
      have e2 : decide (z ≠ 0) = false := by simp [hz]
      rw [e2]
      clear hz e2
      go_enter Try.func11, Try.ntmps11
      go_wp2_with (at_lookup; refine wp_look_ok_none w rfl _ _ PT rfl _ undM (zeroM w) b n f rfl HP.out x rfl HW hf ?_)
      refine HG.out.mono ?_
      rintro e w1 ⟨rfl, rfl⟩
      go_wp2
      go_ret
      exact ⟨rfl, rfl⟩
    · have e1 : (z != 0) = true := by simp [hz]
      have e2 : decide (z ≠ 0) = true := by simp [hz]
      rw [e2]
      clear hz e2
      go_enter Try.func11, Try.ntmps11
      go_wp2_with (at_lookup; refine wp_look_ok_none w rfl _ _ PT rfl _ undM (zeroM w) b n f rfl HP.out x rfl HW hf ?_)
      refine HG.out.mono ?_
      rintro e w1 ⟨rfl, rfl⟩
      go_wp2
      go_ret
      exact ⟨rfl, rfl⟩
  | some g =>
    rw [hf] at HI
    have hc : decide (0 < ct x) = true := HI.symm
    rw [hc]
    clear HI hc
    go_enter Try.func11, Try.ntmps11
    go_wp2_with (at_lookup; refine wp_look_ok_some w rfl _ _ PT rfl _ undM (zeroM w) b n f rfl HP.out x rfl HW g hf ?_)
    go_ret
    exact ⟨rfl, rfl⟩
/-- 'gone': an address is put behind, if it is told no more. -/
def goneM (old now : Int) : List Int := if old = 0 ∨ old = now then [] else [old]
theorem gone_any {w : World} (base m : Nat) (v : Value) (l : List Int) (old now : Int) (ho : w.ownsRow base 3 1 v m (cellsI l)) (hm : m < 100000) (hb : base ≤ w.heap.size) :
    Calls Try.prog 28 #[v, .int .i64 old, .int .i64 now] w fun e w' => ∃ v', e = .returned v' ∧ w'.ownsRow base 3 1 v' (m + (goneM old now).length) (cellsI (l ++ goneM old now)) ∧ w.grownBy w' v.ownBlock := by
  obtain ⟨va, vc, rfl, hvc⟩ := own_slice ho
  have HO := Lib.hid ho
  clear ho
  unfold goneM
  by_cases h0 : old = 0
  · rw [if_pos (.inl h0)]
    subst h0
    go_enter Try.func28, Try.ntmps28
    go_wp2
    go_ret
    exact ⟨_, rfl, by simpa using HO.out, ⟨rfl, rfl, rfl, Nat.le_refl _, fun _ _ _ => rfl⟩⟩
  · by_cases h1 : old = now
    · rw [if_pos (.inr h1)]
      subst h1
      go_enter Try.func28, Try.ntmps28
      go_wp2
      go_ret
      exact ⟨_, rfl, by simpa using HO.out, ⟨rfl, rfl, rfl, Nat.le_refl _, fun _ _ _ => rfl⟩⟩
    · rw [if_neg (by omega)]
      have e0 : (old == 0) = false := by simpa using h0
      have e1 : (old == now) = false := by simpa using h1
      clear h0 h1
      have info_i : (Try.prog.info? 3).map (fun i => (i.zero, i.size, i.bytes)) = some (some (.int .i64 0), 1, 8) := by kernel_rfl
      go_enter Try.func28, Try.ntmps28
      go_wp2_with (at_builtin; refine wp_append_int rfl (.tmp 15) (.tmp 17) 22 rfl base 3 Try.underlying22 info_i (.slice va m vc) m l rfl (own_later HO.out (sup_below w _)) _ old rfl (by simp) (by omega) (by simp <;> omega) ?_; intro g2 cap2 w6 hown hgrow hat hlt1)
      go_ret
      refine ⟨_, rfl, hown, ?_⟩
      have := (grown_of_below (sup_below w (.cells #[.int .i64 old] 3)) ((Value.slice va m vc).ownBlock)).trans hgrow
      exact this
end Go.Proofs.Ytnlmpnpelnmpeaa
