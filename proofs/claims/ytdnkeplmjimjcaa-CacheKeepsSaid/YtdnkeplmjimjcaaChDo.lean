/-
  Clean, Pin, Unpin and Drop of any key.
-/
import Derived.Test.YtdnkeplmjimjcaaChChg
namespace Go.Proofs.Ytdnkeplmjimjcaa
open Go.RowKit

section
variable {w w' : World} {bc bm base b : Nat} {room uses : Int} {N T T' : Nat} {x : Sx} {a : Int} {s : Bf} {v : Value} {p : Int × Int} {L L' : List Bk}
theorem CcO.up {e : Ending} (h : CcO w bc bm base room N T L v e w') (hT : T ≤ T') : CcO w bc bm base room N T' L v e w' := ⟨h.1, h.2.1.mono (Nat.le_refl _) hT, h.2.2⟩
theorem CcO.before {w1 : World} {e : Ending} (h : CcO w1 bc bm base room N T L v e w') (hb : Below w.heap.size w w1) : CcO w bc bm base room N T L v e w' := ⟨h.1, h.2.1, outC_trans (Out.of_below hb) h.2.2⟩
theorem do_wash (h : CA w bc bm base room N T L) (hp : wfK p) :
    Calls Try.prog 39 #[.pointer (some ⟨bc, 0, none⟩), keyV p, .func (.func 42) #[] #[]] w (CcO w bc bm base room N (T + 1) (doK L 3 p).1 (.int .i64 (doK L 3 p).2)) := by
  cases hf : findK L p with
  | none =>
    unfold doK; rw [hf]
    exact (do_none h hp hf _).mono fun e w' q => q.up (by omega)
  | some s =>
    have e : doK L 3 p = (setK L p (fun s => { s with dirty := false }), 0) := by unfold doK; rw [hf]; rfl
    obtain ⟨x, b, hC, rfl, hq, rfl, hb, rfl⟩ := do_some h hf
    rw [e]
    exact (chg_wash hC hp hq (fun y hy => wash_any (hC.later hy) hb)).mono fun e w' q => q.up (by omega)
theorem do_pin (h : CA w bc bm base room N T L) (hp : wfK p) (hT : T ≤ 4000000000000000000) :
    Calls Try.prog 39 #[.pointer (some ⟨bc, 0, none⟩), keyV p, .func (.func 40) #[] #[]] w (CcO w bc bm base room N (T + 1) (doK L 4 p).1 (.int .i64 (doK L 4 p).2)) := by
  cases hf : findK L p with
  | none =>
    unfold doK; rw [hf]
    exact (do_none h hp hf _).mono fun e w' q => q.up (by omega)
  | some s =>
    have e : doK L 4 p = (setK L p (fun s => { s with pins := s.pins + 1 }), 0) := by unfold doK; rw [hf]; rfl
    obtain ⟨x, b, hC, rfl, hq, rfl, hb, rfl⟩ := do_some h hf
    rw [e]
    exact chg_pin hC hp hq (fun y hy => pin_any (hC.later hy) hb hT)
theorem do_unpin (h : CA w bc bm base room N T L) (hp : wfK p) (hT : T ≤ 4000000000000000000) :
    Calls Try.prog 39 #[.pointer (some ⟨bc, 0, none⟩), keyV p, .func (.func 41) #[] #[]] w (CcO w bc bm base room N (T + 1) (doK L 5 p).1 (.int .i64 (doK L 5 p).2)) := by
  cases hf : findK L p with
  | none =>
    unfold doK; rw [hf]
    exact (do_none h hp hf _).mono fun e w' q => q.up (by omega)
  | some s =>
    have e : doK L 5 p = (if s.pins = 0 then L else setK L p (fun s => { s with pins := s.pins - 1 }), if s.pins = 0 then 22 else 0) := by
      unfold doK
      rw [hf]
      by_cases q : s.pins = 0
      · simp [q]
      · simp [q]
    obtain ⟨x, b, hC, rfl, hq, rfl, hb, rfl⟩ := do_some h hf
    rw [e]
    exact (chg_unpin hC hp hq (fun y hy => unpin_any (hC.later hy) hb hT)).mono fun e w' q => q.up (by omega)
theorem do_drop (h : CA w bc bm base room N T L) (hp : wfK p) :
    Calls Try.prog 39 #[.pointer (some ⟨bc, 0, none⟩), keyV p, .func (.func 43) #[.pointer (some ⟨bc, 0, none⟩)] #[]] w (CcO w bc bm base room N (T + 1) (doK L 6 p).1 (.int .i64 (doK L 6 p).2)) := by
  cases hf : findK L p with
  | none =>
    unfold doK; rw [hf]
    exact (do_none h hp hf _).mono fun e w' q => q.up (by omega)
  | some s =>
    have e : doK L 6 p = (if 0 < s.pins then L else woK L p, if 0 < s.pins then 16 else 0) := by
      unfold doK
      rw [hf]
      by_cases q : 0 < s.pins
      · simp [q]
      · simp [q]
    obtain ⟨x, b, hC, rfl, hq, rfl, hb, rfl⟩ := do_some h hf
    rw [e]
    exact (chg_drop hC hp hq (fun y hy => drop_any (hC.later hy) hb)).mono fun e w' q => q.up (by omega)
set_option maxHeartbeats 4000000 in
theorem clean_any (h : CA w bc bm base room N T L) (hp : wfK p) :
    Calls Try.prog 26 #[.pointer (some ⟨bc, 0, none⟩), keyV p] w (CcO w bc bm base room N (T + 1) (doK L 3 p).1 (.int .i64 (doK L 3 p).2)) := by
  have HD : Hid (∀ y : World, Below w.heap.size w y → Calls Try.prog 39 #[.pointer (some ⟨bc, 0, none⟩), keyV p, .func (.func 42) #[] #[]] y (CcO y bc bm base room N (T + 1) (doK L 3 p).1 (.int .i64 (doK L 3 p).2))) := fun y hy => do_wash (h.later hy) hp
  generalize (doK L 3 p).1 = L' at *
  generalize (doK L 3 p).2 = code at *
  clear h hp
  obtain ⟨ki, kl⟩ := p
  unfold keyV at HD ⊢
  have HB := Lib.hid (sup_pc9 w (.cells #[.int .i64 ki, .int .i64 kl] KT))
  go_enter Try.func26, Try.ntmps26
  go_wp2_with fail
  refine (HD.out _ HB.out).mono ?_
  intro e w2 hc
  have HC := Lib.hid (hc.before HB.out)
  obtain ⟨rfl, -⟩ := hc
  go_wp2_with fail
  go_ret
  exact HC.out
set_option maxHeartbeats 4000000 in
theorem pinc_any (h : CA w bc bm base room N T L) (hp : wfK p) (hT : T ≤ 4000000000000000000) :
    Calls Try.prog 24 #[.pointer (some ⟨bc, 0, none⟩), keyV p] w (CcO w bc bm base room N (T + 1) (doK L 4 p).1 (.int .i64 (doK L 4 p).2)) := by
  have HD : Hid (∀ y : World, Below w.heap.size w y → Calls Try.prog 39 #[.pointer (some ⟨bc, 0, none⟩), keyV p, .func (.func 40) #[] #[]] y (CcO y bc bm base room N (T + 1) (doK L 4 p).1 (.int .i64 (doK L 4 p).2))) := fun y hy => do_pin (h.later hy) hp hT
  generalize (doK L 4 p).1 = L' at *
  generalize (doK L 4 p).2 = code at *
  clear h hp hT
  obtain ⟨ki, kl⟩ := p
  unfold keyV at HD ⊢
  have HB := Lib.hid (sup_pc9 w (.cells #[.int .i64 ki, .int .i64 kl] KT))
  go_enter Try.func24, Try.ntmps24
  go_wp2_with fail
  refine (HD.out _ HB.out).mono ?_
  intro e w2 hc
  have HC := Lib.hid (hc.before HB.out)
  obtain ⟨rfl, -⟩ := hc
  go_wp2_with fail
  go_ret
  exact HC.out
set_option maxHeartbeats 4000000 in
theorem unpinc_any (h : CA w bc bm base room N T L) (hp : wfK p) (hT : T ≤ 4000000000000000000) :
    Calls Try.prog 25 #[.pointer (some ⟨bc, 0, none⟩), keyV p] w (CcO w bc bm base room N (T + 1) (doK L 5 p).1 (.int .i64 (doK L 5 p).2)) := by
  have HD : Hid (∀ y : World, Below w.heap.size w y → Calls Try.prog 39 #[.pointer (some ⟨bc, 0, none⟩), keyV p, .func (.func 41) #[] #[]] y (CcO y bc bm base room N (T + 1) (doK L 5 p).1 (.int .i64 (doK L 5 p).2))) := fun y hy => do_unpin (h.later hy) hp hT
  generalize (doK L 5 p).1 = L' at *
  generalize (doK L 5 p).2 = code at *
  clear h hp hT
  obtain ⟨ki, kl⟩ := p
  unfold keyV at HD ⊢
  have HB := Lib.hid (sup_pc9 w (.cells #[.int .i64 ki, .int .i64 kl] KT))
  go_enter Try.func25, Try.ntmps25
  go_wp2_with fail
  refine (HD.out _ HB.out).mono ?_
  intro e w2 hc
  have HC := Lib.hid (hc.before HB.out)
  obtain ⟨rfl, -⟩ := hc
  go_wp2_with fail
  go_ret
  exact HC.out
set_option maxHeartbeats 4000000 in
theorem dropc_any (h : CA w bc bm base room N T L) (hp : wfK p) :
    Calls Try.prog 27 #[.pointer (some ⟨bc, 0, none⟩), keyV p] w (CcO w bc bm base room N (T + 1) (doK L 6 p).1 (.int .i64 (doK L 6 p).2)) := by
  have HD : Hid (∀ y : World, Below w.heap.size w y → Calls Try.prog 39 #[.pointer (some ⟨bc, 0, none⟩), keyV p, .func (.func 43) #[.pointer (some ⟨bc, 0, none⟩)] #[]] y (CcO y bc bm base room N (T + 1) (doK L 6 p).1 (.int .i64 (doK L 6 p).2))) := fun y hy => do_drop (h.later hy) hp
  generalize (doK L 6 p).1 = L' at *
  generalize (doK L 6 p).2 = code at *
  have hmf : ∀ (fn : Fn) (first cap : Array Value) (w : World), (Instr.makeFunc fn first cap).run Try.prog w = .ok (.func fn first cap) w := fun _ _ _ _ => rfl
  clear h hp
  obtain ⟨ki, kl⟩ := p
  unfold keyV at HD ⊢
  have HB := Lib.hid (sup_pc9 w (.cells #[.int .i64 ki, .int .i64 kl] KT))
  go_enter Try.func27, Try.ntmps27
  go_wp2_with fail
  refine (HD.out _ HB.out).mono ?_
  intro e w2 hc
  have HC := Lib.hid (hc.before HB.out)
  obtain ⟨rfl, -⟩ := hc
  go_wp2_with fail
  go_ret
  exact HC.out
end
end Go.Proofs.Ytdnkeplmjimjcaa
