/-
  The walk of Tells: all that is told of a table is the document's.
-/
import Derived.Test.YtfilbbiiiaodiaaUrCall
import Derived.Test.YtfilbbiiiaodiaaUrSmall
import Derived.Test.YtfilbbiiiaodiaaQuiet
import Derived.Test.YtfilbbiiiaodiaaIntsEq
namespace Go.Proofs.Ytfilbbiiiaodiaa
open Go.RowKit

section
variable {w : World} {bt g n gr cap : Nat} {size hc hr : Int} {F : List Int}
set_option maxHeartbeats 1000000 in
theorem get_out (x : Int) (h : Tb w bt g TB IN n size hc F) (hn : n ≤ 512) (hx : x < 0 ∨ (n : Int) ≤ x) :
    Calls Try.prog 19 #[.pointer (some ⟨bt, 0, none⟩), .int .i64 x] w fun e w' => e = .returned (.tuple #[.agg #[.int .i64 0, .int .i64 0, .int .i64 0], .int .i64 22]) ∧ Below w.heap.size w w' := by
  have hb0 : Below w.heap.size w ((w.alloc (.cells #[.int .i64 0, .int .i64 0, .int .i64 0] IN)).alloc (.cells #[.int .i64 0, .int .i64 0, .int .i64 0] IN)) := ((Below.refl _ _).alloc (Nat.le_refl _) _).alloc (by simp) _
  have HB0 := Lib.hid hb0
  have HC := Lib.hid (fun act => with_out x act (h.later hb0) hn hx)
  have hmf : ∀ (fn : Fn) (first cap : Array Value) (w : World), (Instr.makeFunc fn first cap).run Try.prog w = .ok (.func fn first cap) w := fun _ _ _ _ => rfl
  clear h hb0 hx
  go_enter Try.func19, Try.ntmps19
  go_wp2_with fail
  refine (HC.out _).mono ?_
  rintro e w' ⟨rfl, rfl⟩
  clear HC
  go_wp2
  exact bodyPost_ret (v := .tuple #[.agg #[.int .i64 0, .int .i64 0, .int .i64 0], .int .i64 22]) (by simp [results, Try.results19, go_sem]) rfl ⟨rfl, HB0.out⟩
structure Both (w : World) (bt g n : Nat) (size hc : Int) (gr cap : Nat) (hr : Int) (F : List Int) : Prop where
  us : USt bt g n size hc F w
  rt : RT w gr n F
  cap : n ≤ cap
  hh : 0 ≤ hr ∧ hr < n
  same : Hands n hc hr
theorem Both.later {w w' : World} (h : Both w bt g n size hc gr cap hr F) (hb : Below w.heap.size w w') : Both w' bt g n size hc gr cap hr F :=
  ⟨h.us.later hb, h.rt.later hb, h.cap, h.hh, h.same⟩
structure TlR (w : World) (bt g n : Nat) (size hc : Int) (gr cap : Nat) (hr : Int) (F : List Int) (wr : World) : Prop where
  b : Both wr bt g n size hc gr cap hr F
  box : Blo wr w.heap.size RTB #[.slice (some ⟨gr, 0, none⟩) n cap, .int .i64 size, .int .i64 hr]
  below : Below w.heap.size w wr
theorem TlR.later {w wr w' : World} (h : TlR w bt g n size hc gr cap hr F wr) (hb : Below wr.heap.size wr w') : TlR w bt g n size hc gr cap hr F w' :=
  ⟨h.b.later hb, h.box.later hb, h.below.trans (hb.mono h.below.size)⟩
def Tl1 (w : World) (bt g n : Nat) (size hc : Int) (gr cap : Nat) (hr : Int) (F : List Int) (i : Value) (wr : World) : Prop :=
  ∃ k : Nat, k ≤ n ∧ i = .int .i64 k ∧ TlR w bt g n size hc gr cap hr F wr
def Tl2 (w : World) (bt g n : Nat) (size hc : Int) (gr cap : Nat) (hr : Int) (F : List Int) (i : Value) (wr : World) : Prop :=
  ∃ k : Nat, k ≤ 5 ∧ i = .int .i64 ((k : Int) - 1) ∧ TlR w bt g n size hc gr cap hr F wr
theorem sumL_bd {F : List Int} {n : Nat} {size : Int} (h : Lives F n size) (hs : size ≤ 64) : ∀ k, k ≤ n → 0 ≤ sumL F k ∧ sumL F k ≤ 64 * (k : Int)
  | 0, _ => ⟨Int.le_refl _, by show (0 : Int) ≤ _; simp⟩
  | k + 1, hk => by
    have ih := sumL_bd h hs k (by omega)
    have hk := h k (by omega)
    show 0 ≤ sumL F k + _ ∧ sumL F k + _ ≤ _
    omega
set_option maxRecDepth 100000 in
set_option maxHeartbeats 4000000 in
theorem tells_any (h : Both w bt g n size hc gr cap hr F) (h1 : 1 ≤ n) (hn : n ≤ 40) (hz : 1 ≤ size ∧ size ≤ 64) :
    Calls Try.prog 12 #[.pointer (some ⟨bt, 0, none⟩), rv gr n cap size hr] w fun e w' => e = .returned (.bool true) ∧ Below w.heap.size w w' := by
  have hb0 : Below w.heap.size w (w.alloc (.cells #[.slice (some ⟨gr, 0, none⟩) n cap, .int .i64 size, .int .i64 hr] RTB)) := (Below.refl _ _).alloc (Nat.le_refl _) _
  have HT := Lib.hid (show TlR w bt g n size hc gr cap hr F _ from ⟨h.later hb0, blo_laid w RTB #[.slice (some ⟨gr, 0, none⟩) n cap, .int .i64 size, .int .i64 hr], hb0⟩)
  have hn3 : n ≤ 512 := by omega
  clear h hb0
  go_enter Try.func12, Try.ntmps12
  go_wp2_with fail
  generalize (w.alloc (.cells #[.slice (some ⟨gr, 0, none⟩) n cap, .int .i64 size, .int .i64 hr] RTB)) = w1 at *
  go_loopw [16] (fun i wr => Tl1 w bt g n size hc gr cap hr F i wr) (fun i _ => n - (intOf i).toNat)
  case atStart => exact ⟨0, Nat.zero_le _, rfl, HT.out⟩
  case round =>
    clear HT
    obtain ⟨k, hk, rfl, hT⟩ := hrel
    have HT := Lib.hid hT
    clear hT
    by_cases hlt : k < n
    · obtain ⟨L, hLq⟩ : ∃ L, F.getD (k * 3) 0 = L := ⟨_, rfl⟩
      obtain ⟨S, hSq⟩ : ∃ S, F.getD (k * 3 + 1) 0 = S := ⟨_, rfl⟩
      obtain ⟨A, hAq⟩ : ∃ A, F.getD (k * 3 + 2) 0 = A := ⟨_, rfl⟩
      have HGet := Lib.hid (get_any L S A HT.out.b.us.tb hlt hn3 hLq hSq hAq)
      have HV : Hid (F.getD (k * 3) 0 = L ∧ F.getD (k * 3 + 1) 0 = S ∧ F.getD (k * 3 + 2) 0 = A) := ⟨hLq, hSq, hAq⟩
      clear hLq hSq hAq
      go_wp2_with fail
      refine HGet.out.mono ?_
      rintro e w8 ⟨rfl, hb8⟩
      have HT8 := Lib.hid ((HT.out.later hb8).later (sup_us w8 (.cells #[.int .i64 L, .int .i64 S, .int .i64 A] IN)))
      have HX8 := Lib.hid (blo_laid w8 IN #[.int .i64 L, .int .i64 S, .int .i64 A])
      clear hb8 HGet HT
      go_wp2_with fail
      generalize (w8.alloc (.cells #[.int .i64 L, .int .i64 S, .int .i64 A] IN)) = w9 at *
      generalize w8.heap.size = g9 at *
      have s0 := HX8.out.cell 0
      have s1 := HX8.out.cell 1
      have s2 := HX8.out.cell 2
      have b0 := HT8.out.box.cell 0
      have x0 := HT8.out.b.rt.cell (k * 3) (by omega)
      have x1 := HT8.out.b.rt.cell (k * 3 + 1) (by omega)
      have x2 := HT8.out.b.rt.cell (k * 3 + 2) (by omega)
      rw [HV.out.1] at x0
      rw [HV.out.2.1] at x1
      rw [HV.out.2.2] at x2
      simp at s0 s1 s2 b0
      have q0 : (L != L) = false := by simp
      have q1 : (S != S) = false := by simp
      have q2 : (A != A) = false := by simp
      have j1 : (0 : Int) ≤ (k : Int) := by omega
      have j2 : (k : Int) < (n : Int) := by omega
      go_quiet (fail)
      have HT9 : Hid (TlR w bt g n size hc gr cap hr F (w9.drewN nq)) := HT8.out.later (us_drewN (Below.refl _ _) nq)
      clear s0 s1 s2 b0 x0 x1 x2 HT8 HX8
      generalize w9.drewN nq = wz at *
      go_wp2_with fail
      go_roundw
      case rel => exact ⟨k + 1, by omega, by simp, HT9.out⟩
      case measure => simp [intOf]; omega
    · obtain rfl : k = n := by omega
      clear hlt
      have b0 := HT.out.box.cell 0
      simp at b0
      have HO := Lib.hid (fun W (h : TlR w bt g k size hc gr cap hr F W) => get_out (k : Int) h.b.us.tb hn3 (by omega))
      have HO2 := Lib.hid (fun W (h : TlR w bt g k size hc gr cap hr F W) => get_out (-1) h.b.us.tb hn3 (by omega))
      go_wp2_with fail
      refine (HO.out _ HT.out).mono ?_
      rintro e w8 ⟨rfl, hb8⟩
      have HT8 := Lib.hid ((HT.out.later hb8).later (sup_us w8 (.cells #[.int .i64 0, .int .i64 0, .int .i64 0] IN)))
      clear hb8 HT b0
      go_wp2_with fail
      generalize (w8.alloc (.cells #[.int .i64 0, .int .i64 0, .int .i64 0] IN)) = w9 at *
      generalize w8.heap.size = g9 at *
      refine (HO2.out _ HT8.out).mono ?_
      rintro e w10 ⟨rfl, hb8⟩
      have HT10 := Lib.hid ((HT8.out.later hb8).later (sup_us w10 (.cells #[.int .i64 0, .int .i64 0, .int .i64 0] IN)))
      clear hb8 HT8 HO HO2
      go_wp2_with fail
      generalize (w10.alloc (.cells #[.int .i64 0, .int .i64 0, .int .i64 0] IN)) = w11 at *
      generalize w10.heap.size = g11 at *
      obtain ⟨wo, rfl⟩ : ∃ wo : World, wo = wr := ⟨_, rfl⟩
      go_loopw [12] (fun i wr => Tl2 w bt g k size hc gr cap hr F i wr) (fun i _ => 5 - (intOf i + 1).toNat)
      case atStart => exact ⟨0, by decide, rfl, HT10.out⟩
      case round =>
        clear HT10
        obtain ⟨q, hq, rfl, hT⟩ := hrel
        have HT := Lib.hid hT
        clear hT
        by_cases hlq : q < 5
        · have c0 : ∀ x : Kept wr, x.at_.cell? ⟨w.heap.size, 0, none⟩ = some (.slice (some ⟨gr, 0, none⟩) k cap) := fun x => by simpa using (HT.out.later x.below).box.cell 0
          have c1 : ∀ x : Kept wr, x.at_.cell? ⟨w.heap.size, 1, none⟩ = some (.int .i64 size) := fun x => by simpa using (HT.out.later x.below).box.cell 1
          have c2 : ∀ x : Kept wr, x.at_.cell? ⟨w.heap.size, 2, none⟩ = some (.int .i64 hr) := fun x => by simpa using (HT.out.later x.below).box.cell 2
          have HC1 := Lib.hid (fun x : Kept wr => count_any ((q : Int) - 1) (HT.out.later x.below).b.us.tb hn3)
          have HC2 := Lib.hid (fun x : Kept wr => rcount_any (cap := cap) (size := size) (hand := hr) ((q : Int) - 1) (HT.out.later x.below).b.rt hn3)
          have hcl := cnt_le F ((q : Int) - 1) k
          generalize cnt F ((q : Int) - 1) k = N at *
          have q0 : ((N : Int) != (N : Int)) = false := by simp
          go_wp2_with fail
          refine wp_region_kept (by kernel_rfl) (by kernel_rfl) ?_
          repeat (go_big_quiet_step ((first | (go_at_call 15; exact kept_call _ (HC1.out _)) | (go_at_call 32; exact kept_call _ (HC2.out _)))))
          refine wpQuiet_nil ?_
          rintro W ⟨wx, rfl⟩
          have HT9 := Lib.hid (HT.out.later wx.below)
          clear c0 c1 c2 HC1 HC2
          go_wp2_with fail
          go_roundw
          case rel => exact ⟨q + 1, by omega, by simp, HT9.out⟩
          case measure => simp [intOf]; omega
        · obtain rfl : q = 5 := by omega
          clear hlq
          have hsb := sumL_bd HT.out.b.us.lv hz.2
          have HC1 := Lib.hid (fun x : Kept wr => total_any (HT.out.later x.below).b.us.tb hn3 (fun i => by
            by_cases h5 : i < k
            · have := HT.out.b.us.lv i h5
              omega
            · rw [List.getD_eq_getElem?_getD, List.getElem?_eq_none (by rw [HT.out.b.us.tb.len]; omega)]
              simp) (fun j hj => by have := hsb j hj; omega))
          have HC2 := Lib.hid (fun x : Kept wr => rtotal_any (cap := cap) (size := size) (hand := hr) (HT.out.later x.below).b.rt hn3 (fun j hj => by have := hsb j hj; omega))
          have c0 : ∀ x : Kept wr, x.at_.cell? ⟨w.heap.size, 0, none⟩ = some (.slice (some ⟨gr, 0, none⟩) k cap) := fun x => by simpa using (HT.out.later x.below).box.cell 0
          have c1 : ∀ x : Kept wr, x.at_.cell? ⟨w.heap.size, 1, none⟩ = some (.int .i64 size) := fun x => by simpa using (HT.out.later x.below).box.cell 1
          have c2 : ∀ x : Kept wr, x.at_.cell? ⟨w.heap.size, 2, none⟩ = some (.int .i64 hr) := fun x => by simpa using (HT.out.later x.below).box.cell 2
          clear hsb
          generalize sumL F k = Su at *
          have q0 : (Su == Su) = true := by simp
          go_wp2_with fail
          refine wp_region_kept (by kernel_rfl) (by kernel_rfl) ?_
          repeat (go_big_quiet_step ((first | (go_at_call 20; exact kept_call _ (HC1.out _)) | (go_at_call 33; exact kept_call _ (HC2.out _)))))
          refine wpQuiet_nil ?_
          rintro W ⟨wx, rfl⟩
          have HT9 := Lib.hid (HT.out.later wx.below)
          clear c0 c1 c2 HC1 HC2
          go_wp2
          go_ret
          exact ⟨by first | rfl | simp, HT9.out.below⟩
end
end Go.Proofs.Ytfilbbiiiaodiaa
