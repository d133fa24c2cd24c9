/-
  The walk of UsagePlays: whatever is added, taken, used and released, a table answers as the document says.
-/
import Derived.Test.YtfilbbiiiaodiaaUrPlay
import Derived.Test.YtfilbbiiiaodiaaUsAwake
import Derived.Test.YtfilbbiiiaodiaaTriples
import Derived.Deep.RegionWith
namespace Go.Proofs.Ytfilbbiiiaodiaa
open Go.RowKit

section
variable {w : World}
set_option maxHeartbeats 1000000 in
theorem new_bad (n size : Int) (h : n < 1 ∨ 512 < n ∨ size < 1 ∨ 64 < size) :
    Calls Try.prog 9 #[.int .i64 n, .int .i64 size] w fun e w' => e = .returned (.tuple #[.pointer none, .int .i64 22]) ∧ w = w' := by
  by_cases h1 : n < 1
  · clear h
    go_enter Try.func9, Try.ntmps9
    go_wp2
    go_ret2
    exact ⟨rfl, rfl⟩
  · by_cases h2 : 512 < n
    · clear h
      go_enter Try.func9, Try.ntmps9
      go_wp2
      go_ret2
      exact ⟨rfl, rfl⟩
    · by_cases h3 : size < 1
      · clear h
        go_enter Try.func9, Try.ntmps9
        go_wp2
        go_ret2
        exact ⟨rfl, rfl⟩
      · have h4 : 64 < size := by omega
        clear h
        go_enter Try.func9, Try.ntmps9
        go_wp2
        go_ret2
        exact ⟨rfl, rfl⟩
set_option maxHeartbeats 1000000 in
theorem rnew_bad (n size : Int) (h : n < 1 ∨ 512 < n ∨ size < 1 ∨ 64 < size) :
    Calls Try.prog 10 #[.int .i64 n, .int .i64 size] w fun e w' => e = .returned (.tuple #[.agg #[.slice none 0 0, .int .i64 0, .int .i64 0], .int .i64 22]) ∧ Below w.heap.size w w' := by
  have hb0 : Below w.heap.size w (w.alloc (.cells #[.slice none 0 0, .int .i64 0, .int .i64 0] RTB)) := (Below.refl _ _).alloc (Nat.le_refl _) _
  have HB0 := Lib.hid hb0
  clear hb0
  by_cases h1 : n < 1
  · clear h
    go_enter Try.func10, Try.ntmps10
    go_wp2
    exact bodyPost_ret (v := .tuple #[.agg #[.slice none 0 0, .int .i64 0, .int .i64 0], .int .i64 22]) (by simp [results, Try.results10, go_sem]) rfl ⟨rfl, HB0.out⟩
  · by_cases h2 : 512 < n
    · clear h
      go_enter Try.func10, Try.ntmps10
      go_wp2
      exact bodyPost_ret (v := .tuple #[.agg #[.slice none 0 0, .int .i64 0, .int .i64 0], .int .i64 22]) (by simp [results, Try.results10, go_sem]) rfl ⟨rfl, HB0.out⟩
    · by_cases h3 : size < 1
      · clear h
        go_enter Try.func10, Try.ntmps10
        go_wp2
        exact bodyPost_ret (v := .tuple #[.agg #[.slice none 0 0, .int .i64 0, .int .i64 0], .int .i64 22]) (by simp [results, Try.results10, go_sem]) rfl ⟨rfl, HB0.out⟩
      · have h4 : 64 < size := by omega
        clear h
        go_enter Try.func10, Try.ntmps10
        go_wp2
        exact bodyPost_ret (v := .tuple #[.agg #[.slice none 0 0, .int .i64 0, .int .i64 0], .int .i64 22]) (by simp [results, Try.results10, go_sem]) rfl ⟨rfl, HB0.out⟩
end
/-- The number of segments that is played. -/
def effB (a b : Int) : Prop := (40 < a ∧ a ≤ 512 ∧ b = 40) ∨ (¬ (40 < a ∧ a ≤ 512) ∧ b = a)
set_option maxRecDepth 100000 in
set_option maxHeartbeats 4000000 in
theorem usagePlays_bad (a b size : Int) (adr : Option Addr) (len cap : Nat) (w : World) (he : effB a b) (h : b < 1 ∨ 512 < b ∨ size < 1 ∨ 64 < size) :
    Calls Try.prog 3 #[.int .i64 a, .int .i64 size, .slice adr len cap] w fun e w' => e = .returned (.bool true) ∧ Below w.heap.size w w' := by
  have HAw := Lib.hid (awake_any w)
  have HN := Lib.hid (fun W : World => new_bad (w := W) b size h)
  have HRN := Lib.hid (fun W : World => rnew_bad (w := W) b size h)
  have hcase : (40 < a ∧ a ≤ 512 ∧ b = 40) ∨ (a ≤ 40 ∧ b = a) ∨ (512 < a ∧ b = a) := by unfold effB at he; omega
  clear he h
  rcases hcase with ⟨h1, h2, rfl⟩ | ⟨h1, rfl⟩ | ⟨h1, rfl⟩
  all_goals
    go_enter Try.func3, Try.ntmps3
    go_wp2_with fail
    refine HAw.out.mono ?_
    rintro e w1 ⟨rfl, hb1⟩
    have HB1 := Lib.hid hb1
    clear hb1 HAw
    go_wp2_with fail
    refine (HN.out _).mono ?_
    rintro e w2 ⟨rfl, rfl⟩
    go_wp2_with fail
    refine (HRN.out _).mono ?_
    rintro e w3 ⟨rfl, hb⟩
    have HB3 : Hid (Below w.heap.size w (w3.alloc (.cells #[.slice none 0 0, .int .i64 0, .int .i64 0] RTB))) := (HB1.out.trans (hb.mono HB1.out.size)).alloc (Nat.le_trans HB1.out.size hb.size) _
    clear hb HN HRN HB1
    go_wp2_with fail
    generalize (w3.alloc (.cells #[.slice none 0 0, .int .i64 0, .int .i64 0] RTB)) = w4 at *
    refine wp_loop_rounds 1 ?_
    rw [rounds_succ]
    go_wp2
    go_ret
    exact ⟨rfl, HB3.out⟩
structure PlR (w : World) (bt g n bx : Nat) (size hc : Int) (gr cap : Nat) (hr : Int) (F : List Int) (wr : World) : Prop where
  b : Both wr bt g n size hc gr cap hr F
  box : Blo wr bx RTB #[.slice (some ⟨gr, 0, none⟩) n cap, .int .i64 size, .int .i64 hr]
  below : Below w.heap.size w wr
def PlL (w : World) (bt g n bx : Nat) (size : Int) (i : Value) (wr : World) : Prop :=
  ∃ (k : Nat) (hc : Int) (gr cap : Nat) (hr : Int) (F : List Int), i = .int .i64 k ∧ k ≤ 9223372036854775807 ∧ PlR w bt g n bx size hc gr cap hr F wr
def PLO (w : World) (bt g n bx : Nat) (size : Int) (g1 c1 : Nat) (hr : Int) (e : Ending) (w' : World) : Prop :=
  ∃ hc' gr' cap' hr' F', e = .returned (.tuple #[rv gr' n cap' size hr', .bool true]) ∧ Both w' bt g n size hc' gr' cap' hr' F' ∧ Blo w' bx RTB #[.slice (some ⟨g1, 0, none⟩) n c1, .int .i64 size, .int .i64 hr] ∧ Below w.heap.size w w'
theorem PlR.later {w wr w' : World} {bt g n bx : Nat} {size hc : Int} {g1 c1 : Nat} {hr : Int} {F : List Int} (h : PlR w bt g n bx size hc g1 c1 hr F wr) (hb : Below wr.heap.size wr w') : PlR w bt g n bx size hc g1 c1 hr F w' :=
  ⟨h.b.later hb, h.box.later hb, h.below.trans (hb.mono h.below.size)⟩
theorem play_law {w wr W : World} {bt g n bx : Nat} {size hc : Int} {g1 c1 : Nat} {hr : Int} {F : List Int} (K x v : Int) (h0 : PlR w bt g n bx size hc g1 c1 hr F wr) (h1 : 1 ≤ n) (hn : n ≤ 512) (hz : 1 ≤ size ∧ size ≤ 64) (hl1 : w.heap.size ≤ bt) (hl2 : w.heap.size ≤ g) (hbx : bt < bx ∧ g < bx) (hW : Below wr.heap.size wr W) :
    Calls Try.prog 11 #[.pointer (some ⟨bt, 0, none⟩), rv g1 n c1 size hr, .agg #[.int .i64 K, .int .i64 x, .int .i64 v]] W (PLO w bt g n bx size g1 c1 hr) := by
  refine (dplay_any (B := w.heap.size) K x v (h0.b.later hW) h1 hn hz hl2 hl1).mono ?_
  rintro e w' ⟨hc', gr', cap', hr', F', rfl, hb, hbl, hf⟩
  exact ⟨hc', gr', cap', hr', F', rfl, hb, hf _ _ _ (by omega) (by omega) (h0.box.later hW), (h0.below.trans (hW.mono h0.below.size)).trans hbl⟩
/-- The box's store. -/
theorem PLO.fin {w w' : World} {bt g n bx : Nat} {size hc' : Int} {g1 c1 gr' cap' : Nat} {hr hr' : Int} {F' : List Int} (hb : Both w' bt g n size hc' gr' cap' hr' F') (hx : Blo w' bx RTB #[.slice (some ⟨g1, 0, none⟩) n c1, .int .i64 size, .int .i64 hr]) (hl : Below w.heap.size w w') (hbx : bt < bx ∧ g < bx) (hbx2 : w.heap.size ≤ bx) :
    PlR w bt g n bx size hc' gr' cap' hr' F' (((w'.setCell ⟨bx, 0, none⟩ (.slice (some ⟨gr', 0, none⟩) n cap')).setCell ⟨bx, 1, none⟩ (.int .i64 size)).setCell ⟨bx, 2, none⟩ (.int .i64 hr')) := by
  have hne : gr' ≠ bx := by
    obtain ⟨⟨cur, r1, r2⟩, r3⟩ := hb.rt
    exact r1.apart hx (by decide)
  refine ⟨⟨?_, ?_, hb.cap, hb.hh, hb.same⟩, ?_, ?_⟩
  · exact (((hb.us.far (p := ⟨bx, 0, none⟩) (by simp; omega) (by simp; omega) _).far (p := ⟨bx, 1, none⟩) (by simp; omega) (by simp; omega) _).far (p := ⟨bx, 2, none⟩) (by simp; omega) (by simp; omega) _)
  · exact (((hb.rt.far (p := ⟨bx, 0, none⟩) hne _).far (p := ⟨bx, 1, none⟩) hne _).far (p := ⟨bx, 2, none⟩) hne _)
  · have := ((hx.put 0 (.slice (some ⟨gr', 0, none⟩) n cap')).put 1 (.int .i64 size)).put 2 (.int .i64 hr')
    simpa using this
  · exact (((hl.setCell (p := ⟨bx, 0, none⟩) hbx2 _).setCell (p := ⟨bx, 1, none⟩) hbx2 _).setCell (p := ⟨bx, 2, none⟩) hbx2 _)
set_option maxRecDepth 100000 in
set_option maxHeartbeats 4000000 in
theorem usagePlays_good (a size : Int) (n : Nat) (adr : Option Addr) (len cap : Nat) (zs : List Int) (w : World) (hp : Triples w adr len zs) (he : effB a n) (h1 : 1 ≤ n) (hn : n ≤ 40) (hz : 1 ≤ size ∧ size ≤ 64) :
    Calls Try.prog 3 #[.int .i64 a, .int .i64 size, .slice adr len cap] w fun e w' => e = .returned (.bool true) ∧ Below w.heap.size w w' := by
  have HAw := Lib.hid (awake_any w)
  have HN := Lib.hid (fun W : World => new_any n size W h1 (by omega) hz.1 hz.2)
  have HRN := Lib.hid (fun W : World => rnew_any n size W h1 (by omega) hz.1 hz.2)
  have HP := Lib.hid hp
  have hlen := hp.1
  have hcase : (40 < a ∧ a ≤ 512 ∧ (n : Int) = 40) ∨ (a ≤ 40 ∧ a = n) := by unfold effB at he; omega
  have hn3 : n ≤ 512 := by omega
  clear he hp
  rcases hcase with ⟨h2, h3, h4⟩ | ⟨h2, rfl⟩
  all_goals
    go_enter Try.func3, Try.ntmps3
    go_wp2_with fail
    refine HAw.out.mono ?_
    rintro e w1 ⟨rfl, hb1⟩
    have HB1 := Lib.hid hb1
    clear hb1 HAw
    try (have H4 := Lib.hid h4; clear h4)
    go_wp2_with fail
    try rw [← H4.out]
    refine (HN.out _).mono ?_
    rintro e w2 ⟨bt, g, rfl, ht, hbt, hbg, hb⟩
    have hl1 : w.heap.size ≤ bt := Nat.le_trans HB1.out.size hbt
    have hl2 : w.heap.size ≤ g := Nat.le_trans HB1.out.size hbg
    have HU := Lib.hid (show USt bt g n size (-1) (List.replicate (3 * n) 0) w2 from ⟨ht, fun j _ => by rw [List.getD_eq_getElem?_getD, List.getElem?_replicate]; split <;> (simp; omega), fun j _ => .inl (by unfold st; rw [List.getD_eq_getElem?_getD, List.getElem?_replicate]; split <;> rfl), by omega⟩)
    have HB2 := Lib.hid (HB1.out.trans (hb.mono HB1.out.size))
    clear ht hb hbt hbg
    go_wp2_with fail
    try rw [← H4.out]
    refine (HRN.out _).mono ?_
    rintro e w3 ⟨gr, rfl, hgr, hrt, hb⟩
    have hsm : Hands n (-1) ((n : Int) - 1) := by
      show ((-1 : Int) + 1) % (n : Int) = ((n : Int) - 1 + 1) % (n : Int)
      rw [show (n : Int) - 1 + 1 = (n : Int) by omega, Int.emod_self]
      exact Int.zero_emod _
    have hbt : Both w3 bt g n size (-1) gr n ((n : Int) - 1) (List.replicate (3 * n) 0) := ⟨HU.out.later hb, hrt, Nat.le_refl _, by omega, hsm⟩
    have HS0 : Hid (PlR w bt g n w3.heap.size size (-1) gr n ((n : Int) - 1) (List.replicate (3 * n) 0) (w3.alloc (.cells #[.slice (some ⟨gr, 0, none⟩) n n, .int .i64 size, .int .i64 ((n : Int) - 1)] RTB))) :=
      ⟨hbt.later (sup_us w3 _), blo_laid w3 RTB _, (HB2.out.trans (hb.mono HB2.out.size)).alloc (Nat.le_trans HB2.out.size hb.size) _⟩
    have hbx : bt < w3.heap.size ∧ g < w3.heap.size := hbt.us.lt
    have hbx2 : w.heap.size ≤ w3.heap.size := Nat.le_trans HB2.out.size hb.size
    clear hb hbt hrt hgr hsm HU HB2 HB1 HN HRN
    go_wp2_with fail
    generalize (w3.alloc (.cells #[.slice (some ⟨gr, 0, none⟩) n n, .int .i64 size, .int .i64 ((n : Int) - 1)] RTB)) = w4 at *
    generalize w3.heap.size = bx at *
    go_loopw [11] (fun i wr => PlL w bt g n bx size i wr) (fun i _ => len - (intOf i).toNat)
    case atStart => exact ⟨0, _, _, _, _, _, rfl, by decide, HS0.out⟩
    case round =>
      clear HS0
      obtain ⟨k, hc, g1, c1, hr, F, rfl, hk, hS⟩ := hrel
      have HS := Lib.hid hS
      clear hS
      by_cases hlt : k < len ∧ k < 80
      · obtain ⟨q1, q2⟩ := hlt
        obtain ⟨b, o, rfl, hcl⟩ := HP.out.2.2 (by omega)
        have hx := cell_later HS.out.below (hcl k q1).1
        have hy := cell_later HS.out.below (hcl k q1).2.1
        have hv := cell_later HS.out.below (hcl k q1).2.2
        have b0 := HS.out.box.cell 0
        have b1 := HS.out.box.cell 1
        have b2 := HS.out.box.cell 2
        simp at b0 b1 b2
        generalize zs.getD (k * 3) 0 = K at *
        generalize zs.getD (k * 3 + 1) 0 = x at *
        generalize zs.getD (k * 3 + 2) 0 = v at *
        have i1 : (0 : Int) ≤ (k : Int) := by omega
        have i2 : (k : Int) < (len : Int) := by omega
        clear hcl
        have HC := Lib.hid (fun W hW => play_law (W := W) K x v HS.out h1 hn3 hz hl1 hl2 hbx hW)
        go_wp2_with fail
        go_region_with (go_at_call 11; refine (HC.out _ ?_).mono ?_; (first | exact (Below.refl _ _).drew | exact Below.refl _ _); rintro e w5 ⟨hc', gr', cap', hr', F', rfl, hb', hx', hl'⟩; have HFin := Lib.hid (PLO.fin hb' hx' hl' hbx hbx2); have c0 := hx'.cell 0; have c1 := hx'.cell 1; have c2 := hx'.cell 2; have k0 := hx'.frozen 0; have k1 := hx'.frozen 1; have k2 := hx'.frozen 2; simp at c0 c1 c2; clear hb' hx' hl')
        all_goals
          generalize (((w5.setCell ⟨bx, 0, none⟩ (.slice (some ⟨gr', 0, none⟩) n cap')).setCell ⟨bx, 1, none⟩ (.int .i64 size)).setCell ⟨bx, 2, none⟩ (.int .i64 hr')) = w6 at *
          clear b0 b1 b2 c0 c1 c2 k0 k1 k2 hx hy hv HC HS
          have d0 := HFin.out.box.cell 0
          have d1 := HFin.out.box.cell 1
          have d2 := HFin.out.box.cell 2
          simp at d0 d1 d2
          go_wp2_with fail
          refine (tells_any HFin.out.b h1 hn hz).mono ?_
          rintro e w7 ⟨rfl, hb7⟩
          have HN := Lib.hid (HFin.out.later hb7)
          clear hb7 HFin d0 d1 d2
          go_wp2_with fail
          go_roundw
          case rel => exact ⟨k + 1, _, _, _, _, _, by simp, by omega, HN.out⟩
          case measure => simp [intOf]; omega
      · rcases (show len ≤ k ∨ (k < len ∧ 80 ≤ k) by omega) with q1 | ⟨q1, q2⟩
        all_goals
          clear hlt
          go_wp2
          go_ret
          exact ⟨rfl, HS.out.below⟩
theorem usagePlays_walk (a size : Int) (adr : Option Addr) (len cap : Nat) (zs : List Int) (w : World) (_ : (Lit.int .i64 a).wf = true) (_ : (Lit.int .i64 size).wf = true) (hp : Triples w adr len zs) :
    Calls Try.prog 3 #[.int .i64 a, .int .i64 size, .slice adr len cap] w fun e w' => e = .returned (.bool true) ∧ Below w.heap.size w w' := by
  by_cases h40 : 40 < a ∧ a ≤ 512
  · by_cases hz : 1 ≤ size ∧ size ≤ 64
    · exact usagePlays_good a size 40 adr len cap zs w hp (.inl ⟨h40.1, h40.2, rfl⟩) (by decide) (by decide) hz
    · exact usagePlays_bad a 40 size adr len cap w (.inl ⟨h40.1, h40.2, rfl⟩) (by omega)
  · by_cases hz : (1 ≤ size ∧ size ≤ 64) ∧ 1 ≤ a ∧ a ≤ 40
    · obtain ⟨n, rfl⟩ : ∃ n : Nat, a = (n : Int) := ⟨a.toNat, by omega⟩
      exact usagePlays_good n size n adr len cap zs w hp (.inr ⟨h40, rfl⟩) (by omega) (by omega) hz.1
    · exact usagePlays_bad a a size adr len cap w (.inr ⟨h40, rfl⟩) (by omega)
end Go.Proofs.Ytfilbbiiiaodiaa
