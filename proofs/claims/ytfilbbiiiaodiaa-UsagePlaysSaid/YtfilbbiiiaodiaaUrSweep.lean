/-
  The document's Sweep of a table.
-/
import Derived.Test.YtfilbbiiiaodiaaUrRel
import Derived.Test.YtfilbbiiiaodiaaUsSweeps
namespace Go.Proofs.Ytfilbbiiiaodiaa
open Go.RowKit

structure SwR (w : World) (g0 g n cap m c2 : Nat) (a : Option Addr) (size hand : Int) (F L : List Int) (wr : World) : Prop where
  tab : RT wr g n F
  box : Blo wr w.heap.size RTB #[.slice (some ⟨g, 0, none⟩) n cap, .int .i64 size, .int .i64 hand]
  res : Blo wr (w.heap.size + 1) RTB #[.slice none 0 0, .int .i64 0, .int .i64 0]
  own : wr.ownsRow w.heap.size 3 1 (.slice a m c2) m (cellsI L)
  below : Below w.heap.size w wr
  apart : g = g0 ∨ w.heap.size + 1 < g
  cap : n ≤ cap
def SwL (w : World) (g0 n : Nat) (size hand : Int) (F : List Int) (v i : Value) (wr : World) : Prop :=
  ∃ k g cap c2 a, k ≤ n ∧ i = .int .i64 (k : Nat) ∧ v = .slice a (swL F k).length c2 ∧ SwR w g0 g n cap (swL F k).length c2 a size hand (swF F k) (swL F k) wr
def RSwO (w : World) (g n : Nat) (size hand : Int) (F : List Int) (e : Ending) (w' : World) : Prop :=
  ∃ g' cap' a c2, e = .returned (.tuple #[rv g' n cap' size hand, .slice a (swL F n).length c2]) ∧ n ≤ cap' ∧ (g' = g ∨ w.heap.size ≤ g') ∧ RT w' g' n (swF F n) ∧ w'.ownsRow w.heap.size 3 1 (.slice a (swL F n).length c2) (swL F n).length (cellsI (swL F n)) ∧ Below w.heap.size w w'
theorem RT.grown {w w' : World} {g n : Nat} {F : List Int} {row : Option Nat} (h : RT w g n F) (hb : w.grownBy w' row) (hg : some g ≠ row) : RT w' g n F := by
  obtain ⟨⟨cur, h1, h2⟩, h3⟩ := h
  exact ⟨⟨cur, h1.grown hb hg, h2⟩, h3⟩
theorem RT.alloc {w : World} {g n : Nat} {F : List Int} (h : RT w g n F) (o : Obj) : RT (w.alloc o) g n F := by
  obtain ⟨⟨cur, h1, h2⟩, h3⟩ := h
  exact ⟨⟨cur, h1.alloc o, h2⟩, h3⟩
theorem RT.apart {w : World} {g n b m : Nat} {F : List Int} {e : TypeId} {v : Value} {xs : List Value} (h : RT w g n F) (ho : w.ownsRow b e 1 v m xs) (hne : e ≠ RIN) : some g ≠ v.ownBlock := by
  obtain ⟨⟨cur, h1, h2⟩, h3⟩ := h
  exact h1.row_apart ho hne
theorem two_more (w6 : World) (n : Nat) (h : n = w6.heap.size + 1) (o1 : Obj) (t : TypeId) (v : Value) : ((w6.alloc o1).alloc (.cells #[v] t)).cell? ⟨n, 0, none⟩ = some v := by
  subst h
  simp
/-- What an append to the list leaves. -/
theorem SwR.grown {w w6 w7 : World} {g0 g n cap m c2 m3 c3 : Nat} {a a3 : Option Addr} {size hand : Int} {F L L3 : List Int} (h : SwR w g0 g n cap m c2 a size hand F L w6) (o1 o2 : Obj)
    (hown : w7.ownsRow w.heap.size 3 1 (.slice a3 m3 c3) m3 (cellsI L3)) (hgr : ((w6.alloc o1).alloc o2).grownBy w7 (Value.slice a m c2).ownBlock) : SwR w g0 g n cap m3 c3 a3 size hand F L3 w7 := by
  have hr := h.res.lt
  refine ⟨((h.tab.alloc o1).alloc o2).grown hgr (h.tab.apart h.own (by decide)), ((h.box.alloc o1).alloc o2).grown hgr (h.box.row_apart h.own (by decide)), ((h.res.alloc o1).alloc o2).grown hgr (h.res.row_apart h.own (by decide)), hown, ((h.below.alloc (by omega) o1).alloc (by simp; omega) o2).grown hgr (by simp; omega) (fun q hq => (h.own.lt q hq).1), h.apart, h.cap⟩
/-- What the box's store leaves. -/
theorem SwR.boxed {w w5 : World} {g0 g g' n cap cap' m c2 : Nat} {a : Option Addr} {size hand : Int} {F L : List Int} (hx : Blo w5 w.heap.size RTB #[.slice (some ⟨g, 0, none⟩) n cap, .int .i64 size, .int .i64 hand])
    (hy : Blo w5 (w.heap.size + 1) RTB #[.slice none 0 0, .int .i64 0, .int .i64 0]) (ho : w5.ownsRow w.heap.size 3 1 (.slice a m c2) m (cellsI L)) (hb : Below w.heap.size w w5) (hR : RT w5 g' n F) (hg : g' = g0 ∨ w.heap.size + 1 < g') (h0 : g0 < w.heap.size) (hc : n ≤ cap') :
    SwR w g0 g' n cap' m c2 a size hand F L (((w5.setCell ⟨w.heap.size, 0, none⟩ (.slice (some ⟨g', 0, none⟩) n cap')).setCell ⟨w.heap.size, 1, none⟩ (.int .i64 size)).setCell ⟨w.heap.size, 2, none⟩ (.int .i64 hand)) := by
  have hne := hx.row_apart ho (by decide)
  have hgx : g' ≠ w.heap.size := by omega
  refine ⟨((hR.far (p := ⟨w.heap.size, 0, none⟩) hgx _).far (p := ⟨w.heap.size, 1, none⟩) hgx _).far (p := ⟨w.heap.size, 2, none⟩) hgx _, ?_, ((hy.far (p := ⟨w.heap.size, 0, none⟩) (by simp) _).far (p := ⟨w.heap.size, 1, none⟩) (by simp) _).far (p := ⟨w.heap.size, 2, none⟩) (by simp) _, own_far (p := ⟨w.heap.size, 2, none⟩) (own_far (p := ⟨w.heap.size, 1, none⟩) (own_far (p := ⟨w.heap.size, 0, none⟩) ho hne _) hne _) hne _,
    ((hb.setCell (p := ⟨w.heap.size, 0, none⟩) (Nat.le_refl _) _).setCell (p := ⟨w.heap.size, 1, none⟩) (Nat.le_refl _) _).setCell (p := ⟨w.heap.size, 2, none⟩) (Nat.le_refl _) _, hg, hc⟩
  have := ((hx.put 0 (.slice (some ⟨g', 0, none⟩) n cap')).put 1 (.int .i64 size)).put 2 (.int .i64 hand)
  simpa using this
section
variable {w : World} {g n cap s : Nat} {size hand : Int} {F : List Int}
set_option maxHeartbeats 2000000 in
theorem rsweep_any (h : RT w g n F) (hc : n ≤ cap) (hn : n ≤ 512) (hst : ∀ j, j < n → F.getD (j * 3 + 1) 0 = 0 ∨ F.getD (j * 3 + 1) 0 = 1 ∨ F.getD (j * 3 + 1) 0 = 2) :
    Calls Try.prog 28 #[rv g n cap size hand] w (RSwO w g n size hand F) := by
  have hb2 := below2 w #[.slice (some ⟨g, 0, none⟩) n cap, .int .i64 size, .int .i64 hand] #[.slice none 0 0, .int .i64 0, .int .i64 0] RTB RTB
  obtain ⟨q0, q1⟩ := two_laid w RTB RTB #[.slice (some ⟨g, 0, none⟩) n cap, .int .i64 size, .int .i64 hand] #[.slice none 0 0, .int .i64 0, .int .i64 0]
  have HS0 : Hid (SwR w g g n cap 0 0 none size hand F [] ((w.alloc (.cells #[.slice (some ⟨g, 0, none⟩) n cap, .int .i64 size, .int .i64 hand] RTB)).alloc (.cells #[.slice none 0 0, .int .i64 0, .int .i64 0] RTB))) :=
    ⟨h.later hb2, q0, q1, World.ownsRow_nil _ _ _ _, hb2, .inl rfl, hc⟩
  have HSt := Lib.hid hst
  have hgw := h.lt
  clear hb2 h hst q0 q1 hc
  go_enter Try.func28, Try.ntmps28
  go_wp2_with fail
  generalize ((w.alloc (.cells #[.slice (some ⟨g, 0, none⟩) n cap, .int .i64 size, .int .i64 hand] RTB)).alloc (.cells #[.slice none 0 0, .int .i64 0, .int .i64 0] RTB)) = w2 at *
  go_loopw [4, 11] (fun v i wr => SwL w g n size hand F v i wr) (fun _ i _ => n - (intOf i).toNat)
  case atStart => exact ⟨0, g, cap, 0, none, Nat.zero_le _, rfl, rfl, HS0.out⟩
  case round =>
    clear HS0
    obtain ⟨k, gk, ck, c2, a, hk, rfl, rfl, hS⟩ := hrel
    have HS := Lib.hid hS
    have c0 := hS.box.cell 0
    have c1 := hS.box.cell 1
    have c2' := hS.box.cell 2
    have k0 := hS.box.frozen 0
    have k1 := hS.box.frozen 1
    have k2 := hS.box.frozen 2
    simp at c0 c1 c2'
    have hsz := hS.below.size
    have hrs := hS.res.lt
    have hll := swL_len F k
    clear hS
    by_cases hlt : k < n
    · by_cases hok : swOk F k
      · have HF : Hid (swF F (k + 1) = rel (swF F k) k) := by show (if swOk F k then _ else _) = _; rw [if_pos hok]
        have HL : Hid (swL F (k + 1) = swL F k ++ [(k : Int)]) := by show (if swOk F k then _ else _) = _; rw [if_pos hok]
        have HR := Lib.hid (rrel_yes (cap := ck) (size := size) (hand := hand) (s := k) HS.out.tab HS.out.cap hlt hn (by rw [swF_at F k _ (by omega)]; exact hok.1) (by rw [swF_at F k _ (by omega)]; exact hok.2))
        clear hok
        go_wp2_with fail
        refine HR.out.mono ?_
        rintro e w5 ⟨g', cap', rfl, hc', hg9, hR', hb⟩
        have hgk := HS.out.tab.lt
        have hap := HS.out.apart
        have HR' := Lib.hid hR'
        have HB5 := Lib.hid (HS.out.below.trans (hb.mono HS.out.below.size))
        have HX5 := Lib.hid (HS.out.box.later hb)
        have HY5 := Lib.hid (HS.out.res.later hb)
        have HO5 := Lib.hid (own_later HS.out.own hb)
        have c0 := HX5.out.cell 0
        have c1 := HX5.out.cell 1
        have c2' := HX5.out.cell 2
        have k0 := HX5.out.frozen 0
        have k1 := HX5.out.frozen 1
        have k2 := HX5.out.frozen 2
        simp at c0 c1 c2'
        have hz5 := HX5.out.lt
        have hy5 := HY5.out.lt
        have HS6 := Lib.hid (SwR.boxed (cap' := cap') HX5.out HY5.out HO5.out HB5.out HR'.out (show g' = g ∨ w.heap.size + 1 < g' by omega) hgw hc')
        clear hb hR' HR HX5 HY5 HO5 HB5 HR'
        go_wp2_with (at_builtin; refine wp_append_int rfl (.tmp 23) (.tmp 25) 40 rfl w.heap.size 3 Try.underlying40 info_int _ (swL F k).length (swL F k) rfl ((HS6.out.own.alloc _).alloc _) _ (k : Int) rfl (two_more _ _ (by simp [World.setCell]) _ _ _) (by omega) (by simp [World.setCell]; omega) ?_; intro g3 c3 w7 hown hgrow hat hlt3; have HS7 := Lib.hid (HS6.out.grown _ _ hown hgrow); clear hown hgrow hat)
        go_roundw
        case rel => exact ⟨k + 1, g', cap', c3, some ⟨g3, 0, none⟩, by omega, by simp, by rw [HL.out]; simp, by rw [HL.out, HF.out]; simpa using HS7.out⟩
        case measure => simp [intOf]; omega
      · have HF : Hid (swF F (k + 1) = swF F k) := by show (if swOk F k then _ else _) = _; rw [if_neg hok]
        have HL : Hid (swL F (k + 1) = swL F k) := by show (if swOk F k then _ else _ : List Int) = _; rw [if_neg hok]
        have hR : ∃ c : Int, (c == 0) = false ∧ Calls Try.prog 27 #[rv gk n ck size hand, .int .i64 k] wr (RO wr gk n size hand (swF F k) c) := by
          have q1 := swF_at F k (k * 3 + 1) (by omega)
          have q2 := swF_at F k (k * 3) (by omega)
          rcases HSt.out k hlt with h0 | h0 | h0
          · exact ⟨103, rfl, rrel_stale HS.out.tab HS.out.cap hlt hn (by rw [q1]; exact h0)⟩
          · exact ⟨16, rfl, rrel_live HS.out.tab HS.out.cap hlt hn (by rw [q1]; exact h0) (by rw [q2]; exact fun e => hok ⟨h0, e⟩)⟩
          · exact ⟨16, rfl, rrel_busy HS.out.tab HS.out.cap hlt hn (by rw [q1]; exact h0)⟩
        obtain ⟨c, hcc, hcall⟩ := hR
        have HC := Lib.hid hcall
        clear hok hcall
        go_wp2_with fail
        refine HC.out.mono ?_
        rintro e w5 ⟨g', cap', rfl, hc', hg9, hR', hb⟩
        have HS5 : Hid (SwR w g gk n ck (swL F k).length c2 a size hand (swF F k) (swL F k) w5) := ⟨HS.out.tab.later hb, HS.out.box.later hb, HS.out.res.later hb, own_later HS.out.own hb, HS.out.below.trans (hb.mono HS.out.below.size), HS.out.apart, HS.out.cap⟩
        clear hb hR' hg9 hc' HC HS
        go_wp2_with fail
        have hb1 : Below w5.heap.size w5 (w5.alloc (.cells #[.slice (some ⟨g', 0, none⟩) n cap', .int .i64 size, .int .i64 hand] RTB)) := (Below.refl _ _).alloc (Nat.le_refl _) _
        have HS6 : Hid (SwR w g gk n ck (swL F k).length c2 a size hand (swF F k) (swL F k) (w5.alloc (.cells #[.slice (some ⟨g', 0, none⟩) n cap', .int .i64 size, .int .i64 hand] RTB))) := ⟨HS5.out.tab.later hb1, HS5.out.box.later hb1, HS5.out.res.later hb1, own_later HS5.out.own hb1, HS5.out.below.trans (hb1.mono HS5.out.below.size), HS5.out.apart, HS5.out.cap⟩
        clear hb1
        go_roundw
        case rel => exact ⟨k + 1, gk, ck, c2, a, by omega, by simp, by rw [HL.out], by rw [HL.out, HF.out]; exact HS6.out⟩
        case measure => simp [intOf]; omega
    · obtain rfl : k = n := by omega
      have e0 := HS.out.res.cell 0
      have e1 := HS.out.res.cell 1
      have e2 := HS.out.res.cell 2
      have z0 := HS.out.res.frozen 0
      have z1 := HS.out.res.frozen 1
      have z2 := HS.out.res.frozen 2
      simp at e0 e1 e2
      have hap := HS.out.apart
      have hg8 : gk ≠ w.heap.size + 1 := by omega
      have HI : Hid (World.ownsRow (((wr.setCell ⟨w.heap.size + 1, 0, none⟩ (.slice (some ⟨gk, 0, none⟩) k ck)).setCell ⟨w.heap.size + 1, 1, none⟩ (.int .i64 size)).setCell ⟨w.heap.size + 1, 2, none⟩ (.int .i64 hand)) w.heap.size 3 1 (.slice a (swL F k).length c2) (swL F k).length (cellsI (swL F k))) := by
        have hne := HS.out.res.row_apart HS.out.own (by decide)
        exact own_far (p := ⟨w.heap.size + 1, 2, none⟩) (own_far (p := ⟨w.heap.size + 1, 1, none⟩) (own_far (p := ⟨w.heap.size + 1, 0, none⟩) HS.out.own hne _) hne _) hne _
      clear hlt hap
      go_wp2_with fail
      refine bodyPost_ret (v := .tuple #[rv gk k ck size hand, .slice a (swL F k).length c2]) (by simp [results, Try.results28, go_sem, e0, e1, e2]) rfl ⟨gk, ck, a, c2, rfl, HS.out.cap, by have := HS.out.apart; omega, ?_, HI.out, ?_⟩
      · exact (((HS.out.tab.far (p := ⟨w.heap.size + 1, 0, none⟩) hg8 _).far (p := ⟨w.heap.size + 1, 1, none⟩) hg8 _).far (p := ⟨w.heap.size + 1, 2, none⟩) hg8 _)
      · exact ((HS.out.below.setCell (p := ⟨w.heap.size + 1, 0, none⟩) (by simp) _).setCell (p := ⟨w.heap.size + 1, 1, none⟩) (by simp) _).setCell (p := ⟨w.heap.size + 1, 2, none⟩) (by simp) _
end
end Go.Proofs.Ytfilbbiiiaodiaa
