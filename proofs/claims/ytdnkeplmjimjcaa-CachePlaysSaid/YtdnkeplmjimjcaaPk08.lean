/-
  DcVal · DcUs · DcPut · DcGet · DcCel · ChCmp: these texts in one.
-/
import Derived.Test.YtdnkeplmjimjcaaPk06
import Derived.Test.YtdnkeplmjimjcaaPk07
import Derived.Deep.MidRow
import Derived.Test.YtdnkeplmjimjcaaPk05
import Derived.Shelf.GgSortFunc.InsertionK
/-
  The document's cache as a value; three boxes of a call.
-/
namespace Go.Proofs.Ytdnkeplmjimjcaa
open Go.RowKit

theorem own_nil {w : World} {base : Nat} {e : TypeId} {sz n c : Nat} {a : Option Addr} {xs : List Value} (h : w.ownsRow base e sz (.slice a n c) n xs) : a = none → n = 0 ∧ c = 0 := fun ha => by
  rcases h.2 with ⟨q, h0⟩ | ⟨g, cap, cur, q, _⟩
  · cases q
    exact ⟨rfl, rfl⟩
  · cases q
    cases ha
structure DCv (w : World) (a : Option Addr) (n cap : Nat) (L : List Bk) : Prop where
  row : DRow w a n L
  le : n ≤ cap
  nil : a = none → n = 0 ∧ cap = 0
  ty : ∀ g o, a = some ⟨g, o, none⟩ → ∃ cs, Blo w g RBT cs
theorem DCv.later {w w' : World} {a : Option Addr} {n cap : Nat} {L : List Bk} (h : DCv w a n cap L) (hb : Below w.heap.size w w') : DCv w' a n cap L := ⟨h.row.later hb, h.le, h.nil, fun g o e => let ⟨cs, hc⟩ := h.ty g o e; ⟨cs, hc.later hb⟩⟩
theorem DCv.own {w : World} {base : Nat} {a : Option Addr} {n cap : Nat} {L : List Bk} (h : w.ownsRow base RBT 5 (.slice a n cap) n (flatD L)) : DCv w a n cap L := ⟨(DRow.own h).1, (DRow.own h).2, own_nil h, fun g o e => (own_blo h (show (Value.slice a n cap).ownBlock = some g by rw [e]; rfl)).2⟩
theorem DCv.empty (w : World) : DCv w none 0 0 [] := ⟨⟨rfl, fun j u h => by cases h⟩, Nat.le_refl _, fun _ => ⟨rfl, rfl⟩, fun g o e => by cases e⟩
theorem DCv.out {w w' : World} {a : Option Addr} {n cap : Nat} {L : List Bk} {X : Nat → Prop} (h : DCv w a n cap L) (ho : Out X w w') (hX : ∀ g cs, Blo w g RBT cs → ¬ X g) : DCv w' a n cap L := by
  refine ⟨⟨h.row.len, fun j u hj => ?_⟩, h.le, h.nil, fun g o e => ?_⟩
  · obtain ⟨g, h1, h2⟩ := h.row.at_ j u hj
    obtain ⟨cs, hc⟩ := h.ty g 0 h1
    exact ⟨g, h1, ho.cell h2 (hX g cs hc)⟩
  · obtain ⟨cs, hc⟩ := h.ty g o e
    exact ⟨cs, ho.blo hc (hX g cs hc)⟩
/-- A box of another type is written. -/
theorem DCv.box {w : World} {a : Option Addr} {n cap k : Nat} {L : List Bk} {t : TypeId} {cx : Array Value} (h : DCv w a n cap L) (hk : Blo w k t cx) (ht : t ≠ RBT) (cs : Array Value) : DCv (w.setRow k cs) a n cap L :=
  h.out (out_row (X := fun g => g = k) w k cs rfl) (fun g cs' hb e => hk.apart hb ht e.symm)
theorem DCv.boxc {w : World} {a : Option Addr} {n cap k i : Nat} {L : List Bk} {t : TypeId} {cx : Array Value} (h : DCv w a n cap L) (hk : Blo w k t cx) (ht : t ≠ RBT) (u : Value) : DCv (w.setCell ⟨k, i, none⟩ u) a n cap L :=
  h.out (out_put (X := fun g => g = k) w ⟨k, i, none⟩ u rfl) (fun g cs' hb e => hk.apart hb ht e.symm)
theorem DRow.all {w : World} {a : Option Addr} {n : Nat} {L : List Bk} (h : DRow w a n L) : ∀ ad, a = some ad → ∀ j u, (flatD L)[j]? = some u → w.cell? (ad.add j) = some u := fun ad e j u hj => by
  have := h.upto n ad e j u (by rw [List.take_of_length_le (by rw [h.len]; exact Nat.le_refl _)]; exact hj)
  exact this
/-- A cache that is answered. -/
def DcO (w : World) (room : Int) (L : List Bk) (e : Ending) (w' : World) : Prop := ∃ a n cap, e = .returned (.agg #[.int .i64 room, .slice a n cap]) ∧ DCv w' a n cap L ∧ Below w.heap.size w w'
def bkV (s : Bk) : Array Value := #[.int .i64 s.key.1, .int .i64 s.key.2, .string (strOf (dtL s.data)), .bool s.dirty, .int .i64 s.pins]
theorem without_at {room : Int} {a : Option Addr} {n cap i : Nat} {L : List Bk} {w : World} {s : Bk} (h : DCv w a n cap L) (hn : n ≤ 5000) (hnd : (L.map Bk.key).Nodup) (hs : L[i]? = some s) :
    Calls Try.prog 30 #[.agg #[.int .i64 room, .slice a n cap], .int .i64 (i : Int)] w (DcO w room (woK L s.key)) := by
  have hi : i < n := by rw [h.row.len]; exact (List.getElem?_eq_some_iff.1 hs).1
  obtain ⟨g, rfl, -⟩ := h.row.key hs
  refine (without_any room g n cap i L w h.row hn h.le hi).mono ?_
  rintro e w' ⟨a', cap', rfl, ho, hb⟩
  rw [← wo_at hnd hs] at ho
  exact ⟨a', n - 1, cap', rfl, DCv.own ho, hb⟩
/-- Three boxes of a call, kept. -/
structure Bx3 (w : World) (t1 t2 t3 : TypeId) (cx cy cz : Array Value) (W : World) : Prop where
  x : Blo W w.heap.size t1 cx
  y : Blo W (w.heap.size + 1) t2 cy
  z : Blo W (w.heap.size + 2) t3 cz
  b : Below w.heap.size w W
section
variable {w W W' : World} {t1 t2 t3 : TypeId} {cx cy cz : Array Value}
theorem Bx3.grown {row : Option Nat} (h : Bx3 w t1 t2 t3 cx cy cz W) (hg : W.grownBy W' row) (hr : ∀ g, row = some g → w.heap.size + 3 ≤ g) : Bx3 w t1 t2 t3 cx cy cz W' := by
  have ho : Out (fun g => row = some g) W W' := Out.of_grown hg (fun g e => e)
  refine ⟨ho.blo h.x (fun e => by have := hr _ e; omega), ho.blo h.y (fun e => by have := hr _ e; omega), ho.blo h.z (fun e => by have := hr _ e; omega), h.b.trans (ho.below h.b.size (fun g _ e => by have := hr g e; omega))⟩
theorem Bx3.later (h : Bx3 w t1 t2 t3 cx cy cz W) (hb : Below W.heap.size W W') : Bx3 w t1 t2 t3 cx cy cz W' := ⟨h.x.later hb, h.y.later hb, h.z.later hb, h.b.trans (hb.mono h.b.size)⟩
theorem Bx3.size (h : Bx3 w t1 t2 t3 cx cy cz W) : w.heap.size + 3 ≤ W.heap.size := h.z.lt
theorem Bx3.row1 (h : Bx3 w t1 t2 t3 cx cy cz W) (cs : Array Value) : Bx3 w t1 t2 t3 cs cy cz (W.setRow w.heap.size cs) :=
  ⟨blo_row h.x cs, (out_row (X := fun g => g = w.heap.size) W _ cs rfl).blo h.y (by omega), (out_row (X := fun g => g = w.heap.size) W _ cs rfl).blo h.z (by omega), below_setRow h.b (Nat.le_refl _) cs⟩
theorem Bx3.row3 (h : Bx3 w t1 t2 t3 cx cy cz W) (cs : Array Value) : Bx3 w t1 t2 t3 cx cy cs (W.setRow (w.heap.size + 2) cs) :=
  ⟨(out_row (X := fun g => g = w.heap.size + 2) W _ cs rfl).blo h.x (by omega), (out_row (X := fun g => g = w.heap.size + 2) W _ cs rfl).blo h.y (by omega), blo_row h.z cs, below_setRow h.b (by omega) cs⟩
theorem Bx3.put1 (h : Bx3 w t1 t2 t3 cx cy cz W) (i : Nat) (u : Value) : Bx3 w t1 t2 t3 (cx.setIfInBounds i u) cy cz (W.setCell ⟨w.heap.size, i, none⟩ u) :=
  ⟨h.x.put i u, h.y.far (by show _ ≠ w.heap.size; omega) u, h.z.far (by show _ ≠ w.heap.size; omega) u, h.b.setCell (Nat.le_refl _) u⟩
theorem Bx3.laid (w : World) (t1 t2 t3 : TypeId) (cx cy cz : Array Value) : Bx3 w t1 t2 t3 cx cy cz (((w.alloc (.cells cx t1)).alloc (.cells cy t2)).alloc (.cells cz t3)) := by
  refine ⟨((blo_laid w _ _).alloc _).alloc _, ?_, ?_, ((sup_pc9 w _).alloc (by simp) _).alloc (by simp; omega) _⟩
  · have := (blo_laid (w.alloc (.cells cx t1)) t2 cy).alloc (.cells cz t3)
    rw [show (w.alloc (.cells cx t1)).heap.size = w.heap.size + 1 by simp] at this
    exact this
  · have := blo_laid ((w.alloc (.cells cx t1)).alloc (.cells cy t2)) t3 cz
    rw [show ((w.alloc (.cells cx t1)).alloc (.cells cy t2)).heap.size = w.heap.size + 2 by simp] at this
    exact this
/-- The rows of one's own stay, whatever box is written. -/
theorem own_box {base n k : Nat} {e : TypeId} {sz : Nat} {v : Value} {xs : List Value} (h : W.ownsRow base e sz v n xs) (hk : k < base) (cs : Array Value) : (W.setRow k cs).ownsRow base e sz v n xs :=
  (out_row (X := fun g => g = k) W _ cs rfl).own h (fun g hg e => by have := (own_low h hg).1; omega)
theorem own_boxc {base n k i : Nat} {e : TypeId} {sz : Nat} {v : Value} {xs : List Value} (h : W.ownsRow base e sz v n xs) (hk : k < base) (u : Value) : (W.setCell ⟨k, i, none⟩ u).ownsRow base e sz v n xs :=
  own_far h (p := ⟨k, i, none⟩) (fun e => by have := (own_low h e.symm).1; simp at this; omega) u
end
end Go.Proofs.Ytdnkeplmjimjcaa
/-
  The document's cache with a buffer as the last one used.
-/
namespace Go.Proofs.Ytdnkeplmjimjcaa
open Go.RowKit

def UsM (w : World) (room : Int) (L : List Bk) (s : Bk) (wx : World) : Prop := ∃ a n c, Bx3 w RCT RBT RCT #[.int .i64 room, .slice a n c] (bkV s) #[.int .i64 0, .slice none 0 0] wx ∧ DCv wx a n c (woK L s.key)
theorem us_done {w W : World} {room : Int} {n1 : Nat} {a7 : Option Addr} {base c7 : Nat} {L : List Bk} {s : Bk} {cx cy cz : Array Value} (hB : Bx3 w RCT RBT RCT cx cy cz W) (hb : w.heap.size + 3 ≤ base)
    (hO : W.ownsRow base RBT 5 (.slice a7 n1 c7) n1 (([] ++ flatD L) ++ flatD [s])) :
    DcO w room (L ++ [s]) (.returned (.agg #[.int .i64 room, .slice a7 n1 c7])) (W.setRow (w.heap.size + 2) #[.int .i64 room, .slice a7 n1 c7]) := by
  refine ⟨a7, n1, c7, rfl, ?_, (hB.row3 _).b⟩
  have h := own_box (k := w.heap.size + 2) hO (by omega) #[.int .i64 room, .slice a7 n1 c7]
  rw [List.nil_append, ← flatD_app] at h
  exact DCv.own h
set_option maxRecDepth 100000 in
set_option maxHeartbeats 4000000 in
theorem used_any {room : Int} {a : Option Addr} {n cap : Nat} {L : List Bk} {w : World} {s : Bk} (h : DCv w a n cap L) (hn : n ≤ 5000) (hnd : (L.map Bk.key).Nodup) (hk : ∀ t ∈ L, wfK t.key) (hs : wfK s.key) :
    Calls Try.prog 29 #[.agg #[.int .i64 room, .slice a n cap], .agg (bkV s)] w (DcO w room (woK L s.key ++ [s])) := by
  obtain ⟨⟨s1, s2⟩, sd, sdi, sp⟩ := s
  have hs : wfK (s1, s2) := hs
  show Calls Try.prog 29 #[.agg #[.int .i64 room, .slice a n cap], .agg #[.int .i64 s1, .int .i64 s2, .string (strOf (dtL sd)), .bool sdi, .int .i64 sp]] w (DcO w room (woK L (s1, s2) ++ [⟨(s1, s2), sd, sdi, sp⟩]))
  have H := Lib.hid h
  have HN := Lib.hid hn
  have HD := Lib.hid hnd
  obtain ⟨w1, hw1⟩ : ∃ w1, w1 = ((w.alloc (.cells #[.int .i64 room, .slice a n cap] RCT)).alloc (.cells #[.int .i64 s1, .int .i64 s2, .string (strOf (dtL sd)), .bool sdi, .int .i64 sp] RBT)).alloc (.cells #[.int .i64 0, .slice none 0 0] RCT) := ⟨_, rfl⟩
  have HB0 : Hid (Bx3 w RCT RBT RCT #[.int .i64 room, .slice a n cap] #[.int .i64 s1, .int .i64 s2, .string (strOf (dtL sd)), .bool sdi, .int .i64 sp] #[.int .i64 0, .slice none 0 0] w1) := by rw [hw1]; exact Bx3.laid w _ _ _ _ _ _
  have HFn : Hid (Calls Try.prog 28 #[.agg #[.int .i64 room, .slice a n cap], .agg #[.int .i64 s1, .int .i64 s2]] w1 fun e w' => e = .returned (.int .i64 (ixK L (s1, s2))) ∧ Below w1.heap.size w1 w') := find_any room a n cap L (s1, s2) w1 (h.row.later HB0.out.b) hn hs hk
  have c0 : w1.cell? ⟨w.heap.size, 0, none⟩ = some (.int .i64 room) := HB0.out.x.cell 0
  have c1 : w1.cell? ⟨w.heap.size, 1, none⟩ = some (.slice a n cap) := HB0.out.x.cell 1
  have k0 : w1.cell? ⟨w.heap.size + 1, 0, none⟩ = some (.int .i64 s1) := HB0.out.y.cell 0
  have k1 : w1.cell? ⟨w.heap.size + 1, 1, none⟩ = some (.int .i64 s2) := HB0.out.y.cell 1
  clear h hn hnd hk hs
  go_enter Try.func29, Try.ntmps29
  go_upto_region 1 with (fail)
  rw [← hw1]
  clear hw1
  go_wp2_with (fail)
  refine HFn.out.mono ?_
  rintro e w2 ⟨rfl, hb2⟩
  have HB2 := Lib.hid (HB0.out.later hb2)
  clear HFn c0 c1 k0 k1 hb2 HB0
  generalize hix : ixK L (s1, s2) = ix at *
  have HIx := Lib.hid hix
  clear hix
  go_upto_if 11 with fail
  go_cut [] (fun wx => UsM w room L ⟨(s1, s2), sd, sdi, sp⟩ wx)
  case first =>
    by_cases h0 : 0 ≤ ix
    · obtain ⟨i, t, e1, e2, e3⟩ := ix_some (L := L) (p := (s1, s2)) (by rw [HIx.out]; exact h0)
      obtain rfl : ix = (i : Int) := HIx.out.symm.trans e1
      have hg2 := HB2.out.x
      have HW := Lib.hid (without_at (room := room) (H.out.later HB2.out.b) HN.out HD.out e2)
      rw [e3] at HW
      clear e1 e2 e3 HIx
      go_wp2_with (first | (refine wpList_load_row rfl RCT (.tmp 2) rfl w.heap.size rfl RCT #[.int .i64 room, .slice a n cap] (0, 0) _ hg2 Try.underlying30 rfl (by kernel_rfl) ?_))
      refine HW.out.mono ?_
      rintro e w3 ⟨a1, n1, cap1, rfl, hv, hb3⟩
      have HB3 := Lib.hid (HB2.out.later hb3)
      have HV3 := Lib.hid hv
      clear HW hv hb3 hg2
      have hg3 := HB3.out.x
      go_wp2_with (refine wpList_store_row rfl RCT (.tmp 2) (.tmp 14) rfl w.heap.size #[.int .i64 room, .slice a1 n1 cap1] (by first | rfl | simp [go_sem]) (by first | rfl | simp [go_sem]) RCT _ hg3 (by kernel_rfl) rfl (by simp [Value.oneCell']) ?_)
      go_meet
      exact ⟨a1, n1, cap1, HB3.out.row1 _, HV3.out.box HB3.out.x (by decide) _⟩
    · have HM : Hid (UsM w room L ⟨(s1, s2), sd, sdi, sp⟩ w2) := ⟨a, n, cap, HB2.out, by
        rw [show woK L (s1, s2) = L from (ix_neg (by rw [HIx.out]; exact h0)).2.2]
        exact H.out.later HB2.out.b⟩
      go_wp2_with fail
      go_meet
      exact HM.out
  case rest =>
    obtain ⟨aL, nL, cL, hb, hv⟩ := hcut
    have HBc : Hid (Bx3 w RCT RBT RCT #[.int .i64 room, .slice aL nL cL] #[.int .i64 s1, .int .i64 s2, .string (strOf (dtL sd)), .bool sdi, .int .i64 sp] #[.int .i64 0, .slice none 0 0] wc) := hb
    have HV : Hid (DCv wc aL nL cL (woK L (s1, s2))) := hv
    have HLn : Hid ((flatD (woK L (s1, s2))).length = nL * 5) := by
      show _ = _
      rw [flatD_len, ← HV.out.row.len]
    have hM0 : Below wc.heap.size wc wc.drew := (Below.refl _ _).drew
    have hb0 : wc.heap.size ≤ wc.drew.heap.size := Nat.le_refl _
    have hMS : stabM (fun W => Below wc.heap.size wc W) wc.heap.size := fun W W' row hm hg hr => hm.trans ((Out.of_grown hg (X := fun g => row = some g) (fun g e => e)).below hm.size (fun g _ e => hr g e))
    have hn1 : nL ≤ 5000 := by
      have h1 := HV.out.row.len
      have h2 : (woK L (s1, s2)).length ≤ L.length := List.length_filter_le _ _
      have h3 := H.out.row.len
      have h4 := HN.out
      omega
    clear hb hv
    go_upto_region 4 with (fail)
    obtain ⟨TL, hTL⟩ : ∃ TL : List (Nat × Value), TL = [(1, .pointer (some ⟨w.heap.size, 1, none⟩)), (2, .slice aL nL cL), (4, .agg #[.int .i64 s1, .int .i64 s2, .string (strOf (dtL sd)), .bool sdi, .int .i64 sp])] := ⟨_, rfl⟩
    obtain ⟨RL, hRL⟩ : ∃ RL : List RowS, RL = [⟨0, some 3, 0, []⟩, ⟨3, some 6, 0 + nL, [] ++ flatD (woK L (s1, s2))⟩, ⟨5, some 6, 1, flatD [⟨(s1, s2), sd, sdi, sp⟩]⟩, ⟨6, none, 0 + nL + 1, ([] ++ flatD (woK L (s1, s2))) ++ flatD [⟨(s1, s2), sd, sdi, sp⟩]⟩] := ⟨_, rfl⟩
    have hU : uniqR RL := by intro x hx y hy e; simp only [hRL, List.mem_cons, List.not_mem_nil, or_false] at hx hy; rcases hx with rfl | rfl | rfl | rfl <;> rcases hy with rfl | rfl | rfl | rfl <;> first | rfl | (exfalso; simp at e; done) | fail
    refine wp_region_inv (n := 7) [(0, 15), (1, 16), (2, 17), (3, 18), (4, 19), (5, 20), (6, 21)] (GR TL RL (fun W => Below wc.heap.size wc W) (wc.heap.size) RBT 5) (by kernel_rfl) (by kernel_rfl) (by kernel_rfl) (fun X => by simp only [putL, Act.put, List.setIfInBounds_toArray, List.set_cons_zero, List.set_cons_succ]; rfl) (fun X => GR.start hM0 hb0) ?_ ?_
    · show StepsI _ _ _ _ _ 0 [_, _, _, _, _, _, _]
      refine ⟨fun D X W hDi hd hI K hK => ?_, ?_⟩
      · have hA := hI.lay hU hMS 0 (t := ⟨0, some 3, 0, []⟩) (by simp [hRL]) rfl (by simp [hTL]) (.cells #[] RBT) (c := 0) (own_empty W wc.heap.size RBT 5 hI.b)
        exact stepO_run (v := .slice (some ⟨W.heap.size, 0, none⟩) (0) (0)) (w' := W.alloc (.cells #[] RBT)) (by simp [Region.wanted]) (by simp [go_sem, execOp]) (hK _ _ hA)
      refine ⟨fun D X W hDi hd hI K hK => ?_, ?_⟩
      · exact stepO_run (v := .pointer (some ⟨w.heap.size, 1, none⟩)) (w' := W) (by simp [Region.wanted]) (by simp [go_sem, execOp]) (hK _ _ (hI.tell 1 _ (by simp [hRL]) (by simp [hTL])))
      refine ⟨fun D X W hDi hd hI K hK => ?_, ?_⟩
      · have a1 := hI.dt (1, .pointer (some ⟨w.heap.size, 1, none⟩)) (by simp [hTL]) (hd ⟨1, .data⟩ (by simp) rfl)
        have cW := (HBc.out.later hI.m).x.cell 1
        exact stepO_run (v := .slice aL nL cL) (w' := W) (by simp [Region.wanted]) (by simp [go_sem, execOp, a1, cW]) (hK _ _ (hI.tell 2 _ (by simp [hRL]) (by simp [hTL])))
      refine ⟨fun D X W hDi hd hI K hK => ?_, ?_⟩
      · have a2 := hI.dt (2, .slice aL nL cL) (by simp [hTL]) (hd ⟨2, .data⟩ (by simp) rfl)
        have hra : aliveR D ⟨0, some 3, 0, []⟩ := ⟨hd ⟨0, .data⟩ (by simp) rfl, fun u hu => by cases hu; exact hDi⟩
        obtain ⟨a, c, q1, q2⟩ := hI.rows ⟨0, some 3, 0, []⟩ (by simp [hRL]) hra
        have q1 : X 0 = .slice a (0) c := q1
        refine step_append_row (by rfl) (.tmp 15) (.tmp 17) RBS (by rfl) (wc.heap.size) RBT _ 5 48 Try.underlying28 info_rbt (by kernel_rfl) (by decide) (by decide) (.slice a (0) c) (0) _ (by simp [go_sem, q1]) q2 (aL) (nL) (cL) (flatD (woK L (s1, s2))) (by simp [go_sem, a2]) (HLn.out) ((HV.out.later hI.m).row.all) (flatD_one _) (HV.out.nil) (by omega) hI.b (fun v' w7 hown hgrow hat => ?_)
        obtain ⟨a7, c7, rfl, -⟩ := own_slice hown
        exact hK _ _ (hI.app hU hMS 3 (t := ⟨3, some 6, 0 + nL, [] ++ flatD (woK L (s1, s2))⟩) (r := ⟨0, some 3, 0, []⟩) (by simp [hRL]) rfl (by simp [hTL]) (by simp [hRL]) rfl hra hown (by show W.grownBy w7 (X 0).ownBlock; rw [q1]; exact hgrow) (by show _ = (X 0).ownBlock ∨ _; rw [q1]; exact hat))
      refine ⟨fun D X W hDi hd hI K hK => ?_, ?_⟩
      · exact stepO_load_row (by simp [Region.wanted]) RBT (.tmp 3) rfl (w.heap.size + 1) (by rfl) RBT #[.int .i64 s1, .int .i64 s2, .string (strOf (dtL sd)), .bool sdi, .int .i64 sp] (0, 0) _ ((HBc.out.later hI.m).y) Try.underlying72 rfl (by kernel_rfl) (hK _ _ (hI.tell 4 _ (by simp [hRL]) (by simp [hTL])))
      refine ⟨fun D X W hDi hd hI K hK => ?_, ?_⟩
      · have a4 := hI.dt (4, .agg #[.int .i64 s1, .int .i64 s2, .string (strOf (dtL sd)), .bool sdi, .int .i64 sp]) (by simp [hTL]) (hd ⟨4, .data⟩ (by simp) rfl)
        have hA := hI.lay hU hMS 5 (t := ⟨5, some 6, 1, flatD [⟨(s1, s2), sd, sdi, sp⟩]⟩) (by simp [hRL]) rfl (by simp [hTL]) (.cells #[.int .i64 s1, .int .i64 s2, .string (strOf (dtL sd)), .bool sdi, .int .i64 sp] RBT) (c := 1) (own_laid W wc.heap.size RBT 5 1 #[.int .i64 s1, .int .i64 s2, .string (strOf (dtL sd)), .bool sdi, .int .i64 sp] hI.b rfl (by decide))
        exact stepO_run (v := .slice (some ⟨W.heap.size, 0, none⟩) (1) (1)) (w' := W.alloc (.cells #[.int .i64 s1, .int .i64 s2, .string (strOf (dtL sd)), .bool sdi, .int .i64 sp] RBT)) (by simp [Region.wanted]) (by simp [go_sem, execOp, a4]) (hK _ _ hA)
      refine ⟨fun D X W hDi hd hI K hK => ?_, ?_⟩
      · have hra : aliveR D ⟨3, some 6, 0 + nL, [] ++ flatD (woK L (s1, s2))⟩ := ⟨hd ⟨3, .data⟩ (by simp) rfl, fun u hu => by cases hu; exact hDi⟩
        obtain ⟨a, c, q1, q2⟩ := hI.rows ⟨3, some 6, 0 + nL, [] ++ flatD (woK L (s1, s2))⟩ (by simp [hRL]) hra
        have q1 : X 3 = .slice a (0 + nL) c := q1
        obtain ⟨a2, c2, q3, q4⟩ := hI.rows ⟨5, some 6, 1, flatD [⟨(s1, s2), sd, sdi, sp⟩]⟩ (by simp [hRL]) ⟨hd ⟨5, .data⟩ (by simp) rfl, fun u hu => by cases hu; exact hDi⟩
        have q3 : X 5 = .slice a2 (1) c2 := q3
        refine step_append_row (by rfl) (.tmp 18) (.tmp 20) RBS (by rfl) (wc.heap.size) RBT _ 5 48 Try.underlying28 info_rbt (by kernel_rfl) (by decide) (by decide) (.slice a (0 + nL) c) (0 + nL) _ (by simp [go_sem, q1]) q2 a2 (1) c2 (flatD [⟨(s1, s2), sd, sdi, sp⟩]) (by simp [go_sem, q3]) q4.1 (Rds.own q4).add (flatD_one _) (own_nil q4) (by omega) hI.b (fun v' w7 hown hgrow hat => ?_)
        obtain ⟨a7, c7, rfl, -⟩ := own_slice hown
        exact hK _ _ (hI.app hU hMS 6 (t := ⟨6, none, 0 + nL + 1, ([] ++ flatD (woK L (s1, s2))) ++ flatD [⟨(s1, s2), sd, sdi, sp⟩]⟩) (r := ⟨3, some 6, 0 + nL, [] ++ flatD (woK L (s1, s2))⟩) (by simp [hRL]) rfl (by simp [hTL]) (by simp [hRL]) rfl hra hown (by show W.grownBy w7 (X 3).ownBlock; rw [q1]; exact hgrow) (by show _ = (X 3).ownBlock ∨ _; rw [q1]; exact hat))
      exact True.intro
    · intro D X W hD hI
      obtain ⟨a7, c7, q1, q2⟩ := hI.rows ⟨6, none, 0 + nL + 1, ([] ++ flatD (woK L (s1, s2))) ++ flatD [⟨(s1, s2), sd, sdi, sp⟩]⟩ (by simp [hRL]) ⟨hD 6 (by decide), fun u hu => by cases hu⟩
      have HO7 := Lib.hid q2
      have HB7 := Lib.hid (HBc.out.later hI.m)
      simp only [q1]
      clear hI hD hTL hRL hU q1 q2 hM0 hMS hb0
      have c0 : W.cell? ⟨w.heap.size, 0, none⟩ = some (.int .i64 room) := HB7.out.x.cell 0
      have y1 : W.cell? ⟨w.heap.size, 1, none⟩ = some (.slice aL nL cL) := HB7.out.x.cell 1
      generalize 0 + nL + 1 = k at *
      have f1 : W.frozen? ⟨w.heap.size, 1, none⟩ = false := HB7.out.x.frozen 1
      go_upto_region 5 with (fail)
      have HB8 : Hid (Bx3 w RCT RBT RCT #[.int .i64 room, .slice a7 k c7] #[.int .i64 s1, .int .i64 s2, .string (strOf (dtL sd)), .bool sdi, .int .i64 sp] #[.int .i64 0, .slice none 0 0] (W.setCell ⟨w.heap.size, 1, none⟩ (.slice a7 k c7))) := HB7.out.put1 1 _
      have HO8 := Lib.hid (own_boxc (k := w.heap.size) (i := 1) HO7.out (by have := HBc.out.size; omega) (.slice a7 k c7))
      clear HO7 HB7 c0 y1 f1
      generalize W.setCell ⟨w.heap.size, 1, none⟩ (.slice a7 k c7) = W8 at *
      have hg1 := HB8.out.x
      have hg2 := HB8.out.z
      go_wp2_with (first | (refine wpList_load_row rfl RCT (.tmp 2) rfl w.heap.size rfl RCT #[.int .i64 room, .slice a7 k c7] (0, 0) _ hg1 Try.underlying30 rfl (by kernel_rfl) ?_) | (refine wpList_store_row rfl RCT (.tmp 4) (.tmp 23) rfl (w.heap.size + 2) #[.int .i64 room, .slice a7 k c7] (by first | rfl | simp [go_sem]) (by first | rfl | simp [go_sem]) RCT _ hg2 (by kernel_rfl) rfl (by simp [Value.oneCell']) ?_))
      (try simp only [Exit.inBlock, Exit.then])
      exact bodyPost_ret (results_cell_row (p := 4) (ty := RCT) rfl _ _ (w.heap.size + 2) RCT #[.int .i64 room, .slice a7 k c7] (0, 0) _ (by simp) (HB8.out.row3 _).z Try.underlying30 rfl (by kernel_rfl)) rfl (us_done HB8.out HBc.out.size HO8.out)
end Go.Proofs.Ytdnkeplmjimjcaa
/-
  The document's Put.
-/
namespace Go.Proofs.Ytdnkeplmjimjcaa
open Go.RowKit

/-- A cache and an error that are answered. -/
def DcP (w : World) (room : Int) (R : List Bk × Int) (e : Ending) (w' : World) : Prop := ∃ a n cap, e = .returned (.tuple #[.agg #[.int .i64 room, .slice a n cap], .int .i64 R.2]) ∧ DCv w' a n cap R.1 ∧ Below w.heap.size w w'
theorem DRow.cells {w : World} {a : Option Addr} {n : Nat} {L : List Bk} (h : DRow w a n L) {i : Nat} {s : Bk} (hs : L[i]? = some s) : ∃ g, a = some ⟨g, 0, none⟩ ∧ w.cell? ⟨g, i * 5, none⟩ = some (.int .i64 s.key.1) ∧ w.cell? ⟨g, i * 5 + 1, none⟩ = some (.int .i64 s.key.2) ∧ w.cell? ⟨g, i * 5 + 2, none⟩ = some (.string (strOf (dtL s.data))) ∧ w.cell? ⟨g, i * 5 + 3, none⟩ = some (.bool s.dirty) ∧ w.cell? ⟨g, i * 5 + 4, none⟩ = some (.int .i64 s.pins) := by
  obtain ⟨g, h1, h2⟩ := h.at_ (i * 5) _ (flatD_get L i 0 s hs (by decide))
  have f : ∀ j, j < 5 → ∀ u, ([.int .i64 s.key.1, .int .i64 s.key.2, .string (strOf (dtL s.data)), .bool s.dirty, .int .i64 s.pins] : List Value)[j]? = some u → w.cell? ⟨g, i * 5 + j, none⟩ = some u := fun j hj u hu => by
    obtain ⟨g', h3, h4⟩ := h.at_ (i * 5 + j) u ((flatD_get L i j s hs hj).trans hu)
    rw [h1] at h3
    cases h3
    exact h4
  exact ⟨g, h1, h2, f 1 (by decide) _ rfl, f 2 (by decide) _ rfl, f 3 (by decide) _ rfl, f 4 (by decide) _ rfl⟩
theorem strOf_size (l : List Nat) : (strOf l).size = l.length := by
  have := congrArg List.length (strOf_toList l)
  simpa using this
/-- The three boxes of Put: the cache, the key, the answer. -/
abbrev PtX (w : World) (room : Int) (v : Value) (p1 p2 : Int) (W : World) : Prop := Bx3 w RCT RKT RCT #[.int .i64 room, v] #[.int .i64 p1, .int .i64 p2] #[.int .i64 0, .slice none 0 0] W
theorem dp_ret {w W : World} {room : Int} {a : Option Addr} {n c : Nat} {L : List Bk} {code : Int} {cx cy cz : Array Value} (hB : Bx3 w RCT RKT RCT cx cy cz W) (hV : DCv W a n c L) :
    DcP w room (L, code) (.returned (.tuple #[.agg #[.int .i64 room, .slice a n c], .int .i64 code])) (W.setRow (w.heap.size + 2) #[.int .i64 room, .slice a n c]) :=
  ⟨a, n, c, rfl, hV.box hB.z (by decide) _, (hB.row3 _).b⟩
theorem room_subD (room : Int) (L : List Bk) : (roomK room L).1.Sublist L := by
  unfold roomK
  split
  · exact List.Sublist.refl _
  · split
    · exact List.Sublist.refl _
    · exact List.filter_sublist
theorem wo_none {L L' : List Bk} {p : Int × Int} (hs : L'.Sublist L) (h : findK L p = none) : woK L' p = L' := by
  unfold findK at h
  rw [List.find?_eq_none] at h
  refine List.filter_eq_self.2 fun t ht => ?_
  have := h t (hs.subset ht)
  simpa using this
/-- Behind the making of room. -/
def PtM (w : World) (room : Int) (p1 p2 : Int) (L : List Bk) (wx : World) : Prop := ∃ a n c, PtX w room (.slice a n c) p1 p2 wx ∧ DCv wx a n c L
/-- What may go, as far as it was looked for. -/
def PtG (L : List Bk) (n k : Nat) (v : Value) : Prop :=
  (v = .int .i64 (-1) ∧ ∀ j, j < k → ∀ s, L[j]? = some s → goK s = false) ∨ ∃ (j : Nat) (s : Bk), j < n ∧ v = .int .i64 (j : Int) ∧ L[j]? = some s ∧ L.find? goK = some s
def PtR (w2 : World) (L : List Bk) (n : Nat) (v t : Value) (wr : World) : Prop := ∃ k : Nat, k ≤ n ∧ t = .int .i64 (k : Int) ∧ wr = w2 ∧ PtG L n k v
theorem ptg_no {L : List Bk} {n k : Nat} {s : Bk} (h : ∀ j, j < k → ∀ s, L[j]? = some s → goK s = false) (hs : L[k]? = some s) (hg : goK s = false) : PtG L n (k + 1) (.int .i64 (-1)) :=
  .inl ⟨rfl, fun j hj t ht => by
    by_cases e : j = k
    · subst e
      rw [hs] at ht
      cases ht
      exact hg
    · exact h j (by omega) t ht⟩
theorem ptg_yes {L : List Bk} {n k : Nat} {s : Bk} (hkn : k < n) (h : ∀ j, j < k → ∀ s, L[j]? = some s → goK s = false) (hs : L[k]? = some s) (hg : goK s = true) : PtG L n (k + 1) (.int .i64 (k : Int)) := by
  refine .inr ⟨k, s, hkn, rfl, hs, ?_⟩
  rw [List.find?_eq_some_iff_getElem]
  obtain ⟨hk, he⟩ := List.getElem?_eq_some_iff.1 hs
  refine ⟨hg, k, hk, he, fun j hj => ?_⟩
  have hj2 : j < L.length := by omega
  simpa using h j hj L[j] (List.getElem?_eq_getElem hj2)
theorem ptg_none {L : List Bk} {n : Nat} (hn : n = L.length) (h : ∀ j, j < n → ∀ s, L[j]? = some s → goK s = false) : L.find? goK = none := by
  rw [List.find?_eq_none]
  intro s hs
  obtain ⟨j, hj, he⟩ := List.getElem_of_mem hs
  have := h j (by omega) s (by rw [List.getElem?_eq_getElem hj, he])
  rw [this]
  decide
set_option maxRecDepth 100000 in
set_option maxHeartbeats 4000000 in
theorem dput_any {room : Int} {a : Option Addr} {n cap : Nat} {L : List Bk} {w : World} {p : Int × Int} {l : List Nat} {d : Bool} (h : DCv w a n cap L) (hn : n ≤ 4096) (hnd : (L.map Bk.key).Nodup) (hk : ∀ t ∈ L, wfK t.key) (hp : wfK p) (hl : l.length ≤ 1000) :
    Calls Try.prog 13 #[.agg #[.int .i64 room, .slice a n cap], .agg #[.int .i64 p.1, .int .i64 p.2], .string (strOf l), .bool d] w (DcP w room (putK room L p l d)) := by
  obtain ⟨p1, p2⟩ := p
  have hp : wfK (p1, p2) := hp
  show Calls Try.prog 13 #[.agg #[.int .i64 room, .slice a n cap], .agg #[.int .i64 p1, .int .i64 p2], .string (strOf l), .bool d] w (DcP w room (putK room L (p1, p2) l d))
  have H := Lib.hid h
  have HN := Lib.hid hn
  have HD := Lib.hid hnd
  have HK := Lib.hid hk
  have HP := Lib.hid hp
  obtain ⟨w1, hw1⟩ : ∃ w1, w1 = ((w.alloc (.cells #[.int .i64 room, .slice a n cap] RCT)).alloc (.cells #[.int .i64 p1, .int .i64 p2] RKT)).alloc (.cells #[.int .i64 0, .slice none 0 0] RCT) := ⟨_, rfl⟩
  have HB0 : Hid (PtX w room (.slice a n cap) p1 p2 w1) := by rw [hw1]; exact Bx3.laid w _ _ _ _ _ _
  have c0 : w1.cell? ⟨w.heap.size, 0, none⟩ = some (.int .i64 room) := HB0.out.x.cell 0
  have c1 : w1.cell? ⟨w.heap.size, 1, none⟩ = some (.slice a n cap) := HB0.out.x.cell 1
  have k0 : w1.cell? ⟨w.heap.size + 1, 0, none⟩ = some (.int .i64 p1) := HB0.out.y.cell 0
  have k1 : w1.cell? ⟨w.heap.size + 1, 1, none⟩ = some (.int .i64 p2) := HB0.out.y.cell 1
  have hsz : (strOf l).size = l.length := strOf_size l
  by_cases h64 : l.length = 64
  · have HL := Lib.hid h64
    rw [h64] at hsz
    have HFn : Hid (Calls Try.prog 28 #[.agg #[.int .i64 room, .slice a n cap], .agg #[.int .i64 p1, .int .i64 p2]] w1 fun e w' => e = .returned (.int .i64 (ixK L (p1, p2))) ∧ Below w1.heap.size w1 w') := find_any room a n cap L (p1, p2) w1 (h.row.later HB0.out.b) (by omega) hp hk
    clear h hn hnd hk hp h64 hl
    go_enter Try.func13, Try.ntmps13
    go_upto_region 1 with (fail)
    rw [← hw1]
    clear hw1
    go_wp2_with (fail)
    refine HFn.out.mono ?_
    rintro e w2 ⟨rfl, hb2⟩
    have HB2 := Lib.hid (HB0.out.later hb2)
    clear HFn c0 c1 k0 k1 hb2 HB0
    generalize hix : ixK L (p1, p2) = ix at *
    have HIx := Lib.hid hix
    clear hix
    by_cases h0 : 0 ≤ ix
    · obtain ⟨i, t, e1, e2, e3⟩ := ix_some (L := L) (p := (p1, p2)) (by rw [HIx.out]; exact h0)
      obtain rfl : ix = (i : Int) := HIx.out.symm.trans e1
      have hin : i < n := by rw [H.out.row.len]; exact (List.getElem?_eq_some_iff.1 e2).1
      have hii : (i : Int) < (n : Int) := by omega
      have HV2 := Lib.hid (H.out.later HB2.out.b)
      obtain ⟨g, rfl, x0, x1, x2, x3, x4⟩ := HV2.out.row.cells e2
      have HPut : Hid (putK room L (p1, p2) l d = (woK L (p1, p2) ++ [⟨(p1, p2), gd l, t.dirty || d, t.pins⟩], 0)) := by
        show _ = _
        unfold putK
        rw [if_neg (by rw [HL.out]; simp), ← e3, find_at HD.out e2]
      obtain ⟨tk, td, ti, tp⟩ := t
      have e3 : tk = (p1, p2) := e3
      subst e3
      have HUs : Hid (∀ W b, b = (ti || d) → Below w2.heap.size w2 W → Calls Try.prog 29 #[.agg #[.int .i64 room, .slice (some ⟨g, 0, none⟩) n cap], .agg #[.int .i64 p1, .int .i64 p2, .string (strOf l), .bool b, .int .i64 tp]] W (DcO W room (woK L (p1, p2) ++ [⟨(p1, p2), gd l, ti || d, tp⟩]))) := fun W b hb hB => by
        have := used_any (room := room) (s := ⟨(p1, p2), gd l, ti || d, tp⟩) (HV2.out.later hB) (by have := HN.out; omega) HD.out HK.out HP.out
        unfold bkV at this
        rw [dtL_gd HL.out, ← hb] at this
        rw [hb]
        rw [hb] at this
        exact this
      have c1 : w2.cell? ⟨w.heap.size, 1, none⟩ = some (.slice (some ⟨g, 0, none⟩) n cap) := HB2.out.x.cell 1
      have c0 : w2.cell? ⟨w.heap.size, 0, none⟩ = some (.int .i64 room) := HB2.out.x.cell 0
      clear e1 e2 HIx HK HP HD hin
      cases ti with
      | true =>
        go_upto_region 8 with (fail)
        obtain ⟨wa, hwa⟩ : ∃ wa, w2.alloc (.cells #[.int .i64 p1, .int .i64 p2, .string (strOf l), .bool true, .int .i64 tp] RBT) = wa := ⟨_, rfl⟩
        rw [hwa]
        have HBa : Hid (Below w2.heap.size w2 wa) := by rw [← hwa]; exact (Below.refl _ _).alloc (Nat.le_refl _) _
        have hgb : Blo wa w2.heap.size RBT #[.int .i64 p1, .int .i64 p2, .string (strOf l), .bool true, .int .i64 tp] := by rw [← hwa]; exact blo_laid _ _ _
        have HB3 := Lib.hid (HB2.out.later HBa.out)
        have hgc := HB3.out.x
        clear hwa c0 c1 x0 x1 x2 x3 x4
        go_wp2_with (first | (refine wpList_load_row rfl RCT (.tmp 4) rfl w.heap.size rfl RCT #[.int .i64 room, .slice (some ⟨g, 0, none⟩) n cap] (0, 0) _ hgc Try.underlying30 rfl (by kernel_rfl) ?_) | (refine wpList_load_row rfl RBT (.tmp 11) rfl w2.heap.size rfl RBT #[.int .i64 p1, .int .i64 p2, .string (strOf l), .bool true, .int .i64 tp] (0, 0) _ hgb Try.underlying72 rfl (by kernel_rfl) ?_))
        refine (HUs.out wa _ rfl HBa.out).mono ?_
        rintro e w3 ⟨a3, n3, c3, rfl, hv, hb3⟩
        have HB4 := Lib.hid (HB3.out.later hb3)
        have HV3 := Lib.hid hv
        clear HUs hv hb3 hgb hgc
        have hg3 := HB4.out.z
        go_wp2_with (refine wpList_store_row rfl RCT (.tmp 8) (.tmp 38) rfl (w.heap.size + 2) #[.int .i64 room, .slice a3 n3 c3] (by first | rfl | simp [go_sem]) (by first | rfl | simp [go_sem]) RCT _ hg3 (by kernel_rfl) rfl (by simp [Value.oneCell']) ?_)
        (try simp only [Exit.inBlock, Exit.then])
        rw [HPut.out]
        exact bodyPost_ret (results_row_tmp (p := 8) (u := 9) (ty := RCT) rfl _ _ (w.heap.size + 2) RCT #[.int .i64 room, .slice a3 n3 c3] _ (by simp) (HB4.out.row3 _).z Try.underlying30 rfl (by kernel_rfl)) rfl (dp_ret HB4.out HV3.out)
      | false =>
        go_upto_region 8 with (fail)
        obtain ⟨wa, hwa⟩ : ∃ wa, w2.alloc (.cells #[.int .i64 p1, .int .i64 p2, .string (strOf l), .bool d, .int .i64 tp] RBT) = wa := ⟨_, rfl⟩
        rw [hwa]
        have HBa : Hid (Below w2.heap.size w2 wa) := by rw [← hwa]; exact (Below.refl _ _).alloc (Nat.le_refl _) _
        have hgb : Blo wa w2.heap.size RBT #[.int .i64 p1, .int .i64 p2, .string (strOf l), .bool d, .int .i64 tp] := by rw [← hwa]; exact blo_laid _ _ _
        have HB3 := Lib.hid (HB2.out.later HBa.out)
        have hgc := HB3.out.x
        clear hwa c0 c1 x0 x1 x2 x3 x4
        go_wp2_with (first | (refine wpList_load_row rfl RCT (.tmp 4) rfl w.heap.size rfl RCT #[.int .i64 room, .slice (some ⟨g, 0, none⟩) n cap] (0, 0) _ hgc Try.underlying30 rfl (by kernel_rfl) ?_) | (refine wpList_load_row rfl RBT (.tmp 11) rfl w2.heap.size rfl RBT #[.int .i64 p1, .int .i64 p2, .string (strOf l), .bool d, .int .i64 tp] (0, 0) _ hgb Try.underlying72 rfl (by kernel_rfl) ?_))
        refine (HUs.out wa _ rfl HBa.out).mono ?_
        rintro e w3 ⟨a3, n3, c3, rfl, hv, hb3⟩
        have HB4 := Lib.hid (HB3.out.later hb3)
        have HV3 := Lib.hid hv
        clear HUs hv hb3 hgb hgc
        have hg3 := HB4.out.z
        go_wp2_with (refine wpList_store_row rfl RCT (.tmp 8) (.tmp 38) rfl (w.heap.size + 2) #[.int .i64 room, .slice a3 n3 c3] (by first | rfl | simp [go_sem]) (by first | rfl | simp [go_sem]) RCT _ hg3 (by kernel_rfl) rfl (by simp [Value.oneCell']) ?_)
        (try simp only [Exit.inBlock, Exit.then])
        rw [HPut.out]
        exact bodyPost_ret (results_row_tmp (p := 8) (u := 9) (ty := RCT) rfl _ _ (w.heap.size + 2) RCT #[.int .i64 room, .slice a3 n3 c3] _ (by simp) (HB4.out.row3 _).z Try.underlying30 rfl (by kernel_rfl)) rfl (dp_ret HB4.out HV3.out)
    · obtain ⟨q1, q2, q3⟩ := ix_neg (L := L) (p := (p1, p2)) (by rw [HIx.out]; exact h0)
      obtain rfl : ix = -1 := HIx.out.symm.trans q1
      have HQ : Hid (findK L (p1, p2) = none) := q2
      have HV2 := Lib.hid (H.out.later HB2.out.b)
      have HLn : Hid (n = L.length) := H.out.row.len
      have c1 : w2.cell? ⟨w.heap.size, 1, none⟩ = some (.slice a n cap) := HB2.out.x.cell 1
      have c0 : w2.cell? ⟨w.heap.size, 0, none⟩ = some (.int .i64 room) := HB2.out.x.cell 0
      clear q1 q2 q3 HIx h0
      go_upto_if 44 with fail
      go_cut [] (fun wx => (roomK room L).2 = true ∧ PtM w room p1 p2 (roomK room L).1 wx)
      case first =>
        by_cases hr : room ≤ (n : Int)
        · have HR : Hid (roomK room L = match L.find? goK with | none => (L, false) | some s => (woK L s.key, true)) := by
            show _ = _
            unfold roomK
            rw [if_neg (by have := HLn.out; omega)]
            rfl
          have HSt : Hid (PtR w2 L n (.int .i64 (-1)) (.int .i64 0) w2) := ⟨0, Nat.zero_le _, rfl, rfl, .inl ⟨rfl, fun j hj => absurd hj (Nat.not_lt_zero _)⟩⟩
          go_wp2_with fail
          go_loopw [12, 48] (fun v t wr => PtR w2 L n v t wr) (fun _ t _ => n - (intOf t).toNat)
          case atStart => exact HSt.out
          case round =>
            clear HSt
            obtain ⟨k, hkn, rfl, rfl, hg⟩ := hrel
            have HG := Lib.hid hg
            clear hg
            by_cases hk : k < n
            · have hn4 : n ≤ 4096 := HN.out
              have hki : (k : Int) < (n : Int) := by omega
              have hki0 : (0 : Int) ≤ (k : Int) := by omega
              obtain ⟨s, hs⟩ : ∃ s, L[k]? = some s := ⟨_, List.getElem?_eq_getElem (by rw [← HLn.out]; exact hk)⟩
              obtain ⟨g, rfl, x0, x1, x2, x3, x4⟩ := HV2.out.row.cells hs
              have HS := Lib.hid hs
              have HM : Hid (k < n) := hk
              clear x0 x1 x2 hs
              rcases HG.out with ⟨rfl, hno⟩ | ⟨j, s', hj, rfl, hj1, hj2⟩
              · have HNo := Lib.hid hno
                obtain ⟨sk, sd, si, sp⟩ := s
                cases si with
                | true =>
                  have HE : Hid (PtG L n (k + 1) (.int .i64 (-1))) := ptg_no HNo.out HS.out rfl
                  clear hno hk
                  go_wp2_with fail
                  go_roundw
                  case rel => exact ⟨k + 1, HM.out, rfl, rfl, HE.out⟩
                  case measure => have := HM.out; simp [intOf]; omega
                | false =>
                  by_cases hp0 : sp = 0
                  · subst hp0
                    have HE : Hid (PtG L n (k + 1) (.int .i64 (k : Int))) := ptg_yes hk HNo.out HS.out rfl
                    clear hno hk
                    go_wp2_with fail
                    go_roundw
                    case rel => exact ⟨k + 1, HM.out, rfl, rfl, HE.out⟩
                    case measure => have := HM.out; simp [intOf]; omega
                  · have HE : Hid (PtG L n (k + 1) (.int .i64 (-1))) := ptg_no HNo.out HS.out (by simp [goK, hp0])
                    clear hno hk
                    go_wp2_with fail
                    go_roundw
                    case rel => exact ⟨k + 1, HM.out, rfl, rfl, HE.out⟩
                    case measure => have := HM.out; simp [intOf]; omega
              · have HE : Hid (PtG L n (k + 1) (.int .i64 (j : Int))) := .inr ⟨j, s', hj, rfl, hj1, hj2⟩
                have hj0 : ¬ (j : Int) < 0 := by omega
                clear hj hj1 hj2 hk
                go_wp2_with fail
                go_roundw
                case rel => exact ⟨k + 1, HM.out, rfl, rfl, HE.out⟩
                case measure => have := HM.out; simp [intOf]; omega
            · have hki : ¬ (k : Int) < (n : Int) := by omega
              obtain rfl : k = n := by omega
              clear hk
              have hg3 := HB2.out.z
              rcases HG.out with ⟨rfl, hno⟩ | ⟨j, s', hj, rfl, hj1, hj2⟩
              · have HPut : Hid (putK room L (p1, p2) l d = (L, 28)) := by
                  show _ = _
                  unfold putK
                  rw [if_neg (by rw [HL.out]; simp), HQ.out, HR.out, ptg_none HLn.out hno]
                  rfl
                clear hno
                go_wp2_with (refine wpList_store_row rfl RCT (.tmp 8) (.tmp 75) rfl (w.heap.size + 2) #[.int .i64 room, .slice a k cap] (by first | rfl | simp [go_sem]) (by first | rfl | simp [go_sem]) RCT _ hg3 (by kernel_rfl) rfl (by simp [Value.oneCell']) ?_)
                (try simp only [Exit.inBlock, Exit.then])
                rw [HPut.out]
                exact bodyPost_ret (results_row_tmp (p := 8) (u := 9) (ty := RCT) rfl _ _ (w.heap.size + 2) RCT #[.int .i64 room, .slice a k cap] _ (by simp) (HB2.out.row3 _).z Try.underlying30 rfl (by kernel_rfl)) rfl (dp_ret HB2.out HV2.out)
              · have hj0 : ¬ (j : Int) < 0 := by omega
                have HW := Lib.hid (without_at (room := room) HV2.out (by have := HN.out; omega) HD.out hj1)
                have HE : Hid (roomK room L = (woK L s'.key, true)) := by
                  show _ = _
                  rw [HR.out, hj2]
                clear hj hj1 hj2
                go_wp2_with fail
                refine HW.out.mono ?_
                rintro e w3 ⟨a1, n1, cap1, rfl, hv, hb3⟩
                have HB3 := Lib.hid (HB2.out.later hb3)
                have HV3 := Lib.hid hv
                clear HW hv hb3 hg3 c0 c1
                have hg3 := HB3.out.x
                go_wp2_with (refine wpList_store_row rfl RCT (.tmp 4) (.tmp 78) rfl w.heap.size #[.int .i64 room, .slice a1 n1 cap1] (by first | rfl | simp [go_sem]) (by first | rfl | simp [go_sem]) RCT _ hg3 (by kernel_rfl) rfl (by simp [Value.oneCell']) ?_)
                go_meet
                rw [HE.out]
                exact ⟨rfl, a1, n1, cap1, HB3.out.row1 _, HV3.out.box HB3.out.x (by decide) _⟩
        · have HE : Hid (roomK room L = (L, true)) := by
            show _ = _
            unfold roomK
            rw [if_pos (by have := HLn.out; omega)]
          have HM : Hid (PtM w room p1 p2 L w2) := ⟨a, n, cap, HB2.out, HV2.out⟩
          go_wp2_with fail
          go_meet
          rw [HE.out]
          exact ⟨rfl, HM.out⟩
      case rest =>
        obtain ⟨hr2, a1, n1, cap1, hb, hv⟩ := hcut
        have HBc := Lib.hid hb
        have HVc := Lib.hid hv
        have HPut : Hid (putK room L (p1, p2) l d = ((roomK room L).1 ++ [⟨(p1, p2), gd l, d, 0⟩], 0)) := by
          show _ = _
          unfold putK
          rw [if_neg (by rw [HL.out]; simp), HQ.out]
          show (if (roomK room L).2 = true then _ else _) = _
          rw [if_pos hr2]
        have HSub : Hid ((roomK room L).1.Sublist L) := room_subD room L
        have HNf : Hid (woK (roomK room L).1 (p1, p2) = (roomK room L).1) := wo_none HSub.out HQ.out
        have HUs : Hid (Calls Try.prog 29 #[.agg #[.int .i64 room, .slice a1 n1 cap1], .agg #[.int .i64 p1, .int .i64 p2, .string (strOf l), .bool d, .int .i64 0]] wc (DcO wc room ((roomK room L).1 ++ [⟨(p1, p2), gd l, d, 0⟩]))) := by
          have := used_any (room := room) (s := ⟨(p1, p2), gd l, d, 0⟩) HVc.out (by have := HVc.out.row.len; have := HSub.out.length_le; have := HN.out; have := HLn.out; omega) (HD.out.sublist (List.Sublist.map _ HSub.out)) (fun t ht => HK.out t (HSub.out.subset ht)) HP.out
          unfold bkV at this
          rw [dtL_gd HL.out] at this
          show Calls _ _ _ _ _
          rw [← HNf.out]
          exact this
        clear hr2 hb hv c0 c1
        have c0 : wc.cell? ⟨w.heap.size, 0, none⟩ = some (.int .i64 room) := HBc.out.x.cell 0
        have c1 : wc.cell? ⟨w.heap.size, 1, none⟩ = some (.slice a1 n1 cap1) := HBc.out.x.cell 1
        have k0 : wc.cell? ⟨w.heap.size + 1, 0, none⟩ = some (.int .i64 p1) := HBc.out.y.cell 0
        have k1 : wc.cell? ⟨w.heap.size + 1, 1, none⟩ = some (.int .i64 p2) := HBc.out.y.cell 1
        go_wp2_with fail
        refine HUs.out.mono ?_
        rintro e w3 ⟨a3, n3, c3, rfl, hv, hb3⟩
        have HB4 := Lib.hid (HBc.out.later hb3)
        have HV3 := Lib.hid hv
        clear HUs hv hb3 c0 c1 k0 k1
        have hg3 := HB4.out.z
        go_wp2_with (refine wpList_store_row rfl RCT (.tmp 8) (.tmp 84) rfl (w.heap.size + 2) #[.int .i64 room, .slice a3 n3 c3] (by first | rfl | simp [go_sem]) (by first | rfl | simp [go_sem]) RCT _ hg3 (by kernel_rfl) rfl (by simp [Value.oneCell']) ?_)
        (try simp only [Exit.inBlock, Exit.then])
        rw [HPut.out]
        exact bodyPost_ret (results_row_tmp (p := 8) (u := 9) (ty := RCT) rfl _ _ (w.heap.size + 2) RCT #[.int .i64 room, .slice a3 n3 c3] _ (by simp) (HB4.out.row3 _).z Try.underlying30 rfl (by kernel_rfl)) rfl (dp_ret HB4.out HV3.out)
  · have HPut : Hid (putK room L (p1, p2) l d = (L, 22)) := by
      show _ = _
      unfold putK
      rw [if_pos h64]
    have HV1 := Lib.hid (h.later HB0.out.b)
    have hne : ¬ (l.length : Int) = 64 := by omega
    have hg3 := HB0.out.z
    clear h hn hnd hk hp h64
    go_enter Try.func13, Try.ntmps13
    go_upto_region 1 with (fail)
    rw [← hw1]
    clear hw1
    go_wp2_with (refine wpList_store_row rfl RCT (.tmp 8) (.tmp 17) rfl (w.heap.size + 2) #[.int .i64 room, .slice a n cap] (by first | rfl | simp [go_sem]) (by first | rfl | simp [go_sem]) RCT _ hg3 (by kernel_rfl) rfl (by simp [Value.oneCell']) ?_)
    (try simp only [Exit.inBlock, Exit.then])
    rw [HPut.out]
    exact bodyPost_ret (results_row_tmp (p := 8) (u := 9) (ty := RCT) rfl _ _ (w.heap.size + 2) RCT #[.int .i64 room, .slice a n cap] _ (by simp) (HB0.out.row3 _).z Try.underlying30 rfl (by kernel_rfl)) rfl (dp_ret HB0.out HV1.out)
end Go.Proofs.Ytdnkeplmjimjcaa
/-
  The document's Get.
-/
namespace Go.Proofs.Ytdnkeplmjimjcaa
open Go.RowKit

/-- The bytes that are answered, as a text. -/
def wantS (o : Option (Nat → Nat)) : ByteArray := match o with | some d => strOf (dtL d) | none => ByteArray.empty
/-- A cache that is answered, the bytes, whether they are there. -/
def DcG (w : World) (room : Int) (R : List Bk × Option (Nat → Nat)) (e : Ending) (w' : World) : Prop :=
  ∃ a n cap, e = .returned (.tuple #[.agg #[.int .i64 room, .slice a n cap], .string (wantS R.2), .bool R.2.isSome]) ∧ DCv w' a n cap R.1 ∧ Below w.heap.size w w'
/-- Under way: the cache with its buffer used is made, then it is stored in the answer's box. -/
structure GtI (w : World) (room : Int) (a : Option Addr) (n cap : Nat) (L L' : List Bk) (T : List (Nat × Value)) (D : Nat → Bool) (X : Nat → Value) (W : World) : Prop where
  dt : DetO T D X
  x : Blo W w.heap.size RCT #[.int .i64 room, .slice a n cap]
  v : DCv W a n cap L
  b : Below w.heap.size w W
  s : w.heap.size + 3 ≤ W.heap.size
  cl : D 13 = true → D 6 = true
  z0 : D 13 = false → Blo W (w.heap.size + 2) RCT #[.int .i64 0, .slice none 0 0]
  r : D 6 = true → ∃ a3 n3 c3, X 6 = .agg #[.int .i64 room, .slice a3 n3 c3] ∧ DCv W a3 n3 c3 L'
  z1 : D 13 = true → ∀ a3 n3 c3, X 6 = .agg #[.int .i64 room, .slice a3 n3 c3] → Blo W (w.heap.size + 2) RCT #[.int .i64 room, .slice a3 n3 c3]
section
variable {w W W' : World} {room p1 p2 : Int} {a : Option Addr} {n cap : Nat} {L L' : List Bk} {T : List (Nat × Value)} {D : Nat → Bool} {X : Nat → Value}
theorem GtI.start (h : PtX w room (.slice a n cap) p1 p2 W) (hv : DCv W a n cap L) : GtI w room a n cap L L' T (fun _ => false) X W.drew :=
  ⟨fun _ _ e => (by cases e), h.x, hv.later ((Below.refl _ _).drew), h.b.drew, h.size, fun e => (by cases e), fun _ => h.z, fun e => (by cases e), fun e => (by cases e)⟩
theorem GtI.tell (h : GtI w room a n cap L L' T D X W) (i : Nat) (v : Value) (h6 : i ≠ 6) (h13 : i ≠ 13) (hv : ∀ x ∈ T, x.1 = i → x.2 = v) : GtI w room a n cap L L' T (updD D i) (updV X i v) W :=
  ⟨h.dt.set i v hv, h.x, h.v, h.b, h.s, fun e => by
    rw [updD_ne D i (Ne.symm h13)] at e
    rw [updD_ne D i (Ne.symm h6)]
    exact h.cl e, fun e => h.z0 (by rwa [updD_ne D i (Ne.symm h13)] at e), fun e => by
    rw [updV_ne X i v (Ne.symm h6)]
    exact h.r (by rwa [updD_ne D i (Ne.symm h6)] at e), fun e => by
    rw [updV_ne X i v (Ne.symm h6)]
    exact h.z1 (by rwa [updD_ne D i (Ne.symm h13)] at e)⟩
theorem GtI.called (h : GtI w room a n cap L L' T D X W) (hD : D 6 = false) (hT : ∀ x ∈ T, x.1 ≠ 6) {a3 : Option Addr} {n3 c3 : Nat} (hv : DCv W' a3 n3 c3 L') (hb : Below W.heap.size W W') :
    GtI w room a n cap L L' T (updD D 6) (updV X 6 (.agg #[.int .i64 room, .slice a3 n3 c3])) W' := by
  have h13 : D 13 = false := by
    cases e : D 13 with
    | false => rfl
    | true => rw [h.cl e] at hD; cases hD
  exact ⟨fun x hx hd => by
    rw [updV_ne X 6 _ (hT x hx)]
    rw [updD_ne D 6 (hT x hx)] at hd
    exact h.dt x hx hd, h.x.later hb, h.v.later hb, h.b.trans (hb.mono h.b.size), Nat.le_trans h.s hb.size, fun _ => updD_at _ _, fun e => (h.z0 h13).later hb, fun _ => ⟨a3, n3, c3, updV_at _ _ _, hv⟩, fun e => by
    rw [updD_ne D 6 (by decide), h13] at e
    cases e⟩
theorem GtI.stored (h : GtI w room a n cap L L' T D X W) (hT : ∀ x ∈ T, x.1 ≠ 13) (hD : D 13 = false) (h6 : D 6 = true) {a3 : Option Addr} {n3 c3 : Nat} {v : Value} (q : X 6 = .agg #[.int .i64 room, .slice a3 n3 c3]) (hv : DCv W a3 n3 c3 L') :
    GtI w room a n cap L L' T (updD D 13) (updV X 13 v) (W.setRow (w.heap.size + 2) #[.int .i64 room, .slice a3 n3 c3]) := by
  have hz := h.z0 hD
  refine ⟨fun x hx hd => ?_, (out_row (X := fun g => g = w.heap.size + 2) W _ _ rfl).blo h.x (by omega), h.v.box hz (by decide) _, below_setRow h.b (by omega) _, ?_, fun _ => ?_, fun e => ?_, fun _ => ?_, fun _ a4 n4 c4 e4 => ?_⟩
  · rw [updV_ne X 13 _ (hT x hx)]
    rw [updD_ne D 13 (hT x hx)] at hd
    exact h.dt x hx hd
  · simpa using h.s
  · rw [updD_ne D 13 (by decide)]; exact h6
  · rw [updD_at] at e; cases e
  · rw [updV_ne X 13 v (by decide)]
    exact ⟨a3, n3, c3, q, hv.box hz (by decide) _⟩
  · rw [updV_ne X 13 v (by decide), q] at e4
    cases e4
    exact blo_row hz _
theorem gt_c5 {g i : Nat} {s : Bk} (h : GtI w room (some ⟨g, 0, none⟩) n cap L L' T D X W) (hs : L[i]? = some s) : W.cell? ⟨g, i * 5, none⟩ = some (.int .i64 s.key.1) ∧ W.cell? ⟨g, i * 5 + 1, none⟩ = some (.int .i64 s.key.2) ∧ W.cell? ⟨g, i * 5 + 2, none⟩ = some (.string (strOf (dtL s.data))) ∧ W.cell? ⟨g, i * 5 + 3, none⟩ = some (.bool s.dirty) ∧ W.cell? ⟨g, i * 5 + 4, none⟩ = some (.int .i64 s.pins) := by
  obtain ⟨g', e, r⟩ := h.v.row.cells hs
  cases e
  exact r
theorem gt_c2 {g i : Nat} {s : Bk} (h : GtI w room (some ⟨g, 0, none⟩) n cap L L' T D X W) (hs : L[i]? = some s) : W.cell? ⟨g, i * 5 + 2, none⟩ = some (.string (strOf (dtL s.data))) := (gt_c5 h hs).2.2.1
end
set_option maxRecDepth 100000 in
set_option maxHeartbeats 4000000 in
theorem dget_any {room : Int} {a : Option Addr} {n cap : Nat} {L : List Bk} {w : World} {p : Int × Int} (h : DCv w a n cap L) (hn : n ≤ 4096) (hnd : (L.map Bk.key).Nodup) (hk : ∀ t ∈ L, wfK t.key) (hp : wfK p) :
    Calls Try.prog 14 #[.agg #[.int .i64 room, .slice a n cap], .agg #[.int .i64 p.1, .int .i64 p.2]] w (DcG w room (getK L p)) := by
  obtain ⟨p1, p2⟩ := p
  have hp : wfK (p1, p2) := hp
  show Calls Try.prog 14 #[.agg #[.int .i64 room, .slice a n cap], .agg #[.int .i64 p1, .int .i64 p2]] w (DcG w room (getK L (p1, p2)))
  have H := Lib.hid h
  have HN := Lib.hid hn
  have HD := Lib.hid hnd
  have HK := Lib.hid hk
  have HP := Lib.hid hp
  obtain ⟨w1, hw1⟩ : ∃ w1, w1 = ((w.alloc (.cells #[.int .i64 room, .slice a n cap] RCT)).alloc (.cells #[.int .i64 p1, .int .i64 p2] RKT)).alloc (.cells #[.int .i64 0, .slice none 0 0] RCT) := ⟨_, rfl⟩
  have HB0 : Hid (PtX w room (.slice a n cap) p1 p2 w1) := by rw [hw1]; exact Bx3.laid w _ _ _ _ _ _
  have c0 : w1.cell? ⟨w.heap.size, 0, none⟩ = some (.int .i64 room) := HB0.out.x.cell 0
  have c1 : w1.cell? ⟨w.heap.size, 1, none⟩ = some (.slice a n cap) := HB0.out.x.cell 1
  have k0 : w1.cell? ⟨w.heap.size + 1, 0, none⟩ = some (.int .i64 p1) := HB0.out.y.cell 0
  have k1 : w1.cell? ⟨w.heap.size + 1, 1, none⟩ = some (.int .i64 p2) := HB0.out.y.cell 1
  have HFn : Hid (Calls Try.prog 28 #[.agg #[.int .i64 room, .slice a n cap], .agg #[.int .i64 p1, .int .i64 p2]] w1 fun e w' => e = .returned (.int .i64 (ixK L (p1, p2))) ∧ Below w1.heap.size w1 w') := find_any room a n cap L (p1, p2) w1 (h.row.later HB0.out.b) (by omega) hp hk
  clear h hn hnd hk hp
  go_enter Try.func14, Try.ntmps14
  go_upto_region 1 with (fail)
  rw [← hw1]
  clear hw1
  go_wp2_with (fail)
  refine HFn.out.mono ?_
  rintro e w2 ⟨rfl, hb2⟩
  have HB2 := Lib.hid (HB0.out.later hb2)
  clear HFn c0 c1 k0 k1 hb2 HB0
  generalize hix : ixK L (p1, p2) = ix at *
  have HIx := Lib.hid hix
  clear hix
  by_cases h0 : ix < 0
  · obtain ⟨q1, q2, q3⟩ := ix_neg (L := L) (p := (p1, p2)) (by rw [HIx.out]; omega)
    have HG : Hid (getK L (p1, p2) = (L, none)) := by
      show _ = _
      unfold getK
      rw [q2]
    have HV2 := Lib.hid (H.out.later HB2.out.b)
    have c1 : w2.cell? ⟨w.heap.size, 1, none⟩ = some (.slice a n cap) := HB2.out.x.cell 1
    have c0 : w2.cell? ⟨w.heap.size, 0, none⟩ = some (.int .i64 room) := HB2.out.x.cell 0
    have hg3 := HB2.out.z
    clear q1 q2 q3
    go_wp2_with (refine wpList_store_row rfl RCT (.tmp 4) (.tmp 13) rfl (w.heap.size + 2) #[.int .i64 room, .slice a n cap] (by first | rfl | simp [go_sem]) (by first | rfl | simp [go_sem]) RCT _ hg3 (by kernel_rfl) rfl (by simp [Value.oneCell']) ?_)
    (try simp only [Exit.inBlock, Exit.then])
    rw [HG.out]
    exact bodyPost_ret (results_row_tmp2 (p := 4) (u := 5) (v := 6) (ty := RCT) rfl _ _ (w.heap.size + 2) RCT #[.int .i64 room, .slice a n cap] _ (by simp) (HB2.out.row3 _).z Try.underlying30 rfl (by kernel_rfl)) rfl ⟨a, n, cap, rfl, HV2.out.box HB2.out.z (by decide) _, (HB2.out.row3 _).b⟩
  · obtain ⟨i, t, e1, e2, e3⟩ := ix_some (L := L) (p := (p1, p2)) (by rw [HIx.out]; omega)
    obtain rfl : ix = (i : Int) := HIx.out.symm.trans e1
    have hin : i < n := by rw [H.out.row.len]; exact (List.getElem?_eq_some_iff.1 e2).1
    have hii : (i : Int) < (n : Int) := by omega
    have hi0 : (0 : Int) ≤ (i : Int) := by omega
    have HV2 := Lib.hid (H.out.later HB2.out.b)
    obtain ⟨g, rfl, -⟩ := HV2.out.row.cells e2
    have HG : Hid (getK L (p1, p2) = (woK L (p1, p2) ++ [t], some t.data)) := by
      show _ = _
      unfold getK
      rw [← e3, find_at HD.out e2]
    obtain ⟨tk, td, ti, tp⟩ := t
    have e3 : tk = (p1, p2) := e3
    subst e3
    have HUs : Hid (∀ W, Below w.heap.size w W → Calls Try.prog 29 #[.agg #[.int .i64 room, .slice (some ⟨g, 0, none⟩) n cap], .agg #[.int .i64 p1, .int .i64 p2, .string (strOf (dtL td)), .bool ti, .int .i64 tp]] W (DcO W room (woK L (p1, p2) ++ [⟨(p1, p2), td, ti, tp⟩]))) := fun W hB => used_any (room := room) (s := ⟨(p1, p2), td, ti, tp⟩) (H.out.later hB) (by have := HN.out; omega) HD.out HK.out HP.out
    clear HIx HK HP HD hin e1 h0
    go_upto_region 4 with (fail)
    obtain ⟨TL, hTL⟩ : ∃ TL : List (Nat × Value), TL = [(0, .agg #[.int .i64 room, .slice (some ⟨g, 0, none⟩) n cap]), (1, .pointer (some ⟨w.heap.size, 1, none⟩)), (2, .slice (some ⟨g, 0, none⟩) n cap), (3, .int .i64 (i : Int)), (4, .pointer (some ⟨g, i * 5, none⟩)), (5, .agg #[.int .i64 p1, .int .i64 p2, .string (strOf (dtL td)), .bool ti, .int .i64 tp]), (7, .pointer (some ⟨w.heap.size, 1, none⟩)), (8, .slice (some ⟨g, 0, none⟩) n cap), (9, .int .i64 (i : Int)), (10, .pointer (some ⟨g, i * 5, none⟩)), (11, .pointer (some ⟨g, i * 5 + 2, none⟩)), (12, .string (strOf (dtL td)))] := ⟨_, rfl⟩
    refine wp_region_inv (n := 14) [(0, 14), (1, 15), (2, 16), (3, 17), (4, 18), (5, 19), (6, 20), (7, 21), (8, 22), (9, 23), (10, 24), (11, 25), (12, 26)] (GtI w room (some ⟨g, 0, none⟩) n cap L (woK L (p1, p2) ++ [⟨(p1, p2), td, ti, tp⟩]) TL) (by kernel_rfl) (by kernel_rfl) (by kernel_rfl) (fun X => by simp only [putL, Act.put, List.setIfInBounds_toArray, List.set_cons_zero, List.set_cons_succ]; rfl) (fun X => GtI.start HB2.out HV2.out) ?_ ?_
    · show StepsI _ _ _ _ _ 0 [_, _, _, _, _, _, _, _, _, _, _, _, _, _]
      refine ⟨fun D X W hDi hd hI K hK => ?_, ?_⟩
      · exact stepO_load_row (by simp [Region.wanted]) RCT (.tmp 2) rfl w.heap.size (by rfl) RCT #[.int .i64 room, .slice (some ⟨g, 0, none⟩) n cap] (0, 0) _ hI.x Try.underlying30 rfl (by kernel_rfl) (hK _ _ (hI.tell 0 _ (by decide) (by decide) (by simp [hTL])))
      refine ⟨fun D X W hDi hd hI K hK => ?_, ?_⟩
      · exact stepO_run (v := .pointer (some ⟨w.heap.size, 1, none⟩)) (w' := W) (by simp [Region.wanted]) (by simp [go_sem, execOp]) (hK _ _ (hI.tell 1 _ (by decide) (by decide) (by simp [hTL])))
      refine ⟨fun D X W hDi hd hI K hK => ?_, ?_⟩
      · have a1 := hI.dt (1, .pointer (some ⟨w.heap.size, 1, none⟩)) (by simp [hTL]) (hd ⟨1, .data⟩ (by simp) rfl)
        have cW := hI.x.cell 1
        exact stepO_run (v := .slice (some ⟨g, 0, none⟩) n cap) (w' := W) (by simp [Region.wanted]) (by simp [go_sem, execOp, a1, cW]) (hK _ _ (hI.tell 2 _ (by decide) (by decide) (by simp [hTL])))
      refine ⟨fun D X W hDi hd hI K hK => ?_, ?_⟩
      · exact stepO_run (v := .int .i64 (i : Int)) (w' := W) (by simp [Region.wanted]) (by simp [go_sem, execOp]) (hK _ _ (hI.tell 3 _ (by decide) (by decide) (by simp [hTL])))
      refine ⟨fun D X W hDi hd hI K hK => ?_, ?_⟩
      · have a2 := hI.dt (2, .slice (some ⟨g, 0, none⟩) n cap) (by simp [hTL]) (hd ⟨2, .data⟩ (by simp) rfl)
        have a3 := hI.dt (3, .int .i64 (i : Int)) (by simp [hTL]) (hd ⟨3, .data⟩ (by simp) rfl)
        exact stepO_run (v := .pointer (some ⟨g, i * 5, none⟩)) (w' := W) (by simp [Region.wanted]) (by simp [go_sem, execOp, a2, a3, hii, hi0]) (hK _ _ (hI.tell 4 _ (by decide) (by decide) (by simp [hTL])))
      refine ⟨fun D X W hDi hd hI K hK => ?_, ?_⟩
      · have a4 := hI.dt (4, .pointer (some ⟨g, i * 5, none⟩)) (by simp [hTL]) (hd ⟨4, .data⟩ (by simp) rfl)
        obtain ⟨y0, y1, y2, y3, y4⟩ := gt_c5 hI e2
        exact stepO_run (v := .agg #[.int .i64 p1, .int .i64 p2, .string (strOf (dtL td)), .bool ti, .int .i64 tp]) (w' := W) (by simp [Region.wanted]) (by simp [go_sem, execOp, a4, y0, y1, y2, y3, y4]) (hK _ _ (hI.tell 5 _ (by decide) (by decide) (by simp [hTL])))
      refine ⟨fun D X W hDi hd hI K hK => ?_, ?_⟩
      · have a0 := hI.dt (0, .agg #[.int .i64 room, .slice (some ⟨g, 0, none⟩) n cap]) (by simp [hTL]) (hd ⟨0, .data⟩ (by simp) rfl)
        have a5 := hI.dt (5, .agg #[.int .i64 p1, .int .i64 p2, .string (strOf (dtL td)), .bool ti, .int .i64 tp]) (by simp [hTL]) (hd ⟨5, .data⟩ (by simp) rfl)
        have a0 := hI.dt (0, .agg #[.int .i64 room, .slice (some ⟨g, 0, none⟩) n cap]) (by simp [hTL]) (hd ⟨0, .data⟩ (by simp) rfl)
        have a5 := hI.dt (5, .agg #[.int .i64 p1, .int .i64 p2, .string (strOf (dtL td)), .bool ti, .int .i64 tp]) (by simp [hTL]) (hd ⟨5, .data⟩ (by simp) rfl)
        refine stepO_call (by simp [Region.wanted]) (by simp [go_sem, resolve, a0, a5]) (HUs.out W hI.b) (fun e w' hp => ?_)
        obtain ⟨a3, n3, c3, rfl, hv, hb⟩ := hp
        exact ⟨_, rfl, hK _ _ (hI.called hDi (by simp [hTL]) hv hb)⟩
      refine ⟨fun D X W hDi hd hI K hK => ?_, ?_⟩
      · exact stepO_run (v := .pointer (some ⟨w.heap.size, 1, none⟩)) (w' := W) (by simp [Region.wanted]) (by simp [go_sem, execOp]) (hK _ _ (hI.tell 7 _ (by decide) (by decide) (by simp [hTL])))
      refine ⟨fun D X W hDi hd hI K hK => ?_, ?_⟩
      · have a7 := hI.dt (7, .pointer (some ⟨w.heap.size, 1, none⟩)) (by simp [hTL]) (hd ⟨7, .data⟩ (by simp) rfl)
        have cW := hI.x.cell 1
        exact stepO_run (v := .slice (some ⟨g, 0, none⟩) n cap) (w' := W) (by simp [Region.wanted]) (by simp [go_sem, execOp, a7, cW]) (hK _ _ (hI.tell 8 _ (by decide) (by decide) (by simp [hTL])))
      refine ⟨fun D X W hDi hd hI K hK => ?_, ?_⟩
      · exact stepO_run (v := .int .i64 (i : Int)) (w' := W) (by simp [Region.wanted]) (by simp [go_sem, execOp]) (hK _ _ (hI.tell 9 _ (by decide) (by decide) (by simp [hTL])))
      refine ⟨fun D X W hDi hd hI K hK => ?_, ?_⟩
      · have a8 := hI.dt (8, .slice (some ⟨g, 0, none⟩) n cap) (by simp [hTL]) (hd ⟨8, .data⟩ (by simp) rfl)
        have a9 := hI.dt (9, .int .i64 (i : Int)) (by simp [hTL]) (hd ⟨9, .data⟩ (by simp) rfl)
        exact stepO_run (v := .pointer (some ⟨g, i * 5, none⟩)) (w' := W) (by simp [Region.wanted]) (by simp [go_sem, execOp, a8, a9, hii, hi0]) (hK _ _ (hI.tell 10 _ (by decide) (by decide) (by simp [hTL])))
      refine ⟨fun D X W hDi hd hI K hK => ?_, ?_⟩
      · have a10 := hI.dt (10, .pointer (some ⟨g, i * 5, none⟩)) (by simp [hTL]) (hd ⟨10, .data⟩ (by simp) rfl)
        exact stepO_run (v := .pointer (some ⟨g, i * 5 + 2, none⟩)) (w' := W) (by simp [Region.wanted]) (by simp [go_sem, execOp, a10]) (hK _ _ (hI.tell 11 _ (by decide) (by decide) (by simp [hTL])))
      refine ⟨fun D X W hDi hd hI K hK => ?_, ?_⟩
      · have a11 := hI.dt (11, .pointer (some ⟨g, i * 5 + 2, none⟩)) (by simp [hTL]) (hd ⟨11, .data⟩ (by simp) rfl)
        have cW := gt_c2 hI e2
        exact stepO_run (v := .string (strOf (dtL td))) (w' := W) (by simp [Region.wanted]) (by simp [go_sem, execOp, a11, cW]) (hK _ _ (hI.tell 12 _ (by decide) (by decide) (by simp [hTL])))
      refine ⟨fun D X W hDi hd hI K hK => ?_, ?_⟩
      · obtain ⟨a3, n3, c3, q, hv⟩ := hI.r (hd ⟨6, .data⟩ (by simp) rfl)
        exact stepO_store (by simp [Region.wanted]) RCT (.tmp 4) (.tmp 20) rfl (w.heap.size + 2) #[.int .i64 room, .slice a3 n3 c3] (by rfl) (by simp [go_sem, q]) RCT _ (hI.z0 hDi) (by kernel_rfl) rfl (by simp [Value.oneCell']) rfl undef (fun hz hg => hK _ _ (hI.stored (by simp [hTL]) hDi (hd ⟨6, .data⟩ (by simp) rfl) q hv))
      exact True.intro
    · intro D X W hD hI
      have a12 := hI.dt (12, .string (strOf (dtL td))) (by simp [hTL]) (hD 12 (by decide))
      obtain ⟨a3, n3, c3, q, hv⟩ := hI.r (hD 6 (by decide))
      have hz := hI.z1 (hD 13 (by decide)) a3 n3 c3 q
      have HZ := Lib.hid hz
      have HVr := Lib.hid hv
      have HBb := Lib.hid hI.b
      simp only [a12]
      clear hI hD hTL a12 q hv hz HUs
      go_wp2_with (fail)
      (try simp only [Exit.inBlock, Exit.then])
      rw [HG.out]
      exact bodyPost_ret (results_row_tmp2 (p := 4) (u := 5) (v := 6) (ty := RCT) rfl _ _ (w.heap.size + 2) RCT #[.int .i64 room, .slice a3 n3 c3] _ (by simp) HZ.out Try.underlying30 rfl (by kernel_rfl)) rfl ⟨a3, n3, c3, rfl, HVr.out, HBb.out⟩
end Go.Proofs.Ytdnkeplmjimjcaa
/-
  Cells stored into a row of one's own.
-/
namespace Go.Proofs.Ytdnkeplmjimjcaa
open Go.RowKit

theorem own_get {W : World} {base g n cap sz : Nat} {e : TypeId} {xs : List Value} {cur : Array Value} (hx : cur.toList.take (n * sz) = xs) {j : Nat} (hj : j < n * sz) : cur[j]? = xs[j]? := by
  rw [← hx, List.getElem?_take_of_lt hj, Array.getElem?_toList]
theorem own_cells {W : World} {base g n cap sz off : Nat} {e : TypeId} {xs vs : List Value} (h : W.ownsRow base e sz (.slice (some ⟨g, 0, none⟩) n cap) n xs) (hb : off + vs.length ≤ n * sz) :
    (W.setCells g off vs).ownsRow base e sz (.slice (some ⟨g, 0, none⟩) n cap) n (xs.take off ++ vs ++ xs.drop (off + vs.length)) := by
  have hl := h.1
  rcases h.2 with ⟨q, -⟩ | ⟨g', cap', cur, q, h1, h2, h3, h4, h5, h6⟩
  · cases q
  · cases q
    have hcs : n * sz ≤ cur.size := by rw [h5]; exact Nat.mul_le_mul_right _ h3
    obtain ⟨cs', c1, c2, c3⟩ := blo_cells vs off W cur (show Blo W g e cur from h2)
    refine ⟨by simp only [List.length_append, List.length_take, List.length_drop]; omega, .inr ⟨g, cap, cs', rfl, h1, c1, h3, h4, c2.trans h5, ?_⟩⟩
    refine List.ext_getElem? fun j => ?_
    by_cases hj : j < n * sz
    · rw [List.getElem?_take_of_lt hj, Array.getElem?_toList, c3]
      by_cases h7 : j < off
      · rw [if_neg (by omega), List.append_assoc, List.getElem?_append_left (by rw [List.length_take]; omega), List.getElem?_take_of_lt h7, ← h6, List.getElem?_take_of_lt hj, Array.getElem?_toList]
      · by_cases h8 : j < off + vs.length
        · rw [if_pos ⟨by omega, h8, by omega⟩, List.append_assoc, List.getElem?_append_right (by rw [List.length_take]; omega), List.length_take, Nat.min_eq_left (by omega), List.getElem?_append_left (by omega)]
        · rw [if_neg (by omega), List.getElem?_append_right (by rw [List.length_append, List.length_take]; omega), List.getElem?_drop, ← h6, List.length_append, List.length_take, List.length_take]
          have hcl : cur.toList.length = cur.size := by simp
          rw [Nat.min_eq_left (by omega : n * sz ≤ cur.toList.length), Nat.min_eq_left (by omega : off ≤ n * sz), show off + vs.length + (j - (off + vs.length)) = j by omega, List.getElem?_take_of_lt hj, Array.getElem?_toList]
    · rw [List.getElem?_eq_none (by rw [List.length_take]; omega), List.getElem?_eq_none (by simp only [List.length_append, List.length_take, List.length_drop]; omega)]
theorem own_there {W : World} {base g n cap sz off k : Nat} {e : TypeId} {xs : List Value} (h : W.ownsRow base e sz (.slice (some ⟨g, 0, none⟩) n cap) n xs) (hb : off + k ≤ n * sz) : W.there g off k := fun j hj => by
  rcases h.2 with ⟨q, -⟩ | ⟨g', cap', cur, q, h1, h2, h3, h4, h5, h6⟩
  · cases q
  · cases q
    have hcs : n * sz ≤ cur.size := by rw [h5]; exact Nat.mul_le_mul_right _ h3
    have hB : Blo W g e cur := h2
    refine ⟨?_, hB.frozen _⟩
    rw [hB.cell, Array.getElem?_eq_getElem (by omega)]
    rfl
/-- What else is kept when a row's cells are stored. -/
theorem out_own (W : World) (g off : Nat) (vs : List Value) : Out (fun k => k = g) W (W.setCells g off vs) := out_cells vs off W rfl
theorem flat_set {L : List Bk} {i : Nat} {t s : Bk} (ht : L[i]? = some t) : (flatD L).take (i * 5) ++ flatD [s] ++ (flatD L).drop (i * 5 + (flatD [s]).length) = flatD (L.set i s) := by
  obtain ⟨hi, he⟩ := List.getElem?_eq_some_iff.1 ht
  have e := split_at ht
  have hl : (L.take i).length = i := by rw [List.length_take]; omega
  generalize L.take i = A at *
  generalize L.drop (i + 1) = B at *
  subst e
  subst hl
  rw [List.set_append_right _ _ (Nat.le_refl _), Nat.sub_self, List.set_cons_zero, flatD_app, flatD_app]
  have h1 : (flatD A).length = A.length * 5 := flatD_len A
  have h2 : ∀ x : Bk, flatD (x :: B) = flatD [x] ++ flatD B := fun x => flatD_app [x] B
  rw [h2, h2, List.take_left' h1, List.append_assoc]
  congr 1
  congr 1
  rw [show A.length * 5 + (flatD [s]).length = (flatD A ++ flatD [t]).length by rw [List.length_append, flatD_len, flatD_len, flatD_len]; rfl, ← List.append_assoc, List.drop_left]
end Go.Proofs.Ytdnkeplmjimjcaa
/-
  The closure by which Order sorts.
-/
namespace Go.Proofs.Ytdnkeplmjimjcaa
open Go.RowKit Go.Sort

def cmpI (a b : Int) : Int := if a < b then -1 else if b < a then 1 else 0
section
variable {w w' W : World} {bc bm base b : Nat} {room uses : Int} {N T : Nat} {x : Sx} {L : List Bk}
theorem below_drewN (w : World) (n : Nat) : RowKit.Below w.heap.size w (w.drewN n) := ⟨rfl, rfl, rfl, Nat.le_refl _, fun _ _ => rfl⟩
theorem isnan_any (a : Int) (w : World) : Calls Try.prog 46 #[.int .i64 a] w fun e w' => e = .returned (.bool false) ∧ w' = w := by
  have h : (a != a) = false := by simp
  go_enter Try.func46, Try.ntmps46
  go_wp2_with fail
  go_ret
  exact ⟨rfl, rfl⟩
theorem compare_any (a b : Int) (w : World) : Calls Try.prog 33 #[.int .i64 a, .int .i64 b] w fun e w' => e = .returned (.int .i64 (cmpI a b)) ∧ w' = w := by
  have hn := fun z W => isnan_any z W
  have HN := Lib.hid hn
  clear hn
  unfold cmpI
  by_cases h1 : a < b
  · rw [if_pos h1]
    go_enter Try.func33, Try.ntmps33
    go_wp2_with (go_at_call 46; refine (HN.out _ _).mono ?_; rintro e w' ⟨rfl, rfl⟩)
    go_ret
    exact ⟨rfl, rfl⟩
  · rw [if_neg h1]
    by_cases h2 : b < a
    · rw [if_pos h2]
      have h3 : a > b := h2
      go_enter Try.func33, Try.ntmps33
      go_wp2_with (go_at_call 46; refine (HN.out _ _).mono ?_; rintro e w' ⟨rfl, rfl⟩)
      go_ret
      exact ⟨rfl, rfl⟩
    · rw [if_neg h2]
      have h3 : ¬ a > b := h2
      go_enter Try.func33, Try.ntmps33
      go_wp2_with (go_at_call 46; refine (HN.out _ _).mono ?_; rintro e w' ⟨rfl, rfl⟩)
      go_ret
      exact ⟨rfl, rfl⟩
set_option maxRecDepth 100000 in
set_option maxHeartbeats 4000000 in
theorem less_any (hC : CS w bc bm base room N T x) {g : Nat} (hbox : Blo w g PC #[.pointer (some ⟨bc, 0, none⟩)]) {b c : Nat} (hb : b ∈ x.bs) (hc : c ∈ x.bs) :
    Calls Try.prog 32 #[.agg #[.int .i64 (x.S b).ino, .int .i64 (x.S b).lbn], .agg #[.int .i64 (x.S c).ino, .int .i64 (x.S c).lbn], .pointer (some ⟨g, 0, none⟩)] w fun e w' => e = .returned (.int .i64 (cmpI (x.S b).used (x.S c).used)) ∧ ∃ q os', w' = grow (w.drewN q) os' := by
  obtain ⟨w1, hw1⟩ : ∃ w1, w1 = (w.alloc (.cells #[.int .i64 (x.S b).ino, .int .i64 (x.S b).lbn] KT)).alloc (.cells #[.int .i64 (x.S c).ino, .int .i64 (x.S c).lbn] KT) := ⟨_, rfl⟩
  have hb1 : Below w.heap.size w w1 := by rw [hw1]; exact (sup_pc9 w _).alloc (by simp) _
  have hX : Blo w1 w.heap.size KT #[.int .i64 (x.S b).ino, .int .i64 (x.S b).lbn] := by rw [hw1]; exact (blo_laid w _ _).alloc _
  have hY : Blo w1 (w.heap.size + 1) KT #[.int .i64 (x.S c).ino, .int .i64 (x.S c).lbn] := by
    rw [hw1]
    have := blo_laid (w.alloc (.cells #[.int .i64 (x.S b).ino, .int .i64 (x.S b).lbn] KT)) KT #[.int .i64 (x.S c).ino, .int .i64 (x.S c).lbn]
    rw [show (w.alloc (.cells #[.int .i64 (x.S b).ino, .int .i64 (x.S b).lbn] KT)).heap.size = w.heap.size + 1 by simp] at this
    exact this
  have hG : ∃ os, w1 = grow w os := by
    rw [hw1, alloc_eq_grow, alloc_eq_grow, grow_grow]
    exact ⟨_, rfl⟩
  have hC1 := hC.later hb1
  obtain ⟨aB, hBb⟩ := hC1.buf hb
  obtain ⟨aC, hBc⟩ := hC1.buf hc
  have hfb := (hC.ps.key _ b).2 ⟨hb, rfl⟩
  have hfc := (hC.ps.key _ c).2 ⟨hc, rfl⟩
  have d0 := (hbox.later hb1).cell 0
  obtain ⟨-, d1, -, -⟩ := hC1.cb.cell
  obtain ⟨-, -, -, -, u1, -⟩ := hBb.cells
  obtain ⟨-, -, -, -, u2, -⟩ := hBc.cells
  have c0 : ∀ n, (w1.drewN n).cell? ⟨g, 0, none⟩ = some (.pointer (some ⟨bc, 0, none⟩)) := fun n => d0
  have c1 : ∀ n, (w1.drewN n).cell? ⟨bc, 1, none⟩ = some (.map (some bm)) := fun n => d1
  have c2 : ∀ n, (w1.drewN n).cell? ⟨w.heap.size, 0, none⟩ = some (.int .i64 (x.S b).ino) := fun n => hX.cell 0
  have c3 : ∀ n, (w1.drewN n).cell? ⟨w.heap.size, 1, none⟩ = some (.int .i64 (x.S b).lbn) := fun n => hX.cell 1
  have c4 : ∀ n, (w1.drewN n).cell? ⟨w.heap.size + 1, 0, none⟩ = some (.int .i64 (x.S c).ino) := fun n => hY.cell 0
  have c5 : ∀ n, (w1.drewN n).cell? ⟨w.heap.size + 1, 1, none⟩ = some (.int .i64 (x.S c).lbn) := fun n => hY.cell 1
  have c6 : ∀ n, (w1.drewN n).cell? ⟨b, 68, none⟩ = some (.int .i64 (x.S b).used) := fun n => u1
  have c7 : ∀ n, (w1.drewN n).cell? ⟨c, 68, none⟩ = some (.int .i64 (x.S c).used) := fun n => u2
  have k1 : ∀ n, (Instr.lookup KMT (.map (some bm)) (.agg #[.int .i64 (x.S b).ino, .int .i64 (x.S b).lbn]) false).run Try.prog (w1.drewN n) = .ok (.pointer (some ⟨b, 0, none⟩)) (w1.drewN n) := fun n => by
    have := (hC1.km.later (below_drewN w1 n)).look (hC.ps.wf b hb)
    rw [hfb] at this
    exact this
  have k2 : ∀ n, (Instr.lookup KMT (.map (some bm)) (.agg #[.int .i64 (x.S c).ino, .int .i64 (x.S c).lbn]) false).run Try.prog (w1.drewN n) = .ok (.pointer (some ⟨c, 0, none⟩)) (w1.drewN n) := fun n => by
    have := (hC1.km.later (below_drewN w1 n)).look (hC.ps.wf c hc)
    rw [hfc] at this
    exact this
  have HCm : Hid (∀ n, Calls Try.prog 33 #[.int .i64 (x.S b).used, .int .i64 (x.S c).used] (w1.drewN n) fun e w' => e = .returned (.int .i64 (cmpI (x.S b).used (x.S c).used)) ∧ w' = w1.drewN n) := fun n => compare_any _ _ _
  clear hC hbox hb hc hX hY hC1 hBb hBc hfb hfc d0 d1 u1 u2 hb1
  generalize cmpI (x.S b).used (x.S c).used = r at *
  generalize (x.S b).used = ub at *
  generalize (x.S c).used = uc at *
  generalize (x.S b).ino = bi at *
  generalize (x.S b).lbn = bl at *
  generalize (x.S c).ino = ci at *
  generalize (x.S c).lbn = cl at *
  go_enter Try.func32, Try.ntmps32
  go_upto_region 1 with (fail)
  rw [← hw1]
  clear hw1
  go_quiet ((go_at_call 33; exact Calls.quiet_of_same (HCm.out _)))
  clear c0 c1 c2 c3 c4 c5 c6 c7 k1 k2 HCm
  go_wp2_with fail
  go_ret
  obtain ⟨os, rfl⟩ := hG
  exact ⟨rfl, _, os, rfl⟩
end
end Go.Proofs.Ytdnkeplmjimjcaa
