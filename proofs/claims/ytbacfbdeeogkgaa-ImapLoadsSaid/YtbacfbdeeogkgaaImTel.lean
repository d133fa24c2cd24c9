/-
  All that the two inode maps tell, held against each other: the inodes one by one.
-/
import Derived.Test.YtbacfbdeeogkgaaImDocQ
import Derived.Test.YtbacfbdeeogkgaaImGet
import Derived.Test.YtbacfbdeeogkgaaImBlk
import Derived.Test.YtbacfbdeeogkgaaLaterInv
import Derived.Test.YtbacfbdeeogkgaaImDirty
namespace Go.Proofs.Ytbacfbdeeogkgaa
open Go.RowKit Go.Maps

/-- What the program's Blocks answered. -/
def PB (w2 : World) (A V : Nat → Int) (n q : Nat) : ObjL := fun v W => ∃ W0 : World, v = .slice (some ⟨W0.heap.size, 0, none⟩) q q ∧ w2.heap.size ≤ W0.heap.size ∧ BlS W0 W0.heap.size q A V n q W
/-- What the document's Blocks answered. -/
def PS (w2 : World) (A V : Nat → Int) (n q : Nat) : ObjL := fun v W => ∃ (a : Option Addr) (c : Nat), v = .slice a q c ∧ W.ownsRow w2.heap.size STR 1 (.slice a q c) q (cellsK A V n q)
theorem later_pb (w2 : World) (A V : Nat → Int) (n q : Nat) : LaterP (PB w2 A V n q) := fun _ _ _ hb ⟨W0, h1, h2, h3⟩ => ⟨W0, h1, h2, h3.later hb⟩
theorem later_ps (w2 : World) (A V : Nat → Int) (n q : Nat) : LaterP (PS w2 A V n q) := fun _ _ _ hb ⟨a, c, h1, h2⟩ => ⟨a, c, h1, own_later h2 hb⟩
structure L2S (w : World) (b q : Nat) (A V : Nat → Int) (n : Nat) (G C : Nat → Nat) (sv : Value) (i : Nat) (W : World) : Prop where
  row : ∃ cs, Blo W b SLB cs ∧ ∀ j, j < q → cs[j]? = some (.slice (some ⟨G j, 0, none⟩) 64 (C j))
  own : ∀ j, i ≤ j → j < q → W.ownsRow w.heap.size U8 1 (.slice (some ⟨G j, 0, none⟩) 64 (C j)) 64 (cellsB (encJ A V n j))
  str : W.ownsRow w.heap.size STR 1 sv q (cellsK A V n q)
  bel : Below w.heap.size w W
theorem L2S.later {w W W' : World} {b q n i : Nat} {A V : Nat → Int} {G C : Nat → Nat} {sv : Value} (h : L2S w b q A V n G C sv i W) (hb : Below W.heap.size W W') : L2S w b q A V n G C sv i W' := by
  obtain ⟨⟨cs, h1, h2⟩, h3, h4, h5⟩ := h
  exact ⟨⟨cs, h1.later hb, h2⟩, fun j a b => own_later (h3 j a b) hb, own_later h4 hb, h5.trans (hb.mono h5.size)⟩
def L2R (w : World) (b q : Nat) (A V : Nat → Int) (n : Nat) (G C : Nat → Nat) (sv : Value) (t : Value) (W : World) : Prop := ∃ i : Nat, i ≤ q ∧ t = .int .i64 i ∧ L2S w b q A V n G C sv i W
theorem str_cell {w : World} {base : Nat} {A V : Nat → Int} {n q c i : Nat} {a : Option Addr} (h : w.ownsRow base STR 1 (.slice a q c) q (cellsK A V n q)) (hi : i < q) : ∃ b, a = some ⟨b, 0, none⟩ ∧ w.cell? ⟨b, i, none⟩ = some (.string (txtK A V n i)) := by
  rcases id h.2 with ⟨h1, h0⟩ | ⟨g, cc, cur, h1, _⟩
  · omega
  · cases h1
    refine ⟨g, rfl, ?_⟩
    rw [h.cellAt i (by omega)]
    unfold cellsK
    rw [List.getElem?_map, List.getElem?_range hi]
    rfl
def L3R (w : World) (b q : Nat) (A V : Nat → Int) (n : Nat) (G C : Nat → Nat) (sv : Value) (i : Nat) (t : Value) (W : World) : Prop :=
  ∃ (k : Nat) (ys : List Nat), k ≤ 64 ∧ t = .int .i64 k ∧ W.ownsRow w.heap.size U8 1 (.slice (some ⟨G i, 0, none⟩) 64 (C i)) 64 (cellsB ys) ∧ (∀ y ∈ ys, y < 256) ∧ L2S w b q A V n G C sv (i + 1) W
theorem l3_step {w W : World} {b q n i k : Nat} {A V : Nat → Int} {G C : Nat → Nat} {sb sc : Nat} {ys : List Nat} (hk : k < 64) (hG : (∀ j, j < q → b < G j) ∧ (∀ j' j, j' < j → j < q → G j' < G j) ∧ w.heap.size ≤ b) (hi : i < q)
    (ho : W.ownsRow w.heap.size U8 1 (.slice (some ⟨G i, 0, none⟩) 64 (C i)) 64 (cellsB ys)) (hy : ∀ y ∈ ys, y < 256) (hs : L2S w b q A V n G C (.slice (some ⟨sb, 0, none⟩) q sc) (i + 1) W) (y : Nat) :
    L3R w b q A V n G C (.slice (some ⟨sb, 0, none⟩) q sc) i (.int .i64 ((k : Int) + 1)) (W.setCell ⟨G i, k, none⟩ (.int .u8 (((y : Int) + 1) % 256))) := by
  have e : (Value.int .u8 (((y : Int) + 1) % 256)) = .int .u8 (((y + 1) % 256 : Nat) : Int) := rfl
  rw [e]
  have hst := (ho.stored k (.int .u8 (((y + 1) % 256 : Nat) : Int))).1
  obtain ⟨⟨cs, h1, h2⟩, h3, h4, h5⟩ := hs
  have hbi := hG.1 i hi
  have hne : some (G i) ≠ (Value.slice (some ⟨sb, 0, none⟩) q sc).ownBlock := fun e2 => by
    have e3 : sb = G i := by simp [Value.ownBlock] at e2; exact e2.symm
    rcases ho.2 with ⟨x, _⟩ | ⟨g1, c1, cur1, x1, _, y1, _⟩
    · cases x
    · rcases h4.2 with ⟨x, _⟩ | ⟨g2, c2, cur2, x2, _, y2, _⟩
      · cases x
      · cases x1
        cases x2
        rw [e3, y1] at y2
        cases y2
  refine ⟨k + 1, ys.set k ((y + 1) % 256), hk, by simp, ?_, fun z hz => ?_, ⟨cs, h1.far (p := ⟨G i, k, none⟩) (by show b ≠ G i; omega) _, h2⟩, fun j ha hb => own_far (h3 j ha hb) (fun e2 => ?_) _, own_far h4 hne _, h5.setCell (p := ⟨G i, k, none⟩) (by show w.heap.size ≤ G i; omega) _⟩
  · have e4 : (cellsB ys).set k (.int .u8 (((y + 1) % 256 : Nat) : Int)) = cellsB (ys.set k ((y + 1) % 256)) := by simp [cellsB, List.map_set]
    rw [← e4]; exact hst
  · rcases List.mem_or_eq_of_mem_set hz with h | h
    · exact hy z h
    · rw [h]; exact Nat.mod_lt _ (by decide)
  · have := hG.2.1 i j (by omega) hb
    simp [Value.ownBlock] at e2
    omega
structure TlS (w : World) (bm gs gd g n : Nat) (A V : Nat → Int) (B : Nat → Bool) (W : World) : Prop where
  im : Im W bm gs gd n 0 A V B
  rq : RqS w g n A V B (fun _ => false) W
theorem TlS.later {w W W' : World} {bm gs gd g n : Nat} {A V : Nat → Int} {B : Nat → Bool} (h : TlS w bm gs gd g n A V B W) (hb : Below W.heap.size W W') : TlS w bm gs gd g n A V B W' := ⟨h.im.later hb, h.rq.later hb⟩
def TlR (w : World) (bm gs gd g n : Nat) (A V : Nat → Int) (B : Nat → Bool) (t : Value) (W : World) : Prop := ∃ z : Int, -1 ≤ z ∧ z ≤ (n : Int) + 2 ∧ t = .int .i64 z ∧ TlS w bm gs gd g n A V B W
set_option maxRecDepth 100000 in
set_option maxHeartbeats 8000000 in
theorem tells_any (bm gs gd g n : Nat) (A V : Nat → Int) (B : Nat → Bool) (w : World) (h4 : 4 ≤ n) (hn : n ≤ 200) (h : Im w bm gs gd n 0 A V B) (hr : Rm w g n A V B (fun _ => false)) (hg : ∀ i, i < n → GoodM (A i) (V i)) (h0 : B 0 = false) :
    Calls Try.prog 10 #[.pointer (some ⟨bm, 0, none⟩), rmv g n] w fun e w' => e = .returned (.bool true) ∧ Below w.heap.size w w' := by
  have HS0 : Hid (TlR w bm gs gd g n A V B (.int .i64 (-1)) (w.alloc (.cells #[.slice (some ⟨g, 0, none⟩) n n] RMP))) := ⟨-1, by omega, by omega, rfl, h.later (sup_im w _), RqS.start hr⟩
  have HN := Lib.hid hn
  have H4 := Lib.hid h4
  have HGl : Hid (g < w.heap.size) := hr.lt
  have HGd := Lib.hid hg
  have HB0 := Lib.hid h0
  clear h4 hn h hr hg h0
  go_enter Try.func10, Try.ntmps10
  go_wp2_with fail
  go_loopw [5] (fun t wr => TlR w bm gs gd g n A V B t wr) (fun t _ => ((n : Int) + 3 - intOf t).toNat)
  case atStart => exact HS0.out
  case round =>
    clear HS0
    obtain ⟨z, hz0, hz1, rfl, hs⟩ := hrel
    have HS := Lib.hid hs
    have b0 : World.cell? _ ⟨w.heap.size, 0, none⟩ = some (.slice (some ⟨g, 0, none⟩) n n) := (hs.rq.bx.cell 0).trans rfl
    have n200 : (n : Int) ≤ 200 := by have := HN.out; omega
    have n4 : 4 ≤ (n : Int) := by have := H4.out; omega
    clear hs
    by_cases hlt : z ≤ (n : Int) + 1
    · by_cases hin : 2 ≤ z ∧ z ≤ (n : Int)
      · obtain ⟨i, rfl⟩ : ∃ i : Nat, z = (i : Int) + 1 := ⟨(z - 1).toNat, by omega⟩
        have hi1 : 1 ≤ i := by omega
        have hin2 : i < n := by omega
        have HGt := Lib.hid (get_yes HS.out.im hin2 hi1 HN.out)
        have HIn := Lib.hid hin2
        have j0 : (1 : Int) ≤ (i : Int) := by omega
        have j1 : (i : Int) < (n : Int) := by omega
        have j2 : (2 : Int) ≤ (i : Int) + 1 := by omega
        have j3 : (i : Int) + 1 ≤ (n : Int) := by omega
        have j4 : (i : Int) ≤ (n : Int) := by omega
        clear hz0 hz1 hlt hin hi1 hin2
        go_wp2_with fail
        refine HGt.out.mono ?_
        rintro e w1 ⟨rfl, hb1⟩
        have HSw := Lib.hid (HS.out.later hb1)
        have HS1 := Lib.hid ((HS.out.later hb1).later (sup_im w1 (.cells #[.int .i64 0, .int .i64 0, .bool false, .bool false] RIN)))
        clear hb1 HS HGt b0
        have b1 : World.cell? _ ⟨w.heap.size, 0, none⟩ = some (.slice (some ⟨g, 0, none⟩) n n) := (HS1.out.rq.bx.cell 0).trans rfl
        obtain ⟨c0, c1, c2, c3⟩ := HS1.out.rq.rm.cell HIn.out
        generalize A i = ai at *
        generalize V i = vi at *
        generalize B i = bi at *
        go_wp2_with fail
        refine ⟨⟨(i : Int) + 1 + 1, by omega, by omega, rfl, HSw.out.later (sup_im w1 _)⟩, ?_⟩
        simp [intOf]; omega
      · have hout : z < 2 ∨ (n : Int) < z := by omega
        have HGt := Lib.hid (get_no z HS.out.im hout)
        have hguard : z < 2 ∨ (2 ≤ z ∧ ¬ z ≤ (n : Int)) := by omega
        have hz9 : z < 1000 := by omega
        clear hin hout
        rcases hguard with q1 | ⟨q1, q2⟩
        · have q0 : ¬ 2 ≤ z := by omega
          go_wp2_with fail
          refine HGt.out.mono ?_
          rintro e w1 ⟨rfl, rfl⟩
          have HS1 := Lib.hid (HS.out.later (sup_im wr (.cells #[.int .i64 0, .int .i64 0, .bool false, .bool false] RIN)))
          clear HS HGt b0
          have b1 : World.cell? _ ⟨w.heap.size, 0, none⟩ = some (.slice (some ⟨g, 0, none⟩) n n) := (HS1.out.rq.bx.cell 0).trans rfl
          go_wp2_with fail
          refine ⟨⟨z + 1, by omega, by omega, rfl, HS1.out⟩, ?_⟩
          simp [intOf]; omega
        · go_wp2_with fail
          refine HGt.out.mono ?_
          rintro e w1 ⟨rfl, rfl⟩
          have HS1 := Lib.hid (HS.out.later (sup_im wr (.cells #[.int .i64 0, .int .i64 0, .bool false, .bool false] RIN)))
          clear HS HGt b0
          have b1 : World.cell? _ ⟨w.heap.size, 0, none⟩ = some (.slice (some ⟨g, 0, none⟩) n n) := (HS1.out.rq.bx.cell 0).trans rfl
          go_wp2_with fail
          refine ⟨⟨z + 1, by omega, by omega, rfl, HS1.out⟩, ?_⟩
          simp [intOf]; omega
    · have q1 : ¬ z ≤ (n : Int) + 1 := hlt
      clear hlt
      go_upto_region 10 with fail
      obtain ⟨RL, hRL⟩ : ∃ RL : List (Nat × ObjT), RL = [(1, ⟨rowP wr.heap.size 3 1 (lstI B n).length (cellsI (lstI B n)), 0, 0⟩), (3, ⟨rowP wr.heap.size 3 1 (lstI B n).length (cellsI (lstI B n)), 1, 0⟩)] := ⟨_, rfl⟩
      obtain ⟨TL, hTL⟩ : ∃ TL : List (Nat × Value), TL = [(0, .pointer (some ⟨bm, 0, none⟩)), (2, rmv g n), (4, .bool true), (5, .bool false), (6, .bool false), (7, .pointer (some ⟨bm, 0, none⟩)), (8, .int .i64 ((lstI (canB V B) n).length : Nat)), (9, rmv g n), (10, .int .i64 ((lstI (canB V B) n).length : Nat)), (11, .bool false), (12, .bool false), (13, .bool false), (14, .pointer (some ⟨bm, 0, none⟩)), (15, .slice none 0 0), (16, rmv g n), (17, .slice none 0 0), (18, .bool true), (19, .bool false), (20, .bool false)] := ⟨_, rfl⟩
      obtain ⟨CL, hCL⟩ : ∃ CL : List (Nat × Nat), CL = [] := ⟨_, rfl⟩
      have hKB : keysO RL := by rw [hRL]; exact keysO_of (by rfl)
      have hSB : stabs RL := by intro x hx; simp [hRL] at hx; rcases hx with rfl | rfl <;> exact stab_row _ _ _ _ _
      refine wp_region_inv (n := 21) [(0, 61), (1, 62), (2, 63), (3, 64), (4, 65), (5, 66), (6, 67), (7, 68), (8, 69), (9, 70), (10, 71), (11, 72), (12, 73), (13, 74), (14, 75), (15, 76), (16, 77), (17, 78), (18, 79), (19, 80), (20, 81)] (GI RL TL CL wr) (by kernel_rfl) (by kernel_rfl) (by kernel_rfl) (fun X => by simp only [putL, Act.put, List.setIfInBounds_toArray, List.set_cons_zero, List.set_cons_succ]; rfl) (fun X => GI.start (Below.refl _ _).drew) ?_ ?_
      · show StepsI _ _ _ _ _ 0 [_, _, _, _, _, _, _, _, _, _, _, _, _, _, _, _, _, _, _, _, _]
        refine ⟨fun D X W hD hd hI K hK => ?_, ?_⟩
        · exact stepO_run (v := .pointer (some ⟨bm, 0, none⟩)) (w' := W) (by simp [Region.wanted]) (by simp [go_sem, execOp]) (hK _ _ (hI.tell hSB 0 _ (Below.refl _ _) (by simp [hRL]) (by simp [hTL]) (by simp [hCL])))
        refine ⟨fun D X W hD hd hI K hK => ?_, ?_⟩
        · have a0 := hI.dt (0, .pointer (some ⟨bm, 0, none⟩)) (by simp [hTL]) (hd ⟨0, .data⟩ (by simp) rfl)
          have hT := HS.out.later hI.b
          refine stepO_call (f := 17) (args := #[.pointer (some ⟨bm, 0, none⟩)]) (by simp [Region.wanted]) (by simp [go_sem, execOp, a0]) (busy_any hT.im (by have := H4.out; omega) HN.out) (fun e W' ⟨xa, xc, he, ho, hb⟩ => ⟨_, he, hK _ _ ?_⟩)
          exact hI.fresh hKB hSB 1 _ ⟨rowP wr.heap.size 3 1 (lstI B n).length (cellsI (lstI B n)), 0, 0⟩ (by simp [hRL]) hb (by intro k hk; rw [← blk_own ho] at hk; exact ho.lt k hk) (by intro y hy e1 e2; simp [hRL] at hy; rcases hy with rfl | rfl <;> first | (exfalso; simp at e1; done) | (exfalso; simp at e2; done) | fail) (own_base ho hI.b.size) (by simp [hTL]) (by simp [hCL])
        refine ⟨fun D X W hD hd hI K hK => ?_, ?_⟩
        · have bW : W.cell? ⟨w.heap.size, 0, none⟩ = some (.slice (some ⟨g, 0, none⟩) n n) := cell_later hI.b b0
          exact stepO_run (v := rmv g n) (w' := W) (by simp [Region.wanted]) (by simp [go_sem, execOp, bW]) (hK _ _ (hI.tell hSB 2 _ (Below.refl _ _) (by simp [hRL]) (by simp [hTL]) (by simp [hCL])))
        refine ⟨fun D X W hD hd hI K hK => ?_, ?_⟩
        · have a2 := hI.dt (2, rmv g n) (by simp [hTL]) (hd ⟨2, .data⟩ (by simp) rfl)
          have hT := HS.out.later hI.b
          refine stepO_call (f := 26) (args := #[rmv g n]) (by simp [Region.wanted]) (by simp [go_sem, execOp, a2]) (rbusy_any hT.rq.rm HN.out HB0.out) (fun e W' ⟨xa, xc, he, ho, hb⟩ => ⟨_, he, hK _ _ ?_⟩)
          exact hI.fresh hKB hSB 3 _ ⟨rowP wr.heap.size 3 1 (lstI B n).length (cellsI (lstI B n)), 1, 0⟩ (by simp [hRL]) hb (by intro k hk; rw [← blk_own ho] at hk; exact ho.lt k hk) (by intro y hy e1 e2; simp [hRL] at hy; rcases hy with rfl | rfl <;> first | (exfalso; simp at e1; done) | (exfalso; simp at e2; done) | fail) (own_base ho hI.b.size) (by simp [hTL]) (by simp [hCL])
        refine ⟨fun D X W hD hd hI K hK => ?_, ?_⟩
        · have r1 := hI.rows (1, ⟨rowP wr.heap.size 3 1 (lstI B n).length (cellsI (lstI B n)), 0, 0⟩) (by simp [hRL]) (hd ⟨1, .data⟩ (by simp) rfl) (by intro y hy e1 e2; simp [hRL] at hy; rcases hy with rfl | rfl <;> first | (exfalso; simp at e1; done) | (exfalso; simp at e2; done) | fail)
          have r3 := hI.rows (3, ⟨rowP wr.heap.size 3 1 (lstI B n).length (cellsI (lstI B n)), 1, 0⟩) (by simp [hRL]) (hd ⟨3, .data⟩ (by simp) rfl) (by intro y hy e1 e2; simp [hRL] at hy; rcases hy with rfl | rfl <;> first | (exfalso; simp at e1; done) | (exfalso; simp at e2; done) | fail)
          obtain ⟨xa, xc, hx, _⟩ := own_slice r1
          obtain ⟨ya, yc, hy, _⟩ := own_slice r3
          have hx2 : X 1 = _ := hx
          have hy2 : X 3 = _ := hy
          have rx : W.ownsRow _ _ 1 (.slice xa _ xc) _ _ := hx ▸ r1
          have ry : W.ownsRow _ _ 1 (.slice ya _ yc) _ _ := hy ▸ r3
          have hc := ints_same (lstI B n) (lstI B n) xa ya (lstI B n).length xc yc W rfl rfl (by have := lstI_len B n; have := HN.out; omega) (Ints.own rx) (Ints.own ry)
          refine stepO_call (f := 25) (args := #[.slice xa (lstI B n).length xc, .slice ya (lstI B n).length yc]) (by simp [Region.wanted]) (by simp [go_sem, execOp, hx2, hy2]) hc (fun e W' ⟨he, hb⟩ => ⟨.bool true, by rw [he]; simp, hK _ _ ?_⟩)
          exact hI.tell hSB 4 _ hb (by simp [hRL]) (by simp [hTL]) (by simp [hCL])
        refine ⟨fun D X W hD hd hI K hK => ?_, ?_⟩
        · have a4 := hI.dt (4, .bool true) (by simp [hTL]) (hd ⟨4, .data⟩ (by simp) rfl)
          exact stepO_run (v := .bool false) (w' := W) (by simp [Region.wanted]) (by simp [go_sem, execOp, a4]) (hK _ _ (hI.tell hSB 5 _ (Below.refl _ _) (by simp [hRL]) (by simp [hTL]) (by simp [hCL])))
        refine ⟨fun D X W hD hd hI K hK => ?_, ?_⟩
        · have a4 := hI.dt (4, .bool true) (by simp [hTL]) (hd ⟨4, .chain⟩ (by simp) rfl)
          have a5 := hI.dt (5, .bool false) (by simp [hTL]) (hd ⟨5, .data⟩ (by simp) rfl)
          exact stepO_run (v := .bool false) (w' := W) (by simp [Region.wanted]) (by simp [go_sem, execOp, a4, a5]) (hK _ _ (hI.tell hSB 6 _ (Below.refl _ _) (by simp [hRL]) (by simp [hTL]) (by simp [hCL])))
        refine ⟨fun D X W hD hd hI K hK => ?_, ?_⟩
        · have a6 := hI.dt (6, .bool false) (by simp [hTL]) (hd ⟨6, .guard⟩ (by simp) rfl)
          exact stepO_run (v := .pointer (some ⟨bm, 0, none⟩)) (w' := W) (by simp [Region.wanted, yielded, a6]) (by simp [go_sem, execOp, a6]) (hK _ _ (hI.tell hSB 7 _ (Below.refl _ _) (by simp [hRL]) (by simp [hTL]) (by simp [hCL])))
        refine ⟨fun D X W hD hd hI K hK => ?_, ?_⟩
        · have a6 := hI.dt (6, .bool false) (by simp [hTL]) (hd ⟨6, .chain⟩ (by simp) rfl)
          have a7 := hI.dt (7, .pointer (some ⟨bm, 0, none⟩)) (by simp [hTL]) (hd ⟨7, .data⟩ (by simp) rfl)
          have hT := HS.out.later hI.b
          refine stepO_call (f := 13) (args := #[.pointer (some ⟨bm, 0, none⟩)]) (by simp [Region.wanted, yielded, a6]) (by simp [go_sem, execOp, a6, a7]) (room_any hT.im (by have := H4.out; omega) HN.out) (fun e W' ⟨he, hb⟩ => ⟨_, he, hK _ _ ?_⟩)
          exact hI.tell hSB 8 _ hb (by simp [hRL]) (by simp [hTL]) (by simp [hCL])
        refine ⟨fun D X W hD hd hI K hK => ?_, ?_⟩
        · have a6 := hI.dt (6, .bool false) (by simp [hTL]) (hd ⟨6, .guard⟩ (by simp) rfl)
          have bW : W.cell? ⟨w.heap.size, 0, none⟩ = some (.slice (some ⟨g, 0, none⟩) n n) := cell_later hI.b b0
          exact stepO_run (v := rmv g n) (w' := W) (by simp [Region.wanted, yielded, a6]) (by simp [go_sem, execOp, a6, bW]) (hK _ _ (hI.tell hSB 9 _ (Below.refl _ _) (by simp [hRL]) (by simp [hTL]) (by simp [hCL])))
        refine ⟨fun D X W hD hd hI K hK => ?_, ?_⟩
        · have a6 := hI.dt (6, .bool false) (by simp [hTL]) (hd ⟨6, .guard⟩ (by simp) rfl)
          have a8 := hI.dt (8, .int .i64 ((lstI (canB V B) n).length : Nat)) (by simp [hTL]) (hd ⟨8, .chain⟩ (by simp) rfl)
          have a9 := hI.dt (9, rmv g n) (by simp [hTL]) (hd ⟨9, .data⟩ (by simp) rfl)
          have hT := HS.out.later hI.b
          refine stepO_call (f := 27) (args := #[rmv g n]) (by simp [Region.wanted, yielded, a6]) (by simp [go_sem, execOp, a6, a8, a9]) (rroom_any hT.rq.rm (by have := H4.out; omega) HN.out) (fun e W' ⟨he, hb⟩ => ⟨_, he, hK _ _ ?_⟩)
          exact hI.tell hSB 10 _ hb (by simp [hRL]) (by simp [hTL]) (by simp [hCL])
        refine ⟨fun D X W hD hd hI K hK => ?_, ?_⟩
        · have a6 := hI.dt (6, .bool false) (by simp [hTL]) (hd ⟨6, .guard⟩ (by simp) rfl)
          have a8 := hI.dt (8, .int .i64 ((lstI (canB V B) n).length : Nat)) (by simp [hTL]) (hd ⟨8, .data⟩ (by simp) rfl)
          have a10 := hI.dt (10, .int .i64 ((lstI (canB V B) n).length : Nat)) (by simp [hTL]) (hd ⟨10, .data⟩ (by simp) rfl)
          exact stepO_run (v := .bool false) (w' := W) (by simp [Region.wanted, yielded, a6]) (by simp [go_sem, execOp, a6, a8, a10]) (hK _ _ (hI.tell hSB 11 _ (Below.refl _ _) (by simp [hRL]) (by simp [hTL]) (by simp [hCL])))
        refine ⟨fun D X W hD hd hI K hK => ?_, ?_⟩
        · have a6 := hI.dt (6, .bool false) (by simp [hTL]) (hd ⟨6, .data⟩ (by simp) rfl)
          have a11 := hI.dt (11, .bool false) (by simp [hTL]) (hd ⟨11, .data⟩ (by simp) rfl)
          exact stepO_run (v := .bool false) (w' := W) (by simp [Region.wanted]) (by simp [go_sem, execOp, a6, a11]) (hK _ _ (hI.tell hSB 12 _ (Below.refl _ _) (by simp [hRL]) (by simp [hTL]) (by simp [hCL])))
        refine ⟨fun D X W hD hd hI K hK => ?_, ?_⟩
        · have a10 := hI.dt (10, .int .i64 ((lstI (canB V B) n).length : Nat)) (by simp [hTL]) (hd ⟨10, .chain⟩ (by simp) rfl)
          have a12 := hI.dt (12, .bool false) (by simp [hTL]) (hd ⟨12, .data⟩ (by simp) rfl)
          exact stepO_run (v := .bool false) (w' := W) (by simp [Region.wanted]) (by simp [go_sem, execOp, a10, a12]) (hK _ _ (hI.tell hSB 13 _ (Below.refl _ _) (by simp [hRL]) (by simp [hTL]) (by simp [hCL])))
        refine ⟨fun D X W hD hd hI K hK => ?_, ?_⟩
        · have a13 := hI.dt (13, .bool false) (by simp [hTL]) (hd ⟨13, .guard⟩ (by simp) rfl)
          exact stepO_run (v := .pointer (some ⟨bm, 0, none⟩)) (w' := W) (by simp [Region.wanted, yielded, a13]) (by simp [go_sem, execOp, a13]) (hK _ _ (hI.tell hSB 14 _ (Below.refl _ _) (by simp [hRL]) (by simp [hTL]) (by simp [hCL])))
        refine ⟨fun D X W hD hd hI K hK => ?_, ?_⟩
        · have a13 := hI.dt (13, .bool false) (by simp [hTL]) (hd ⟨13, .chain⟩ (by simp) rfl)
          have a14 := hI.dt (14, .pointer (some ⟨bm, 0, none⟩)) (by simp [hTL]) (hd ⟨14, .data⟩ (by simp) rfl)
          have hT := HS.out.later hI.b
          refine stepO_call (f := 28) (args := #[.pointer (some ⟨bm, 0, none⟩)]) (by simp [Region.wanted, yielded, a13]) (by simp [go_sem, execOp, a13, a14]) (dirty_no hT.im) (fun e W' ⟨he, hb⟩ => ⟨_, he, hK _ _ ?_⟩)
          exact hI.tell hSB 15 _ hb (by simp [hRL]) (by simp [hTL]) (by simp [hCL])
        refine ⟨fun D X W hD hd hI K hK => ?_, ?_⟩
        · have a13 := hI.dt (13, .bool false) (by simp [hTL]) (hd ⟨13, .guard⟩ (by simp) rfl)
          have bW : W.cell? ⟨w.heap.size, 0, none⟩ = some (.slice (some ⟨g, 0, none⟩) n n) := cell_later hI.b b0
          exact stepO_run (v := rmv g n) (w' := W) (by simp [Region.wanted, yielded, a13]) (by simp [go_sem, execOp, a13, bW]) (hK _ _ (hI.tell hSB 16 _ (Below.refl _ _) (by simp [hRL]) (by simp [hTL]) (by simp [hCL])))
        refine ⟨fun D X W hD hd hI K hK => ?_, ?_⟩
        · have a13 := hI.dt (13, .bool false) (by simp [hTL]) (hd ⟨13, .guard⟩ (by simp) rfl)
          have a15 := hI.dt (15, .slice none 0 0) (by simp [hTL]) (hd ⟨15, .chain⟩ (by simp) rfl)
          have a16 := hI.dt (16, rmv g n) (by simp [hTL]) (hd ⟨16, .data⟩ (by simp) rfl)
          have hT := HS.out.later hI.b
          refine stepO_call (f := 29) (args := #[rmv g n]) (by simp [Region.wanted, yielded, a13]) (by simp [go_sem, execOp, a13, a15, a16]) (rdirty_no hT.rq.rm HN.out) (fun e W' ⟨he, hb⟩ => ⟨_, he, hK _ _ ?_⟩)
          exact hI.tell hSB 17 _ hb (by simp [hRL]) (by simp [hTL]) (by simp [hCL])
        refine ⟨fun D X W hD hd hI K hK => ?_, ?_⟩
        · have a13 := hI.dt (13, .bool false) (by simp [hTL]) (hd ⟨13, .guard⟩ (by simp) rfl)
          have a15 := hI.dt (15, .slice none 0 0) (by simp [hTL]) (hd ⟨15, .data⟩ (by simp) rfl)
          have a17 := hI.dt (17, .slice none 0 0) (by simp [hTL]) (hd ⟨17, .data⟩ (by simp) rfl)
          have hc := ints_same [] [] none none 0 0 0 W rfl rfl (by decide) (Ints.nil _ _) (Ints.nil _ _)
          refine stepO_call (f := 25) (args := #[.slice none 0 0, .slice none 0 0]) (by simp [Region.wanted, yielded, a13]) (by simp [go_sem, execOp, a13, a15, a17]) hc (fun e W' ⟨he, hb⟩ => ⟨.bool true, by rw [he]; rfl, hK _ _ ?_⟩)
          exact hI.tell hSB 18 _ hb (by simp [hRL]) (by simp [hTL]) (by simp [hCL])
        refine ⟨fun D X W hD hd hI K hK => ?_, ?_⟩
        · have a13 := hI.dt (13, .bool false) (by simp [hTL]) (hd ⟨13, .guard⟩ (by simp) rfl)
          have a18 := hI.dt (18, .bool true) (by simp [hTL]) (hd ⟨18, .data⟩ (by simp) rfl)
          exact stepO_run (v := .bool false) (w' := W) (by simp [Region.wanted, yielded, a13]) (by simp [go_sem, execOp, a13, a18]) (hK _ _ (hI.tell hSB 19 _ (Below.refl _ _) (by simp [hRL]) (by simp [hTL]) (by simp [hCL])))
        refine ⟨fun D X W hD hd hI K hK => ?_, ?_⟩
        · have a13 := hI.dt (13, .bool false) (by simp [hTL]) (hd ⟨13, .data⟩ (by simp) rfl)
          have a19 := hI.dt (19, .bool false) (by simp [hTL]) (hd ⟨19, .data⟩ (by simp) rfl)
          exact stepO_run (v := .bool false) (w' := W) (by simp [Region.wanted]) (by simp [go_sem, execOp, a13, a19]) (hK _ _ (hI.tell hSB 20 _ (Below.refl _ _) (by simp [hRL]) (by simp [hTL]) (by simp [hCL])))
        exact True.intro
      · intro D X W hD hI
        have a20 := hI.dt (20, .bool false) (by simp [hTL]) (hD 20 (by decide))
        have a20b : X 20 = .bool false := a20
        have HS2 := Lib.hid (HS.out.later hI.b)
        clear hI hD a20 hKB hSB hRL hTL hCL HS b0
        rw [a20b]
        simp only [List.drop_succ_cons, List.drop_zero]
        go_upto_region 12 with fail
        generalize W = w2 at *
        obtain ⟨q, hq⟩ : ∃ q, q = (n + 7) / 8 := ⟨_, rfl⟩
        have HQq : Hid ((n + 7) / 8 = q) := hq.symm
        have HQ25 : Hid (q ≤ 25) := by have := HN.out; show q ≤ 25; omega
        clear hq
        have b2 : World.cell? _ ⟨w.heap.size, 0, none⟩ = some (.slice (some ⟨g, 0, none⟩) n n) := (HS2.out.rq.bx.cell 0).trans rfl
        obtain ⟨RL, hRL⟩ : ∃ RL : List (Nat × ObjL), RL = [(1, PB w2 A V n q), (3, PS w2 A V n q), (4, PB w2 A V n q)] := ⟨_, rfl⟩
        obtain ⟨TL, hTL⟩ : ∃ TL : List (Nat × Value), TL = [(0, .pointer (some ⟨bm, 0, none⟩)), (2, rmv g n)] := ⟨_, rfl⟩
        have hKB : keysL RL := by intro x hx y hy e; simp [hRL] at hx hy; rcases hx with rfl | rfl | rfl <;> rcases hy with rfl | rfl | rfl <;> first | rfl | (exfalso; simp at e; done) | fail
        have hLB : ∀ x ∈ RL, LaterP x.2 := by intro x hx; simp [hRL] at hx; rcases hx with rfl | rfl | rfl; exact later_pb _ _ _ _ _; exact later_ps _ _ _ _ _; exact later_pb _ _ _ _ _
        refine wp_region_inv (n := 5) [(0, 82), (1, 83), (2, 84), (3, 85), (4, 10)] (GL RL TL w2) (by kernel_rfl) (by kernel_rfl) (by kernel_rfl) (fun X => by simp only [putL, Act.put, List.setIfInBounds_toArray, List.set_cons_zero, List.set_cons_succ]; rfl) (fun X => GL.start (Below.refl _ _).drew) ?_ ?_
        · show StepsI _ _ _ _ _ 0 [_, _, _, _, _]
          refine ⟨fun D X W hD hd hI K hK => ?_, ?_⟩
          · exact stepO_run (v := .pointer (some ⟨bm, 0, none⟩)) (w' := W) (by simp [Region.wanted]) (by simp [go_sem, execOp]) (hK _ _ (hI.tell hLB 0 _ (Below.refl _ _) (by simp [hRL]) (by simp [hTL])))
          refine ⟨fun D X W hD hd hI K hK => ?_, ?_⟩
          · have a0 := hI.dt (0, .pointer (some ⟨bm, 0, none⟩)) (by simp [hTL]) (hd ⟨0, .data⟩ (by simp) rfl)
            have hT := HS2.out.later hI.b
            refine stepO_call (f := 30) (args := #[.pointer (some ⟨bm, 0, none⟩)]) (by simp [Region.wanted]) (by simp [go_sem, execOp, a0]) (blocks_any bm gs gd n 0 A V B W HN.out hT.im HGd.out) (fun e W' ⟨he, hbm⟩ => ⟨_, he, hK _ _ ?_⟩)
            rw [HQq.out] at hbm ⊢
            exact hI.fresh hKB hLB 1 _ (PB w2 A V n q) (by simp [hRL]) hbm.bl.b ⟨W, rfl, hI.b.size, hbm.bl⟩ (by simp [hTL])
          refine ⟨fun D X W hD hd hI K hK => ?_, ?_⟩
          · have bW : W.cell? ⟨w.heap.size, 0, none⟩ = some (.slice (some ⟨g, 0, none⟩) n n) := cell_later hI.b b2
            exact stepO_run (v := rmv g n) (w' := W) (by simp [Region.wanted]) (by simp [go_sem, execOp, bW]) (hK _ _ (hI.tell hLB 2 _ (Below.refl _ _) (by simp [hRL]) (by simp [hTL])))
          refine ⟨fun D X W hD hd hI K hK => ?_, ?_⟩
          · have a2 := hI.dt (2, rmv g n) (by simp [hTL]) (hd ⟨2, .data⟩ (by simp) rfl)
            have hT := HS2.out.later hI.b
            refine stepO_call (f := 22) (args := #[rmv g n]) (by simp [Region.wanted]) (by simp [go_sem, execOp, a2]) (rblocks_any g n A V B (fun _ => false) W HN.out hT.rq.rm HGd.out) (fun e W' ⟨xa, xc, he, ho, hb⟩ => ⟨_, he, hK _ _ ?_⟩)
            rw [HQq.out] at ho ⊢
            exact hI.fresh hKB hLB 3 _ (PS w2 A V n q) (by simp [hRL]) hb ⟨xa, xc, rfl, own_base ho hI.b.size⟩ (by simp [hTL])
          refine ⟨fun D X W hD hd hI K hK => ?_, ?_⟩
          · have r1 := hI.rows (1, PB w2 A V n q) (by simp [hRL]) (hd ⟨1, .data⟩ (by simp) rfl)
            exact stepO_run (v := X 1) (w' := W) (by simp [Region.wanted]) (by simp [go_sem, execOp]) (hK _ _ (hI.fresh hKB hLB 4 _ (PB w2 A V n q) (by simp [hRL]) (Below.refl _ _) r1 (by simp [hTL])))
          exact True.intro
        · intro D X W hD hI
          obtain ⟨W0, hX1, hle, hbl⟩ := hI.rows (4, PB w2 A V n q) (by simp [hRL]) (hD 4 (by decide))
          obtain ⟨sa, sc, hX3, hst⟩ := hI.rows (3, PS w2 A V n q) (by simp [hRL]) (hD 3 (by decide))
          have hX1b : X 4 = .slice (some ⟨W0.heap.size, 0, none⟩) q q := hX1
          have hX3b : X 3 = .slice sa q sc := hX3
          have hw2 := HS2.out.rq.b
          obtain ⟨⟨cs, hcs, hcq, G, C, hall⟩, hb0, -⟩ := hbl
          have HBw := Lib.hid (hw2.trans (hI.b.mono hw2.size))
          generalize hbb : W0.heap.size = b at *
          have HG : Hid ((∀ j, j < q → b < G j) ∧ (∀ j' j, j' < j → j < q → G j' < G j) ∧ w.heap.size ≤ b) := ⟨fun j hj => (hall j hj).2.1, fun j' j h1 h2 => (hall j h2).2.2.2 j' h1, Nat.le_trans hw2.size (by omega)⟩
          have HL0 : Hid (L2R w b q A V n G C (.slice sa q sc) (.int .i64 0) W) := ⟨0, Nat.zero_le _, rfl, ⟨cs, hcs, fun j hj => (hall j hj).1⟩, fun j _ hj => own_base (hall j hj).2.2.1 (Nat.le_trans hw2.size (by omega)), own_base hst hw2.size, HBw.out⟩
          clear hI hD hX1 hX3 hle hcs hcq hall hb0 hst hKB hLB hRL hTL hbb hw2 HBw HS2 b2
          rw [hX1b, hX3b]
          simp only [List.drop_succ_cons, List.drop_zero]
          clear hX1b hX3b
          go_wp2_with fail
          go_loopw [93] (fun t wr => L2R w b q A V n G C (.slice sa q sc) t wr) (fun t _ => q - (intOf t).toNat)
          case atStart => exact HL0.out
          case round =>
            clear HL0
            obtain ⟨i, hi, rfl, hs⟩ := hrel
            have HS := Lib.hid hs
            have HIi := Lib.hid hi
            have i0 : (0 : Int) ≤ (i : Int) := by omega
            have q25 : (q : Int) ≤ 25 := by have := HQ25.out; omega
            clear hs hi
            by_cases hlt : i < q
            · have i1 : (i : Int) < (q : Int) := by omega
              have HIq := Lib.hid hlt
              obtain ⟨cs1, hr1, hr2⟩ := HS.out.row
              have hown := HS.out.own i (Nat.le_refl _) hlt
              obtain ⟨a', cap', hva, -, hby, -⟩ := Bytes.own hown (encK_byte _ _ 8)
              cases hva
              obtain ⟨sb, hsb, hsc⟩ := str_cell HS.out.str hlt
              subst hsb
              have k1 : ∀ x : Kept wr, x.at_.cell? ⟨b, i, none⟩ = some (.slice (some ⟨G i, 0, none⟩) 64 (C i)) := fun x => ((hr1.later x.below).cell i).trans (hr2 i hlt)
              have k2 : ∀ x : Kept wr, x.at_.cell? ⟨sb, i, none⟩ = some (.string (txtK A V n i)) := fun x => cell_later x.below hsc
              have k3 : ∀ x : Kept wr, (convert 24 9 (.slice (some ⟨G i, 0, none⟩) 64 (C i))).run Try.prog x.at_ = .ok (.string (txtK A V n i)) x.at_ := fun x => text_of (hby.below x.below) 64 (C i) (encK_len _ _ 8).symm
              have HR1 := Lib.hid hr1
              have HR2 := Lib.hid hr2
              clear hr1 hr2 hown hby hsc hlt
              generalize txtK A V n i = tx at *
              have htx : (tx.toList == tx.toList) = true := by simp
              go_upto_region 18 with fail
              refine wp_region_kept (by kernel_rfl) (by kernel_rfl) ?_
              repeat (go_big_quiet_step (fail))
              refine wpQuiet_nil ?_
              rintro W1 ⟨wx, rfl⟩
              have HS3 := Lib.hid (HS.out.later wx.below)
              have c1 : wx.at_.cell? ⟨b, i, none⟩ = some (.slice (some ⟨G i, 0, none⟩) 64 (C i)) := k1 wx
              clear k1 k2 k3 HS HR1 HR2
              generalize wx.at_ = w3 at *
              go_wp2_with fail
              go_loopw [111] (fun t wq => L3R w b q A V n G C (.slice (some ⟨sb, 0, none⟩) q sc) i t wq) (fun t _ => 64 - (intOf t).toNat)
              case atStart => exact ⟨0, encJ A V n i, by decide, rfl, HS3.out.own i (Nat.le_refl _) HIq.out, encK_byte _ _ 8, ⟨HS3.out.row, fun j h1 h2 => HS3.out.own j (by omega) h2, HS3.out.str, HS3.out.bel⟩⟩
              case round =>
                clear HS3 c1
                obtain ⟨k, ys, hk, rfl, hown, hy8, hs⟩ := hrel
                have HO := Lib.hid hown
                have HY := Lib.hid hy8
                have HS4 := Lib.hid hs
                have j0 : (0 : Int) ≤ (k : Int) := by omega
                obtain ⟨cs1, hr1, hr2⟩ := hs.row
                have c1 : wr.cell? ⟨b, i, none⟩ = some (.slice (some ⟨G i, 0, none⟩) 64 (C i)) := (hr1.cell i).trans (hr2 i HIq.out)
                clear hown hy8 hs hr1 hr2
                by_cases hlt : k < 64
                · have j1 : (k : Int) < 64 := by omega
                  have HKk := Lib.hid hlt
                  have hyl : ys.length = 64 := by have := HO.out.1; rwa [cellsB_length, Nat.mul_one] at this
                  have hcell : wr.cell? ⟨G i, k, none⟩ = some (.int .u8 (ys.getD k 0 : Nat)) := by rw [HO.out.cellAt k (by omega)]; exact cellsB_get ys k (by omega)
                  have hfro := HO.out.frozenAt k
                  have hy := getD_byte HY.out k
                  obtain ⟨y, hyy⟩ : ∃ y, ys.getD k 0 = y := ⟨_, rfl⟩
                  rw [hyy] at hcell hy
                  clear hyy hyl hlt
                  go_wp2_with fail
                  exact ⟨l3_step HKk.out HG.out HIq.out HO.out HY.out HS4.out y, by simp [intOf]; have := HKk.out; omega⟩
                · have j1 : ¬ (k : Int) < 64 := by omega
                  clear hlt hk
                  go_wp2_with fail
                  exact ⟨⟨i + 1, HIq.out, by simp, HS4.out⟩, by simp [intOf]; have := HIq.out; omega⟩
            · have i1 : ¬ (i : Int) < (q : Int) := by omega
              clear hlt
              go_wp2
              go_ret
              exact ⟨rfl, HS.out.bel⟩
end Go.Proofs.Ytbacfbdeeogkgaa
