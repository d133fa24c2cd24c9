/-
  TrByM · Pairs: these texts in one.
-/
import Derived.Test.YtcjojcihjhhpgaaPk13
import Derived.Test.YtcjojcihjhhpgaaPk00
import Derived.Deep.Slices
import Derived.OpenShut
/-
  TreeBytes: one file's bytes, and a row that has them.
-/
namespace Go.Proofs.Ytcjojcihjhhpgaa
open Go.RowKit

/-- A tree of one file. -/
def TF : Tr := ((tree0 4).add 3 1).ent 2 nF (some 3)
def TB (l : List Nat) : Tr := TF.dat 3 l
def pF : ByteArray := ⟨#[47, 102]⟩
theorem pF_one : P1 pF nF := ⟨by decide +kernel, by decide +kernel, by decide +kernel⟩
set_option maxRecDepth 100000 in
theorem tf_create : createK (tree0 4) pF = (TF, 3, 0) := by kernel_rfl
theorem TB_nil : TB [] = TF := by
  have h : updN TF.D 3 [] = TF.D := by
    funext j
    by_cases e : j = 3
    · subst e; rw [updN_at]; rfl
    · rw [updN_ne _ _ e]
  show { TF with D := updN TF.D 3 [] } = TF
  rw [h]
theorem TB_D (l : List Nat) : (TB l).D 3 = l := by
  show updN TF.D 3 l 3 = l
  exact updN_at _ _ _
theorem TB_r (l : List Nat) : (TB l).K 2 = 2 := by kernel_rfl
theorem TB_k (l : List Nat) : (TB l).K 3 = 1 := by kernel_rfl
theorem TB_e (l : List Nat) : (TB l).E 2 nF = some 3 := by kernel_rfl
theorem TB_dat (l m : List Nat) : (TB l).dat 3 m = TB m := Tr.dat_dat _ _ _ _
theorem tb_trunc (l : List Nat) {a : Nat} (h : a ≤ 38400) : truncK (TB l) pF (a : Int) = (TB (rszL l a), 0) := by
  rw [trunc1 pF_one (TB_r l) (TB_e l) (TB_k l) (by omega) (by omega), TB_D, TB_dat]
  rfl
theorem tb_write (l : List Nat) {a : Nat} {m : List Nat} (hm : m.length ≤ 4096) (h : a + m.length ≤ 38400) : writeK (TB l) pF (a : Int) m = (TB (if m.length = 0 then l else wrL (rszL l (max l.length (a + m.length))) a m), 0) := by
  rw [write1 pF_one (TB_r l) (TB_e l) (TB_k l) (by omega) hm (by omega), TB_D, TB_dat]
  split
  · rfl
  · rfl
theorem tb_read (l : List Nat) (h : l.length ≤ 4096) : readK (TB l) pF 0 4096 = (l, 0) := by
  rw [read1 pF_one (TB_r l) (TB_e l) (TB_k l) (by omega) (by omega) (by omega), TB_D]
  show ((l.drop 0).take 4096, (0 : Int)) = _
  rw [List.drop_zero, List.take_of_length_le h]
theorem tb_stat (l : List Nat) : ∃ k, statK (TB l) pF = (.agg #[.int .i64 3, .int .i64 1, .int .i64 k, .int .i64 (l.length : Int)], 0) := by
  refine ⟨(TB l).Lk 3, ?_⟩
  rw [stat1 pF_one (TB_r l) (TB_e l)]
  unfold statA
  rw [TB_k, if_pos rfl, TB_D]
  rfl
/-- The tree, and beside it a row of these bytes. -/
def TbS (w wr : World) (bt : Nat) (T : Tr) (l : List Nat) (v : Value) : Prop := ∃ (a : Option Addr) (c cnt : Nat), v = .slice a l.length c ∧ wr.ownsRow w.heap.size U8 1 v l.length (cellsB l) ∧ Lx w wr cnt T bt (fun g => v.ownBlock = some g)
section
variable {w wr w1 w2 : World} {bt i x : Nat} {T : Tr} {l : List Nat} {v : Value}
theorem own_put {base n : Nat} {e : TypeId} {size : Nat} {g cap : Nat} {xs : List Value} (h : w.ownsRow base e size (.slice (some ⟨g, 0, none⟩) n cap) n xs) (j : Nat) (u : Value) : (w.setCell ⟨g, j, none⟩ u).ownsRow base e size (.slice (some ⟨g, 0, none⟩) n cap) n (xs.set j u) := by
  obtain ⟨q1, ⟨q2, _⟩ | ⟨g', cap', cur, hv, a1, a2, a3, a4, a5, a6⟩⟩ := h
  · cases q2
  · cases hv
    refine ⟨by rw [List.length_set]; exact q1, .inr ⟨g, cap, cur.setIfInBounds j u, rfl, a1, ?_, a3, a4, by simpa using a5, ?_⟩⟩
    · exact Blo.put (show Blo w g e cur from a2) j u
    · rw [← a6, Array.toList_setIfInBounds]
      rw [List.take_set]
theorem cellsB_set (l : List Nat) (i x : Nat) : (cellsB l).set i (.int .u8 (x : Int)) = cellsB (l.set i x) := by
  unfold cellsB
  rw [List.map_set]
theorem cellsB_take (l : List Nat) (k : Nat) : (cellsB l).take k = cellsB (l.take k) := by
  unfold cellsB
  rw [List.map_take]
theorem own_cutB {base n k cap : Nat} {a : Option Addr} (h : w.ownsRow base U8 1 (.slice a n cap) n (cellsB l)) (hk : k ≤ n) : w.ownsRow base U8 1 (.slice a k cap) k (cellsB (l.take k)) := by
  have hn : l.length = n := by have := h.1; rw [cellsB_len, Nat.mul_one] at this; exact this
  refine ⟨by rw [cellsB_len, List.length_take, Nat.mul_one]; omega, ?_⟩
  rcases h.2 with ⟨q1, q2⟩ | ⟨g, c, cur, q1, q2, q3, q4, q5, q6, q7⟩
  · cases q1
    exact .inl ⟨by rw [show k = 0 by omega], by omega⟩
  · cases q1
    refine .inr ⟨g, cap, cur, rfl, q2, q3, by omega, q5, q6, ?_⟩
    rw [← cellsB_take, ← q7, List.take_take, Nat.mul_one, Nat.mul_one, Nat.min_eq_left hk]
theorem und_byt : Try.prog.underlying BYT = some (.slice (Try.prog.elem BYT)) := by simp [Program.elem, Try.underlying31]
theorem elem_byt : Try.prog.elem BYT = U8 := by simp [Program.elem, Try.underlying31]
theorem size_byt (w : World) : (Go.sizeOf U8).run Try.prog w = .ok 1 w := by kernel_rfl
theorem run_cutB {base n k c : Nat} {a : Option Addr} {xs : List Value} (h : w.ownsRow base U8 1 (.slice a n c) n xs) (hk : k ≤ n) (W : World) :
    (Instr.slice BYT (.slice a n c) none (some (.int .i64 (k : Int))) none).run Try.prog W = .ok (.slice a k c) W := by
  rcases h.2 with ⟨q1, q2⟩ | ⟨g, c', cur, q1, q2, q3, q4, q5, q6, q7⟩
  · cases q1
    rw [run_slice_h W BYT _ _ _ und_byt .i64 _ (by omega) (by omega), elem_byt, size_byt]
    simp [Result.andThen, sliced]
  · cases q1
    rw [run_slice_h W BYT _ _ _ und_byt .i64 _ (by omega) (by omega), elem_byt, size_byt]
    have e : (⟨g, 0, none⟩ : Addr).add 0 = ⟨g, 0, none⟩ := rfl
    by_cases hc : c = 0
    · simp [Result.andThen, sliced, hc]
    · simp [Result.andThen, sliced, e]
theorem zer_succ (k : Nat) : zer (k + 1) = zer k ++ [0] := List.replicate_succ'
theorem grown_cut {l : List Nat} {k q : Nat} (h : k = 0 ∨ l.length + k ≤ q) (hq : q ≤ l.length + k) : (l ++ zer k).take q = rszL l q := by
  unfold rszL
  by_cases e : q ≤ l.length
  · rw [if_pos e, List.take_append_of_le_length e]
  · rw [if_neg e, List.take_of_length_le (by rw [List.length_append, zer_len]; omega)]
    rw [show k = q - l.length by omega]
theorem grown_max {l : List Nat} {k q : Nat} (h : k = 0 ∨ l.length + k ≤ q) (hq : q ≤ l.length + k) : l ++ zer k = rszL l (max l.length q) := by
  unfold rszL
  by_cases e : k = 0
  · subst e
    rw [if_pos (by omega), List.take_of_length_le (by omega)]
    show l ++ List.replicate 0 0 = l
    rw [List.replicate_zero, List.append_nil]
  · rw [if_neg (by omega), show k = max l.length q - l.length by omega]
theorem wrL_step {L d : List Nat} {q t : Nat} (ht : t < d.length) (hq : q + d.length ≤ L.length) : (wrL L q (d.take t)).set (q + t) (d.getD t 0) = wrL L q (d.take (t + 1)) := by
  have e1 : (d.take t).length = t := by rw [List.length_take]; omega
  have e2 : (d.take (t + 1)).length = t + 1 := by rw [List.length_take]; omega
  have e3 : d.take (t + 1) = d.take t ++ [d.getD t 0] := by
    rw [List.take_add_one, List.getD_eq_getElem?_getD, List.getElem?_eq_getElem ht]
    rfl
  unfold wrL
  rw [e1, e2, e3]
  have e4 : L.drop (q + t) = L[q + t]'(by omega) :: L.drop (q + (t + 1)) := by
    rw [List.drop_eq_getElem_cons (by omega)]
    rfl
  have e5 : (L.take q ++ d.take t).length = q + t := by rw [List.length_append, e1, List.length_take]; omega
  rw [e4, List.set_append_right _ _ (by omega), e5, Nat.sub_self, List.set_cons_zero, List.append_assoc, List.append_assoc, List.append_assoc]
  rfl
theorem wrL_zero (L : List Nat) (q : Nat) (d : List Nat) : wrL L q (d.take 0) = L := by
  unfold wrL
  rw [List.take_zero, List.append_nil]
  exact List.take_append_drop q L
theorem TbS.cut (h : TbS w wr bt T l v) {k : Nat} (hk : k ≤ l.length) : ∃ a c, v = .slice a l.length c ∧ TbS w wr bt T (l.take k) (.slice a k c) := by
  obtain ⟨a, c, cnt, rfl, ho, hx⟩ := h
  have e : (l.take k).length = k := by rw [List.length_take]; omega
  refine ⟨a, c, rfl, a, c, cnt, by rw [e], by rw [e]; exact own_cutB ho hk, ?_⟩
  have eo : (Value.slice a k c).ownBlock = (Value.slice a l.length c).ownBlock := by cases a <;> rfl
  exact hx.own (Out.refl _ _) (fun g q => ⟨.inl (eo ▸ q), (hx.n g (eo ▸ q)).2⟩)
theorem TbS.tree (h : TbS w wr bt T l v) : ∃ cnt, Lx w wr cnt T bt (fun g => v.ownBlock = some g) := by
  obtain ⟨a, c, cnt, -, -, hx⟩ := h
  exact ⟨cnt, hx⟩
theorem TbS.after {T' : Tr} {cnt : Nat} (h : TbS w wr bt T l v) (hx : Lx w w1 cnt T' bt (fun g => v.ownBlock = some g)) (ho : Out (XN w (fun g => v.ownBlock = some g)) wr w1) : TbS w w1 bt T' l v := by
  obtain ⟨a, c, cnt', rfl, hown, hx'⟩ := h
  exact ⟨a, c, cnt, rfl, ho.own hown (fun g q x => x.2 q), hx⟩
theorem TbS.put (h : TbS w wr bt T l v) {g c n : Nat} (hv : v = .slice (some ⟨g, 0, none⟩) n c) (i x : Nat) : TbS w (wr.setCell ⟨g, i, none⟩ (.int .u8 (x : Int))) bt T (l.set i x) v := by
  obtain ⟨a, c', cnt, rfl, ho, hx⟩ := h
  cases hv
  refine ⟨_, c, cnt, by rw [List.length_set], ?_, hx.own (out_put _ _ _ rfl) (fun k q => ⟨.inl q, ?_⟩)⟩
  · rw [List.length_set, ← cellsB_set]
    exact own_put ho i _
  · rw [World.size_setCell]
    exact (hx.n k q).2
/-- A zero more. -/
theorem TbS.grow (h : TbS w wr bt T l v) (hb : Below wr.heap.size wr w1) {a' : Option Addr} {c' : Nat} (ho : w2.ownsRow w.heap.size U8 1 (.slice a' (l.length + 1) c') (l.length + 1) (cellsB l ++ [.int .u8 0])) (hg : w1.grownBy w2 v.ownBlock)
    (hk : Value.ownBlock (.slice a' (l.length + 1) c') = v.ownBlock ∨ Value.ownBlock (.slice a' (l.length + 1) c') = some w1.heap.size) : TbS w w2 bt T (l ++ [0]) (.slice a' (l.length + 1) c') := by
  obtain ⟨a, c, cnt, hv, hown, hx⟩ := h
  have e : cellsB l ++ [.int .u8 0] = cellsB (l ++ [0]) := by unfold cellsB; rw [List.map_append]; rfl
  rw [e] at ho
  have hlt := fun g q => (ho.lt g q).2
  refine ⟨a', c', cnt, by rw [List.length_append]; rfl, by rw [List.length_append]; exact ho, ?_⟩
  have h1 : Out (fun g => v.ownBlock = some g) wr w2 := (Out.of_below hb).trans (Out.of_grown hg (fun g q => q)) (fun _ _ q => q)
  refine hx.own h1 (fun g q => ⟨?_, hlt g q⟩)
  rcases hk with e2 | e2
  · exact .inl (e2 ▸ q)
  · rw [e2] at q
    cases q
    exact .inr hb.size
end
end Go.Proofs.Ytcjojcihjhhpgaa
/-
  A slice of pairs of integers that came in, told by the flat list of its numbers.
-/
namespace Go.Proofs.Ytcjojcihjhhpgaa
open Go.RowKit

def Pairs (w : World) (a : Option Addr) (len : Nat) (zs : List Int) : Prop :=
  len ≤ 9223372036854775807 ∧ (∀ j, -9223372036854775808 ≤ zs.getD j 0 ∧ zs.getD j 0 ≤ 9223372036854775807) ∧
  (len ≠ 0 → ∃ b o, a = some ⟨b, o, none⟩ ∧ ∀ i, i < len → w.cell? ⟨b, o + i * 2, none⟩ = some (.int .i64 (zs.getD (i * 2) 0)) ∧ w.cell? ⟨b, o + i * 2 + 1, none⟩ = some (.int .i64 (zs.getD (i * 2 + 1) 0)))
theorem wf_bounds {n : Int} (h : (Lit.int .i64 n).wf = true) : -9223372036854775808 ≤ n ∧ n ≤ 9223372036854775807 := by
  simp [Lit.wf, IntKind.min, IntKind.max, IntKind.signed, IntKind.bits] at h
  omega
section
open Go.ChangeShapes Go.WideShapes Go.Deep
theorem pairs_of_trod {H : Type} {enc : TypeId × Value → H} {P : Program} {w : World} {base : Nat} {spare : Nat → Bool} {held : Bool} {t e k : TypeId} {fuel : Nat} {cs : List Value} {x : DataW H × List MemPlace}
    (ht : P.underlying t = some (.slice e)) (he : P.underlying e = some (.array 2 k)) (hk : P.underlying k = some (.int .i64)) (hck : P.cellsOf k = 1) (hce : P.cellsOf e = 2) (h : DataW.trod enc P w base spare held fuel t cs = some x) :
    ∃ a len cap zs, cs = [.slice a len cap] ∧ Pairs w a len zs := by
  rcases open_slice ht h with ⟨rfl, _⟩ | ⟨a, len, cap, m, n, D, Pl, rfl, _, hl, hm, hmm, _, hi⟩
  · exact ⟨none, 0, 0, [], rfl, by decide, fun j => by simp, fun h => absurd rfl h⟩
  · have hlm : len ≤ m := by rw [hmm]; split <;> omega
    have key : ∀ i, i < len → ∃ p : Int × Int, w.cell? (a.add (i * 2)) = some (.int .i64 p.1) ∧ w.cell? (a.add (i * 2 + 1)) = some (.int .i64 p.2) ∧ (Lit.int .i64 p.1).wf = true ∧ (Lit.int .i64 p.2).wf = true := by
      intro i hi'
      obtain ⟨cs', hc, ht'⟩ := hi i (by omega)
      rw [hce] at hc
      obtain ⟨_, hcl, hat⟩ := World.cells?_some hc
      obtain ⟨xs, m', _, _, _, hn, hel⟩ := DataW.trod_array he ht'
      have h0 := hel 0 (by decide)
      have h1 := hel 1 (by decide)
      have a0 := hat 0 (by decide)
      have a1 := hat 1 (by decide)
      rw [hck, List.getElem?_eq_getElem (by omega)] at h0 h1
      match cs', hcl with
      | [c0, c1], _ =>
        obtain ⟨x0, e0, _, w0⟩ := DataW.trod_int hk h0
        obtain ⟨x1, e1, _, w1⟩ := DataW.trod_int hk h1
        simp at e0 e1
        subst e0 e1
        rw [Go.Deep.add_add] at a0 a1
        exact ⟨(x0, x1), by simpa using a0, by simpa using a1, w0, w1⟩
    obtain ⟨f, hf⟩ : ∃ f : Nat → Int × Int, ∀ i, i < len → w.cell? (a.add (i * 2)) = some (.int .i64 (f i).1) ∧ w.cell? (a.add (i * 2 + 1)) = some (.int .i64 (f i).2) ∧ (Lit.int .i64 (f i).1).wf = true ∧ (Lit.int .i64 (f i).2).wf = true :=
      ⟨fun i => if h : i < len then Classical.choose (key i h) else (0, 0), fun i h => by simp only [dif_pos h]; exact Classical.choose_spec (key i h)⟩
    obtain ⟨zs, hzs⟩ : ∃ zs : List Int, zs = (List.range (2 * len)).map fun j => if j % 2 = 0 then (f (j / 2)).1 else (f (j / 2)).2 := ⟨_, rfl⟩
    have hlen : zs.length = 2 * len := by rw [hzs]; simp
    have hget : ∀ j, j < 2 * len → zs.getD j 0 = if j % 2 = 0 then (f (j / 2)).1 else (f (j / 2)).2 := fun j hj => by
      rw [hzs, List.getD_eq_getElem?_getD]
      simp [hj]
    have hcell : ∀ j, j < zs.length → w.cell? (a.add j) = some (.int .i64 (zs.getD j 0)) := fun j hj => by
      rw [hlen] at hj
      rw [hget j hj]
      obtain ⟨q1, q2, _, _⟩ := hf (j / 2) (by omega)
      by_cases h2 : j % 2 = 0
      · rw [if_pos h2]
        rw [show j / 2 * 2 = j by omega] at q1
        exact q1
      · rw [if_neg h2]
        rw [show j / 2 * 2 + 1 = j by omega] at q2
        exact q2
    have hmx : (maxLen : Nat) = 9223372036854775807 := by decide
    refine ⟨some a, len, cap, zs, rfl, by omega, fun j => ?_, fun hne => ?_⟩
    · by_cases hj : j < 2 * len
      · rw [hget j hj]
        obtain ⟨_, _, q3, q4⟩ := hf (j / 2) (by omega)
        split
        · exact wf_bounds q3
        · exact wf_bounds q4
      · rw [List.getD_eq_getElem?_getD, List.getElem?_eq_none (by omega)]
        simp
    · obtain ⟨b, o, rfl, hc⟩ := Go.ints_at hcell (by omega)
      refine ⟨b, o, rfl, fun i hi' => ⟨hc (i * 2) (by omega), ?_⟩⟩
      rw [Nat.add_assoc]
      exact hc (i * 2 + 1) (by omega)
end
end Go.Proofs.Ytcjojcihjhhpgaa
