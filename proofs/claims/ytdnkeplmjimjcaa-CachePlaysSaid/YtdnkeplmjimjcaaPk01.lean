/-
  FlApp · ChPop · PMap · KMap: these texts in one.
-/
import Derived.Test.YtdnkeplmjimjcaaPk00
import Derived.Deep.RegionLaw
import Derived.BigRegion
import Derived.Deep.DeepCutAuto
import Derived.Test.YtdnkeplmjimjcaaRows
import Derived.Maps.OwnSet
import Derived.Maps.OwnOps
import Derived.OpenShut
import Derived.DeepKeys5
/-
  An append onto a row of one's own, with the slice's own form handed on.
-/

namespace Go.Proofs.Ytdnkeplmjimjcaa
open Go.RowKit

theorem laid_srcO (w : World) (t : TypeId) (cs : Array Value) (l : List Value) (hl : cs.toList = l) : ∀ ad, some (⟨w.heap.size, 0, none⟩ : Addr) = some ad → ∀ j u, l[j]? = some u → (w.alloc (.cells cs t)).cell? (ad.add j) = some u := fun ad e j u hj => by
  cases e
  rw [Addr.add_lit, Nat.zero_add, (blo_laid w t cs).cell, ← Array.getElem?_toList, hl, hj]
theorem wp_append_rowO {P : Program} {w : World} {ops : Array Oper} {rest : List Oper} {o : Oper} {act : Act} {Q : Exit → Act → World → Prop} (hgd : o.guard = none) (s x : Operand) (t : TypeId)
    (ho : o.op = .call { callee := .builtin .append, args := #[s, x], argTypes := #[t, t] })
    (base : Nat) (e : TypeId) (z : Value) (size bytes : Nat) (ht : P.underlying t = some (.slice e)) (hi : (P.info? e).map (fun i => (i.zero, i.size, i.bytes)) = some (some z, size, bytes)) (hzs : z.cells.size = size) (hsz : 0 < size) (hby : bytes ≤ 1000)
    (v : Value) (n : Nat) (xs : List Value) (hs : act.eval s = v) (hown : w.ownsRow base e size v n xs)
    (ao : Option Addr) (m c : Nat) (ys : List Value) (hx : act.eval x = .slice ao m c) (hl : ys.length = m * size) (hy : ∀ ad, ao = some ad → ∀ j u, ys[j]? = some u → w.cell? (ad.add j) = some u) (h1 : ∀ u ∈ ys, u.oneCell' = true) (hnone : ao = none → m = 0 ∧ c = 0)
    (hroom : n + m ≤ 1000000) (hbase : base ≤ w.heap.size)
    (h : ∀ a' cap' w', w'.ownsRow base e size (.slice a' (n + m) cap') (n + m) (xs ++ ys) → w.grownBy w' v.ownBlock → ((Value.slice a' (n + m) cap').ownBlock = v.ownBlock ∨ (Value.slice a' (n + m) cap').ownBlock = some w.heap.size) → wpList P ops Q rest (act.put o.dst (.slice a' (n + m) cap')) w') : wpList P ops Q (o :: rest) act w := by
  refine wpList_plain hgd fun K hK => ?_
  have hw : Region.wanted o (yielded ops act.tmps) = true := by simp [Region.wanted, hgd]
  have := step_append_row (P := P) (ops := ops) (Q := Q) (o := o) (a := act) (w := w) (K := K) (E := True) hgd s x t ho base e z size bytes ht hi hzs hsz hby v n xs hs hown ao m c ys hx hl hy h1 hnone hroom hbase (fun v' w' h2 h3 h4 => by
    obtain ⟨a', cap', rfl, _⟩ := own_slice h2
    exact hK _ _ (h a' cap' w' h2 h3 h4))
  rwa [if_pos hw] at this
theorem ints_src {w : World} {a : Option Addr} {l : List Int} (h : Ints w a l) : ∀ ad, a = some ad → ∀ j u, (cellsI l)[j]? = some u → w.cell? (ad.add j) = some u := fun ad ha j u hj => by
  have hl : j < l.length := by
    have := (List.getElem?_eq_some_iff.1 hj).1
    simpa [cellsI] using this
  obtain ⟨b, o, rfl, hc⟩ := h (fun e => by rw [e] at hl; cases hl)
  cases ha
  rw [Addr.add_lit, hc j hl, ← hj]
  simp [cellsI, List.getD_eq_getElem?_getD, List.getElem?_eq_getElem hl]
theorem ints_one (l : List Int) : ∀ u ∈ cellsI l, u.oneCell' = true := fun u hu => by
  unfold cellsI at hu
  obtain ⟨x, _, rfl⟩ := List.mem_map.1 hu
  rfl
end Go.Proofs.Ytdnkeplmjimjcaa
/-
  The heap's methods: Swap of one place, Pop, Push.
-/
namespace Go.Proofs.Ytdnkeplmjimjcaa
open Go.RowKit

/-- The cache's own block. -/
def CB (w : World) (bc bm : Nat) (room uses : Int) (v : Value) : Prop := Blo w bc CT #[.int .i64 room, .map (some bm), v, .int .i64 uses]
def upn {α : Type} (h : Nat → α) (m : Nat) (b : α) : Nat → α := fun k => if k = m then b else h k
theorem upn_at {α : Type} (h : Nat → α) (m : Nat) (b : α) : upn h m b m = b := if_pos rfl
theorem upn_ne {α : Type} (h : Nat → α) {m k : Nat} (b : α) (e : k ≠ m) : upn h m b k = h k := if_neg e
theorem sup_pc9 (w : World) (o : Obj) : Below w.heap.size w (w.alloc o) := (Below.refl _ _).alloc (Nat.le_refl _) _
theorem info_pb : (Try.prog.info? PB).map (fun i => (i.zero, i.size, i.bytes)) = some (some (.pointer none), 1, 8) := by kernel_rfl
section
variable {w w' : World} {base m n cap gr i j C bc bm b : Nat} {h : Nat → Nat} {S : Nat → Bf} {room uses : Int} {v : Value} {a : Int}
theorem CB.cell (hC : CB w bc bm room uses v) : w.cell? ⟨bc, 0, none⟩ = some (.int .i64 room) ∧ w.cell? ⟨bc, 1, none⟩ = some (.map (some bm)) ∧ w.cell? ⟨bc, 2, none⟩ = some v ∧ w.cell? ⟨bc, 3, none⟩ = some (.int .i64 uses) := ⟨Blo.cell hC 0, Blo.cell hC 1, Blo.cell hC 2, Blo.cell hC 3⟩
theorem CB.out {X : Nat → Prop} (hC : CB w bc bm room uses v) (ho : Out X w w') (hx : ¬ X bc) : CB w' bc bm room uses v := ho.blo hC hx
theorem CB.later (hC : CB w bc bm room uses v) (hb : Below w.heap.size w w') : CB w' bc bm room uses v := Blo.later hC hb
theorem sw_self (h : Nat → Nat) (i : Nat) : sw h i i = h := by
  funext k
  unfold sw
  by_cases e : k = i
  · rw [if_pos e, e]
  · rw [if_neg e, if_neg e]
set_option maxHeartbeats 4000000 in
theorem gswap_self (hG : GS w base (.slice (some ⟨gr, 0, none⟩) m cap) m h S) (hi : i < m) (hm : m ≤ 4096) :
    Calls Try.prog 89 #[.slice (some ⟨gr, 0, none⟩) m cap, .int .i64 i, .int .i64 i] w fun e w' => e = .returned (.tuple #[]) ∧ GS w' base (.slice (some ⟨gr, 0, none⟩) m cap) m h S ∧ Out (XG (.slice (some ⟨gr, 0, none⟩) m cap) m h) w w' := by
  have r1 := hG.rowcell hi
  have f1 := hG.rowfrozen i
  have i1 : (0 : Int) ≤ (i : Int) := by omega
  have i2 : (i : Int) < (m : Int) := by omega
  have HG := Lib.hid hG
  clear hG
  go_enter Try.func89, Try.ntmps89
  go_wp2_with fail
  go_region
  have HF0 : Hid (∀ k, k < m → BufO (((w.setCell ⟨gr, i, none⟩ (.pointer (some ⟨h i, 0, none⟩))).setCell ⟨gr, i, none⟩ (.pointer (some ⟨h i, 0, none⟩))).drew) (h k) (S (h k)) ((k : Nat) : Int)) := fun k hk => (((HG.out.buf k hk).far (p := ⟨gr, i, none⟩) (HG.out.gr_ne hk) _).far (p := ⟨gr, i, none⟩) (HG.out.gr_ne hk) _).drew
  have HR0 : Hid ((((w.setCell ⟨gr, i, none⟩ (.pointer (some ⟨h i, 0, none⟩))).setCell ⟨gr, i, none⟩ (.pointer (some ⟨h i, 0, none⟩))).drew).ownsRow base PB 1 (.slice (some ⟨gr, 0, none⟩) m cap) m (ptrs h m)) := by
    have := ((HG.out.row.stored i (.pointer (some ⟨h i, 0, none⟩))).1.stored i (.pointer (some ⟨h i, 0, none⟩))).1
    rw [ptrs_sw h hi hi, sw_self] at this
    exact own_later this ((Below.refl _ _).drew)
  have HO0 : Hid (Out (XG (.slice (some ⟨gr, 0, none⟩) m cap) m h) w (((w.setCell ⟨gr, i, none⟩ (.pointer (some ⟨h i, 0, none⟩))).setCell ⟨gr, i, none⟩ (.pointer (some ⟨h i, 0, none⟩))).drew)) := (((Out.refl _ w).put (p := ⟨gr, i, none⟩) (.inl rfl) _).put (p := ⟨gr, i, none⟩) (.inl rfl) _).drawn
  generalize ((w.setCell ⟨gr, i, none⟩ (.pointer (some ⟨h i, 0, none⟩))).setCell ⟨gr, i, none⟩ (.pointer (some ⟨h i, 0, none⟩))).drew = w1 at *
  clear r1 f1
  have r1 : w1.cell? ⟨gr, i, none⟩ = some (.pointer (some ⟨h i, 0, none⟩)) := by rw [HR0.out.cellAt i (by simp; exact hi), ptrs_get _ hi]
  obtain ⟨-, -, -, -, -, u1⟩ := (HF0.out i hi).cells
  have f1 := (HF0.out i hi).frozen 69
  have HE : Hid (GS (((w1.setCell ⟨h i, 69, none⟩ (.int .i64 i)).setCell ⟨h i, 69, none⟩ (.int .i64 i)).drew) base (.slice (some ⟨gr, 0, none⟩) m cap) m h S ∧ Out (XG (.slice (some ⟨gr, 0, none⟩) m cap) m h) w (((w1.setCell ⟨h i, 69, none⟩ (.int .i64 i)).setCell ⟨h i, 69, none⟩ (.int .i64 i)).drew)) := by
    refine ⟨⟨own_later ((own_far (own_far HR0.out (p := ⟨h i, 69, none⟩) ?_ _) (p := ⟨h i, 69, none⟩) ?_ _)) ((Below.refl _ _).drew), fun k hk => ?_⟩, ((HO0.out.put (p := ⟨h i, 69, none⟩) (.inr ⟨i, hi, rfl⟩) _).put (p := ⟨h i, 69, none⟩) (.inr ⟨i, hi, rfl⟩) _).drawn⟩
    · intro e; exact HG.out.gr_ne hi (by simpa [Value.ownBlock] using e)
    · intro e; exact HG.out.gr_ne hi (by simpa [Value.ownBlock] using e)
    · by_cases e : k = i
      · subst e
        exact (((HF0.out k hk).put_at _).put_at _).drew
      · exact (((HF0.out k hk).far (p := ⟨h i, 69, none⟩) (fun q => e (HG.out.inj hk hi q)) _).far (p := ⟨h i, 69, none⟩) (fun q => e (HG.out.inj hk hi q)) _).drew
  generalize hhi : h i = a at *
  clear HF0 HR0 HO0 HG hhi
  go_wp2_with fail
  go_region
  go_wp2_with fail
  go_end0
  exact ⟨rfl, HE.out⟩
/-- What a heap's Push and Pop may change: the cache's block beside. -/
def XB (bc : Nat) (v : Value) (m : Nat) (h : Nat → Nat) (g : Nat) : Prop := g = bc ∨ XG v m h g
theorem row_cut (hr : w.ownsRow base PB 1 (.slice (some ⟨gr, 0, none⟩) (n + 1) cap) (n + 1) (ptrs h (n + 1))) : (w.setCell ⟨gr, n, none⟩ (.pointer none)).ownsRow base PB 1 (.slice (some ⟨gr, 0, none⟩) n cap) n (ptrs h n) := by
  obtain ⟨q1, ⟨q2, _⟩ | ⟨g', cap', cur, hv, a1, a2, a3, a4, a5, a6⟩⟩ := hr
  · cases q2
  · cases hv
    refine ⟨by simp [ptrs], .inr ⟨gr, cap, cur.setIfInBounds n (.pointer none), rfl, a1, heap_setCell_same w gr n cur PB _ a2, by omega, a4, by simpa using a5, ?_⟩⟩
    rw [Array.toList_setIfInBounds]
    have e : cur.toList.take (n * 1) = ptrs h n := by
      have h2 := congrArg (List.take n) a6
      rw [List.take_take, show min n ((n + 1) * 1) = n * 1 by omega] at h2
      rw [h2, ptrs_succ, List.take_append_of_le_length (by rw [ptrs_len]; omega), List.take_of_length_le (by rw [ptrs_len]; omega)]
    rw [← e, List.take_set]
    apply List.set_eq_of_length_le
    rw [List.length_take]
    omega
set_option maxHeartbeats 4000000 in
theorem gpop_any (hC : CB w bc bm room uses (.slice (some ⟨gr, 0, none⟩) m cap)) (hG : GS w base (.slice (some ⟨gr, 0, none⟩) m cap) m h S) (hmn : n + 1 = m) (hm : m ≤ 4096) :
    Calls Try.prog 90 #[.pointer (some ⟨bc, 2, none⟩)] w fun e w' => e = .returned (.iface PB (.pointer (some ⟨h n, 0, none⟩))) ∧ CB w' bc bm room uses (.slice (some ⟨gr, 0, none⟩) n cap) ∧ GS w' base (.slice (some ⟨gr, 0, none⟩) n cap) n h S ∧ BufO w' (h n) (S (h n)) (-1) ∧ Out (XB bc (.slice (some ⟨gr, 0, none⟩) m cap) m h) w w' := by
  subst hmn
  have r1 := hG.rowcell (show n < n + 1 by omega)
  have f1 := hG.rowfrozen n
  obtain ⟨-, -, c2, -⟩ := hC.cell
  have f2 := Blo.frozen hC 2
  have hle : n + 1 ≤ cap := by
    obtain ⟨a, c, e, hc⟩ := own_slice hG.row
    cases e
    exact hc
  have hgb : gr ≠ bc := by
    rcases hG.row.2 with ⟨e, _⟩ | ⟨g, cap', cur, hv, _, hb, _⟩
    · cases e
    · cases hv
      exact fun e => Blo.apart (show Blo w gr PB cur from hb) hC (by decide) e
  have hnb : h n ≠ bc := (hG.buf n (by omega)).apart hC (by decide)
  have hng : h n ≠ gr := hG.gr_ne (by omega)
  obtain ⟨-, -, -, -, -, u1⟩ := (hG.buf n (by omega)).cells
  have f3 := (hG.buf n (by omega)).frozen 69
  have hcm : (n : Int) ≤ (cap : Int) := by omega
  have HE : Hid (CB (((w.setCell ⟨gr, n, none⟩ (.pointer none)).setCell ⟨bc, 2, none⟩ (.slice (some ⟨gr, 0, none⟩) n cap)).setCell ⟨h n, 69, none⟩ (.int .i64 (-1))) bc bm room uses (.slice (some ⟨gr, 0, none⟩) n cap) ∧ GS (((w.setCell ⟨gr, n, none⟩ (.pointer none)).setCell ⟨bc, 2, none⟩ (.slice (some ⟨gr, 0, none⟩) n cap)).setCell ⟨h n, 69, none⟩ (.int .i64 (-1))) base (.slice (some ⟨gr, 0, none⟩) n cap) n h S ∧ BufO (((w.setCell ⟨gr, n, none⟩ (.pointer none)).setCell ⟨bc, 2, none⟩ (.slice (some ⟨gr, 0, none⟩) n cap)).setCell ⟨h n, 69, none⟩ (.int .i64 (-1))) (h n) (S (h n)) (-1) ∧ Out (XB bc (.slice (some ⟨gr, 0, none⟩) (n + 1) cap) (n + 1) h) w (((w.setCell ⟨gr, n, none⟩ (.pointer none)).setCell ⟨bc, 2, none⟩ (.slice (some ⟨gr, 0, none⟩) n cap)).setCell ⟨h n, 69, none⟩ (.int .i64 (-1)))) := by
    refine ⟨?_, ⟨?_, fun k hk => ?_⟩, ?_, ?_⟩
    · have h1 : CB (w.setCell ⟨gr, n, none⟩ (.pointer none)) bc bm room uses (.slice (some ⟨gr, 0, none⟩) (n + 1) cap) := Blo.far hC (p := ⟨gr, n, none⟩) (fun e => hgb e.symm) _
      exact Blo.far (Blo.put h1 2 (.slice (some ⟨gr, 0, none⟩) n cap)) (p := ⟨h n, 69, none⟩) (fun e => hnb e.symm) _
    · refine own_far (own_far (row_cut hG.row) (p := ⟨bc, 2, none⟩) ?_ _) (p := ⟨h n, 69, none⟩) ?_ _
      · intro e; exact hgb (by simpa [Value.ownBlock] using e.symm)
      · intro e; exact hng (by simpa [Value.ownBlock] using e)
    · exact (((hG.buf k (by omega)).far (p := ⟨gr, n, none⟩) (hG.gr_ne (by omega)) _).far (p := ⟨bc, 2, none⟩) ((hG.buf k (by omega)).apart hC (by decide)) _).far (p := ⟨h n, 69, none⟩) (fun e => by have := hG.inj (by omega) (by omega) e; omega) _
    · exact (((hG.buf n (by omega)).far (p := ⟨gr, n, none⟩) hng _).far (p := ⟨bc, 2, none⟩) hnb _).put_at _
    · exact (((Out.refl _ w).put (p := ⟨gr, n, none⟩) (.inr (.inl rfl)) _).put (p := ⟨bc, 2, none⟩) (.inl rfl) _).put (p := ⟨h n, 69, none⟩) (.inr (.inr ⟨n, by omega, rfl⟩)) _
  have i1 : (0 : Int) ≤ (n : Int) := by omega
  have e1 : ((n + 1 : Nat) : Int) - 1 = (n : Int) := by omega
  have hgb2 : bc ≠ gr := fun e => hgb e.symm
  clear hC hG
  generalize h n = hn at *
  go_enter Try.func90, Try.ntmps90
  go_wp2_with fail
  go_ret
  exact ⟨rfl, HE.out⟩
theorem run_assert_pb (v : Value) (W : World) : (Instr.typeAssert (.iface PB v) 20 PB false).run Try.prog W = .ok v W := by
  simp [Instr.typeAssert, run_underlying Try.underlying80, go_sem, Result.andThen]
/-- What Push may change. -/
def XP (bc b : Nat) (v : Value) (g : Nat) : Prop := g = bc ∨ g = b ∨ v.ownBlock = some g
theorem blo_own {t e : TypeId} {base size n : Nat} {cs : Array Value} {v : Value} {xs : List Value} {g : Nat} (hr : w.ownsRow base e size v n xs) (hB : Blo w g t cs) (ht : t ≠ e) : v.ownBlock ≠ some g := by
  rcases hr.2 with ⟨rfl, _⟩ | ⟨g', cap', cur, rfl, _, hb, _⟩
  · intro e; cases e
  · intro q
    cases q
    exact Blo.apart (show Blo w g' e cur from hb) hB (fun e => ht e.symm) rfl
set_option maxHeartbeats 4000000 in
theorem gpush_any (hC : CB w bc bm room uses v) (hG : GS w base v m h S) (hB : BufO w b (S b) a) (hfr : ∀ i, i < m → h i ≠ b) (hm : m ≤ 4096) (hbase : base ≤ w.heap.size) (hbb : base ≤ bc) :
    Calls Try.prog 91 #[.pointer (some ⟨bc, 2, none⟩), .iface PB (.pointer (some ⟨b, 0, none⟩))] w fun e w' => e = .returned (.tuple #[]) ∧ ∃ a' cap', CB w' bc bm room uses (.slice a' (m + 1) cap') ∧ GS w' base (.slice a' (m + 1) cap') (m + 1) (upn h m b) S ∧ Out (XP bc b v) w w' ∧ ((Value.slice a' (m + 1) cap').ownBlock = v.ownBlock ∨ ∃ g, (Value.slice a' (m + 1) cap').ownBlock = some g ∧ w.heap.size ≤ g) := by
  obtain ⟨-, -, c2, -⟩ := hC.cell
  obtain ⟨-, -, -, -, -, u1⟩ := hB.cells
  have f1 := hB.frozen 69
  have hnb : b ≠ bc := hB.apart hC (by decide)
  obtain ⟨va, vc, rfl, -⟩ := own_slice hG.row
  have has := run_assert_pb
  -- behind the store of its place
  have HC1 : Hid (CB (w.setCell ⟨b, 69, none⟩ (.int .i64 ((m : Nat) : Int))) bc bm room uses (.slice va m vc)) := Blo.far hC (p := ⟨b, 69, none⟩) (fun e => hnb e.symm) _
  have hvb : (Value.slice va m vc).ownBlock ≠ some b := by
    obtain ⟨cs, hb, -⟩ := hB
    exact blo_own hG.row hb (by decide)
  have HG1 : Hid (GS (w.setCell ⟨b, 69, none⟩ (.int .i64 ((m : Nat) : Int))) base (.slice va m vc) m h S) := ⟨own_far hG.row (p := ⟨b, 69, none⟩) (fun e => hvb e.symm) _, fun k hk => (hG.buf k hk).far (p := ⟨b, 69, none⟩) (hfr k hk) _⟩
  have HB1 : Hid (BufO (w.setCell ⟨b, 69, none⟩ (.int .i64 ((m : Nat) : Int))) b (S b) ((m : Nat) : Int)) := hB.put_at _
  have HO1 : Hid (Out (XP bc b (.slice va m vc)) w (w.setCell ⟨b, 69, none⟩ (.int .i64 ((m : Nat) : Int)))) := (Out.refl _ w).put (p := ⟨b, 69, none⟩) (.inr (.inl rfl)) _
  have HZ : Hid (w.heap.size = (w.setCell ⟨b, 69, none⟩ (.int .i64 ((m : Nat) : Int))).heap.size) := by show _ = _; simp
  have HFr := Lib.hid hfr
  clear hC hG hB hvb hfr
  go_enter Try.func91, Try.ntmps91
  go_upto_region 2 with (fail)
  generalize w.setCell ⟨b, 69, none⟩ (.int .i64 ((m : Nat) : Int)) = w1 at *
  clear c2 u1 f1
  obtain ⟨-, -, c2, -⟩ := HC1.out.cell
  have hb1 : base ≤ w1.heap.size := by rw [← HZ.out]; exact hbase
  have HEnd : Hid (∀ a6 c6 w6, w6.ownsRow base PB 1 (.slice a6 (m + 1) c6) (m + 1) (ptrs h m ++ [.pointer (some ⟨b, 0, none⟩)]) → (w1.alloc (.cells #[.pointer (some ⟨b, 0, none⟩)] PB)).grownBy w6 (Value.slice va m vc).ownBlock → ((Value.slice a6 (m + 1) c6).ownBlock = (Value.slice va m vc).ownBlock ∨ (Value.slice a6 (m + 1) c6).ownBlock = some (w1.alloc (.cells #[.pointer (some ⟨b, 0, none⟩)] PB)).heap.size) →
      CB w6 bc bm room uses (.slice va m vc) ∧ CB (w6.setCell ⟨bc, 2, none⟩ (.slice a6 (m + 1) c6)) bc bm room uses (.slice a6 (m + 1) c6) ∧ GS (w6.setCell ⟨bc, 2, none⟩ (.slice a6 (m + 1) c6)) base (.slice a6 (m + 1) c6) (m + 1) (upn h m b) S ∧ Out (XP bc b (.slice va m vc)) w (w6.setCell ⟨bc, 2, none⟩ (.slice a6 (m + 1) c6)) ∧ ((Value.slice a6 (m + 1) c6).ownBlock = (Value.slice va m vc).ownBlock ∨ ∃ g, (Value.slice a6 (m + 1) c6).ownBlock = some g ∧ w.heap.size ≤ g)) := fun a6 c6 w6 hown hgrow hat => by
    have hal := sup_pc9 w1 (.cells #[.pointer (some ⟨b, 0, none⟩)] PB)
    have ho : Out (fun g => (Value.slice va m vc).ownBlock = some g) (w1.alloc (.cells #[.pointer (some ⟨b, 0, none⟩)] PB)) w6 := Out.of_grown hgrow (fun g e => e)
    have hrow := own_later HG1.out.row hal
    have hcb6 : CB w6 bc bm room uses (.slice va m vc) := (HC1.out.later hal).out ho (blo_own hrow (HC1.out.later hal) (by decide))
    have ex : ptrs h m ++ [.pointer (some ⟨b, 0, none⟩)] = ptrs (upn h m b) (m + 1) := by
      rw [ptrs_succ, upn_at]
      congr 1
      exact ptrs_congr (fun i hi => (upn_ne h b (by omega)).symm)
    rw [ex] at hown
    have hne : ∀ cs, Blo w6 bc CT cs → (Value.slice a6 (m + 1) c6).ownBlock ≠ some bc := fun cs hb => blo_own hown hb (by decide)
    have hb6 : ∀ g s x, BufO w1 g s x → BufO w6 g s x := fun g s x hb => by
      obtain ⟨cs, h1, h2⟩ := hb.later hal
      exact ⟨cs, ho.blo h1 (blo_own hrow h1 (by decide)), h2⟩
    refine ⟨hcb6, Blo.put hcb6 2 _, ⟨own_far hown (p := ⟨bc, 2, none⟩) (fun e => hne _ hcb6 e.symm) _, fun k hk => ?_⟩, ?_, ?_⟩
    · by_cases e : k = m
      · subst e
        rw [upn_at]
        exact (hb6 _ _ _ HB1.out).far (p := ⟨bc, 2, none⟩) hnb _
      · rw [upn_ne h b e]
        have := hb6 _ _ _ (HG1.out.buf k (by omega))
        exact this.far (p := ⟨bc, 2, none⟩) (this.apart hcb6 (by decide)) _
    · refine Out.put ?_ (p := ⟨bc, 2, none⟩) (.inl rfl) _
      refine HO1.out.trans ((Out.of_below hal : Out (XP bc b (.slice va m vc)) w1 _).trans ho (fun i _ e => .inr (.inr e))) (fun i _ e => e)
    · rcases hat with e | e
      · exact .inl e
      · exact .inr ⟨_, e, by have := HZ.out; simp; omega⟩
  go_wp2_with (at_builtin; (refine wp_append_rowO rfl (.tmp 17) (.tmp 19) 67 rfl base PB (.pointer none) 1 8 Try.underlying67 info_pb (by kernel_rfl) (by decide) (by decide) (.slice va m vc) m _ rfl (own_later HG1.out.row (sup_pc9 w1 _)) (some ⟨w1.heap.size, 0, none⟩) 1 1 [.pointer (some ⟨b, 0, none⟩)] rfl rfl (laid_srcO w1 PB _ _ rfl) (by simp [Value.oneCell']) (fun h => by cases h) (by omega) (by simp; omega) ?_; intro a6 c6 w6 hown hgrow hat; have HE6 := Lib.hid (HEnd.out a6 c6 w6 hown hgrow hat).2; have hcb6 := (HEnd.out a6 c6 w6 hown hgrow hat).1; have k6 := hcb6.cell.2.2.1; have g6 := Blo.frozen hcb6 2; clear hown hgrow hat hcb6))
  go_end0
  exact ⟨rfl, _, _, HE6.out⟩
end
end Go.Proofs.Ytdnkeplmjimjcaa
/-
  A map from integers to pointers, told by a function from its keys to blocks.
-/
namespace Go.Proofs.Ytdnkeplmjimjcaa
open Go.RowKit Go.Maps

/-- How a pointer reads: as its block's number. -/
def ptrE (v : Value) : Option (DataW (Option Nat) × List MemPlace) :=
  match v with
  | .pointer none => some (.held none, [])
  | .pointer (some ⟨b, 0, none⟩) => some (.held (some b), [])
  | _ => none
abbrev ptrV (p : Option Nat) : Value := .pointer (p.map fun b => ⟨b, 0, none⟩)
theorem ptrE_mk (p : Option Nat) : ptrE (ptrV p) = some (.held p, []) := by cases p <;> rfl
theorem ptrE_inv {v : Value} {z : DataW (Option Nat) × List MemPlace} (h : ptrE v = some z) : ∃ p, v = ptrV p ∧ z = (.held p, []) := by
  unfold ptrE at h
  split at h
  · cases h; exact ⟨none, rfl, rfl⟩
  · cases h; exact ⟨some _, rfl, rfl⟩
  · cases h
theorem keyI : Keyed Try.prog 3 := int_keyed Try.underlying3
theorem isKeyI (x : Int) : WideAt.IsKeyLit (.int .i64 x) := by first | trivial | exact ⟨⟩ | simp [WideAt.IsKeyLit]
/-- Block b is a map that leads from x to the block f x. -/
def PM (w : World) (b n : Nat) (f : Int → Option Nat) : Prop :=
  ∃ D : DataW (Option Nat), w.ownsMap Try.prog 3 ptrE b n D ∧ ∀ x : Int, Maps.has D (.int .i64 x) = (f x).isSome ∧ D.atKey (.int .i64 x) (.held none) = .held (f x)
def updO {α : Type} (f : Int → α) (x : Int) (v : α) : Int → α := fun y => if y = x then v else f y
theorem updO_at {α : Type} (f : Int → α) (x : Int) (v : α) : updO f x v x = v := by simp [updO]
theorem updO_ne {α : Type} (f : Int → α) {x y : Int} (v : α) (h : y ≠ x) : updO f x v y = f y := by simp [updO, h]
theorem wfI (x : Int) (h1 : -9223372036854775808 ≤ x) (h2 : x ≤ 9223372036854775807) : (Lit.int .i64 x).wf = true := by simp [Lit.wf, IntKind.min, IntKind.max, IntKind.signed, IntKind.bits]; omega
theorem litI_ne {x y : Int} (h : y ≠ x) : (Lit.int .i64 y) ≠ (Lit.int .i64 x) := fun e => h (by injection e)
theorem PM.made (w : World) : PM (w.alloc (.map #[] 0)) w.heap.size 0 (fun _ => none) :=
  ⟨_, World.ownsMap_made w Try.prog 3 ptrE, fun x => ⟨by simp [Maps.has], rfl⟩⟩
theorem PM.kept {w w' : World} {b n : Nat} {f : Int → Option Nat} (h : PM w b n f) {row : Option Nat} (hg : w.grownBy w' row) (hne : some b ≠ row) : PM w' b n f := by
  obtain ⟨D, h1, h2⟩ := h
  exact ⟨D, h1.kept hg hne, h2⟩
theorem PM.later {w w' : World} {b n : Nat} {f : Int → Option Nat} (h : PM w b n f) (hb : Below w.heap.size w w') : PM w' b n f := h.kept (row := none) (grown_of_below hb none) (by simp)
theorem PM.mono {w : World} {b n n' : Nat} {f : Int → Option Nat} (h : PM w b n f) (hn : n ≤ n') : PM w b n' f := by
  obtain ⟨D, h1, h2⟩ := h
  exact ⟨D, h1.mono hn, h2⟩
theorem PM.far {w : World} {b n : Nat} {f : Int → Option Nat} (h : PM w b n f) {a : Addr} (ha : b ≠ a.block) (u : Value) : PM (w.setCell a u) b n f := by
  obtain ⟨D, h1, h2⟩ := h
  exact ⟨D, h1.setCell ha u, h2⟩
theorem PM.lt {w : World} {b n : Nat} {f : Int → Option Nat} (h : PM w b n f) : b < w.heap.size := by
  obtain ⟨D, h1, h2⟩ := h
  exact h1.lt
theorem PM.blo {w : World} {b n g : Nat} {f : Int → Option Nat} {t : TypeId} {cs : Array Value} (h : PM w b n f) (hb : Blo w g t cs) : b ≠ g := by
  rintro rfl
  obtain ⟨D, ⟨es, clock, hx, _⟩, _⟩ := h
  unfold Blo at hb
  rw [hx] at hb
  cases hb
section
variable (w : World) {ops : Array Oper} {rest : List Oper} {o : Oper} {a : Act} {Q : Exit → Act → World → Prop}
theorem wp_look_ok (hg : o.guard = none) (m x : Operand) (t : TypeId) (hop : o.op = Op.lookup t m x true) (e : TypeId) (ht : Try.prog.underlying t = some (.map 3 e)) (hz : (zeroValue e).run Try.prog w = .ok (.pointer none) w) (b n : Nat) (f : Int → Option Nat)
    (hm : a.eval m = .map (some b)) (hown : PM w b n f) (k : Int) (hx : a.eval x = .int .i64 k) (hkw : (Lit.int .i64 k).wf = true)
    (hK : wpList Try.prog ops Q rest (a.put o.dst (.tuple #[ptrV (f k), .bool (f k).isSome])) w) : wpList Try.prog ops Q (o :: rest) a w := by
  obtain ⟨D, h1, h2⟩ := hown
  refine wpList_lookup_own_ok w hg m x t hop 3 e keyI ht ptrE hz (.held none) [] rfl b n D hm h1 _ (.int .i64 k) hx (keyOf_int_mk Try.underlying3 hkw) ?_
  intro v ps hv
  obtain ⟨p, rfl, hp⟩ := ptrE_inv hv
  have e1 := (h2 k).2
  have e2 : D.atKey (.int .i64 k) (.held none) = .held p := congrArg Prod.fst hp
  rw [e2] at e1
  cases e1
  rw [(h2 k).1]
  exact hK
theorem wp_look (hg : o.guard = none) (m x : Operand) (t : TypeId) (hop : o.op = Op.lookup t m x false) (e : TypeId) (ht : Try.prog.underlying t = some (.map 3 e)) (hz : (zeroValue e).run Try.prog w = .ok (.pointer none) w) (b n : Nat) (f : Int → Option Nat)
    (hm : a.eval m = .map (some b)) (hown : PM w b n f) (k : Int) (hx : a.eval x = .int .i64 k) (hkw : (Lit.int .i64 k).wf = true)
    (hK : wpList Try.prog ops Q rest (a.put o.dst (ptrV (f k))) w) : wpList Try.prog ops Q (o :: rest) a w := by
  obtain ⟨D, h1, h2⟩ := hown
  refine wpList_plain hg fun K' hK' => ?_
  obtain ⟨v, ps, hrun, hv⟩ := h1.lookup keyI ht hz (zd := .held none) (zp := []) rfl (key := .int .i64 k) (kl := .int .i64 k) (keyOf_int_mk Try.underlying3 hkw)
  obtain ⟨p, rfl, hp⟩ := ptrE_inv hv
  have e1 := (h2 k).2
  have e2 : D.atKey (.int .i64 k) (.held none) = .held p := congrArg Prod.fst hp
  rw [e2] at e1
  cases e1
  unfold Oper.wp
  simp [execOp, hop, hm, hx, hrun, Result.andThen]
  exact hK' _ _ hK
theorem wp_look_ok_some (hg : o.guard = none) (m x : Operand) (t : TypeId) (hop : o.op = Op.lookup t m x true) (e : TypeId) (ht : Try.prog.underlying t = some (.map 3 e)) (hz : (zeroValue e).run Try.prog w = .ok (.pointer none) w) (b n : Nat) (f : Int → Option Nat)
    (hm : a.eval m = .map (some b)) (hown : PM w b n f) (k : Int) (hx : a.eval x = .int .i64 k) (hkw : (Lit.int .i64 k).wf = true) (g : Nat) (hf : f k = some g)
    (hK : wpList Try.prog ops Q rest (a.put o.dst (.tuple #[.pointer (some ⟨g, 0, none⟩), .bool true])) w) : wpList Try.prog ops Q (o :: rest) a w :=
  wp_look_ok w hg m x t hop e ht hz b n f hm hown k hx hkw (by rw [hf]; exact hK)
theorem wp_look_ok_none (hg : o.guard = none) (m x : Operand) (t : TypeId) (hop : o.op = Op.lookup t m x true) (e : TypeId) (ht : Try.prog.underlying t = some (.map 3 e)) (hz : (zeroValue e).run Try.prog w = .ok (.pointer none) w) (b n : Nat) (f : Int → Option Nat)
    (hm : a.eval m = .map (some b)) (hown : PM w b n f) (k : Int) (hx : a.eval x = .int .i64 k) (hkw : (Lit.int .i64 k).wf = true) (hf : f k = none)
    (hK : wpList Try.prog ops Q rest (a.put o.dst (.tuple #[.pointer none, .bool false])) w) : wpList Try.prog ops Q (o :: rest) a w :=
  wp_look_ok w hg m x t hop e ht hz b n f hm hown k hx hkw (by rw [hf]; exact hK)
theorem wp_look_some (hg : o.guard = none) (m x : Operand) (t : TypeId) (hop : o.op = Op.lookup t m x false) (e : TypeId) (ht : Try.prog.underlying t = some (.map 3 e)) (hz : (zeroValue e).run Try.prog w = .ok (.pointer none) w) (b n : Nat) (f : Int → Option Nat)
    (hm : a.eval m = .map (some b)) (hown : PM w b n f) (k : Int) (hx : a.eval x = .int .i64 k) (hkw : (Lit.int .i64 k).wf = true) (g : Nat) (hf : f k = some g)
    (hK : wpList Try.prog ops Q rest (a.put o.dst (.pointer (some ⟨g, 0, none⟩))) w) : wpList Try.prog ops Q (o :: rest) a w :=
  wp_look w hg m x t hop e ht hz b n f hm hown k hx hkw (by rw [hf]; exact hK)
theorem wp_look_none (hg : o.guard = none) (m x : Operand) (t : TypeId) (hop : o.op = Op.lookup t m x false) (e : TypeId) (ht : Try.prog.underlying t = some (.map 3 e)) (hz : (zeroValue e).run Try.prog w = .ok (.pointer none) w) (b n : Nat) (f : Int → Option Nat)
    (hm : a.eval m = .map (some b)) (hown : PM w b n f) (k : Int) (hx : a.eval x = .int .i64 k) (hkw : (Lit.int .i64 k).wf = true) (hf : f k = none)
    (hK : wpList Try.prog ops Q rest (a.put o.dst (.pointer none)) w) : wpList Try.prog ops Q (o :: rest) a w :=
  wp_look w hg m x t hop e ht hz b n f hm hown k hx hkw (by rw [hf]; exact hK)
theorem wp_map_put (hg : o.guard = none) (m x v : Operand) (t : TypeId) (hop : o.op = Op.mapUpdate t m x v) (e : TypeId) (ht : Try.prog.underlying t = some (.map 3 e)) (b n : Nat) (f : Int → Option Nat)
    (hm : a.eval m = .map (some b)) (hown : PM w b n f) (hn : n < 1000000) (k : Int) (hx : a.eval x = .int .i64 k) (hkw : (Lit.int .i64 k).wf = true) (p : Option Nat) (hv : a.eval v = ptrV p) (hp : p.isSome = true)
    (hK : ∀ w', PM w' b (n + 1) (updO f k p) → w.grownBy w' (some b) → wpList Try.prog ops Q rest (a.put o.dst undef) w') : wpList Try.prog ops Q (o :: rest) a w := by
  obtain ⟨D, h1, h2⟩ := hown
  refine wpList_mapUpdate_own w hg m x v t hop 3 e keyI ht ptrE b n D hm h1 (by unfold maxLen; omega) _ _ (.int .i64 k) hx hv (keyOf_int_mk Try.underlying3 hkw) (.held p) [] (ptrE_mk p) ?_
  intro w' h3 h4
  have hT := h1.tidy keyI
  refine hK w' ⟨_, h3, fun y => ?_⟩ h4
  by_cases hy : y = k
  · subst hy
    rw [updO_at, has_put_same hT.isMap (isKeyI y), atKey_put_same hT.isMap (isKeyI y), hp]
    exact ⟨rfl, rfl⟩
  · rw [updO_ne _ _ hy, has_put_other (litI_ne hy), atKey_put_other (litI_ne hy)]
    exact h2 y
theorem wp_map_del (hg : o.guard = none) (m x : Operand) (t : TypeId) (hop : o.op = Op.call { callee := Callee.builtin Builtin.delete, args := #[m, x], argTypes := #[t, 3] }) (e : TypeId) (ht : Try.prog.underlying t = some (.map 3 e)) (b n : Nat) (f : Int → Option Nat)
    (hm : a.eval m = .map (some b)) (hown : PM w b n f) (k : Int) (hx : a.eval x = .int .i64 k) (hkw : (Lit.int .i64 k).wf = true)
    (hK : ∀ w', PM w' b n (updO f k none) → w.grownBy w' (some b) → wpList Try.prog ops Q rest (a.put o.dst (.tuple #[])) w') : wpList Try.prog ops Q (o :: rest) a w := by
  obtain ⟨D, h1, h2⟩ := hown
  refine wpList_delete_own w hg m x t 3 hop e keyI ht ptrE b n D hm h1 _ (.int .i64 k) hx (keyOf_int_mk Try.underlying3 hkw) ?_
  intro w' h3 h4
  have hT := h1.tidy keyI
  refine hK w' ⟨_, h3, fun y => ?_⟩ h4.grown
  by_cases hy : y = k
  · subst hy
    rw [updO_at, has_del_same, atKey_del_same]
    exact ⟨rfl, rfl⟩
  · rw [updO_ne _ _ hy, has_del_other (litI_ne hy), atKey_del_other (litI_ne hy)]
    exact h2 y
end
end Go.Proofs.Ytdnkeplmjimjcaa
/-
  A map from pairs of integers to pointers, told by a function from its keys to blocks; its keys.
-/
namespace Go.Proofs.Ytdnkeplmjimjcaa
open Go.RowKit Go.Maps

abbrev KT := 34
abbrev KMT := 65
def wfK (p : Int × Int) : Prop := (Lit.int .i64 p.1).wf = true ∧ (Lit.int .i64 p.2).wf = true
def keyV (p : Int × Int) : Value := .agg #[.int .i64 p.1, .int .i64 p.2]
def klit (p : Int × Int) : Lit := .string (keyBytes [.int .i64 p.1, .int .i64 p.2])
theorem keyedK : Keyed Try.prog KT := Keyed.of_law (deep_law_laid (by kernel_rfl) (m := 5) (by decide) (by decide +kernel) (by kernel_rfl) (by kernel_rfl))
theorem keyLitsK {p : Int × Int} (h : wfK p) (d : Nat) : Try.prog.keyLits (d + 1 + 1) KT [.int .i64 p.1, .int .i64 p.2] = some [.int .i64 p.1, .int .i64 p.2] := by
  obtain ⟨h1, h2⟩ := h
  have hc : Try.prog.cellsOf KT = 2 := by kernel_rfl
  have hi : Try.prog.cellsOf 3 = 1 := by kernel_rfl
  have leaf : ∀ a : Int, (Lit.int .i64 a).wf = true → Try.prog.keyLits (d + 1) 3 [.int .i64 a] = some [.int .i64 a] := fun a ha => by
    unfold Program.keyLits
    simp only [Try.underlying3]
    simp [ha]
  unfold Program.keyLits
  simp only [Try.underlying34]
  simp [hc, hi, leaf _ h1, leaf _ h2]
theorem keyOf_struct {P : Program} {k : TypeId} {v : Value} {fs : Array Field} {ls : List Lit} {n : Nat} (h1 : P.underlying k = some (.struct fs)) (h2 : P.keyType k = true) (h3 : v.formed P k = true) (hn : P.types.size + 1 = n) (h4 : P.keyLits n k v.cells.toList = some ls) : keyOf P k v = some (.string (keyBytes ls)) := by
  unfold keyOf
  rw [h1]
  simp only [h2, h3, hn, h4, Bool.and_self, if_true, Option.map_some]
theorem keyOfK {p : Int × Int} (h : wfK p) : keyOf Try.prog KT (keyV p) = some (klit p) :=
  keyOf_struct Try.underlying34 (by kernel_rfl) (by kernel_rfl) (show Try.prog.types.size + 1 = 138 + 1 + 1 by kernel_rfl) (keyLitsK h 138)
theorem klit_inj {p q : Int × Int} (hp : wfK p) (hq : wfK q) (e : klit p = klit q) : p = q := by
  have h1 := keyOfK hp
  have h2 := keyOfK hq
  rw [e] at h1
  have h3 := keyedK.inj h1 h2
  unfold keyV at h3
  obtain ⟨a, b⟩ := p
  obtain ⟨c, d⟩ := q
  simp at h3
  rw [h3.1, h3.2]
theorem klit_key {p : Int × Int} (hp : wfK p) : WideAt.IsKeyLit (klit p) := keyedK.key (keyOfK hp)
theorem zeroP (w : World) : (zeroValue 80).run Try.prog w = .ok (.pointer none) w := by kernel_rfl
def updP {α : Type} (f : Int × Int → α) (x : Int × Int) (v : α) : Int × Int → α := fun y => if y = x then v else f y
theorem updP_at {α : Type} (f : Int × Int → α) (x : Int × Int) (v : α) : updP f x v x = v := if_pos rfl
theorem updP_ne {α : Type} (f : Int × Int → α) {x y : Int × Int} (v : α) (h : y ≠ x) : updP f x v y = f y := if_neg h
/-- Block g is a map that leads from f's keys to f's blocks; ks are its keys, each once. -/
def KM (w : World) (g n : Nat) (f : Int × Int → Option Nat) (ks : List (Int × Int)) : Prop :=
  ∃ D : DataW (Option Nat), w.ownsMap Try.prog KT ptrE g n D ∧ (∀ p, wfK p → Maps.has D (klit p) = (f p).isSome ∧ D.atKey (klit p) (.held none) = .held (f p)) ∧
    ks.Nodup ∧ (∀ p, p ∈ ks ↔ (f p).isSome = true) ∧ (∀ p, (f p).isSome = true → wfK p) ∧ Maps.size D = ks.length
theorem KM.made (w : World) : KM (w.alloc (.map #[] 0)) w.heap.size 0 (fun _ => none) [] :=
  ⟨_, World.ownsMap_made w Try.prog KT ptrE, fun x _ => ⟨by simp [Maps.has], rfl⟩, List.nodup_nil, fun x => (by simp), ⟨fun x h => (by simp at h), rfl⟩⟩
section
variable {w w' : World} {g n : Nat} {f : Int × Int → Option Nat} {ks : List (Int × Int)}
theorem KM.kept (h : KM w g n f ks) {row : Option Nat} (hg : w.grownBy w' row) (hne : some g ≠ row) : KM w' g n f ks := by
  obtain ⟨D, h1, h2⟩ := h
  exact ⟨D, h1.kept hg hne, h2⟩
theorem KM.later (h : KM w g n f ks) (hb : Below w.heap.size w w') : KM w' g n f ks := h.kept (row := none) (grown_of_below hb none) (by simp)
theorem KM.obj (h : KM w g n f ks) : ∃ es c, w.heap[g]? = some (.map es c) := by
  obtain ⟨D, ⟨es, c, hx, _⟩, _⟩ := h
  exact ⟨es, c, hx⟩
theorem KM.same (h : KM w g n f ks) (he : ∀ o, w.heap[g]? = some o → w'.heap[g]? = some o) : KM w' g n f ks := by
  obtain ⟨D, ⟨es, c, hx, hr⟩, h2⟩ := h
  exact ⟨D, ⟨es, c, he _ hx, hr⟩, h2⟩
theorem KM.lt (h : KM w g n f ks) : g < w.heap.size := by
  obtain ⟨es, c, hx⟩ := h.obj
  exact (Array.getElem?_eq_some_iff.1 hx).1
theorem KM.blo (h : KM w g n f ks) {k : Nat} {t : TypeId} {cs : Array Value} (hb : Blo w k t cs) : g ≠ k := by
  rintro rfl
  obtain ⟨es, c, hx⟩ := h.obj
  unfold Blo at hb
  rw [hx] at hb
  cases hb
theorem KM.look_ok (h : KM w g n f ks) {p : Int × Int} (hp : wfK p) : (Instr.lookup KMT (.map (some g)) (keyV p) true).run Try.prog w = .ok (.tuple #[ptrV (f p), .bool (f p).isSome]) w := by
  obtain ⟨D, h1, h2, _⟩ := h
  obtain ⟨v, ps, hrun, hv⟩ := h1.look_ok keyedK Try.underlying65 (zeroP w) (zd := .held none) (zp := []) rfl (keyOfK hp)
  obtain ⟨q, rfl, hq⟩ := ptrE_inv hv
  have e1 := (h2 p hp).2
  have e2 : D.atKey (klit p) (.held none) = .held q := congrArg Prod.fst hq
  rw [e2] at e1
  cases e1
  rw [hrun, (h2 p hp).1]
theorem KM.look (h : KM w g n f ks) {p : Int × Int} (hp : wfK p) : (Instr.lookup KMT (.map (some g)) (keyV p) false).run Try.prog w = .ok (ptrV (f p)) w := by
  obtain ⟨D, h1, h2, _⟩ := h
  obtain ⟨v, ps, hrun, hv⟩ := h1.lookup keyedK Try.underlying65 (zeroP w) (zd := .held none) (zp := []) rfl (keyOfK hp)
  obtain ⟨q, rfl, hq⟩ := ptrE_inv hv
  have e1 := (h2 p hp).2
  have e2 : D.atKey (klit p) (.held none) = .held q := congrArg Prod.fst hq
  rw [e2] at e1
  cases e1
  exact hrun
theorem KM.len (h : KM w g n f ks) (ty : TypeId) : (Builtin.len_ #[KMT] ty #[.map (some g)]).run Try.prog w = .ok (.int .i64 (ks.length : Nat)) w := by
  obtain ⟨D, h1, h2, h5, h6, h8, h7⟩ := h
  rw [h1.len Try.underlying65 ty, h7]
def addP (ks : List (Int × Int)) (p : Int × Int) : List (Int × Int) := if p ∈ ks then ks else ks ++ [p]
theorem addP_mem (ks : List (Int × Int)) (k x : Int × Int) : x ∈ addP ks k ↔ x ∈ ks ∨ x = k := by
  unfold addP
  split
  · constructor
    · exact .inl
    · rintro (h | rfl)
      · exact h
      · assumption
  · simp
theorem KM.put (h : KM w g n f ks) (hn : n < 1000000) {p : Int × Int} (hp : wfK p) (b : Nat) : ∃ w', (Instr.mapUpdate KMT (.map (some g)) (keyV p) (.pointer (some ⟨b, 0, none⟩))).run Try.prog w = .ok () w' ∧ KM w' g (n + 1) (updP f p (some b)) (addP ks p) ∧ w.grownBy w' (some g) := by
  obtain ⟨D, h1, h2, h5, h6, h8, h7⟩ := h
  obtain ⟨w', hrun, h3, h4⟩ := h1.update keyedK Try.underlying65 (by unfold maxLen; omega) (keyOfK hp) (ptrE_mk (some b))
  have hT := h1.tidy keyedK
  refine ⟨w', hrun, ⟨_, h3, fun z hz => ?_, ?_, fun z => ?_, fun z hz => ?_, ?_⟩, h4⟩
  · by_cases e : z = p
    · subst e
      rw [updP_at, has_put_same hT.isMap (klit_key hz), atKey_put_same hT.isMap (klit_key hz)]
      exact ⟨rfl, rfl⟩
    · have en : klit z ≠ klit p := fun q => e (klit_inj hz hp q)
      rw [updP_ne _ _ e, has_put_other en, atKey_put_other en]
      exact h2 z hz
  · unfold addP
    split
    · exact h5
    · rename_i hk
      rw [List.nodup_append]
      exact ⟨h5, by simp, fun a ha b hb => by simp at hb; subst hb; intro e; subst e; exact hk ha⟩
  · rw [addP_mem, h6]
    by_cases e : z = p
    · subst e; rw [updP_at]; simp
    · rw [updP_ne _ _ e]; simp [e]
  · by_cases e : z = p
    · subst e; exact hp
    · rw [updP_ne _ _ e] at hz; exact h8 z hz
  · rw [size_put hT, (h2 p hp).1, h7]
    unfold addP
    by_cases hk : p ∈ ks
    · rw [if_pos hk, if_pos ((h6 p).1 hk)]
    · rw [if_neg hk, if_neg (fun e => hk ((h6 p).2 e)), List.length_append]; rfl
theorem KM.del (h : KM w g n f ks) {p : Int × Int} (hp : wfK p) (hin : p ∈ ks) (ty : TypeId) : ∃ w', (Builtin.delete_ #[KMT, KT] ty #[.map (some g), keyV p]).run Try.prog w = .ok (.tuple #[]) w' ∧ KM w' g n (updP f p none) (ks.erase p) ∧ w.grownBy w' (some g) := by
  obtain ⟨D, h1, h2, h5, h6, h8, h7⟩ := h
  obtain ⟨w', hrun, h3, h4⟩ := h1.drop keyedK Try.underlying65 (keyOfK hp) ty
  have hT := h1.tidy keyedK
  refine ⟨w', hrun, ⟨_, h3, fun z hz => ?_, h5.erase p, fun z => ?_, fun z hz => ?_, ?_⟩, h4.grown⟩
  · by_cases e : z = p
    · subst e
      rw [updP_at, has_del_same, atKey_del_same]
      exact ⟨rfl, rfl⟩
    · have en : klit z ≠ klit p := fun q => e (klit_inj hz hp q)
      rw [updP_ne _ _ e, has_del_other en, atKey_del_other en]
      exact h2 z hz
  · rw [h5.mem_erase_iff, h6]
    by_cases e : z = p
    · subst e; rw [updP_at]; simp
    · rw [updP_ne _ _ e]; simp [e]
  · by_cases e : z = p
    · subst e; rw [updP_at] at hz; cases hz
    · rw [updP_ne _ _ e] at hz; exact h8 z hz
  · have e := size_del (k := klit p) hT
    have hpos := List.length_pos_of_mem hin
    rw [(h2 p hp).1, if_pos ((h6 p).1 hin), h7] at e
    rw [List.length_erase_of_mem hin]
    omega
end
end Go.Proofs.Ytdnkeplmjimjcaa
