/-
  TrGrow · TrDat · TrResize · TrTrunc: these texts in one.
-/
import Derived.Test.YtcjojcihjhhpgaaPk07
import Derived.Lib.AppendZerosOnto
import Derived.Deep.RegionLaw
import Derived.OwnWalk
/-
  Bytes of a file: more of them, zeros.
-/
namespace Go.Proofs.Ytcjojcihjhhpgaa
open Go.RowKit

abbrev BYT := 31
abbrev INTT := 3
theorem info_u8t : (Try.prog.info? U8).map (fun i => (i.zero, i.size, i.bytes)) = some (some (.int .u8 0), 1, 1) := by kernel_rfl
def zer (k : Nat) : List Nat := List.replicate k 0
theorem zer_cells (k : Nat) : Builtin.zeroCells (Value.int .u8 0).cells k = (cellsB (zer k)).toArray := by
  apply Array.toList_inj.1
  apply List.ext_getElem (by simp [Builtin.zeroCells, cellsB, zer, Value.cells])
  intro j h1 h2
  simp [Builtin.zeroCells, cellsB, zer, Value.cells, Nat.mod_one]
theorem zer_len (k : Nat) : (zer k).length = k := by simp [zer]
theorem cellsB_len (l : List Nat) : (cellsB l).length = l.length := by simp [cellsB]
theorem cellsB_app (l m : List Nat) : cellsB (l ++ m) = cellsB l ++ cellsB m := by simp [cellsB]
/-- append, whose run is known, as a step of a region that draws its order. -/
theorem step_append_run {P : Program} {ops : Array Oper} {o : Oper} {a : Act} {w : World} {K : Act → World → Prop} {Q : Exit → Act → World → Prop} {E : Prop}
    (hg : o.guard = none) (s x : Operand) (t tn : TypeId) (hop : o.op = Op.call { callee := Callee.builtin Builtin.append, args := #[s, x], argTypes := #[t, tn] })
    (vs vx : Value) (hs : a.eval s = vs) (hx : a.eval x = vx) (v' : Value) (w' : World) (hr : (Builtin.append_ #[t, tn] o.type #[vs, vx]).run P w = .ok v' w') (hK : K (a.put o.dst v') w') :
    if Region.wanted o (yielded ops a.tmps) = true then Oper.wp P o a w K Q else E := by
  have hw : Region.wanted o (yielded ops a.tmps) = true := by simp [Region.wanted, hg]
  rw [if_pos hw]
  exact Lib.wp_append_run w s x t tn hop vs vx hs hx v' w' hr hK
section
variable {w : World} {v : Value} {l : List Nat} {k : Nat}
theorem run_append_room_zeros {b n c : Nat} (h0 : 0 < k) (hr : n + k ≤ c) (hk : k ≤ 100000) (hc : ∀ j, j < k → (w.cell? ⟨b, n + j, none⟩).isSome = true) (hf : ∀ j, j < k → w.frozen? ⟨b, n + j, none⟩ = false) :
    (Builtin.append_ #[BYT, INTT] BYT #[.slice (some ⟨b, 0, none⟩) n c, .int .i64 k]).run Try.prog w = .ok (.slice (some ⟨b, 0, none⟩) (n + k) c) (w.setCells b n (cellsB (zer k))) := by
  obtain ⟨i, hi0, hz, hs1, hb1⟩ := info_parts info_u8t
  have hk0 : k ≠ 0 := by omega
  have hw : IntKind.i64.wrap (k : Int) = k := by rw [IntKind.wrap_i64]; omega
  have hneg : ¬ ((k : Int) < 0) := by omega
  have h48i : ¬ (281474976710656 < (k : Int)) := by omega
  have hl : (cellsB (zer k)).length = k := by rw [cellsB_len, zer_len]
  have hst := run_storeCells_cells (P := Try.prog) b n (cellsB (zer k)) 0 w (by intro j hj; rw [hl] at hj; rw [Nat.add_zero]; exact hc j hj) (by intro j hj; rw [hl] at hj; rw [Nat.add_zero]; exact hf j hj) (by intro u hu; simp [cellsB] at hu; obtain ⟨x, -, rfl⟩ := hu; rfl)
  simp only [Nat.add_zero] at hst
  have hzc := zer_cells k
  simp [Builtin.append_, run_underlying Try.underlying31, run_underlying Try.underlying3, sizeOf, typeInfo, zeroValue, hi0, hz, hs1, hb1, asInt, asIntOf, hw, hneg, hk0, h48i, hr, Addr.add_lit, hst, hzc]
theorem DatO.grow (h : DatO w v l) (h0 : 0 < k) (hk : l.length + k ≤ 38400) : ∃ v' w', (Builtin.append_ #[BYT, INTT] BYT #[v, .int .i64 k]).run Try.prog w = .ok v' w' ∧ DatO w' v' (l ++ zer k) ∧
    Out (fun g => v.ownBlock = some g) w w' ∧ (∀ g, v'.ownBlock = some g → v.ownBlock = some g ∨ w.heap.size ≤ g) := by
  obtain ⟨i, hi0, hz, hs1, hb1⟩ := info_parts info_u8t
  rcases h with ⟨rfl, rfl⟩ | ⟨g, c, cur, rfl, h1, h2, h3, h4⟩
  · have hr := Lib.run_append_nil_zeros (P := Try.prog) w BYT INTT BYT U8 i (.int .u8 0) .i64 .i64 Try.underlying31 Try.underlying3 hi0 hz k h0 (by omega) (by simp at hk; omega) (by rw [hb1]; simp at hk; omega)
    rw [zer_cells, zer_cells] at hr
    have hge := grownCap_ge w k 0 U8
    refine ⟨_, _, hr, .inr ⟨w.heap.size, grownCap w k 0 U8, _, ?_, ?_, ?_, heap_alloc_new w.drew _, ?_⟩, (Out.of_below ((Below.refl _ _).drew.alloc (Nat.le_refl _) _)), fun g hg => ?_⟩
    · simp [zer_len]
    · simpa [zer_len] using hge
    · simp [cellsB_len, zer_len]; omega
    · simp [cellsB_len, zer_len]
    · cases hg; exact .inr (Nat.le_refl _)
  · by_cases hroom : l.length + k ≤ c
    · have hcell : ∀ j, j < cur.size → (w.cell? ⟨g, j, none⟩).isSome = true := fun j hj => by
        rw [h3.cell, Array.getElem?_eq_getElem hj]; rfl
      have hr := run_append_room_zeros (w := w) (b := g) h0 hroom (by omega) (fun j hj => hcell _ (by omega)) (fun j hj => h3.frozen _)
      obtain ⟨cs', q1, q2, q3⟩ := blo_cells (cellsB (zer k)) l.length w cur h3
      have hl : (cellsB (zer k)).length = k := by rw [cellsB_len, zer_len]
      refine ⟨_, _, hr, .inr ⟨g, c, cs', by rw [List.length_append, zer_len], by rw [List.length_append, zer_len]; exact hroom, by omega, q1, ?_⟩, out_cells _ _ _ rfl, fun g' hg => .inl hg⟩
      rw [List.length_append, zer_len, cellsB_app]
      refine List.ext_getElem? fun j => ?_
      by_cases hj : j < l.length + k
      · rw [List.getElem?_take_of_lt hj, Array.getElem?_toList, q3, hl]
        by_cases hj2 : l.length ≤ j
        · rw [if_pos ⟨hj2, hj, by omega⟩, List.getElem?_append_right (by rw [cellsB_len]; exact hj2), cellsB_len]
        · rw [if_neg (fun q => hj2 q.1), List.getElem?_append_left (by rw [cellsB_len]; omega), ← h4, List.getElem?_take_of_lt (by omega), Array.getElem?_toList]
      · rw [List.getElem?_eq_none (by rw [List.length_take]; omega), List.getElem?_eq_none (by rw [List.length_append, cellsB_len, hl]; omega)]
    · have hold := run_firstCells_some (P := Try.prog) (w := w.drew) 1 l.length ⟨g, 0, none⟩ l.length c (cellsB l) (by rw [cellsB_len]; omega) (fun j u hu => by
        have hj : j < l.length := by
          have := (List.getElem?_eq_some_iff.1 hu).1
          rw [cellsB_len] at this
          exact this
        rw [← h4, List.getElem?_take_of_lt hj, Array.getElem?_toList] at hu
        have e : (⟨g, 0, none⟩ : Addr).add j = ⟨g, j, none⟩ := by rw [Addr.add_lit, Nat.zero_add]
        rw [e]
        exact (h3.drew.cell j).trans hu)
      have hr := Lib.run_append_grow_zeros (P := Try.prog) w BYT INTT BYT U8 i (.int .u8 0) .i64 .i64 Try.underlying31 Try.underlying3 hi0 hz (some ⟨g, 0, none⟩) l.length c (cellsB l) (by rw [hs1]; exact hold) k h0 (by omega) (by omega) (by omega) (by rw [hb1]; omega) (growslice_fits (by omega) (by rw [hb1]; omega))
      rw [zer_cells, zer_cells] at hr
      have hge := grownCap_ge w (l.length + k) c U8
      refine ⟨_, _, hr, .inr ⟨w.heap.size, grownCap w (l.length + k) c U8, _, ?_, ?_, ?_, heap_alloc_new w.drew _, ?_⟩, (Out.of_below ((Below.refl _ _).drew.alloc (Nat.le_refl _) _)), fun g hg => ?_⟩
      · simp [zer_len]
      · simpa [zer_len] using hge
      · simp [cellsB_len, zer_len]; omega
      · simp only [Array.toList_append, List.length_append, zer_len, cellsB_app]
        exact List.take_left' (by rw [List.length_append, cellsB_len, cellsB_len, zer_len])
      · cases hg; exact .inr (Nat.le_refl _)
end
end Go.Proofs.Ytcjojcihjhhpgaa
/-
  Other bytes in a file.
-/
namespace Go.Proofs.Ytcjojcihjhhpgaa
open Go.RowKit

def Tr.dat (T : Tr) (i : Nat) (l : List Nat) : Tr := { T with D := updN T.D i l }
def Pl.dv (p : Pl) (i : Nat) (v : Value) : Pl := { p with DV := updN p.DV i v }
section
variable {w w1 w2 : World} {cnt : Nat} {T : Tr} {p : Pl} {i : Nat} {l : List Nat} {v : Value}
theorem DatO.blk {g : Nat} (h : DatO w v l) (hg : v.ownBlock = some g) : ∃ cs, Blo w g U8 cs := by
  rcases h with ⟨rfl, -⟩ | ⟨g', c, cur, rfl, -, -, q, -⟩
  · cases hg
  · cases hg
    exact ⟨cur, q⟩
theorem Tr.dat_wf (h : TrW T) (hl : l.length ≤ 38400) (hb : ∀ y ∈ l, y < 256) : TrW (T.dat i l) := by
  refine ⟨h.n4, h.n2, h.root, h.kind, h.rng, h.ent, h.lk, fun j => ?_, fun j => ?_⟩
  · show (updN T.D i l j).length ≤ 38400
    by_cases e : j = i
    · subst e; rw [updN_at]; exact hl
    · rw [updN_ne _ _ e]; exact h.sz j
  · show ∀ y ∈ updN T.D i l j, y < 256
    by_cases e : j = i
    · subst e; rw [updN_at]; exact hb
    · rw [updN_ne _ _ e]; exact h.by_ j
theorem TrM.dvlt (h : TrM w cnt T p) {j g : Nat} (hj : T.K j = 1) (hg : (p.DV j).ownBlock = some g) : g < w.heap.size := by
  obtain ⟨cs, hb⟩ := (h.dat j hj).blk hg
  exact hb.lt
theorem TrM.setDat (h : TrM w cnt T p) (hi : T.K i = 1) (ho : Out (fun g => (p.DV i).ownBlock = some g) w w1) (hd : DatO w1 v l) (hv : ∀ g, v.ownBlock = some g → (p.DV i).ownBlock = some g ∨ w.heap.size ≤ g) (hl : l.length ≤ 38400) (hb : ∀ y ∈ l, y < 256) :
    TrG w T p (w1.setCell ⟨p.B i, 4, none⟩ v) cnt (T.dat i l) (p.dv i v) := by
  have hil : T.live i := by unfold Tr.live; omega
  obtain ⟨n1, n2, n3, n4⟩ := h.apartN hil
  have ho2 : Out (fun g => g = p.B i) w1 (w1.setCell ⟨p.B i, 4, none⟩ v) := out_put _ _ _ rfl
  have hX : ∀ g t cs, Blo w g t cs → t ≠ U8 → ¬ (p.DV i).ownBlock = some g := fun g t cs hg ht e => by
    obtain ⟨cs', q⟩ := (h.dat i hi).blk e
    exact hg.apart q ht rfl
  have hM : ∀ j, T.K j = 2 → ¬ (p.DV i).ownBlock = some (p.MB j) := fun j hj e => by
    obtain ⟨cs', q⟩ := (h.dat i hi).blk e
    obtain ⟨ks, hs⟩ := h.map j hj
    exact hs.blo q rfl
  have hD : ∀ j, j ≠ i → (T.dat i l).D j = T.D j := fun j e => updN_ne _ _ e
  have hV : ∀ j, j ≠ i → (p.dv i v).DV j = p.DV j := fun j e => updN_ne _ _ e
  have hDi : (T.dat i l).D i = l := updN_at _ _ _
  have hVi : (p.dv i v).DV i = v := updN_at _ _ _
  have vlt : ∀ g, v.ownBlock = some g → g ≠ p.B i := fun g hg e => by
    obtain ⟨cs, q⟩ := hd.blk hg
    have q2 := ho.blo (h.node i hil) (hX _ _ _ (h.node i hil) (by decide))
    exact q.apart q2 (by decide) e
  have l1 : ∀ j, T.K j = 1 → T.live j := fun j e => by unfold Tr.live; omega
  refine ⟨⟨Tr.dat_wf h.wf hl hb, ho2.blo (ho.blo h.tree (hX _ _ _ h.tree (by decide))) n1, ho2.blo (ho.blo h.row (hX _ _ _ h.row (by decide))) n2, fun j hj => ?_, fun j hj => ?_, fun j hj => ?_, fun j hj => ?_, h.injB, h.injM, fun j t hj ht hne g hg => ?_⟩, ?_, fun g hg => ?_, rfl⟩
  · have hj : T.live j := hj
    have q := ho.blo (h.node j hj) (hX _ _ _ (h.node j hj) (by decide))
    by_cases e : j = i
    · subst e
      have e2 : ndC (T.dat j l) (p.dv j v) j = (ndC T p j).setIfInBounds 4 v := by
        unfold ndC
        show #[_, _, _, _, (p.dv j v).DV j] = _
        rw [hVi]
        rfl
      rw [e2]
      exact q.put 4 _
    · have e2 : ndC (T.dat i l) (p.dv i v) j = ndC T p j := by
        unfold ndC
        rw [hV j e]
        rfl
      rw [e2]
      exact ho2.blo q (fun x => e (h.injB j i hj hil x))
  · obtain ⟨ks, hs⟩ := h.map j hj
    exact ⟨ks, (hs.out ho (hM j hj)).out ho2 (n3 j hj)⟩
  · have hj : T.K j = 1 := hj
    by_cases e : j = i
    · subst e
      rw [hDi, hVi]
      exact hd.out ho2 (fun g hg => vlt g hg)
    · rw [hD j e, hV j e]
      exact ((h.dat j hj).out ho (fun g hg x => h.injD i j hi hj (Ne.symm e) g x hg)).out ho2 (fun g hg => n4 j hj g hg)
  · have hj : T.K j = 2 := hj
    have e : j ≠ i := fun e => by rw [e, hi] at hj; exact absurd hj (by decide)
    rw [hV j e]
    exact h.dir j hj
  · have hj : T.K j = 1 := hj
    have ht : T.K t = 1 := ht
    by_cases e1 : j = i
    · have e2 : t ≠ i := fun e => hne (by rw [e1, e])
      rw [e1, hVi] at hg
      rw [hV t e2]
      intro q
      rcases hv g hg with x | x
      · exact h.injD i t hi ht (Ne.symm e2) g x q
      · have := h.dvlt ht q
        omega
    · rw [hV j e1] at hg
      by_cases e2 : t = i
      · rw [e2, hVi]
        intro q
        rcases hv g q with x | x
        · exact h.injD j i hj hi e1 g hg x
        · have := h.dvlt hj hg
          omega
      · rw [hV t e2]
        exact h.injD j t hj ht hne g hg
  · exact (ho.mono fun g _ e => .inr (.inr ⟨i, hil, .inr (.inr ⟨hi, e⟩)⟩)).trans ho2 (fun g _ e => by rw [e]; exact .inr (.inr ⟨i, hil, .inl rfl⟩))
  · rcases hg with e | e | ⟨j, hj, e | e | ⟨hk, e⟩⟩
    · exact .inl (.inl e)
    · exact .inl (.inr (.inl e))
    · exact .inl (.inr (.inr ⟨j, hj, .inl e⟩))
    · exact .inl (.inr (.inr ⟨j, hj, .inr (.inl e)⟩))
    · have hk : T.K j = 1 := hk
      by_cases e1 : j = i
      · rw [e1, hVi] at e
        rcases hv g e with x | x
        · exact .inl (.inr (.inr ⟨i, hil, .inr (.inr ⟨hi, x⟩)⟩))
        · exact .inr x
      · rw [hV j e1] at e
        exact .inl (.inr (.inr ⟨j, hj, .inr (.inr ⟨hk, e⟩)⟩))
end
end Go.Proofs.Ytcjojcihjhhpgaa
/-
  resize.
-/
namespace Go.Proofs.Ytcjojcihjhhpgaa
open Go.RowKit

def rszL (l : List Nat) (size : Nat) : List Nat := if size ≤ l.length then l.take size else l ++ zer (size - l.length)
theorem rszL_len (l : List Nat) (size : Nat) : (rszL l size).length = size := by
  unfold rszL
  split
  · rw [List.length_take]; omega
  · rw [List.length_append, zer_len]; omega
theorem rszL_byte {l : List Nat} {size : Nat} (h : ∀ y ∈ l, y < 256) : ∀ y ∈ rszL l size, y < 256 := by
  unfold rszL
  split
  · exact fun y hy => h y (List.mem_of_mem_take hy)
  · intro y hy
    rcases List.mem_append.1 hy with q | q
    · exact h y q
    · have := List.eq_of_mem_replicate q
      omega
def ClO (w : World) (a : Option Addr) (n : Nat) (e : Ending) (w' : World) : Prop := e = .returned (.slice a n n) ∧ w' = w
set_option maxRecDepth 100000 in
theorem clip_none (w : World) : Calls Try.prog 64 #[.slice none 0 0] w (ClO w none 0) := by
  go_enter Try.func64, Try.ntmps64
  go_wp2_with fail
  go_ret
  exact ⟨rfl, rfl⟩
set_option maxRecDepth 100000 in
theorem clip_some {g n c : Nat} (w : World) (h : n ≤ c) : Calls Try.prog 64 #[.slice (some ⟨g, 0, none⟩) n c] w (ClO w (some ⟨g, 0, none⟩) n) := by
  have z1 : (n : Int) ≤ (c : Int) := by omega
  have z0 : (0 : Int) ≤ (n : Int) := by omega
  go_enter Try.func64, Try.ntmps64
  go_wp2_with fail
  go_ret
  exact ⟨rfl, rfl⟩
def RzO (w : World) (cnt : Nat) (T : Tr) (p : Pl) (i size : Nat) (e : Ending) (w' : World) : Prop := e = .returned (.tuple #[]) ∧ ∃ v, TrG w T p w' cnt (T.dat i (rszL (T.D i) size)) (p.dv i v)
section
variable {w : World} {cnt : Nat} {T : Tr} {p : Pl} {i : Nat}
set_option maxRecDepth 100000 in
set_option maxHeartbeats 4000000 in
theorem resize_any (h : TrM w cnt T p) (hk : T.K i = 1) {size : Nat} (hs : size ≤ 38400) : Calls Try.prog 49 #[.pointer (some ⟨p.B i, 0, none⟩), .int .i64 (size : Int)] w (RzO w cnt T p i size) := by
  have hil : T.live i := by unfold Tr.live; omega
  obtain ⟨-, -, -, -, q4⟩ := h.cells hil
  have f4 := (h.node i hil).frozen 4
  have H := Lib.hid h
  have HK := Lib.hid hk
  have HD := Lib.hid (h.dat i hk)
  have HSz := Lib.hid (h.wf.sz i)
  have HSs := Lib.hid hs
  have HBy := Lib.hid (h.wf.by_ i)
  clear h hk hil
  by_cases hle : size ≤ (T.D i).length
  · have HE : Hid (rszL (T.D i) size = (T.D i).take size) := if_pos hle
    rcases HD.out with ⟨hv, hl⟩ | ⟨g, c, cur, hv, h1, h2, h3, h4⟩
    · have hz : size = 0 := by rw [hl] at hle; simpa using hle
      subst hz
      rw [hv] at q4
      have HG := Lib.hid (H.out.setDat (l := (T.D i).take 0) (v := .slice none 0 0) HK.out (Out.of_below (Below.refl _ _)) (.inl ⟨rfl, by simp⟩) (fun g e => by cases e) (by simp) (fun y hy => by simp at hy))
      have HCl := Lib.hid (clip_none w)
      clear hv hl hle hs
      go_enter Try.func49, Try.ntmps49
      go_wp2_with fail
      refine HCl.out.mono ?_
      rintro e w2 ⟨rfl, rfl⟩
      go_wp2_with fail
      (try simp only [Exit.inBlock, Exit.then])
      refine bodyPost_ret (results_none rfl _ _ _) rfl ?_
      exact ⟨rfl, _, by rw [HE.out]; exact HG.out⟩
    · rw [hv] at q4
      have hd2 : DatO w (.slice (some ⟨g, 0, none⟩) size size) ((T.D i).take size) := .inr ⟨g, size, cur, by rw [List.length_take, Nat.min_eq_left hle], by rw [List.length_take]; omega, by omega, h3, by
        rw [List.length_take, Nat.min_eq_left hle]
        have : cellsB ((T.D i).take size) = (cellsB (T.D i)).take size := by simp [cellsB]
        rw [this, ← h4, List.take_take, Nat.min_eq_left hle]⟩
      have HG := Lib.hid (H.out.setDat HK.out (Out.of_below (Below.refl _ _)) hd2 (fun g' e => by cases e; rw [hv]; exact .inl rfl) (by rw [List.length_take]; omega) (fun y hy => HBy.out y (List.mem_of_mem_take hy)))
      have hsc : size ≤ c := by omega
      have HCl := Lib.hid (clip_some (g := g) w hsc)
      have z1 : (size : Int) ≤ (((T.D i).length : Nat) : Int) := by omega
      have z2 : (size : Int) ≤ (c : Int) := by omega
      have z0 : (0 : Int) ≤ (size : Int) := by omega
      clear hv hle hs h1 h2 h3 h4 hd2
      generalize (T.D i).length = n at *
      go_enter Try.func49, Try.ntmps49
      go_wp2_with fail
      refine HCl.out.mono ?_
      rintro e w2 ⟨rfl, rfl⟩
      go_wp2_with fail
      (try simp only [Exit.inBlock, Exit.then])
      refine bodyPost_ret (results_none rfl _ _ _) rfl ?_
      exact ⟨rfl, _, by rw [HE.out]; exact HG.out⟩
  · have HE : Hid (rszL (T.D i) size = T.D i ++ zer (size - (T.D i).length)) := if_neg hle
    obtain ⟨a, c, hv⟩ := H.out.dv (i := i) (by unfold Tr.live; rw [HK.out]; decide)
    rw [if_pos HK.out] at hv
    have hD := HD.out
    have hgr := (show DatO w.drew (p.DV i) (T.D i) from hD.out (Out.of_below (X := fun _ => False) (Below.refl _ _).drew) (fun _ _ e => e)).grow (k := size - (T.D i).length) (by omega) (by omega)
    obtain ⟨v', w2, hrun, hd2, ho, hown⟩ := hgr
    obtain ⟨a', n', c', rfl⟩ : ∃ a n c, v' = .slice a n c := by
      rcases hd2 with ⟨q, -⟩ | ⟨g, c, cur, q, -⟩
      · exact ⟨_, _, _, q⟩
      · exact ⟨_, _, _, q⟩
    have ho2 : Out (fun g => (p.DV i).ownBlock = some g) w w2 := (Out.of_below (Below.refl _ _).drew).trans ho (fun _ _ e => e)
    have HG := Lib.hid (H.out.setDat HK.out ho2 hd2 hown (by rw [List.length_append, zer_len]; omega) (by rw [← HE.out]; exact rszL_byte HBy.out))
    have hX : ¬ (p.DV i).ownBlock = some (p.B i) := fun e => by
      obtain ⟨cs, q⟩ := (H.out.dat i HK.out).blk e
      exact (H.out.node i (by unfold Tr.live; rw [HK.out]; decide)).apart q (by decide) rfl
    have hN2 := ho2.blo (H.out.node i (by unfold Tr.live; rw [HK.out]; decide)) hX
    have q4b : w2.cell? ⟨p.B i, 4, none⟩ = some (p.DV i) := hN2.cell 4
    have f4b := hN2.frozen 4
    rw [hv] at q4 q4b hrun
    have z1 : ¬ (size : Int) ≤ (((T.D i).length : Nat) : Int) := by omega
    have e1 : IntKind.i64.wrap ((size : Int) - (((T.D i).length : Nat) : Int)) = ((size - (T.D i).length : Nat) : Int) := by rw [IntWalk.i64_in _ (by omega)]; omega
    clear hv hle hs hD hd2 ho hown ho2 hX hN2
    generalize (T.D i).length = n at *
    generalize size - n = k at *
    go_enter Try.func49, Try.ntmps49
    go_upto_region 2 with (fail)
    go_region_law (refine step_append_run (by rfl) (.tmp 25) (.tmp 32) BYT INTT (by rfl) (.slice a n c) (.int .i64 (k : Int)) (by simp [go_sem]) (by simp [go_sem]) (.slice a' n' c') w2 hrun ?_)
    all_goals (go_end0; exact ⟨rfl, _, by rw [HE.out]; exact HG.out⟩)
end
end Go.Proofs.Ytcjojcihjhhpgaa
/-
  Truncate.
-/
namespace Go.Proofs.Ytcjojcihjhhpgaa
open Go.RowKit

def trR (T : Tr) (R : Option Nat × Int) (size : Int) : Tr × Int := if R.2 ≠ 0 then (T, R.2) else if size < 0 then (T, 22) else if size > 38400 then (T, 27) else match R.1 with | some i => (T.dat i (rszL (T.D i) size.toNat), 0) | none => (T, 0)
def truncK (T : Tr) (s : ByteArray) (size : Int) : Tr × Int := trR T (atK T s (wrFile T)) size
theorem file_kind {T : Tr} (hw : TrW T) {i : Nat} (hl : T.live i) (h : wrFile T i = 0) : T.K i = 1 := by
  unfold wrFile at h
  rcases hw.kind i with e | e | e
  · exact absurd e hl
  · exact e
  · rw [if_pos e] at h; exact absurd h (by decide)
section
variable {w : World} {cnt : Nat} {T : Tr} {p : Pl}
set_option maxRecDepth 100000 in
set_option maxHeartbeats 4000000 in
theorem truncate_any (h : TrM w cnt T p) (s : ByteArray) (size : Int) : Calls Try.prog 20 #[.pointer (some ⟨p.bt, 0, none⟩), .string s, .int .i64 size] w (OpE w cnt T p (truncK T s size)) := by
  have H := Lib.hid h
  have HAt := Lib.hid (at_file h (wr := wrFile T) (fun W i hW hi => file_any hW hi) s)
  have HQ : Hid (truncK T s size = trR T (atK T s (wrFile T)) size) := rfl
  have HOk : Hid (∀ ro, atK T s (wrFile T) = (ro, 0) → ∃ i, ro = some i ∧ T.live i ∧ wrFile T i = 0) := fun ro q => atK_ok h.wf q
  clear h
  generalize atK T s (wrFile T) = R at *
  obtain ⟨ro, rz⟩ := R
  by_cases hz : rz = 0
  · subst hz
    obtain ⟨i, rfl, hl, hwr⟩ := HOk.out ro rfl
    have HK := Lib.hid (file_kind H.out.wf hl hwr)
    have HZ : Hid (truncK T s size = if size < 0 then (T, 22) else if size > 38400 then (T, 27) else (T.dat i (rszL (T.D i) size.toNat), 0)) := HQ.out
    have HAt : Hid (Calls Try.prog 34 #[.pointer (some ⟨p.bt, 0, none⟩), .string s, .func (.func 38) #[] #[]] w fun e w' => e = .returned (.tuple #[.pointer (some ⟨p.B i, 0, none⟩), .int .i64 0]) ∧ Below w.heap.size w w') := HAt.out
    clear HOk hl hwr HQ
    by_cases h1 : size < 0
    · have HE : Hid (truncK T s size = (T, 22)) := HZ.out.trans (if_pos h1)
      clear HZ
      go_enter Try.func20, Try.ntmps20
      go_wp2_with fail
      refine HAt.out.mono ?_
      rintro e w1 ⟨rfl, hb⟩
      have HB := Lib.hid hb
      clear hb
      go_wp2_with fail
      go_ret
      rw [HE.out]
      exact opE_same H.out HB.out _
    · by_cases h2 : size > 38400
      · have HE : Hid (truncK T s size = (T, 27)) := HZ.out.trans ((if_neg h1).trans (if_pos h2))
        clear HZ
        go_enter Try.func20, Try.ntmps20
        go_wp2_with fail
        refine HAt.out.mono ?_
        rintro e w1 ⟨rfl, hb⟩
        have HB := Lib.hid hb
        clear hb
        go_wp2_with fail
        go_ret
        rw [HE.out]
        exact opE_same H.out HB.out _
      · have HE : Hid (truncK T s size = (T.dat i (rszL (T.D i) size.toNat), 0)) := HZ.out.trans ((if_neg h1).trans (if_neg h2))
        obtain ⟨k, rfl⟩ : ∃ k : Nat, size = (k : Int) := ⟨size.toNat, by omega⟩
        have HK4 : Hid (k ≤ 38400) := by show k ≤ 38400; omega
        rw [Int.toNat_natCast] at HE
        clear HZ
        go_enter Try.func20, Try.ntmps20
        go_wp2_with fail
        refine HAt.out.mono ?_
        rintro e w1 ⟨rfl, hb⟩
        have HB := Lib.hid hb
        have HRz := Lib.hid (resize_any (H.out.later hb) HK.out HK4.out)
        clear hb
        go_wp2_with fail
        refine HRz.out.mono ?_
        rintro e w2 ⟨rfl, v, hg⟩
        have HG := Lib.hid ((hg.before HB.out).mono (Nat.le_succ cnt))
        clear hg
        go_wp2_with fail
        go_ret
        rw [HE.out]
        exact ⟨rfl, _, HG.out⟩
  · have HE : Hid (truncK T s size = (T, rz)) := HQ.out.trans (if_pos hz)
    have hzb : (rz == 0) = false := beq_eq_false_iff_ne.2 hz
    clear hz HOk HQ
    go_enter Try.func20, Try.ntmps20
    go_wp2_with fail
    refine HAt.out.mono ?_
    rintro e w1 ⟨rfl, hb⟩
    have HB := Lib.hid hb
    clear hb
    go_wp2_with fail
    go_ret
    rw [HE.out]
    exact opE_same H.out HB.out _
end
end Go.Proofs.Ytcjojcihjhhpgaa
