/-
  TrEmpty · TrCut · TrDrop · TrRem: these texts in one.
-/
import Derived.Test.YtcjojcihjhhpgaaPk05
/-
  empty tells that a node is no directory, or has entries.
-/
namespace Go.Proofs.Ytcjojcihjhhpgaa
open Go.RowKit

def Tr.bare (T : Tr) (i : Nat) : Prop := ∀ s, T.E i s = none
open Classical in
noncomputable def wrEmpty (T : Tr) (i : Nat) : Int := if T.K i = 2 then (if T.bare i then 0 else 39) else 20
section
variable {w : World} {cnt : Nat} {T : Tr} {p : Pl} {i : Nat}
set_option maxRecDepth 100000 in
theorem empty_any (h : TrM w cnt T p) (hi : T.live i) : Calls Try.prog 55 #[.pointer (some ⟨p.B i, 0, none⟩)] w fun e w' => e = .returned (.int .i64 (wrEmpty T i)) ∧ w' = w := by
  have HDi := Lib.hid (directory_any h hi)
  unfold wrDir at HDi
  by_cases hk : T.K i = 2
  · rw [if_pos hk] at HDi
    obtain ⟨-, -, -, c3, -⟩ := h.cells hi
    rw [if_pos hk] at c3
    obtain ⟨ks, hs⟩ := h.map i hk
    have hlen := hs.len (t := NMT) Try.underlying80 3
    by_cases hb : ks = []
    · have HE : Hid (wrEmpty T i = 0) := by
        show _ = _
        unfold wrEmpty
        rw [if_pos hk, if_pos]
        intro s
        obtain ⟨D, -, -, -, h6, -⟩ := hs
        cases he : T.E i s with
        | none => rfl
        | some j =>
          have := (h6 s).2 (by show ((T.E i s).map p.B).isSome = true; rw [he]; rfl)
          rw [hb] at this
          cases this
      rw [hb] at hlen
      have hlen : (Builtin.len_ #[NMT] 3 #[.map (some (p.MB i))]).run Try.prog w = .ok (.int .i64 0) w := hlen
      clear h hi hk hs hb
      generalize p.MB i = g at *
      go_enter Try.func55, Try.ntmps55
      go_wp2_with fail
      refine HDi.out.mono ?_
      rintro e w2 ⟨rfl, rfl⟩
      go_wp2_with fail
      go_ret
      rw [HE.out]
      exact ⟨rfl, rfl⟩
    · have HE : Hid (wrEmpty T i = 39) := by
        show _ = _
        unfold wrEmpty
        rw [if_pos hk, if_neg]
        intro hba
        obtain ⟨D, -, -, -, h6, -⟩ := hs
        obtain ⟨s, hs2⟩ := List.exists_mem_of_ne_nil ks hb
        have this : ((T.E i s).map p.B).isSome = true := (h6 s).1 hs2
        rw [hba s] at this
        cases this
      have hpos : 0 < ks.length := List.length_pos_iff.2 hb
      clear h hi hk hs hb
      generalize ks.length = q at *
      have hgt : (q : Int) > 0 := by omega
      generalize p.MB i = g at *
      go_enter Try.func55, Try.ntmps55
      go_wp2_with fail
      refine HDi.out.mono ?_
      rintro e w2 ⟨rfl, rfl⟩
      go_wp2_with fail
      go_ret
      rw [HE.out]
      exact ⟨rfl, rfl⟩
  · have HE : Hid (wrEmpty T i = 20) := by
      show _ = _
      unfold wrEmpty
      rw [if_neg hk]
    rw [if_neg hk] at HDi
    clear h hi hk
    go_enter Try.func55, Try.ntmps55
    go_wp2_with fail
    refine HDi.out.mono ?_
    rintro e w2 ⟨rfl, rfl⟩
    go_wp2_with fail
    go_ret
    rw [HE.out]
    exact ⟨rfl, rfl⟩
end
end Go.Proofs.Ytcjojcihjhhpgaa
/-
  A name less; a number of names; a node less.
-/
namespace Go.Proofs.Ytcjojcihjhhpgaa
open Go.RowKit

def Tr.lks (T : Tr) (i : Nat) (z : Int) : Tr := { T with Lk := updN T.Lk i z }
def Tr.rem (T : Tr) (i : Nat) : Tr := { T with K := updN T.K i 0, E := updN T.E i (fun _ => none), D := updN T.D i [] }
section
variable {w w1 w2 : World} {cnt cnt' cnt2 : Nat} {T T1 T2 : Tr} {p p1 p2 : Pl} {i d : Nat} {k z : Int} {s : ByteArray}
theorem TrM.entNone (h : TrM w cnt T p) (hd : T.K d = 2) (hs : wfS s) (hin : (T.E d s).isSome = true) (ty : TypeId) :
    ∃ w', (Builtin.delete_ #[NMT, STT] ty #[.map (some (p.MB d)), .string s]).run Try.prog w = .ok (.tuple #[]) w' ∧ TrG w T p w' cnt (T.ent d s none) p := by
  obtain ⟨ks, hm⟩ := h.map d hd
  have hks : s ∈ ks := by
    obtain ⟨D, -, -, -, h6, -⟩ := hm
    refine (h6 s).2 ?_
    show ((T.E d s).map p.B).isSome = true
    rw [Option.isSome_map]; exact hin
  obtain ⟨w', hrun, hm', hg⟩ := hm.del Try.underlying80 hs hks ty
  have ho : Out (fun g => g = p.MB d) w w' := Out.of_grown hg (fun g e => by cases e; rfl)
  have hld : T.live d := by unfold Tr.live; omega
  have hne : ∀ g t cs, Blo w g t cs → g ≠ p.MB d := fun g t cs hb e => hm.blo hb e.symm
  refine ⟨w', hrun, ⟨Tr.ent_wf h.wf hd (fun j e => by cases e), ho.blo h.tree (hne _ _ _ h.tree), ho.blo h.row (hne _ _ _ h.row), fun j hj => ho.blo (h.node j hj) (hne _ _ _ (h.node j hj)), fun j hj => ?_, fun j hj => ?_, h.dir, h.injB, h.injM, h.injD⟩, ?_, fun g hg => .inl hg, rfl⟩
  · have hj : T.K j = 2 := hj
    by_cases e : j = d
    · subst e
      refine ⟨delS ks s, ?_⟩
      have hf : (fun t => ((T.ent j s none).E j t).map p.B) = updS (fun t => (T.E j t).map p.B) s none := by
        funext t
        show (updN T.E j (updS (T.E j) s none) j t).map p.B = _
        rw [updN_at]
        by_cases e2 : t = s
        · subst e2; rw [updS_at, updS_at]; rfl
        · rw [updS_ne _ _ e2, updS_ne _ _ e2]
      rw [hf]
      exact hm'
    · obtain ⟨ks', hs'⟩ := h.map j hj
      refine ⟨ks', ?_⟩
      have hf : (fun t => ((T.ent d s none).E j t).map p.B) = fun t => (T.E j t).map p.B := by
        funext t
        show (updN T.E d (updS (T.E d) s none) j t).map p.B = _
        rw [updN_ne _ _ e]
      rw [hf]
      exact hs'.out ho (fun q => e (h.injM j d hj hd q))
  · have hj : T.K j = 1 := hj
    refine (h.dat j hj).out ho (fun g hg e => ?_)
    rcases h.dat j hj with ⟨q, -⟩ | ⟨g', c, cur, q, -, -, q3, -⟩
    · rw [q] at hg; cases hg
    · rw [q] at hg
      cases hg
      exact hne _ _ _ q3 e
  · exact ho.mono fun g _ e => by rw [e]; exact .inr (.inr ⟨d, hld, .inr (.inl ⟨hd, rfl⟩)⟩)
/-- Blocks of other kinds than a node's. -/
theorem TrM.apartN (h : TrM w cnt T p) (hi : T.live i) : p.bt ≠ p.B i ∧ p.bn ≠ p.B i ∧ (∀ j, T.K j = 2 → p.MB j ≠ p.B i) ∧ ∀ j, T.K j = 1 → ∀ g, (p.DV j).ownBlock = some g → g ≠ p.B i :=
  ⟨h.tree.apart (h.node i hi) (by decide), h.row.apart (h.node i hi) (by decide), fun j hj => by
    obtain ⟨ks, hs⟩ := h.map j hj
    exact hs.blo (h.node i hi), fun j hj g e => by
    rcases h.dat j hj with ⟨q, -⟩ | ⟨g', c, cur, q, -, -, q3, -⟩
    · rw [q] at e; cases e
    · rw [q] at e
      cases e
      exact q3.apart (h.node i hi) (by decide)⟩
theorem TrM.apartR (h : TrM w cnt T p) : p.bt ≠ p.bn ∧ (∀ j, T.live j → p.B j ≠ p.bn) ∧ (∀ j, T.K j = 2 → p.MB j ≠ p.bn) ∧ ∀ j, T.K j = 1 → ∀ g, (p.DV j).ownBlock = some g → g ≠ p.bn :=
  ⟨h.tree.apart h.row (by decide), fun j hj => (h.node j hj).apart h.row (by decide), fun j hj => by
    obtain ⟨ks, hs⟩ := h.map j hj
    exact hs.blo h.row, fun j hj g e => by
    rcases h.dat j hj with ⟨q, -⟩ | ⟨g', c, cur, q, -, -, q3, -⟩
    · rw [q] at e; cases e
    · rw [q] at e
      cases e
      exact q3.apart h.row (by decide)⟩
theorem TrM.lks (h : TrM w cnt T p) (hi : T.live i) (h1 : 1 ≤ z) (h2 : z ≤ 100) : TrG w T p (w.setCell ⟨p.B i, 2, none⟩ (.int .i64 z)) cnt (T.lks i z) p := by
  obtain ⟨n1, n2, n3, n4⟩ := h.apartN hi
  have ho : Out (fun g => g = p.B i) w (w.setCell ⟨p.B i, 2, none⟩ (.int .i64 z)) := out_put _ _ _ rfl
  refine ⟨⟨⟨h.wf.n4, h.wf.n2, h.wf.root, h.wf.kind, h.wf.rng, h.wf.ent, fun j hj => ?_, h.wf.sz, h.wf.by_⟩, ho.blo h.tree n1, ho.blo h.row n2, fun j hj => ?_, fun j hj => ?_, fun j hj => ?_, h.dir, h.injB, h.injM, h.injD⟩, ?_, fun g hg => .inl hg, rfl⟩
  · show 1 ≤ updN T.Lk i z j ∧ updN T.Lk i z j ≤ 100
    by_cases e : j = i
    · subst e; rw [updN_at]; exact ⟨h1, h2⟩
    · rw [updN_ne _ _ e]; exact h.wf.lk j hj
  · have hj : T.live j := hj
    by_cases e : j = i
    · subst e
      have e2 : ndC (T.lks j z) p j = (ndC T p j).setIfInBounds 2 (.int .i64 z) := by
        unfold ndC
        show #[_, _, Value.int .i64 (updN T.Lk j z j), _, _] = _
        rw [updN_at]
        rfl
      rw [e2]
      exact (h.node j hj).put 2 _
    · have e2 : ndC (T.lks i z) p j = ndC T p j := by
        unfold ndC
        show #[_, _, Value.int .i64 (updN T.Lk i z j), _, _] = _
        rw [updN_ne _ _ e]
        rfl
      rw [e2]
      exact ho.blo (h.node j hj) (fun q => e (h.injB j i hj hi q))
  · obtain ⟨ks, hs⟩ := h.map j hj
    exact ⟨ks, hs.out ho (n3 j hj)⟩
  · exact (h.dat j hj).out ho (fun g hg => n4 j hj g hg)
  · exact ho.mono fun g _ e => by rw [e]; exact .inr (.inr ⟨i, hi, .inl rfl⟩)
theorem ndL_rem (hn : i ≤ T.n) : (ndL T p).toArray.setIfInBounds i (.pointer none) = (ndL (T.rem i) p).toArray := by
  apply Array.toList_inj.1
  rw [Array.toList_setIfInBounds]
  show (ndL T p).set i _ = ndL (T.rem i) p
  refine List.ext_getElem? fun j => ?_
  by_cases hj : j ≤ T.n
  · have hj2 : j ≤ (T.rem i).n := hj
    rw [ndL_get hj2, List.getElem?_set]
    by_cases e : i = j
    · subst e
      rw [if_pos rfl, if_pos (by rw [ndL_len]; omega)]
      unfold ndP
      rw [if_pos (show (T.rem i).K i = 0 from updN_at _ _ _)]
      rfl
    · rw [if_neg e, ndL_get hj]
      unfold ndP
      have e2 : (T.rem i).K j = T.K j := updN_ne _ _ (Ne.symm e)
      rw [e2]
  · rw [List.getElem?_eq_none (by rw [List.length_set, ndL_len]; omega), List.getElem?_eq_none (by rw [ndL_len]; show T.n + 1 ≤ j; omega)]
theorem TrM.rem (h : TrM w cnt T p) (hi : T.live i) (h2 : i ≠ 2) (hr : ∀ j s, T.E j s ≠ some i) : TrG w T p ((w.setCell ⟨p.B i, 2, none⟩ (.int .i64 0)).setCell ⟨p.bn, i, none⟩ (.pointer none)) cnt (T.rem i) p := by
  obtain ⟨n1, n2, n3, n4⟩ := h.apartN hi
  obtain ⟨r1, r2, r3, r4⟩ := h.apartR
  have ho1 : Out (fun g => g = p.B i) w (w.setCell ⟨p.B i, 2, none⟩ (.int .i64 0)) := out_put _ _ _ rfl
  have ho2 : Out (fun g => g = p.bn) (w.setCell ⟨p.B i, 2, none⟩ (.int .i64 0)) ((w.setCell ⟨p.B i, 2, none⟩ (.int .i64 0)).setCell ⟨p.bn, i, none⟩ (.pointer none)) := out_put _ _ _ rfl
  have hlv : ∀ j, (T.rem i).live j → j ≠ i ∧ T.live j := fun j hj => by
    have hj : updN T.K i 0 j ≠ 0 := hj
    by_cases e : j = i
    · subst e; rw [updN_at] at hj; exact absurd rfl hj
    · rw [updN_ne _ _ e] at hj; exact ⟨e, hj⟩
  have hlk : ∀ j q, q ≠ 0 → (T.rem i).K j = q → j ≠ i ∧ T.K j = q := fun j q hq hj => by
    have hj : updN T.K i 0 j = q := hj
    by_cases e : j = i
    · subst e; rw [updN_at] at hj; exact absurd hj.symm hq
    · rw [updN_ne _ _ e] at hj; exact ⟨e, hj⟩
  have k2 : ∀ j, (T.rem i).K j = 2 → j ≠ i ∧ T.K j = 2 := fun j => hlk j 2 (by decide)
  have k1 : ∀ j, (T.rem i).K j = 1 → j ≠ i ∧ T.K j = 1 := fun j => hlk j 1 (by decide)
  have l2 : ∀ j, T.K j = 2 → T.live j := fun j e => by unfold Tr.live; omega
  have l1 : ∀ j, T.K j = 1 → T.live j := fun j e => by unfold Tr.live; omega
  have hE : ∀ j, j ≠ i → (T.rem i).E j = T.E j := fun j e => updN_ne _ _ e
  have hD : ∀ j, j ≠ i → (T.rem i).D j = T.D j := fun j e => updN_ne _ _ e
  refine ⟨⟨⟨h.wf.n4, h.wf.n2, ?_, fun j => ?_, fun j hj => h.wf.rng j (hlv j hj).2, fun j s t ht => ?_, fun j hj => h.wf.lk j (hlv j hj).2, fun j => ?_, fun j => ?_⟩, ho2.blo (ho1.blo h.tree n1) r1, ?_, fun j hj => ?_, fun j hj => ?_, fun j hj => ?_, fun j hj => h.dir j (k2 j hj).2, fun j t hj ht => h.injB j t (hlv j hj).2 (hlv t ht).2, fun j t hj ht => h.injM j t (k2 j hj).2 (k2 t ht).2, fun j t hj ht => h.injD j t (k1 j hj).2 (k1 t ht).2⟩, ?_, fun g hg => ?_, rfl⟩
  · show updN T.K i 0 2 = 2
    rw [updN_ne _ _ (Ne.symm h2)]; exact h.wf.root
  · show updN T.K i 0 j = 0 ∨ updN T.K i 0 j = 1 ∨ updN T.K i 0 j = 2
    by_cases e : j = i
    · subst e; rw [updN_at]; exact .inl rfl
    · rw [updN_ne _ _ e]; exact h.wf.kind j
  · by_cases e : j = i
    · subst e
      have ht : updN T.E j (fun _ => none) j s = some t := ht
      rw [updN_at] at ht; cases ht
    · rw [hE j e] at ht
      obtain ⟨q1, q2, q3⟩ := h.wf.ent j s t ht
      have et : t ≠ i := fun q => hr j s (by rw [ht, q])
      exact ⟨by show updN T.K i 0 j = 2; rw [updN_ne _ _ e]; exact q1, by show updN T.K i 0 t ≠ 0; rw [updN_ne _ _ et]; exact q2, q3⟩
  · by_cases e : j = i
    · subst e
      have : (T.rem j).D j = [] := updN_at _ _ _
      rw [this]; simp
    · rw [hD j e]; exact h.wf.sz j
  · by_cases e : j = i
    · subst e
      have : (T.rem j).D j = [] := updN_at _ _ _
      rw [this]; simp
    · rw [hD j e]; exact h.wf.by_ j
  · show Blo _ p.bn PNT (ndL (T.rem i) p).toArray
    rw [← ndL_rem (h.wf.rng i hi).2]
    exact (ho1.blo h.row n2).put i _
  · obtain ⟨e, q⟩ := hlv j hj
    have e2 : ndC (T.rem i) p j = ndC T p j := by
      unfold ndC
      have e3 : (T.rem i).K j = T.K j := updN_ne _ _ e
      rw [e3]
      rfl
    rw [e2]
    exact ho2.blo (ho1.blo (h.node j q) (fun x => e (h.injB j i q hi x))) (r2 j q)
  · obtain ⟨e, q⟩ := k2 j hj
    obtain ⟨ks, hs⟩ := h.map j q
    rw [hE j e]
    exact ⟨ks, (hs.out ho1 (n3 j q)).out ho2 (r3 j q)⟩
  · obtain ⟨e, q⟩ := k1 j hj
    rw [hD j e]
    exact ((h.dat j q).out ho1 (fun g hg => n4 j q g hg)).out ho2 (fun g hg => r4 j q g hg)
  · exact (ho1.mono fun g _ e => by rw [e]; exact .inr (.inr ⟨i, hi, .inl rfl⟩)).trans ho2 (fun g _ e => by rw [e]; exact .inr (.inl rfl))
  · rcases hg with e | e | ⟨j, hj, e⟩
    · exact .inl (.inl e)
    · exact .inl (.inr (.inl e))
    · obtain ⟨e1, q⟩ := hlv j hj
      have e3 : (T.rem i).K j = T.K j := updN_ne _ _ e1
      rw [e3] at e
      exact .inl (.inr (.inr ⟨j, q, e⟩))
end
end Go.Proofs.Ytcjojcihjhhpgaa
/-
  drop takes a name away, with the last one the node.
-/
namespace Go.Proofs.Ytcjojcihjhhpgaa
open Go.RowKit

def cutN (T : Tr) (i : Nat) : Tr := if T.Lk i = 1 then T.rem i else T.lks i (T.Lk i - 1)
def dropK (T : Tr) (d : Nat) (s : ByteArray) (i : Nat) : Tr := cutN (T.ent d s none) i
def DrO (w : World) (cnt : Nat) (T T' : Tr) (p : Pl) (e : Ending) (w' : World) : Prop := e = .returned (.tuple #[]) ∧ TrG w T p w' cnt T' p
/-- The blocks of a tree but its files' bytes. -/
def XS (T : Tr) (p : Pl) (g : Nat) : Prop := g = p.bn ∨ ∃ i, T.live i ∧ (g = p.B i ∨ (T.K i = 2 ∧ g = p.MB i))
def DrO2 (w : World) (cnt : Nat) (T T' : Tr) (p : Pl) (e : Ending) (w' : World) : Prop := e = .returned (.tuple #[]) ∧ TrG w T p w' cnt T' p ∧ Out (XS T p) w w'
section
variable {w : World} {cnt : Nat} {T : Tr} {p : Pl} {d i : Nat} {s : ByteArray}
theorem TrM.entNone_out {w' : World} (h : TrM w cnt T p) (hd : T.K d = 2) (hs : wfS s) (hin : (T.E d s).isSome = true) {ty : TypeId} (hrun : (Builtin.delete_ #[NMT, STT] ty #[.map (some (p.MB d)), .string s]).run Try.prog w = .ok (.tuple #[]) w') : Out (fun g => g = p.MB d) w w' := by
  obtain ⟨ks, hm⟩ := h.map d hd
  have hks : s ∈ ks := by
    obtain ⟨D, -, -, -, h6, -⟩ := hm
    refine (h6 s).2 ?_
    show ((T.E d s).map p.B).isSome = true
    rw [Option.isSome_map]; exact hin
  obtain ⟨w2, hrun2, -, hg⟩ := hm.del Try.underlying80 hs hks ty
  rw [hrun2] at hrun
  cases hrun
  exact Out.of_grown hg (fun g e => by cases e; rfl)
theorem TrM.ent_out {w' : World} {k : Nat} (h : TrM w cnt T p) (hd : T.K d = 2) (hs : wfS s) (hc : cnt < 1000000) (hrun : (Instr.mapUpdate NMT (.map (some (p.MB d))) (.string s) (.pointer (some ⟨k, 0, none⟩))).run Try.prog w = .ok () w') : Out (fun g => g = p.MB d) w w' := by
  obtain ⟨ks, hm⟩ := h.map d hd
  obtain ⟨w2, hrun2, -, hg⟩ := hm.put Try.underlying80 hc hs k
  rw [hrun2] at hrun
  cases hrun
  exact Out.of_grown hg (fun g e => by cases e; rfl)
set_option maxRecDepth 100000 in
set_option maxHeartbeats 4000000 in
theorem drop_any2 (h : TrM w cnt T p) (hd : T.K d = 2) (hs : wfS s) (he : T.E d s = some i) (hr : T.Lk i = 1 → ∀ j t, T.E j t = some i → j = d ∧ t = s) :
    Calls Try.prog 46 #[.pointer (some ⟨p.bt, 0, none⟩), .pointer (some ⟨p.B d, 0, none⟩), .string s] w (DrO2 w cnt T (dropK T d s i) p) := by
  have hdl : T.live d := by unfold Tr.live; omega
  have hil := (h.wf.ent d s i he).2.1
  have hi2 := (h.wf.ent d s i he).2.2
  have c0 := (h.cells hdl).2.2.2.1
  rw [if_pos hd] at c0
  have hlk0 := h.look1 hd hs
  rw [he] at hlk0
  have hlk : (Instr.lookup NMT (.map (some (p.MB d))) (.string s) false).run Try.prog w = .ok (.pointer (some ⟨p.B i, 0, none⟩)) w := hlk0
  clear hlk0
  obtain ⟨w1, hrun, hg1⟩ := h.entNone hd hs (by rw [he]; rfl) 0
  have HO1 : Hid (Out (XS T p) w w1) := (h.entNone_out hd hs (by rw [he]; rfl) hrun).mono fun g _ e => .inr ⟨d, hdl, .inr ⟨hd, e⟩⟩
  have HXi : Hid (XS T p (p.B i)) := .inr ⟨i, hil, .inl rfl⟩
  obtain ⟨T1, hT1⟩ : ∃ T1, T.ent d s none = T1 := ⟨_, rfl⟩
  have HQ : Hid (dropK T d s i = cutN T1 i) := by show _ = _; rw [← hT1]; rfl
  have HI : Hid (T1.live i) := by rw [← hT1]; exact hil
  have HN : Hid (T1.n = T.n) := by show _ = _; rw [← hT1]; rfl
  have HR : Hid (T1.Lk i = 1 → ∀ j t, T1.E j t ≠ some i) := by
    rw [← hT1]
    intro q j t ht
    have ht : updN T.E d (updS (T.E d) s none) j t = some i := ht
    by_cases e : j = d
    · subst e
      rw [updN_at] at ht
      by_cases e2 : t = s
      · subst e2; rw [updS_at] at ht; cases ht
      · rw [updS_ne _ _ e2] at ht
        exact e2 (hr q j t ht).2
    · rw [updN_ne _ _ e] at ht
      exact e (hr q j t ht).1
  rw [hT1] at hg1
  have HG := Lib.hid hg1
  have H1 := Lib.hid hg1.m
  clear hr h hd hs he hdl hil hT1 hg1
  obtain ⟨i0, -, i2, -, -⟩ := H1.out.cells HI.out
  obtain ⟨hl1, hl2⟩ := H1.out.wf.lk i HI.out
  have f2 := (H1.out.node i HI.out).frozen 2
  have hir := (H1.out.wf.rng i HI.out)
  obtain ⟨z, hz⟩ : ∃ z, T1.Lk i = z := ⟨_, rfl⟩
  have HZ := Lib.hid hz
  rw [hz] at i2 hl1 hl2
  have e1 : IntKind.i64.wrap (z - 1) = z - 1 := IntWalk.i64_in _ (by omega)
  clear hz
  generalize p.MB d = md at *
  by_cases hz1 : z = 1
  · subst hz1
    have HE : Hid (dropK T d s i = T1.rem i) := HQ.out.trans (if_pos HZ.out)
    have hg2 := H1.out.rem HI.out hi2 (HR.out HZ.out)
    have HG2 := Lib.hid (HG.out.trans hg2)
    have hX := (H1.out.node i HI.out).put 2 (.int .i64 0)
    have x2 : (w1.setCell ⟨p.B i, 2, none⟩ (.int .i64 0)).cell? ⟨p.B i, 2, none⟩ = some (.int .i64 0) := hX.cell 2
    have x0 : (w1.setCell ⟨p.B i, 2, none⟩ (.int .i64 0)).cell? ⟨p.B i, 0, none⟩ = some (.int .i64 (i : Int)) := hX.cell 0
    have ho1 : Out (fun g => g = p.B i) w1 (w1.setCell ⟨p.B i, 2, none⟩ (.int .i64 0)) := out_put _ _ _ rfl
    have y0 : (w1.setCell ⟨p.B i, 2, none⟩ (.int .i64 0)).cell? ⟨p.bt, 0, none⟩ = some (.slice (some ⟨p.bn, 0, none⟩) (T1.n + 1) (T1.n + 1)) := (ho1.blo H1.out.tree (H1.out.apartN HI.out).1).cell 0
    clear HQ HR hX hg2
    go_enter Try.func46, Try.ntmps46
    go_wp2_with fail
    have fr := (ho1.blo H1.out.row (H1.out.apartN HI.out).2.1).frozen i
    have v0 := (ho1.blo H1.out.row (H1.out.apartN HI.out).2.1).cell i
    rw [List.getElem?_toArray, ndL_get (show i ≤ T1.n by omega)] at v0
    have HO3 : Hid (Out (XS T p) w (w1.setCell ⟨p.B i, 2, none⟩ (.int .i64 0))) := HO1.out.trans (out_put (X := XS T p) _ ⟨p.B i, 2, none⟩ _ HXi.out) (fun _ _ e => e)
    clear x2 i2 i0 f2 hlk hrun c0 ho1
    generalize w1.setCell ⟨p.B i, 2, none⟩ (.int .i64 0) = w3 at *
    generalize hn : T1.n = n at *
    generalize ptrV (ndP T1 p i) = yv at *
    have g1 : i < n + 1 := by omega
    go_region
    go_end0
    rw [HE.out]
    exact ⟨rfl, HG2.out.after (Below.refl _ _).drew, (HO3.out.trans (out_put (X := XS T p) _ ⟨p.bn, i, none⟩ _ (.inl rfl)) (fun _ _ e => e)).trans (Out.of_below (X := fun _ => False) (Below.refl _ _).drew) (fun _ _ e => e.elim)⟩
  · have HE : Hid (dropK T d s i = T1.lks i (z - 1)) := by
      show _ = _
      refine HQ.out.trans ?_
      unfold cutN
      rw [HZ.out, if_neg hz1]
    have hg2 := H1.out.lks (z := z - 1) HI.out (by omega) (by omega)
    have HG2 := Lib.hid (HG.out.trans hg2)
    have x2 : (w1.setCell ⟨p.B i, 2, none⟩ (.int .i64 (z - 1))).cell? ⟨p.B i, 2, none⟩ = some (.int .i64 (z - 1)) := ((H1.out.node i HI.out).put 2 _).cell 2
    have hzb : (z - 1 == 0) = false := beq_eq_false_iff_ne.2 (by omega)
    clear HQ HR hg2 hz1
    go_enter Try.func46, Try.ntmps46
    go_wp2_with fail
    go_end0
    rw [HE.out]
    exact ⟨rfl, HG2.out, HO1.out.trans (out_put (X := XS T p) _ ⟨p.B i, 2, none⟩ _ HXi.out) (fun _ _ e => e)⟩
theorem drop_any (h : TrM w cnt T p) (hd : T.K d = 2) (hs : wfS s) (he : T.E d s = some i) (hr : T.Lk i = 1 → ∀ j t, T.E j t = some i → j = d ∧ t = s) :
    Calls Try.prog 46 #[.pointer (some ⟨p.bt, 0, none⟩), .pointer (some ⟨p.B d, 0, none⟩), .string s] w (DrO w cnt T (dropK T d s i) p) := (drop_any2 h hd hs he hr).mono fun _ _ q => ⟨q.1, q.2.1⟩
end
end Go.Proofs.Ytcjojcihjhhpgaa
/-
  remove takes the name away to which a path leads.
-/
namespace Go.Proofs.Ytcjojcihjhhpgaa
open Go.RowKit

theorem leadK_snoc {T : Tr} {x : ByteArray} {i : Nat} {z : Int} : ∀ (r : List ByteArray) (a : Nat), leadK T a (r ++ [x]) = (some i, z) → ∃ d, leadK T a r = (some d, 0) ∧ T.K d = 2 ∧ T.E d x = some i
  | [], a, h => by
    have h : leadK T a [x] = (some i, z) := h
    by_cases hk : T.K a = 2
    · cases he : T.E a x with
      | none => rw [leadK_none hk he] at h; cases h
      | some j =>
        rw [leadK_go hk he, leadK_nil] at h
        cases h
        exact ⟨a, rfl, hk, he⟩
    · rw [leadK_file hk] at h; cases h
  | s :: r, a, h => by
    have h : leadK T a (s :: (r ++ [x])) = (some i, z) := h
    by_cases hk : T.K a = 2
    · cases he : T.E a s with
      | none => rw [leadK_none hk he] at h; cases h
      | some b =>
        rw [leadK_go hk he] at h
        rw [leadK_go hk he]
        exact leadK_snoc r b h
    · rw [leadK_file hk] at h; cases h
theorem take_last {l : List ByteArray} (h : l ≠ []) : l = l.take (l.length - 1) ++ [l.getD (l.length - 1) ⟨#[]⟩] := by
  have hp := List.length_pos_iff.2 h
  have h1 : l.getD (l.length - 1) ⟨#[]⟩ = l[l.length - 1] := by rw [List.getD_eq_getElem?_getD, List.getElem?_eq_getElem (by omega)]; rfl
  rw [h1]
  have h2 := List.take_append_drop (l.length - 1) l
  rw [List.drop_eq_getElem_cons (by omega), List.drop_eq_nil_of_le (by omega)] at h2
  exact h2.symm
theorem find_last {T : Tr} {s : ByteArray} {wr : Nat → Int} {i : Nat} {z : Int} (h0 : spL s ≠ []) (h : findK T (spL s) (spD s) wr = (some i, z)) : ∃ d, aboveK T (spL s) = (some d, 0) ∧ T.K d = 2 ∧ T.E d (paN s) = some i := by
  obtain ⟨R, hR⟩ : ∃ R, leadK T 2 (spL s) = R := ⟨_, rfl⟩
  obtain ⟨ro, rz⟩ := R
  cases ro with
  | none => rw [findK_none hR] at h; cases h
  | some j =>
    rw [findK_some hR] at h
    have e : j = i := by have := congrArg Prod.fst h; exact Option.some.inj this
    subst e
    rw [take_last h0] at hR
    obtain ⟨d, h1, h2, h3⟩ := leadK_snoc _ _ hR
    refine ⟨d, ?_, h2, h3⟩
    unfold aboveK
    rw [findK_some h1]
    unfold wrDir
    rw [if_pos h2]
    rfl
/-- An only name is the only one. -/
def TrU (T : Tr) : Prop := ∀ i, T.Lk i = 1 → ∀ d s, T.E d s = some i → ∀ d' s', T.E d' s' = some i → d' = d ∧ s' = s
def rmR (T : Tr) (s : ByteArray) (R : Option Nat × Int) : Tr × Int := if R.2 ≠ 0 then (T, R.2) else match R.1 with | some i => (dropK T ((aboveK T (spL s)).1.getD 0) (paN s) i, 0) | none => (T, 0)
def removeK (T : Tr) (s : ByteArray) (wr : Nat → Int) : Tr × Int := if paE s ≠ 0 then (T, paE s) else rmR T s (findK T (spL s) (spD s) wr)
/-- A tree behind a call, an error. -/
def OpE (w : World) (cnt : Nat) (T : Tr) (p : Pl) (R : Tr × Int) (e : Ending) (w' : World) : Prop := e = .returned (.int .i64 R.2) ∧ ∃ p', TrG w T p w' (cnt + 1) R.1 p'
theorem opE_same {w w' : World} {cnt : Nat} {T : Tr} {p : Pl} (h : TrM w cnt T p) (hb : Below w.heap.size w w') (z : Int) : OpE w cnt T p (T, z) (.returned (.int .i64 z)) w' := ⟨rfl, p, TrG.refl h hb (Nat.le_succ cnt)⟩
theorem findK_none2 {T : Tr} {l : List ByteArray} {dir : Bool} {wr : Nat → Int} {z : Int} (h : findK T l dir wr = (none, z)) : z ≠ 0 := by
  obtain ⟨R, hR⟩ : ∃ R, leadK T 2 l = R := ⟨_, rfl⟩
  have he := leadK_err (T := T) l 2
  rw [hR] at he
  obtain ⟨ro, rz⟩ := R
  cases ro with
  | none =>
    rw [findK_none hR] at h
    cases h
    exact he rfl
  | some j => rw [findK_some hR] at h; cases h
section
variable {w : World} {cnt : Nat} {T : Tr} {p : Pl}
theorem TrG.mono {w' : World} {cnt' cnt2 : Nat} {T' : Tr} {p' : Pl} (h : TrG w T p w' cnt' T' p') (hc : cnt' ≤ cnt2) : TrG w T p w' cnt2 T' p' := ⟨h.m.mono hc, h.out, h.sub, h.bt⟩
set_option maxRecDepth 100000 in
set_option maxHeartbeats 4000000 in
theorem remove_file (h : TrM w cnt T p) (hu : TrU T) {wr : Nat → Int} (hF : ∀ W, TrM W cnt T p → WrF cnt T p 38 wr) (s : ByteArray) :
    Calls Try.prog 52 #[.pointer (some ⟨p.bt, 0, none⟩), .string s, .func (.func 38) #[] #[]] w (OpE w cnt T p (removeK T s wr)) := by
  have H := Lib.hid h
  have HF := Lib.hid (hF w h)
  have HU := Lib.hid hu
  have HPa := Lib.hid (tparent_any s w)
  have HQ : Hid (removeK T s wr = if paE s ≠ 0 then (T, paE s) else rmR T s (findK T (spL s) (spD s) wr)) := rfl
  clear h hu hF
  go_enter Try.func52, Try.ntmps52
  go_wp2_with fail
  refine HPa.out.mono ?_
  rintro e w1 (⟨hz, rfl, hb⟩ | ⟨hz, b, o, n, c, rfl, hn, h0, hnc, hs, hb⟩)
  · have HE : Hid (removeK T s wr = (T, paE s)) := HQ.out.trans (if_pos hz)
    have hzb : (paE s == 0) = false := beq_eq_false_iff_ne.2 hz
    have HB : Hid (∀ o, Below w.heap.size w (w1.alloc o)) := fun o => hb.alloc hb.size o
    clear hz HPa hb HQ
    go_wp2_with fail
    go_ret
    rw [HE.out]
    exact opE_same H.out (HB.out _) _
  · have HZ : Hid (removeK T s wr = rmR T s (findK T (spL s) (spD s) wr)) := HQ.out.trans (if_neg (fun q => q hz))
    have HPl := Lib.hid (plO_of hn h0 hnc hs)
    have HB1 := Lib.hid hb
    have HNe : Hid (spL s ≠ []) := fun q => by rw [q] at hn; simp at hn; omega
    clear HPa hb hz HQ hn h0 hnc hs
    go_upto_region 2 with (fail)
    obtain ⟨w2, hw2⟩ : ∃ w2, w1.alloc (.cells #[.slice (some ⟨b, o, none⟩) n c, .bool (spD s), .string (paN s)] PLT) = w2 := ⟨_, rfl⟩
    rw [hw2]
    have hb2 : Below w1.heap.size w1 w2 := by rw [← hw2]; exact sup_pct w1 _
    have HX2 : Hid (Blo w2 w1.heap.size PLT #[.slice (some ⟨b, o, none⟩) n c, .bool (spD s), .string (paN s)]) := by rw [← hw2]; exact blo_laid w1 _ _
    have HB2 := Lib.hid (HB1.out.trans (hb2.mono HB1.out.size))
    have HP2 := Lib.hid (HPl.out.later hb2)
    have HFi := Lib.hid (find_file (dir := spD s) (c := c) (H.out.later HB2.out) HF.out HP2.out.len HP2.out.n9 HP2.out.strs HP2.out.keys)
    have HLa : Hid (∀ i z, findK T (spL s) (spD s) wr = (some i, z) → ∃ d, aboveK T (spL s) = (some d, 0) ∧ T.K d = 2 ∧ T.E d (paN s) = some i) := fun i z q => find_last HNe.out q
    have HNo : Hid (∀ z, findK T (spL s) (spD s) wr = (none, z) → z ≠ 0) := fun z q => findK_none2 q
    have c0 : w2.cell? ⟨w1.heap.size, 0, none⟩ = some (.slice (some ⟨b, o, none⟩) n c) := HX2.out.cell 0
    have c1 : w2.cell? ⟨w1.heap.size, 1, none⟩ = some (.bool (spD s)) := HX2.out.cell 1
    have c2 : w2.cell? ⟨w1.heap.size, 2, none⟩ = some (.string (paN s)) := HX2.out.cell 2
    clear hw2 hb2 HB1
    generalize w1.heap.size = gp at *
    generalize findK T (spL s) (spD s) wr = R at *
    obtain ⟨ro, rz⟩ := R
    by_cases hz : rz = 0
    · subst hz
      cases ro with
      | none => exact absurd rfl (HNo.out 0 rfl)
      | some i =>
        obtain ⟨d, ha, hk, he⟩ := HLa.out i 0 rfl
        have HZ2 : Hid (removeK T s wr = (dropK T d (paN s) i, 0)) := by
          show _ = _
          rw [HZ.out]
          show (dropK T ((aboveK T (spL s)).1.getD 0) (paN s) i, (0 : Int)) = _
          rw [ha]
          rfl
        have HA := Lib.hid ha
        have HD := Lib.hid (And.intro hk he)
        clear HLa HNo ha hk he HZ
        go_wp2_with fail
        refine HFi.out.mono ?_
        rintro e w3 ⟨rfl, hb3⟩
        have HB3 := Lib.hid (HB2.out.trans (hb3.mono HB2.out.size))
        have c0 : w3.cell? ⟨gp, 0, none⟩ = some (.slice (some ⟨b, o, none⟩) n c) := (HX2.out.later hb3).cell 0
        have c1 : w3.cell? ⟨gp, 1, none⟩ = some (.bool (spD s)) := (HX2.out.later hb3).cell 1
        have c2 : w3.cell? ⟨gp, 2, none⟩ = some (.string (paN s)) := (HX2.out.later hb3).cell 2
        have HX3 := Lib.hid (HX2.out.later hb3)
        have HP3 := Lib.hid (HP2.out.later hb3)
        have HAb := Lib.hid (above_any (d := spD s) (last := paN s) (H.out.later HB3.out) HP3.out.len HP3.out.pos HP3.out.le HP3.out.n9 HP3.out.strs HP3.out.keys)
        rw [HA.out] at HAb
        have HAb : Hid (Calls Try.prog 41 #[.pointer (some ⟨p.bt, 0, none⟩), .agg #[.slice (some ⟨b, o, none⟩) n c, .bool (spD s), .string (paN s)]] w3 fun e w' => e = .returned (.tuple #[.pointer (some ⟨p.B d, 0, none⟩), .int .i64 0]) ∧ Below w3.heap.size w3 w') := HAb.out
        clear hb3 HFi
        go_wp2_with fail
        refine HAb.out.mono ?_
        rintro e w4 ⟨rfl, hb4⟩
        have HB4 := Lib.hid (HB3.out.trans (hb4.mono HB3.out.size))
        have c2 : w4.cell? ⟨gp, 2, none⟩ = some (.string (paN s)) := (HX3.out.later hb4).cell 2
        have HDr := Lib.hid (drop_any (H.out.later HB4.out) HD.out.1 HP2.out.wl HD.out.2 (fun q j t ht => HU.out i q d (paN s) HD.out.2 j t ht))
        clear hb4 c0 c1 HAb
        go_wp2_with fail
        refine HDr.out.mono ?_
        rintro e w5 ⟨rfl, hg⟩
        have HG := Lib.hid ((hg.before HB4.out).mono (Nat.le_succ cnt))
        clear hg c2
        go_wp2_with fail
        go_ret
        rw [HZ2.out]
        exact ⟨rfl, p, HG.out⟩
    · have HE : Hid (removeK T s wr = (T, rz)) := HZ.out.trans (if_pos hz)
      have hzb : (rz == 0) = false := beq_eq_false_iff_ne.2 hz
      clear hz HLa HNo
      go_wp2_with fail
      refine HFi.out.mono ?_
      rintro e w3 ⟨rfl, hb3⟩
      have HB3 := Lib.hid (HB2.out.trans (hb3.mono HB2.out.size))
      clear hb3 c0 c1 c2
      go_wp2_with fail
      go_ret
      rw [HE.out]
      exact opE_same H.out HB3.out _
set_option maxRecDepth 100000 in
set_option maxHeartbeats 4000000 in
theorem remove_empty (h : TrM w cnt T p) (hu : TrU T) {wr : Nat → Int} (hF : ∀ W, TrM W cnt T p → WrF cnt T p 55 wr) (s : ByteArray) :
    Calls Try.prog 52 #[.pointer (some ⟨p.bt, 0, none⟩), .string s, .func (.func 55) #[] #[]] w (OpE w cnt T p (removeK T s wr)) := by
  have H := Lib.hid h
  have HF := Lib.hid (hF w h)
  have HU := Lib.hid hu
  have HPa := Lib.hid (tparent_any s w)
  have HQ : Hid (removeK T s wr = if paE s ≠ 0 then (T, paE s) else rmR T s (findK T (spL s) (spD s) wr)) := rfl
  clear h hu hF
  go_enter Try.func52, Try.ntmps52
  go_wp2_with fail
  refine HPa.out.mono ?_
  rintro e w1 (⟨hz, rfl, hb⟩ | ⟨hz, b, o, n, c, rfl, hn, h0, hnc, hs, hb⟩)
  · have HE : Hid (removeK T s wr = (T, paE s)) := HQ.out.trans (if_pos hz)
    have hzb : (paE s == 0) = false := beq_eq_false_iff_ne.2 hz
    have HB : Hid (∀ o, Below w.heap.size w (w1.alloc o)) := fun o => hb.alloc hb.size o
    clear hz HPa hb HQ
    go_wp2_with fail
    go_ret
    rw [HE.out]
    exact opE_same H.out (HB.out _) _
  · have HZ : Hid (removeK T s wr = rmR T s (findK T (spL s) (spD s) wr)) := HQ.out.trans (if_neg (fun q => q hz))
    have HPl := Lib.hid (plO_of hn h0 hnc hs)
    have HB1 := Lib.hid hb
    have HNe : Hid (spL s ≠ []) := fun q => by rw [q] at hn; simp at hn; omega
    clear HPa hb hz HQ hn h0 hnc hs
    go_upto_region 2 with (fail)
    obtain ⟨w2, hw2⟩ : ∃ w2, w1.alloc (.cells #[.slice (some ⟨b, o, none⟩) n c, .bool (spD s), .string (paN s)] PLT) = w2 := ⟨_, rfl⟩
    rw [hw2]
    have hb2 : Below w1.heap.size w1 w2 := by rw [← hw2]; exact sup_pct w1 _
    have HX2 : Hid (Blo w2 w1.heap.size PLT #[.slice (some ⟨b, o, none⟩) n c, .bool (spD s), .string (paN s)]) := by rw [← hw2]; exact blo_laid w1 _ _
    have HB2 := Lib.hid (HB1.out.trans (hb2.mono HB1.out.size))
    have HP2 := Lib.hid (HPl.out.later hb2)
    have HFi := Lib.hid (find_empty (dir := spD s) (c := c) (H.out.later HB2.out) HF.out HP2.out.len HP2.out.n9 HP2.out.strs HP2.out.keys)
    have HLa : Hid (∀ i z, findK T (spL s) (spD s) wr = (some i, z) → ∃ d, aboveK T (spL s) = (some d, 0) ∧ T.K d = 2 ∧ T.E d (paN s) = some i) := fun i z q => find_last HNe.out q
    have HNo : Hid (∀ z, findK T (spL s) (spD s) wr = (none, z) → z ≠ 0) := fun z q => findK_none2 q
    have c0 : w2.cell? ⟨w1.heap.size, 0, none⟩ = some (.slice (some ⟨b, o, none⟩) n c) := HX2.out.cell 0
    have c1 : w2.cell? ⟨w1.heap.size, 1, none⟩ = some (.bool (spD s)) := HX2.out.cell 1
    have c2 : w2.cell? ⟨w1.heap.size, 2, none⟩ = some (.string (paN s)) := HX2.out.cell 2
    clear hw2 hb2 HB1
    generalize w1.heap.size = gp at *
    generalize findK T (spL s) (spD s) wr = R at *
    obtain ⟨ro, rz⟩ := R
    by_cases hz : rz = 0
    · subst hz
      cases ro with
      | none => exact absurd rfl (HNo.out 0 rfl)
      | some i =>
        obtain ⟨d, ha, hk, he⟩ := HLa.out i 0 rfl
        have HZ2 : Hid (removeK T s wr = (dropK T d (paN s) i, 0)) := by
          show _ = _
          rw [HZ.out]
          show (dropK T ((aboveK T (spL s)).1.getD 0) (paN s) i, (0 : Int)) = _
          rw [ha]
          rfl
        have HA := Lib.hid ha
        have HD := Lib.hid (And.intro hk he)
        clear HLa HNo ha hk he HZ
        go_wp2_with fail
        refine HFi.out.mono ?_
        rintro e w3 ⟨rfl, hb3⟩
        have HB3 := Lib.hid (HB2.out.trans (hb3.mono HB2.out.size))
        have c0 : w3.cell? ⟨gp, 0, none⟩ = some (.slice (some ⟨b, o, none⟩) n c) := (HX2.out.later hb3).cell 0
        have c1 : w3.cell? ⟨gp, 1, none⟩ = some (.bool (spD s)) := (HX2.out.later hb3).cell 1
        have c2 : w3.cell? ⟨gp, 2, none⟩ = some (.string (paN s)) := (HX2.out.later hb3).cell 2
        have HX3 := Lib.hid (HX2.out.later hb3)
        have HP3 := Lib.hid (HP2.out.later hb3)
        have HAb := Lib.hid (above_any (d := spD s) (last := paN s) (H.out.later HB3.out) HP3.out.len HP3.out.pos HP3.out.le HP3.out.n9 HP3.out.strs HP3.out.keys)
        rw [HA.out] at HAb
        have HAb : Hid (Calls Try.prog 41 #[.pointer (some ⟨p.bt, 0, none⟩), .agg #[.slice (some ⟨b, o, none⟩) n c, .bool (spD s), .string (paN s)]] w3 fun e w' => e = .returned (.tuple #[.pointer (some ⟨p.B d, 0, none⟩), .int .i64 0]) ∧ Below w3.heap.size w3 w') := HAb.out
        clear hb3 HFi
        go_wp2_with fail
        refine HAb.out.mono ?_
        rintro e w4 ⟨rfl, hb4⟩
        have HB4 := Lib.hid (HB3.out.trans (hb4.mono HB3.out.size))
        have c2 : w4.cell? ⟨gp, 2, none⟩ = some (.string (paN s)) := (HX3.out.later hb4).cell 2
        have HDr := Lib.hid (drop_any (H.out.later HB4.out) HD.out.1 HP2.out.wl HD.out.2 (fun q j t ht => HU.out i q d (paN s) HD.out.2 j t ht))
        clear hb4 c0 c1 HAb
        go_wp2_with fail
        refine HDr.out.mono ?_
        rintro e w5 ⟨rfl, hg⟩
        have HG := Lib.hid ((hg.before HB4.out).mono (Nat.le_succ cnt))
        clear hg c2
        go_wp2_with fail
        go_ret
        rw [HZ2.out]
        exact ⟨rfl, p, HG.out⟩
    · have HE : Hid (removeK T s wr = (T, rz)) := HZ.out.trans (if_pos hz)
      have hzb : (rz == 0) = false := beq_eq_false_iff_ne.2 hz
      clear hz HLa HNo
      go_wp2_with fail
      refine HFi.out.mono ?_
      rintro e w3 ⟨rfl, hb3⟩
      have HB3 := Lib.hid (HB2.out.trans (hb3.mono HB2.out.size))
      clear hb3 c0 c1 c2
      go_wp2_with fail
      go_ret
      rw [HE.out]
      exact opE_same H.out HB3.out _
end
end Go.Proofs.Ytcjojcihjhhpgaa
