/-
  ImapLoads: the copied blocks in memory; both Loads told by one code.
-/
import Derived.Test.YtbacfbdeeogkgaaImTel
import Derived.Test.YtbacfbdeeogkgaaImDocM
import Derived.Test.YtbacfbdeeogkgaaImLoadM
import Derived.Test.YtbacfbdeeogkgaaImAwake
namespace Go.Proofs.Ytbacfbdeeogkgaa
open Go.RowKit Go.Maps

theorem own_ne {W : World} {b1 b2 n1 n2 s1 s2 : Nat} {e1 e2 : TypeId} {v1 v2 : Value} {x1 x2 : List Value} (h1 : W.ownsRow b1 e1 s1 v1 n1 x1) (h2 : W.ownsRow b2 e2 s2 v2 n2 x2) (he : e1 ≠ e2) : ∀ g, v1.ownBlock = some g → v2.ownBlock ≠ some g := fun g a b => by
  rcases h1.2 with ⟨rfl, _⟩ | ⟨g1, c1, cur1, rfl, _, y1, _⟩
  · cases a
  · rcases h2.2 with ⟨rfl, _⟩ | ⟨g2, c2, cur2, rfl, _, y2, _⟩
    · cases b
    · simp [Value.ownBlock] at a b
      subst a
      subst b
      rw [y1] at y2
      cases y2
      exact he rfl
abbrev slA (A : Nat → Option Addr) (C : Nat → Nat) (L : List (List Nat)) (j : Nat) : Value := .slice (A j) (nthL L j).length (C j)
def cellsA (A : Nat → Option Addr) (C : Nat → Nat) (L : List (List Nat)) (k : Nat) : List Value := (List.range k).map (slA A C L)
structure InS (w : World) (L : List (List Nat)) (A : Nat → Option Addr) (C : Nat → Nat) (v : Value) (m k : Nat) (W : World) : Prop where
  row : W.ownsRow w.heap.size SLB 1 v m (cellsA A C L m)
  own : ∀ j, k ≤ j → j < m → W.ownsRow w.heap.size U8 1 (slA A C L j) (nthL L j).length (cellsB (nthL L j))
  bel : Below w.heap.size w W
def Apart (A : Nat → Option Addr) (C : Nat → Nat) (L : List (List Nat)) (m : Nat) : Prop := ∀ j' j, j' < j → j < m → ∀ g, (slA A C L j').ownBlock = some g → (slA A C L j).ownBlock ≠ some g
theorem InS.later {w W W' : World} {L : List (List Nat)} {A : Nat → Option Addr} {C : Nat → Nat} {v : Value} {m k : Nat} (h : InS w L A C v m k W) (hb : Below W.heap.size W W') : InS w L A C v m k W' :=
  ⟨own_later h.row hb, fun j a b => own_later (h.own j a b) hb, h.bel.trans (hb.mono h.bel.size)⟩
theorem InS.cell {w W : World} {L : List (List Nat)} {A : Nat → Option Addr} {C : Nat → Nat} {a : Option Addr} {m k c : Nat} (h : InS w L A C (.slice a m c) m k W) {j : Nat} (hj : j < m) : ∃ b, a = some ⟨b, 0, none⟩ ∧ W.cell? ⟨b, j, none⟩ = some (slA A C L j) := by
  rcases id h.row.2 with ⟨h1, h0⟩ | ⟨g, cc, cur, h1, _⟩
  · omega
  · cases h1
    refine ⟨g, rfl, ?_⟩
    rw [h.row.cellAt j (by omega)]
    unfold cellsA
    rw [List.getElem?_map, List.getElem?_range hj]
    rfl
/-- The copies as a slice of slices. -/
theorem InS.lists {w W : World} {L : List (List Nat)} {A : Nat → Option Addr} {C : Nat → Nat} {a : Option Addr} {m c : Nat} (h : InS w L A C (.slice a m c) m 0 W) (hm : m = L.length) (hm9 : m ≤ 1000) (hL : ∀ j, j < m → ∀ x ∈ nthL L j, x < 256) : Lists W a m A C L :=
  ⟨hm, by omega, fun hne => by
    obtain ⟨b, hb, _⟩ := h.cell (j := 0) (by omega)
    refine ⟨b, 0, hb, fun i hi => ?_⟩
    obtain ⟨b', hb', hc⟩ := h.cell hi
    rw [hb] at hb'
    cases hb'
    rw [Nat.zero_add]
    exact hc, fun i hi => by
    have ho := h.own i (Nat.zero_le _) hi
    obtain ⟨a', cap', hva, -, hby, hno⟩ := Bytes.own ho (hL i hi)
    obtain ⟨a2, c2, hv2, hc2⟩ := own_slice ho
    cases hva
    cases hv2
    exact ⟨hby, hno, hc2⟩⟩
/-- One more. -/
theorem InS.more {w W W' : World} {L : List (List Nat)} {A : Nat → Option Addr} {C : Nat → Nat} {v v' : Value} {m : Nat} {a5 : Option Addr} {c5 H0 : Nat} (h : InS w L A C v m 0 W) (hap : Apart A C L m) (hlow : ∀ j, j < m → ∀ g, (slA A C L j).ownBlock = some g → g < H0)
    (h5 : W.ownsRow H0 U8 1 (.slice a5 (nthL L m).length c5) (nthL L m).length (cellsB (nthL L m))) (hw : w.heap.size ≤ H0) (hg : W.grownBy W' v.ownBlock) (ho : W'.ownsRow w.heap.size SLB 1 v' (m + 1) (cellsA A C L m ++ [.slice a5 (nthL L m).length c5])) :
    InS w L (upd A m a5) (upd C m c5) v' (m + 1) 0 W' ∧ Apart (upd A m a5) (upd C m c5) L (m + 1) := by
  have hsame : ∀ j, j < m → slA (upd A m a5) (upd C m c5) L j = slA A C L j := fun j hj => by unfold slA; rw [upd_ne _ _ _ (by omega), upd_ne _ _ _ (by omega)]
  have hlast : slA (upd A m a5) (upd C m c5) L m = .slice a5 (nthL L m).length c5 := by unfold slA; rw [upd_at, upd_at]
  have hcells : cellsA (upd A m a5) (upd C m c5) L (m + 1) = cellsA A C L m ++ [.slice a5 (nthL L m).length c5] := by
    unfold cellsA
    rw [List.range_succ, List.map_append, List.map_singleton, hlast]
    congr 1
    exact List.map_congr_left fun j hj => hsame j (List.mem_range.1 hj)
  have keep : ∀ {base n : Nat} {u : Value} {xs : List Value}, W.ownsRow base U8 1 u n xs → W'.ownsRow base U8 1 u n xs := fun {base n u xs} hu =>
    stab_row base U8 1 n xs u W W' _ hg (fun k hk e => own_ne hu h.row (by decide) k (by rw [blk_own hu]; exact hk) e.symm) hu
  refine ⟨⟨by rw [hcells]; exact ho, fun j _ hj => ?_, h.bel.grown hg h.bel.size (fun q hq => (h.row.lt q hq).1)⟩, fun j' j hjj hj g e1 e2 => ?_⟩
  · by_cases e : j = m
    · subst e; rw [hlast]; exact own_base (keep h5) hw
    · rw [hsame j (by omega)]; exact keep (h.own j (Nat.zero_le _) (by omega))
  · rw [hsame j' (by omega)] at e1
    by_cases e : j = m
    · subst e
      rw [hlast] at e2
      have := (h5.lt g e2).1
      have := hlow j' hjj g e1
      omega
    · rw [hsame j (by omega)] at e2
      exact hap j' j hjj (by omega) g e1 e2
/-! Both Loads, one code. -/
open Classical in
noncomputable def codeL (n : Int) (L : List (List Nat)) : Int := if n < 4 ∨ 200 < n then 22 else if L.length ≠ (n.toNat + 7) / 8 then 100 else if ∀ p, p < 8 * L.length → okQ L n.toNat p then 0 else 100
def MapIs (W0 W : World) (n : Nat) (L : List (List Nat)) (mv : Value) : Prop := ∃ bm gs gd, mv = .pointer (some ⟨bm, 0, none⟩) ∧ Im W bm gs gd n 0 (ldA L n (8 * L.length)) (ldV L n (8 * L.length)) (ldB L n (8 * L.length)) ∧ W0.heap.size ≤ bm ∧ W0.heap.size ≤ gs ∧ W0.heap.size ≤ gd
def DocIs (W0 W : World) (n : Nat) (L : List (List Nat)) (v : Value) : Prop := ∃ g, v = rmv g n ∧ W0.heap.size ≤ g ∧ Rm W g n (ldA L n (8 * L.length)) (ldV L n (8 * L.length)) (ldB L n (8 * L.length)) (fun _ => false)
theorem loads_p (n : Int) (a : Option Addr) (m cap : Nat) (A : Nat → Option Addr) (C : Nat → Nat) (L : List (List Nat)) (W : World) (hl : Lists W a m A C L) :
    Calls Try.prog 8 #[.int .i64 n, .slice a m cap] W fun e W' => ∃ mv, e = .returned (.tuple #[mv, .int .i64 (codeL n L)]) ∧ ((codeL n L = 22 ∨ codeL n L = 100) ∧ mv = .pointer none ∨ codeL n L = 0 ∧ 4 ≤ n ∧ n ≤ 200 ∧ (∀ p, p < 8 * L.length → okQ L n.toNat p) ∧ n.toNat ≤ 8 * L.length ∧ MapIs W W' n.toNat L mv) ∧ Below W.heap.size W W' := by
  unfold codeL
  by_cases h1 : n < 4 ∨ 200 < n
  · rw [if_pos h1]
    exact (load_bad n a m cap W h1).mono fun e W' ⟨h2, h3⟩ => ⟨_, h2, .inl ⟨.inl rfl, rfl⟩, h3 ▸ Below.refl _ _⟩
  · rw [if_neg h1]
    obtain ⟨k, rfl⟩ : ∃ k : Nat, n = (k : Int) := ⟨n.toNat, by omega⟩
    simp only [Int.toNat_natCast]
    by_cases h2 : L.length ≠ (k + 7) / 8
    · rw [if_pos h2]
      exact (load_len k a m cap W (by omega) (by omega) (by rw [hl.len]; exact h2)).mono fun e W' ⟨h3, h4⟩ => ⟨_, h3, .inl ⟨.inr rfl, rfl⟩, h4⟩
    · rw [if_neg h2]
      refine (load_any k a m cap A C L W (by omega) (by omega) (by rw [hl.len]; omega) hl).mono fun e W' ⟨h3, h4⟩ => ?_
      rcases h3 with ⟨hok, bm, gs, gd, rfl, him, hge⟩ | ⟨hno, rfl⟩
      · rw [if_pos hok]
        exact ⟨_, rfl, .inr ⟨rfl, by omega, by omega, hok, by omega, bm, gs, gd, rfl, him, hge⟩, h4⟩
      · rw [if_neg hno]
        exact ⟨_, rfl, .inl ⟨.inr rfl, rfl⟩, h4⟩
theorem loads_d (n : Int) (a : Option Addr) (m cap : Nat) (A : Nat → Option Addr) (C : Nat → Nat) (L : List (List Nat)) (W : World) (hl : Lists W a m A C L) :
    Calls Try.prog 9 #[.int .i64 n, .slice a m cap] W fun e W' => ∃ da dn dc, e = .returned (.tuple #[.agg #[.slice da dn dc], .int .i64 (codeL n L)]) ∧ (codeL n L = 0 → DocIs W W' n.toNat L (.agg #[.slice da dn dc])) ∧ Below W.heap.size W W' := by
  unfold codeL
  by_cases h1 : n < 4 ∨ 200 < n
  · rw [if_pos h1]
    exact (rload_bad n a m cap W h1).mono fun e W' ⟨h2, h3⟩ => ⟨_, _, _, h2, (fun h => by cases h), h3⟩
  · rw [if_neg h1]
    obtain ⟨k, rfl⟩ : ∃ k : Nat, n = (k : Int) := ⟨n.toNat, by omega⟩
    simp only [Int.toNat_natCast]
    by_cases h2 : L.length ≠ (k + 7) / 8
    · rw [if_pos h2]
      exact (rload_len k a m cap W (by omega) (by omega) (by rw [hl.len]; exact h2)).mono fun e W' ⟨h3, h4⟩ => ⟨_, _, _, h3, (fun h => by cases h), h4⟩
    · rw [if_neg h2]
      refine (rload_any k a m cap A C L W (by omega) (by omega) (by rw [hl.len]; omega) hl).mono fun e W' ⟨h3, h4⟩ => ?_
      rcases h3 with ⟨hok, g, rfl, hge, hrm⟩ | ⟨hno, rfl⟩
      · rw [if_pos hok]
        exact ⟨_, _, _, rfl, fun _ => ⟨g, rfl, hge, hrm⟩, h4⟩
      · rw [if_neg hno]
        exact ⟨_, _, _, rfl, (fun h => by cases h), h4⟩
/-- What has been loaded is good. -/
theorem ld_good (L : List (List Nat)) (n : Nat) (hok : ∀ p, p < 8 * L.length → okQ L n p) : ∀ i, i < n → GoodM (ldA L n (8 * L.length) i) (ldV L n (8 * L.length) i) := fun i hi => by
  unfold ldA ldV
  by_cases h : 1 ≤ i ∧ i < n ∧ i < 8 * L.length
  · rw [if_pos h, if_pos h]
    have hc := (hok i h.2.2).1
    unfold pA pV
    have hy : (nthL L (i / 8)).length = 64 ∧ OkM (nthL L (i / 8)) := Classical.byContradiction fun hn => by rw [(m_no hn).2] at hc; cases hc
    unfold mA mV
    rw [if_pos hy, if_pos hy]
    exact hy.2.1 _ (Nat.mod_lt _ (by decide))
  · rw [if_neg h, if_neg h]; unfold GoodM; decide
end Go.Proofs.Ytbacfbdeeogkgaa
