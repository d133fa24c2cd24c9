/-
  TrNf · TrNwM: these texts in one.
-/
import Derived.Test.YtcjojcihjhhpgaaPk13
/-
  The laws' closures that name files.
-/
namespace Go.Proofs.Ytcjojcihjhhpgaa
open Go.RowKit

theorem strOf_nmI (i : Nat) : strOf [97 + i / 10, 48 + i % 10] = nmI i := by
  have h := strOf_toList [97 + i / 10, 48 + i % 10]
  unfold nmI
  generalize strOf [97 + i / 10, 48 + i % 10] = s at *
  cases s with
  | mk d =>
    have h : d.toList = _ := h
    congr 1
    exact Array.toList_inj.1 h
theorem nm_bytes (i : Nat) (h : i < 100) (w : World) : Bytes (w.alloc (.cells #[.int .u8 (97 + (i : Int) / 10), .int .u8 (48 + (i : Int) % 10)] U8)) (some ⟨w.heap.size, 0, none⟩) [97 + i / 10, 48 + i % 10] := by
  have e1 : ((97 + i / 10 : Nat) : Int) = 97 + (i : Int) / 10 := by omega
  have e2 : ((48 + i % 10 : Nat) : Int) = 48 + (i : Int) % 10 := by omega
  refine Bytes.laid w [97 + i / 10, 48 + i % 10] _ U8 (0, 0) (fun x hx => ?_) (by show (2 : Nat) ≤ _; omega) ?_
  · simp at hx
    omega
  · intro j hj
    rw [← e1, ← e2]
    match j, hj with
    | 0, _ => rfl
    | 1, _ => rfl
    | j + 2, hj => exact absurd hj (by show ¬ j + 2 < 2; omega)
set_option maxRecDepth 100000 in
theorem name_new (i : Nat) (h : i < 100) (w : World) : Calls Try.prog 27 #[.int .i64 (i : Int)] w fun e w' => e = .returned (.string (ptI i)) ∧ Below w.heap.size w w' := by
  have h0 : (0 : Int) ≤ (i : Int) := by omega
  have h1 : (i : Int) < 100 := by omega
  obtain ⟨w1, hw1⟩ : ∃ w1, w.alloc (.cells #[.int .u8 (97 + (i : Int) / 10), .int .u8 (48 + (i : Int) % 10)] U8) = w1 := ⟨_, rfl⟩
  have hcv : (convert 31 9 (.slice (some ⟨w.heap.size, 0, none⟩) 2 2)).run Try.prog w1 = .ok (.string (nmI i)) w1 := by
    rw [← hw1, ← strOf_nmI]
    exact run_str _ 31 9 5 Try.underlying31 Try.underlying5 Try.underlying9 _ _ 2 2 rfl (nm_bytes i h w)
  have HB := Lib.hid (show Below w.heap.size w w1 by rw [← hw1]; exact sup_pct w _)
  have HE : Hid (ptI i = ⟨#[47]⟩ ++ nmI i) := rfl
  have hs : (nmI i).size = 2 := rfl
  generalize ptI i = pt at *
  generalize nmI i = x at *
  go_enter Try.func27, Try.ntmps27
  go_wp2_with fail
  go_ret
  rw [HE.out]
  exact ⟨rfl, HB.out⟩
set_option maxRecDepth 100000 in
theorem name_links (i : Nat) (h : i < 100) (w : World) : Calls Try.prog 22 #[.int .i64 (i : Int)] w fun e w' => e = .returned (.string (ptI i)) ∧ Below w.heap.size w w' := by
  have h0 : (0 : Int) ≤ (i : Int) := by omega
  have h1 : (i : Int) < 100 := by omega
  obtain ⟨w1, hw1⟩ : ∃ w1, w.alloc (.cells #[.int .u8 (97 + (i : Int) / 10), .int .u8 (48 + (i : Int) % 10)] U8) = w1 := ⟨_, rfl⟩
  have hcv : (convert 31 9 (.slice (some ⟨w.heap.size, 0, none⟩) 2 2)).run Try.prog w1 = .ok (.string (nmI i)) w1 := by
    rw [← hw1, ← strOf_nmI]
    exact run_str _ 31 9 5 Try.underlying31 Try.underlying5 Try.underlying9 _ _ 2 2 rfl (nm_bytes i h w)
  have HB := Lib.hid (show Below w.heap.size w w1 by rw [← hw1]; exact sup_pct w _)
  have HE : Hid (ptI i = ⟨#[47]⟩ ++ nmI i) := rfl
  have hs : (nmI i).size = 2 := rfl
  generalize ptI i = pt at *
  generalize nmI i = x at *
  go_enter Try.func22, Try.ntmps22
  go_wp2_with fail
  go_ret
  rw [HE.out]
  exact ⟨rfl, HB.out⟩
end Go.Proofs.Ytcjojcihjhhpgaa
/-
  TreeNew in numbers.
-/
namespace Go.Proofs.Ytcjojcihjhhpgaa
open Go.RowKit

/-- Inodes 3 to m - 1 are files. -/
def KN (m : Nat) : Nat → Int := fun j => if j = 2 then 2 else if 3 ≤ j ∧ j < m then 1 else 0
def FN (m : Nat) : ByteArray → Option Nat := fun s => (List.range m).find? fun j => decide (3 ≤ j ∧ nmI j = s)
def L1 : Nat → Int := fun _ => 1
section
variable {T : Tr} {n m k i : Nat} {s : ByteArray}
theorem RT.same {k k' L L' : Nat → Int} {f f' : ByteArray → Option Nat} (h : RT T n k L f) (hk : k = k') (hf : f = f') (hL : ∀ j, k j ≠ 0 → L j = L' j) : RT T n k' L' f' := by
  subst hk; subst hf
  exact ⟨h.n, h.K, fun j hj => (h.L j hj).trans (hL j hj), h.E, h.b, h.r⟩
theorem FN_none (hs : ∀ j, 3 ≤ j → j < m → nmI j ≠ s) : FN m s = none := by
  unfold FN
  rw [List.find?_eq_none]
  intro j hj
  rw [List.mem_range] at hj
  simp only [decide_eq_true_eq]
  exact fun q => hs j q.1 hj q.2
theorem FN_some (h3 : 3 ≤ k) (hk : k < m) (hm : m ≤ 100) : FN m (nmI k) = some k := by
  unfold FN
  rw [List.find?_eq_some_iff_getElem]
  refine ⟨decide_eq_true ⟨h3, rfl⟩, k, by rw [List.length_range]; exact hk, by simp, fun j hj => ?_⟩
  rw [List.getElem_range]
  simp only [Bool.not_eq_true', decide_eq_false_iff_not]
  exact fun q => by have := nmI_inj (by omega) (by omega) q.2; omega
theorem FN_ok (h : FN m s = some k) : 3 ≤ k ∧ k < m ∧ s = nmI k := by
  unfold FN at h
  have h1 := List.find?_some h
  have h2 := List.mem_of_find?_eq_some h
  rw [List.mem_range] at h2
  have h1 : decide (3 ≤ k ∧ nmI k = s) = true := h1
  rw [decide_eq_true_eq] at h1
  exact ⟨h1.1, h2, h1.2.symm⟩
theorem FN_more (m : Nat) : FN m nmM = none := FN_none fun j _ _ => nmI_ne j
theorem FN_succ (h3 : 3 ≤ m) (hm : m < 100) : updS (FN m) (nmI m) (some m) = FN (m + 1) := by
  funext z
  by_cases e : z = nmI m
  · subst e
    rw [updS_at, FN_some h3 (Nat.lt_succ_self _) (by omega)]
  · rw [updS_ne _ _ e]
    cases h : FN m z with
    | none =>
      symm
      refine FN_none fun j h3 hj e2 => ?_
      by_cases ej : j = m
      · subst ej; exact e e2.symm
      · rw [← e2, FN_some h3 (by omega) (by omega)] at h
        cases h
    | some k =>
      obtain ⟨a1, a2, rfl⟩ := FN_ok h
      rw [FN_some a1 (by omega) (by omega)]
theorem KN_succ (h3 : 3 ≤ m) : updN (KN m) m 1 = KN (m + 1) := by
  funext j
  by_cases e : j = m
  · subst e
    rw [updN_at]
    unfold KN
    rw [if_neg (by omega), if_pos (by omega)]
  · rw [updN_ne _ _ e]
    unfold KN
    by_cases e2 : j = 2
    · rw [if_pos e2, if_pos e2]
    · rw [if_neg e2, if_neg e2]
      by_cases e3 : 3 ≤ j ∧ j < m
      · rw [if_pos e3, if_pos (by omega)]
      · rw [if_neg e3, if_neg (by omega)]
theorem KN_one (h3 : 3 ≤ k) (hk : k < m) : KN m k = 1 := by unfold KN; rw [if_neg (by omega), if_pos ⟨h3, hk⟩]
theorem KN_two : KN m 2 = 2 := if_pos rfl
theorem KN_zero (h3 : 3 ≤ k) (hk : m ≤ k) : KN m k = 0 := by unfold KN; rw [if_neg (by omega), if_neg (by omega)]
theorem KN_least (h3 : 3 ≤ m) (hm : m ≤ n) : leastF n (KN m) = some m := leastF_of (by omega) hm (KN_zero h3 (Nat.le_refl _)) fun j h2 hj => by
  by_cases e : j = 2
  · subst e; rw [KN_two]; decide
  · rw [KN_one (by omega) hj]; decide
theorem KN_full (n : Nat) : leastF n (KN (n + 1)) = none := leastF_none fun j h2 hj => by
  by_cases e : j = 2
  · subst e; rw [KN_two]; decide
  · rw [KN_one (by omega) (by omega)]; decide
theorem KN_cut (h3 : 3 ≤ k) (hk : k ≤ n) {q : Nat → Int} (hq : ∀ j, q j = if j = k then 0 else KN (n + 1) j) : leastF n q = some k := leastF_of (by omega) hk (by rw [hq, if_pos rfl]) fun j h2 hj => by
  rw [hq, if_neg (by omega)]
  by_cases e : j = 2
  · subst e; rw [KN_two]; decide
  · rw [KN_one (by omega) (by omega)]; decide
theorem new_start (n : Nat) : RT (tree0 n) n (KN 3) L1 (FN 3) := by
  refine (RT.new (n := n)).same ?_ ?_ fun j hj => ?_
  · funext j
    by_cases e : j = 2
    · subst e; rfl
    · rw [updN_ne _ _ e]
      unfold KN
      rw [if_neg e, if_neg (by omega)]
  · funext s
    exact (FN_none fun j h1 h2 => by omega).symm
  · by_cases e : j = 2
    · subst e; rfl
    · rw [updN_ne _ _ e] at hj
      exact absurd rfl hj
theorem L1_upd {L : Nat → Int} (h : ∀ j, j ≠ i → L j = 1) : ∀ j, updN L i 1 j = L1 j := fun j => by
  by_cases e : j = i
  · subst e; rw [updN_at]; rfl
  · rw [updN_ne _ _ e, h j e]; rfl
theorem new_step (h : RT T n (KN m) L1 (FN m)) (h3 : 3 ≤ m) (hm : m ≤ n) (hn : n < 100) : ∃ T', createK T (ptI m) = (T', (m : Int), 0) ∧ RT T' n (KN (m + 1)) L1 (FN (m + 1)) := by
  obtain ⟨T', h1, h2⟩ := h.create (ptI_one (i := m) (by omega)) (FN_none fun j a1 a2 e => by have := nmI_inj (by omega) (by omega) e; omega) (KN_least h3 hm)
  exact ⟨T', h1, h2.same (KN_succ h3) (FN_succ h3 (by omega)) fun j _ => L1_upd (fun _ _ => rfl) j⟩
theorem new_round (h : RT T n (KN (n + 1)) L1 (FN (n + 1))) (h3 : 3 ≤ k) (hk : k ≤ n) (hn : n < 99) : mkdirK T ptM = (T, 0, 23) ∧ ∃ T1 T2 T3 T4, unlinkK T (ptI k) = (T1, 0) ∧ mkdirK T1 ptM = (T2, (k : Int), 0) ∧ rmdirK T2 ptM = (T3, 0) ∧ createK T3 (ptI k) = (T4, (k : Int), 0) ∧ RT T4 n (KN (n + 1)) L1 (FN (n + 1)) := by
  have hM := FN_more (n + 1)
  have hne := nmI_ne k
  have hK1 := KN_one h3 (show k < n + 1 by omega)
  have hF := FN_some h3 (show k < n + 1 by omega) (by omega)
  obtain ⟨T1, a1, b1⟩ := h.unlink (ptI_one (i := k) (by omega)) hF hK1
  rw [if_pos (show L1 k = 1 from rfl)] at b1
  obtain ⟨T2, a2, b2⟩ := b1.mkdir ptM_one (by rw [updS_ne _ _ (Ne.symm hne)]; exact hM) (KN_cut h3 hk (fun j => by
    by_cases e : j = k
    · subst e; rw [updN_at, if_pos rfl]
    · rw [updN_ne _ _ e, if_neg e]))
  obtain ⟨T3, a3, b3⟩ := b2.rmdir ptM_one (updS_at _ _ _) (updN_at _ _ _) (by omega)
  rw [if_pos (updN_at _ _ _)] at b3
  obtain ⟨T4, a4, b4⟩ := b3.create (ptI_one (i := k) (by omega)) (by rw [updS_ne _ _ hne, updS_ne _ _ hne, updS_at]) (KN_cut h3 hk (fun j => by
    by_cases e : j = k
    · subst e; rw [updN_at, if_pos rfl]
    · rw [updN_ne _ _ e, updN_ne _ _ e, updN_ne _ _ e, if_neg e]))
  refine ⟨h.mkdir_full ptM_one hM (KN_full n), T1, T2, T3, T4, a1, a2, a3, a4, b4.same ?_ ?_ fun j _ => L1_upd (fun j e => ?_) j⟩
  · funext j
    by_cases e : j = k
    · subst e; rw [updN_at, hK1]
    · rw [updN_ne _ _ e, updN_ne _ _ e, updN_ne _ _ e, updN_ne _ _ e]
  · rw [updS_gone (by rw [updS_ne _ _ (Ne.symm hne)]; exact hM), updS_back hF]
  · rw [updN_ne _ _ e, updN_ne _ _ e, updN_ne _ _ e]; rfl
theorem new_flat (h : RT T n (KN (n + 1)) L1 (FN (n + 1))) (hn : n < 99) : Flat T ((List.range (n - 2)).map fun j => nmI (j + 3)) := by
  refine ⟨?_, fun s => ?_, fun s j hj => ?_⟩
  · refine (List.pairwise_map.2 ((List.nodup_range (n := n - 2)).imp_of_mem fun {a b} ha hb q e => q ?_))
    rw [List.mem_range] at ha hb
    have := nmI_inj (by omega) (by omega) e
    omega
  · rw [h.ent]
    constructor
    · intro q
      obtain ⟨j, hj, rfl⟩ := List.mem_map.1 q
      rw [List.mem_range] at hj
      rw [FN_some (by omega) (by omega) (by omega)]
      rfl
    · intro q
      obtain ⟨j, hj⟩ := Option.isSome_iff_exists.1 q
      obtain ⟨a1, a2, rfl⟩ := FN_ok hj
      exact List.mem_map.2 ⟨j - 3, by rw [List.mem_range]; omega, by rw [show j - 3 + 3 = j by omega]⟩
  · rw [h.ent] at hj
    obtain ⟨a1, a2, -⟩ := FN_ok hj
    rw [h.K, KN_one a1 a2]
    decide
theorem new_walk (h : RT T n (KN (n + 1)) L1 (FN (n + 1))) (hn : n < 99) (h2 : 2 ≤ n) {L : List ByteArray} (hL : WalkL T L) : (L.length : Int) = (n : Int) - 2 := by
  rw [(new_flat h hn).walk hL, srtB_len, List.length_map, List.length_map, List.length_range]
  omega
end
end Go.Proofs.Ytcjojcihjhhpgaa
