/-
  What is told no more and what is told yet: together what was told, each once.
-/
import Derived.Test.YtnlmpnpelnmpeaaFlMovesM
namespace Go.Proofs.Ytnlmpnpelnmpeaa
open Go.RowKit Go.Maps

def nz (a : Int) : List Int := if a ≠ 0 then [a] else []
theorem nz_zero : nz 0 = [] := by simp [nz]
theorem nz_mem (a x : Int) : x ∈ nz a ↔ x = a ∧ a ≠ 0 := by
  unfold nz
  by_cases e : a = 0
  · simp [e]
  · rw [if_pos e]; simp [e]
/-- All addresses that are told. -/
def valB (d : Nat → Int) (ad : Int → Int) : List Int := ((List.range 600).flatMap fun n => nz (d n)) ++ metAll.flatMap fun x => nz (ad x)
theorem datL_snd (d : Nat → Int) (i : Nat) : ((datL d i).map fun p : Int × Int => p.2) = (List.range i).flatMap fun n => nz (d n) := by
  unfold datL
  rw [List.map_flatMap]
  congr 1
  funext n
  unfold nz
  split <;> rfl
theorem plM_snd (ad : Int → Int) (l : List Int) : ((plM ad l).map fun p : Int × Int => p.2) = l.flatMap fun x => nz (ad x) := by
  unfold plM
  rw [List.map_flatMap]
  congr 1
  funext n
  unfold nz
  split <;> rfl
set_option maxRecDepth 20000 in
theorem plc_snd (d : Nat → Int) (ad : Int → Int) (h : ∀ x, cov d x = 0 → ad x = 0) : ((plcL d ad).map fun p : Int × Int => p.2) = valB d ad := by
  unfold plcL valB
  rw [List.map_append, datL_snd, plM_all d ad h, plM_snd]
theorem flat_congr {α : Type} {f g : α → List Int} : ∀ {l : List α}, (∀ z ∈ l, f z = g z) → l.flatMap f = l.flatMap g
  | [], _ => rfl
  | z :: l, h => by rw [List.flatMap_cons, List.flatMap_cons, h z (List.mem_cons_self ..), flat_congr (fun y hy => h y (List.mem_cons_of_mem _ hy))]
theorem upd_perm {α : Type} (x : α) (f g : α → List Int) (h : ∀ y, y ≠ x → g y = f y) : ∀ (l : List α), l.Nodup → x ∈ l → (f x ++ l.flatMap g).Perm (g x ++ l.flatMap f)
  | [], _, hx => by cases hx
  | y :: l, hn, hx => by
    obtain ⟨h1, h2⟩ := List.nodup_cons.1 hn
    rw [List.flatMap_cons, List.flatMap_cons]
    by_cases e : y = x
    · subst e
      have : l.flatMap g = l.flatMap f := flat_congr fun z hz => h z (fun e2 => h1 (e2 ▸ hz))
      rw [this]
      refine List.perm_iff_count.2 fun a => ?_
      simp only [List.count_append]
      omega
    · have hx' : x ∈ l := by
        rcases List.mem_cons.1 hx with h3 | h3
        · exact absurd h3.symm e
        · exact h3
      have ih := upd_perm x f g h l h2 hx'
      rw [h y e]
      refine List.perm_iff_count.2 fun a => ?_
      have := ih.count_eq a
      simp only [List.count_append] at this ⊢
      omega
theorem gone_nz (a b : Int) (h : b = 0 ∨ b ≠ a) : goneM a b = nz a := by
  unfold goneM nz
  by_cases e : a = 0
  · rw [if_pos (.inl e), if_neg (by simp [e])]
  · rw [if_neg (by omega), if_pos e]
set_option maxRecDepth 20000 in
theorem gl_perm (ct ad : Int → Int) (L : List Int) (hn : L.Nodup) (hm : ∀ x ∈ L, x ∈ metAll) : ∀ j, j ≤ L.length → (glM ct ad (L.take j) ++ metAll.flatMap fun x => nz (adS ct ad (L.take j) x)).Perm (metAll.flatMap fun x => nz (ad x))
  | 0, _ => by rw [List.take_zero, adS_nil]; exact List.Perm.refl _
  | j + 1, hj => by
    have ih' := gl_perm ct ad L hn hm j (by omega)
    have hl : j < L.length := hj
    obtain ⟨hT1, hx⟩ := take_way hn hl
    have hxm := hm L[j] (List.getElem_mem hl)
    rw [hT1]
    generalize L.take j = l at *
    generalize L[j] = x at *
    rw [glM_snoc]
    by_cases e : ct x = 1
    · rw [if_pos e, adS_one _ _ _ _ e]
      have ha : adS ct ad l x = ad x := by unfold adS; rw [if_neg (fun e2 => hx e2.1)]
      have h1 := upd_perm x (fun y => nz (adS ct ad l y)) (fun y => nz (updO (adS ct ad l) x 0 y)) (fun y hy => by rw [updO_ne _ _ hy]) metAll metAll_f.2.1 hxm
      simp only [updO_at, nz_zero, ha] at h1
      rw [gone_nz _ _ (.inl rfl)]
      refine List.perm_iff_count.2 fun a => ?_
      have c1 := h1.count_eq a
      have c2 := ih'.count_eq a
      simp only [List.count_append, List.nil_append] at c1 c2 ⊢
      omega
    · rw [if_neg e, List.append_nil, adS_more _ _ _ _ e]
      exact ih'
set_option maxRecDepth 20000 in
theorem set_perm (d : Nat → Int) (ad : Int → Int) (k : Nat) (hk : k < 600) (v : Int) (hv : v = 0 ∨ v ≠ d k) (h : ∀ x, cov d x = 0 → ad x = 0) : (valB d ad ++ nz v).Perm (sdL d ad k v ++ valB (updN d k v) (sdA d ad k v)) := by
  have h1 := upd_perm k (fun n => nz (d n)) (fun n => nz (updN d k v n)) (fun n hn => by rw [updN_ne _ _ hn]) (List.range 600) List.nodup_range (List.mem_range.2 hk)
  simp only [updN_at] at h1
  have h2 : ((if d k ≠ 0 ∧ v = 0 then glM (cov d) ad (way k) else []) ++ metAll.flatMap fun x => nz (sdA d ad k v x)).Perm (metAll.flatMap fun x => nz (ad x)) := by
    by_cases e : d k ≠ 0 ∧ v = 0
    · rw [if_pos e]
      obtain ⟨e1, rfl⟩ := e
      rw [sdA_spare h k hk e1]
      have := gl_perm (cov d) ad (way k) (way_f k hk).nodup (metAll_f.2.2.2 k hk) (way k).length (Nat.le_refl _)
      rw [List.take_length] at this
      exact this
    · rw [if_neg e, sdA_keep h k v (fun x => by
        rw [cov_upd d k hk v x]
        by_cases e1 : v = 0
        · have : d k = 0 := by
            apply Classical.byContradiction
            intro e2
            exact e ⟨e2, e1⟩
          split <;> simp [this, e1]
        · split <;> simp [e1] <;> (try split) <;> omega)]
      exact List.Perm.refl _
  have h3 := srt_perm (goneM (d k) v ++ if d k ≠ 0 ∧ v = 0 then glM (cov d) ad (way k) else [])
  have h4 : goneM (d k) v = nz (d k) := gone_nz _ _ hv
  rw [h4] at h3
  refine List.perm_iff_count.2 fun a => ?_
  have c1 := h1.count_eq a
  have c2 := h2.count_eq a
  have c3 := h3.count_eq a
  unfold valB sdL
  rw [h4]
  simp only [List.count_append] at c1 c2 c3 ⊢
  omega
set_option maxRecDepth 20000 in
theorem meta_perm (d : Nat → Int) (ad : Int → Int) (x : Int) (hx : x ∈ metAll) (v : Int) (hv : v = 0 ∨ v ≠ ad x) : (valB d ad ++ nz v).Perm (goneM (ad x) v ++ valB d (updO ad x v)) := by
  have h1 := upd_perm x (fun y => nz (ad y)) (fun y => nz (updO ad x v y)) (fun y hy => by rw [updO_ne _ _ hy]) metAll metAll_f.2.1 hx
  simp only [updO_at] at h1
  rw [gone_nz _ _ hv]
  refine List.perm_iff_count.2 fun a => ?_
  have c1 := h1.count_eq a
  unfold valB
  simp only [List.count_append] at c1 ⊢
  omega
theorem aC_az (d : Nat → Int) (ad : Int → Int) (fr i : Nat) : ∀ x, cov (dC d fr i) x = 0 → aC d ad fr i x = 0 := fun x h => by unfold aC; rw [if_pos h]
set_option maxRecDepth 20000 in
theorem cut_perm (d : Nat → Int) (ad : Int → Int) (fr : Nat) (hfr : fr ≤ 600) (h : ∀ x, cov d x = 0 → ad x = 0) : (valB d ad).Perm (srt (clL d ad fr 600) ++ valB (dC d fr 600) (aC d ad fr 600)) := by
  have key : ∀ j, fr + j ≤ 600 → (valB d ad).Perm (clL d ad fr (fr + j) ++ valB (dC d fr (fr + j)) (aC d ad fr (fr + j))) := by
    intro j
    induction j with
    | zero =>
      intro _
      rw [Nat.add_zero, clL_low _ _ _ _ (Nat.le_refl _), dC_start, aC_start _ _ _ h]
      exact List.Perm.refl _
    | succ j ih =>
      intro hj
      have i1 := ih (by omega)
      have h1 := set_perm (dC d fr (fr + j)) (aC d ad fr (fr + j)) (fr + j) (by omega) 0 (.inl rfl) (aC_az d ad fr (fr + j))
      rw [dC_succ d fr (fr + j) (by omega), aC_succ d ad fr (fr + j) (by omega), nz_zero, List.append_nil] at h1
      rw [show fr + (j + 1) = fr + j + 1 by omega, clL_succ _ _ _ _ (by omega)]
      refine List.perm_iff_count.2 fun a => ?_
      have c1 := i1.count_eq a
      have c2 := h1.count_eq a
      simp only [List.count_append] at c1 c2 ⊢
      omega
  have h1 := key (600 - fr) (by omega)
  rw [show fr + (600 - fr) = 600 by omega] at h1
  have h2 := srt_perm (clL d ad fr 600)
  refine List.perm_iff_count.2 fun a => ?_
  have c1 := h1.count_eq a
  have c2 := h2.count_eq a
  simp only [List.count_append] at c1 ⊢
  omega
theorem len_same2 {l m : List Int} (hl : l.Nodup) (hm : m.Nodup) (h : ∀ x, x ∈ l ↔ x ∈ m) : l.length = m.length := ((List.perm_ext_iff_of_nodup hl hm).2 h).length_eq
/-- A map holds 1 at just these. -/
def MS (S : List Int) (v : Int → Option Int) : Prop := ∀ a, v a = if a ∈ S then some 1 else none
theorem MS.perm {S T : List Int} {v : Int → Option Int} (h : MS S v) (hp : ∀ a, a ∈ S ↔ a ∈ T) : MS T v := fun a => by
  rw [h a]
  by_cases e : a ∈ S
  · rw [if_pos e, if_pos ((hp a).1 e)]
  · rw [if_neg e, if_neg (fun e2 => e ((hp a).2 e2))]
theorem MS.put {S : List Int} {v : Int → Option Int} (h : MS S v) (x : Int) : MS (S ++ [x]) (updO v x (some 1)) := fun a => by
  by_cases e : a = x
  · subst e; rw [updO_at, if_pos (by simp)]
  · rw [updO_ne _ _ e, h a]
    by_cases e2 : a ∈ S
    · rw [if_pos e2, if_pos (List.mem_append_left _ e2)]
    · rw [if_neg e2, if_neg (by simp [e2, e])]
theorem MS.del {S : List Int} {v : Int → Option Int} {x : Int} (h : MS (x :: S) v) (hx : x ∉ S) : MS S (updO v x none) := fun a => by
  by_cases e : a = x
  · subst e; rw [updO_at, if_neg hx]
  · rw [updO_ne _ _ e, h a]
    by_cases e2 : a ∈ S
    · rw [if_pos (List.mem_cons_of_mem _ e2), if_pos e2]
    · rw [if_neg (by simp [e, e2]), if_neg e2]
theorem sorted_lt {G : List Int} (hs : G.Pairwise (· ≤ ·)) (hn : G.Nodup) (k : Nat) (hk : k + 1 < G.length) : G[k] < G[k + 1] := by
  have h1 := List.pairwise_iff_getElem.1 hs k (k + 1) (by omega) hk (by omega)
  have h2 : G[k] ≠ G[k + 1] := fun e => by have := (List.getElem_inj hn).1 e; omega
  omega
end Go.Proofs.Ytnlmpnpelnmpeaa
