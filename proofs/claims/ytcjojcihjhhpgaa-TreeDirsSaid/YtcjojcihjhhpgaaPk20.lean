/-
  Rename in numbers: what it answers; that a tree stays a tree.
-/
import Derived.Test.YtcjojcihjhhpgaaPk10
import Derived.Test.YtcjojcihjhhpgaaPk01
namespace Go.Proofs.Ytcjojcihjhhpgaa
open Go.RowKit

/-- Some path that Walk tells of an inode and what lies below it is too long, if its own has size bytes without a slash behind. -/
inductive LgI (T : Tr) : Nat → Nat → Prop
  | file {c size : Nat} : T.K c ≠ 2 → 255 < size → LgI T c size
  | dir {c size : Nat} : T.K c = 2 → 255 < size + 1 → LgI T c size
  | deep {c c' size : Nat} {n : ByteArray} : T.K c = 2 → T.E c n = some c' → LgI T c' (size + 1 + n.size) → LgI T c size
noncomputable def rnT (T : Tr) (c : Nat) : Option Nat → Int
  | none => 0
  | some x => if x = c then 0 else if T.K c = 2 then wrEmpty T x else wrFile T x
noncomputable def rnE (T : Tr) (c : Nat) (there : Option Nat) (lf lt : List ByteArray) (td : Bool) : Int :=
  if T.K c = 2 ∧ lf.length < lt.length ∧ wiB lf lt = true then 22 else if td = true ∧ T.K c ≠ 2 then 20 else rnT T c there
noncomputable def lessK (T : Tr) (d : Nat) (s : ByteArray) : Tr := match T.E d s with | some x => dropK T d s x | none => T
noncomputable def moveK (T : Tr) (old s : ByteArray) (c d : Nat) : Tr := ((lessK T d (paN s)).ent d (paN s) (some c)).ent ((aboveK T (spL old)).1.getD 0) (paN old) none
open Classical in
noncomputable def rnR3 (T : Tr) (old s : ByteArray) (c d : Nat) : Tr × Int :=
  if rnE T c (T.E d (paN s)) (spL old) (spL s) (spD s) ≠ 0 then (T, rnE T c (T.E d (paN s)) (spL old) (spL s) (spD s)) else if T.E d (paN s) = some c then (T, 0) else if T.K c = 2 ∧ LgI T c (szN (spL s)) then (T, 36) else (moveK T old s c d, 0)
noncomputable def rnR2 (T : Tr) (old s : ByteArray) (c : Nat) (R : Option Nat × Int) : Tr × Int := if R.2 ≠ 0 then (T, R.2) else match R.1 with | some d => rnR3 T old s c d | none => (T, 0)
noncomputable def rnR1 (T : Tr) (old s : ByteArray) (R : Option Nat × Int) : Tr × Int := if R.2 ≠ 0 then (T, R.2) else match R.1 with | some c => rnR2 T old s c (aboveK T (spL s)) | none => (T, 0)
noncomputable def renameK (T : Tr) (old s : ByteArray) : Tr × Int := if paE old ≠ 0 then (T, paE old) else if paE s ≠ 0 then (T, paE s) else rnR1 T old s (findK T (spL old) (spD old) (wrAny T))
section
variable {T : Tr} {c d u x : Nat} {s o old : ByteArray}
theorem aboveK_ok {l : List ByteArray} (h : aboveK T l = (some d, 0)) : leadK T 2 (l.take (l.length - 1)) = (some d, 0) ∧ T.K d = 2 := by
  unfold aboveK at h
  obtain ⟨R, hR⟩ : ∃ R, leadK T 2 (l.take (l.length - 1)) = R := ⟨_, rfl⟩
  obtain ⟨ro, rz⟩ := R
  cases ro with
  | none => rw [findK_none hR] at h; cases h
  | some j =>
    rw [findK_some hR] at h
    have e : j = d := by have := congrArg Prod.fst h; exact Option.some.inj this
    subst e
    have e2 : orE false (T.K j) (wrDir T j) = 0 := congrArg Prod.snd h
    have e3 : wrDir T j = 0 := by unfold orE at e2; rw [if_neg (fun q => by cases q.1)] at e2; exact e2
    have hk : T.K j = 2 := by
      unfold wrDir at e3
      split at e3
      · assumption
      · exact absurd e3 (by decide)
    refine ⟨?_, hk⟩
    rw [hR]
    by_cases q : (rz = 0)
    · rw [q]
    · exfalso
      have : ∀ (l : List ByteArray) (a : Nat) j z, leadK T a l = (some j, z) → z = 0 := by
        intro l
        induction l with
        | nil => intro a j z h; rw [leadK_nil] at h; cases h; rfl
        | cons y r ih =>
          intro a j z h
          by_cases hk : T.K a = 2
          · cases he : T.E a y with
            | none => rw [leadK_none hk he] at h; cases h
            | some b => rw [leadK_go hk he] at h; exact ih b j z h
          · rw [leadK_file hk] at h; cases h
      exact q (this _ _ _ _ hR)
theorem findK_lead {l : List ByteArray} {dir : Bool} {wr : Nat → Int} {i : Nat} {z : Int} (h : findK T l dir wr = (some i, z)) : ∃ z', leadK T 2 l = (some i, z') := by
  obtain ⟨R, hR⟩ : ∃ R, leadK T 2 l = R := ⟨_, rfl⟩
  obtain ⟨ro, rz⟩ := R
  cases ro with
  | none => rw [findK_none hR] at h; cases h
  | some j =>
    rw [findK_some hR] at h
    have e : j = i := by have := congrArg Prod.fst h; exact Option.some.inj this
    subst e
    exact ⟨rz, hR⟩
/-- Two ways to one directory are one way. -/
theorem way_one (h : TrT T) : ∀ (l m : List ByteArray) (a : Nat) (z y : Int), T.K a = 2 → leadK T 2 l = (some a, z) → leadK T 2 m = (some a, y) → l = m := by
  have key : ∀ (n : Nat) (l m : List ByteArray) (a : Nat) (z y : Int), l.length = n → T.K a = 2 → leadK T 2 l = (some a, z) → leadK T 2 m = (some a, y) → l = m := by
    intro n
    induction n with
    | zero =>
      intro l m a z y hl hk h1 h2
      have e := List.eq_nil_of_length_eq_zero hl
      subst e
      rw [leadK_nil] at h1
      cases h1
      by_cases hm : m = []
      · exact hm.symm
      · rw [take_last hm] at h2
        obtain ⟨d, -, -, q3⟩ := leadK_snoc _ _ h2
        exact absurd rfl (h.wf.ent _ _ _ q3).2.2
    | succ n ih =>
      intro l m a z y hl hk h1 h2
      have hl0 : l ≠ [] := fun e => by rw [e] at hl; cases hl
      rw [take_last hl0] at h1
      obtain ⟨d, p1, p2, p3⟩ := leadK_snoc _ _ h1
      by_cases hm : m = []
      · subst hm
        rw [leadK_nil] at h2
        cases h2
        exact absurd rfl (h.wf.ent _ _ _ p3).2.2
      · rw [take_last hm] at h2
        obtain ⟨d', q1, q2, q3⟩ := leadK_snoc _ _ h2
        obtain ⟨e1, e2⟩ := h.par hk p3 q3
        subst e1
        have := ih _ _ d' 0 0 (by rw [List.length_take]; omega) q2 p1 q1
        rw [take_last hl0, take_last hm, this, e2]
  exact fun l m a z y => key l.length l m a z y rfl
/-- The way to what lies below a directory begins with the way to it. -/
theorem way_below (h : TrT T) {l : List ByteArray} {z : Int} (hc : T.K c = 2) (hl : leadK T 2 l = (some c, z)) (hb : Bel T c d) : ∀ (m : List ByteArray) (y : Int), leadK T 2 m = (some d, y) → l <+: m := by
  induction hb with
  | refl => intro m y hm; rw [way_one h l m c z y hc hl hm]; exact List.prefix_refl _
  | @step e f t q1 q2 q3 ih =>
    intro m y hm
    have hm0 : m ≠ [] := fun e => by
      subst e
      rw [leadK_nil] at hm
      cases hm
      exact absurd rfl (h.wf.ent _ _ _ q2).2.2
    rw [take_last hm0] at hm
    obtain ⟨d', p1, p2, p3⟩ := leadK_snoc _ _ hm
    obtain ⟨e1, -⟩ := h.par q3 q2 p3
    subst e1
    exact (ih _ _ p1).trans (List.take_prefix _ _)
theorem wiB_of {l m : List ByteArray} (h : l <+: m) : wiB l m = true := by
  unfold wiB
  have h1 := h.length_le
  have h2 := List.prefix_iff_eq_take.1 h
  rw [decide_eq_true h1, Bool.true_and]
  exact decide_eq_true h2
/-- A name moves. -/
theorem TrT.move (h : TrT T) (hd : T.K d = 2) (hn : T.E d s = none) (hu : T.E u o = some c) (hs : nmE s = 0) (hb : T.K c = 2 → ¬ Bel T c d) : TrT ((T.ent d s (some c)).ent u o none) := by
  have hc := (h.wf.ent u o c hu)
  have hne : ¬ (u = d ∧ o = s) := fun e => by
    obtain ⟨rfl, rfl⟩ := e
    rw [hn] at hu
    cases hu
  have hw := Tr.ent_wf (Tr.ent_wf h.wf hd (s := s) (v := some c) (fun j e => by cases e; exact hc.2)) (d := u) hc.1 (s := o) (v := none) (fun j e => by cases e)
  have hE : ∀ d' s' j, ((T.ent d s (some c)).ent u o none).E d' s' = some j → ¬ (d' = u ∧ s' = o) ∧ ((d' = d ∧ s' = s ∧ j = c) ∨ T.E d' s' = some j) := fun d' s' j q => by
    by_cases e : d' = u ∧ s' = o
    · obtain ⟨rfl, rfl⟩ := e
      rw [Tr.ent_at] at q
      cases q
    · rw [Tr.ent_ne _ e] at q
      refine ⟨e, ?_⟩
      rcases ent_cases q with ⟨q1, q2, q3⟩ | q1
      · exact .inl ⟨q1, q2, (Option.some.inj q3).symm⟩
      · exact .inr q1
  obtain ⟨r, hr⟩ := h.rank
  refine ⟨hw, fun j hj hn2 => ?_, h.one, ?_, fun d' s' j q => ?_⟩
  · have hj : T.live j := hj
    have hci := h.cnt j hj hn2
    show TrCi _ j (T.Lk j)
    by_cases e : j = c
    · subst e
      have e1 := hci.put hn
      have e2 : (T.ent d s (some j)).E u o = some j := by rw [Tr.ent_ne _ hne]; exact hu
      have e3 := e1.cut e2
      have e4 : T.Lk j + 1 - 1 = T.Lk j := by omega
      rw [e4] at e3
      exact e3
    · have e1 := hci.other (d := d) (s := s) (by rw [hn]; exact fun q => by cases q) (v := some c) (fun q => e (Option.some.inj q).symm)
      exact e1.other (d := u) (s := o) (by rw [Tr.ent_ne _ hne, hu]; exact fun q => e (Option.some.inj q).symm) (v := none) (fun q => by cases q)
  · classical
    by_cases hk : T.K c = 2
    · have hb := hb hk
      refine ⟨fun x => if Bel T c x then r x else r x + r c + 1, fun d' s' j q hj => ?_⟩
      have hj : T.K j = 2 := hj
      obtain ⟨q0, q1⟩ := hE d' s' j q
      show (if Bel T c j then r j else _) < (if Bel T c d' then _ else _)
      rcases q1 with ⟨e1, -, e3⟩ | q1
      · subst e1; subst e3
        rw [if_pos .refl, if_neg hb]
        omega
      · have h1 := hr _ _ _ q1 hj
        by_cases b1 : Bel T c d'
        · rw [if_pos (.step b1 q1 hj), if_pos b1]
          exact h1
        · rw [if_neg b1]
          by_cases b2 : Bel T c j
          · rw [if_pos b2]
            omega
          · rw [if_neg b2]
            omega
    · refine ⟨r, fun d' s' j q hj => ?_⟩
      have hj : T.K j = 2 := hj
      rcases (hE d' s' j q).2 with ⟨-, -, e3⟩ | q1
      · subst e3; exact absurd hj hk
      · exact hr _ _ _ q1 hj
  · rcases (hE d' s' j q).2 with ⟨-, e2, -⟩ | q1
    · rw [e2]; exact hs
    · exact h.nm _ _ _ q1
theorem Bel.sub {T' : Tr} (hE : ∀ d s j, T'.E d s = some j → T.E d s = some j) (hK : ∀ j, T'.K j = 2 → T.K j = 2) (h : Bel T' c d) : Bel T c d := by
  induction h with
  | refl => exact .refl
  | step _ q2 q3 ih => exact .step ih (hE _ _ _ q2) (hK _ q3)
theorem dropK_E {d' : Nat} {s' : ByteArray} {j : Nat} (h : (dropK T d s x).E d' s' = some j) : ¬ (d' = d ∧ s' = s) ∧ T.E d' s' = some j := by
  have key : (T.ent d s none).E d' s' = some j := by
    unfold dropK cutN at h
    split at h
    · have h : updN (T.ent d s none).E x (fun _ => none) d' s' = some j := h
      by_cases e : d' = x
      · subst e; rw [updN_at] at h; cases h
      · rwa [updN_ne _ _ e] at h
    · exact h
  by_cases e : d' = d ∧ s' = s
  · obtain ⟨rfl, rfl⟩ := e
    rw [Tr.ent_at] at key
    cases key
  · rw [Tr.ent_ne _ e] at key
    exact ⟨e, key⟩
theorem dropK_K {j : Nat} {q : Int} (hq : q ≠ 0) (h : (dropK T d s x).K j = q) : T.K j = q := by
  unfold dropK cutN at h
  split at h
  · have h : updN T.K x 0 j = q := h
    by_cases e : j = x
    · subst e; rw [updN_at] at h; exact absurd h.symm hq
    · rwa [updN_ne _ _ e] at h
  · exact h
theorem dropK_keepK {j : Nat} (h : j ≠ x) : (dropK T d s x).K j = T.K j := by
  unfold dropK cutN
  split
  · exact updN_ne _ _ h
  · rfl
theorem dropK_keepE {d' : Nat} {s' : ByteArray} (h : d' ≠ x) (hn : ¬ (d' = d ∧ s' = s)) : (dropK T d s x).E d' s' = T.E d' s' := by
  unfold dropK cutN
  split
  · show updN (T.ent d s none).E x (fun _ => none) d' s' = _
    rw [updN_ne _ _ h, Tr.ent_ne _ hn]
  · show (T.ent d s none).E d' s' = _
    rw [Tr.ent_ne _ hn]
/-- What Rename knows ahead of its changes. -/
structure RnP (T : Tr) (old s : ByteArray) (c d u : Nat) : Prop where
  hu : aboveK T (spL old) = (some u, 0)
  ku : T.K u = 2
  eu : T.E u (paN old) = some c
  hd : aboveK T (spL s) = (some d, 0)
  kd : T.K d = 2
  ne : T.E d (paN s) ≠ some c
  bare : ∀ x, T.E d (paN s) = some x → T.bare x
  nb : T.K c = 2 → ¬ Bel T c d
  nm : nmE (paN s) = 0
theorem rnP_of (h : TrT T) (hpo : paE old = 0) (hps : paE s = 0) {z : Int} (hf : findK T (spL old) (spD old) (wrAny T) = (some c, z)) (ha : aboveK T (spL s) = (some d, 0)) (hr : rnE T c (T.E d (paN s)) (spL old) (spL s) (spD s) = 0) (hne : T.E d (paN s) ≠ some c) : ∃ u, RnP T old s c d u := by
  obtain ⟨u, h1, h2, h3⟩ := find_last (paE_zero hpo).2 hf
  obtain ⟨hl, hkd⟩ := aboveK_ok ha
  obtain ⟨z', hlc⟩ := findK_lead hf
  refine ⟨u, h1, h2, h3, ha, hkd, hne, fun x hx => ?_, fun hk hb => ?_, paN_nm hps⟩
  · unfold rnE at hr
    split at hr
    · exact absurd hr (by decide)
    · split at hr
      · exact absurd hr (by decide)
      · rw [hx] at hr
        have hr : (if x = c then (0 : Int) else if T.K c = 2 then wrEmpty T x else wrFile T x) = 0 := hr
        rw [if_neg (fun e => hne (by rw [hx, e]))] at hr
        have hxl := (h.wf.ent _ _ _ hx).2.1
        split at hr
        · unfold wrEmpty at hr
          split at hr
          · split at hr
            · assumption
            · exact absurd hr (by decide)
          · exact absurd hr (by decide)
        · exact file_bare h.wf (file_kind h.wf hxl hr)
  · have hp := way_below h hk hlc hb _ _ hl
    have hp2 := hp.trans (List.take_prefix _ _)
    have hlen := hp.length_le
    have hpos := List.length_pos_iff.2 (paE_zero hps).2
    rw [List.length_take] at hlen
    unfold rnE at hr
    rw [if_pos ⟨hk, by omega, wiB_of hp2⟩] at hr
    exact absurd hr (by decide)
/-- Behind what was there. -/
structure RnQ (T T1 : Tr) (s : ByteArray) (c d u : Nat) (o : ByteArray) : Prop where
  t : TrT T1
  kd : T1.K d = 2
  ku : T1.K u = 2
  e : T1.E d s = none
  eu : T1.E u o = some c
  kc : T1.K c = T.K c
  E : ∀ d' s' j, T1.E d' s' = some j → T.E d' s' = some j
  K : ∀ j, T1.K j = 2 → T.K j = 2
theorem RnP.less (h : TrT T) (hp : RnP T old s c d u) : RnQ T (lessK T d (paN s)) (paN s) c d u (paN old) := by
  unfold lessK
  cases hx : T.E d (paN s) with
  | none => exact ⟨h, hp.kd, hp.ku, hx, hp.eu, rfl, fun _ _ _ q => q, fun _ q => q⟩
  | some x =>
    have hb := hp.bare x hx
    have hdx : d ≠ x := fun e => by have := hb (paN s); rw [← e, hx] at this; cases this
    have hux : u ≠ x := fun e => by have := hb (paN old); rw [← e, hp.eu] at this; cases this
    have hcx : c ≠ x := fun e => hp.ne (by rw [hx, e])
    have hne : ¬ (u = d ∧ paN old = paN s) := fun e => by
      have := hp.eu
      rw [e.1, e.2] at this
      exact hp.ne this
    refine ⟨h.drop hp.kd hx hb, (dropK_keepK hdx).trans hp.kd, (dropK_keepK hux).trans hp.ku, ?_, (dropK_keepE hux hne).trans hp.eu, dropK_keepK hcx, fun d' s' j q => (dropK_E q).2, fun j q => dropK_K (by decide) q⟩
    cases q : (dropK T d (paN s) x).E d (paN s) with
    | none => rfl
    | some j => exact absurd ⟨rfl, rfl⟩ (dropK_E q).1
theorem RnP.move (h : TrT T) (hp : RnP T old s c d u) : TrT (moveK T old s c d) := by
  unfold moveK
  rw [hp.hu]
  have hq := hp.less h
  exact hq.t.move hq.kd hq.e hq.eu hp.nm (fun hk hb => hp.nb (hq.kc ▸ hk) (hb.sub hq.E hq.K))
theorem rename_keep (h : TrT T) (old s : ByteArray) : TrT (renameK T old s).1 := by
  unfold renameK
  split
  · exact h
  · rename_i hpo
    split
    · exact h
    · rename_i hps
      unfold rnR1
      obtain ⟨R, hR⟩ : ∃ R, findK T (spL old) (spD old) (wrAny T) = R := ⟨_, rfl⟩
      obtain ⟨ro, rz⟩ := R
      rw [hR]
      by_cases hz : rz = 0
      · subst hz
        obtain ⟨c, rfl, hl, -⟩ := findK_ok h.wf hR
        rw [if_neg (fun q => q rfl)]
        show TrT (rnR2 T old s c (aboveK T (spL s))).1
        unfold rnR2
        obtain ⟨R, hA⟩ : ∃ R, aboveK T (spL s) = R := ⟨_, rfl⟩
        obtain ⟨ro, rz⟩ := R
        rw [hA]
        by_cases hz : rz = 0
        · subst hz
          cases ro with
          | none => exact h
          | some d =>
            rw [if_neg (fun q => q rfl)]
            show TrT (rnR3 T old s c d).1
            unfold rnR3
            split
            · exact h
            · rename_i hr
              split
              · exact h
              · rename_i hne
                split
                · exact h
                · obtain ⟨u, hp⟩ := rnP_of h (Decidable.of_not_not hpo) (Decidable.of_not_not hps) hR hA (Decidable.of_not_not hr) hne
                  exact hp.move h
        · rw [if_pos hz]; exact h
      · rw [if_pos hz]; exact h
/-- The way to the old name's directory stays. -/
theorem lead_stay {T2 : Tr} (hs : ∀ a, T.K a = 2 → (∃ t j, T.E a t = some j) → T2.K a = 2) (he : ∀ a t j, T.E a t = some j → (∃ t' j', T.E j t' = some j') → T2.E a t = some j) (hu : ∃ t j, T.E u t = some j) : ∀ (l : List ByteArray) (a : Nat), leadK T a l = (some u, 0) → leadK T2 a l = (some u, 0)
  | [], a, h => by rw [leadK_nil] at h ⊢; exact h
  | y :: r, a, h => by
    by_cases hk : T.K a = 2
    · cases hy : T.E a y with
      | none => rw [leadK_none hk hy] at h; cases h
      | some b =>
        rw [leadK_go hk hy] at h
        have hb : ∃ t' j', T.E b t' = some j' := by
          cases r with
          | nil => rw [leadK_nil] at h; cases h; exact hu
          | cons y2 r2 =>
            by_cases hkb : T.K b = 2
            · cases hy2 : T.E b y2 with
              | none => rw [leadK_none hkb hy2] at h; cases h
              | some b2 => exact ⟨y2, b2, hy2⟩
            · rw [leadK_file hkb] at h; cases h
        rw [leadK_go (hs a hk ⟨y, b, hy⟩) (he a y b hy hb)]
        exact lead_stay hs he hu r b h
    · rw [leadK_file hk] at h; cases h
theorem RnP.stay (h : TrT T) (hp : RnP T old s c d u) : aboveK ((lessK T d (paN s)).ent d (paN s) (some c)) (spL old) = (some u, 0) := by
  have hq := hp.less h
  have hl := (aboveK_ok hp.hu).1
  have h2 : ∀ a t j, T.E a t = some j → (∃ t' j', T.E j t' = some j') → ((lessK T d (paN s)).ent d (paN s) (some c)).E a t = some j := fun a t j hj hb => by
    have hne : ¬ (a = d ∧ t = paN s) := fun e => by
      obtain ⟨rfl, rfl⟩ := e
      obtain ⟨t', j', hb⟩ := hb
      rw [hp.bare j hj t'] at hb
      cases hb
    rw [Tr.ent_ne _ hne]
    unfold lessK
    cases hx : T.E d (paN s) with
    | none => exact hj
    | some x =>
      have hax : a ≠ x := fun e => by have := hp.bare x hx t; rw [← e, hj] at this; cases this
      exact (dropK_keepE hax hne).trans hj
  have h1 : ∀ a, T.K a = 2 → (∃ t j, T.E a t = some j) → ((lessK T d (paN s)).ent d (paN s) (some c)).K a = 2 := fun a hk hb => by
    show (lessK T d (paN s)).K a = 2
    unfold lessK
    cases hx : T.E d (paN s) with
    | none => exact hk
    | some x =>
      have hax : a ≠ x := fun e => by
        obtain ⟨t, j, hj⟩ := hb
        have := hp.bare x hx t
        rw [← e, hj] at this
        cases this
      exact (dropK_keepK hax).trans hk
  have h3 := lead_stay h1 h2 ⟨_, _, hp.eu⟩ _ _ hl
  unfold aboveK
  rw [findK_some h3]
  unfold orE wrDir
  have hku : ((lessK T d (paN s)).ent d (paN s) (some c)).K u = 2 := hq.ku
  rw [if_pos hku, if_neg (fun q => by cases q.1)]
end
end Go.Proofs.Ytcjojcihjhhpgaa
