/-
  TrPth · TrTlP · TrPthK · TrDrM · SMapI · NaRefS · NaRefJ · TrDrL: these texts in one.
-/
import Derived.Test.YtcjojcihjhhpgaaPk24
import Derived.Test.YtcjojcihjhhpgaaPk25
import Derived.Test.YtcjojcihjhhpgaaPk12
import Derived.Test.YtcjojcihjhhpgaaPk00
import Derived.Test.YtcjojcihjhhpgaaPk01
/-
  No path of a tree is too long; each call keeps that.
-/
namespace Go.Proofs.Ytcjojcihjhhpgaa
open Go.RowKit

def dirN (k : Int) : Nat := if k = 2 then 1 else 0
def PthOk (T : Tr) : Prop := ∀ l d s j, T.K d = 2 → leadK T 2 l = (some d, 0) → T.E d s = some j → szN l + 1 + s.size + dirN (T.K j) ≤ 255
theorem szN_app (l m : List ByteArray) : szN (l ++ m) = szN l + szN m := by
  unfold szN
  rw [List.map_append, List.sum_append]
theorem szN_one (x : ByteArray) : szN [x] = 1 + x.size := by simp [szN]
theorem szN_cons (x : ByteArray) (l : List ByteArray) : szN (x :: l) = 1 + x.size + szN l := by simp [szN]
theorem jl_szN : ∀ l : List ByteArray, ((l.map fun x => (47 : UInt8) :: x.data.toList).flatten).length = szN l
  | [] => rfl
  | x :: l => by
    rw [List.map_cons, List.flatten_cons, List.length_append, jl_szN l, szN_cons, List.length_cons]
    have : x.size = x.data.toList.length := by rw [Array.length_toList]; rfl
    omega
theorem joS_szN {l : List ByteArray} (h : l ≠ []) : (joS l).size = szN l := by
  unfold joS jl
  rw [if_neg h, ba_size, jl_szN]
theorem szN_255 {s : ByteArray} (h : spE s = 0) (hn : spL s ≠ []) : szN (spL s) ≤ 255 := by
  have h1 := joE_nml h
  rw [← spL_ok h] at h1
  rw [← joS_szN hn]
  unfold joE at h1
  split at h1
  · split at h1
    · exact absurd h1 (by decide)
    · omega
  · rename_i q
    exact absurd h1 q
section
variable {T T' : Tr} {d i f x : Nat} {s : ByteArray} {q : Int}
/-- The length of a path is that of its names. -/
theorem way_len (h : TrT T) (hne : spL s ≠ []) (ha : aboveK T (spL s) = (some d, 0)) {l : List ByteArray} (hl : leadK T 2 l = (some d, 0)) : szN l + 1 + (paN s).size = szN (spL s) := by
  obtain ⟨h1, h2⟩ := aboveK_ok ha
  rw [way_one h l _ d 0 0 h2 hl h1]
  have e := congrArg szN (spL_split hne)
  rw [szN_app, szN_one] at e
  omega
theorem enter_pth (h : TrT T) (hp : PthOk T) (hi : T.K i = 0) (hd : T.K d = 2) (he : T.E d s = none) (hl : ∀ l, leadK T 2 l = (some d, 0) → szN l + 1 + s.size + dirN q ≤ 255) : PthOk ((T.add i q).ent d s (some i)) := by
  have hdi : d ≠ i := fun e => by rw [e, hi] at hd; exact absurd hd (by decide)
  have hEi : ∀ t, ((T.add i q).ent d s (some i)).E i t = none := fun t => by
    rw [Tr.ent_ne _ (fun e => hdi e.1.symm)]
    show updN T.E i (fun _ => none) i t = none
    rw [updN_at]
  have hKj : ∀ j, j ≠ i → ((T.add i q).ent d s (some i)).K j = T.K j := fun j e => updN_ne _ _ e
  have hKi : ((T.add i q).ent d s (some i)).K i = q := updN_at _ _ _
  intro l d' s' j hk hl' hE
  have hd'i : d' ≠ i := fun e => by rw [e, hEi] at hE; cases hE
  have hk' : T.K d' = 2 := by rw [← hKj d' hd'i]; exact hk
  have hway : leadK T 2 l = (some d', 0) := by
    refine lead_keep (T := (T.add i q).ent d s (some i)) (T' := T) hk hk' (fun a t j hka hE hkj hb => ?_) l 2 hl'
    have hji : j ≠ i := fun e => by
      subst e
      exact hd'i (bare_bel (T := (T.add j q).ent d s (some j)) (fun t => hEi t) hb)
    have hai : a ≠ i := fun e => by rw [e, hEi] at hE; cases hE
    rcases ent_cases hE with ⟨-, -, q2⟩ | q2
    · exact absurd (Option.some.inj q2).symm hji
    · exact ⟨by rw [← hKj a hai]; exact hka, (add_ent q2).2⟩
  rcases ent_cases hE with ⟨rfl, rfl, q2⟩ | q2
  · obtain rfl := Option.some.inj q2
    rw [hKi]
    exact hl l hway
  · have q3 := (add_ent q2).2
    have hji : j ≠ i := fun e => (h.wf.ent _ _ _ q3).2.1 (by rw [e]; exact hi)
    rw [hKj j hji]
    exact hp l d' s' j hk' hway q3
theorem link_pth (hp : PthOk T) (hf : T.K f ≠ 2) (hd : T.K d = 2) (hl : ∀ l, leadK T 2 l = (some d, 0) → szN l + 1 + s.size ≤ 255) (z : Int) : PthOk ((T.ent d s (some f)).lks f z) := by
  intro l d' s' j hk hl' hE
  have hk : T.K d' = 2 := hk
  have hway : leadK T 2 l = (some d', 0) := by
    refine lead_keep (T := (T.ent d s (some f)).lks f z) (T' := T) hk hk (fun a t j hka hE hkj hb => ?_) l 2 hl'
    have hkj : T.K j = 2 := hkj
    rcases ent_cases (T := T) hE with ⟨-, -, q2⟩ | q2
    · exact absurd ((Option.some.inj q2) ▸ hkj) hf
    · exact ⟨hka, q2⟩
  show szN l + 1 + s'.size + dirN (T.K j) ≤ 255
  rcases ent_cases (T := T) hE with ⟨rfl, rfl, q2⟩ | q2
  · obtain rfl := Option.some.inj q2
    unfold dirN
    rw [if_neg hf]
    exact hl l hway
  · exact hp l d' s' j hk hway q2
theorem drop_pth (hp : PthOk T) : PthOk (dropK T d s x) := by
  intro l d' s' j hk hl' hE
  have hk' : T.K d' = 2 := dropK_K (by decide) hk
  have hway : leadK T 2 l = (some d', 0) := lead_keep (T := dropK T d s x) (T' := T) hk hk' (fun a t j hka hE hkj hb => ⟨dropK_K (by decide) hka, (dropK_E hE).2⟩) l 2 hl'
  have h1 := hp l d' s' j hk' hway (dropK_E hE).2
  have h2 : dirN ((dropK T d s x).K j) ≤ dirN (T.K j) := by
    unfold dirN
    by_cases e : (dropK T d s x).K j = 2
    · rw [if_pos e, if_pos (dropK_K (by decide) e)]; exact Nat.le_refl _
    · rw [if_neg e]; exact Nat.zero_le _
  omega
theorem dat_pth (hp : PthOk T) (m : List Nat) : PthOk (T.dat i m) := fun l d' s' j hk hl hE =>
  hp l d' s' j hk (lead_keep (T := T.dat i m) (T' := T) hk hk (fun _ _ _ hka hE _ _ => ⟨hka, hE⟩) l 2 hl) hE
theorem tree0_pth {n : Nat} : PthOk (tree0 n) := fun _ _ _ _ _ _ hE => by cases hE
theorem lgI_deep {c : Nat} (h : ¬ LgI T c f) : ∀ (r : List ByteArray) (a : Nat), T.K c = 2 → T.K a = 2 → leadK T c r = (some a, 0) → ∀ t j, T.E a t = some j → f + szN r + 1 + t.size + dirN (T.K j) ≤ 255 := by
  intro r
  induction r generalizing c f with
  | nil =>
    intro a hc ha hl t j hE
    rw [leadK_nil] at hl
    cases hl
    have e0 : szN ([] : List ByteArray) = 0 := rfl
    rw [e0]
    rcases Nat.lt_or_ge 255 (f + 0 + 1 + t.size + dirN (T.K j)) with q | q
    · exfalso
      apply h
      refine .deep hc hE ?_
      by_cases hk : T.K j = 2
      · unfold dirN at q
        rw [if_pos hk] at q
        exact .dir hk (by omega)
      · unfold dirN at q
        rw [if_neg hk] at q
        exact .file hk (by omega)
    · exact q
  | cons y r ih =>
    intro a hc ha hl t j hE
    cases hy : T.E c y with
    | none => rw [leadK_none hc hy] at hl; cases hl
    | some b =>
      rw [leadK_go hc hy] at hl
      have hb : T.K b = 2 := by
        cases r with
        | nil => rw [leadK_nil] at hl; cases hl; exact ha
        | cons y2 r2 =>
          by_cases hk : T.K b = 2
          · exact hk
          · rw [leadK_file hk] at hl; cases hl
      have := ih (c := b) (f := f + 1 + y.size) (fun q => h (.deep hc hy q)) a hb ha hl t j hE
      rw [szN_cons]
      omega
end
end Go.Proofs.Ytcjojcihjhhpgaa
/-
  What Walk tells leads back to where it came from; and all there is is told.
-/
namespace Go.Proofs.Ytcjojcihjhhpgaa
open Go.RowKit

def fl (l : List ByteArray) : List UInt8 := (l.map fun x => (47 : UInt8) :: x.data.toList).flatten
theorem fl_app (l : List ByteArray) (s : ByteArray) : fl (l ++ [s]) = fl l ++ [47] ++ s.data.toList := by
  unfold fl
  rw [List.map_append, List.flatten_append, List.append_assoc]
  congr 1
  show (47 :: s.data.toList) ++ [] = _
  rw [List.append_nil]
  rfl
theorem toks_tail : ∀ (l : List ByteArray) (cur : List UInt8), (∀ x ∈ l, nmE x = 0) → toks cur (fl l ++ [47]) = (if cur = [] then [] else [cur]) ++ l.map (·.data.toList)
  | [], cur, _ => by
    show toks cur [47] = _
    by_cases h : cur = []
    · subst h; rfl
    · rw [toks_end h, if_neg h]; rfl
  | x :: r, cur, h => by
    obtain ⟨h1, h2⟩ := nmE_good (h x List.mem_cons_self)
    have e : fl (x :: r) ++ [47] = 47 :: (x.data.toList ++ (fl r ++ [47])) := by
      unfold fl
      rw [List.map_cons, List.flatten_cons, List.cons_append, List.cons_append, List.append_assoc]
    have ih := toks_tail r x.data.toList (fun y hy => h y (List.mem_cons_of_mem _ hy))
    rw [if_neg h1] at ih
    have e2 : toks [] (x.data.toList ++ (fl r ++ [47])) = x.data.toList :: r.map (·.data.toList) := by
      rw [toks_run _ _ _ h2, List.nil_append, ih]
      rfl
    rw [e]
    by_cases hc : cur = []
    · subst hc
      rw [toks_slash, e2]
      rfl
    · rw [toks_end hc, e2, if_neg hc]
      rfl
section
variable {T : Tr} {i d j c : Nat} {s x pre : ByteArray}
theorem lead_nm (h : TrT T) : ∀ (l : List ByteArray) (a : Nat) (z : Int), leadK T a l = (some d, z) → ∀ y ∈ l, nmE y = 0
  | [], _, _, _, y, hy => by cases hy
  | t :: r, a, z, hl, y, hy => by
    by_cases hk : T.K a = 2
    · cases he : T.E a t with
      | none => rw [leadK_none hk he] at hl; cases hl
      | some b =>
        rw [leadK_go hk he] at hl
        rcases List.mem_cons.1 hy with e | e
        · subst e; exact h.nm _ _ _ he
        · exact lead_nm h r b z hl y e
    · rw [leadK_file hk] at hl; cases hl
theorem told_form (hw : TrW T) (h : TP T i pre d s x) : ∀ li, leadK T 2 li = (some i, 0) → pre.data.toList = fl li ++ [47] → ∃ l j, leadK T 2 l = (some d, 0) ∧ T.K d = 2 ∧ T.E d s = some j ∧ x.data.toList = fl (l ++ [s]) ++ (if T.K j = 2 then [47] else []) := by
  induction h with
  | @file i c pre n he hk =>
    intro li hl hp
    refine ⟨li, c, hl, (hw.ent _ _ _ he).1, he, ?_⟩
    rw [if_neg hk, List.append_nil, fl_app, ← hp]
    simp
  | @dir i c pre n he hk =>
    intro li hl hp
    refine ⟨li, c, hl, (hw.ent _ _ _ he).1, he, ?_⟩
    rw [if_pos hk, fl_app, ← hp]
    simp [slA]
  | @deep i c d pre n s x he hk _ ih =>
    intro li hl hp
    refine ih (li ++ [n]) ?_ ?_
    · rw [lead_last _ _ hl (hw.ent _ _ _ he).1, he]
    · rw [fl_app, ← hp]
      simp [slA]
/-- A told path leads to its entry. -/
structure Told (T : Tr) (d : Nat) (s x : ByteArray) (l : List ByteArray) (j : Nat) : Prop where
  way : leadK T 2 l = (some d, 0)
  kd : T.K d = 2
  e : T.E d s = some j
  spE : spE x = 0
  spL : spL x = l ++ [s]
  spD : spD x = decide (T.K j = 2)
  sz : x.size ≤ 255
theorem told_parse (h : TrT T) (hp : PthOk T) (ht : TP T 2 slA d s x) : ∃ l j, Told T d s x l j := by
  obtain ⟨l, j, h1, h2, h3, h4⟩ := told_form h.wf ht [] (leadK_nil _ _) rfl
  have hnm : ∀ y ∈ l ++ [s], nmE y = 0 := fun y hy => by
    rcases List.mem_append.1 hy with q | q
    · exact lead_nm h l 2 0 h1 y q
    · have : y = s := by simpa using q
      subst this
      exact h.nm _ _ _ h3
  have hc := chkL_all.2 hnm
  have hne : l ++ [s] ≠ [] := by simp
  have hsz := hp l d s j h2 h1 h3
  have hfl : (fl (l ++ [s])).length = szN l + 1 + s.size := by
    rw [show (fl (l ++ [s])).length = szN (l ++ [s]) from jl_szN _, szN_app, szN_one]
    omega
  have hxs : x.size = szN l + 1 + s.size + dirN (T.K j) := by
    have e : x.size = x.data.toList.length := by rw [Array.length_toList]; rfl
    rw [e, h4, List.length_append, hfl]
    unfold dirN
    split
    · rfl
    · rfl
  refine ⟨l, j, ?_⟩
  by_cases hk : T.K j = 2
  · rw [if_pos hk] at h4
    have hn : nml x = l ++ [s] := by
      unfold nml
      rw [h4, toks_tail _ _ hnm]
      show (([] : List (List UInt8)) ++ _).map ba = _
      rw [List.nil_append, List.map_map]
      exact List.map_id _
    have hdir : dirN (T.K j) = 1 := if_pos hk
    have hx0 : x.size ≠ 0 := by omega
    have hg : x.get! 0 = 47 := by
      obtain ⟨r, hr⟩ : ∃ r, x.data.toList = 47 :: r := by
        rw [h4]
        have : fl (l ++ [s]) ≠ [] := fun e => by rw [e] at hfl; simp at hfl; omega
        cases l with
        | nil => exact ⟨_, rfl⟩
        | cons y r => exact ⟨_, rfl⟩
      have h5 : x = ⟨(47 :: r).toArray⟩ := by rw [← hr]
      rw [h5]
      rfl
    have hE : _root_.Go.Proofs.Ytcjojcihjhhpgaa.spE x = 0 := by
      unfold Go.Proofs.Ytcjojcihjhhpgaa.spE
      rw [if_neg (by omega), if_neg (fun q => q.elim hx0 (fun q => q hg)), hn]
      exact hc
    refine ⟨h1, h2, h3, hE, by rw [spL_ok hE, hn], ?_, by omega⟩
    rw [spD_ok hE, dirB_last hx0, h4, decide_eq_true hk]
    simp
  · rw [if_neg hk, List.append_nil] at h4
    have hx : x = joS (l ++ [s]) := by
      have e : (joS (l ++ [s])).data.toList = x.data.toList := by
        rw [h4]
        unfold joS jl
        rw [if_neg hne]
        rfl
      cases x
      exact (congrArg ByteArray.mk (Array.toList_inj.1 e)).symm
    have hj : joE (l ++ [s]) = 0 := by
      unfold joE
      rw [if_pos hc, if_neg]
      rw [← hx]
      omega
    obtain ⟨q1, q2, q3, -⟩ := spE_joS hj
    rw [← hx] at q1 q2 q3
    refine ⟨h1, h2, h3, q1, q2, ?_, by omega⟩
    rw [q3, decide_eq_false hk]
    exact decide_eq_false hne
/-- All below a directory is told. -/
theorem told_all (hw : TrW T) : ∀ (r : List ByteArray) (i : Nat) (pre : ByteArray), T.K d = 2 → leadK T i r = (some d, 0) → T.E d s = some j → ∃ x, TP T i pre d s x
  | [], i, pre, hd, hl, he => by
    rw [leadK_nil] at hl
    cases hl
    by_cases hk : T.K j = 2
    · exact ⟨_, .dir he hk⟩
    · exact ⟨_, .file he hk⟩
  | y :: r, i, pre, hd, hl, he => by
    obtain ⟨-, hki⟩ := lead_bel _ _ hd hl
    cases hy : T.E i y with
    | none => rw [leadK_none hki hy] at hl; cases hl
    | some b =>
      rw [leadK_go hki hy] at hl
      obtain ⟨-, hkb⟩ := lead_bel _ _ hd hl
      obtain ⟨x, hx⟩ := told_all hw r b (pre ++ y ++ slA) hd hl he
      exact ⟨x, .deep hy hkb hx⟩
/-- What Stat answers of a told path. -/
theorem Told.stat {l : List ByteArray} (h : Told T d s x l j) : statK T x = (statA T j, 0) := by
  have hl : leadK T 2 (Go.Proofs.Ytcjojcihjhhpgaa.spL x) = (some j, 0) := by rw [h.spL, lead_last _ _ h.way h.kd, h.e]
  refine stat_at (at_lead (wr := wrAny T) h.spE hl fun q => ?_)
  have := q.1
  rw [h.spD] at this
  exact q.2 (of_decide_eq_true this)
end
end Go.Proofs.Ytcjojcihjhhpgaa
/-
  Each call keeps that no path is too long.
-/
namespace Go.Proofs.Ytcjojcihjhhpgaa
open Go.RowKit

section
variable {T T' : Tr} {c d u : Nat} {s old : ByteArray}
theorem RnP.moved (hp : RnP T old s c d u) {d' j : Nat} {t : ByteArray} (h : (moveK T old s c d).E d' t = some j) : (d' = d ∧ t = paN s ∧ j = c) ∨ T.E d' t = some j := by
  rw [hp.moveK_eq] at h
  rcases ent_cases h with ⟨-, -, q⟩ | q
  · cases q
  · rcases ent_cases q with ⟨q1, q2, q3⟩ | q
    · exact .inl ⟨q1, q2, (Option.some.inj q3).symm⟩
    · right
      unfold lessK at q
      split at q
      · exact (dropK_E q).2
      · exact q
theorem RnP.kind (hp : RnP T old s c d u) {j : Nat} (h : (moveK T old s c d).K j = 2) : T.K j = 2 := by
  rw [hp.moveK_eq] at h
  have h : (lessK T d (paN s)).K j = 2 := h
  unfold lessK at h
  split at h
  · exact dropK_K (by decide) h
  · exact h
theorem RnP.ways (h : TrT T) (hp : RnP T old s c d u) (hs : spL s ≠ []) : ∀ (n : Nat) (l : List ByteArray) (d' : Nat), l.length = n → (moveK T old s c d).K d' = 2 → leadK (moveK T old s c d) 2 l = (some d', 0) →
    leadK T 2 l = (some d', 0) ∨ (T.K c = 2 ∧ ∃ r, szN l = szN (spL s) + szN r ∧ leadK T c r = (some d', 0)) := by
  intro n
  induction n with
  | zero =>
    intro l d' hn hk hl
    have e := List.eq_nil_of_length_eq_zero hn
    subst e
    rw [leadK_nil] at hl
    cases hl
    exact .inl rfl
  | succ n ih =>
    intro l d' hn hk hl
    have hl0 : l ≠ [] := fun e => by rw [e] at hn; cases hn
    have hsp := take_last hl0
    generalize l.take (l.length - 1) = l1 at hsp
    generalize l.getD (l.length - 1) ⟨#[]⟩ = y at hsp
    subst hsp
    obtain ⟨e, p1, p2, p3⟩ := leadK_snoc _ _ hl
    have hn1 : l1.length = n := by rw [List.length_append] at hn; simpa using hn
    have hke := hp.kind p2
    rcases ih l1 e hn1 p2 p1 with q | ⟨hc, r, q1, q2⟩
    · rcases hp.moved p3 with ⟨rfl, rfl, rfl⟩ | p4
      · right
        refine ⟨hp.kind hk, [], ?_, leadK_nil _ _⟩
        have hw := way_len h hs hp.hd q
        rw [szN_app, szN_one]
        have e0 : szN ([] : List ByteArray) = 0 := rfl
        omega
      · left
        rw [lead_last _ _ q hke, p4]
    · rcases hp.moved p3 with ⟨rfl, rfl, rfl⟩ | p4
      · exact absurd (lead_bel _ _ hke q2).1 (hp.nb hc)
      · right
        refine ⟨hc, r ++ [y], by rw [szN_app, szN_app, q1]; omega, ?_⟩
        rw [lead_last _ _ q2 hke, p4]
theorem RnP.pth (h : TrT T) (hp : RnP T old s c d u) (ho : PthOk T) (he : spE s = 0) (hs : spL s ≠ []) (hL : ¬ (T.K c = 2 ∧ LgI T c (szN (spL s)))) : PthOk (moveK T old s c d) := by
  intro l d' s' j hk hl hE
  have hk' := hp.kind hk
  have hdir : dirN ((moveK T old s c d).K j) ≤ dirN (T.K j) := by
    unfold dirN
    by_cases e : (moveK T old s c d).K j = 2
    · rw [if_pos e, if_pos (hp.kind e)]; exact Nat.le_refl _
    · rw [if_neg e]; exact Nat.zero_le _
  rcases hp.moved hE with ⟨rfl, rfl, rfl⟩ | q
  · rcases hp.ways h hs l.length l d' rfl hk hl with w | ⟨hc, r, -, w⟩
    · have hw := way_len h hs hp.hd w
      have h255 := szN_255 he hs
      by_cases hj : T.K j = 2
      · have : ¬ 255 < szN (spL s) + 1 := fun e => hL ⟨hj, .dir hj e⟩
        have : dirN (T.K j) = 1 := if_pos hj
        omega
      · have : dirN (T.K j) = 0 := if_neg hj
        omega
    · exact absurd (lead_bel _ _ hk' w).1 (hp.nb hc)
  · rcases hp.ways h hs l.length l d' rfl hk hl with w | ⟨hc, r, w1, w2⟩
    · have := ho l d' s' j hk' w q
      omega
    · have := lgI_deep (T := T) (c := c) (fun e => hL ⟨hc, e⟩) r d' hc hk' w2 s' j q
      omega
theorem free_above {l : List ByteArray} {last : ByteArray} {d : Nat} (h : freeK T l last = (some d, 0)) : aboveK T l = (some d, 0) := by
  unfold freeK freeR at h
  split at h
  · cases h
  · rename_i hz
    have hz : (aboveK T l).2 = 0 := Decidable.of_not_not hz
    split at h
    · cases h
    · rename_i i hi
      split at h
      · cases h
      · have e : i = d := by
          have := congrArg Prod.fst h
          exact Option.some.inj this
        subst e
        exact Prod.ext hi hz
theorem ff_above {l : List ByteArray} {last : ByteArray} {dd : Bool} {d : Nat} (h : ffK T l last dd = (some d, 0)) : aboveK T l = (some d, 0) := by
  unfold ffK ffR at h
  split at h
  · exact absurd (show (21 : Int) = 0 from congrArg Prod.snd h) (by decide)
  · exact free_above h
theorem enterK_pth {k : Int} (h : TrT T) (ho : PthOk T) (hd : T.K d = 2) (he : T.E d s = none) (hl : ∀ l, leadK T 2 l = (some d, 0) → szN l + 1 + s.size + dirN k ≤ 255) : PthOk (enterK T d s k).1 := by
  unfold enterK
  split
  · rename_i i hi
    obtain ⟨h2, hn, h0⟩ := leastI_ok hi
    exact enter_pth h ho h0 hd he hl
  · exact ho
theorem create_pth (h : TrT T) (ho : PthOk T) (s : ByteArray) : PthOk (createK T s).1 := by
  unfold createK
  split
  · exact ho
  · rename_i hp
    obtain ⟨hes, hns⟩ := paE_zero (Decidable.of_not_not hp)
    unfold mkR
    obtain ⟨R, hR⟩ : ∃ R, ffK T (spL s) (paN s) (spD s) = R := ⟨_, rfl⟩
    obtain ⟨ro, rz⟩ := R
    rw [hR]
    by_cases hz : rz = 0
    · subst hz
      obtain ⟨d, rfl, hd, he⟩ := ffK_ok h.wf h.root hR
      rw [if_neg (fun q => q rfl)]
      refine enterK_pth h ho hd he fun l hl => ?_
      have := way_len h hns (ff_above hR) hl
      have h2 := szN_255 hes hns
      have : dirN 1 = 0 := rfl
      omega
    · rw [if_pos hz]; exact ho
theorem mkdir_pth (h : TrT T) (ho : PthOk T) (s : ByteArray) : PthOk (mkdirK T s).1 := by
  unfold mkdirK
  split
  · exact ho
  · rename_i hp
    obtain ⟨hes, hns⟩ := paE_zero (Decidable.of_not_not hp)
    unfold mdR
    obtain ⟨R, hR⟩ : ∃ R, freeK T (spL s) (paN s) = R := ⟨_, rfl⟩
    obtain ⟨ro, rz⟩ := R
    rw [hR]
    by_cases hz : rz = 0
    · subst hz
      obtain ⟨d, rfl, hd, he⟩ := free_ok h.wf h.root hR
      rw [if_neg (fun q => q rfl)]
      show PthOk (if 255 < szN (spL s) + 1 then (T, (0 : Int), (36 : Int)) else enterK T d (paN s) 2).1
      split
      · exact ho
      · rename_i h255
        refine enterK_pth h ho hd he fun l hl => ?_
        have := way_len h hns (free_above hR) hl
        have : dirN 2 = 1 := rfl
        omega
    · rw [if_pos hz]; exact ho
theorem linkK_pth (h : TrT T) (ho : PthOk T) (old s : ByteArray) : PthOk (linkK T old s).1 := by
  unfold linkK
  split
  · exact ho
  · split
    · exact ho
    · rename_i hp
      obtain ⟨hes, hns⟩ := paE_zero (Decidable.of_not_not hp)
      unfold lkR1
      obtain ⟨R, hR⟩ : ∃ R, findK T (spL old) (spD old) (wrLink T) = R := ⟨_, rfl⟩
      obtain ⟨ro, rz⟩ := R
      rw [hR]
      by_cases hz : rz = 0
      · subst hz
        obtain ⟨f, rfl, hl, hf⟩ := findK_ok h.wf hR
        have hk := link_kind h.wf hl hf
        rw [if_neg (fun q => q rfl)]
        show PthOk (lkR2 T s f (ffK T (spL s) (paN s) (spD s))).1
        unfold lkR2
        obtain ⟨R, hR⟩ : ∃ R, ffK T (spL s) (paN s) (spD s) = R := ⟨_, rfl⟩
        obtain ⟨ro, rz⟩ := R
        rw [hR]
        by_cases hz : rz = 0
        · subst hz
          obtain ⟨d, rfl, hd, he⟩ := ffK_ok h.wf h.root hR
          rw [if_neg (fun q => q rfl)]
          show PthOk (if T.Lk f = 100 then (T, (31 : Int)) else ((T.ent d (paN s) (some f)).lks f (T.Lk f + 1), 0)).1
          split
          · exact ho
          · refine link_pth ho (by rw [hk]; decide) hd (fun l hl => ?_) _
            have := way_len h hns (ff_above hR) hl
            have h2 := szN_255 hes hns
            omega
        · rw [if_pos hz]; exact ho
      · rw [if_pos hz]; exact ho
theorem remove_pth (h : TrT T) (ho : PthOk T) (s : ByteArray) (wr : Nat → Int) : PthOk (removeK T s wr).1 := by
  unfold removeK
  split
  · exact ho
  · unfold rmR
    obtain ⟨R, hR⟩ : ∃ R, findK T (spL s) (spD s) wr = R := ⟨_, rfl⟩
    obtain ⟨ro, rz⟩ := R
    rw [hR]
    by_cases hz : rz = 0
    · subst hz
      obtain ⟨i, rfl, hl, hi⟩ := findK_ok h.wf hR
      rw [if_neg (fun q => q rfl)]
      exact drop_pth ho
    · rw [if_pos hz]; exact ho
theorem trunc_pth (h : TrT T) (ho : PthOk T) (s : ByteArray) (size : Int) : PthOk (truncK T s size).1 := by
  unfold truncK trR
  obtain ⟨R, hR⟩ : ∃ R, atK T s (wrFile T) = R := ⟨_, rfl⟩
  obtain ⟨ro, rz⟩ := R
  rw [hR]
  by_cases hz : rz = 0
  · subst hz
    obtain ⟨i, rfl, hl, hi⟩ := atK_ok h.wf hR
    rw [if_neg (fun q => q rfl)]
    split
    · exact ho
    · split
      · exact ho
      · exact dat_pth ho _
  · rw [if_pos hz]; exact ho
theorem write_pth (h : TrT T) (ho : PthOk T) (s : ByteArray) (pos : Int) (m : List Nat) : PthOk (writeK T s pos m).1 := by
  unfold writeK wrR
  obtain ⟨R, hR⟩ : ∃ R, atK T s (wrFile T) = R := ⟨_, rfl⟩
  obtain ⟨ro, rz⟩ := R
  rw [hR]
  by_cases hz : rz = 0
  · subst hz
    obtain ⟨i, rfl, hl, hi⟩ := atK_ok h.wf hR
    rw [if_neg (fun q => q rfl)]
    split
    · exact ho
    · split
      · exact ho
      · split
        · exact ho
        · exact dat_pth ho _
  · rw [if_pos hz]; exact ho
theorem rename_pth (h : TrT T) (ho : PthOk T) (old s : ByteArray) : PthOk (renameK T old s).1 := by
  unfold renameK
  split
  · exact ho
  · rename_i hpo
    split
    · exact ho
    · rename_i hps
      obtain ⟨hes, hns⟩ := paE_zero (Decidable.of_not_not hps)
      unfold rnR1
      obtain ⟨R, hR⟩ : ∃ R, findK T (spL old) (spD old) (wrAny T) = R := ⟨_, rfl⟩
      obtain ⟨ro, rz⟩ := R
      rw [hR]
      by_cases hz : rz = 0
      · subst hz
        obtain ⟨c, rfl, hl, -⟩ := findK_ok h.wf hR
        rw [if_neg (fun q => q rfl)]
        show PthOk (rnR2 T old s c (aboveK T (spL s))).1
        unfold rnR2
        obtain ⟨R, hA⟩ : ∃ R, aboveK T (spL s) = R := ⟨_, rfl⟩
        obtain ⟨ro, rz⟩ := R
        rw [hA]
        by_cases hz : rz = 0
        · subst hz
          cases ro with
          | none => exact ho
          | some d =>
            rw [if_neg (fun q => q rfl)]
            show PthOk (rnR3 T old s c d).1
            unfold rnR3
            split
            · exact ho
            · rename_i hr
              split
              · exact ho
              · rename_i hne
                split
                · exact ho
                · rename_i hL
                  obtain ⟨u, hp⟩ := rnP_of h (Decidable.of_not_not hpo) (Decidable.of_not_not hps) hR hA (Decidable.of_not_not hr) hne
                  exact hp.pth h ho hes hns hL
        · rw [if_pos hz]; exact ho
      · rw [if_pos hz]; exact ho
theorem doK_pth (h : TrT T) (ho : PthOk T) (x : OpQ) : PthOk (doK T x).1 := by
  unfold doK
  split
  · exact create_pth h ho _
  split
  · exact mkdir_pth h ho _
  split
  · exact linkK_pth h ho _ _
  split
  · exact remove_pth h ho _ _
  split
  · exact remove_pth h ho _ _
  split
  · exact rename_pth h ho _ _
  split
  · exact write_pth h ho _ _ _
  split
  · exact trunc_pth h ho _ _
  · exact ho
end
end Go.Proofs.Ytcjojcihjhhpgaa
/-
  TreeDirs in numbers: where what was told leads behind a Rename of a directory.
-/
namespace Go.Proofs.Ytcjojcihjhhpgaa
open Go.RowKit

theorem split47 : ∀ (y z A B : List UInt8), (∀ c ∈ y, c ≠ 47) → (∀ c ∈ z, c ≠ 47) → (B = [] ∨ ∃ B', B = 47 :: B') → (y ++ 47 :: A) <+: (z ++ B) → y = z ∧ (47 :: A) <+: B
  | [], [], A, B, _, _, _, h => ⟨rfl, h⟩
  | [], c :: z, A, B, _, hz, _, h => by
    obtain ⟨r, hr⟩ := h
    have e : (47 : UInt8) = c := by injection hr
    exact absurd e.symm (hz c List.mem_cons_self)
  | c :: y, [], A, B, hy, _, hB, h => by
    obtain ⟨r, hr⟩ := h
    rcases hB with rfl | ⟨B', rfl⟩
    · cases hr
    · have e : c = (47 : UInt8) := by injection hr
      exact absurd e (hy c List.mem_cons_self)
  | c :: y, c' :: z, A, B, hy, hz, hB, h => by
    rw [List.cons_append, List.cons_append, List.cons_prefix_cons] at h
    obtain ⟨rfl, h2⟩ := h
    obtain ⟨h3, h4⟩ := split47 y z A B (fun x hx => hy x (List.mem_cons_of_mem _ hx)) (fun x hx => hz x (List.mem_cons_of_mem _ hx)) hB h2
    exact ⟨by rw [h3], h4⟩
theorem fl_cons (x : ByteArray) (l : List ByteArray) : fl (x :: l) = 47 :: (x.data.toList ++ fl l) := by
  unfold fl
  rw [List.map_cons, List.flatten_cons, List.cons_append]
theorem fl_all (l m : List ByteArray) : fl (l ++ m) = fl l ++ fl m := by
  unfold fl
  rw [List.map_append, List.flatten_append]
theorem fl_head (l : List ByteArray) (e : List UInt8) (he : e = [] ∨ e = [47]) : fl l ++ e = [] ∨ ∃ B, fl l ++ e = 47 :: B := by
  cases l with
  | nil =>
    rcases he with rfl | rfl
    · exact .inl rfl
    · exact .inr ⟨[], rfl⟩
  | cons x l => right; rw [fl_cons]; exact ⟨_, rfl⟩
theorem fl_pre : ∀ (m l : List ByteArray) (e : List UInt8), (e = [] ∨ e = [47]) → (∀ x ∈ m, nmE x = 0) → (∀ x ∈ l, nmE x = 0) → (fl m ++ [47]) <+: (fl l ++ e) → m <+: l ∧ (m = l → e = [47])
  | [], l, e, he, _, _, h => by
    refine ⟨List.nil_prefix, fun q => ?_⟩
    subst q
    rcases he with rfl | rfl
    · obtain ⟨r, hr⟩ := h
      cases hr
    · rfl
  | y :: m, [], e, he, hm, _, h => by
    have h1 := h.length_le
    rw [fl_cons] at h1
    obtain ⟨q, -⟩ := nmE_good (hm y List.mem_cons_self)
    have h2 : 0 < y.data.toList.length := List.length_pos_iff.2 q
    have h3 : e.length ≤ 1 := by rcases he with rfl | rfl <;> simp
    have h4 : (fl ([] : List ByteArray)) = [] := rfl
    rw [h4, List.nil_append, List.length_append, List.length_cons, List.length_append] at h1
    simp at h1
    omega
  | y :: m, z :: l, e, he, hm, hl, h => by
    rw [fl_cons, fl_cons, List.cons_append, List.cons_append, List.cons_prefix_cons, List.append_assoc, List.append_assoc] at h
    obtain ⟨-, qy⟩ := nmE_good (hm y List.mem_cons_self)
    obtain ⟨-, qz⟩ := nmE_good (hl z List.mem_cons_self)
    obtain ⟨A, hA⟩ : ∃ A, fl m ++ [47] = 47 :: A := by
      cases m with
      | nil => exact ⟨[], rfl⟩
      | cons x m => rw [fl_cons]; exact ⟨_, rfl⟩
    rw [hA] at h
    obtain ⟨h3, h4⟩ := split47 _ _ A _ qy qz (fl_head l e he) h.2
    rw [← hA] at h4
    obtain ⟨h5, h6⟩ := fl_pre m l e he (fun x hx => hm x (List.mem_cons_of_mem _ hx)) (fun x hx => hl x (List.mem_cons_of_mem _ hx)) h4
    obtain rfl : y = z := bts_inj h3
    exact ⟨List.cons_prefix_cons.2 ⟨rfl, h5⟩, fun q => h6 (by injection q)⟩
/-- x lies under the directory with the path a. -/
def under (a x : ByteArray) : Prop := (bts a ++ [47]) <+: bts x
theorem bts_joS {l : List ByteArray} (h : l ≠ []) : bts (joS l) = fl l := by
  unfold bts joS jl
  rw [if_neg h]
  rfl
section
variable {T T' : Tr} {c d u d0 j : Nat} {s old t x : ByteArray}
/-- What is told of an entry: its bytes. -/
theorem told_bytes (h : TrT T) (ht : TP T 2 slA d t x) : ∃ l j, leadK T 2 l = (some d, 0) ∧ T.K d = 2 ∧ T.E d t = some j ∧ bts x = fl (l ++ [t]) ++ (if T.K j = 2 then [47] else []) := told_form h.wf ht [] (leadK_nil _ _) rfl
/-- An entry at the end of a way, as it is told. -/
theorem stat_way (h : TrT T) (hp : PthOk T) {l : List ByteArray} (hl : leadK T 2 l = (some d, 0)) (hk : T.K d = 2) (he : T.E d t = some j) {y : ByteArray} (hy : bts y = fl (l ++ [t]) ++ (if T.K j = 2 then [47] else [])) : statK T y = (statA T j, 0) := by
  obtain ⟨x, hx⟩ := told_all h.wf l 2 slA hk hl he
  obtain ⟨l2, j2, h1, h2, h3, h4⟩ := told_bytes h hx
  rw [he] at h3
  cases h3
  have e : l2 = l := way_one h _ _ _ _ _ hk h1 hl
  rw [e] at h4
  obtain rfl : y = x := bts_inj (hy.trans h4.symm)
  obtain ⟨l3, j3, hT⟩ := told_parse h hp hx
  have := hT.e
  rw [he] at this
  cases this
  exact hT.stat
theorem lead_split {r : List ByteArray} {z : Int} : ∀ (m : List ByteArray) (a : Nat), leadK T a m = (some c, z) → leadK T a (m ++ r) = leadK T c r
  | [], a, h => by rw [leadK_nil] at h; cases h; rfl
  | y :: m, a, h => by
    by_cases hk : T.K a = 2
    · cases hy : T.E a y with
      | none => rw [leadK_none hk hy] at h; cases h
      | some b =>
        rw [leadK_go hk hy] at h
        rw [List.cons_append, leadK_go hk hy]
        exact lead_split m b h
    · rw [leadK_file hk] at h; cases h
/-- A way below a directory stays if the steps below it do. -/
theorem lead_keep2 (hd' : T'.K d = 2) (hd : T.K d = 2) (hs : ∀ a t j, Bel T c a → T.K a = 2 → T.E a t = some j → T.K j = 2 → T'.K a = 2 ∧ T'.E a t = some j) : ∀ (l : List ByteArray) (a : Nat), Bel T c a → leadK T a l = (some d, 0) → leadK T' a l = (some d, 0)
  | [], a, _, h => by rw [leadK_nil] at h ⊢; exact h
  | y :: r, a, hb, h => by
    by_cases hk : T.K a = 2
    · cases hy : T.E a y with
      | none => rw [leadK_none hk hy] at h; cases h
      | some b =>
        rw [leadK_go hk hy] at h
        obtain ⟨-, h2⟩ := lead_bel r b hd h
        obtain ⟨h3, h4⟩ := hs a y b hb hk hy h2
        rw [leadK_go h3 h4]
        exact lead_keep2 hd' hd hs r b (.step hb hy h2) h
    · rw [leadK_file hk] at h; cases h
/-- What a Rename that was done has been. -/
theorem rename_cases (h : TrT T) (hr : renameK T old s = (T', 0)) : ∃ c, leadK T 2 (spL old) = (some c, 0) ∧ paE old = 0 ∧ paE s = 0 ∧ ((T' = T ∧ leadK T 2 (spL s) = (some c, 0)) ∨
    ∃ d u, RnP T old s c d u ∧ T' = moveK T old s c d ∧ rnE T c (T.E d (paN s)) (spL old) (spL s) (spD s) = 0) := by
  unfold renameK at hr
  by_cases hpo : paE old = 0
  · rw [if_neg (fun q => q hpo)] at hr
    by_cases hps : paE s = 0
    · rw [if_neg (fun q => q hps)] at hr
      obtain ⟨hes, hns⟩ := paE_zero hps
      unfold rnR1 at hr
      obtain ⟨R, hR⟩ : ∃ R, findK T (spL old) (spD old) (wrAny T) = R := ⟨_, rfl⟩
      obtain ⟨ro, rz⟩ := R
      rw [hR] at hr
      by_cases hz : rz = 0
      · subst hz
        obtain ⟨c, rfl, hl, -⟩ := findK_ok h.wf hR
        rw [if_neg (fun q => q rfl)] at hr
        have hr : rnR2 T old s c (aboveK T (spL s)) = (T', 0) := hr
        unfold rnR2 at hr
        obtain ⟨R, hA⟩ : ∃ R, aboveK T (spL s) = R := ⟨_, rfl⟩
        obtain ⟨ro, rz⟩ := R
        rw [hA] at hr
        by_cases hz : rz = 0
        · subst hz
          rcases aboveK_cases h.wf h.root (spL s) with ⟨z, q, q0⟩ | ⟨i, q⟩ | ⟨d, -, hkd, q⟩
          · rw [hA] at q; exact absurd (congrArg Prod.snd q).symm q0
          · rw [hA] at q; exact absurd (show (0 : Int) = 20 from congrArg Prod.snd q) (by decide)
          · obtain rfl : ro = some d := by rw [hA] at q; exact congrArg Prod.fst q
            rw [if_neg (fun q => q rfl)] at hr
            have hr : rnR3 T old s c d = (T', 0) := hr
            unfold rnR3 at hr
            by_cases hz : rnE T c (T.E d (paN s)) (spL old) (spL s) (spD s) = 0
            · rw [if_neg (fun q => q hz)] at hr
              obtain ⟨z, hlo⟩ := findK_lead hR
              have hz0 : z = 0 := by
                have := (leadK_live h.wf (spL old) 2 h.root c (by rw [hlo])).2
                rw [hlo] at this
                exact this
              subst hz0
              have hls := lead_last (t := paN s) _ _ (aboveK_ok hA).1 hkd
              rw [← spL_split hns] at hls
              refine ⟨c, hlo, hpo, hps, ?_⟩
              by_cases hth : T.E d (paN s) = some c
              · rw [if_pos hth] at hr
                rw [hth] at hls
                exact .inl ⟨(congrArg Prod.fst hr).symm, hls⟩
              · rw [if_neg hth] at hr
                split at hr
                · exact absurd (show (36 : Int) = 0 from congrArg Prod.snd hr) (by decide)
                · obtain ⟨u, hp⟩ := rnP_of h hpo hps hR hA hz hth
                  exact .inr ⟨d, u, hp, (congrArg Prod.fst hr).symm, hz⟩
            · rw [if_pos hz] at hr
              exact absurd (congrArg Prod.snd hr) hz
        · rw [if_pos hz] at hr
          exact absurd (congrArg Prod.snd hr) hz
      · rw [if_pos hz] at hr
        exact absurd (congrArg Prod.snd hr) hz
    · rw [if_pos hps] at hr
      exact absurd (congrArg Prod.snd hr) hps
  · rw [if_pos hpo] at hr
    exact absurd (congrArg Prod.snd hr) hpo
theorem RnP.below (h : TrT T) (hp : RnP T old s c d0 u) (hc : T.K c = 2) {r : List ByteArray} (hd : T.K d = 2) (hl : leadK T c r = (some d, 0)) : leadK (moveK T old s c d0) c r = (some d, 0) ∧ (moveK T old s c d0).K d = 2 := by
  have hbd := (lead_bel _ _ hd hl).1
  have hst : ∀ a t j, Bel T c a → T.E a t = some j → (moveK T old s c d0).E a t = some j ∧ (moveK T old s c d0).K a = T.K a := fun a t j hb hE =>
    hp.step hE (fun e => Bel.not_up h hp.eu hc (e.1 ▸ hb)) (fun e => hp.nb hc (e.1 ▸ hb))
  have hkd : (moveK T old s c d0).K d = 2 := by
    rw [hp.moveK_eq]
    refine (lessK_K fun x hx e => ?_).trans hd
    have hbx := hp.bare x hx
    rw [e] at hbd
    cases hbd with
    | refl => exact hp.ne hx
    | step q1 q2 _ =>
      have := (h.par (by rw [e] at hd; exact hd) hx q2).1
      subst this
      exact hp.nb hc q1
  exact ⟨lead_keep2 hkd hd (fun a t j hb hka hE hkj => ⟨(hst a t j hb hE).2.trans hka, (hst a t j hb hE).1⟩) r c .refl hl, hkd⟩
theorem dirs_facts (h : TrT T) (hp : PthOk T) (hr : renameK T old s = (T', 0)) (hk : ∀ c, leadK T 2 (spL old) = (some c, 0) → T.K c = 2) (hx : TP T 2 slA d t x) (he : T.E d t = some j) :
    (under (joS (spL old)) x → ∀ y, bts y = bts (joS (spL s)) ++ (bts x).drop (joS (spL old)).size → statK T' y = (statA T' j, 0)) ∧
    (¬ under (joS (spL old)) x → x ≠ joS (spL s) ++ slA → statK T' x = (statA T' j, 0)) := by
  obtain ⟨c, hlo, hpo, hps, hcase⟩ := rename_cases h hr
  have hkc := hk c hlo
  have hno := (paE_zero hpo).2
  have hns := (paE_zero hps).2
  obtain ⟨l, j', h1, h2, h3, h4⟩ := told_bytes h hx
  rw [he] at h3
  cases h3
  have hsz : (joS (spL old)).size = (fl (spL old)).length := by
    rw [← bts_joS hno]
    unfold bts
    rw [Array.length_toList]
    rfl
  unfold under
  rw [bts_joS hno, bts_joS hns, hsz]
  have nmo := lead_nm h _ _ _ hlo
  have nml : ∀ y ∈ l ++ [t], nmE y = 0 := fun y hy => by
    rcases List.mem_append.1 hy with q | q
    · exact lead_nm h l 2 0 h1 y q
    · have : y = t := by simpa using q
      subst this
      exact h.nm _ _ _ he
  have nms : ∀ y ∈ spL s, nmE y = 0 := spL_nm s
  have hed : ∀ k : Int, (if k = 2 then ([47] : List UInt8) else []) = [] ∨ (if k = 2 then ([47] : List UInt8) else []) = [47] := fun k => by
    split
    · exact .inr rfl
    · exact .inl rfl
  rcases hcase with ⟨rfl, hls⟩ | ⟨d0, u, hR, rfl, hz⟩
  · have e : spL s = spL old := way_one h _ _ _ _ _ hkc hls hlo
    refine ⟨fun hu y hy => ?_, fun _ _ => stat_way h hp h1 h2 he h4⟩
    obtain ⟨r, hr⟩ := hu
    have hyx : bts y = bts x := by
      rw [hy, e, ← hr, List.append_assoc, List.drop_left]
    rw [bts_inj hyx]
    exact stat_way h hp h1 h2 he h4
  · have hT' := hR.move h
    have hpT' := rename_pth h hp old s
    rw [hr] at hpT'
    have hpT' : PthOk (moveK T old s c d0) := hpT'
    have hx0 : ∀ x0, T.E d0 (paN s) = some x0 → T.K x0 = 2 := fun x0 q => by
      unfold rnE at hz
      split at hz
      · exact absurd hz (by decide)
      · split at hz
        · exact absurd hz (by decide)
        · rw [q] at hz
          have hz : (if x0 = c then (0 : Int) else if T.K c = 2 then wrEmpty T x0 else wrFile T x0) = 0 := hz
          rw [if_neg (fun e => hR.ne (by rw [q, e])), if_pos hkc] at hz
          unfold wrEmpty at hz
          split at hz
          · assumption
          · exact absurd hz (by decide)
    have wayd := aboveK_ok hR.hd
    have wayu := aboveK_ok hR.hu
    by_cases s1 : d = u ∧ t = paN old
    · obtain ⟨rfl, rfl⟩ := s1
      rw [hR.eu] at he
      have hcj : j = c := (Option.some.inj he).symm
      subst hcj
      have el : l = (spL old).take ((spL old).length - 1) := way_one h _ _ _ _ _ h2 h1 wayu.1
      rw [el, ← spL_split hno, if_pos hkc] at h4
      rw [h4]
      refine ⟨fun _ y hy => ?_, fun hu => absurd (List.prefix_refl _) hu⟩
      rw [List.drop_left] at hy
      have hkc' : (moveK T old s j d0).K j = 2 := hR.same.1.trans hkc
      refine stat_way hT' hpT' (hR.way_d h) (hR.kd2 h) (t := paN s) (j := j) ?_ ?_
      · rw [hR.moveK_eq, Tr.ent_ne _ (fun e => hR.apart ⟨e.1.symm, e.2.symm⟩), Tr.ent_at]
      · rw [hy, ← spL_split hns, if_pos hkc']
    · by_cases s2 : d = d0 ∧ t = paN s
      · obtain ⟨rfl, rfl⟩ := s2
        have hkj := hx0 j he
        have el : l = (spL s).take ((spL s).length - 1) := way_one h _ _ _ _ _ h2 h1 wayd.1
        rw [el, ← spL_split hns, if_pos hkj] at h4
        rw [h4]
        refine ⟨fun hu => ?_, fun _ hne => ?_⟩
        · exfalso
          obtain ⟨q1, -⟩ := fl_pre _ _ _ (.inr rfl) nmo nms hu
          by_cases e : spL old = spL s
          · have hls := lead_last (t := paN s) _ _ wayd.1 wayd.2
            rw [← spL_split hns, he, ← e, hlo] at hls
            have hls : (some c, (0 : Int)) = (some j, 0) := hls
            have : c = j := by injection hls with a1 a2; exact Option.some.inj a1
            exact hR.ne (by rw [he, this])
          · have hlt : (spL old).length < (spL s).length := by
              rcases Nat.lt_or_ge (spL old).length (spL s).length with q | q
              · exact q
              · exact absurd (q1.eq_of_length (Nat.le_antisymm q1.length_le q)) e
            unfold rnE at hz
            rw [if_pos ⟨hkc, hlt, wiB_of q1⟩] at hz
            exact absurd hz (by decide)
        · exfalso
          apply hne
          apply bts_inj
          rw [h4]
          show _ = (joS (spL s) ++ slA).data.toList
          have e1 : (joS (spL s)).data.toList = fl (spL s) := bts_joS hns
          simp [slA, e1]
      · obtain ⟨q1, q2⟩ := hR.step he s1 s2
        have hk' : (moveK T old s c d0).K d = 2 := q2.trans h2
        have hkj : (moveK T old s c d0).K j = T.K j := by
          rw [hR.moveK_eq]
          refine lessK_K fun x0 hx0' e => s2 ?_
          have := h.par (hx0 x0 hx0') hx0' (e ▸ he)
          exact this
        by_cases hb : Bel T c d
        · obtain ⟨r, rfl⟩ := way_below h hkc hlo hb l 0 h1
          have hcr : leadK T c r = (some d, 0) := by rw [← lead_split _ _ hlo]; exact h1
          have hway : leadK (moveK T old s c d0) 2 (spL s ++ r) = (some d, 0) := by
            rw [lead_split _ _ (hR.new h hns)]
            exact (hR.below h hkc h2 hcr).1
          have h4 : bts x = fl (spL old) ++ (fl (r ++ [t]) ++ (if T.K j = 2 then [47] else [])) := by
            rw [h4, List.append_assoc, fl_all, List.append_assoc]
          rw [h4]
          refine ⟨fun _ y hy => ?_, fun hu => ?_⟩
          · rw [List.drop_left] at hy
            refine stat_way hT' hpT' hway hk' q1 ?_
            have e5 : fl (spL s ++ r ++ [t]) = fl (spL s) ++ fl (r ++ [t]) := by rw [List.append_assoc, fl_all]
            rw [hy, hkj, e5, List.append_assoc]
          · exfalso
            apply hu
            rw [List.prefix_append_right_inj]
            obtain ⟨B, hB⟩ : ∃ B, fl (r ++ [t]) ++ (if T.K j = 2 then ([47] : List UInt8) else []) = 47 :: B := by
              rcases fl_head (r ++ [t]) _ (hed (T.K j)) with q | q
              · exfalso
                have := congrArg List.length q
                rw [List.length_append, fl_app, List.length_append, List.length_append] at this
                simp at this
              · exact q
            rw [hB]
            exact ⟨B, rfl⟩
        · have hway : leadK (moveK T old s c d0) 2 l = (some d, 0) := by
            refine lead_keep h2 hk' (fun a t' j' hka hE hkj' hbj => ?_) l 2 h1
            have n1 : ¬ (a = u ∧ t' = paN old) := fun e => by
              obtain ⟨rfl, rfl⟩ := e
              rw [hR.eu] at hE
              cases hE
              exact hb hbj
            have n2 : ¬ (a = d0 ∧ t' = paN s) := fun e => by
              obtain ⟨rfl, rfl⟩ := e
              have hbr := hR.bare j' hE
              have e2 := bare_bel hbr hbj
              have q := hbr t
              rw [← e2, he] at q
              cases q
            obtain ⟨k1, k2⟩ := hR.step hE n1 n2
            exact ⟨k2.trans hka, k1⟩
          refine ⟨fun hu => ?_, fun _ _ => stat_way hT' hpT' hway hk' q1 (by rw [h4, hkj])⟩
          exfalso
          rw [h4] at hu
          obtain ⟨k1, -⟩ := fl_pre _ _ _ (hed _) nmo nml hu
          have hll := lead_last (t := t) _ _ h1 h2
          rw [he] at hll
          by_cases e : spL old = l ++ [t]
          · rw [← e, hlo] at hll
            have hll : (some c, (0 : Int)) = (some j, 0) := hll
            have hcj : c = j := by injection hll with a1 a2; exact Option.some.inj a1
            subst hcj
            exact s1 (h.par hkc hR.eu he)
          · have k2 : spL old <+: l := by
              rcases List.prefix_concat_iff.1 k1 with q | q
              · exact absurd q e
              · exact q
            obtain ⟨r, hr2⟩ := k2
            rw [← hr2, lead_split _ _ hlo] at h1
            exact hb (lead_bel _ _ h2 h1).1
end
end Go.Proofs.Ytcjojcihjhhpgaa
/-
  A map from texts to numbers; a range over it.
-/
namespace Go.Proofs.Ytcjojcihjhhpgaa
open Go.RowKit Go.Maps

/-- How a number reads. -/
def intS (v : Value) : Option (DataW Int × List MemPlace) :=
  match v with
  | .int .i64 s => some (.held s, [])
  | _ => none
theorem intS_mk (p : Int) : intS (.int .i64 p) = some (.held p, []) := rfl
theorem intS_inv {v : Value} {z : DataW Int × List MemPlace} (h : intS v = some z) : ∃ p, v = .int .i64 p ∧ z = (.held p, []) := by
  unfold intS at h
  split at h
  · cases h; exact ⟨_, rfl, rfl⟩
  · cases h
/-- Block g is a map that leads from f's keys to f's blocks; ks are its keys, each once. -/
def SI (w : World) (g n : Nat) (f : ByteArray → Option Int) (ks : List ByteArray) : Prop :=
  ∃ D : DataW Int, w.ownsMap Try.prog STT intS g n D ∧ (∀ p, wfS p → Maps.has D (slit p) = (f p).isSome ∧ D.atKey (slit p) (.held 0) = .held ((f p).getD 0)) ∧
    ks.Nodup ∧ (∀ p, p ∈ ks ↔ (f p).isSome = true) ∧ (∀ p, (f p).isSome = true → wfS p) ∧ Maps.size D = ks.length
section
variable {w w' : World} {g n : Nat} {f : ByteArray → Option Int} {ks : List ByteArray} {t e : TypeId}
theorem SI.made (w : World) : SI (w.alloc (.map #[] 0)) w.heap.size 0 (fun _ => none) [] :=
  ⟨_, World.ownsMap_made w Try.prog STT intS, fun x _ => ⟨by simp [Maps.has], rfl⟩, List.nodup_nil, fun x => (by simp), fun x h => (by simp at h), rfl⟩
theorem SI.obj (h : SI w g n f ks) : ∃ es c, w.heap[g]? = some (.map es c) := by
  obtain ⟨D, ⟨es, c, hx, _⟩, _⟩ := h
  exact ⟨es, c, hx⟩
theorem SI.same (h : SI w g n f ks) (he : ∀ o, w.heap[g]? = some o → w'.heap[g]? = some o) : SI w' g n f ks := by
  obtain ⟨D, ⟨es, c, hx, hr⟩, h2⟩ := h
  exact ⟨D, ⟨es, c, he _ hx, hr⟩, h2⟩
theorem SI.lt (h : SI w g n f ks) : g < w.heap.size := by
  obtain ⟨es, c, hx⟩ := h.obj
  exact (Array.getElem?_eq_some_iff.1 hx).1
theorem SI.later (h : SI w g n f ks) (hb : Below w.heap.size w w') : SI w' g n f ks := h.same (fun o e => (hb.block g h.lt).trans e)
theorem SI.blo (h : SI w g n f ks) {k : Nat} {t : TypeId} {cs : Array Value} (hb : Blo w k t cs) : g ≠ k := by
  rintro rfl
  obtain ⟨es, c, hx⟩ := h.obj
  unfold Blo at hb
  rw [hx] at hb
  cases hb
theorem SI.put (h : SI w g n f ks) (ht : Try.prog.underlying t = some (.map STT e)) (hn : n < 1000000) {p : ByteArray} (hp : wfS p) (b : Int) : ∃ w', (Instr.mapUpdate t (.map (some g)) (.string p) (.int .i64 b)).run Try.prog w = .ok () w' ∧ SI w' g (n + 1) (updS f p (some b)) (addS ks p) ∧ w.grownBy w' (some g) := by
  obtain ⟨D, h1, h2, h5, h6, h8, h7⟩ := h
  obtain ⟨w', hrun, h3, h4⟩ := h1.update keyedS ht (by unfold maxLen; omega) (keyOfS hp) (intS_mk b)
  have hT := h1.tidy keyedS
  refine ⟨w', hrun, ⟨_, h3, fun z hz => ?_, ?_, fun z => ?_, fun z hz => ?_, ?_⟩, h4⟩
  · by_cases e : z = p
    · subst e
      rw [updS_at, has_put_same hT.isMap (slit_key hz), atKey_put_same hT.isMap (slit_key hz)]
      exact ⟨rfl, rfl⟩
    · have en : slit z ≠ slit p := fun q => e (slit_inj q)
      rw [updS_ne _ _ e, has_put_other en, atKey_put_other en]
      exact h2 z hz
  · unfold addS
    split
    · exact h5
    · rename_i hk
      rw [List.nodup_append]
      exact ⟨h5, by simp, fun a ha b hb => by simp at hb; subst hb; intro e; subst e; exact hk ha⟩
  · rw [addS_mem, h6]
    by_cases e : z = p
    · subst e; rw [updS_at]; simp
    · rw [updS_ne _ _ e]; simp [e]
  · by_cases e : z = p
    · subst e; exact hp
    · rw [updS_ne _ _ e] at hz; exact h8 z hz
  · rw [size_put hT, (h2 p hp).1, h7]
    unfold addS
    by_cases hk : p ∈ ks
    · rw [if_pos hk, if_pos ((h6 p).1 hk)]
    · rw [if_neg hk, if_neg (fun e => hk ((h6 p).2 e)), List.length_append]; rfl
/-- Block r ranges over the map of block g, that leads from f's keys to f's blocks; those of done have come. -/
def SQ (w : World) (g r n : Nat) (f : ByteArray → Option Int) (done : List ByteArray) (cnt : Nat) : Prop :=
  ∃ (D : DataW Int) (left : Lit → Bool), w.ranges Try.prog STT intS g r n D left cnt ∧ (∀ p, wfS p → Maps.has D (slit p) = (f p).isSome ∧ D.atKey (slit p) (.held 0) = .held ((f p).getD 0)) ∧
    (∀ p, wfS p → left (slit p) = ((f p).isSome && !decide (p ∈ done))) ∧ done.Nodup ∧ (∀ p ∈ done, (f p).isSome = true)
theorem SI.range (h : SI w g n f ks) (ht : Try.prog.underlying t = some (.map STT e)) : ∃ w', (Instr.range t (.map (some g))).run Try.prog w = .ok (.pointer (some ⟨w.heap.size, 0, none⟩)) w' ∧ (∃ cnt, SQ w' g w.heap.size n f [] cnt) ∧ Below w.heap.size w w' ∧ w'.heap.size = w.heap.size + 1 := by
  obtain ⟨D, h1, h2, -⟩ := h
  obtain ⟨w', e1, e2, e3, e4⟩ := h1.range keyedS ht
  exact ⟨w', e1, ⟨_, D, _, e2, h2, fun p hp => by rw [(h2 p hp).1]; simp, List.nodup_nil, fun p hp => by cases hp⟩, ⟨e3.os, e3.tape, e3.output, e3.size, fun i hi => e3.block i hi (by simp)⟩, e4⟩
variable {r cnt : Nat} {done : List ByteArray}
theorem SQ.next (h : SQ w g r n f done cnt) (ty : TypeId) :
    ((∀ p, wfS p → (f p).isSome = true → p ∈ done) ∧ (Instr.next (.pointer (some ⟨r, 0, none⟩)) false ty).run Try.prog w = .ok (.tuple #[.bool false]) w) ∨
    ∃ p b w' cnt', wfS p ∧ f p = some b ∧ p ∉ done ∧ (Instr.next (.pointer (some ⟨r, 0, none⟩)) false ty).run Try.prog w = .ok (.tuple #[.bool true, .string p, .int .i64 b]) w' ∧
      SQ w' g r n f (done ++ [p]) cnt' ∧ cnt' < cnt ∧ w.grownBy w' (some r) ∧ w'.heap.size = w.heap.size ∧ (Instr.entry (.pointer (some ⟨r, 0, none⟩))).run Try.prog w' = .ok (.tuple #[.string p, .int .i64 b]) w' := by
  obtain ⟨D, left, h1, h2, h3, h4, h5⟩ := h
  rcases h1.next keyedS ty with ⟨-, hl, hrun⟩ | ⟨key, v, kl, y, w', cnt', hkey, hlk, hv, hat, hrun, hrg, hlt, hgr, hsz, hen⟩
  · refine .inl ⟨fun p hp hf => ?_, hrun⟩
    have := h3 p hp
    rw [hl, hf] at this
    simpa using this.symm
  · obtain ⟨p, hp, rfl, rfl⟩ := keyOfS_inv hkey
    obtain ⟨q, rfl, rfl⟩ := intS_inv hv
    have e1 : D.atKey (slit p) (.held 0) = .held q := hat _
    rw [(h2 p hp).2] at e1
    cases e1
    have e3 := h3 p hp
    rw [hlk] at e3
    have hs : (f p).isSome = true ∧ p ∉ done := by simpa using e3.symm
    obtain ⟨b, hb⟩ := Option.isSome_iff_exists.1 hs.1
    rw [hb] at hrun hen
    refine .inr ⟨p, b, w', cnt', hp, hb, hs.2, hrun, ⟨D, _, hrg, h2, fun z hz => ?_, ?_, fun z hz => ?_⟩, hlt, hgr, hsz, hen⟩
    · rw [h3 z hz]
      by_cases e : z = p
      · subst e
        rw [WideAt.sameKey_self (slit_key hz)]
        simp
      · have hn : (slit z).sameKey (slit p) = false := by
          cases hq : (slit z).sameKey (slit p) with
          | false => rfl
          | true => exact absurd (slit_inj (WideAt.sameKey_eq hq)) e
        rw [hn]
        simp [e]
    · rw [List.nodup_append]
      exact ⟨h4, by simp, fun a ha b hb e => by
        have : b = p := by simpa using hb
        rw [e, this] at ha
        exact hs.2 ha⟩
    · rcases List.mem_append.1 hz with q | q
      · exact h5 z q
      · have : z = p := by simpa using q
        rw [this]; exact hs.1
theorem SQ.kept (h : SQ w g r n f done cnt) {row : Option Nat} (hg : w.grownBy w' row) (h1 : some g ≠ row) (h2 : some r ≠ row) : SQ w' g r n f done cnt := by
  obtain ⟨D, left, q1, q2⟩ := h
  exact ⟨D, left, q1.kept hg h1 h2, q2⟩
theorem SQ.later (h : SQ w g r n f done cnt) (hb : Below w.heap.size w w') : SQ w' g r n f done cnt := h.kept (grown_of_below hb none) (by simp) (by simp)
theorem SQ.left_eq (h : SQ w g r n f done cnt) : w.rangeLeft g r = cnt := by
  obtain ⟨D, left, q1, q2⟩ := h
  exact q1.left_eq
theorem SQ.lt (h : SQ w g r n f done cnt) : r < w.heap.size := by
  obtain ⟨D, left, q1, q2⟩ := h
  exact q1.lt
end
end Go.Proofs.Ytcjojcihjhhpgaa
/-
  Split and Parent of the document.
-/
namespace Go.Proofs.Ytcjojcihjhhpgaa
open Go.RowKit

theorem info_strx : (Try.prog.info? STR).map (fun i => (i.zero, i.size, i.bytes)) = some (some (.string ⟨#[]⟩), 1, 16) := by kernel_rfl
theorem cellsS_one (l : List ByteArray) : ∀ u ∈ cellsS l, u.oneCell' = true := fun u hu => by
  unfold cellsS at hu
  obtain ⟨q, _, rfl⟩ := List.mem_map.1 hu
  rfl
theorem own_nilS (w : World) (base : Nat) (e : TypeId) : w.ownsRow base e 1 (.slice none 0 0) 0 (cellsS []) := ⟨rfl, .inl ⟨rfl, rfl⟩⟩
theorem ba_snoc (cur : List UInt8) (s : ByteArray) (k : Nat) (h : k < s.size) : ba cur ++ s.extract k (k + 1) = ba (cur ++ [s.get! k]) := by
  refine str_ext ?_
  have h1 : (s.extract k (k + 1)).data.toList = [s.get! k] := by
    rw [extract_list]
    unfold piece
    rw [drop_at s k h, show k + 1 - k = 1 by omega]
    rfl
  simp [drop_at s k h]
def RfR (w : World) (s : ByteArray) (v5 v6 v7 : Value) (W : World) : Prop := ∃ (k : Nat) (acc : List ByteArray) (cur : List UInt8), v7 = .int .i64 k ∧ k ≤ s.size + 1 ∧ v6 = .string (ba cur) ∧ W.ownsRow w.heap.size STR 1 v5 acc.length (cellsS acc) ∧
  acc ++ (toks cur (s.data.toList.drop k)).map ba = nml s ∧ chkL acc = 0 ∧ acc.length ≤ k ∧ cur.length ≤ k ∧ (k = s.size + 1 → cur = []) ∧ Below w.heap.size w W
def RsO (w : World) (s : ByteArray) (e : Ending) (w' : World) : Prop := SpO w s e w'
theorem sep_toks (s : ByteArray) (cur : List UInt8) (k : Nat) (hk : k ≤ s.size) (hs : ¬ (k < s.size ∧ s.get! k ≠ 47)) : toks cur (s.data.toList.drop k) = (if cur = [] then [] else [cur]) ++ toks [] (s.data.toList.drop (k + 1)) := by
  by_cases hlt : k < s.size
  · have hb : s.get! k = 47 := Classical.byContradiction fun h => hs ⟨hlt, h⟩
    rw [drop_at s k hlt, hb]
    split
    · rename_i h; rw [h, toks_slash]; rfl
    · rename_i h; rw [toks_end h]; rfl
  · have e1 : s.data.toList.drop k = [] := List.drop_eq_nil_of_le (by rw [← Lib.size_eq]; omega)
    have e2 : s.data.toList.drop (k + 1) = [] := List.drop_eq_nil_of_le (by rw [← Lib.size_eq]; omega)
    rw [e1, e2]
    simp [toks]
theorem drop_end (s : ByteArray) (k : Nat) (h : s.size ≤ k) : s.data.toList.drop k = [] := List.drop_eq_nil_of_le (by rw [← Lib.size_eq]; exact h)
set_option maxRecDepth 100000 in
set_option maxHeartbeats 8000000 in
theorem refSplit_any (s : ByteArray) (w : World) : Calls Try.prog 25 #[.string s] w (SpO w s) := by
  have HB := Lib.hid (Below.refl w.heap.size w)
  by_cases h1 : 255 < s.size
  · have HE := Lib.hid (spE_long h1)
    have hl : (255 : Int) < (s.size : Int) := by omega
    clear h1
    go_enter Try.func25, Try.ntmps25
    go_wp2
    exact bodyPost_ret (v := .tuple #[.slice none 0 0, .bool false, .int .i64 36]) (by simp [results, Try.results25, go_sem]) rfl (spO_bad HE.out (by decide) HB.out)
  · have hl : ¬ (255 : Int) < (s.size : Int) := by omega
    by_cases h2 : s.size = 0
    · have HE := Lib.hid (spE_rel h1 (.inl h2))
      obtain rfl : s = ⟨#[]⟩ := str_ext (by rw [Lib.size_eq] at h2; rw [List.eq_nil_of_length_eq_zero h2])
      clear h1 h2 hl
      go_enter Try.func25, Try.ntmps25
      go_wp2
      exact bodyPost_ret (v := .tuple #[.slice none 0 0, .bool false, .int .i64 22]) (by simp [results, Try.results25, go_sem]) rfl (spO_bad HE.out (by decide) HB.out)
    · have hne : ((s.size : Int) == 0) = false := beq_eq_false_iff_ne.2 (by omega)
      have hpos : (0 : Int) < (s.size : Int) := by omega
      have hpos' : 0 < s.size := by omega
      by_cases h3 : s.get! 0 = 47
      · have HE : Hid (spE s = chkL (nml s)) := spE_chk h1 (fun h => h.elim h2 (fun h => h h3))
        have hv : (s[0]'hpos').toNat = 47 := by rw [get_bang s 0 hpos', h3]; rfl
        have HD : Hid (∀ h, (((s[s.size - 1]'h).toNat : Int) == 47) = dirB s) := fun h => by
          unfold dirB
          rw [get_bang s _ h, Bool.eq_iff_iff]
          simp
          constructor
          · intro e; exact UInt8.toNat_inj.1 (by show _ = 47; omega)
          · intro e; rw [e]; rfl
        have h255 : s.size ≤ 255 := by omega
        clear h1 h2 h3
        go_enter Try.func25, Try.ntmps25
        go_wp2_with fail
        go_loopw [5, 6, 7, 8] (fun v5 v6 v7 _ wr => RfR w s v5 v6 v7 wr) (fun _ _ v7 _ _ => s.size + 1 - (intOf v7).toNat)
        case atStart => exact ⟨0, [], [], rfl, by omega, rfl, own_nilS _ _ _, rfl, rfl, Nat.le_refl _, Nat.le_refl _, fun h => rfl, HB.out⟩
        case round =>
          obtain ⟨k, acc, cur, rfl, hk, rfl, hown, htk, hck, hacc, hcur, hend, hbw⟩ := hrel
          have HO := Lib.hid hown
          have HT := Lib.hid htk
          have HC := Lib.hid hck
          have HW := Lib.hid hbw
          clear hown htk hck hbw
          by_cases hin : k ≤ s.size
          · by_cases hw : k < s.size ∧ s.get! k ≠ 47
            · obtain ⟨hlt, hnb⟩ := hw
              have hb : (((s[k]'hlt).toNat : Int) == 47) = false := by
                rw [get_bang s k hlt]
                exact beq_eq_false_iff_ne.2 fun e => hnb (UInt8.toNat_inj.1 (by show _ = 47; omega))
              have HT2 : Hid (acc ++ (toks (cur ++ [s.get! k]) (s.data.toList.drop (k + 1))).map ba = nml s) := by
                have e := HT.out
                rw [drop_at s k hlt, toks, if_neg hnb] at e
                exact e
              have HS := ba_snoc cur s k hlt
              have hsz := ba_size cur
              have hz1 : ((ba cur).size : Int) ≤ 300 := by omega
              have hz2 : (s.extract k (k + 1)).size = 1 := by
                rw [Lib.size_eq, extract_list, piece_len _ _ _ (by rw [← Lib.size_eq]; omega)]; omega
              have hz3 : (ba cur).size + (s.extract k (k + 1)).size ≤ 9223372036854775807 := by omega
              have k0 : (0 : Int) ≤ (k : Int) := by omega
              have k1 : (k : Int) < (s.size : Int) := by omega
              have k2 : (k : Int) ≤ (s.size : Int) := by omega
              have HKf : Hid (k < s.size) := hlt
              have HLc : Hid ((cur ++ [s.get! k]).length ≤ k + 1) := by show _ ≤ _; simp; omega
              clear hnb hsz hend hcur hin
              generalize hq : s.extract k (k + 1) = q at *
              go_wp2_with fail
              exact ⟨⟨k + 1, acc, cur ++ [s.get! k], by go_num, by have := HKf.out; omega, rfl, HO.out, HT2.out, HC.out, by omega, HLc.out, (fun e => by have := HKf.out; omega), HW.out⟩, by simp [intOf]; have := HKf.out; omega⟩
            · have HX : Hid (toks cur (s.data.toList.drop k) = (if cur = [] then [] else [cur]) ++ toks [] (s.data.toList.drop (k + 1))) := sep_toks s cur k hin hw
              have k0 : (0 : Int) ≤ (k : Int) := by omega
              have HKi : Hid (k ≤ s.size) := hin
              by_cases hlt : k < s.size
              · have hb47 : s.get! k = 47 := Classical.byContradiction fun h => hw ⟨hlt, h⟩
                have hb : (s[k]'hlt).toNat = 47 := by rw [get_bang s k hlt, hb47]; rfl
                have k1 : (k : Int) < (s.size : Int) := by omega
                clear hb47
                have k2 : (k : Int) ≤ (s.size : Int) := by have := HKi.out; omega
                by_cases hcn : cur = []
                · subst hcn
                  have HT2 : Hid (acc ++ (toks [] (s.data.toList.drop (k + 1))).map ba = nml s) := by
                    have e := HT.out
                    rw [HX.out, if_pos rfl] at e
                    exact e
                  clear hend hcur hin HX hw
                  go_wp2_with fail
                  exact ⟨⟨k + 1, acc, [], by go_num, by have := HKi.out; omega, rfl, HO.out, HT2.out, HC.out, by omega, Nat.zero_le _, (fun _ => rfl), HW.out⟩, by simp [intOf]; have := HKi.out; omega⟩
                · have hsz : (ba cur).size ≠ 0 := by rw [ba_size]; exact fun e => hcn (List.eq_nil_of_length_eq_zero e)
                  obtain ⟨m0', m0⟩ := toList_empty hsz
                  have HT2 : Hid (nml s = acc ++ ba cur :: (toks [] (s.data.toList.drop (k + 1))).map ba) := by
                    have e := HT.out
                    rw [HX.out, if_neg hcn] at e
                    exact e.symm
                  have HN := Lib.hid (refName_any (ba cur))
                  have HLen : Hid (acc.length ≤ k) := hacc
                  clear hend hcur hin HX hw hcn hacc hsz
                  generalize ba cur = cb at *
                  by_cases hx : nmE cb = 0
                  · rw [hx] at HN
                    have HC2 := Lib.hid (chkL_one HC.out hx)
                    clear hx
                    go_wp2_with fail
                    refine (HN.out _).mono ?_
                    rintro e w1 ⟨rfl, rfl⟩
                    have hal := (Below.refl wr.heap.size wr).alloc (Nat.le_refl _) (.cells #[.string cb] STR)
                    have HOa := Lib.hid (own_later HO.out hal)
                    have HWa := Lib.hid (HW.out.trans (hal.mono HW.out.size))
                    have HCl := Lib.hid ((blo_laid wr STR #[.string cb]).cell 0)
                    have HLn : Hid (acc.length + 1 ≤ 1000000) := by have := HLen.out; have := HKi.out; show _ ≤ _; omega
                    clear hal
                    go_wp2_with (at_builtin; refine wp_append_row rfl (.tmp 50) (.tmp 52) SLS rfl w.heap.size STR (.string ⟨#[]⟩) 1 16 Try.underlying28 info_strx rfl (by decide) (by decide) _ acc.length (cellsS acc) rfl HOa.out (some ⟨wr.heap.size, 0, none⟩) 1 1 [.string cb] rfl rfl (fun ad e j u hj => by cases e; rw [Addr.add_lit]; match j, hj with | 0, hj => (cases hj; exact HCl.out) | j + 1, hj => (simp at hj)) (fun u hu => by simp at hu; subst hu; rfl) (fun e => by cases e) HLn.out HWa.out.size ?_; intro a5 c5 w5 ho5 hg5; have HO5 := Lib.hid ho5; have HB5 := Lib.hid (HWa.out.grown hg5 HWa.out.size (fun q hq => (HOa.out.lt q hq).1)); clear ho5 hg5)
                    exact ⟨⟨k + 1, acc ++ [cb], [], by go_num, by have := HKi.out; omega, rfl, by
                      have e := HO5.out
                      rw [List.length_append, ← cellsS_append]
                      exact e, by rw [List.append_assoc]; exact HT2.out.symm, HC2.out, by rw [List.length_append]; have := HLen.out; simp; omega, Nat.zero_le _, (fun _ => rfl), HB5.out⟩, by simp [intOf]; have := HKi.out; omega⟩
                  · have HZ : Hid (spE s = nmE cb) := by
                      show _ = _
                      rw [HE.out, HT2.out]
                      exact chkL_bad HC.out hx _
                    have HNz := Lib.hid hx
                    have h4 : (nmE cb == 0) = false := beq_eq_false_iff_ne.2 hx
                    clear hx HC HT2 HT HE
                    generalize nmE cb = z at *
                    go_wp2_with fail
                    refine (HN.out _).mono ?_
                    rintro e w1 ⟨rfl, rfl⟩
                    go_wp2_with fail
                    exact bodyPost_ret (v := .tuple #[.slice none 0 0, .bool false, .int .i64 z]) (by simp [results, Try.results25, go_sem]) rfl (spO_bad HZ.out HNz.out HW.out)
              · have k1 : ¬ (k : Int) < (s.size : Int) := by omega
                clear hlt
                have k2 : (k : Int) ≤ (s.size : Int) := by have := HKi.out; omega
                by_cases hcn : cur = []
                · subst hcn
                  have HT2 : Hid (acc ++ (toks [] (s.data.toList.drop (k + 1))).map ba = nml s) := by
                    have e := HT.out
                    rw [HX.out, if_pos rfl] at e
                    exact e
                  clear hend hcur hin HX hw
                  go_wp2_with fail
                  exact ⟨⟨k + 1, acc, [], by go_num, by have := HKi.out; omega, rfl, HO.out, HT2.out, HC.out, by omega, Nat.zero_le _, (fun _ => rfl), HW.out⟩, by simp [intOf]; have := HKi.out; omega⟩
                · have hsz : (ba cur).size ≠ 0 := by rw [ba_size]; exact fun e => hcn (List.eq_nil_of_length_eq_zero e)
                  obtain ⟨m0', m0⟩ := toList_empty hsz
                  have HT2 : Hid (nml s = acc ++ ba cur :: (toks [] (s.data.toList.drop (k + 1))).map ba) := by
                    have e := HT.out
                    rw [HX.out, if_neg hcn] at e
                    exact e.symm
                  have HN := Lib.hid (refName_any (ba cur))
                  have HLen : Hid (acc.length ≤ k) := hacc
                  clear hend hcur hin HX hw hcn hacc hsz
                  generalize ba cur = cb at *
                  by_cases hx : nmE cb = 0
                  · rw [hx] at HN
                    have HC2 := Lib.hid (chkL_one HC.out hx)
                    clear hx
                    go_wp2_with fail
                    refine (HN.out _).mono ?_
                    rintro e w1 ⟨rfl, rfl⟩
                    have hal := (Below.refl wr.heap.size wr).alloc (Nat.le_refl _) (.cells #[.string cb] STR)
                    have HOa := Lib.hid (own_later HO.out hal)
                    have HWa := Lib.hid (HW.out.trans (hal.mono HW.out.size))
                    have HCl := Lib.hid ((blo_laid wr STR #[.string cb]).cell 0)
                    have HLn : Hid (acc.length + 1 ≤ 1000000) := by have := HLen.out; have := HKi.out; show _ ≤ _; omega
                    clear hal
                    go_wp2_with (at_builtin; refine wp_append_row rfl (.tmp 50) (.tmp 52) SLS rfl w.heap.size STR (.string ⟨#[]⟩) 1 16 Try.underlying28 info_strx rfl (by decide) (by decide) _ acc.length (cellsS acc) rfl HOa.out (some ⟨wr.heap.size, 0, none⟩) 1 1 [.string cb] rfl rfl (fun ad e j u hj => by cases e; rw [Addr.add_lit]; match j, hj with | 0, hj => (cases hj; exact HCl.out) | j + 1, hj => (simp at hj)) (fun u hu => by simp at hu; subst hu; rfl) (fun e => by cases e) HLn.out HWa.out.size ?_; intro a5 c5 w5 ho5 hg5; have HO5 := Lib.hid ho5; have HB5 := Lib.hid (HWa.out.grown hg5 HWa.out.size (fun q hq => (HOa.out.lt q hq).1)); clear ho5 hg5)
                    exact ⟨⟨k + 1, acc ++ [cb], [], by go_num, by have := HKi.out; omega, rfl, by
                      have e := HO5.out
                      rw [List.length_append, ← cellsS_append]
                      exact e, by rw [List.append_assoc]; exact HT2.out.symm, HC2.out, by rw [List.length_append]; have := HLen.out; simp; omega, Nat.zero_le _, (fun _ => rfl), HB5.out⟩, by simp [intOf]; have := HKi.out; omega⟩
                  · have HZ : Hid (spE s = nmE cb) := by
                      show _ = _
                      rw [HE.out, HT2.out]
                      exact chkL_bad HC.out hx _
                    have HNz := Lib.hid hx
                    have h4 : (nmE cb == 0) = false := beq_eq_false_iff_ne.2 hx
                    clear hx HC HT2 HT HE
                    generalize nmE cb = z at *
                    go_wp2_with fail
                    refine (HN.out _).mono ?_
                    rintro e w1 ⟨rfl, rfl⟩
                    go_wp2_with fail
                    exact bodyPost_ret (v := .tuple #[.slice none 0 0, .bool false, .int .i64 z]) (by simp [results, Try.results25, go_sem]) rfl (spO_bad HZ.out HNz.out HW.out)
          · obtain rfl : k = s.size + 1 := by omega
            have hcn := hend rfl
            subst hcn
            have HL : Hid (acc = nml s) := by
              have e := HT.out
              rw [drop_end s _ (by omega)] at e
              show _ = _
              rw [← e]; simp [toks]
            obtain rfl := HL.out
            have HEz : Hid (spE s = 0) := by show _ = _; rw [HE.out]; exact HC.out
            obtain ⟨a, c, rfl, hac⟩ := own_slice HO.out
            have HSt := Lib.hid (Strs.own HO.out)
            have HNn : Hid (a = none → (nml s).length = 0 ∧ c = 0) := fun e => by
              subst e
              rcases HO.out.2 with ⟨h5, h6⟩ | ⟨g, cap, cur, h5, _⟩
              · injection h5 with _ h7 h8; exact ⟨h7, h8⟩
              · injection h5 with h7; cases h7
            have HAc := Lib.hid hac
            have z0 : ¬ ((s.size + 1 : Nat) : Int) ≤ (s.size : Int) := by omega
            have z4 : IntKind.i64.wrap ((s.size : Int) - 1) = (s.size : Int) - 1 := IntWalk.i64_in _ (by omega)
            have z5 : (1 : Int) ≤ (s.size : Int) := by omega
            have z6 : (s.size : Int) - 1 < (s.size : Int) := by omega
            have hlast : s.size - 1 < s.size := by omega
            clear hend hcur hin hacc hac HT HC HE HL HO hk
            go_wp2_with fail
            go_region
            go_wp2
            refine bodyPost_ret (v := .tuple #[.slice a (nml s).length c, .bool (dirB s), .int .i64 0]) ?_ rfl (spO_ok HEz.out rfl HAc.out (HSt.out.below (sDrewN (Below.refl _ _) 1)) HNn.out (sDrewN HW.out 1))
            simp [results, Try.results25, go_sem]
            exact HD.out _
      · have HE := Lib.hid (spE_rel h1 (.inr h3))
        have hv : (((s[0]'hpos').toNat : Int) == 47) = false := by
          rw [get_bang s 0 hpos']
          exact beq_eq_false_iff_ne.2 fun e => h3 (UInt8.toNat_inj.1 (by show _ = 47; omega))
        clear h1 h2 h3
        go_enter Try.func25, Try.ntmps25
        go_wp2
        exact bodyPost_ret (v := .tuple #[.slice none 0 0, .bool false, .int .i64 22]) (by simp [results, Try.results25, go_sem]) rfl (spO_bad HE.out (by decide) HB.out)
end Go.Proofs.Ytcjojcihjhhpgaa
/-
  Join of the document.
-/
namespace Go.Proofs.Ytcjojcihjhhpgaa
open Go.RowKit

/-- The first names' path, with nothing for none. -/
def jf (l : List ByteArray) : List UInt8 := (l.map fun x => (47 : UInt8) :: x.data.toList).flatten
theorem jf_snoc (l : List ByteArray) (x : ByteArray) : jf (l ++ [x]) = jf l ++ 47 :: x.data.toList := by simp [jf]
theorem jf_len (l : List ByteArray) (h : ∀ x ∈ l, x.size ≤ 14) : (jf l).length ≤ l.length * 15 := by
  induction l with
  | nil => simp [jf]
  | cons x l ih =>
    have h1 := ih (fun y hy => h y (List.mem_cons_of_mem _ hy))
    have h2 := h x List.mem_cons_self
    rw [Lib.size_eq] at h2
    unfold jf at h1 ⊢
    rw [List.map_cons, List.flatten_cons, List.length_append, List.length_cons, List.length_cons]
    omega
theorem jl_jf {l : List ByteArray} (h : l ≠ []) : jl l = jf l := by unfold jl jf; rw [if_neg h]
theorem jf_nil {l : List ByteArray} : jf l = [] ↔ l = [] := by
  cases l with
  | nil => simp [jf]
  | cons x r => simp [jf]
def RjR (w : World) (l : List ByteArray) (n : Nat) (v4 v9 : Value) (W : World) : Prop := ∃ k : Nat, v9 = .int .i64 k ∧ k ≤ n ∧ v4 = .string (ba (jf (l.take k))) ∧ chkL (l.take k) = 0 ∧ Below w.heap.size w W
set_option maxRecDepth 100000 in
set_option maxHeartbeats 4000000 in
theorem refJoin_any (l : List ByteArray) (a : Option Addr) (n c : Nat) (w : World) (hl : n = l.length) (hn : n ≤ 1000) (ha : Strs w a l) : Calls Try.prog 26 #[.slice a n c] w (JoO w l) := by
  have HL := Lib.hid hl
  have HA := Lib.hid ha
  have HB := Lib.hid (Below.refl w.heap.size w)
  have HE1 : Hid (chkL l = 0 → 255 < (joS l).size → JoO w l = fun e w' => e = .returned (.tuple #[.string ⟨#[]⟩, .int .i64 36]) ∧ Below w.heap.size w w') := fun hz h => by
    unfold JoO; rw [joE_long hz h, joR_bad (by rw [joE_long hz h]; decide)]
  have HE2 : Hid (chkL l = 0 → ¬ 255 < (joS l).size → JoO w l = fun e w' => e = .returned (.tuple #[.string (joS l), .int .i64 0]) ∧ Below w.heap.size w w') := fun hz h => by
    unfold JoO; rw [joE_ok hz h, joR_ok (joE_ok hz h)]
  have HE3 : Hid (chkL l ≠ 0 → JoO w l = fun e w' => e = .returned (.tuple #[.string ⟨#[]⟩, .int .i64 (chkL l)]) ∧ Below w.heap.size w w') := fun hz => by
    unfold JoO; rw [joR_bad (by rw [joE_chk hz]; exact hz), joE_chk hz]
  clear hl ha
  go_enter Try.func26, Try.ntmps26
  go_wp2_with fail
  go_loopw [4, 5, 6, 9] (fun v4 _ _ v9 wr => RjR w l n v4 v9 wr) (fun _ _ _ v9 _ => n - (intOf v9).toNat)
  case atStart => exact ⟨0, rfl, by omega, rfl, rfl, HB.out⟩
  case round =>
    obtain ⟨k, rfl, hk, rfl, hck, hbw⟩ := hrel
    have HC := Lib.hid hck
    have HW := Lib.hid hbw
    clear hck hbw
    by_cases hlt : k < n
    · obtain ⟨b1, o1, rfl, h1⟩ := (HA.out.below HW.out) (by intro e; have := HL.out; rw [e] at this; simp at this; omega)
      have x1 := h1 k (by have := HL.out; omega)
      obtain ⟨q1, q2⟩ := chkL_at (by have := HL.out; omega) HC.out
      have HQ1 := Lib.hid q1
      have HQ2 := Lib.hid q2
      have e1 : l.take (k + 1) = l.take k ++ [l.getD k ⟨#[]⟩] := by
        rw [List.take_add_one, List.getD_eq_getElem?_getD, List.getElem?_eq_getElem (by have := HL.out; omega)]; rfl
      have HJ : Hid (ba (jf (l.take (k + 1))) = ba (jf (l.take k)) ++ ⟨#[47]⟩ ++ l.getD k ⟨#[]⟩) := by
        show _ = _
        rw [e1, jf_snoc]
        refine str_ext ?_
        rw [ba_data]
        simp
      have hjl := jf_len (l.take k) (fun x hx => nmE_size (chkL_all.1 HC.out x hx))
      rw [List.length_take] at hjl
      have hsz : (ba (jf (l.take k))).size ≤ 20000 := by rw [ba_size]; have := HL.out; omega
      have HN := Lib.hid (refName_any (l.getD k ⟨#[]⟩))
      have HSz : Hid (nmE (l.getD k ⟨#[]⟩) = 0 → (l.getD k ⟨#[]⟩).size ≤ 14) := fun h => nmE_size h
      clear h1 q1 q2 e1 hjl
      generalize l.getD k ⟨#[]⟩ = x at *
      generalize ba (jf (l.take k)) = j1 at *
      have z0 : (0 : Int) ≤ (k : Int) := by omega
      have z1 : (k : Int) < (n : Int) := by omega
      by_cases hx : nmE x = 0
      · have hx14 := HSz.out hx
        have hs1 : j1.size + 1 ≤ 9223372036854775807 := by omega
        have hs2 : j1.size + 1 + x.size ≤ 9223372036854775807 := by omega
        rw [hx] at HN HQ1
        clear hx HQ2 HSz
        go_wp2_with fail
        refine (HN.out _).mono ?_
        rintro e w1 ⟨rfl, rfl⟩
        go_wp2_with fail
        exact ⟨⟨k + 1, by go_num, by omega, by rw [HJ.out], HQ1.out, HW.out⟩, by simp [intOf]; omega⟩
      · have HE := Lib.hid (HQ2.out hx)
        have HZ := Lib.hid hx
        have h4 : (nmE x == 0) = false := beq_eq_false_iff_ne.2 hx
        have HX : Hid (JoO w l = fun e w' => e = .returned (.tuple #[.string ⟨#[]⟩, .int .i64 (nmE x)]) ∧ Below w.heap.size w w') := by
          have := HE3.out (by rw [HE.out]; exact hx)
          rwa [HE.out] at this
        clear HQ1 HQ2 hx HSz HE1 HE2 HE3 HE
        generalize nmE x = z at *
        go_wp2_with fail
        refine (HN.out _).mono ?_
        rintro e w1 ⟨rfl, rfl⟩
        go_wp2_with fail
        refine bodyPost_ret (v := .tuple #[.string ⟨#[]⟩, .int .i64 z]) (by simp [results, Try.results26, go_sem]) rfl ?_
        rw [HX.out]
        exact ⟨rfl, HW.out⟩
    · obtain rfl : k = n := by omega
      have HT : Hid (l.take k = l) := List.take_of_length_le (by have := HL.out; omega)
      rw [HT.out] at HC ⊢
      clear HT
      by_cases hnil : l = []
      · have HX := Lib.hid (HE2.out HC.out (by rw [hnil]; decide))
        have hj : ba (jf l) = ⟨#[]⟩ := by rw [hnil]; rfl
        have hj2 : joS l = ⟨#[47]⟩ := by rw [hnil]; rfl
        rw [hj2] at HX
        rw [hj]
        clear hnil HE1 HE2 HE3 HC hj hj2 HL HA
        go_wp2_with fail
        refine bodyPost_ret (v := .tuple #[.string ⟨#[47]⟩, .int .i64 0]) (by simp [results, Try.results26, go_sem]) rfl ?_
        rw [HX.out]
        exact ⟨rfl, HW.out⟩
      · have hj : ba (jf l) = joS l := by unfold joS; rw [jl_jf hnil]
        have hne : (joS l).size ≠ 0 := by
          rw [← hj, ba_size]
          exact fun e => hnil (jf_nil.1 (List.eq_nil_of_length_eq_zero e))
        rw [hj]
        have HH : Hid (255 < (joS l).size → JoO w l = fun e w' => e = .returned (.tuple #[.string ⟨#[]⟩, .int .i64 36]) ∧ Below w.heap.size w w') := HE1.out HC.out
        have HG : Hid (¬ 255 < (joS l).size → JoO w l = fun e w' => e = .returned (.tuple #[.string (joS l), .int .i64 0]) ∧ Below w.heap.size w w') := HE2.out HC.out
        clear hnil HE1 HE2 HE3 HC hj HL HA
        generalize joS l = jj at *
        obtain ⟨m0', m0⟩ := toList_empty hne
        clear hne
        by_cases hlong : 255 < jj.size
        · have hl : (255 : Int) < (jj.size : Int) := by omega
          have HX := Lib.hid (HH.out hlong)
          clear HH HG hlong
          go_wp2_with fail
          refine bodyPost_ret (v := .tuple #[.string ⟨#[]⟩, .int .i64 36]) (by simp [results, Try.results26, go_sem]) rfl ?_
          rw [HX.out]
          exact ⟨rfl, HW.out⟩
        · have hl : ¬ (255 : Int) < (jj.size : Int) := by omega
          have HX := Lib.hid (HG.out hlong)
          clear HH HG hlong
          go_wp2_with fail
          refine bodyPost_ret (v := .tuple #[.string jj, .int .i64 0]) (by simp [results, Try.results26, go_sem]) rfl ?_
          rw [HX.out]
          exact ⟨rfl, HW.out⟩
end Go.Proofs.Ytcjojcihjhhpgaa
/-
  The statement TreeDirs.
-/
namespace Go.Proofs.Ytcjojcihjhhpgaa
open Go.RowKit

def ScD (w : World) (bt : Nat) (v : Value) (wr : World) : Prop := ∃ (i cnt : Nat) (T : Tr), v = .int .i64 (i : Int) ∧ i ≤ 40 ∧ cnt ≤ i ∧ Lx w wr cnt T bt no1 ∧ PthOk T
abbrev MSI := 63
/-- A map from told paths to their inodes. -/
def MpT (T : Tr) (f : ByteArray → Option Int) : Prop := ∀ x v, f x = some v → ∃ d t j, TP T 2 slA d t x ∧ T.E d t = some j ∧ v = (j : Int)
/-- While the map is filled. -/
def FlR (w : World) (bt cnt gm : Nat) (T : Tr) (a : Option Addr) (L : List ByteArray) (v : Value) (wr : World) : Prop :=
  ∃ (k : Nat) (f : ByteArray → Option Int) (ks : List ByteArray), v = .int .i64 (k : Int) ∧ k ≤ L.length ∧ SI wr gm k f ks ∧ MpT T f ∧ Lx w wr cnt T bt (fun g => g = gm) ∧ Strs wr a L
/-- While the map is walked. -/
def WkD (w : World) (bt cnt gm r n : Nat) (T' : Tr) (f : ByteArray → Option Int) (wr : World) : Prop :=
  ∃ (done : List ByteArray) (c : Nat), SQ wr gm r n f done c ∧ Lx w wr cnt T' bt (fun g => g = gm ∨ g = r)
theorem SI.out {w w' : World} {g n : Nat} {f : ByteArray → Option Int} {ks : List ByteArray} {X : Nat → Prop} (h : SI w g n f ks) (ho : Out X w w') (hx : ¬ X g) : SI w' g n f ks := h.same fun o e => (ho.block g h.lt hx).trans e
theorem bts_len (s : ByteArray) : (bts s).length = s.size := by unfold bts; rw [Array.length_toList]; rfl
theorem bts_app (a b : ByteArray) : bts (a ++ b) = bts a ++ bts b := by unfold bts; simp
theorem bts_ext (x : ByteArray) (i k : Nat) : bts (x.extract i k) = ((bts x).drop i).take (k - i) := extract_list x i k
theorem under_iff (a x : ByteArray) : under a x ↔ a.size < x.size ∧ x.extract 0 (a.size + 1) = a ++ slA := by
  have e0 : bts slA = [47] := rfl
  have key : x.extract 0 (a.size + 1) = a ++ slA ↔ (bts x).take (a.size + 1) = bts a ++ [47] := by
    constructor
    · intro h
      have := congrArg bts h
      rw [bts_ext, bts_app, e0, List.drop_zero] at this
      exact this
    · intro h
      apply bts_inj
      rw [bts_ext, bts_app, e0, List.drop_zero]
      exact h
  unfold under
  rw [key, List.prefix_iff_eq_take]
  have hl : (bts a ++ [47]).length = a.size + 1 := by rw [List.length_append, bts_len]; rfl
  rw [hl]
  constructor
  · intro h
    refine ⟨?_, h.symm⟩
    have := congrArg List.length h
    rw [hl, List.length_take, bts_len] at this
    omega
  · exact fun h => h.2.symm
theorem WalkL.told {T : Tr} {L : List ByteArray} (h : WalkL T L) {x : ByteArray} (hx : x ∈ L) : ∃ d t, TP T 2 slA d t x := by
  obtain ⟨Q, -, h2, rfl⟩ := h
  rw [srtB_mem] at hx
  obtain ⟨⟨⟨d, t⟩, y⟩, hm, rfl⟩ := List.mem_map.1 hx
  exact ⟨d, t, (h2 _ _ _).1 hm⟩
theorem MpT.put {T : Tr} {f : ByteArray → Option Int} (h : MpT T f) {d j : Nat} {t x : ByteArray} (ht : TP T 2 slA d t x) (he : T.E d t = some j) : MpT T (updS f x (some (j : Int))) := fun y v hy => by
  by_cases e : y = x
  · subst e
    rw [updS_at] at hy
    cases hy
    exact ⟨d, t, j, ht, he, rfl⟩
  · rw [updS_ne _ _ e] at hy
    exact h y v hy
theorem SI.cell {w : World} {g n o : Nat} {f : ByteArray → Option Int} {ks : List ByteArray} {v : Value} (h : SI w g n f ks) (hc : w.cell? ⟨g, o, none⟩ = some v) : False := by
  obtain ⟨es, c, hx⟩ := h.obj
  simp [World.cell?, hx] at hc
theorem strs_out {w w' : World} {a : Option Addr} {l : List ByteArray} {X : Nat → Prop} (h : Strs w a l) (ho : Out X w w') (hx : ∀ b o, l ≠ [] → a = some ⟨b, o, none⟩ → ¬ X b) : Strs w' a l := fun hl => by
  obtain ⟨b, o, ha, hc⟩ := h hl
  exact ⟨b, o, ha, fun i hi => ho.cell (hc i hi) (hx b o hl ha)⟩
theorem kind_of {T : Tr} {old : ByteArray} {s0 s1 s2 s3 : Int} {c : Nat} (he : spE old = 0) (h : statK T old = (.agg #[.int .i64 s0, .int .i64 s1, .int .i64 s2, .int .i64 s3], 0)) (hl : leadK T 2 (spL old) = (some c, 0)) : T.K c = s1 := by
  unfold statK atK at h
  rw [if_neg (fun q => q he), findK_some hl] at h
  unfold statR at h
  split at h
  · rename_i hz
    exact absurd (congrArg Prod.snd h) hz
  · have e : statA T c = .agg #[.int .i64 s0, .int .i64 s1, .int .i64 s2, .int .i64 s3] := congrArg Prod.fst h
    unfold statA at e
    exact (agg4_inj e).2.1
theorem mem_getD {L : List ByteArray} {k : Nat} (h : k < L.length) : L.getD k ⟨#[]⟩ ∈ L := by
  rw [List.getD_eq_getElem?_getD, List.getElem?_eq_getElem h]
  exact List.getElem_mem _
set_option maxRecDepth 100000 in
set_option maxHeartbeats 4000000 in
theorem treeDirs_any (oa : Option Addr) (ol oc : Nat) (F : Nat → OpQ) (old path : ByteArray) (w : World) (hq : QOps w oa ol F) (h3 : old.size ≤ 300) (h4 : path.size ≤ 300) :
    Calls Try.prog 7 #[.slice oa ol oc, .string old, .string path] w fun e w' => e = .returned (.bool true) ∧ Below w.heap.size w w' := by
  have HQ := Lib.hid hq
  have h3i : ¬ (300 : Int) < (old.size : Int) := by omega
  have h4i : ¬ (300 : Int) < (path.size : Int) := by omega
  clear hq h3 h4
  go_enter Try.func7, Try.ntmps7
  go_wp2_with fail
  refine (awake_any w).mono ?_
  rintro e w1 ⟨rfl, hb1⟩
  have HB1 := Lib.hid hb1
  clear hb1
  go_wp2_with fail
  refine (new_lx HB1.out (n := 20) (by decide) (by decide)).mono ?_
  rintro e w2 ⟨bt, rfl, h2, -⟩
  have HS2 : Hid (ScD w bt (.int .i64 0) w2) := ⟨0, 0, _, rfl, by decide, by decide, h2, tree0_pth⟩
  clear h2 h3i h4i
  go_wp2_with fail
  go_loopw [9] (fun v wr => ScD w bt v wr) (fun v _ => 40 - (intOf v).toNat)
  case atStart => exact HS2.out
  case round =>
    clear HS2
    obtain ⟨i, cnt, T, rfl, hi, hc, hx, hpk⟩ := hrel
    have HX := Lib.hid hx
    have HPk := Lib.hid hpk
    have HC : Hid (cnt ≤ i ∧ i ≤ 40) := ⟨hc, hi⟩
    clear hx hc hpk
    by_cases hlt : i < ol ∧ i < 40
    · obtain ⟨hl1, hl2⟩ := hlt
      obtain ⟨b, o, ba, bn, bc, rfl, hbi, hcs⟩ := HQ.out.2 i hl1
      have hbw := HX.out.b
      have e0 := cell_later hbw (hcs 0 _ rfl)
      have e1 := cell_later hbw (hcs 1 _ rfl)
      have e2 := cell_later hbw (hcs 2 _ rfl)
      have e3 := cell_later hbw (hcs 3 _ rfl)
      have e4 := cell_later hbw (hcs 4 _ rfl)
      rw [Nat.add_zero] at e0
      generalize F i = x at *
      have HBi := Lib.hid hbi
      have hi1 : (i : Int) < (ol : Int) := by omega
      have hi2 : (i : Int) < 40 := by omega
      have hi0 : (0 : Int) ≤ (i : Int) := by omega
      have HF : Hid (Calls Try.prog 12 #[.agg #[.int .i64 x.k, .string x.path, .string x.old, .int .i64 x.pos, .slice ba bn bc]] wr fun e w' => e = .returned (.bool (fitB x)) ∧ Below wr.heap.size wr w') := fits_any hbi.1 wr
      have HDo : Hid (∀ W, Below wr.heap.size wr W → Calls Try.prog 13 #[.iface TPT (.pointer (some ⟨bt, 0, none⟩)), .agg #[.int .i64 x.k, .string x.path, .string x.old, .int .i64 x.pos, .slice ba bn bc]] W (DoO w W cnt T bt no1 x)) := fun W hW =>
        do_any (HX.out.quiet hW) (by have := HC.out; omega) x ((hbi.below hbw).below hW)
      have HG : Hid (∀ W, Below wr.heap.size wr W → W.cell? ⟨b, o + i * 5, none⟩ = some (.int .i64 x.k) ∧ W.cell? ⟨b, o + i * 5 + 1, none⟩ = some (.string x.path) ∧ W.cell? ⟨b, o + i * 5 + 2, none⟩ = some (.string x.old) ∧ W.cell? ⟨b, o + i * 5 + 3, none⟩ = some (.int .i64 x.pos) ∧ W.cell? ⟨b, o + i * 5 + 4, none⟩ = some (.slice ba bn bc)) := fun W hW =>
        ⟨cell_later hW e0, cell_later hW e1, cell_later hW e2, cell_later hW e3, cell_later hW e4⟩
      clear hcs hbi hbw hl1 hl2
      go_wp2_with fail
      refine HF.out.mono ?_
      rintro e w4 ⟨rfl, hb4⟩
      have HB4 := Lib.hid hb4
      obtain ⟨e0, e1, e2, e3, e4⟩ := HG.out w4 hb4
      clear hb4
      cases hfit : fitB x with
      | true =>
        go_wp2_with fail
        refine (HDo.out w4 HB4.out).mono ?_
        intro e w5 hd
        obtain ⟨rfl, hx5, -⟩ : LxO w w4 cnt (doK T x).1 bt no1 (doK T x).2.1 (doK T x).2.2 e w5 := hd
        have HX5 := Lib.hid hx5
        clear hx5
        go_wp2_with fail
        exact ⟨⟨i + 1, cnt + 1, _, by go_num, by omega, by have := HC.out; omega, HX5.out, doK_pth HX.out.t HPk.out x⟩, by simp [intOf]; omega⟩
      | false =>
        go_wp2_with fail
        exact ⟨⟨i + 1, cnt, T, by go_num, by omega, by have := HC.out; omega, HX.out.quiet HB4.out, HPk.out⟩, by simp [intOf]; omega⟩
    · have hsp : ¬ (i : Int) < (ol : Int) ∨ ((i : Int) < (ol : Int) ∧ ¬ (i : Int) < 40) := by omega
      clear hlt
      obtain ⟨s0, s1, s2, s3, fz, hS⟩ := stat_form T old
      have HSk := Lib.hid hS
      have HSt1 := Lib.hid (HX.out.stat2 hS)
      have HSp := Lib.hid (refSplit_any old)
      have HSq := Lib.hid (refSplit_any path)
      unfold SpO at HSp HSq
      obtain ⟨eo, heo⟩ : ∃ eo, spE old = eo := ⟨_, rfl⟩
      obtain ⟨ep, hep⟩ : ∃ ep, spE path = ep := ⟨_, rfl⟩
      have HEo := Lib.hid heo
      have HEp := Lib.hid hep
      rw [heo] at HSp
      rw [hep] at HSq
      have HLo := Lib.hid (spL_lenT old)
      have HLp := Lib.hid (spL_lenT path)
      clear hS heo hep
      rcases hsp with g1 | ⟨g1, g2⟩
      all_goals (
        go_wp2_with fail
        refine HSt1.out.mono ?_
        rintro e w4 ⟨rfl, hb4⟩
        obtain ⟨w5, hw5⟩ : ∃ w5, w4.alloc (.cells #[.int .i64 s0, .int .i64 s1, .int .i64 s2, .int .i64 s3] 39) = w5 := ⟨_, rfl⟩
        have hb5 : Below wr.heap.size wr w5 := by rw [← hw5]; exact hb4.alloc hb4.size _
        have HB5 := Lib.hid hb5
        have HX5 : Hid (Blo w5 w4.heap.size 39 #[.int .i64 s0, .int .i64 s1, .int .i64 s2, .int .i64 s3]) := by rw [← hw5]; exact blo_laid w4 _ _
        clear hb4 hb5
        go_wp2_with fail
        refine (HSp.out w5).mono ?_
        rintro e w6 ⟨a6, n6, c6, rfl, hn6, -, hs6, -, hb6⟩
        have HB6 := Lib.hid (HB5.out.trans (hb6.mono HB5.out.size))
        have HX6 := Lib.hid (HX5.out.later hb6)
        have HS6 := Lib.hid (And.intro hn6 hs6)
        clear hn6 hs6 hb6
        go_wp2_with fail
        refine (HSq.out w6).mono ?_
        rintro e w7 ⟨a7, n7, c7, rfl, hn7, -, hs7, -, hb7⟩
        have HB7 := Lib.hid (HB6.out.trans (hb7.mono HB6.out.size))
        have b1 : w7.cell? ⟨w4.heap.size, 1, none⟩ = some (.int .i64 s1) := (HX6.out.later hb7).cell 1
        have HS7 := Lib.hid (And.intro hn7 hs7)
        have HT7 := Lib.hid (HS6.out.2.below hb7)
        have HEnd := Lib.hid (HX.out.quiet HB7.out).b
        clear hn7 hs7 hb7
        by_cases hok : fz = 0 ∧ eo = 0 ∧ ep = 0 ∧ s1 = 2
        · obtain ⟨rfl, rfl, rfl, rfl⟩ := hok
          have HJo := Lib.hid (refJoin_any (spL old) a6 n6 c6 w7 HS6.out.1 (by have := HLo.out; have := HS6.out.1; omega) HT7.out)
          have hjo : joE (spL old) = 0 := by have := joE_nml HEo.out; rwa [← spL_ok HEo.out] at this
          have hjp : joE (spL path) = 0 := by have := joE_nml HEp.out; rwa [← spL_ok HEp.out] at this
          unfold JoO at HJo
          rw [joR_ok hjo, hjo] at HJo
          have HJp := Lib.hid (fun W hW => refJoin_any (spL path) a7 n7 c7 W HS7.out.1 (by have := HLp.out; have := HS7.out.1; omega) (HS7.out.2.below (w' := W) hW))
          unfold JoO at HJp
          rw [joR_ok hjp, hjp] at HJp
          have hsa : (joS (spL old)).size ≤ 255 := by
            unfold joE at hjo
            split at hjo
            · split at hjo
              · exact absurd hjo (by decide)
              · omega
            · rename_i q; exact absurd hjo q
          have hsb : (joS (spL path)).size ≤ 255 := by
            unfold joE at hjp
            split at hjp
            · split at hjp
              · exact absurd hjp (by decide)
              · omega
            · rename_i q; exact absurd hjp q
          obtain ⟨ja, hja⟩ : ∃ ja, joS (spL old) = ja := ⟨_, rfl⟩
          obtain ⟨jb, hjb⟩ : ∃ jb, joS (spL path) = jb := ⟨_, rfl⟩
          have HJa := Lib.hid (And.intro hja hjb)
          have HSz : Hid (ja.size ≤ 255 ∧ jb.size ≤ 255) := ⟨by rw [← hja]; exact hsa, by rw [← hjb]; exact hsb⟩
          rw [hja] at HJo
          rw [hjb] at HJp
          clear hjo hjp hsa hsb hja hjb
          go_wp2_with fail
          refine HJo.out.mono ?_
          rintro e w8 ⟨rfl, hb8⟩
          have HB8 := Lib.hid (HB7.out.trans (hb8.mono HB7.out.size))
          have HJ8 := Lib.hid (HJp.out w8 hb8)
          clear hb8 b1
          go_wp2_with fail
          refine HJ8.out.mono ?_
          rintro e w9 ⟨rfl, hb9⟩
          have HB9 := Lib.hid (HB8.out.trans (hb9.mono HB8.out.size))
          obtain ⟨wm, hwm⟩ : ∃ wm, w9.alloc (.map #[] 0) = wm := ⟨_, rfl⟩
          have HM0 : Hid (SI wm w9.heap.size 0 (fun _ => none) []) := by rw [← hwm]; exact SI.made w9
          have hbm : Below w9.heap.size w9 wm := by rw [← hwm]; exact (Below.refl _ _).alloc (Nat.le_refl _) _
          have hszm : wm.heap.size = w9.heap.size + 1 := by rw [← hwm]; simp
          have HLm : Hid (Lx w wm cnt T bt (fun g => g = w9.heap.size)) := HX.out.own (Out.of_below (HB9.out.trans (hbm.mono HB9.out.size))) (fun g q => by
            subst q
            exact ⟨.inr HB9.out.size, by omega⟩)
          have hmk : (Instr.makeMap 63 none).run Try.prog w9 = .ok (.map (some w9.heap.size)) wm := by rw [← hwm]; rfl
          clear hb9 hbm hszm hwm
          go_wp2_with fail
          refine HLm.out.walk.mono ?_
          rintro e wa ⟨v, L, rfl, hL, ho, hba⟩
          obtain ⟨al, cl, rfl, -⟩ := own_slice ho
          have HLw := Lib.hid hL
          have HLn := Lib.hid (walkL_len HX.out.t hL)
          obtain ⟨gm, hgm⟩ : ∃ gm, w9.heap.size = gm := ⟨_, rfl⟩
          rw [hgm] at HM0 HLm
          have HS0 : Hid (FlR w bt cnt gm T al L (.int .i64 0) wa) := ⟨0, _, _, rfl, Nat.zero_le _, HM0.out.later hba, fun x v q => (by cases q), HLm.out.quiet hba, Strs.own ho⟩
          clear hL ho hba HM0 HLm HJ8 HJp HJo
          rw [hgm]
          obtain ⟨ll, hll⟩ : ∃ ll, L.length = ll := ⟨_, rfl⟩
          have HLl := Lib.hid hll
          rw [hll]
          clear hll
          go_wp2_with fail
          go_loopw [123] (fun v wr => FlR w bt cnt gm T al L v wr) (fun v _ => ll - (intOf v).toNat)
          case atStart => exact HS0.out
          case round =>
            clear HS0
            obtain ⟨k, f, ks, rfl, hk, hsi, hmp, hlx, hst⟩ := hrel
            have HSI := Lib.hid hsi
            have HMp := Lib.hid hmp
            have HLx := Lib.hid hlx
            by_cases hkl : k < ll
            · have hkL : k < L.length := by have := HLl.out; omega
              have HSt := Lib.hid hst
              obtain ⟨b, o, hal, hcs⟩ := hst (fun e => by rw [e] at hkL; exact absurd hkL (Nat.not_lt_zero _))
              have e1 := hcs k hkL
              have HAl : Hid (b ≠ gm) := fun e => HSI.out.cell (o := o + k) (by rw [← e]; exact hcs k hkL)
              subst hal
              obtain ⟨x, hxx⟩ : ∃ x, L.getD k ⟨#[]⟩ = x := ⟨_, rfl⟩
              rw [hxx] at e1
              obtain ⟨d, t, ht⟩ := HLw.out.told (hxx ▸ mem_getD hkL)
              obtain ⟨l, j, hT⟩ := told_parse HLx.out.t HPk.out ht
              obtain ⟨y1, y2, y3, hS⟩ : ∃ y1 y2 y3, statK T x = (.agg #[.int .i64 (j : Int), .int .i64 y1, .int .i64 y2, .int .i64 y3], 0) := ⟨_, _, _, hT.stat⟩
              have HSx := Lib.hid (HLx.out.stat2 hS)
              have HWf : Hid (wfS x) := by have := hT.sz; unfold Hid wfS maxLen; omega
              have HMq := Lib.hid (hmp.put ht hT.e)
              have hkb : k < 20100 := by have := HLn.out; omega
              have hk1 : (k : Int) < (ll : Int) := by omega
              have hk0 : (0 : Int) ≤ (k : Int) := by omega
              clear hk hsi hmp hlx hst hcs hxx ht hT hS hkL
              go_wp2_with fail
              refine HSx.out.mono ?_
              rintro e wb ⟨rfl, hbb⟩
              obtain ⟨wc, hwc⟩ : ∃ wc, wb.alloc (.cells #[.int .i64 (j : Int), .int .i64 y1, .int .i64 y2, .int .i64 y3] 39) = wc := ⟨_, rfl⟩
              have hbc : Below wr.heap.size wr wc := by rw [← hwc]; exact hbb.alloc hbb.size _
              have c0 : wc.cell? ⟨wb.heap.size, 0, none⟩ = some (.int .i64 (j : Int)) := by rw [← hwc]; exact (blo_laid wb _ _).cell 0
              obtain ⟨wd, hrun, hsd, hgd⟩ := (HSI.out.later hbc).put Try.underlying63 (by omega) HWf.out (j : Int)
              have hod : Out (fun g => g = gm) wc wd := Out.of_grown hgd (fun g e => by cases e; rfl)
              have HRe : Hid (∀ v, v = .int .i64 (((k + 1 : Nat)) : Int) → FlR w bt cnt gm T (some ⟨b, o, none⟩) L v wd) := fun v hv => ⟨k + 1, _, _, hv, by have := HLl.out; omega, hsd, HMq.out, (HLx.out.quiet hbc).own hod (fun g q => ⟨.inl q, by subst q; exact hsd.lt⟩), strs_out (HSt.out.below hbc) hod (fun b' o' _ e q => by cases e; exact HAl.out q)⟩
              clear hbb hbc hsd hgd hod
              go_wp2_with fail
              exact ⟨HRe.out _ (by go_num), by simp [intOf]; omega⟩
            · have hk1 : ¬ (k : Int) < (ll : Int) := by omega
              obtain ⟨T', z, hr⟩ : ∃ T' z, renameK T old path = (T', z) := ⟨_, _, rfl⟩
              have HR := Lib.hid hr
              have HRn := Lib.hid (hlx.rename (by have := HC.out; omega) hr)
              clear hk hsi hmp hlx hst hkl hr
              go_wp2_with fail
              refine HRn.out.mono ?_
              rintro e wc ⟨rfl, hlc, hoc⟩
              have HLc := Lib.hid hlc
              by_cases hz : z = 0
              · subst hz
                obtain ⟨wd, hrun, ⟨c0, hq⟩, hbd, hsz⟩ := (HSI.out.out hoc (fun q => q.2 rfl)).range Try.underlying63
                have hgl := (hlc.n gm rfl).2
                obtain ⟨r, hrr⟩ : ∃ r, wc.heap.size = r := ⟨_, rfl⟩
                rw [hrr] at hrun hq
                have HW0 : Hid (WkD w bt (cnt + 1) gm r k T' f wd) := ⟨[], c0, hq, hlc.own (Out.of_below hbd) (fun g e => by
                  rcases e with rfl | rfl
                  · exact ⟨.inl rfl, by omega⟩
                  · exact ⟨.inr (by omega), by omega⟩)⟩
                have HCj : Hid (∀ (d : Nat) (t x : ByteArray) (j : Nat), TP T 2 slA d t x → T.E d t = some j → (under ja x → ∀ y, bts y = bts jb ++ (bts x).drop ja.size → statK T' y = (statA T' j, 0)) ∧ (¬ under ja x → x ≠ jb ++ slA → statK T' x = (statA T' j, 0))) := by
                  have h1 := HJa.out.1
                  have h2 := HJa.out.2
                  subst h1
                  subst h2
                  exact fun d t x j hx he => dirs_facts HX.out.t HPk.out HR.out (fun c hl => kind_of HEo.out HSk.out hl) hx he
                clear hlc hoc hq hbd hsz hgl
                go_wp2_with fail
                clear hrun
                go_loopw [] (fun wr => WkD w bt (cnt + 1) gm r k T' f wr) (fun wr => wr.rangeLeft gm r)
                case atStart => exact HW0.out
                case round =>
                  clear HW0
                  obtain ⟨done, cn, hq, hl⟩ := hrel
                  have HQr := Lib.hid hq
                  have HLr := Lib.hid hl
                  have HM := Lib.hid hq.left_eq
                  clear hq hl
                  rcases HQr.out.next 0 with ⟨-, hrun⟩ | ⟨p, v, w', cn', hwf, hfb, -, hrun, hq', hlt, hgr, hsz, hen⟩
                  · have HEnd := Lib.hid HLr.out.b
                    go_wp2_with fail
                    go_ret
                    exact ⟨rfl, HEnd.out⟩
                  · obtain ⟨d, t, j, htp, hej, rfl⟩ := HMp.out _ _ hfb
                    obtain ⟨hc1, hc2⟩ := HCj.out d t p j htp hej
                    have hlr' : Lx w w' (cnt + 1) T' bt (fun g => g = gm ∨ g = r) := HLr.out.own (Out.of_grown hgr (fun g e => by cases e; exact .inr rfl)) (fun g e => ⟨.inl e, by have := (HLr.out.n g e).2; omega⟩)
                    have HL' := Lib.hid hlr'
                    have HQ' := Lib.hid hq'
                    have HLt := Lib.hid hlt
                    have HC1 := Lib.hid hc1
                    have HPs : Hid (p.size ≤ 255) := by
                      obtain ⟨_, _, hT⟩ := told_parse HX.out.t HPk.out htp
                      exact hT.sz
                    have HC2 := Lib.hid hc2
                    clear hlr' hq' hlt hc1 hc2 htp hej hfb hgr hsz
                    have hja : ja.size ≤ 255 := HSz.out.1
                    have hjb : jb.size ≤ 255 := HSz.out.2
                    have hps : p.size ≤ 255 := HPs.out
                    have z1 : ¬ (9223372036854775807 : Int) < (ja.size : Int) + 1 := by omega
                    have z2 : ¬ (9223372036854775807 : Int) < (jb.size : Int) + 1 := by omega
                    by_cases hlp : ja.size < p.size
                    · have hlpI : (ja.size : Int) < (p.size : Int) := by omega
                      by_cases hex : p.extract 0 (ja.size + 1) = ja ++ slA
                      · have hst := HC1.out ((under_iff ja p).2 ⟨hlp, hex⟩) (jb ++ p.extract ja.size p.size) (by rw [bts_app, bts_ext, List.take_of_length_le (by rw [List.length_drop, bts_len]; omega)])
                        have hexq : ((p.extract 0 (ja.size + 1)).toList == (ja ++ slA).toList) = true := by rw [hex]; exact beq_self_eq_true _
                        have z3 : ¬ 9223372036854775807 < jb.size + (p.extract ja.size p.size).size := by rw [ByteArray.size_extract]; omega
                        have z4 : ¬ 9223372036854775807 < jb.size + (p.size - ja.size) := by omega
                        have z5 : jb.size + (p.size - ja.size) ≤ 9223372036854775807 := by omega
                        have z6 : ¬ (9223372036854775807 : Int) < (jb.size : Int) + ((p.size - ja.size : Nat) : Int) := by omega
                        have z7 : ¬ (9223372036854775807 : Int) < (jb.size : Int) + ((p.extract ja.size p.size).size : Int) := by rw [ByteArray.size_extract]; omega
                        unfold slA at hexq
                        clear hex
                        obtain ⟨y1, y2, y3, hS⟩ : ∃ y1 y2 y3, statK T' (jb ++ p.extract ja.size p.size) = (.agg #[.int .i64 (j : Int), .int .i64 y1, .int .i64 y2, .int .i64 y3], 0) := ⟨_, _, _, hst⟩
                        have HSx := Lib.hid (HL'.out.stat2 hS)
                        clear hS hst
                        go_wp2_with fail
                        refine HSx.out.mono ?_
                        rintro e wb ⟨rfl, hbb⟩
                        obtain ⟨wz, hwz⟩ : ∃ wz, wb.alloc (.cells #[.int .i64 (j : Int), .int .i64 y1, .int .i64 y2, .int .i64 y3] 39) = wz := ⟨_, rfl⟩
                        have hbz : Below w'.heap.size w' wz := by rw [← hwz]; exact hbb.alloc hbb.size _
                        have c0 : wz.cell? ⟨wb.heap.size, 0, none⟩ = some (.int .i64 (j : Int)) := by rw [← hwz]; exact (blo_laid wb _ _).cell 0
                        have HEq : Hid (WkD w bt (cnt + 1) gm r k T' f wz) := ⟨_, _, HQ'.out.later hbz, HL'.out.quiet hbz⟩
                        have HMe : Hid (wz.rangeLeft gm r < wr.rangeLeft gm r) := by rw [(HQ'.out.later hbz).left_eq, HM.out]; exact HLt.out
                        clear hbb hbz
                        go_wp2_with fail
                        exact ⟨HEq.out, HMe.out⟩
                      · have hexq : ((p.extract 0 (ja.size + 1)).toList == (ja ++ slA).toList) = false := toList_ne hex
                        have hnu : ¬ under ja p := fun h => hex ((under_iff ja p).1 h).2
                        unfold slA at hexq
                        clear hex
                        by_cases hpb : p = jb ++ slA
                        · have hpq : (p.toList == (jb ++ slA).toList) = true := by rw [hpb]; exact beq_self_eq_true _
                          have HMe : Hid (w'.rangeLeft gm r < wr.rangeLeft gm r) := by rw [HQ'.out.left_eq, HM.out]; exact HLt.out
                          unfold slA at hpq
                          clear hpb
                          go_wp2_with fail
                          exact ⟨⟨_, _, HQ'.out, HL'.out⟩, HMe.out⟩
                        · have hst := HC2.out hnu hpb
                          have hpq : (p.toList == (jb ++ slA).toList) = false := toList_ne hpb
                          unfold slA at hpq
                          clear hpb
                          obtain ⟨y1, y2, y3, hS⟩ : ∃ y1 y2 y3, statK T' p = (.agg #[.int .i64 (j : Int), .int .i64 y1, .int .i64 y2, .int .i64 y3], 0) := ⟨_, _, _, hst⟩
                          have HSx := Lib.hid (HL'.out.stat2 hS)
                          clear hS hst
                          go_wp2_with fail
                          refine HSx.out.mono ?_
                          rintro e wb ⟨rfl, hbb⟩
                          obtain ⟨wz, hwz⟩ : ∃ wz, wb.alloc (.cells #[.int .i64 (j : Int), .int .i64 y1, .int .i64 y2, .int .i64 y3] 39) = wz := ⟨_, rfl⟩
                          have hbz : Below w'.heap.size w' wz := by rw [← hwz]; exact hbb.alloc hbb.size _
                          have c0 : wz.cell? ⟨wb.heap.size, 0, none⟩ = some (.int .i64 (j : Int)) := by rw [← hwz]; exact (blo_laid wb _ _).cell 0
                          have HEq : Hid (WkD w bt (cnt + 1) gm r k T' f wz) := ⟨_, _, HQ'.out.later hbz, HL'.out.quiet hbz⟩
                          have HMe : Hid (wz.rangeLeft gm r < wr.rangeLeft gm r) := by rw [(HQ'.out.later hbz).left_eq, HM.out]; exact HLt.out
                          clear hbb hbz
                          go_wp2_with fail
                          exact ⟨HEq.out, HMe.out⟩
                    · have hlpI : ¬ (ja.size : Int) < (p.size : Int) := by omega
                      have hnu : ¬ under ja p := fun h => hlp ((under_iff ja p).1 h).1
                      by_cases hpb : p = jb ++ slA
                      · have hpq : (p.toList == (jb ++ slA).toList) = true := by rw [hpb]; exact beq_self_eq_true _
                        have HMe : Hid (w'.rangeLeft gm r < wr.rangeLeft gm r) := by rw [HQ'.out.left_eq, HM.out]; exact HLt.out
                        unfold slA at hpq
                        clear hpb
                        go_wp2_with fail
                        exact ⟨⟨_, _, HQ'.out, HL'.out⟩, HMe.out⟩
                      · have hst := HC2.out hnu hpb
                        have hpq : (p.toList == (jb ++ slA).toList) = false := toList_ne hpb
                        unfold slA at hpq
                        clear hpb
                        obtain ⟨y1, y2, y3, hS⟩ : ∃ y1 y2 y3, statK T' p = (.agg #[.int .i64 (j : Int), .int .i64 y1, .int .i64 y2, .int .i64 y3], 0) := ⟨_, _, _, hst⟩
                        have HSx := Lib.hid (HL'.out.stat2 hS)
                        clear hS hst
                        go_wp2_with fail
                        refine HSx.out.mono ?_
                        rintro e wb ⟨rfl, hbb⟩
                        obtain ⟨wz, hwz⟩ : ∃ wz, wb.alloc (.cells #[.int .i64 (j : Int), .int .i64 y1, .int .i64 y2, .int .i64 y3] 39) = wz := ⟨_, rfl⟩
                        have hbz : Below w'.heap.size w' wz := by rw [← hwz]; exact hbb.alloc hbb.size _
                        have c0 : wz.cell? ⟨wb.heap.size, 0, none⟩ = some (.int .i64 (j : Int)) := by rw [← hwz]; exact (blo_laid wb _ _).cell 0
                        have HEq : Hid (WkD w bt (cnt + 1) gm r k T' f wz) := ⟨_, _, HQ'.out.later hbz, HL'.out.quiet hbz⟩
                        have HMe : Hid (wz.rangeLeft gm r < wr.rangeLeft gm r) := by rw [(HQ'.out.later hbz).left_eq, HM.out]; exact HLt.out
                        clear hbb hbz
                        go_wp2_with fail
                        exact ⟨HEq.out, HMe.out⟩
              · have hzb : (z == 0) = false := beq_eq_false_iff_ne.2 hz
                have hzn : (z != 0) = true := bne_iff_ne.2 hz
                have HEnd := Lib.hid HLc.out.b
                clear hz hlc hoc
                go_wp2_with fail
                go_ret
                exact ⟨rfl, HEnd.out⟩
        · have HB : Hid (¬ (fz = 0 ∧ eo = 0 ∧ ep = 0 ∧ s1 = 2)) := hok
          clear hok
          by_cases k1 : fz = 0
          · subst k1
            by_cases k2 : eo = 0
            · subst k2
              by_cases k3 : ep = 0
              · subst k3
                have k4 : s1 ≠ 2 := fun e => HB.out ⟨rfl, rfl, rfl, e⟩
                have k4b : (s1 == 2) = false := beq_eq_false_iff_ne.2 k4
                have k4n : (s1 != 2) = true := bne_iff_ne.2 k4
                clear k4
                go_wp2_with fail
                go_ret
                exact ⟨rfl, HEnd.out⟩
              · have k3b : (ep == 0) = false := beq_eq_false_iff_ne.2 k3
                have k3n : (ep != 0) = true := bne_iff_ne.2 k3
                clear k3
                go_wp2_with fail
                go_ret
                exact ⟨rfl, HEnd.out⟩
            · have k2b : (eo == 0) = false := beq_eq_false_iff_ne.2 k2
              have k2n : (eo != 0) = true := bne_iff_ne.2 k2
              clear k2
              go_wp2_with fail
              go_ret
              exact ⟨rfl, HEnd.out⟩
          · have k1b : (fz == 0) = false := beq_eq_false_iff_ne.2 k1
            have k1n : (fz != 0) = true := bne_iff_ne.2 k1
            clear k1
            go_wp2_with fail
            go_ret
            exact ⟨rfl, HEnd.out⟩)
set_option maxRecDepth 100000 in
set_option maxHeartbeats 4000000 in
theorem treeDirs_walk (oa : Option Addr) (ol oc : Nat) (F : Nat → OpQ) (old path : ByteArray) (w : World) (hq : QOps w oa ol F) (_ : old.size ≤ maxLen) (_ : path.size ≤ maxLen) :
    Calls Try.prog 7 #[.slice oa ol oc, .string old, .string path] w fun e w' => e = .returned (.bool true) ∧ Below w.heap.size w w' := by
  by_cases h3 : old.size ≤ 300
  · by_cases h4 : path.size ≤ 300
    · exact treeDirs_any oa ol oc F old path w hq h3 h4
    · have h3i : ¬ (300 : Int) < (old.size : Int) := by omega
      have h4i : (300 : Int) < (path.size : Int) := by omega
      clear hq h3 h4
      go_enter Try.func7, Try.ntmps7
      go_wp2_with fail
      refine (awake_any w).mono ?_
      rintro e w1 ⟨rfl, hb1⟩
      have HB1 := Lib.hid hb1
      clear hb1
      go_wp2_with fail
      refine (awake_any w1).mono ?_
      rintro e w2 ⟨rfl, hb2⟩
      have HB2 := Lib.hid (HB1.out.trans (hb2.mono HB1.out.size))
      clear hb2
      go_wp2_with fail
      go_ret
      exact ⟨rfl, HB2.out⟩
  · have h3i : (300 : Int) < (old.size : Int) := by omega
    clear hq h3
    go_enter Try.func7, Try.ntmps7
    go_wp2_with fail
    refine (awake_any w).mono ?_
    rintro e w1 ⟨rfl, hb1⟩
    have HB1 := Lib.hid hb1
    clear hb1
    go_wp2_with fail
    refine (awake_any w1).mono ?_
    rintro e w2 ⟨rfl, hb2⟩
    have HB2 := Lib.hid (HB1.out.trans (hb2.mono HB1.out.size))
    clear hb2
    go_wp2_with fail
    go_ret
    exact ⟨rfl, HB2.out⟩
end Go.Proofs.Ytcjojcihjhhpgaa
