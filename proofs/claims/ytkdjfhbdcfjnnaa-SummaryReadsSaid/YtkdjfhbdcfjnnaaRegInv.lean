/-
  A region that draws its order, by what each of its operations leaves: one proof an operation, whatever the order.
-/
import Derived.StillTail
import Derived.RegionTactic
namespace Go.Proofs.Ytkdjfhbdcfjnnaa

def updV (X : Nat → Value) (i : Nat) (v : Value) : Nat → Value := fun j => if j = i then v else X j
theorem updV_at (X : Nat → Value) (i : Nat) (v : Value) : updV X i v i = v := by unfold updV; rw [if_pos rfl]
theorem updV_ne (X : Nat → Value) (i : Nat) (v : Value) {j : Nat} (h : j ≠ i) : updV X i v j = X j := by unfold updV; rw [if_neg h]
/-- The operations behind number n come one by one; those ahead wait for earlier ones alone. -/
def regInvB (md : Region.Mode) (ops : Array Oper) (n : Nat) : Bool :=
  decide (n ≤ ops.size) && (List.range n).all (fun i => ((ops[i]?).map (·.after.all fun e => !Region.binds md e || decide (e.on < i))).getD false) &&
  (decide (n = ops.size) || (List.range n).all (fun i => Region.waitsFor md ops n i)) && Region.chainB md ops n &&
  Region.seqB md ops (ops.size - n) n (Array.replicate n true ++ Array.replicate (ops.size - n) false)
section
variable {P : Program} {ops : Array Oper} {Q : Exit → Act → World → Prop} {md : Region.Mode}
structure HeadI (ops : Array Oper) (n : Nat) (listed : Array Bool) : Prop where
  size : listed.size = ops.size
  tail : ∀ t, n ≤ t → t < ops.size → listed.getD t true = false
theorem HeadI.set {n i : Nat} {listed : Array Bool} (h : HeadI ops n listed) (hi : i < n) : HeadI ops n (listed.setIfInBounds i true) :=
  ⟨by simp [h.size], fun t ht hts => by rw [getD_set_ne true (by omega)]; exact h.tail t ht hts⟩
theorem HeadI.full {n : Nat} {listed : Array Bool} (h : HeadI ops n listed) (hn : n ≤ ops.size) (hl : ∀ i, i < n → listed.getD i false = true) : listed = Array.replicate n true ++ Array.replicate (ops.size - n) false := by
  refine Array.ext (by simp [h.size]; omega) fun i h1 h2 => ?_
  by_cases hi : i < n
  · have := hl i hi
    rw [Array.getElem_append_left (by simpa using hi), Array.getElem_replicate]
    simpa [h1] using this
  · have := h.tail i (by omega) (by rw [← h.size]; exact h1)
    rw [Array.getElem_append_right (by simpa using hi), Array.getElem_replicate]
    simpa [h1] using this
theorem wpAny_inv {n : Nat} {I : Array Bool → Act → World → Prop} (hB : regInvB md ops n = true)
    (hstep : ∀ (listed : Array Bool) (a : Act) (w : World) (i : Nat) (o : Oper), ops[i]? = some o → i < n → listed.getD i true = false → (∀ e ∈ o.after, Region.binds md e = true → listed.getD e.on false = true) → I listed a w →
      ∀ K : Act → World → Prop, (∀ a' w', I (listed.setIfInBounds i true) a' w' → K a' w') → if Region.wanted o (yielded ops a.tmps) = true then Oper.wp P o a w K Q else K (a.put o.dst undef) w)
    (hend : ∀ (listed : Array Bool) (a : Act) (w : World), (∀ i, i < n → listed.getD i false = true) → I listed a w → wpList P ops Q (ops.toList.drop n) a w) :
    ∀ (f : Nat) (listed : Array Bool) (a : Act) (w : World), (listed.toList.take n).count false = f → HeadI ops n listed → I listed a w → wpAny P md ops Q (f + (ops.size - n)) listed a w := by
  unfold regInvB at hB
  simp only [Bool.and_eq_true, decide_eq_true_eq, Bool.or_eq_true] at hB
  obtain ⟨⟨⟨⟨hn, hlow⟩, hsink⟩, hchain⟩, hseq⟩ := hB
  intro f
  induction f with
  | zero =>
    intro listed a w hc hI h
    have hl : ∀ i, i < n → listed.getD i false = true := fun i hi => by
      have his : i < listed.size := by rw [hI.size]; omega
      cases hv : listed[i] with
      | true => simp [his, hv]
      | false =>
        exfalso
        have : false ∈ listed.toList.take n := by
          rw [List.mem_take_iff_getElem]
          exact ⟨i, by simp; omega, by simpa using hv⟩
        have := List.count_pos_iff.2 this
        omega
    have hcan := hI.full hn hl
    rw [Nat.zero_add]
    have hlen : (ops.toList.drop n).length = ops.size - n := by simp
    have hs2 : Region.seqB md ops (ops.toList.drop n).length n listed = true := by rw [hlen, hcan]; exact hseq
    have := wpAny_of_seq (md := md) (Q' := Q) (P := P) (ops.toList.drop n) n listed a w (fun j => by simp [List.getElem?_drop]) hs2 (hend listed a w hl h)
    rwa [hlen] at this
  | succ f ih =>
    intro listed a w hc hI h
    -- some head is unlisted
    have hex : ∃ i, i < n ∧ listed.getD i true = false ∧ ∀ j, j < i → listed.getD j false = true := by
      have hm : ∃ i, i < n ∧ listed.getD i true = false := by
        have : false ∈ listed.toList.take n := List.count_pos_iff.1 (by omega)
        rw [List.mem_take_iff_getElem] at this
        obtain ⟨i, hi, hv⟩ := this
        have his : i < listed.size := by simp at hi; omega
        refine ⟨i, by simp at hi; omega, ?_⟩
        simp [his]
        simpa using hv
      obtain ⟨i, hi, hv⟩ := hm
      induction i using Nat.strongRecOn with
      | _ i ih2 =>
        by_cases hall : ∀ j, j < i → listed.getD j false = true
        · exact ⟨i, hi, hv, hall⟩
        · obtain ⟨j, hj⟩ := Classical.not_forall.1 hall
          obtain ⟨hji, hjv⟩ := Classical.not_imp.1 hj
          exact ih2 j hji (by omega) (by
            have hjs : j < listed.size := by rw [hI.size]; omega
            simp [hjs] at hjv ⊢
            exact hjv)
    obtain ⟨i0, hi0, hv0, hbef⟩ := hex
    have hready0 : i0 ∈ Region.ready md ops listed := by
      have his : i0 < ops.size := by omega
      have h1 := List.all_eq_true.1 hlow i0 (List.mem_range.2 hi0)
      rw [mem_ready]
      rw [Array.getElem?_eq_getElem his] at h1
      simp only [Option.map_some, Option.getD_some] at h1
      refine ⟨hv0, _, Array.getElem?_eq_getElem his, fun e he hb => ?_⟩
      have h2 := Array.all_eq_true'.1 h1 e he
      simp only [hb, Bool.not_true, Bool.false_or, decide_eq_true_eq] at h2
      exact hbef _ h2
    rw [show f + 1 + (ops.size - n) = (f + (ops.size - n)) + 1 by omega]
    refine ⟨fun h0 => (by rw [h0] at hready0; cases hready0), fun i hi => ?_⟩
    obtain ⟨hiu, oi, hoi, hall⟩ := mem_ready.1 hi
    have his : i < ops.size := (Array.getElem?_eq_some_iff.1 hoi).1
    have hin : i < n := by
      rcases Nat.lt_or_ge i n with h' | h'
      · exact h'
      · exfalso
        by_cases hie : i = n
        · subst hie
          rcases hsink with hs | hs
          · omega
          · have h1 := List.all_eq_true.1 hs i0 (List.mem_range.2 hi0)
            obtain ⟨oj, hoj, e, he, hb, hon⟩ := Region.waitsFor_spec h1
            have : oj = oi := Option.some.inj (hoj.symm.trans hoi)
            subst this
            have h2 := hall e he hb
            rw [hon, getD_both hv0] at h2
            cases h2
        · have h1 := List.all_eq_true.1 hchain i (List.mem_range.2 his)
          simp only [Bool.or_eq_true, decide_eq_true_eq] at h1
          rcases h1 with h1 | h1
          · omega
          · obtain ⟨oj, hoj, e, he, hb, hon⟩ := Region.waitsFor_spec h1
            have : oj = oi := Option.some.inj (hoj.symm.trans hoi)
            subst this
            have h2 := hall e he hb
            rw [hon, getD_both (hI.tail (i - 1) (by omega) (by omega))] at h2
            cases h2
    refine wpOp_step hoi fun K' hK => ?_
    refine hstep listed a w i oi hoi hin hiu hall h K' fun a' w' hI' => hK a' w' (ih _ a' w' ?_ (hI.set hin) hI')
    have hil : i < listed.toList.length := by simp; rw [hI.size]; exact his
    have hiv : listed.toList[i] = false := by
      have := hiu
      simp at hil
      simp [hil] at this
      simpa using this
    have hlt2 : i < (List.take n listed.toList).length := by rw [List.length_take]; omega
    rw [Array.toList_setIfInBounds, List.take_set, List.count_set hlt2]
    have hgt : (List.take n listed.toList)[i]'hlt2 = false := by rw [List.getElem_take]; exact hiv
    simp [hgt, hc]
/-- The slots of the first operations, written one after another. -/
def putL : List (Nat × Nat) → (Nat → Value) → Act → Act
  | [], _, a => a
  | (i, d) :: l, X, a => putL l X (a.put (some d) (X i))
theorem put_comm (a : Act) {d d' : Nat} (h : d ≠ d') (u v : Value) : (a.put (some d) u).put (some d') v = (a.put (some d') v).put (some d) u := by
  simp only [Act.put]
  rw [Array.setIfInBounds_comm _ _ h]
theorem put_put (a : Act) (d : Nat) (u v : Value) : (a.put (some d) u).put (some d) v = a.put (some d) v := by
  simp [Act.put]
theorem put_putL : ∀ (l : List (Nat × Nat)) (X : Nat → Value) (a : Act) (d : Nat) (v : Value), (∀ x ∈ l, x.2 ≠ d) → (putL l X a).put (some d) v = putL l X (a.put (some d) v)
  | [], _, _, _, _, _ => rfl
  | (i, e) :: l, X, a, d, v, h => by
    rw [putL, put_putL l X _ d v (fun x hx => h x (List.mem_cons_of_mem _ hx)), put_comm a (h (i, e) List.mem_cons_self), putL]
theorem putL_upd : ∀ (l : List (Nat × Nat)) (X : Nat → Value) (a : Act) (i : Nat) (v : Value), (∀ x ∈ l, x.1 ≠ i) → putL l (updV X i v) a = putL l X a
  | [], _, _, _, _, _ => rfl
  | (j, e) :: l, X, a, i, v, h => by
    rw [putL, putL, updV_ne X i v (h (j, e) List.mem_cons_self), putL_upd l X _ i v (fun x hx => h x (List.mem_cons_of_mem _ hx))]
theorem putL_put : ∀ (l : List (Nat × Nat)) (X : Nat → Value) (a : Act) (i d : Nat) (v : Value), (l.map (·.1)).Nodup → (l.map (·.2)).Nodup → (i, d) ∈ l → (putL l X a).put (some d) v = putL l (updV X i v) a
  | [], _, _, _, _, _, _, _, h => by cases h
  | (j, e) :: l, X, a, i, d, v, h1, h2, hm => by
    rw [List.map_cons, List.nodup_cons] at h1 h2
    rcases List.mem_cons.1 hm with h | h
    · cases h
      rw [putL, putL, updV_at, putL_upd l X _ _ v (fun x hx e => h1.1 (List.mem_map.2 ⟨x, hx, e⟩)), put_putL l X _ _ v (fun x hx e => h2.1 (List.mem_map.2 ⟨x, hx, e⟩)), put_put]
    · have hji : j ≠ i := fun e => h1.1 (by rw [e]; exact List.mem_map_of_mem (f := (·.1)) h)
      rw [putL, putL, updV_ne X i v hji, putL_put l X _ i d v h1.2 h2.2 h]
theorem putL_own (a : Act) (g : Nat → Nat) : ∀ (l : List (Nat × Nat)), (∀ x ∈ l, g x.1 = x.2) → putL l (fun i => (a.tmps[g i]?).getD undef) a = a
  | [], _ => rfl
  | (i, d) :: l, h => by
    have e : a.put (some d) ((a.tmps[g i]?).getD undef) = a := by
      rw [h (i, d) List.mem_cons_self]
      simp only [Act.put]
      rcases Nat.lt_or_ge d a.tmps.size with hd | hd
      · have : a.tmps.setIfInBounds d ((a.tmps[d]?).getD undef) = a.tmps := by
          rw [Array.setIfInBounds, dif_pos hd, Array.getElem?_eq_getElem hd, Option.getD_some]
          exact Array.set_getElem_self hd
        rw [this]
      · have : a.tmps.setIfInBounds d ((a.tmps[d]?).getD undef) = a.tmps := by rw [Array.setIfInBounds, dif_neg (by omega)]
        rw [this]
    rw [putL, e, putL_own a g l (fun x hx => h x (List.mem_cons_of_mem _ hx))]
def nodupB : List Nat → Bool
  | [] => true
  | x :: l => !l.contains x && nodupB l
theorem nodup_of : ∀ {l : List Nat}, nodupB l = true → l.Nodup
  | [], _ => List.nodup_nil
  | x :: l, h => by
    simp only [nodupB, Bool.and_eq_true, Bool.not_eq_true', List.contains_eq_mem, decide_eq_false_iff_not] at h
    exact List.nodup_cons.2 ⟨h.1, nodup_of h.2⟩
def dstsB (ops : Array Oper) (n : Nat) (l : List (Nat × Nat)) : Bool :=
  nodupB (l.map (·.1)) && nodupB (l.map (·.2)) && (List.range n).all (fun i => match (ops[i]?).bind (·.dst) with | some d => l.contains (i, d) | none => true) &&
  l.all (fun x => (ops[x.1]?).bind (·.dst) == some x.2)
def updD (D : Nat → Bool) (i : Nat) : Nat → Bool := fun j => if j = i then true else D j
theorem updD_at (D : Nat → Bool) (i : Nat) : updD D i i = true := by unfold updD; rw [if_pos rfl]
theorem updD_ne (D : Nat → Bool) (i : Nat) {j : Nat} (h : j ≠ i) : updD D i j = D j := by unfold updD; rw [if_neg h]
/-- Each operation's own proof. -/
def StepsI (P : Program) (ops : Array Oper) (Q : Exit → Act → World → Prop) (F : (Nat → Value) → Act) (I : (Nat → Bool) → (Nat → Value) → World → Prop) : Nat → List Oper → Prop
  | _, [] => True
  | k, o :: r => (∀ (D : Nat → Bool) (X : Nat → Value) (W : World), D k = false → (∀ e ∈ o.after, Region.binds .any e = true → D e.on = true) → I D X W →
      ∀ K : Act → World → Prop, (∀ v W', I (updD D k) (updV X k v) W' → K ((F X).put o.dst v) W') → if Region.wanted o (yielded ops (F X).tmps) = true then Oper.wp P o (F X) W K Q else K ((F X).put o.dst undef) W) ∧ StepsI P ops Q F I (k + 1) r
theorem StepsI.at_ {F : (Nat → Value) → Act} {I : (Nat → Bool) → (Nat → Value) → World → Prop} : ∀ {l : List Oper} {k : Nat}, StepsI P ops Q F I k l → ∀ (i : Nat) (o : Oper), l[i]? = some o →
    ∀ (D : Nat → Bool) (X : Nat → Value) (W : World), D (k + i) = false → (∀ e ∈ o.after, Region.binds .any e = true → D e.on = true) → I D X W →
      ∀ K : Act → World → Prop, (∀ v W', I (updD D (k + i)) (updV X (k + i) v) W' → K ((F X).put o.dst v) W') → if Region.wanted o (yielded ops (F X).tmps) = true then Oper.wp P o (F X) W K Q else K ((F X).put o.dst undef) W
  | [], _, _, i, o, ho => by simp at ho
  | o' :: l, k, h, 0, o, ho => by
    have : o' = o := by simpa using ho
    subst this
    exact h.1
  | o' :: l, k, h, i + 1, o, ho => by
    have := StepsI.at_ h.2 i o (by simpa using ho)
    rw [show k + 1 + i = k + (i + 1) by omega] at this
    exact this
/-- The law: what holds between the operations (D: which have been carried out; X: what their slots hold). -/
theorem wp_region_inv {id n : Nat} {a : Act} {w : World} (l : List (Nat × Nat)) (I : (Nat → Bool) → (Nat → Value) → World → Prop) (hm : P.follows .mixedOrders = true) (hB : regInvB .any ops n = true) (hl : dstsB ops n l = true)
    {F : (Nat → Value) → Act} (hF : ∀ X, putL l X a = F X) (h0 : ∀ X, I (fun _ => false) X w.drew) (hs : StepsI P ops Q F I 0 (ops.toList.take n))
    (ht : ∀ D X W, (∀ i, i < n → D i = true) → I D X W → wpList P ops Q (ops.toList.drop n) (F X) W) : (Code.region id ops true).wp P Q a w := by
  refine wp_region_any hm ?_
  have hB' := hB
  unfold regInvB at hB'
  simp only [Bool.and_eq_true, decide_eq_true_eq, Bool.or_eq_true] at hB'
  obtain ⟨⟨⟨⟨hn, hlow⟩, _⟩, _⟩, _⟩ := hB'
  unfold dstsB at hl
  simp only [Bool.and_eq_true] at hl
  obtain ⟨⟨⟨hl1, hl2⟩, hl3⟩, hl4⟩ := hl
  have hput : ∀ (X : Nat → Value) (i : Nat) (o : Oper), ops[i]? = some o → i < n → ∀ v, (F X).put o.dst v = F (updV X i v) := by
    intro X i o ho hi v
    have h1 := List.all_eq_true.1 hl3 i (List.mem_range.2 hi)
    rw [← hF, ← hF]
    cases hd : o.dst with
    | none =>
      show putL l X a = _
      refine (putL_upd l X a i v (fun x hx e => ?_)).symm
      have h2 := List.all_eq_true.1 hl4 x hx
      rw [e, ho] at h2
      simp [hd] at h2
    | some d =>
      rw [ho] at h1
      simp only [Option.bind_some, hd] at h1
      exact putL_put l X a i d v (nodup_of hl1) (nodup_of hl2) (by simpa using h1)
  have hown := putL_own a (fun i => ((ops[i]?).bind (·.dst)).getD 0) l (fun x hx => by
    have h2 := List.all_eq_true.1 hl4 x hx
    have h3 : (ops[x.1]?).bind (·.dst) = some x.2 := by simpa using h2
    rw [h3]; rfl)
  rw [hF] at hown
  have := wpAny_inv (P := P) (Q := Q) (md := .any) (ops := ops) (n := n) (I := fun listed b W => ∃ X D, b = F X ∧ I D X W ∧ ∀ i, i < n → D i = listed.getD i false) hB
    (fun listed b W i o ho hi hu hdeps hI K hK => by
      obtain ⟨X, D, rfl, hI, hD⟩ := hI
      have hi0 : (ops.toList.take n)[i]? = some o := by rw [List.getElem?_take_of_lt hi]; simpa using ho
      have key := StepsI.at_ hs i o hi0 D X W
      rw [Nat.zero_add] at key
      refine key (by rw [hD i hi]; exact getD_both hu) (fun e he hb => ?_) hI K (fun v W' hI' => hK _ _ ⟨updV X i v, updD D i, hput X i o ho hi v, hI', fun j hj => ?_⟩)
      · have h1 := List.all_eq_true.1 hlow i (List.mem_range.2 hi)
        rw [ho] at h1
        simp only [Option.map_some, Option.getD_some] at h1
        have h2 := Array.all_eq_true'.1 h1 e he
        simp only [hb, Bool.not_true, Bool.false_or, decide_eq_true_eq] at h2
        rw [hD e.on (by omega)]
        exact hdeps e he hb
      · by_cases hji : j = i
        · subst hji
          rw [updD_at]
          rcases Nat.lt_or_ge j listed.size with h' | h'
          · simp [h']
          · rw [Array.getD_eq_getD_getElem?, Array.getElem?_eq_none h'] at hu; cases hu
        · rw [updD_ne _ _ hji, getD_set_ne false (Ne.symm hji)]
          exact hD j hj)
    (fun listed b W hll hI => by
      obtain ⟨X, D, rfl, hI, hD⟩ := hI
      exact ht D X W (fun i hi => by rw [hD i hi]; exact hll i hi) hI)
    n (Array.replicate ops.size false) a { w with drawn := w.drawn + 1 }
    (by rw [Array.toList_replicate, List.take_replicate, List.count_replicate]; simp; omega)
    ⟨by simp, fun t ht hts => by simp [hts]⟩
    ⟨_, fun _ => false, hown.symm, h0 _, fun i hi => (getD_replicate_false _ _).symm⟩
  rwa [show n + (ops.size - n) = ops.size by omega] at this
end
end Go.Proofs.Ytkdjfhbdcfjnnaa
