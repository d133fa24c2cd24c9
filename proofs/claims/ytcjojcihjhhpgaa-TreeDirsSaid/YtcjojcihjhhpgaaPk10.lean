/-
  TrCount · TrTell · TrTree · TrKeep · TrTold · TrWq · TrWp: these texts in one.
-/
import Derived.Test.YtcjojcihjhhpgaaPk09
import Derived.Test.YtcjojcihjhhpgaaPk01
/-
  A tree in numbers: an inode has as many names as it says.
-/
namespace Go.Proofs.Ytcjojcihjhhpgaa
open Go.RowKit

/-- The names of inode i are z. -/
def TrCi (T : Tr) (i : Nat) (z : Int) : Prop := ∃ L : List (Nat × ByteArray), L.Nodup ∧ (∀ d s, (d, s) ∈ L ↔ T.E d s = some i) ∧ (L.length : Int) = z
def TrC (T : Tr) : Prop := ∀ i, T.live i → i ≠ 2 → TrCi T i (T.Lk i)
theorem Tr.ent_at (T : Tr) (d : Nat) (s : ByteArray) (v : Option Nat) : (T.ent d s v).E d s = v := by
  show updN T.E d (updS (T.E d) s v) d s = v
  rw [updN_at, updS_at]
theorem Tr.ent_ne {T : Tr} {d d' : Nat} {s s' : ByteArray} (v : Option Nat) (h : ¬ (d' = d ∧ s' = s)) : (T.ent d s v).E d' s' = T.E d' s' := by
  show updN T.E d (updS (T.E d) s v) d' s' = _
  by_cases e : d' = d
  · subst e
    rw [updN_at, updS_ne _ _ (fun q => h ⟨rfl, q⟩)]
  · rw [updN_ne _ _ e]
section
variable {T T' : Tr} {i j d : Nat} {s : ByteArray} {z : Int}
theorem TrCi.same (h : TrCi T j z) (he : ∀ d s, T'.E d s = some j ↔ T.E d s = some j) : TrCi T' j z := by
  obtain ⟨L, h1, h2, h3⟩ := h
  exact ⟨L, h1, fun d s => (h2 d s).trans (he d s).symm, h3⟩
theorem TrCi.put (h : TrCi T i z) (he : T.E d s = none) : TrCi (T.ent d s (some i)) i (z + 1) := by
  obtain ⟨L, h1, h2, h3⟩ := h
  refine ⟨(d, s) :: L, List.nodup_cons.2 ⟨fun q => ?_, h1⟩, fun d' s' => ?_, by rw [List.length_cons]; omega⟩
  · have := (h2 d s).1 q
    rw [he] at this
    cases this
  · rw [List.mem_cons]
    by_cases e : d' = d ∧ s' = s
    · obtain ⟨rfl, rfl⟩ := e
      rw [Tr.ent_at]
      exact ⟨fun _ => rfl, fun _ => .inl rfl⟩
    · rw [Tr.ent_ne _ e, ← h2]
      exact ⟨fun q => q.elim (fun q => absurd ⟨congrArg Prod.fst q, congrArg Prod.snd q⟩ e) id, .inr⟩
theorem TrCi.other (h : TrCi T j z) (he : T.E d s ≠ some j) {v : Option Nat} (hv : v ≠ some j) : TrCi (T.ent d s v) j z := h.same fun d' s' => by
  by_cases e : d' = d ∧ s' = s
  · obtain ⟨rfl, rfl⟩ := e
    rw [Tr.ent_at]
    exact ⟨fun q => absurd q hv, fun q => absurd q he⟩
  · rw [Tr.ent_ne _ e]
theorem TrCi.cut (h : TrCi T i z) (he : T.E d s = some i) : TrCi (T.ent d s none) i (z - 1) := by
  obtain ⟨L, h1, h2, h3⟩ := h
  have hm := (h2 d s).2 he
  obtain ⟨A, B, rfl⟩ := List.append_of_mem hm
  rw [List.nodup_append, List.nodup_cons] at h1
  obtain ⟨a1, ⟨a2, a3⟩, a4⟩ := h1
  refine ⟨A ++ B, List.nodup_append.2 ⟨a1, a3, fun x hx y hy => a4 x hx y (List.mem_cons_of_mem _ hy)⟩, fun d' s' => ?_, by rw [List.length_append, List.length_cons] at h3; rw [List.length_append]; omega⟩
  by_cases e : d' = d ∧ s' = s
  · obtain ⟨rfl, rfl⟩ := e
    rw [Tr.ent_at]
    refine ⟨fun q => ?_, fun q => by cases q⟩
    rcases List.mem_append.1 q with q | q
    · exact absurd rfl (a4 _ q _ (List.mem_cons_self))
    · exact absurd q a2
  · rw [Tr.ent_ne _ e, ← h2, List.mem_append, List.mem_append, List.mem_cons]
    exact ⟨fun q => q.imp id .inr, fun q => q.imp id (fun q => q.elim (fun q => absurd ⟨congrArg Prod.fst q, congrArg Prod.snd q⟩ e) id)⟩
theorem TrCi.uniq (h : TrCi T i 1) {d' : Nat} {s' : ByteArray} (h1 : T.E d s = some i) (h2 : T.E d' s' = some i) : d' = d ∧ s' = s := by
  obtain ⟨L, -, q2, q3⟩ := h
  have a1 := (q2 d s).2 h1
  have a2 := (q2 d' s').2 h2
  match L, q3 with
  | [x], _ =>
    have b1 := List.mem_singleton.1 a1
    have b2 := List.mem_singleton.1 a2
    have := b2.trans b1.symm
    exact ⟨congrArg Prod.fst this, congrArg Prod.snd this⟩
theorem TrC.unq (h : TrC T) (hw : TrW T) : TrU T := fun i hi d s h1 d' s' h2 => by
  obtain ⟨-, hl, hn⟩ := hw.ent d s i h1
  have := h i hl hn
  rw [hi] at this
  exact this.uniq h1 h2
theorem TrC.dat (h : TrC T) (l : List Nat) : TrC (T.dat i l) := fun j hj hn => (h j hj hn).same fun _ _ => Iff.rfl
theorem TrC.enter (h : TrC T) (hw : TrW T) (hi : T.K i = 0) {k : Int} (he : T.E d s = none) (hd : d ≠ i) : TrC ((T.add i k).ent d s (some i)) := by
  have hEi : ∀ t, T.E i t = none := fun t => by
    cases q : T.E i t with
    | none => rfl
    | some j =>
      have := (hw.ent i t j q).1
      rw [hi] at this
      exact absurd this (by decide)
  have hAdd : ∀ d' s', (T.add i k).E d' s' = T.E d' s' := fun d' s' => by
    show updN T.E i (fun _ => none) d' s' = _
    by_cases e : d' = i
    · subst e; rw [updN_at, hEi]
    · rw [updN_ne _ _ e]
  have hno : ∀ d' s', T.E d' s' ≠ some i := fun d' s' q => (hw.ent d' s' i q).2.1 hi
  intro j hj hn
  by_cases e : j = i
  · subst e
    have h0 : TrCi (T.add j k) j 0 := ⟨[], List.nodup_nil, fun d' s' => by rw [hAdd]; exact ⟨fun q => (by cases q), fun q => absurd q (hno d' s')⟩, rfl⟩
    have hz : ((T.add j k).ent d s (some j)).Lk j = 1 := updN_at _ _ _
    rw [hz]
    exact h0.put (by rw [hAdd]; exact he)
  · have hj2 : T.live j := by
      have hj : updN T.K i k j ≠ 0 := hj
      rwa [updN_ne _ _ e] at hj
    have hz : ((T.add i k).ent d s (some i)).Lk j = T.Lk j := updN_ne _ _ e
    rw [hz]
    refine TrCi.other (((h j hj2 hn)).same fun d' s' => by rw [hAdd]) (by rw [hAdd, he]; exact fun q => by cases q) (fun q => e (Option.some.inj q).symm)
theorem TrC.link (h : TrC T) (he : T.E d s = none) : TrC ((T.ent d s (some i)).lks i (T.Lk i + 1)) := by
  intro j hj hn
  have hj : T.live j := hj
  by_cases e : j = i
  · subst e
    have hz : ((T.ent d s (some j)).lks j (T.Lk j + 1)).Lk j = T.Lk j + 1 := updN_at _ _ _
    rw [hz]
    exact ((h j hj hn).put he).same fun _ _ => Iff.rfl
  · have hz : ((T.ent d s (some i)).lks i (T.Lk i + 1)).Lk j = T.Lk j := updN_ne _ _ e
    rw [hz]
    exact (((h j hj hn).other (by rw [he]; exact fun q => by cases q) (v := some i) (fun q => e (Option.some.inj q).symm))).same fun _ _ => Iff.rfl
theorem TrC.drop (h : TrC T) (hw : TrW T) (he : T.E d s = some i) (hb : T.bare i) : TrC (dropK T d s i) := by
  have hl := (hw.ent d s i he).2
  intro j hj hn
  unfold dropK cutN at hj ⊢
  have hci := (h i hl.1 hl.2).cut he
  split
  · rename_i h1
    rw [if_pos h1] at hj
    have hji : j ≠ i := fun e => by
      subst e
      have hj : updN (T.ent d s none).K j 0 j ≠ 0 := hj
      rw [updN_at] at hj
      exact hj rfl
    have hj2 : T.live j := by
      have hj : updN T.K i 0 j ≠ 0 := hj
      rwa [updN_ne _ _ hji] at hj
    have hz : ((T.ent d s none).rem i).Lk j = T.Lk j := rfl
    rw [hz]
    refine ((h j hj2 hn).other (by rw [he]; exact fun q => hji (Option.some.inj q).symm) (v := none) (fun q => by cases q)).same fun d' s' => ?_
    show updN (T.ent d s none).E i (fun _ => none) d' s' = some j ↔ _
    by_cases e : d' = i
    · subst e
      rw [updN_at]
      refine ⟨fun q => (by cases q), fun q => ?_⟩
      by_cases e2 : d' = d ∧ s' = s
      · obtain ⟨rfl, rfl⟩ := e2
        rw [Tr.ent_at] at q
        cases q
      · rw [Tr.ent_ne _ e2, hb] at q
        cases q
    · rw [updN_ne _ _ e]
  · rename_i h1
    rw [if_neg h1] at hj
    have hj2 : T.live j := hj
    by_cases e : j = i
    · subst e
      have hz : ((T.ent d s none).lks j ((T.ent d s none).Lk j - 1)).Lk j = T.Lk j - 1 := updN_at _ _ _
      rw [hz]
      exact hci.same fun _ _ => Iff.rfl
    · have hz : ((T.ent d s none).lks i ((T.ent d s none).Lk i - 1)).Lk j = T.Lk j := updN_ne _ _ e
      rw [hz]
      exact ((h j hj2 hn).other (by rw [he]; exact fun q => e (Option.some.inj q).symm) (v := none) (fun q => by cases q)).same fun _ _ => Iff.rfl
end
end Go.Proofs.Ytcjojcihjhhpgaa
/-
  The closure of Walk: a text more in a box's slice.
-/
namespace Go.Proofs.Ytcjojcihjhhpgaa
open Go.RowKit

abbrev SST := 28
theorem info_stt : (Try.prog.info? STT).map (fun i => (i.zero, i.size, i.bytes)) = some (some (.string ByteArray.empty), 1, 16) := by kernel_rfl
theorem wp_append_rowB {P : Program} {w : World} {ops : Array Oper} {rest : List Oper} {o : Oper} {act : Act} {Q : Exit → Act → World → Prop} (hgd : o.guard = none) (s x : Operand) (t : TypeId)
    (ho : o.op = .call { callee := .builtin .append, args := #[s, x], argTypes := #[t, t] })
    (base : Nat) (e : TypeId) (z : Value) (size bytes : Nat) (ht : P.underlying t = some (.slice e)) (hi : (P.info? e).map (fun i => (i.zero, i.size, i.bytes)) = some (some z, size, bytes)) (hzs : z.cells.size = size) (hsz : 0 < size) (hby : bytes ≤ 1000)
    (v : Value) (n : Nat) (xs : List Value) (hs : act.eval s = v) (hown : w.ownsRow base e size v n xs)
    (ad : Addr) (m c : Nat) (ys : List Value) (hx : act.eval x = .slice (some ad) m c) (hl : ys.length = m * size) (hy : ∀ j u, ys[j]? = some u → w.cell? (ad.add j) = some u) (h1 : ∀ u ∈ ys, u.oneCell' = true)
    (hroom : n + m ≤ 1000000) (hbase : base ≤ w.heap.size)
    (h : ∀ a' cap' w', w'.ownsRow base e size (.slice a' (n + m) cap') (n + m) (xs ++ ys) → w.grownBy w' v.ownBlock → (Value.ownBlock (.slice a' (n + m) cap') = v.ownBlock ∨ Value.ownBlock (.slice a' (n + m) cap') = some w.heap.size) → wpList P ops Q rest (act.put o.dst (.slice a' (n + m) cap')) w') : wpList P ops Q (o :: rest) act w := by
  obtain ⟨i, hi0, hz, hs1, hb1⟩ := info_parts hi
  refine wpList_plain hgd fun K hK => ?_
  obtain ⟨v', w', hrun, h2, h3, _, h5⟩ := run_append_own_at (P := P) w base t o.type e i z size bytes ht hi0 hz hs1 hb1 hzs hsz v n xs hown ad m c ys hl hy h1 (by unfold maxLen; omega) (Nat.le_trans (Nat.mul_le_mul hroom hby) (by decide)) hbase
  obtain ⟨a', cap', rfl, _⟩ := own_slice h2
  unfold Oper.wp
  simp [execOp, ho, resolve, invoke, builtin, hs, hx, hrun, Result.andThen]
  exact hK _ _ (h a' cap' w' h2 h3 h5)
/-- A box that holds a slice of texts, in a row of its own. -/
structure WB (w : World) (g : Nat) (A : List ByteArray) (v : Value) : Prop where
  box : Blo w g SST #[v]
  own : w.ownsRow 0 STT 1 v A.length (A.map .string)
def TeO (w : World) (g : Nat) (A : List ByteArray) (v : Value) (e : Ending) (w' : World) : Prop :=
  e = .returned (.tuple #[]) ∧ ∃ v', WB w' g A v' ∧ Out (fun k => k = g ∨ v.ownBlock = some k) w w' ∧ ∀ k, v'.ownBlock = some k → v.ownBlock = some k ∨ w.heap.size ≤ k
section
variable {w w' : World} {g : Nat} {A : List ByteArray} {v : Value}
theorem WB.out {X : Nat → Prop} (h : WB w g A v) (ho : Out X w w') (hx : ¬ X g) (hv : ∀ k, v.ownBlock = some k → ¬ X k) : WB w' g A v := by
  refine ⟨ho.blo h.box hx, h.own.1, ?_⟩
  rcases h.own.2 with q | ⟨k, c, cur, q, q2, q3, q4⟩
  · exact .inl q
  · exact .inr ⟨k, c, cur, q, q2, ho.blo q3 (hv k (by rw [q]; rfl)), q4⟩
set_option maxRecDepth 100000 in
set_option maxHeartbeats 1000000 in
theorem tell_any (h : WB w g A v) (s : ByteArray) (hA : A.length < 100000) : Calls Try.prog 32 #[.string s, .pointer (some ⟨g, 0, none⟩)] w (TeO w g (A ++ [s]) v) := by
  obtain ⟨a, c, rfl, -⟩ := own_slice h.own
  have c0 : w.cell? ⟨g, 0, none⟩ = some (.slice a A.length c) := h.box.cell 0
  obtain ⟨w1, hw1⟩ : ∃ w1, w.alloc (.cells #[.string s] STT) = w1 := ⟨_, rfl⟩
  have hb1 : Below w.heap.size w w1 := by rw [← hw1]; exact sup_pct w _
  have HB1 := Lib.hid hb1
  have HX1 : Hid (Blo w1 w.heap.size STT #[.string s]) := by rw [← hw1]; exact blo_laid w _ _
  have hap : some g ≠ Value.ownBlock (.slice a A.length c) := h.box.row_apart h.own (by decide)
  have HW := Lib.hid (h.out (Out.of_below (X := fun _ => False) hb1) (fun e => e) (fun _ _ e => e))
  have HAp := Lib.hid hap
  have HL : Hid (A.length < 100000) := hA
  clear h hap hA hb1
  go_enter Try.func32, Try.ntmps32
  go_wp2_with (at_builtin; refine wp_append_rowB rfl (.tmp 3) (.tmp 5) SST rfl 0 STT (.string ByteArray.empty) 1 16 Try.underlying28 info_stt rfl (by decide) (by decide) (.slice a A.length c) A.length (A.map .string) rfl HW.out.own ⟨w.heap.size, 0, none⟩ 1 1 [.string s] rfl rfl (fun j u hj => by rw [Addr.add_lit, Nat.zero_add, HX1.out.cell]; simpa using hj) (fun u hu => by simp at hu; subst hu; rfl) (by have := HL.out; omega) (Nat.zero_le _) ?_; intro a5 c5 w2 ho5 hg5 hk5; have HO5 := Lib.hid ho5; have HG5 := Lib.hid hg5; have HK5 := Lib.hid hk5; have hX := HW.out.box.grown hg5 HAp.out; have d0 := hX.cell 0; have f0 := hX.frozen 0; have HX5 := Lib.hid hX; clear ho5 hg5 hk5 hX)
  go_end0
  have hap5 : some g ≠ Value.ownBlock (.slice a5 (A.length + 1) c5) := HX5.out.row_apart HO5.out (by decide)
  refine ⟨rfl, .slice a5 (A.length + 1) c5, ⟨HX5.out.put 0 _, ?_⟩, ?_, fun k hk => ?_⟩
  · have := ownsRow_setCell_other HO5.out (a := ⟨g, 0, none⟩) (fun e => hap5 e.symm) (.slice a5 (A.length + 1) c5)
    rw [List.length_append, List.map_append]
    exact this
  · have o1 : Out (fun k => k = g ∨ Value.ownBlock (.slice a A.length c) = some k) w w1 := Out.of_below HB1.out
    have o2 : Out (fun k => k = g ∨ Value.ownBlock (.slice a A.length c) = some k) w1 w2 := Out.of_grown HG5.out (fun k e => .inr e)
    exact (o1.trans o2 (fun _ _ e => e)).trans (out_put (X := fun k => k = g ∨ Value.ownBlock (.slice a A.length c) = some k) w2 ⟨g, 0, none⟩ _ (.inl rfl)) (fun _ _ e => e)
  · rcases HK5.out with e | e
    · exact .inl (e ▸ hk)
    · rw [e] at hk
      cases hk
      exact .inr HB1.out.size
end
end Go.Proofs.Ytcjojcihjhhpgaa
/-
  A tree in numbers is a tree: its directories have one name each, and none lies below itself; its names are names.
-/
namespace Go.Proofs.Ytcjojcihjhhpgaa
open Go.RowKit

structure TrT (T : Tr) : Prop where
  wf : TrW T
  cnt : TrC T
  one : ∀ i, T.K i = 2 → i ≠ 2 → T.Lk i = 1
  rank : ∃ r : Nat → Nat, ∀ d s j, T.E d s = some j → T.K j = 2 → r j < r d
  nm : ∀ d s j, T.E d s = some j → nmE s = 0
section
variable {T : Tr} {i d : Nat} {s : ByteArray}
theorem tree0_tree {n : Nat} (h1 : 4 ≤ n) (h2 : n ≤ 200) : TrT (tree0 n) :=
  ⟨tree0_wf h1 h2, fun i hi hn => absurd (tree0_live hi) hn, fun i hk hn => absurd (tree0_live (by unfold Tr.live; rw [hk]; decide)) hn, ⟨fun _ => 0, fun d s j h => by cases h⟩, fun d s j h => by cases h⟩
theorem TrT.dat (h : TrT T) {l : List Nat} (hl : l.length ≤ 38400) (hb : ∀ y ∈ l, y < 256) : TrT (T.dat i l) :=
  ⟨Tr.dat_wf h.wf hl hb, h.cnt.dat l, h.one, h.rank, h.nm⟩
theorem ent_cases {d' : Nat} {s' : ByteArray} {v : Option Nat} {j : Nat} (h : (T.ent d s v).E d' s' = some j) : (d' = d ∧ s' = s ∧ v = some j) ∨ T.E d' s' = some j := by
  by_cases e : d' = d ∧ s' = s
  · obtain ⟨rfl, rfl⟩ := e
    rw [Tr.ent_at] at h
    exact .inl ⟨rfl, rfl, h⟩
  · rw [Tr.ent_ne _ e] at h
    exact .inr h
theorem add_ent {k : Int} {d' : Nat} {s' : ByteArray} {j : Nat} (h : (T.add i k).E d' s' = some j) : d' ≠ i ∧ T.E d' s' = some j := by
  have h : updN T.E i (fun _ => none) d' s' = some j := h
  by_cases e : d' = i
  · subst e; rw [updN_at] at h; cases h
  · rw [updN_ne _ _ e] at h; exact ⟨e, h⟩
theorem TrT.enter (h : TrT T) {k : Int} (hi : T.K i = 0) (h2 : 2 ≤ i) (hn : i ≤ T.n) (hk : k = 1 ∨ k = 2) (hd : T.K d = 2) (he : T.E d s = none) (hs : nmE s = 0) : TrT ((T.add i k).ent d s (some i)) := by
  have hdi : d ≠ i := fun e => by rw [e, hi] at hd; exact absurd hd (by decide)
  have hi2 : i ≠ 2 := fun e => by rw [e, h.wf.root] at hi; exact absurd hi (by decide)
  have hKi : (T.add i k).K i = k := updN_at _ _ _
  have hKj : ∀ j, j ≠ i → (T.add i k).K j = T.K j := fun j e => updN_ne _ _ e
  obtain ⟨r, hr⟩ := h.rank
  refine ⟨Tr.ent_wf (Tr.add_wf h.wf hi h2 hn hk) (by rw [hKj d hdi]; exact hd) (fun j e => by cases e; exact ⟨by unfold Tr.live; rw [hKi]; rcases hk with rfl | rfl <;> decide, hi2⟩), h.cnt.enter h.wf hi he hdi, fun j hj hn => ?_, ⟨fun x => if x = i then 0 else r x + 1, fun d' s' j q hj => ?_⟩, fun d' s' j q => ?_⟩
  · have hj : (T.add i k).K j = 2 := hj
    by_cases e : j = i
    · subst e; exact updN_at _ _ _
    · rw [hKj j e] at hj
      show updN T.Lk i 1 j = 1
      rw [updN_ne _ _ e]
      exact h.one j hj hn
  · have hj : (T.add i k).K j = 2 := hj
    rcases ent_cases q with ⟨rfl, rfl, q2⟩ | q2
    · cases q2
      show (if i = i then 0 else _) < (if d' = i then 0 else _)
      rw [if_pos rfl, if_neg hdi]
      omega
    · obtain ⟨e1, q3⟩ := add_ent q2
      have e2 : j ≠ i := fun e => (h.wf.ent _ _ _ q3).2.1 (by rw [e]; exact hi)
      rw [hKj j e2] at hj
      show (if j = i then 0 else _) < (if d' = i then 0 else _)
      rw [if_neg e2, if_neg e1]
      have := hr d' s' j q3 hj
      omega
  · rcases ent_cases q with ⟨-, rfl, -⟩ | q2
    · exact hs
    · exact h.nm _ _ _ (add_ent q2).2
theorem TrT.link (h : TrT T) (hk : T.K i = 1) (hl : T.Lk i ≠ 100) (hd : T.K d = 2) (he : T.E d s = none) (hs : nmE s = 0) : TrT ((T.ent d s (some i)).lks i (T.Lk i + 1)) := by
  have hil : T.live i := by unfold Tr.live; omega
  have hi2 : i ≠ 2 := fun e => by rw [e, h.wf.root] at hk; exact absurd hk (by decide)
  have hw := Tr.ent_wf h.wf hd (s := s) (v := some i) (fun j e => by cases e; exact ⟨hil, hi2⟩)
  have hlk := h.wf.lk i hil
  obtain ⟨r, hr⟩ := h.rank
  refine ⟨⟨hw.n4, hw.n2, hw.root, hw.kind, hw.rng, hw.ent, fun j hj => ?_, hw.sz, hw.by_⟩, h.cnt.link he, fun j hj hn => ?_, ⟨r, fun d' s' j q hj => ?_⟩, fun d' s' j q => ?_⟩
  · show 1 ≤ updN T.Lk i (T.Lk i + 1) j ∧ updN T.Lk i (T.Lk i + 1) j ≤ 100
    by_cases e : j = i
    · subst e; rw [updN_at]; omega
    · rw [updN_ne _ _ e]; exact h.wf.lk j hj
  · have hj : T.K j = 2 := hj
    have e : j ≠ i := fun e => by rw [e, hk] at hj; exact absurd hj (by decide)
    show updN T.Lk i (T.Lk i + 1) j = 1
    rw [updN_ne _ _ e]
    exact h.one j hj hn
  · have hj : T.K j = 2 := hj
    rcases ent_cases (T := T) q with ⟨-, -, q2⟩ | q2
    · cases q2
      rw [hk] at hj
      exact absurd hj (by decide)
    · exact hr _ _ _ q2 hj
  · rcases ent_cases (T := T) q with ⟨-, rfl, -⟩ | q2
    · exact hs
    · exact h.nm _ _ _ q2
theorem TrT.drop (h : TrT T) (hd : T.K d = 2) (he : T.E d s = some i) (hb : T.bare i) : TrT (dropK T d s i) := by
  have hil := (h.wf.ent d s i he).2
  have hw := Tr.ent_wf h.wf hd (s := s) (v := none) (fun j e => by cases e)
  have hc := h.cnt.drop h.wf he hb
  obtain ⟨r, hr⟩ := h.rank
  unfold dropK cutN at hc ⊢
  split
  · rename_i h1
    rw [if_pos h1] at hc
    have hno : ∀ j t, (T.ent d s none).E j t ≠ some i := fun j t q => by
      rcases ent_cases q with ⟨-, -, q2⟩ | q2
      · cases q2
      · obtain ⟨e1, e2⟩ := h.cnt.unq h.wf i h1 d s he j t q2
        subst e1; subst e2
        rw [Tr.ent_at] at q
        cases q
    have hE : ∀ d' s' j, ((T.ent d s none).rem i).E d' s' = some j → d' ≠ i ∧ T.E d' s' = some j := fun d' s' j q => by
      have q : updN (T.ent d s none).E i (fun _ => none) d' s' = some j := q
      by_cases e : d' = i
      · subst e; rw [updN_at] at q; cases q
      · rw [updN_ne _ _ e] at q
        rcases ent_cases q with ⟨-, -, q2⟩ | q2
        · cases q2
        · exact ⟨e, q2⟩
    have hK : ∀ j q, q ≠ 0 → ((T.ent d s none).rem i).K j = q → j ≠ i ∧ T.K j = q := fun j q hq hj => by
      have hj : updN T.K i 0 j = q := hj
      by_cases e : j = i
      · subst e; rw [updN_at] at hj; exact absurd hj.symm hq
      · rw [updN_ne _ _ e] at hj; exact ⟨e, hj⟩
    have hlv : ∀ j, ((T.ent d s none).rem i).live j → j ≠ i ∧ T.live j := fun j hj => by
      have hj : updN T.K i 0 j ≠ 0 := hj
      by_cases e : j = i
      · subst e; rw [updN_at] at hj; exact absurd rfl hj
      · rw [updN_ne _ _ e] at hj; exact ⟨e, hj⟩
    refine ⟨⟨hw.n4, hw.n2, ?_, fun j => ?_, fun j hj => hw.rng j (hlv j hj).2, fun j t x q => ?_, fun j hj => hw.lk j (hlv j hj).2, fun j => ?_, fun j => ?_⟩, hc, fun j hj hn => h.one j (hK j 2 (by decide) hj).2 hn, ⟨r, fun d' s' j q hj => hr _ _ _ (hE _ _ _ q).2 (hK j 2 (by decide) hj).2⟩, fun d' s' j q => h.nm _ _ _ (hE _ _ _ q).2⟩
    · show updN T.K i 0 2 = 2
      rw [updN_ne _ _ (Ne.symm hil.2)]; exact h.wf.root
    · show updN T.K i 0 j = 0 ∨ updN T.K i 0 j = 1 ∨ updN T.K i 0 j = 2
      by_cases e : j = i
      · subst e; rw [updN_at]; exact .inl rfl
      · rw [updN_ne _ _ e]; exact h.wf.kind j
    · obtain ⟨e1, q2⟩ := hE j t x q
      obtain ⟨a1, a2, a3⟩ := h.wf.ent j t x q2
      have ex : x ≠ i := fun e => by
        have q3 : updN (T.ent d s none).E i (fun _ => none) j t = some x := q
        rw [updN_ne _ _ e1, e] at q3
        exact hno j t q3
      exact ⟨by show updN T.K i 0 j = 2; rw [updN_ne _ _ e1]; exact a1, by show updN T.K i 0 x ≠ 0; rw [updN_ne _ _ ex]; exact a2, a3⟩
    · show (updN T.D i [] j).length ≤ 38400
      by_cases e : j = i
      · subst e; rw [updN_at]; simp
      · rw [updN_ne _ _ e]; exact h.wf.sz j
    · show ∀ y ∈ updN T.D i [] j, y < 256
      by_cases e : j = i
      · subst e; rw [updN_at]; simp
      · rw [updN_ne _ _ e]; exact h.wf.by_ j
  · rename_i h1
    rw [if_neg h1] at hc
    have h1 : ¬ T.Lk i = 1 := h1
    have hlk := h.wf.lk i hil.1
    have hk2 : T.K i ≠ 2 := fun e => h1 (h.one i e hil.2)
    have hE : ∀ d' s' j, (T.ent d s none).E d' s' = some j → T.E d' s' = some j := fun d' s' j q => by
      rcases ent_cases q with ⟨-, -, q2⟩ | q2
      · cases q2
      · exact q2
    refine ⟨⟨hw.n4, hw.n2, hw.root, hw.kind, hw.rng, hw.ent, fun j hj => ?_, hw.sz, hw.by_⟩, hc, fun j hj hn => ?_, ⟨r, fun d' s' j q hj => hr _ _ _ (hE _ _ _ q) hj⟩, fun d' s' j q => h.nm _ _ _ (hE _ _ _ q)⟩
    · show 1 ≤ updN T.Lk i (T.Lk i - 1) j ∧ updN T.Lk i (T.Lk i - 1) j ≤ 100
      by_cases e : j = i
      · subst e; rw [updN_at]; omega
      · rw [updN_ne _ _ e]; exact h.wf.lk j hj
    · have hj : T.K j = 2 := hj
      have e : j ≠ i := fun e => hk2 (by rw [← e]; exact hj)
      show updN T.Lk i (T.Lk i - 1) j = 1
      rw [updN_ne _ _ e]
      exact h.one j hj hn
end
end Go.Proofs.Ytcjojcihjhhpgaa
/-
  Each call keeps that a tree is a tree.
-/
namespace Go.Proofs.Ytcjojcihjhhpgaa
open Go.RowKit

theorem spL_nm (s : ByteArray) : ∀ x ∈ spL s, nmE x = 0 := by
  unfold spL
  split
  · rename_i h
    intro x hx
    have hc : chkL (nml s) = 0 := by
      unfold spE at h
      split at h
      · exact absurd h (by decide)
      · split at h
        · exact absurd h (by decide)
        · exact h
    exact chkL_mem hc x hx
  · intro x hx; cases hx
theorem paN_mem {s : ByteArray} (h : spL s ≠ []) : paN s ∈ spL s := by
  have hp := List.length_pos_iff.2 h
  unfold paN
  rw [List.getD_eq_getElem?_getD, List.getElem?_eq_getElem (by omega)]
  exact List.getElem_mem _
theorem paN_nm {s : ByteArray} (h : paE s = 0) : nmE (paN s) = 0 := spL_nm s _ (paN_mem (paE_zero h).2)
theorem leastI_ok {T : Tr} {i : Nat} (h : leastI T = some i) : 2 ≤ i ∧ i ≤ T.n ∧ T.K i = 0 := by
  unfold leastI at h
  have h1 := List.find?_some h
  have h2 := List.mem_of_find?_eq_some h
  rw [List.mem_range] at h2
  have h1 : decide (2 ≤ i ∧ T.K i = 0) = true := h1
  rw [decide_eq_true_eq] at h1
  exact ⟨h1.1, by omega, h1.2⟩
section
variable {T : Tr} {d : Nat} {s : ByteArray} {k : Int}
theorem TrT.root (h : TrT T) : T.live 2 := by unfold Tr.live; rw [h.wf.root]; decide
theorem enter_keep (h : TrT T) (hd : T.K d = 2) (he : T.E d s = none) (hs : nmE s = 0) (hk : k = 1 ∨ k = 2) : TrT (enterK T d s k).1 := by
  unfold enterK
  split
  · rename_i i hi
    obtain ⟨h2, hn, h0⟩ := leastI_ok hi
    exact h.enter h0 h2 hn hk hd he hs
  · exact h
theorem create_keep (h : TrT T) (s : ByteArray) : TrT (createK T s).1 := by
  unfold createK
  split
  · exact h
  · rename_i hp
    unfold mkR
    obtain ⟨R, hR⟩ : ∃ R, ffK T (spL s) (paN s) (spD s) = R := ⟨_, rfl⟩
    obtain ⟨ro, rz⟩ := R
    rw [hR]
    by_cases hz : rz = 0
    · subst hz
      obtain ⟨d, rfl, hd, he⟩ := ffK_ok h.wf h.root hR
      rw [if_neg (fun q => q rfl)]
      exact enter_keep h hd he (paN_nm (Decidable.of_not_not hp)) (.inl rfl)
    · rw [if_pos hz]; exact h
theorem mkdir_keep (h : TrT T) (s : ByteArray) : TrT (mkdirK T s).1 := by
  unfold mkdirK
  split
  · exact h
  · rename_i hp
    unfold mdR
    obtain ⟨R, hR⟩ : ∃ R, freeK T (spL s) (paN s) = R := ⟨_, rfl⟩
    obtain ⟨ro, rz⟩ := R
    rw [hR]
    by_cases hz : rz = 0
    · subst hz
      obtain ⟨d, rfl, hd, he⟩ := free_ok h.wf h.root hR
      rw [if_neg (fun q => q rfl)]
      show TrT (if 255 < szN (spL s) + 1 then (T, (0 : Int), (36 : Int)) else enterK T d (paN s) 2).1
      split
      · exact h
      · exact enter_keep h hd he (paN_nm (Decidable.of_not_not hp)) (.inr rfl)
    · rw [if_pos hz]; exact h
theorem link_kind (hw : TrW T) {i : Nat} (hl : T.live i) (h : wrLink T i = 0) : T.K i = 1 := by
  unfold wrLink at h
  rcases hw.kind i with e | e | e
  · exact absurd e hl
  · exact e
  · rw [if_pos e] at h; exact absurd h (by decide)
theorem link_keep (h : TrT T) (old s : ByteArray) : TrT (linkK T old s).1 := by
  unfold linkK
  split
  · exact h
  · split
    · exact h
    · rename_i hp
      unfold lkR1
      obtain ⟨R, hR⟩ : ∃ R, findK T (spL old) (spD old) (wrLink T) = R := ⟨_, rfl⟩
      obtain ⟨ro, rz⟩ := R
      rw [hR]
      by_cases hz : rz = 0
      · subst hz
        obtain ⟨f, rfl, hl, hf⟩ := findK_ok h.wf hR
        have hk := link_kind h.wf hl hf
        rw [if_neg (fun q => q rfl)]
        show TrT (lkR2 T s f (ffK T (spL s) (paN s) (spD s))).1
        unfold lkR2
        obtain ⟨R, hR⟩ : ∃ R, ffK T (spL s) (paN s) (spD s) = R := ⟨_, rfl⟩
        obtain ⟨ro, rz⟩ := R
        rw [hR]
        by_cases hz : rz = 0
        · subst hz
          obtain ⟨d, rfl, hd, he⟩ := ffK_ok h.wf h.root hR
          rw [if_neg (fun q => q rfl)]
          show TrT (if T.Lk f = 100 then (T, (31 : Int)) else ((T.ent d (paN s) (some f)).lks f (T.Lk f + 1), 0)).1
          split
          · exact h
          · rename_i hq
            exact h.link hk hq hd he (paN_nm (Decidable.of_not_not hp))
        · rw [if_pos hz]; exact h
      · rw [if_pos hz]; exact h
theorem remove_keep (h : TrT T) (s : ByteArray) {wr : Nat → Int} (hb : ∀ i, T.live i → wr i = 0 → T.bare i) : TrT (removeK T s wr).1 := by
  unfold removeK
  split
  · exact h
  · rename_i hp
    unfold rmR
    obtain ⟨R, hR⟩ : ∃ R, findK T (spL s) (spD s) wr = R := ⟨_, rfl⟩
    obtain ⟨ro, rz⟩ := R
    rw [hR]
    by_cases hz : rz = 0
    · subst hz
      obtain ⟨i, rfl, hl, hi⟩ := findK_ok h.wf hR
      obtain ⟨d, ha, hd, he⟩ := find_last (paE_zero (Decidable.of_not_not hp)).2 hR
      rw [if_neg (fun q => q rfl)]
      show TrT (dropK T ((aboveK T (spL s)).1.getD 0) (paN s) i)
      rw [ha]
      exact h.drop hd he (hb i hl hi)
    · rw [if_pos hz]; exact h
theorem file_bare (hw : TrW T) {i : Nat} (hk : T.K i = 1) : T.bare i := fun t => by
  cases q : T.E i t with
  | none => rfl
  | some j =>
    have := (hw.ent i t j q).1
    rw [hk] at this
    exact absurd this (by decide)
theorem unlink_keep (h : TrT T) (s : ByteArray) : TrT (unlinkK T s).1 := remove_keep h s fun _ hl hi => file_bare h.wf (file_kind h.wf hl hi)
theorem rmdir_keep (h : TrT T) (s : ByteArray) : TrT (rmdirK T s).1 := remove_keep h s fun i hl hi => by
  unfold wrEmpty at hi
  split at hi
  · split at hi
    · assumption
    · exact absurd hi (by decide)
  · exact absurd hi (by decide)
theorem trunc_keep (h : TrT T) (s : ByteArray) (size : Int) : TrT (truncK T s size).1 := by
  unfold truncK trR
  obtain ⟨R, hR⟩ : ∃ R, atK T s (wrFile T) = R := ⟨_, rfl⟩
  obtain ⟨ro, rz⟩ := R
  rw [hR]
  by_cases hz : rz = 0
  · subst hz
    obtain ⟨i, rfl, hl, hi⟩ := atK_ok h.wf hR
    rw [if_neg (fun q => q rfl)]
    by_cases h1 : size < 0
    · rw [if_pos h1]; exact h
    · rw [if_neg h1]
      by_cases h2 : size > 38400
      · rw [if_pos h2]; exact h
      · rw [if_neg h2]
        exact h.dat (by rw [rszL_len]; omega) (rszL_byte (h.wf.by_ i))
  · rw [if_pos hz]; exact h
theorem write_keep (h : TrT T) (s : ByteArray) (at_ : Int) {m : List Nat} (hm : ∀ y ∈ m, y < 256) : TrT (writeK T s at_ m).1 := by
  unfold writeK wrR
  obtain ⟨R, hR⟩ : ∃ R, atK T s (wrFile T) = R := ⟨_, rfl⟩
  obtain ⟨ro, rz⟩ := R
  rw [hR]
  by_cases hz : rz = 0
  · subst hz
    obtain ⟨i, rfl, hl, hi⟩ := atK_ok h.wf hR
    rw [if_neg (fun q => q rfl)]
    by_cases h1 : at_ < 0 ∨ 4096 < m.length
    · rw [if_pos h1]; exact h
    · rw [if_neg h1]
      by_cases h2 : at_ > 38400 - (m.length : Int)
      · rw [if_pos h2]; exact h
      · rw [if_neg h2]
        by_cases h3 : m.length = 0
        · rw [if_pos h3]; exact h
        · rw [if_neg h3]
          have hsz := h.wf.sz i
          have hle : at_.toNat + m.length ≤ max (T.D i).length (at_.toNat + m.length) := by omega
          exact h.dat (by rw [wrL_len (by rw [rszL_len]; exact hle), rszL_len]; omega) (wrL_byte (rszL_byte (h.wf.by_ i)) hm)
  · rw [if_pos hz]; exact h
end
end Go.Proofs.Ytcjojcihjhhpgaa
/-
  What Walk tells: each entry below, with its path.
-/
namespace Go.Proofs.Ytcjojcihjhhpgaa
open Go.RowKit

/-- Directory d lies below c, or is it. -/
inductive Bel (T : Tr) (c : Nat) : Nat → Prop
  | refl : Bel T c c
  | step {d e : Nat} {s : ByteArray} : Bel T c d → T.E d s = some e → T.K e = 2 → Bel T c e
def slA : ByteArray := ⟨#[47]⟩
/-- Entry s of directory d, below directory i that has this path, has this path. -/
inductive TP (T : Tr) : Nat → ByteArray → Nat → ByteArray → ByteArray → Prop
  | file {i c : Nat} {pre n : ByteArray} : T.E i n = some c → T.K c ≠ 2 → TP T i pre i n (pre ++ n)
  | dir {i c : Nat} {pre n : ByteArray} : T.E i n = some c → T.K c = 2 → TP T i pre i n (pre ++ n ++ slA)
  | deep {i c d : Nat} {pre n s x : ByteArray} : T.E i n = some c → T.K c = 2 → TP T c (pre ++ n ++ slA) d s x → TP T i pre d s x
section
variable {T : Tr} {i c c' d : Nat} {pre n n' s x : ByteArray}
theorem TrT.par (h : TrT T) {e d d' : Nat} {s s' : ByteArray} (hk : T.K e = 2) (h1 : T.E d s = some e) (h2 : T.E d' s' = some e) : d' = d ∧ s' = s :=
  h.cnt.unq h.wf e (h.one e hk (h.wf.ent d s e h1).2.2) d s h1 d' s' h2
theorem Bel.rank {r : Nat → Nat} (hr : ∀ d s j, T.E d s = some j → T.K j = 2 → r j < r d) (h : Bel T c d) : r d ≤ r c := by
  induction h with
  | refl => exact Nat.le_refl _
  | step _ he hk ih => have := hr _ _ _ he hk; omega
theorem Bel.not_up (h : TrT T) (he : T.E i n = some c) (hk : T.K c = 2) : ¬ Bel T c i := fun hb => by
  obtain ⟨r, hr⟩ := h.rank
  have h1 := hb.rank hr
  have h2 := hr _ _ _ he hk
  omega
theorem Bel.one (h : TrT T) (he : T.E i n = some c) (hk : T.K c = 2) (he' : T.E i n' = some c') (hk' : T.K c' = 2) (hb : Bel T c d) (hb' : Bel T c' d) : c = c' := by
  induction hb with
  | refl =>
    cases hb' with
    | refl => rfl
    | step q1 q2 q3 =>
      obtain ⟨rfl, -⟩ := h.par hk he q2
      exact absurd q1 (Bel.not_up h he' hk')
  | step p1 p2 p3 ih =>
    cases hb' with
    | refl =>
      obtain ⟨rfl, -⟩ := h.par hk' he' p2
      exact absurd p1 (Bel.not_up h he hk)
    | step q1 q2 q3 =>
      obtain ⟨rfl, -⟩ := h.par p3 p2 q2
      exact ih q1
theorem Bel.down (he : T.E i n = some c) (hk : T.K c = 2) (hb : Bel T c d) : Bel T i d := by
  induction hb with
  | refl => exact .step .refl he hk
  | step _ q2 q3 ih => exact .step ih q2 q3
theorem TP.bel (h : TP T i pre d s x) : Bel T i d ∧ (T.E d s).isSome = true := by
  induction h with
  | file he hk => exact ⟨.refl, by rw [he]; rfl⟩
  | dir he hk => exact ⟨.refl, by rw [he]; rfl⟩
  | deep he hk _ ih => exact ⟨ih.1.down he hk, ih.2⟩
/-- A list without doubles in another is no longer. -/
theorem nodup_len {α : Type} [DecidableEq α] : ∀ (A B : List α), A.Nodup → (∀ x ∈ A, x ∈ B) → A.length ≤ B.length
  | [], _, _, _ => Nat.zero_le _
  | a :: A, B, hn, hs => by
    rw [List.nodup_cons] at hn
    have hm := hs a (List.mem_cons_self)
    have h1 := nodup_len A (B.erase a) hn.2 (fun x hx => (List.mem_erase_of_ne (by rintro rfl; exact hn.1 hx)).2 (hs x (List.mem_cons_of_mem _ hx)))
    rw [List.length_erase_of_mem hm] at h1
    have := List.length_pos_of_mem hm
    rw [List.length_cons]
    omega
/-- All entries. -/
theorem TrT.all (h : TrT T) : ∃ L : List (Nat × ByteArray), (∀ d s, (T.E d s).isSome = true → (d, s) ∈ L) ∧ L.length ≤ 20100 := by
  have key : ∀ m : Nat, ∃ L : List (Nat × ByteArray), (∀ d s j, T.E d s = some j → j < m → (d, s) ∈ L) ∧ L.length ≤ m * 100 := by
    intro m
    induction m with
    | zero => exact ⟨[], fun d s j _ hj => by omega, by simp⟩
    | succ m ih =>
      obtain ⟨L, h1, h2⟩ := ih
      by_cases hl : T.live m ∧ m ≠ 2
      · obtain ⟨M, -, q2, q3⟩ := h.cnt m hl.1 hl.2
        have := h.wf.lk m hl.1
        refine ⟨L ++ M, fun d s j hj hm => ?_, by rw [List.length_append]; omega⟩
        rw [List.mem_append]
        by_cases e : j = m
        · subst e; exact .inr ((q2 d s).2 hj)
        · exact .inl (h1 d s j hj (by omega))
      · refine ⟨L, fun d s j hj hm => ?_, by omega⟩
        by_cases e : j = m
        · subst e; exact absurd (h.wf.ent d s j hj).2 hl
        · exact h1 d s j hj (by omega)
  obtain ⟨L, h1, h2⟩ := key (T.n + 1)
  refine ⟨L, fun d s hs => ?_, ?_⟩
  · obtain ⟨j, hj⟩ := Option.isSome_iff_exists.1 hs
    have := h.wf.rng j (h.wf.ent d s j hj).2.1
    exact h1 d s j hj (by omega)
  · have := h.wf.n2
    omega
theorem told_len (h : TrT T) {P : List (Nat × ByteArray)} (hn : P.Nodup) (hs : ∀ q ∈ P, (T.E q.1 q.2).isSome = true) : P.length ≤ 20100 := by
  obtain ⟨L, h1, h2⟩ := h.all
  have := nodup_len P L hn (fun q hq => h1 q.1 q.2 (hs q hq))
  omega
end
end Go.Proofs.Ytcjojcihjhhpgaa
/-
  What Walk has told behind some of a directory's names.
-/
namespace Go.Proofs.Ytcjojcihjhhpgaa
open Go.RowKit

/-- Told by way of the name n. -/
def TPn (T : Tr) (i : Nat) (pre n : ByteArray) (d : Nat) (s x : ByteArray) : Prop :=
  ∃ c, T.E i n = some c ∧ ((d = i ∧ s = n ∧ T.K c ≠ 2 ∧ x = pre ++ n) ∨ (d = i ∧ s = n ∧ T.K c = 2 ∧ x = pre ++ n ++ slA) ∨ (T.K c = 2 ∧ TP T c (pre ++ n ++ slA) d s x))
abbrev TQ := (Nat × ByteArray) × ByteArray
structure WQ (T : Tr) (i : Nat) (pre : ByteArray) (done : List ByteArray) (Q : List TQ) : Prop where
  nd : (Q.map (·.1)).Nodup
  mem : ∀ d s x, ((d, s), x) ∈ Q ↔ ∃ n ∈ done, TPn T i pre n d s x
section
variable {T : Tr} {i c d : Nat} {pre n s x : ByteArray} {done : List ByteArray} {Q Q' : List TQ}
theorem tp_iff : TP T i pre d s x ↔ ∃ n, TPn T i pre n d s x := by
  constructor
  · intro h
    cases h with
    | file he hk => exact ⟨_, _, he, .inl ⟨rfl, rfl, hk, rfl⟩⟩
    | dir he hk => exact ⟨_, _, he, .inr (.inl ⟨rfl, rfl, hk, rfl⟩)⟩
    | deep he hk q => exact ⟨_, _, he, .inr (.inr ⟨hk, q⟩)⟩
  · rintro ⟨n, c, he, ⟨rfl, rfl, hk, rfl⟩ | ⟨rfl, rfl, hk, rfl⟩ | ⟨hk, q⟩⟩
    · exact .file he hk
    · exact .dir he hk
    · exact .deep he hk q
theorem WQ.none (T : Tr) (i : Nat) (pre : ByteArray) : WQ T i pre [] [] := ⟨List.nodup_nil, fun d s x => ⟨fun q => (by cases q), fun ⟨n, hn, _⟩ => (by cases hn)⟩⟩
theorem WQ.all (h : WQ T i pre done Q) (hd : ∀ n, (T.E i n).isSome = true → n ∈ done) : ∀ d s x, ((d, s), x) ∈ Q ↔ TP T i pre d s x := fun d s x => by
  rw [h.mem, tp_iff]
  exact ⟨fun ⟨n, _, q⟩ => ⟨n, q⟩, fun ⟨n, q⟩ => ⟨n, hd n (by obtain ⟨c, he, _⟩ := q; rw [he]; rfl), q⟩⟩
theorem WQ.valid (h : WQ T i pre done Q) : ∀ q ∈ Q, (T.E q.1.1 q.1.2).isSome = true ∧ Bel T i q.1.1 := fun ⟨⟨d, s⟩, x⟩ hq => by
  obtain ⟨n, -, hn⟩ := (h.mem d s x).1 hq
  have := (tp_iff.2 ⟨n, hn⟩).bel
  exact ⟨this.2, this.1⟩
/-- An entry of i itself, or below another of its directories. -/
theorem TPn.at (h : TPn T i pre n d s x) : (d = i ∧ s = n) ∨ ∃ c, T.E i n = some c ∧ T.K c = 2 ∧ Bel T c d := by
  obtain ⟨c, he, ⟨rfl, rfl, -⟩ | ⟨rfl, rfl, -⟩ | ⟨hk, q⟩⟩ := h
  · exact .inl ⟨rfl, rfl⟩
  · exact .inl ⟨rfl, rfl⟩
  · exact .inr ⟨c, he, hk, q.bel.1⟩
theorem WQ.add (ht : TrT T) (h : WQ T i pre done Q) (hn : n ∉ done) (he : T.E i n = some c) (hQ : (Q'.map (·.1)).Nodup) (hm : ∀ d s x, ((d, s), x) ∈ Q' ↔ TPn T i pre n d s x) : WQ T i pre (done ++ [n]) (Q ++ Q') := by
  refine ⟨?_, fun d s x => ?_⟩
  · rw [List.map_append, List.nodup_append]
    refine ⟨h.nd, hQ, fun a ha b hb e => ?_⟩
    subst e
    obtain ⟨⟨⟨d1, s1⟩, x1⟩, m1, rfl⟩ := List.mem_map.1 ha
    obtain ⟨⟨⟨d2, s2⟩, x2⟩, m2, e2⟩ := List.mem_map.1 hb
    have e2 : (d2, s2) = (d1, s1) := e2
    cases e2
    obtain ⟨n1, k1, p1⟩ := (h.mem _ _ _).1 m1
    have p2 := (hm _ _ _).1 m2
    have hne : n1 ≠ n := fun e => hn (e ▸ k1)
    rcases p1.at with ⟨rfl, rfl⟩ | ⟨c1, f1, f2, f3⟩
    · rcases p2.at with ⟨-, q⟩ | ⟨c2, g1, g2, g3⟩
      · exact hne q
      · exact Bel.not_up ht g1 g2 g3
    · rcases p2.at with ⟨rfl, -⟩ | ⟨c2, g1, g2, g3⟩
      · exact Bel.not_up ht f1 f2 f3
      · have := Bel.one ht f1 f2 g1 g2 f3 g3
        subst this
        exact hne (ht.par f2 g1 f1).2
  · rw [List.mem_append, h.mem, hm]
    constructor
    · rintro (⟨n1, k1, p1⟩ | p)
      · exact ⟨n1, List.mem_append_left _ k1, p1⟩
      · exact ⟨n, List.mem_append_right _ (List.mem_singleton.2 rfl), p⟩
    · rintro ⟨n1, k1, p1⟩
      rcases List.mem_append.1 k1 with q | q
      · exact .inl ⟨n1, q, p1⟩
      · rw [List.mem_singleton.1 q] at p1
        exact .inr p1
theorem WQ.file (ht : TrT T) (h : WQ T i pre done Q) (hn : n ∉ done) (he : T.E i n = some c) (hk : T.K c ≠ 2) : WQ T i pre (done ++ [n]) (Q ++ [((i, n), pre ++ n)]) := by
  refine h.add ht hn he (by simp) fun d s x => ?_
  rw [List.mem_singleton]
  constructor
  · intro e
    cases e
    exact ⟨c, he, .inl ⟨rfl, rfl, hk, rfl⟩⟩
  · rintro ⟨c', he', ⟨rfl, rfl, -, rfl⟩ | ⟨-, -, hk', -⟩ | ⟨hk', -⟩⟩
    · rfl
    · rw [he] at he'; cases he'; exact absurd hk' hk
    · rw [he] at he'; cases he'; exact absurd hk' hk
theorem WQ.dir (ht : TrT T) (h : WQ T i pre done Q) (hn : n ∉ done) (he : T.E i n = some c) (hk : T.K c = 2) (hQ : (Q'.map (·.1)).Nodup) (hm : ∀ d s x, ((d, s), x) ∈ Q' ↔ TP T c (pre ++ n ++ slA) d s x) : WQ T i pre (done ++ [n]) (Q ++ ([((i, n), pre ++ n ++ slA)] ++ Q')) := by
  refine h.add ht hn he ?_ fun d s x => ?_
  · rw [List.map_append, List.nodup_append]
    refine ⟨by simp, hQ, fun a ha b hb e => ?_⟩
    subst e
    have ea : a = (i, n) := by simpa using ha
    subst ea
    obtain ⟨⟨⟨d2, s2⟩, x2⟩, m2, e2⟩ := List.mem_map.1 hb
    have e2 : (d2, s2) = (i, n) := e2
    cases e2
    exact Bel.not_up ht he hk ((hm _ _ _).1 m2).bel.1
  · rw [List.mem_append, List.mem_singleton, hm]
    constructor
    · rintro (e | p)
      · cases e
        exact ⟨c, he, .inr (.inl ⟨rfl, rfl, hk, rfl⟩)⟩
      · exact ⟨c, he, .inr (.inr ⟨hk, p⟩)⟩
    · rintro ⟨c', he', ⟨-, -, hk', -⟩ | ⟨rfl, rfl, -, rfl⟩ | ⟨-, p⟩⟩
      · rw [he] at he'; cases he'; exact absurd hk hk'
      · exact .inl rfl
      · rw [he] at he'; cases he'; exact .inr p
end
end Go.Proofs.Ytcjojcihjhhpgaa
/-
  The entries that walk has told, each once; none below the next directory.
-/
namespace Go.Proofs.Ytcjojcihjhhpgaa
open Go.RowKit

theorem SR.blo {w : World} {g r n cnt : Nat} {f : ByteArray → Option Nat} {done : List ByteArray} (h : SR w g r n f done cnt) {g' : Nat} {t : TypeId} {cs : Array Value} (hb : Blo w g' t cs) : r ≠ g' := by
  obtain ⟨D, left, ⟨es, clock, since, seen, c0, _, _, _, _, hr, _⟩, _⟩ := h
  rintro rfl
  unfold Blo at hb
  rw [hr] at hb
  cases hb
theorem WB.row {w : World} {g k : Nat} {A : List ByteArray} {v : Value} (h : WB w g A v) (hk : v.ownBlock = some k) : ∃ cs, Blo w k STT cs := by
  rcases h.own.2 with ⟨q, _⟩ | ⟨g', cap, cur, q, _, hc, _⟩
  · rw [q] at hk; cases hk
  · rw [q] at hk
    obtain rfl : g' = k := by simpa [Value.ownBlock] using hk
    exact ⟨cur, hc⟩
/-- The entries that were told so far: each once, none below i. -/
structure WP (T : Tr) (i : Nat) (P0 : List (Nat × ByteArray)) (m : Nat) : Prop where
  nd : P0.Nodup
  len : P0.length = m
  ok : ∀ q ∈ P0, (T.E q.1 q.2).isSome = true ∧ ¬ Bel T i q.1
section
variable {T : Tr} {i c m : Nat} {pre n : ByteArray} {done : List ByteArray} {Q : List TQ} {P0 : List (Nat × ByteArray)}
theorem WP.both (h : WP T i P0 m) (hq : WQ T i pre done Q) : (P0 ++ Q.map (·.1)).Nodup ∧ ∀ q ∈ P0 ++ Q.map (·.1), (T.E q.1 q.2).isSome = true := by
  refine ⟨List.nodup_append.2 ⟨h.nd, hq.nd, fun a ha b hb e => ?_⟩, fun q hm => ?_⟩
  · subst e
    obtain ⟨q, hq1, rfl⟩ := List.mem_map.1 hb
    exact (h.ok _ ha).2 (hq.valid q hq1).2
  · rcases List.mem_append.1 hm with q1 | q1
    · exact (h.ok _ q1).1
    · obtain ⟨q2, hq2, rfl⟩ := List.mem_map.1 q1
      exact (hq.valid q2 hq2).1
theorem WP.short (ht : TrT T) (h : WP T i P0 m) (hq : WQ T i pre done Q) : m + Q.length ≤ 20100 := by
  have := told_len ht (h.both hq).1 (h.both hq).2
  rw [List.length_append, List.length_map, h.len] at this
  exact this
theorem WP.down (ht : TrT T) (h : WP T i P0 m) (hq : WQ T i pre done Q) (hn : n ∉ done) (he : T.E i n = some c) (hk : T.K c = 2) : WP T c (P0 ++ Q.map (·.1) ++ [(i, n)]) (m + Q.length + 1) := by
  have hb := h.both hq
  refine ⟨List.nodup_append.2 ⟨hb.1, by simp, fun a ha b hb2 e => ?_⟩, by rw [List.length_append, List.length_append, List.length_map, h.len]; rfl, fun q hm => ?_⟩
  · subst e
    have ea : a = (i, n) := by simpa using hb2
    subst ea
    rcases List.mem_append.1 ha with q1 | q1
    · exact (h.ok _ q1).2 .refl
    · obtain ⟨⟨⟨d, s⟩, x⟩, m2, e2⟩ := List.mem_map.1 q1
      have e2 : (d, s) = (i, n) := e2
      cases e2
      obtain ⟨n1, k1, p1⟩ := (hq.mem _ _ _).1 m2
      rcases p1.at with ⟨-, q⟩ | ⟨c1, f1, f2, f3⟩
      · exact hn (q ▸ k1)
      · exact Bel.not_up ht f1 f2 f3
  · rcases List.mem_append.1 hm with q1 | q1
    · refine ⟨hb.2 q q1, fun hbel => ?_⟩
      rcases List.mem_append.1 q1 with q2 | q2
      · exact (h.ok _ q2).2 (Bel.down he hk hbel)
      · obtain ⟨⟨⟨d, s⟩, x⟩, m2, rfl⟩ := List.mem_map.1 q2
        have hbel : Bel T c d := hbel
        obtain ⟨n1, k1, p1⟩ := (hq.mem _ _ _).1 m2
        rcases p1.at with ⟨rfl, -⟩ | ⟨c1, f1, f2, f3⟩
        · exact Bel.not_up ht he hk hbel
        · have := Bel.one ht f1 f2 he hk f3 hbel
          subst this
          exact hn ((ht.par f2 he f1).2 ▸ k1)
    · have e : q = (i, n) := by simpa using q1
      subst e
      exact ⟨by rw [he]; rfl, Bel.not_up ht he hk⟩
end
end Go.Proofs.Ytcjojcihjhhpgaa
