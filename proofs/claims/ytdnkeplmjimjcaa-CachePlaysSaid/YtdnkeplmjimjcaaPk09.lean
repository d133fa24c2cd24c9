/-
  ChSrt · ChByK · ChOrdB · ChDty · DcDtM · Structs · COp · ChLaw: these texts in one.
-/
import Derived.Test.YtdnkeplmjimjcaaPk08
import Derived.Test.YtdnkeplmjimjcaaSort9
import Derived.Shelf.SlSortCmp.NoneTotal
import Derived.Deep.RegionHeld3
import Derived.Test.YtdnkeplmjimjcaaPk00
import Derived.Deep.Slices
import Derived.Deep.Grids
import Derived.SizedLaws
import Derived.ChangeArms
import Derived.OpenShut
import Derived.Test.YtdnkeplmjimjcaaPk01
import Derived.Test.YtdnkeplmjimjcaaPk07
/-
  The sorting of Order's keys.
-/
namespace Go.Proofs.Ytdnkeplmjimjcaa
open Go.RowKit Go.Sort Go.Shelf

section
variable {α : Type} [Inhabited α]
theorem flat_get (enc : α → List Value) (hk : ∀ x, (enc x).length = 2) : ∀ (l : List α) (t : Nat), t < l.length * 2 → (l.flatMap enc)[t]? = some ((enc l[t / 2]!)[t % 2]!)
  | [], t, h => by simp at h
  | x :: l, t, h => by
    obtain ⟨a, b, e⟩ : ∃ a b, enc x = [a, b] := by
      have := hk x
      match hq : enc x, this with
      | [a, b], _ => exact ⟨a, b, rfl⟩
    rw [List.flatMap_cons, e]
    match t, h with
    | 0, _ => simp [e]
    | 1, _ => simp [e]
    | t + 2, h =>
      have := flat_get enc hk l t (by simp only [List.length_cons] at h; omega)
      rw [show (t + 2) / 2 = t / 2 + 1 by omega, show (t + 2) % 2 = t % 2 by omega]
      simpa using this
theorem flatK_list (enc : α → List Value) (hk : ∀ x, (enc x).length = 2) (d : Array α) : (flatK enc 2 d).toList = d.toList.flatMap enc := by
  have hl : ∀ l : List α, (l.flatMap enc).length = l.length * 2 := fun l => by
    induction l with
    | nil => rfl
    | cons x l ih => rw [List.flatMap_cons, List.length_append, hk, ih, List.length_cons]; omega
  apply List.ext_getElem?
  intro t
  by_cases h : t < d.size * 2
  · rw [flat_get enc hk d.toList t (by simpa using h), Array.getElem?_toList]
    have h1 := get_flatK enc 2 d t h
    rw [getElem!_pos _ t (by simpa using h)] at h1
    rw [Array.getElem?_eq_getElem (by simpa using h), h1, getElem!_pos d (t / 2) (by omega), getElem!_pos d.toList (t / 2) (by simp; omega)]
    simp
  · rw [List.getElem?_eq_none (by simp; omega), List.getElem?_eq_none (by rw [hl]; simp; omega)]
theorem heap_putRow (W : World) (blk off i : Nat) (F : Array Value) (h : i ≠ blk) : (putRow id W blk off F).heap[i]? = W.heap[i]? := by
  unfold putRow mapBlock
  show (W.heap.modify blk _)[i]? = _
  rw [Array.getElem?_modify, if_neg (fun e => h e.symm)]
theorem out_sort (enc : α → List Value) (W : World) (blk m : Nat) (dk : Array α) (os : Array Obj) : Out (fun i => i = blk) W (sortWorldK enc 2 W blk 0 m dk os) := by
  refine ⟨rfl, rfl, rfl, ?_, fun i hi hx => ?_⟩
  · unfold sortWorldK
    rw [size_grow]
    show _ ≤ (putRow id (Sort.ahead W m) blk 0 _).heap.size + _
    rw [size_putRow]
    show W.heap.size ≤ W.heap.size + _
    omega
  · unfold sortWorldK
    rw [heap_grow_old _ _ (by show i < (putRow id (Sort.ahead W m) blk 0 _).heap.size; rw [size_putRow]; exact hi)]
    exact heap_putRow _ _ _ _ _ hx
/-- The row behind the sort. -/
theorem own_sort (enc : α → List Value) (hk : ∀ x, (enc x).length = 2) {W : World} {C blk cap m : Nat} {d d' : Array α} {os : Array Obj} {xs : List Value} (h : W.ownsRow C KT 2 (.slice (some ⟨blk, 0, none⟩) d.size cap) d.size xs) (hH : HoldsK enc 2 W blk 0 d) (hs : d'.size = d.size) :
    (sortWorldK enc 2 W blk 0 m d' os).ownsRow C KT 2 (.slice (some ⟨blk, 0, none⟩) d.size cap) d.size (d'.toList.flatMap enc) := by
  have hl : (d'.toList.flatMap enc).length = d.size * 2 := by
    rw [← flatK_list enc hk, Array.length_toList, size_flatK, hs]
  refine ⟨hl, .inr ?_⟩
  rcases h.2 with ⟨q, _⟩ | ⟨g, cap', cur, q, hb, hg, a3, a4, a5, a6⟩
  · cases q
  · cases q
    have hlt : blk < W.heap.size := (Array.getElem?_eq_some_iff.1 hg).1
    refine ⟨blk, cap, putCells id 0 (flatK enc 2 d') cur, rfl, hb, ?_, a3, a4, ?_, ?_⟩
    · unfold sortWorldK
      rw [heap_grow_old _ _ (by show blk < (putRow id (Sort.ahead W m) blk 0 _).heap.size; rw [size_putRow]; exact hlt)]
      show ((Sort.ahead W m).heap.modify blk _)[blk]? = _
      rw [Array.getElem?_modify, if_pos rfl]
      show (W.heap[blk]?).map _ = _
      rw [hg]
      rfl
    · rw [show (putCells id 0 (flatK enc 2 d') cur).size = cur.size by simp [putCells]]
      exact a5
    · rw [← flatK_list enc hk]
      apply List.ext_getElem?
      intro t
      by_cases ht : t < d.size * 2
      · rw [List.getElem?_take, if_pos ht, Array.getElem?_toList, Array.getElem?_toList]
        unfold putCells
        rw [Array.getElem?_mapIdx]
        have hc : t < cur.size := by rw [a5]; have := Nat.mul_le_mul_right 2 a3; omega
        rw [Array.getElem?_eq_getElem hc, Option.map_some, if_pos ⟨Nat.zero_le _, by rw [size_flatK, hs]; omega⟩]
        rw [Array.getElem?_eq_getElem (by rw [size_flatK, hs]; exact ht), Nat.sub_zero, id, getElem!_pos _ t (by rw [size_flatK, hs]; exact ht)]
      · rw [List.getElem?_take, if_neg ht, List.getElem?_eq_none (by rw [Array.length_toList, size_flatK, hs]; omega)]
end
section
variable {w w' W : World} {bc bm base b : Nat} {room uses : Int} {N T : Nat} {x : Sx} {L : List Bk}
theorem PS.used_inj {S : Nat → Bf} {bs : List Nat} {ks : List (Int × Int)} {f : Int × Int → Option Nat} {n : Nat} (hP : PS room N T S bs ks f uses n) {b c : Nat} (hb : b ∈ bs) (hc : c ∈ bs) (e : (S b).used = (S c).used) : b = c := by
  have key : ∀ (l : List Nat), l.Pairwise (fun b c => (S b).used < (S c).used) → b ∈ l → c ∈ l → b = c := by
    intro l
    induction l with
    | nil => intro _ h; cases h
    | cons a l ih =>
      intro hp h1 h2
      obtain ⟨h3, h4⟩ := List.pairwise_cons.1 hp
      rcases List.mem_cons.1 h1 with e1 | e1 <;> rcases List.mem_cons.1 h2 with e2 | e2
      · rw [e1, e2]
      · have := h3 c e2; rw [e1] at e; omega
      · have := h3 b e1; rw [e2] at e; omega
      · exact ih h4 e1 e2
  exact key bs hP.srt hb hc
theorem lt_cmp (a b : Int) : decide (cmpI a b < 0) = decide (a < b) := by
  unfold cmpI
  by_cases h1 : a < b
  · simp [h1]
  · by_cases h2 : b < a <;> simp [h1, h2]
def encB (S : Nat → Bf) (bs : List Nat) (b : {b : Nat // b ∈ bs}) : List Value := [.int .i64 (S b.1).ino, .int .i64 (S b.1).lbn]
def cfB (S : Nat → Bf) (bs : List Nat) (b c : {b : Nat // b ∈ bs}) : Int := cmpI (S b.1).used (S c.1).used
theorem ltB (S : Nat → Bf) (bs : List Nat) (b c : {b : Nat // b ∈ bs}) : ltOf (cfB S bs) b c = decide ((S b.1).used < (S c.1).used) := lt_cmp _ _
theorem swoB (S : Nat → Bf) (bs : List Nat) : SWO (ltOf (cfB S bs)) where
  irrefl x := by rw [ltB]; simp
  trans x y z h1 h2 := by rw [ltB] at *; simp at *; omega
  ntrans x y z h1 h2 := by rw [ltB] at *; simp at *; omega
set_option maxRecDepth 100000 in
set_option maxHeartbeats 4000000 in
theorem srt_any {v : Value} {g1 C : Nat} {done : List (Int × Int)} (hC : CS W bc bm base room N T x) (hbox : Blo W g1 PC #[.pointer (some ⟨bc, 0, none⟩)]) (hown : W.ownsRow C KT 2 v done.length (flatP done)) (hnd : done.Nodup) (hin : ∀ p ∈ done, (x.f p).isSome = true) (hall : ∀ p, wfK p → (x.f p).isSome = true → p ∈ done) :
    Calls Try.prog 31 #[v, .func (.func 32) #[] #[.pointer (some ⟨g1, 0, none⟩)]] W fun e w' => e = .returned (.tuple #[]) ∧ w'.ownsRow C KT 2 v x.bs.length (flatP (x.bs.map fun b => keyB (x.S b))) ∧ Out (fun g => v.ownBlock = some g) W w' := by
  have hfb : ∀ b, b ∈ x.bs → x.f (keyB (x.S b)) = some b := fun b hb => (hC.ps.key _ b).2 ⟨hb, rfl⟩
  -- the blocks of the keys
  have hlb : ∀ p ∈ done, x.f p = some ((x.f p).getD 0) ∧ (x.f p).getD 0 ∈ x.bs ∧ keyB (x.S ((x.f p).getD 0)) = p := fun p hp => by
    obtain ⟨b, hb⟩ := Option.isSome_iff_exists.1 (hin p hp)
    obtain ⟨h1, h2⟩ := (hC.ps.key p b).1 hb
    rw [hb]
    exact ⟨rfl, h1, h2⟩
  have hmem : ∀ b, b ∈ done.map (fun p => (x.f p).getD 0) ↔ b ∈ x.bs := fun b => by
    rw [List.mem_map]
    constructor
    · rintro ⟨p, hp, rfl⟩
      exact (hlb p hp).2.1
    · intro hb
      refine ⟨keyB (x.S b), hall _ (hC.ps.wf b hb) (by rw [hfb b hb]; rfl), by rw [hfb b hb]; rfl⟩
  have hndb : (done.map (fun p => (x.f p).getD 0)).Nodup := by
    rw [List.nodup_iff_pairwise_ne, List.pairwise_map]
    refine List.Pairwise.imp_of_mem (fun {p q} hp hq hne e => hne ?_) (List.nodup_iff_pairwise_ne.1 hnd)
    rw [← (hlb p hp).2.2, ← (hlb q hq).2.2, e]
  have hperm : (done.map (fun p => (x.f p).getD 0)).Perm x.bs := (List.perm_ext_iff_of_nodup hndb hC.ps.nodup).2 hmem
  have hlen : done.length = x.bs.length := by
    have := hperm.length_eq
    simpa using this
  by_cases h0 : x.bs = []
  · have hl0 : done.length = 0 := by rw [hlen, h0]; rfl
    have hd0 : done = [] := List.eq_nil_of_length_eq_zero hl0
    subst hd0
    obtain ⟨ao, cap, hv⟩ : ∃ ao cap, v = .slice ao 0 cap := by
      rcases hown.2 with ⟨q, _⟩ | ⟨g, cap, cur, q, _⟩
      · exact ⟨none, 0, q⟩
      · exact ⟨_, cap, q⟩
    subst hv
    have hcon := AnyF.slices_SortFunc_none Try.sortK ao cap (.func (.func 32) #[] #[.pointer (some ⟨g1, 0, none⟩)]) W
    change Calls Try.prog 31 _ _ _ at hcon
    refine hcon.mono ?_
    rintro e w' ⟨rfl, rfl⟩
    rw [h0]
    exact ⟨rfl, hown, Out.refl _ _⟩
  · obtain ⟨b0, hb0⟩ : ∃ b0, b0 ∈ x.bs := List.exists_mem_of_ne_nil _ h0
    haveI : Inhabited {b : Nat // b ∈ x.bs} := ⟨⟨b0, hb0⟩⟩
    obtain ⟨d, hd⟩ : ∃ d, d = ((done.map (fun p => (x.f p).getD 0)).attachWith (fun b => b ∈ x.bs) (fun b hb => (hmem b).1 hb)).toArray := ⟨_, rfl⟩
    have hdl : d.toList.map Subtype.val = done.map (fun p => (x.f p).getD 0) := by
      rw [hd]
      exact List.attachWith_map_subtype_val _
    have hds : d.size = done.length := by
      have := congrArg List.length hdl
      simpa using this
    have hflat : ∀ l : List {b : Nat // b ∈ x.bs}, l.flatMap (encB x.S x.bs) = flatP ((l.map Subtype.val).map fun b => keyB (x.S b)) := fun l => by
      unfold flatP encB keyB
      rw [List.map_map, List.flatMap_map]
      rfl
    have hk : ∀ b, (encB x.S x.bs b).length = 2 := fun _ => rfl
    have hdk : d.toList.flatMap (encB x.S x.bs) = flatP done := by
      rw [hflat, hdl, List.map_map]
      congr 1
      conv => rhs; rw [← List.map_id done]
      apply List.map_congr_left
      intro p hp
      exact (hlb p hp).2.2
    obtain ⟨g, cap, hv⟩ : ∃ g cap, v = .slice (some ⟨g, 0, none⟩) done.length cap := by
      rcases hown.2 with ⟨q, q2⟩ | ⟨g, cap, cur, q, _⟩
      · have := List.length_pos_of_mem hb0
        omega
      · exact ⟨g, cap, q⟩
    subst hv
    have hg := own_blo hown (g := g) rfl
    obtain ⟨hgC, cur, hcur⟩ := hg
    have hH : HoldsK (encB x.S x.bs) 2 W g 0 d := by
      intro j hj
      rw [size_flatK, hds] at hj
      have h1 := hown.cellAt j hj
      rw [Nat.zero_add]
      refine ⟨?_, hown.frozenAt j⟩
      have hj' : j < (flatK (encB x.S x.bs) 2 d).size := by rw [size_flatK, hds]; exact hj
      rw [h1, ← hdk, ← flatK_list _ hk, Array.getElem?_toList, Array.getElem?_eq_getElem hj', getElem!_pos _ j hj']
      rfl
    have eg : ∀ args w, (callFunc 32 args).run Try.prog w = .ok (.enter 32 args) w := enters_of Try.func32 (by kernel_rfl) rfl
    have hcmp : CmpLays Try.prog 32 #[.pointer (some ⟨g1, 0, none⟩)] (encB x.S x.bs) 2 (cfB x.S x.bs) g 0 d.size W := fun m os dk hdk' b c => by
      have ho := out_sort (encB x.S x.bs) W g m dk os
      refine less_any (hC.out ho (fun i hi e => ?_)) (ho.blo hbox (fun e => ?_)) b.2 c.2
      · rw [e] at hi
        exact xcs_key hC hcur hi
      · rw [← e] at hcur
        exact hbox.apart hcur (by decide) rfl
    have hcon := AnyQ.slices_SortFunc Try.sortK 2 Try.isAgg34 Try.sizeOf34 (encB x.S x.bs) hk (fun b u hu => by simp [encB] at hu; rcases hu with rfl | rfl <;> rfl) (cfB x.S x.bs) (swoB x.S x.bs) 32 #[.pointer (some ⟨g1, 0, none⟩)] g 0 cap d W eg hcmp hH hcur.lt (by have := hC.ps.rm; omega)
    change Calls Try.prog 31 _ _ _ at hcon
    rw [hds] at hcon
    refine hcon.mono ?_
    rintro e w' ⟨rfl, d', n, os, hp, hs, rfl⟩
    have hp1 : d'.size = d.size := hp.1
    have hp2 : d'.toList.Perm d.toList := by
      have := hp.2.2
      rw [show d'.extract 0 done.length = d' by rw [← hds, ← hp1]; simp, show d.extract 0 done.length = d by rw [← hds]; simp] at this
      exact this
    have hsorted : d'.toList.map Subtype.val = x.bs := by
      refine List.Perm.eq_of_pairwise (le := fun b c => (x.S b).used ≤ (x.S c).used) (fun b c hb hc h1 h2 => ?_) ?_ (hC.ps.srt.imp fun h => Int.le_of_lt h) ?_
      · exact hC.ps.used_inj ((hmem b).1 (by rw [← hdl]; exact (hp2.map _).mem_iff.1 hb)) hc (by omega)
      · rw [List.pairwise_map, List.pairwise_iff_getElem]
        intro i j hi hj hij
        have := hs i j (Nat.zero_le _) hij (by rw [← hds, ← hp1]; simpa using hj)
        rw [ltB, getElem!_pos d' j (by simpa using hj), getElem!_pos d' i (by simpa using hi)] at this
        simpa using this
      · exact ((hp2.map Subtype.val).trans (by rw [hdl])).trans hperm
    have ho := out_sort (encB x.S x.bs) W g n d' os
    refine ⟨rfl, ?_, ho.mono fun i _ e => by rw [e]; rfl⟩
    have hown' : W.ownsRow C KT 2 (.slice (some ⟨g, 0, none⟩) d.size cap) d.size (flatP done) := by rw [hds]; exact hown
    have := own_sort (encB x.S x.bs) hk (m := n) (os := os) hown' hH hp1
    rw [hflat, hsorted, hds, hlen] at this
    rw [hlen]
    exact this
end
end Go.Proofs.Ytdnkeplmjimjcaa
/-
  byKey, and the sorting of keys by it.
-/
namespace Go.Proofs.Ytdnkeplmjimjcaa
open Go.RowKit Go.Sort Go.Shelf

/-- The order of keys. -/
def cmpK (p q : Int × Int) : Int := if cmpI p.1 q.1 = 0 then cmpI p.2 q.2 else cmpI p.1 q.1
def ltK (p q : Int × Int) : Prop := p.1 < q.1 ∨ p.1 = q.1 ∧ p.2 < q.2
theorem ltK_dec (p q : Int × Int) : decide (cmpK p q < 0) = true ↔ ltK p q := by
  rw [decide_eq_true_eq]
  unfold cmpK ltK cmpI
  by_cases h1 : p.1 < q.1
  · simp [h1]
  · by_cases h2 : q.1 < p.1
    · simp [h1, h2]
      omega
    · have h3 : p.1 = q.1 := by omega
      by_cases h4 : p.2 < q.2
      · simp [h3, h4]
      · by_cases h5 : q.2 < p.2 <;> simp [h3, h4, h5]
/-- The first that is not zero. -/
def orI (a b : Int) : Int := if a = 0 then b else a
section
variable {w w' W : World}
set_option maxRecDepth 100000 in
set_option maxHeartbeats 4000000 in
theorem or_any (a b : Int) {g : Nat} (h : Blo w g 3 #[.int .i64 a, .int .i64 b]) : Calls Try.prog 47 #[.slice (some ⟨g, 0, none⟩) 2 2] w fun e w' => e = .returned (.int .i64 (orI a b)) ∧ w' = w := by
  unfold orI
  have c0 : w.cell? ⟨g, 0, none⟩ = some (.int .i64 a) := h.cell 0
  have c1 : w.cell? ⟨g, 1, none⟩ = some (.int .i64 b) := h.cell 1
  clear h
  by_cases ha : a = 0
  · rw [if_pos ha]
    subst ha
    by_cases hb : b = 0
    · subst hb
      go_enter Try.func47, Try.ntmps47
      go_wp2_with fail
      refine wp_loop_rounds 3 ?_
      rw [rounds_succ]
      go_wp2_with fail
      rw [rounds_succ]
      go_wp2_with fail
      rw [rounds_succ]
      go_wp2_with fail
      go_ret
      exact ⟨rfl, rfl⟩
    · have hb' : (b != 0) = true := by simpa using hb
      go_enter Try.func47, Try.ntmps47
      go_wp2_with fail
      refine wp_loop_rounds 3 ?_
      rw [rounds_succ]
      go_wp2_with fail
      rw [rounds_succ]
      go_wp2_with fail
      go_ret
      exact ⟨rfl, rfl⟩
  · rw [if_neg ha]
    have ha' : (a != 0) = true := by simpa using ha
    go_enter Try.func47, Try.ntmps47
    go_wp2_with fail
    refine wp_loop_rounds 3 ?_
    rw [rounds_succ]
    go_wp2_with fail
    go_ret
    exact ⟨rfl, rfl⟩
set_option maxRecDepth 100000 in
set_option maxHeartbeats 4000000 in
theorem byKey_any (p q : Int × Int) (w : World) : Calls Try.prog 34 #[.agg #[.int .i64 p.1, .int .i64 p.2], .agg #[.int .i64 q.1, .int .i64 q.2]] w fun e w' => e = .returned (.int .i64 (cmpK p q)) ∧ ∃ n os', w' = grow (w.drewN n) os' := by
  obtain ⟨w1, hw1⟩ : ∃ w1, w1 = (w.alloc (.cells #[.int .i64 p.1, .int .i64 p.2] KT)).alloc (.cells #[.int .i64 q.1, .int .i64 q.2] KT) := ⟨_, rfl⟩
  have hX : Blo w1 w.heap.size KT #[.int .i64 p.1, .int .i64 p.2] := by rw [hw1]; exact (blo_laid w _ _).alloc _
  have hY : Blo w1 (w.heap.size + 1) KT #[.int .i64 q.1, .int .i64 q.2] := by
    rw [hw1]
    have := blo_laid (w.alloc (.cells #[.int .i64 p.1, .int .i64 p.2] KT)) KT #[.int .i64 q.1, .int .i64 q.2]
    rw [show (w.alloc (.cells #[.int .i64 p.1, .int .i64 p.2] KT)).heap.size = w.heap.size + 1 by simp] at this
    exact this
  have HG : Hid (∃ os, w1 = grow w os) := by
    rw [hw1, alloc_eq_grow, alloc_eq_grow, grow_grow]
    exact ⟨_, rfl⟩
  have HKp : Hid (∀ W : World, RowKit.Below w1.heap.size w1 W → W.cell? ⟨w.heap.size, 0, none⟩ = some (.int .i64 p.1) ∧ W.cell? ⟨w.heap.size, 1, none⟩ = some (.int .i64 p.2) ∧ W.cell? ⟨w.heap.size + 1, 0, none⟩ = some (.int .i64 q.1) ∧ W.cell? ⟨w.heap.size + 1, 1, none⟩ = some (.int .i64 q.2)) := fun W hb =>
    ⟨(hX.later hb).cell 0, (hX.later hb).cell 1, (hY.later hb).cell 0, (hY.later hb).cell 1⟩
  have hck : cmpK p q = orI (cmpI p.1 q.1) (cmpI p.2 q.2) := rfl
  obtain ⟨c, hcc⟩ : ∃ c, c = cmpK p q := ⟨_, rfl⟩
  rw [← hcc]
  rw [hck] at hcc
  have HCC := Lib.hid hcc
  clear hcc hck
  have HC1 := Lib.hid (fun W => compare_any p.1 q.1 W)
  have HC2 := Lib.hid (fun W => compare_any p.2 q.2 W)
  have HOr := Lib.hid (fun a b => or_any (w := (w1.alloc (.cells #[.int .i64 a, .int .i64 b] 3)).drew) a b (g := w1.heap.size) (blo_laid w1 _ _).drew)
  have HAl := Lib.hid (fun a b : Int => (sup_pc9 w1 (.cells #[.int .i64 a, .int .i64 b] 3)).drew)
  clear hX hY
  go_enter Try.func34, Try.ntmps34
  go_upto_region 1 with (fail)
  rw [← hw1]
  clear hw1
  generalize cmpI p.1 q.1 = a at *
  generalize cmpI p.2 q.2 = b at *
  generalize p.1 = p1 at *
  generalize p.2 = p2 at *
  generalize q.1 = q1 at *
  generalize q.2 = q2 at *
  generalize w.heap.size + 1 = g2 at *
  generalize w.heap.size = g1 at *
  go_region_held (fun W => W.cell? ⟨g1, 0, none⟩ = some (.int .i64 p1) ∧ W.cell? ⟨g1, 1, none⟩ = some (.int .i64 p2) ∧ W.cell? ⟨g2, 0, none⟩ = some (.int .i64 q1) ∧ W.cell? ⟨g2, 1, none⟩ = some (.int .i64 q2))
    (first | exact HKp.out _ ((RowKit.Below.refl _ _).drew) | exact HKp.out _ (HAl.out _ _))
    (first
      | (go_at_call 33; (with_reducible refine (HC1.out _).mono ?_); rintro e wa ⟨rfl, rfl⟩)
      | (go_at_call 33; (with_reducible refine (HC2.out _).mono ?_); rintro e wa ⟨rfl, rfl⟩)
      | (go_at_call 47; (with_reducible refine (HOr.out _ _).mono ?_); rintro e wa ⟨rfl, rfl⟩))
  all_goals
    rename_i hHeld
    clear hHeld HKp HC1 HC2 HOr HAl
    go_wp2_with fail
    go_ret
    obtain ⟨os, rfl⟩ := HG.out
    have := HCC.out
    subst this
    refine ⟨rfl, 1, os ++ #[.cells #[.int .i64 a, .int .i64 b] 3], ?_⟩
    rw [alloc_eq_grow, grow_grow]
    rfl
def encP (p : Int × Int) : List Value := [.int .i64 p.1, .int .i64 p.2]
theorem ltOfK (p q : Int × Int) : ltOf cmpK p q = true ↔ ltK p q := ltK_dec p q
theorem swoK : SWO (ltOf cmpK) where
  irrefl x := by
    cases h : ltOf cmpK x x with
    | false => rfl
    | true => have := (ltOfK _ _).1 h; unfold ltK at this; omega
  trans x y z h1 h2 := by
    rw [ltOfK] at *
    unfold ltK at *
    omega
  ntrans x y z h1 h2 := by
    have g1 : ¬ ltK x y := fun q => by rw [(ltOfK _ _).2 q] at h1; cases h1
    have g2 : ¬ ltK y z := fun q => by rw [(ltOfK _ _).2 q] at h2; cases h2
    cases h : ltOf cmpK x z with
    | false => rfl
    | true =>
      have := (ltOfK _ _).1 h
      unfold ltK at *
      omega
set_option maxRecDepth 100000 in
set_option maxHeartbeats 4000000 in
theorem srtK_any {v : Value} {C : Nat} {ps : List (Int × Int)} (hown : W.ownsRow C KT 2 v ps.length (flatP ps)) (hlt : ps.length ≤ 4096) :
    Calls Try.prog 31 #[v, .func (.func 34) #[] #[]] W fun e w' => e = .returned (.tuple #[]) ∧ ∃ qs, qs.Perm ps ∧ qs.Pairwise (fun p q => ¬ ltK q p) ∧ w'.ownsRow C KT 2 v ps.length (flatP qs) ∧ Out (fun g => v.ownBlock = some g) W w' := by
  by_cases h0 : ps = []
  · subst h0
    obtain ⟨ao, cap, hv⟩ : ∃ ao cap, v = .slice ao 0 cap := by
      rcases hown.2 with ⟨q, _⟩ | ⟨g, cap, cur, q, _⟩
      · exact ⟨none, 0, q⟩
      · exact ⟨_, cap, q⟩
    subst hv
    have hcon := AnyF.slices_SortFunc_none Try.sortK ao cap (.func (.func 34) #[] #[]) W
    change Calls Try.prog 31 _ _ _ at hcon
    refine hcon.mono ?_
    rintro e w' ⟨rfl, rfl⟩
    exact ⟨rfl, [], List.Perm.refl _, List.Pairwise.nil, hown, Out.refl _ _⟩
  · obtain ⟨d, hd⟩ : ∃ d, d = ps.toArray := ⟨_, rfl⟩
    have hdl : d.toList = ps := by rw [hd]
    have hds : d.size = ps.length := by rw [hd]; simp
    have hk : ∀ b, (encP b).length = 2 := fun _ => rfl
    have hfl : ∀ l : List (Int × Int), l.flatMap encP = flatP l := fun _ => rfl
    obtain ⟨g, cap, hv⟩ : ∃ g cap, v = .slice (some ⟨g, 0, none⟩) ps.length cap := by
      rcases hown.2 with ⟨q, q2⟩ | ⟨g, cap, cur, q, _⟩
      · exact absurd (List.eq_nil_of_length_eq_zero q2) h0
      · exact ⟨g, cap, q⟩
    subst hv
    obtain ⟨hgC, cur, hcur⟩ := own_blo hown (g := g) rfl
    have hH : HoldsK encP 2 W g 0 d := by
      intro j hj
      rw [size_flatK, hds] at hj
      have h1 := hown.cellAt j hj
      rw [Nat.zero_add]
      refine ⟨?_, hown.frozenAt j⟩
      have hj' : j < (flatK encP 2 d).size := by rw [size_flatK, hds]; exact hj
      rw [h1, ← hfl, ← hdl, ← flatK_list _ hk, Array.getElem?_toList, Array.getElem?_eq_getElem hj', getElem!_pos _ j hj']
      rfl
    have eg : ∀ args w, (callFunc 34 args).run Try.prog w = .ok (.enter 34 args) w := enters_of Try.func34 (by kernel_rfl) rfl
    have hcmp : CmpLays Try.prog 34 #[] encP 2 cmpK g 0 d.size W := fun m os dk _ b c => byKey_any b c _
    have hcon := AnyQ.slices_SortFunc Try.sortK 2 Try.isAgg34 Try.sizeOf34 encP hk (fun b u hu => by simp [encP] at hu; rcases hu with rfl | rfl <;> rfl) cmpK swoK 34 #[] g 0 cap d W eg hcmp hH hcur.lt (by omega)
    change Calls Try.prog 31 _ _ _ at hcon
    rw [hds] at hcon
    refine hcon.mono ?_
    rintro e w' ⟨rfl, d', n, os, hp, hs, rfl⟩
    have hp1 : d'.size = d.size := hp.1
    have hp2 : d'.toList.Perm d.toList := by
      have := hp.2.2
      rw [show d'.extract 0 ps.length = d' by rw [← hds, ← hp1]; simp, show d.extract 0 ps.length = d by rw [← hds]; simp] at this
      exact this
    have ho := out_sort encP W g n d' os
    refine ⟨rfl, d'.toList, by rw [← hdl]; exact hp2, ?_, ?_, ho.mono fun i _ e => by rw [e]; rfl⟩
    · rw [List.pairwise_iff_getElem]
      intro i j hi hj hij
      have := hs i j (Nat.zero_le _) hij (by rw [← hds, ← hp1]; simpa using hj)
      rw [getElem!_pos d' j (by simpa using hj), getElem!_pos d' i (by simpa using hi)] at this
      intro q
      have := (ltOfK _ _).2 q
      simp_all
    · have hown' : W.ownsRow C KT 2 (.slice (some ⟨g, 0, none⟩) d.size cap) d.size (flatP ps) := by rw [hds]; exact hown
      have := own_sort encP hk (m := n) (os := os) hown' hH hp1
      rw [hfl, hds] at this
      exact this
end
end Go.Proofs.Ytdnkeplmjimjcaa
/-
  Order.
-/
namespace Go.Proofs.Ytdnkeplmjimjcaa
open Go.RowKit

section
variable {w w' W : World} {bc bm base b : Nat} {room uses : Int} {N T : Nat} {x : Sx} {L : List Bk}
/-- What Order leaves. -/
def OrO (w : World) (ps : List (Int × Int)) (e : Ending) (w' : World) : Prop :=
  ∃ a cap, e = .returned (.slice a ps.length cap) ∧ w'.ownsRow w.heap.size KT 2 (.slice a ps.length cap) ps.length (flatP ps) ∧ Below w.heap.size w w'
set_option maxRecDepth 100000 in
set_option maxHeartbeats 4000000 in
theorem order_any (h : CA w bc bm base room N T L) : Calls Try.prog 18 #[.pointer (some ⟨bc, 0, none⟩)] w (OrO w (L.map Bk.key)) := by
  obtain ⟨x, hC, rfl⟩ := h
  have hlen := hC.km.len 3
  obtain ⟨w1, hw1⟩ : ∃ w1, w1 = w.alloc (.cells #[.pointer (some ⟨bc, 0, none⟩)] PC) := ⟨_, rfl⟩
  have hb1 : Below w.heap.size w w1 := by rw [hw1]; exact sup_pc9 w _
  have hs1 : w1.heap.size = w.heap.size + 1 := by rw [hw1]; simp
  have hX : Blo w1 w.heap.size PC #[.pointer (some ⟨bc, 0, none⟩)] := by rw [hw1]; exact blo_laid w _ _
  have hC1 := hC.later hb1
  have c0 := hX.cell 0
  obtain ⟨-, c1, -, -⟩ := hC1.cb.cell
  have k1 := hC1.km.len 3
  rw [hC.ps.len] at k1
  have hn : x.bs.length ≤ 4096 := by have := hC.ps.rm; omega
  obtain ⟨i, hi0, hz, hsz, hby⟩ := info_parts info_kt
  obtain ⟨w2, hmk, hown, hg2⟩ := run_make_own (P := Try.prog) w1 (w.heap.size + 1) KSL KT i _ 2 Try.underlying48 hi0 hz hsz .i64 .i64 x.bs.length (by rw [hby]; omega) (by unfold maxLen; omega) (by omega)
  have hb2 : Below w1.heap.size w1 w2 := ⟨hg2.os, hg2.tape, hg2.output, hg2.size, fun i hi => hg2.block i hi (by simp)⟩
  have hC2 := hC1.later hb2
  have c2 := cell_later hb2 c0
  have c3 := cell_later hb2 c1
  obtain ⟨w3, hrg, ⟨cnt0, hkr⟩, hb3, hs3⟩ := hC2.km.range
  have HSt : Hid (OrR w bc bm base room N T x w2.heap.size (.slice (some ⟨w1.heap.size, 0, none⟩) 0 x.bs.length) w3) :=
    ⟨[], cnt0, own_later hown hb3, hkr, hC2.later hb3, (hX.later hb2).later hb3, (hb1.trans (hb2.mono hb1.size)).trans (hb3.mono (Nat.le_trans hb1.size hb2.size)), by simp, by have := hb2.size; omega⟩
  clear hC hC1 hC2 hX hlen hown hg2 hb2 hkr hb3 hi0 hz hsz hby hb1 hs3
  go_enter Try.func18, Try.ntmps18
  go_upto_region 1 with (fail)
  rw [← hw1]
  clear hw1
  clear hs1
  generalize w1.heap.size = gr0 at *
  generalize w2.heap.size = r at *
  go_wp2_with fail
  clear c0 c1 c2 c3 k1 hmk hrg
  go_loopw [3] (fun v wr => OrR w bc bm base room N T x r v wr) (fun _ wr => wr.rangeLeft bm r)
  case atStart => exact HSt.out
  case round =>
    clear HSt
    obtain ⟨done, cnt, hS⟩ := hrel
    have HS := Lib.hid hS
    clear hS
    rcases HS.out.kr.next 0 with ⟨hall, hrun⟩ | ⟨p, b, w', cnt', hwf, hfb, hnin, hrun, hkr', hlt, hgr, hsz, hen⟩
    · have HAll := Lib.hid hall
      clear hall
      obtain ⟨-, hnd, hin⟩ : True ∧ done.Nodup ∧ ∀ p ∈ done, (x.f p).isSome = true := by
        obtain ⟨D, left, _, _, _, h4, h5⟩ := HS.out.kr
        exact ⟨trivial, h4, h5⟩
      have HSo := Lib.hid (srt_any HS.out.cs HS.out.box HS.out.own hnd hin HAll.out)
      clear hnd hin
      go_wp2_with fail
      refine HSo.out.mono ?_
      rintro e w7 ⟨rfl, hown, ho⟩
      have HE : Hid (OrO w ((lstK x.S x.bs).map Bk.key) (.returned u3) w7) := by
        have hl : ((lstK x.S x.bs).map Bk.key) = x.bs.map fun b => keyB (x.S b) := by
          unfold lstK
          rw [List.map_map]
          rfl
        have hll : ((lstK x.S x.bs).map Bk.key).length = x.bs.length := by rw [hl]; simp
        obtain ⟨a, cap, rfl, -⟩ := own_slice hown
        refine ⟨a, cap, by rw [hll], ?_, ?_⟩
        · rw [hll, hl]
          refine ⟨hown.1, ?_⟩
          rcases hown.2 with q | ⟨g, c, cur, q, q2, q3⟩
          · exact .inl q
          · exact .inr ⟨g, c, cur, q, Nat.le_of_succ_le q2, q3⟩
        · refine HS.out.below.trans (ho.below HS.out.below.size (fun g _ hg => ?_))
          have := (own_blo HS.out.own hg).1
          omega
      clear HSo hown ho HS HAll
      go_wp2_with fail
      go_ret
      exact HE.out
    · obtain ⟨ki, kl⟩ := p
      unfold keyV at hrun hen
      obtain ⟨h1, h2, h3, h4⟩ := HS.out.step hgr hkr'
      have hb5 : Below w'.heap.size w' ((w'.alloc (.cells #[.int .i64 ki, .int .i64 kl] KT)).alloc (.cells #[.int .i64 ki, .int .i64 kl] KT)) := (sup_pc9 w' _).alloc (by simp) _
      have HO6 := Lib.hid (own_later h1 hb5)
      have HSrc : Hid (∀ ad, some (⟨w'.heap.size + 1, 0, none⟩ : Addr) = some ad → ∀ j u, (flatP [(ki, kl)])[j]? = some u → ((w'.alloc (.cells #[.int .i64 ki, .int .i64 kl] KT)).alloc (.cells #[.int .i64 ki, .int .i64 kl] KT)).cell? (ad.add j) = some u) := by
        have := laid_srcO (w'.alloc (.cells #[.int .i64 ki, .int .i64 kl] KT)) KT #[.int .i64 ki, .int .i64 kl] (flatP [(ki, kl)]) rfl
        rw [show (w'.alloc (.cells #[.int .i64 ki, .int .i64 kl] KT)).heap.size = w'.heap.size + 1 by simp] at this
        exact this
      have HS6 := Lib.hid (And.intro (h2.later hb5) (And.intro (h3.later hb5) (And.intro (h4.trans (hb5.mono h4.size)) (And.intro (hkr'.later hb5) (And.intro HS.out.rl (And.intro hlt HS.out.lt))))))
      have HM := Lib.hid HS.out.kr.left_eq
      have HBs : Hid (w.heap.size + 1 ≤ ((w'.alloc (.cells #[.int .i64 ki, .int .i64 kl] KT)).alloc (.cells #[.int .i64 ki, .int .i64 kl] KT)).heap.size) := by
        have := HS.out.rl
        have := HS.out.kr.lt
        have := hb5.size
        show w.heap.size + 1 ≤ _
        omega
      clear h1 h2 h3 h4 hb5 hkr' hlt hgr hnin hfb hwf hsz
      have HLt := Lib.hid HS.out.lt
      go_wp2_with (at_builtin; refine wp_append_rowO rfl (.tmp 20) (.tmp 22) KSL rfl (w.heap.size + 1) KT (.agg #[.int .i64 0, .int .i64 0]) 2 16 Try.underlying48 info_kt rfl (by decide) (by decide) u3 done.length (flatP done) rfl HO6.out (some ⟨w'.heap.size + 1, 0, none⟩) 1 1 (flatP [(ki, kl)]) rfl rfl HSrc.out (flatP_one _) (fun h => by cases h) (by have := HLt.out; omega) HBs.out ?_; intro a7 c7 w7 hown hgrow _; have HS7 : Hid (OrS w bc bm base room N T x r (.slice a7 (done.length + 1) c7) (done ++ [(ki, kl)]) cnt' w7) := OrS.app HO6.out HS6.out.1 HS6.out.2.1 HS6.out.2.2.1 HS6.out.2.2.2.1 HS6.out.2.2.2.2.1 hown hgrow; clear hown hgrow)
      go_roundw
      case rel => exact ⟨_, _, HS7.out⟩
      case measure =>
        rw [HS7.out.kr.left_eq, HM.out]
        exact HS6.out.2.2.2.2.2.1
end
end Go.Proofs.Ytdnkeplmjimjcaa
/-
  Dirty.
-/
namespace Go.Proofs.Ytdnkeplmjimjcaa
open Go.RowKit

/-- Is a key's buffer dirty? -/
def dtyP (x : Sx) (p : Int × Int) : Bool := match x.f p with | some b => (x.S b).dirty | none => false
section
variable {w w' W : World} {bc bm base b : Nat} {room uses : Int} {N T : Nat} {x : Sx} {L : List Bk}
structure DtS (w : World) (bc bm base : Nat) (room : Int) (N T : Nat) (x : Sx) (r : Nat) (v : Value) (done : List (Int × Int)) (cnt : Nat) (wr : World) : Prop where
  own : wr.ownsRow w.heap.size KT 2 v (done.filter (dtyP x)).length (flatP (done.filter (dtyP x)))
  kr : KR wr bm r x.n x.f done cnt
  cs : CS wr bc bm base room N T x
  below : Below w.heap.size w wr
  lt : done.length ≤ 4096
  rl : w.heap.size ≤ r
def DtR (w : World) (bc bm base : Nat) (room : Int) (N T : Nat) (x : Sx) (r : Nat) (v : Value) (wr : World) : Prop :=
  ∃ (done : List (Int × Int)) (cnt : Nat), DtS w bc bm base room N T x r v done cnt wr
theorem DtS.step {r : Nat} {v : Value} {done : List (Int × Int)} {cnt : Nat} {wr : World} (h : DtS w bc bm base room N T x r v done cnt wr) {cnt' : Nat} {p : Int × Int} (hg : wr.grownBy w' (some r)) (_ : KR w' bm r x.n x.f (done ++ [p]) cnt') :
    w'.ownsRow w.heap.size KT 2 v (done.filter (dtyP x)).length (flatP (done.filter (dtyP x))) ∧ CS w' bc bm base room N T x ∧ Below w.heap.size w w' := by
  have ho : Out (fun g => g = r) wr w' := Out.of_grown hg (fun g e => by cases e; rfl)
  refine ⟨ho.own h.own (fun g hg e => ?_), h.cs.out ho (fun g hg e => ?_), h.below.trans (ho.below h.below.size (fun g _ e => by have := h.rl; omega))⟩
  · obtain ⟨-, cs, hb⟩ := own_blo h.own hg
    exact h.kr.blo hb e.symm
  · rcases hg.2 with q | q | ⟨t, cs, q, _⟩
    · exact h.kr.blo h.cs.cb (by rw [← e, q])
    · exact h.kr.ne (by rw [← e, q])
    · exact h.kr.blo q e.symm
theorem filt_yes {done : List (Int × Int)} {p : Int × Int} (h : dtyP x p = true) : (done ++ [p]).filter (dtyP x) = done.filter (dtyP x) ++ [p] := by simp [h]
theorem filt_no {done : List (Int × Int)} {p : Int × Int} (h : dtyP x p = false) : (done ++ [p]).filter (dtyP x) = done.filter (dtyP x) := by simp [h]
theorem DtS.app {r : Nat} {v v' : Value} {done : List (Int × Int)} {w6 w7 : World} {cnt' : Nat} {p : Int × Int} (h1 : w6.ownsRow w.heap.size KT 2 v (done.filter (dtyP x)).length (flatP (done.filter (dtyP x)))) (h2 : CS w6 bc bm base room N T x) (h4 : Below w.heap.size w w6) (hk : KR w6 bm r x.n x.f (done ++ [p]) cnt') (hr : w.heap.size ≤ r) (hd : dtyP x p = true)
    (hown : w7.ownsRow w.heap.size KT 2 v' ((done.filter (dtyP x)).length + 1) (flatP (done.filter (dtyP x)) ++ flatP [p])) (hg : w6.grownBy w7 v.ownBlock) : DtS w bc bm base room N T x r v' (done ++ [p]) cnt' w7 := by
  have ho : Out (fun g => v.ownBlock = some g) w6 w7 := Out.of_grown hg (fun g e => e)
  have hx : ∀ g, v.ownBlock = some g → w.heap.size ≤ g ∧ ∃ cs, Blo w6 g KT cs := fun g e => own_blo h1 e
  refine ⟨?_, hk.kept hg (fun e => ?_) (fun e => ?_), h2.out ho (fun g hg e => ?_), h4.trans (ho.below h4.size (fun g _ e => by have := (hx g e).1; omega)), h2.few hk, hr⟩
  · rw [filt_yes hd, List.length_append, flatP_app]
    exact hown
  · obtain ⟨-, cs, hb⟩ := hx bm e.symm
    exact h2.km.blo hb rfl
  · obtain ⟨-, cs, hb⟩ := hx r e.symm
    exact hk.blo hb rfl
  · obtain ⟨-, cs, hb⟩ := hx g e
    exact (xcs_key h2 hb) hg
/-- The keys of the dirty ones, rising. -/
def DtK (L : List Bk) (qs : List (Int × Int)) : Prop := qs.Perm ((L.filter fun s => s.dirty).map Bk.key) ∧ qs.Pairwise (fun p q => ¬ ltK q p)
def DtO (w : World) (L : List Bk) (e : Ending) (w' : World) : Prop := ∃ qs, DtK L qs ∧ OrO w qs e w'
theorem dt_perm {done : List (Int × Int)} (hC : CS W bc bm base room N T x) (hnd : done.Nodup) (hin : ∀ p ∈ done, (x.f p).isSome = true) (hall : ∀ p, wfK p → (x.f p).isSome = true → p ∈ done) :
    (done.filter (dtyP x)).Perm (((lstK x.S x.bs).filter fun s => s.dirty).map Bk.key) := by
  have h1 : ((lstK x.S x.bs).filter fun s => s.dirty).map Bk.key = (x.bs.map fun b => keyB (x.S b)).filter (dtyP x) := by
    unfold lstK
    rw [List.filter_map, List.map_map, List.filter_map]
    congr 1
    apply List.filter_congr
    intro b hb
    show (x.S b).dirty = dtyP x (keyB (x.S b))
    unfold dtyP
    rw [(hC.ps.key _ b).2 ⟨hb, rfl⟩]
  rw [h1]
  refine List.Perm.filter _ ((List.perm_ext_iff_of_nodup hnd ?_).2 (fun p => ?_))
  · rw [List.nodup_iff_pairwise_ne, List.pairwise_map]
    exact List.Pairwise.imp_of_mem (fun {b c} hb hc hne e => hne (hC.ps.inj hb hc e)) (List.nodup_iff_pairwise_ne.1 hC.ps.nodup)
  · rw [List.mem_map]
    constructor
    · intro hp
      obtain ⟨b, hb⟩ := Option.isSome_iff_exists.1 (hin p hp)
      obtain ⟨q1, q2⟩ := (hC.ps.key p b).1 hb
      exact ⟨b, q1, q2⟩
    · rintro ⟨b, hb, rfl⟩
      exact hall _ (hC.ps.wf b hb) (by rw [(hC.ps.key _ b).2 ⟨hb, rfl⟩]; rfl)
set_option maxRecDepth 100000 in
set_option maxHeartbeats 4000000 in
theorem dirty_any (h : CA w bc bm base room N T L) : Calls Try.prog 20 #[.pointer (some ⟨bc, 0, none⟩)] w (DtO w L) := by
  obtain ⟨x, hC, rfl⟩ := h
  obtain ⟨-, c1, -, -⟩ := hC.cb.cell
  obtain ⟨w3, hrg, ⟨cnt0, hkr⟩, hb3, hs3⟩ := hC.km.range
  have HSt : Hid (DtR w bc bm base room N T x w.heap.size (.slice none 0 0) w3) :=
    ⟨[], cnt0, World.ownsRow_nil _ _ _ _, hkr, hC.later hb3, hb3, by simp, Nat.le_refl _⟩
  clear hC hkr hb3 hs3
  generalize hr0 : w.heap.size = r at *
  go_enter Try.func20, Try.ntmps20
  go_wp2_with fail
  clear c1 hrg
  have HRr := Lib.hid hr0
  clear hr0
  go_loopw [3] (fun v wr => DtR w bc bm base room N T x r v wr) (fun _ wr => wr.rangeLeft bm r)
  case atStart => exact HSt.out
  case round =>
    clear HSt
    obtain ⟨done, cnt, hS⟩ := hrel
    have HS := Lib.hid hS
    clear hS
    rcases HS.out.kr.next 0 with ⟨hall, hrun⟩ | ⟨p, b, w', cnt', hwf, hfb, hnin, hrun, hkr', hlt, hgr, hsz, hen⟩
    · have HAll := Lib.hid hall
      clear hall
      obtain ⟨-, hnd, hin⟩ : True ∧ done.Nodup ∧ ∀ p ∈ done, (x.f p).isSome = true := by
        obtain ⟨D, left, _, _, _, h4, h5⟩ := HS.out.kr
        exact ⟨trivial, h4, h5⟩
      have HPm := Lib.hid (dt_perm HS.out.cs hnd hin HAll.out)
      have HSo := Lib.hid (srtK_any HS.out.own (Nat.le_trans (List.length_filter_le _ _) HS.out.lt))
      clear hnd hin
      go_wp2_with fail
      refine HSo.out.mono ?_
      rintro e w7 ⟨rfl, qs, hp, hpw, hown, ho⟩
      have HE : Hid (DtO w (lstK x.S x.bs) (.returned u3) w7) := by
        have hl : (done.filter (dtyP x)).length = qs.length := hp.length_eq.symm
        rw [hl] at hown
        obtain ⟨a, cap, rfl, -⟩ := own_slice hown
        refine ⟨qs, ⟨hp.trans HPm.out, hpw⟩, a, cap, rfl, hown, HS.out.below.trans (ho.below HS.out.below.size (fun g _ hg => ?_))⟩
        exact (own_blo HS.out.own hg).1
      clear HSo hown ho HS HAll HPm hp hpw
      go_wp2_with fail
      go_ret
      exact HE.out
    · obtain ⟨ki, kl⟩ := p
      unfold keyV at hrun hen
      obtain ⟨h1, h2, h4⟩ := HS.out.step hgr hkr'
      obtain ⟨hbm, hbk⟩ := (HS.out.cs.ps.key _ b).1 hfb
      obtain ⟨aB, hB⟩ := h2.buf hbm
      have hdp : dtyP x (ki, kl) = (x.S b).dirty := by unfold dtyP; rw [hfb]
      have hb5 : Below w'.heap.size w' (w'.alloc (.cells #[.int .i64 ki, .int .i64 kl] KT)) := sup_pc9 w' _
      obtain ⟨-, -, cd, -, -, -⟩ := (hB.later hb5).cells
      rw [← hdp] at cd
      have hb6 : Below w'.heap.size w' ((w'.alloc (.cells #[.int .i64 ki, .int .i64 kl] KT)).alloc (.cells #[.int .i64 ki, .int .i64 kl] KT)) := hb5.alloc (by simp) _
      have HO6 := Lib.hid (own_later h1 hb6)
      have HSrc : Hid (∀ ad, some (⟨w'.heap.size + 1, 0, none⟩ : Addr) = some ad → ∀ j u, (flatP [(ki, kl)])[j]? = some u → ((w'.alloc (.cells #[.int .i64 ki, .int .i64 kl] KT)).alloc (.cells #[.int .i64 ki, .int .i64 kl] KT)).cell? (ad.add j) = some u) := by
        have := laid_srcO (w'.alloc (.cells #[.int .i64 ki, .int .i64 kl] KT)) KT #[.int .i64 ki, .int .i64 kl] (flatP [(ki, kl)]) rfl
        rw [show (w'.alloc (.cells #[.int .i64 ki, .int .i64 kl] KT)).heap.size = w'.heap.size + 1 by simp] at this
        exact this
      have HS6 := Lib.hid (And.intro (h2.later hb6) (And.intro (h4.trans (hb6.mono h4.size)) (And.intro (hkr'.later hb6) (And.intro HS.out.rl (And.intro hlt HS.out.lt)))))
      have HM := Lib.hid HS.out.kr.left_eq
      have HBs : Hid (w.heap.size ≤ ((w'.alloc (.cells #[.int .i64 ki, .int .i64 kl] KT)).alloc (.cells #[.int .i64 ki, .int .i64 kl] KT)).heap.size) := by
        have := h4.size
        have := hb6.size
        show w.heap.size ≤ _
        omega
      have HLt : Hid ((done.filter (dtyP x)).length ≤ 4096) := Lib.hid (Nat.le_trans (List.length_filter_le _ _) HS.out.lt)
      cases hdb : dtyP x (ki, kl) with
      | true =>
        have HD := Lib.hid hdb
        rw [hdb] at cd
        clear h1 h2 h4 hb5 hb6 hkr' hlt hgr hnin hfb hwf hsz hbm hbk hB hdp hdb
        go_wp2_with (at_builtin; refine wp_append_rowO rfl (.tmp 20) (.tmp 22) KSL rfl w.heap.size KT (.agg #[.int .i64 0, .int .i64 0]) 2 16 Try.underlying48 info_kt rfl (by decide) (by decide) u3 (done.filter (dtyP x)).length (flatP (done.filter (dtyP x))) rfl HO6.out (some ⟨w'.heap.size + 1, 0, none⟩) 1 1 (flatP [(ki, kl)]) rfl rfl HSrc.out (flatP_one _) (fun h => by cases h) (by have := HLt.out; omega) HBs.out ?_; intro a7 c7 w7 hown hgrow _; have HS7 : Hid (DtS w bc bm base room N T x r (.slice a7 ((done.filter (dtyP x)).length + 1) c7) (done ++ [(ki, kl)]) cnt' w7) := DtS.app HO6.out HS6.out.1 HS6.out.2.1 HS6.out.2.2.1 HS6.out.2.2.2.1 HD.out hown hgrow; clear hown hgrow)
        go_roundw
        case rel => exact ⟨_, _, HS7.out⟩
        case measure =>
          rw [HS7.out.kr.left_eq, HM.out]
          exact HS6.out.2.2.2.2.1
      | false =>
        have HD := Lib.hid hdb
        rw [hdb] at cd
        have HS7 : Hid (DtS w bc bm base room N T x r u3 (done ++ [(ki, kl)]) cnt' (w'.alloc (.cells #[.int .i64 ki, .int .i64 kl] KT))) := by
          refine ⟨?_, hkr'.later hb5, h2.later hb5, h4.trans (hb5.mono h4.size), h2.few hkr', HS.out.rl⟩
          rw [filt_no HD.out]
          exact own_later h1 hb5
        clear h1 h2 h4 hb5 hb6 hkr' hgr hnin hfb hwf hsz hbm hbk hB hdp hdb
        have HLt2 := Lib.hid hlt
        clear hlt
        go_wp2_with fail
        go_roundw
        case rel => exact ⟨_, _, HS7.out⟩
        case measure =>
          rw [HS7.out.kr.left_eq, HM.out]
          exact HLt2.out
end
end Go.Proofs.Ytdnkeplmjimjcaa
/-
  The document's Dirty in numbers: a key is put to its place.
-/
namespace Go.Proofs.Ytdnkeplmjimjcaa
open Go.RowKit

theorem flatP_set {M : List (Int × Int)} {i : Nat} {t s : Int × Int} (ht : M[i]? = some t) : (flatP M).take (i * 2) ++ flatP [s] ++ (flatP M).drop (i * 2 + (flatP [s]).length) = flatP (M.set i s) := by
  obtain ⟨hi, he⟩ := List.getElem?_eq_some_iff.1 ht
  have e : M = M.take i ++ t :: M.drop (i + 1) := by rw [← he, List.getElem_cons_drop, List.take_append_drop]
  have hl : (M.take i).length = i := by rw [List.length_take]; omega
  generalize M.take i = A at *
  generalize M.drop (i + 1) = B at *
  subst e
  subst hl
  rw [List.set_append_right _ _ (Nat.le_refl _), Nat.sub_self, List.set_cons_zero, flatP_app, flatP_app]
  have h1 : (flatP A).length = A.length * 2 := flatP_len A
  have h2 : ∀ x : Int × Int, flatP (x :: B) = flatP [x] ++ flatP B := fun x => flatP_app [x] B
  rw [h2, h2, List.take_left' h1, List.append_assoc]
  congr 1
  congr 1
  rw [show A.length * 2 + (flatP [s]).length = (flatP A ++ flatP [t]).length by rw [List.length_append, flatP_len, flatP_len, flatP_len]; rfl, ← List.append_assoc, List.drop_left]
/-- The row with the key x on its way down: it stands behind A. -/
structure InsS (A B : List (Int × Int)) (x : Int × Int) : Prop where
  srt : (A ++ B).Pairwise (fun p q => ¬ ltK q p)
  far : ∀ b ∈ B, ltK x b
theorem InsS.step {A B : List (Int × Int)} {x y : Int × Int} (h : InsS (A ++ [y]) B x) (hxy : ltK x y) : InsS A (y :: B) x :=
  ⟨by have := h.srt; rwa [List.append_assoc] at this, fun b hb => by
    rcases List.mem_cons.1 hb with e | hb
    · rw [e]; exact hxy
    · exact h.far b hb⟩
theorem ltK_trans {p q r : Int × Int} (h1 : ¬ ltK q p) (h2 : ¬ ltK r q) : ¬ ltK r p := by
  unfold ltK at *
  omega
theorem ltK_asym {p q : Int × Int} (h : ltK p q) : ¬ ltK q p := by
  unfold ltK at *
  omega
theorem InsS.done {A B : List (Int × Int)} {x : Int × Int} (h : InsS A B x) (hA : A = [] ∨ ∃ A' y, A = A' ++ [y] ∧ ¬ ltK x y) : (A ++ x :: B).Pairwise (fun p q => ¬ ltK q p) := by
  have hs := h.srt
  rw [List.pairwise_append] at hs ⊢
  obtain ⟨s1, s2, s3⟩ := hs
  refine ⟨s1, List.pairwise_cons.2 ⟨fun b hb => ltK_asym (h.far b hb), s2⟩, fun a ha b hb => ?_⟩
  rcases List.mem_cons.1 hb with e | hb
  · subst e
    rcases hA with e | ⟨A', y, e, hy⟩
    · rw [e] at ha; cases ha
    · subst e
      rcases List.mem_append.1 ha with ha | ha
      · have := (List.pairwise_append.1 s1).2.2 a ha y (List.mem_singleton.2 rfl)
        exact ltK_trans this hy
      · rw [List.mem_singleton.1 ha]; exact hy
  · exact s3 a ha b hb
theorem dtk_uniq {L : List Bk} {ps qs : List (Int × Int)} (h1 : DtK L ps) (h2 : DtK L qs) : ps = qs :=
  (h1.1.trans h2.1.symm).eq_of_pairwise (fun a b _ _ p q => by
    obtain ⟨a1, a2⟩ := a
    obtain ⟨b1, b2⟩ := b
    unfold ltK at p q
    have e1 : a1 = b1 := by simp only at p q; omega
    have e2 : a2 = b2 := by simp only at p q; omega
    rw [e1, e2]) h1.2 h2.2
/-- One more buffer is looked at. -/
theorem dtk_no {L : List Bk} {qs : List (Int × Int)} {i : Nat} {s : Bk} (h : DtK (L.take i) qs) (hs : L[i]? = some s) (hd : s.dirty = false) : DtK (L.take (i + 1)) qs := by
  have e : (L.take (i + 1)).filter (fun s => s.dirty) = (L.take i).filter (fun s => s.dirty) := by
    rw [List.take_add_one, hs, List.filter_append]
    simp [hd]
  unfold DtK at *
  rw [e]
  exact h
theorem dtk_yes {L : List Bk} {qs A B : List (Int × Int)} {i : Nat} {s : Bk} (h : DtK (L.take i) qs) (hs : L[i]? = some s) (hd : s.dirty = true) (hp : (A ++ s.key :: B).Perm (qs ++ [s.key])) (hsrt : (A ++ s.key :: B).Pairwise (fun p q => ¬ ltK q p)) : DtK (L.take (i + 1)) (A ++ s.key :: B) := by
  refine ⟨hp.trans ?_, hsrt⟩
  have e : ((L.take (i + 1)).filter (fun s => s.dirty)).map Bk.key = ((L.take i).filter (fun s => s.dirty)).map Bk.key ++ [s.key] := by
    rw [List.take_add_one, hs, List.filter_append, List.map_append]
    simp [hd]
  rw [e]
  exact h.1.append_right _
theorem dtk_len {L : List Bk} {qs : List (Int × Int)} {i : Nat} (h : DtK (L.take i) qs) : qs.length ≤ i := by
  rw [h.1.length_eq, List.length_map]
  exact Nat.le_trans (List.length_filter_le _ _) (by rw [List.length_take]; omega)
theorem perm_swap {A B : List (Int × Int)} {x y : Int × Int} : (A ++ x :: y :: B).Perm (A ++ [y] ++ x :: B) := by
  rw [List.append_assoc]
  exact (List.Perm.swap y x B).append_left A
/-- The two cells of a key in a row of one's own. -/
theorem own_keyD {W : World} {base g n cap i : Nat} {e : TypeId} {M : List (Int × Int)} {q : Int × Int} (h : W.ownsRow base e 2 (.slice (some ⟨g, 0, none⟩) n cap) n (flatP M)) (hq : M[i]? = some q) : W.cell? ⟨g, i * 2, none⟩ = some (.int .i64 q.1) ∧ W.cell? ⟨g, i * 2 + 1, none⟩ = some (.int .i64 q.2) := by
  obtain ⟨hi, he⟩ := List.getElem?_eq_some_iff.1 hq
  have e2 : M = M.take i ++ q :: M.drop (i + 1) := by rw [← he, List.getElem_cons_drop, List.take_append_drop]
  have hl : (flatP (M.take i)).length = i * 2 := by rw [flatP_len, List.length_take]; omega
  have hn : M.length * 2 = n * 2 := by rw [← flatP_len]; exact h.1
  have f : ∀ j, j < 2 → W.cell? ⟨g, i * 2 + j, none⟩ = ([.int .i64 q.1, .int .i64 q.2] : List Value)[j]? := fun j hj => by
    rw [h.cellAt (i * 2 + j) (by omega), e2, flatP_app, List.getElem?_append_right (by omega), hl, Nat.add_sub_cancel_left, show flatP (q :: M.drop (i + 1)) = [.int .i64 q.1, .int .i64 q.2] ++ flatP (M.drop (i + 1)) from rfl, List.getElem?_append_left (by simpa using hj)]
  exact ⟨f 0 (by decide), f 1 (by decide)⟩
end Go.Proofs.Ytdnkeplmjimjcaa
/-
  A slice of structs that came in, field by field, with the form's own reach of what the fields hold; slices of bytes and of bools within.
-/
namespace Go.Proofs.Ytdnkeplmjimjcaa
open Go.RowKit

theorem weightsAll_mem {H : Type} {P : Program} {e : TypeId} : ∀ {l : List (DataW H)} {d : DataW H}, d ∈ l → ∀ n ∈ d.weights P e, n ∈ DataW.weightsAll P e l
  | c :: r, d, hd, n, hn => by
    simp only [DataW.weightsAll, List.mem_append]
    rcases List.mem_cons.1 hd with rfl | h
    · exact Or.inl hn
    · exact Or.inr (weightsAll_mem h n hn)
  | [], _, hd, _, _ => by cases hd
section
open Go.ChangeShapes Go.WideShapes Go.Deep
variable {H : Type} {enc : TypeId × Value → H} {P : Program} {w : World} {base : Nat} {held : Bool}
theorem open_structs {t e : TypeId} {fs : Array Field} {fuel : Nat} {cs : List Value} {x : DataW H × List MemPlace} (ht : P.underlying t = some (.slice e)) (he : P.underlying e = some (.struct fs))
    (h : DataW.trod enc P w base (fun _ => true) held fuel t cs = some x) :
    ∃ (a : Option Addr) (len cap : Nat), cs = [.slice a len cap] ∧ (a = none → len = 0 ∧ cap = 0) ∧ len ≤ cap ∧ cap ≤ 9223372036854775807 ∧
      ∀ ad, a = some ad → ∀ i, i < len → ∃ C : List Value, C.length = P.cellsOf e ∧ (∀ j v, C[j]? = some v → w.cell? (ad.add (i * P.cellsOf e + j)) = some v) ∧
        ∀ (k : Nat) (f : Field), fs[k]? = some f → ∃ y n, DataW.trod enc P w base (fun _ => true) held n f.type ((C.drop f.offset).take (P.cellsOf f.type)) = some y ∧ ∀ q ∈ y.1.weights P f.type, q ∈ x.1.weights P t := by
  have hmx : (maxLen : Nat) = 9223372036854775807 := by decide
  rcases open_slice ht h with ⟨rfl, _⟩ | ⟨a, len, cap, m, n, D, Pl, rfl, _, hl, hm, hmm, rfl, hi⟩
  · exact ⟨none, 0, 0, rfl, fun _ => ⟨rfl, rfl⟩, by omega, by omega, fun ad h => by cases h⟩
  · refine ⟨some a, len, cap, rfl, fun h => (by cases h), hl, by omega, fun ad had i hlt => ?_⟩
    cases had
    have hlm : len ≤ m := by rw [hmm]; split <;> omega
    obtain ⟨cs', hc, ht'⟩ := hi i (by omega)
    obtain ⟨_, hcl, hat⟩ := World.cells?_some hc
    obtain ⟨xs, m', _, hx, _, hn, hel⟩ := DataW.trod_struct he ht'
    refine ⟨cs', hcl, fun j v hj => ?_, fun k f hk => ?_⟩
    · have := hat j (by rcases Nat.lt_or_ge j cs'.length with h | h; · omega
                        · rw [List.getElem?_eq_none h] at hj; cases hj)
      rw [Go.Deep.add_add] at this
      rw [this, hj]
    · have hkl : k < xs.length := by
        have : k < fs.size := (Array.getElem?_eq_some_iff.1 hk).1
        omega
      have h0 := hel k f hk
      rw [List.getElem?_eq_getElem hkl] at h0
      refine ⟨xs[k], m', h0, fun q hq => ?_⟩
      have hD : D i = .agg (xs.map (·.1)) := by
        have := congrArg Prod.fst hx
        simpa using this
      have hmem : D i ∈ (List.range len).map D := List.mem_map.2 ⟨i, List.mem_range.2 hlt, rfl⟩
      simp only [DataW.weights, ht, List.mem_cons, List.mem_append]
      refine .inr (.inl (weightsAll_mem hmem q ?_))
      rw [hD]
      simp only [DataW.weights, he]
      exact DataW.weights_mem_each (j := k) (t := f.type) (d := xs[k].1) (by rw [List.getElem?_map]; simp [hk]) (by rw [List.getElem?_map, List.getElem?_eq_getElem hkl]; rfl) q hq
/-- A slice of bytes within what came in. -/
def BytesIn (w : World) (a : Option Addr) (n cap : Nat) (l : List Nat) : Prop := n = l.length ∧ Bytes w a l ∧ (a = none → n = 0 ∧ cap = 0) ∧ n ≤ cap ∧ n ≤ 140737488351232
theorem cell_lt {a : Addr} {v : Value} (h : w.cell? a = some v) : a.block < w.heap.size := World.block_lt_of_cell? w a h
theorem bytesIn_of_trod {t e : TypeId} {fuel : Nat} {cs : List Value} {x : DataW H × List MemPlace} (ht : P.underlying t = some (.slice e)) (he : P.underlying e = some (.int .u8)) (hc : P.cellsOf e = 1) (hb : P.bytesOf e = 1)
    (h : DataW.trod enc P w base (fun _ => true) held fuel t cs = some x) (hw : ∀ q ∈ x.1.weights P t, q ≤ reachBytes) : ∃ a n cap l, cs = [.slice a n cap] ∧ BytesIn w a n cap l := by
  have hr : reachBytes = 140737488351232 := rfl
  rcases open_ints ht he hc h with ⟨hcs, _⟩ | ⟨a, n, cap, zs, hcs, h0, h1, h2, h3, hx, hcell, hwz⟩
  · exact ⟨none, 0, 0, [], hcs, rfl, Bytes.none _ _, fun _ => ⟨rfl, rfl⟩, Nat.le_refl _, by decide⟩
  · have h3' : zs.length = cap := by simpa using h3
    obtain ⟨l, e1, e2, e3, e4, e5⟩ := IsRow.bytes (w := w) (a := some a) (len := n) (cap := cap) (zs := zs) (.inr ⟨_, rfl, h1, h2, by simpa using h3, hcell, hwz⟩)
    have hq := hw ((lits (H := H) .u8 (zs.take n)).length + (lits (H := H) .u8 (zs.drop n)).length) (by rw [hx]; simp [DataW.weights, ht, hb])
    refine ⟨some a, n, cap, l, hcs, e1, e2, fun h => (by cases h), e5, ?_⟩
    simp [lits] at hq; omega
theorem bytes_blk0 {a : Option Addr} {l : List Nat} (h : Bytes w a l) (hl : l ≠ []) : ∃ b o, a = some ⟨b, o, none⟩ ∧ b < w.heap.size := by
  obtain ⟨b, o, ha, hc⟩ := h.2.2 hl
  have h0 : 0 < l.length := by cases l with
    | nil => exact absurd rfl hl
    | cons _ _ => simp
  exact ⟨b, o, ha, cell_lt (hc 0 h0)⟩
theorem bytes_out {w' : World} {X : Nat → Prop} {a : Option Addr} {l : List Nat} (h : Bytes w a l) (hc : ∀ b o (v : Value), ¬ X b → w.cell? ⟨b, o, none⟩ = some v → w'.cell? ⟨b, o, none⟩ = some v) (hx : ∀ b o, l ≠ [] → a = some ⟨b, o, none⟩ → ¬ X b) : Bytes w' a l :=
  ⟨h.1, h.2.1, fun hl => by
    obtain ⟨b, o, ha, h2⟩ := h.2.2 hl
    exact ⟨b, o, ha, fun i hi => hc b _ _ (hx b o hl ha) (h2 i hi)⟩⟩
end
end Go.Proofs.Ytdnkeplmjimjcaa
/-
  The script of a law about the cache, as it came in.
-/
namespace Go.Proofs.Ytdnkeplmjimjcaa
open Go.RowKit

abbrev OpTy := 37
structure OpC where
  k : Int
  key : Int × Int
  b : List Nat
  raw : Bool
  dirty : Bool
def opC (ba : Option Addr) (bn bc : Nat) (x : OpC) : Array Value := #[.int .i64 x.k, .int .i64 x.key.1, .int .i64 x.key.2, .slice ba bn bc, .bool x.raw, .bool x.dirty]
structure OpCIs (w : World) (ba : Option Addr) (bn bc : Nat) (x : OpC) : Prop where
  b : BytesIn w ba bn bc x.b
  wf : wfK x.key
theorem BytesIn.below {w w' : World} {a : Option Addr} {n cap : Nat} {l : List Nat} (h : BytesIn w a n cap l) (hb : Below w.heap.size w w') : BytesIn w' a n cap l :=
  ⟨h.1, h.2.1.below hb, h.2.2.1, h.2.2.2.1, h.2.2.2.2⟩
theorem OpCIs.below {w w' : World} {ba : Option Addr} {bn bc : Nat} {x : OpC} (h : OpCIs w ba bn bc x) (hb : Below w.heap.size w w') : OpCIs w' ba bn bc x := ⟨h.b.below hb, h.wf⟩
/-- A script that came in. -/
def COps (w : World) (a : Option Addr) (len : Nat) (F : Nat → OpC) : Prop :=
  len ≤ 9223372036854775807 ∧ ∀ i, i < len → ∃ b o ba bn bc, a = some ⟨b, o, none⟩ ∧ OpCIs w ba bn bc (F i) ∧ ∀ j v, (opC ba bn bc (F i))[j]? = some v → w.cell? ⟨b, o + i * 6 + j, none⟩ = some v
theorem COps.below {w w' : World} {a : Option Addr} {len : Nat} {F : Nat → OpC} (h : COps w a len F) (hb : Below w.heap.size w w') : COps w' a len F :=
  ⟨h.1, fun i hi => by
    obtain ⟨b, o, ba, bn, bc, e, h1, h2⟩ := h.2 i hi
    exact ⟨b, o, ba, bn, bc, e, h1.below hb, fun j v hj => cell_later hb (h2 j v hj)⟩⟩
section
open Go.ChangeShapes Go.WideShapes Go.Deep
variable {H : Type} {enc : TypeId × Value → H} {w : World} {base : Nat} {held : Bool}
set_option maxRecDepth 100000 in
theorem cops_of_trod {fuel : Nat} {cs : List Value} {x : DataW H × List MemPlace}
    (h : DataW.trod enc Try.prog w base (fun _ => true) held fuel 22 cs = some x) (hw : ∀ q ∈ x.1.weights Try.prog 22, q ≤ reachBytes) :
    ∃ a len cap F, cs = [.slice a len cap] ∧ COps w a len F := by
  have hce : Try.prog.cellsOf OpTy = 6 := by kernel_rfl
  have hci : Try.prog.cellsOf 3 = 1 := by kernel_rfl
  have hck : Try.prog.cellsOf KT = 2 := by kernel_rfl
  have hcB : Try.prog.cellsOf 35 = 1 := by kernel_rfl
  have hcb : Try.prog.cellsOf 4 = 1 := by kernel_rfl
  obtain ⟨a, len, cap, rfl, hn, hl, hc, hi⟩ := open_structs Try.underlying22 Try.underlying37 h
  have key : ∀ i, i < len → ∃ p : OpC, ∃ b o ba bn bc, a = some ⟨b, o, none⟩ ∧ OpCIs w ba bn bc p ∧ ∀ j v, (opC ba bn bc p)[j]? = some v → w.cell? ⟨b, o + i * 6 + j, none⟩ = some v := by
    intro i hlt
    cases a with
    | none => have := (hn rfl).1; omega
    | some ad =>
      obtain ⟨C, hC, hcell, hf⟩ := hi ad rfl i hlt
      rw [hce] at hC hcell
      match C, hC with
      | [c0, c1, c2, c3, c4, c5], _ =>
        obtain ⟨y0, n0, t0, _⟩ := hf 0 _ rfl
        obtain ⟨y1, n1, t1, _⟩ := hf 1 _ rfl
        obtain ⟨y2, n2, t2, w2⟩ := hf 2 _ rfl
        obtain ⟨y3, n3, t3, _⟩ := hf 3 _ rfl
        obtain ⟨y4, n4, t4, _⟩ := hf 4 _ rfl
        have t0 : DataW.trod enc Try.prog w base (fun _ => true) held n0 3 (([c0, c1, c2, c3, c4, c5].drop 0).take (Try.prog.cellsOf 3)) = some y0 := t0
        have t1 : DataW.trod enc Try.prog w base (fun _ => true) held n1 KT (([c0, c1, c2, c3, c4, c5].drop 1).take (Try.prog.cellsOf KT)) = some y1 := t1
        have t2 : DataW.trod enc Try.prog w base (fun _ => true) held n2 35 (([c0, c1, c2, c3, c4, c5].drop 3).take (Try.prog.cellsOf 35)) = some y2 := t2
        have t3 : DataW.trod enc Try.prog w base (fun _ => true) held n3 4 (([c0, c1, c2, c3, c4, c5].drop 4).take (Try.prog.cellsOf 4)) = some y3 := t3
        have t4 : DataW.trod enc Try.prog w base (fun _ => true) held n4 4 (([c0, c1, c2, c3, c4, c5].drop 5).take (Try.prog.cellsOf 4)) = some y4 := t4
        rw [hci] at t0
        rw [hck] at t1
        rw [hcB] at t2
        rw [hcb] at t3 t4
        obtain ⟨xs, m', _, _, _, hxn, hel⟩ := DataW.trod_struct Try.underlying34 t1
        have u0 := hel 0 _ rfl
        have u1 := hel 1 _ rfl
        have u0 : DataW.trod enc Try.prog w base (fun _ => true) held m' 3 ((((([c0, c1, c2, c3, c4, c5].drop 1).take 2)).drop 0).take (Try.prog.cellsOf 3)) = xs[0]? := u0
        have u1 : DataW.trod enc Try.prog w base (fun _ => true) held m' 3 ((((([c0, c1, c2, c3, c4, c5].drop 1).take 2)).drop 1).take (Try.prog.cellsOf 3)) = xs[1]? := u1
        rw [hci] at u0 u1
        have hx2 : xs.length = 2 := hxn
        rw [List.getElem?_eq_getElem (by omega)] at u0 u1
        obtain ⟨x0, e0, _, _⟩ := DataW.trod_int Try.underlying3 t0
        obtain ⟨x1, e1, _, q1⟩ := DataW.trod_int Try.underlying3 u0
        obtain ⟨x2, e2, _, q2⟩ := DataW.trod_int Try.underlying3 u1
        obtain ⟨ba, bn, bc, l, e3, hB⟩ := bytesIn_of_trod Try.underlying35 Try.underlying5 (by kernel_rfl) (by kernel_rfl) t2 (fun q hq => hw q (w2 q hq))
        obtain ⟨x4, e4, _⟩ := DataW.trod_bool Try.underlying4 t3
        obtain ⟨x5, e5, _⟩ := DataW.trod_bool Try.underlying4 t4
        simp at e0 e1 e2 e3 e4 e5
        subst e0 e1 e2 e3 e4 e5
        obtain ⟨b, off, spot⟩ := ad
        have hspot : spot = none := by
          obtain ⟨C0, hC0, hcell0, _⟩ := hi ⟨b, off, spot⟩ rfl 0 (by omega)
          rw [hce] at hC0 hcell0
          have h0 := hcell0 0 C0[0] (List.getElem?_eq_getElem (by omega))
          simpa [Addr.add] using World.cell?_spot h0
        subst hspot
        refine ⟨⟨x0, (x1, x2), l, x4, x5⟩, b, off, ba, bn, bc, rfl, ⟨hB, q1, q2⟩, fun j v hj => ?_⟩
        rw [Nat.add_assoc, ← Go.WideShapes.add_plain]
        refine hcell j v ?_
        simpa [opC] using hj
  obtain ⟨F, hF⟩ : ∃ F : Nat → OpC, ∀ i, i < len → ∃ b o ba bn bc, a = some ⟨b, o, none⟩ ∧ OpCIs w ba bn bc (F i) ∧ ∀ j v, (opC ba bn bc (F i))[j]? = some v → w.cell? ⟨b, o + i * 6 + j, none⟩ = some v :=
    ⟨fun i => if h : i < len then Classical.choose (key i h) else ⟨0, (0, 0), [], false, false⟩, fun i h => by simp only [dif_pos h]; exact Classical.choose_spec (key i h)⟩
  exact ⟨a, len, cap, F, rfl, by omega, hF⟩
end
end Go.Proofs.Ytdnkeplmjimjcaa
/-
  What a law about one cache keeps; the cache's calls for it.
-/
namespace Go.Proofs.Ytdnkeplmjimjcaa
open Go.RowKit

/-- What a law about one cache keeps: the cache, and boxes of keys. -/
structure LwS (w : World) (bc bm : Nat) (r : Int) (N T : Nat) (L : List Bk) (K : List (Nat × Int × Int)) (W : World) : Prop where
  ca : CA W bc bm w.heap.size r N T L
  ky : ∀ q, q ∈ K → Blo W q.1 KT #[.int .i64 q.2.1, .int .i64 q.2.2]
  below : Below w.heap.size w W
section
variable {w W W' : World} {bc bm : Nat} {r : Int} {N T N' T' : Nat} {L L' : List Bk} {K : List (Nat × Int × Int)}
theorem LwS.later (h : LwS w bc bm r N T L K W) (hb : Below W.heap.size W W') : LwS w bc bm r N T L K W' :=
  ⟨h.ca.later hb, fun q hq => (h.ky q hq).later hb, h.below.trans (hb.mono h.below.size)⟩
theorem xc_key {base g : Nat} {cs : Array Value} (hC : CA W bc bm base r N T L) (h : Blo W g KT cs) : ¬ XC W bc bm base g := by
  obtain ⟨n, f, ks, uses, v, hK, -, hB⟩ := hC.len
  rintro ⟨-, e | e | ⟨t, cs, q1, q2⟩⟩
  · exact h.apart hB (by decide) e
  · exact hK.blo h e.symm
  · unfold Blo at h q1
    rw [q1] at h
    cases h
    rcases q2 with e | e
    · exact absurd e (by decide)
    · exact absurd e (by decide)
theorem LwS.call (h : LwS w bc bm r N T L K W) (hC : CA W' bc bm w.heap.size r N' T' L') (ho : Out (XC W bc bm w.heap.size) W W') : LwS w bc bm r N' T' L' K W' :=
  ⟨hC, fun q hq => ho.blo (h.ky q hq) (xc_key h.ca (h.ky q hq)), h.below.trans (outC_below ho h.below.size)⟩
theorem LwS.cells (h : LwS w bc bm r N T L K W) {g : Nat} {a b : Int} (hq : (g, a, b) ∈ K) : W.cell? ⟨g, 0, none⟩ = some (.int .i64 a) ∧ W.cell? ⟨g, 1, none⟩ = some (.int .i64 b) := ⟨(h.ky _ hq).cell 0, (h.ky _ hq).cell 1⟩
theorem LwS.key (h : LwS w bc bm r N T L K W) {g : Nat} {a b : Int} (hb : Blo W g KT #[.int .i64 a, .int .i64 b]) : LwS w bc bm r N T L ((g, a, b) :: K) W :=
  ⟨h.ca, fun q hq => by
    rcases List.mem_cons.1 hq with e | e
    · rw [e]; exact hb
    · exact h.ky q e, h.below⟩
theorem LwS.few2 (h : LwS w bc bm r N T L K W) : LwS w bc bm r N T L K W := h
theorem LwS.few (h : LwS w bc bm r N T L K W) : LwS w bc bm r N T L [] W := ⟨h.ca, fun q hq => (by cases hq), h.below⟩
/-- A Put of bytes that were just made. -/
theorem LwS.put (h : LwS w bc bm r N T L K W) {a b : Int} (hw : wfK (a, b)) {g : Nat} {l : List Nat} (hg : BBlk W g l) (d : Bool) (hT : T ≤ 4000000000000000000) (hN : N < 1000000) {c : Int} (e : putK r L (a, b) l d = (L', c)) :
    Calls Try.prog 23 #[.pointer (some ⟨bc, 0, none⟩), .agg #[.int .i64 a, .int .i64 b], .slice (some ⟨g, 0, none⟩) 64 64, .bool d] W fun e w' => e = .returned (.int .i64 c) ∧ LwS w bc bm r (N + 1) (T + 1) L' K w' := by
  have := put_any (p := (a, b)) (sc := 64) (d := d) h.ca hw (h.ca.din hg) (n := 64) hg.2.1.symm (by decide) (by omega) (by omega)
  rw [e] at this
  exact this.mono fun e w' q => ⟨q.1, h.call q.2.1 q.2.2⟩
end
section
variable {w W W' : World} {bc bm : Nat} {r : Int} {N T N' T' : Nat} {L L' : List Bk} {K : List (Nat × Int × Int)}
theorem LwS.mono (h : LwS w bc bm r N T L K W) (h1 : N ≤ N') (h2 : T ≤ T') : LwS w bc bm r N' T' L K W := ⟨h.ca.mono h1 h2, h.ky, h.below⟩
theorem LwS.pin (h : LwS w bc bm r N T L K W) {a b : Int} (hw : wfK (a, b)) (hT : T ≤ 4000000000000000000) {c : Int} (e : doK L 4 (a, b) = (L', c)) :
    Calls Try.prog 24 #[.pointer (some ⟨bc, 0, none⟩), .agg #[.int .i64 a, .int .i64 b]] W fun e w' => e = .returned (.int .i64 c) ∧ LwS w bc bm r N (T + 1) L' K w' := by
  have := pinc_any (p := (a, b)) h.ca hw (by omega)
  rw [e] at this
  exact this.mono fun e w' q => ⟨q.1, h.call q.2.1 q.2.2⟩
theorem LwS.unpin (h : LwS w bc bm r N T L K W) {a b : Int} (hw : wfK (a, b)) (hT : T ≤ 4000000000000000000) {c : Int} (e : doK L 5 (a, b) = (L', c)) :
    Calls Try.prog 25 #[.pointer (some ⟨bc, 0, none⟩), .agg #[.int .i64 a, .int .i64 b]] W fun e w' => e = .returned (.int .i64 c) ∧ LwS w bc bm r N (T + 1) L' K w' := by
  have := unpinc_any (p := (a, b)) h.ca hw (by omega)
  rw [e] at this
  exact this.mono fun e w' q => ⟨q.1, h.call q.2.1 q.2.2⟩
theorem LwS.clean (h : LwS w bc bm r N T L K W) {a b : Int} (hw : wfK (a, b)) {c : Int} (e : doK L 3 (a, b) = (L', c)) :
    Calls Try.prog 26 #[.pointer (some ⟨bc, 0, none⟩), .agg #[.int .i64 a, .int .i64 b]] W fun e w' => e = .returned (.int .i64 c) ∧ LwS w bc bm r N (T + 1) L' K w' := by
  have := clean_any (p := (a, b)) h.ca hw
  rw [e] at this
  exact this.mono fun e w' q => ⟨q.1, h.call q.2.1 q.2.2⟩
theorem LwS.get_some (h : LwS w bc bm r N T L K W) {a b : Int} (hw : wfK (a, b)) (hT : T ≤ 4000000000000000000) {d : Nat → Nat} (e : getK L (a, b) = (L', some d)) :
    Calls Try.prog 22 #[.pointer (some ⟨bc, 0, none⟩), .agg #[.int .i64 a, .int .i64 b]] W fun e w' => ∃ g c, e = .returned (.tuple #[.slice (some ⟨g, 0, none⟩) 64 c, .bool true]) ∧ LwS w bc bm r N (T + 1) L' K w' ∧ w'.ownsRow W.heap.size U8 1 (.slice (some ⟨g, 0, none⟩) 64 c) 64 (cellsB (dtL d)) := by
  have := get_any (p := (a, b)) h.ca hw (by omega)
  refine this.mono fun e' w' ⟨q1, q2, q3⟩ => ?_
  rw [e] at q1 q3
  obtain ⟨q, -⟩ | ⟨d', g, c, q, q4, q5⟩ := q3
  · cases q
  · cases q
    exact ⟨g, c, q4, h.call q1 q2, q5⟩
theorem LwS.get_none (h : LwS w bc bm r N T L K W) {a b : Int} (hw : wfK (a, b)) (hT : T ≤ 4000000000000000000) (e : getK L (a, b) = (L', none)) :
    Calls Try.prog 22 #[.pointer (some ⟨bc, 0, none⟩), .agg #[.int .i64 a, .int .i64 b]] W fun e w' => e = .returned (.tuple #[.slice none 0 0, .bool false]) ∧ LwS w bc bm r N (T + 1) L' K w' := by
  have := get_any (p := (a, b)) h.ca hw (by omega)
  refine this.mono fun e' w' ⟨q1, q2, q3⟩ => ?_
  rw [e] at q1 q3
  obtain ⟨-, q⟩ | ⟨d', g, c, q, q4, q5⟩ := q3
  · exact ⟨q, h.call q1 q2⟩
  · cases q
theorem LwS.len (h : LwS w bc bm r N T L K W) {n : Nat} (e : L.length = n) :
    Calls Try.prog 16 #[.pointer (some ⟨bc, 0, none⟩)] W fun e w' => e = .returned (.int .i64 (n : Nat)) ∧ W = w' := by
  rw [← e]
  exact len_any h.ca
theorem bytes_nil (W : World) : Calls Try.prog 12 #[.slice none 0 0] W (BytO W (byt [])) := bytes_any none 0 0 [] W rfl (by decide) (Bytes.none _ _)
end
end Go.Proofs.Ytdnkeplmjimjcaa
