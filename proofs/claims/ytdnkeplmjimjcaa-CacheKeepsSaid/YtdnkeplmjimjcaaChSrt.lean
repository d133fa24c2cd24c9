/-
  The sorting of Order's keys.
-/
import Derived.Test.YtdnkeplmjimjcaaChCmp
import Derived.Test.YtdnkeplmjimjcaaSort9
import Derived.Shelf.SlSortCmp.NoneTotal
namespace Go.Proofs.Ytdnkeplmjimjcaa
open Go.RowKit Go.Sort Go.Shelf

section
variable {α : Type} [Inhabited α]
theorem flat_get (enc : α → List Value) (hk : ∀ x, (enc x).length = 2) : ∀ (l : List α) (t : Nat), t < l.length * 2 → (l.flatMap enc)[t]? = some ((enc l[t / 2]!)[t % 2]!)
  | [], t, h => by simp at h
  | x :: l, t, h => by
    obtain ⟨a, b, e⟩ : ∃ a b, enc x = [a, b] := by
      have := hk x
      match hq : enc x, this with
      | [a, b], _ => exact ⟨a, b, rfl⟩
    rw [List.flatMap_cons, e]
    match t, h with
    | 0, _ => simp [e]
    | 1, _ => simp [e]
    | t + 2, h =>
      have := flat_get enc hk l t (by simp only [List.length_cons] at h; omega)
      rw [show (t + 2) / 2 = t / 2 + 1 by omega, show (t + 2) % 2 = t % 2 by omega]
      simpa using this
theorem flatK_list (enc : α → List Value) (hk : ∀ x, (enc x).length = 2) (d : Array α) : (flatK enc 2 d).toList = d.toList.flatMap enc := by
  have hl : ∀ l : List α, (l.flatMap enc).length = l.length * 2 := fun l => by
    induction l with
    | nil => rfl
    | cons x l ih => rw [List.flatMap_cons, List.length_append, hk, ih, List.length_cons]; omega
  apply List.ext_getElem?
  intro t
  by_cases h : t < d.size * 2
  · rw [flat_get enc hk d.toList t (by simpa using h), Array.getElem?_toList]
    have h1 := get_flatK enc 2 d t h
    rw [getElem!_pos _ t (by simpa using h)] at h1
    rw [Array.getElem?_eq_getElem (by simpa using h), h1, getElem!_pos d (t / 2) (by omega), getElem!_pos d.toList (t / 2) (by simp; omega)]
    simp
  · rw [List.getElem?_eq_none (by simp; omega), List.getElem?_eq_none (by rw [hl]; simp; omega)]
theorem heap_putRow (W : World) (blk off i : Nat) (F : Array Value) (h : i ≠ blk) : (putRow id W blk off F).heap[i]? = W.heap[i]? := by
  unfold putRow mapBlock
  show (W.heap.modify blk _)[i]? = _
  rw [Array.getElem?_modify, if_neg (fun e => h e.symm)]
theorem out_sort (enc : α → List Value) (W : World) (blk m : Nat) (dk : Array α) (os : Array Obj) : Out (fun i => i = blk) W (sortWorldK enc 2 W blk 0 m dk os) := by
  refine ⟨rfl, rfl, rfl, ?_, fun i hi hx => ?_⟩
  · unfold sortWorldK
    rw [size_grow]
    show _ ≤ (putRow id (Sort.ahead W m) blk 0 _).heap.size + _
    rw [size_putRow]
    show W.heap.size ≤ W.heap.size + _
    omega
  · unfold sortWorldK
    rw [heap_grow_old _ _ (by show i < (putRow id (Sort.ahead W m) blk 0 _).heap.size; rw [size_putRow]; exact hi)]
    exact heap_putRow _ _ _ _ _ hx
/-- The row behind the sort. -/
theorem own_sort (enc : α → List Value) (hk : ∀ x, (enc x).length = 2) {W : World} {C blk cap m : Nat} {d d' : Array α} {os : Array Obj} {xs : List Value} (h : W.ownsRow C KT 2 (.slice (some ⟨blk, 0, none⟩) d.size cap) d.size xs) (hH : HoldsK enc 2 W blk 0 d) (hs : d'.size = d.size) :
    (sortWorldK enc 2 W blk 0 m d' os).ownsRow C KT 2 (.slice (some ⟨blk, 0, none⟩) d.size cap) d.size (d'.toList.flatMap enc) := by
  have hl : (d'.toList.flatMap enc).length = d.size * 2 := by
    rw [← flatK_list enc hk, Array.length_toList, size_flatK, hs]
  refine ⟨hl, .inr ?_⟩
  rcases h.2 with ⟨q, _⟩ | ⟨g, cap', cur, q, hb, hg, a3, a4, a5, a6⟩
  · cases q
  · cases q
    have hlt : blk < W.heap.size := (Array.getElem?_eq_some_iff.1 hg).1
    refine ⟨blk, cap, putCells id 0 (flatK enc 2 d') cur, rfl, hb, ?_, a3, a4, ?_, ?_⟩
    · unfold sortWorldK
      rw [heap_grow_old _ _ (by show blk < (putRow id (Sort.ahead W m) blk 0 _).heap.size; rw [size_putRow]; exact hlt)]
      show ((Sort.ahead W m).heap.modify blk _)[blk]? = _
      rw [Array.getElem?_modify, if_pos rfl]
      show (W.heap[blk]?).map _ = _
      rw [hg]
      rfl
    · rw [show (putCells id 0 (flatK enc 2 d') cur).size = cur.size by simp [putCells]]
      exact a5
    · rw [← flatK_list enc hk]
      apply List.ext_getElem?
      intro t
      by_cases ht : t < d.size * 2
      · rw [List.getElem?_take, if_pos ht, Array.getElem?_toList, Array.getElem?_toList]
        unfold putCells
        rw [Array.getElem?_mapIdx]
        have hc : t < cur.size := by rw [a5]; have := Nat.mul_le_mul_right 2 a3; omega
        rw [Array.getElem?_eq_getElem hc, Option.map_some, if_pos ⟨Nat.zero_le _, by rw [size_flatK, hs]; omega⟩]
        rw [Array.getElem?_eq_getElem (by rw [size_flatK, hs]; exact ht), Nat.sub_zero, id, getElem!_pos _ t (by rw [size_flatK, hs]; exact ht)]
      · rw [List.getElem?_take, if_neg ht, List.getElem?_eq_none (by rw [Array.length_toList, size_flatK, hs]; omega)]
end
section
variable {w w' W : World} {bc bm base b : Nat} {room uses : Int} {N T : Nat} {x : Sx} {L : List Bk}
theorem PS.used_inj {S : Nat → Bf} {bs : List Nat} {ks : List (Int × Int)} {f : Int × Int → Option Nat} {n : Nat} (hP : PS room N T S bs ks f uses n) {b c : Nat} (hb : b ∈ bs) (hc : c ∈ bs) (e : (S b).used = (S c).used) : b = c := by
  have key : ∀ (l : List Nat), l.Pairwise (fun b c => (S b).used < (S c).used) → b ∈ l → c ∈ l → b = c := by
    intro l
    induction l with
    | nil => intro _ h; cases h
    | cons a l ih =>
      intro hp h1 h2
      obtain ⟨h3, h4⟩ := List.pairwise_cons.1 hp
      rcases List.mem_cons.1 h1 with e1 | e1 <;> rcases List.mem_cons.1 h2 with e2 | e2
      · rw [e1, e2]
      · have := h3 c e2; rw [e1] at e; omega
      · have := h3 b e1; rw [e2] at e; omega
      · exact ih h4 e1 e2
  exact key bs hP.srt hb hc
theorem lt_cmp (a b : Int) : decide (cmpI a b < 0) = decide (a < b) := by
  unfold cmpI
  by_cases h1 : a < b
  · simp [h1]
  · by_cases h2 : b < a <;> simp [h1, h2]
def encB (S : Nat → Bf) (bs : List Nat) (b : {b : Nat // b ∈ bs}) : List Value := [.int .i64 (S b.1).ino, .int .i64 (S b.1).lbn]
def cfB (S : Nat → Bf) (bs : List Nat) (b c : {b : Nat // b ∈ bs}) : Int := cmpI (S b.1).used (S c.1).used
theorem ltB (S : Nat → Bf) (bs : List Nat) (b c : {b : Nat // b ∈ bs}) : ltOf (cfB S bs) b c = decide ((S b.1).used < (S c.1).used) := lt_cmp _ _
theorem swoB (S : Nat → Bf) (bs : List Nat) : SWO (ltOf (cfB S bs)) where
  irrefl x := by rw [ltB]; simp
  trans x y z h1 h2 := by rw [ltB] at *; simp at *; omega
  ntrans x y z h1 h2 := by rw [ltB] at *; simp at *; omega
set_option maxRecDepth 100000 in
set_option maxHeartbeats 4000000 in
theorem srt_any {v : Value} {g1 C : Nat} {done : List (Int × Int)} (hC : CS W bc bm base room N T x) (hbox : Blo W g1 PC #[.pointer (some ⟨bc, 0, none⟩)]) (hown : W.ownsRow C KT 2 v done.length (flatP done)) (hnd : done.Nodup) (hin : ∀ p ∈ done, (x.f p).isSome = true) (hall : ∀ p, wfK p → (x.f p).isSome = true → p ∈ done) :
    Calls Try.prog 31 #[v, .func (.func 32) #[] #[.pointer (some ⟨g1, 0, none⟩)]] W fun e w' => e = .returned (.tuple #[]) ∧ w'.ownsRow C KT 2 v x.bs.length (flatP (x.bs.map fun b => keyB (x.S b))) ∧ Out (fun g => v.ownBlock = some g) W w' := by
  have hfb : ∀ b, b ∈ x.bs → x.f (keyB (x.S b)) = some b := fun b hb => (hC.ps.key _ b).2 ⟨hb, rfl⟩
  -- the blocks of the keys
  have hlb : ∀ p ∈ done, x.f p = some ((x.f p).getD 0) ∧ (x.f p).getD 0 ∈ x.bs ∧ keyB (x.S ((x.f p).getD 0)) = p := fun p hp => by
    obtain ⟨b, hb⟩ := Option.isSome_iff_exists.1 (hin p hp)
    obtain ⟨h1, h2⟩ := (hC.ps.key p b).1 hb
    rw [hb]
    exact ⟨rfl, h1, h2⟩
  have hmem : ∀ b, b ∈ done.map (fun p => (x.f p).getD 0) ↔ b ∈ x.bs := fun b => by
    rw [List.mem_map]
    constructor
    · rintro ⟨p, hp, rfl⟩
      exact (hlb p hp).2.1
    · intro hb
      refine ⟨keyB (x.S b), hall _ (hC.ps.wf b hb) (by rw [hfb b hb]; rfl), by rw [hfb b hb]; rfl⟩
  have hndb : (done.map (fun p => (x.f p).getD 0)).Nodup := by
    rw [List.nodup_iff_pairwise_ne, List.pairwise_map]
    refine List.Pairwise.imp_of_mem (fun {p q} hp hq hne e => hne ?_) (List.nodup_iff_pairwise_ne.1 hnd)
    rw [← (hlb p hp).2.2, ← (hlb q hq).2.2, e]
  have hperm : (done.map (fun p => (x.f p).getD 0)).Perm x.bs := (List.perm_ext_iff_of_nodup hndb hC.ps.nodup).2 hmem
  have hlen : done.length = x.bs.length := by
    have := hperm.length_eq
    simpa using this
  by_cases h0 : x.bs = []
  · have hl0 : done.length = 0 := by rw [hlen, h0]; rfl
    have hd0 : done = [] := List.eq_nil_of_length_eq_zero hl0
    subst hd0
    obtain ⟨ao, cap, hv⟩ : ∃ ao cap, v = .slice ao 0 cap := by
      rcases hown.2 with ⟨q, _⟩ | ⟨g, cap, cur, q, _⟩
      · exact ⟨none, 0, q⟩
      · exact ⟨_, cap, q⟩
    subst hv
    have hcon := AnyF.slices_SortFunc_none Try.sortK ao cap (.func (.func 32) #[] #[.pointer (some ⟨g1, 0, none⟩)]) W
    change Calls Try.prog 31 _ _ _ at hcon
    refine hcon.mono ?_
    rintro e w' ⟨rfl, rfl⟩
    rw [h0]
    exact ⟨rfl, hown, Out.refl _ _⟩
  · obtain ⟨b0, hb0⟩ : ∃ b0, b0 ∈ x.bs := List.exists_mem_of_ne_nil _ h0
    haveI : Inhabited {b : Nat // b ∈ x.bs} := ⟨⟨b0, hb0⟩⟩
    obtain ⟨d, hd⟩ : ∃ d, d = ((done.map (fun p => (x.f p).getD 0)).attachWith (fun b => b ∈ x.bs) (fun b hb => (hmem b).1 hb)).toArray := ⟨_, rfl⟩
    have hdl : d.toList.map Subtype.val = done.map (fun p => (x.f p).getD 0) := by
      rw [hd]
      exact List.attachWith_map_subtype_val _
    have hds : d.size = done.length := by
      have := congrArg List.length hdl
      simpa using this
    have hflat : ∀ l : List {b : Nat // b ∈ x.bs}, l.flatMap (encB x.S x.bs) = flatP ((l.map Subtype.val).map fun b => keyB (x.S b)) := fun l => by
      unfold flatP encB keyB
      rw [List.map_map, List.flatMap_map]
      rfl
    have hk : ∀ b, (encB x.S x.bs b).length = 2 := fun _ => rfl
    have hdk : d.toList.flatMap (encB x.S x.bs) = flatP done := by
      rw [hflat, hdl, List.map_map]
      congr 1
      conv => rhs; rw [← List.map_id done]
      apply List.map_congr_left
      intro p hp
      exact (hlb p hp).2.2
    obtain ⟨g, cap, hv⟩ : ∃ g cap, v = .slice (some ⟨g, 0, none⟩) done.length cap := by
      rcases hown.2 with ⟨q, q2⟩ | ⟨g, cap, cur, q, _⟩
      · have := List.length_pos_of_mem hb0
        omega
      · exact ⟨g, cap, q⟩
    subst hv
    have hg := own_blo hown (g := g) rfl
    obtain ⟨hgC, cur, hcur⟩ := hg
    have hH : HoldsK (encB x.S x.bs) 2 W g 0 d := by
      intro j hj
      rw [size_flatK, hds] at hj
      have h1 := hown.cellAt j hj
      rw [Nat.zero_add]
      refine ⟨?_, hown.frozenAt j⟩
      have hj' : j < (flatK (encB x.S x.bs) 2 d).size := by rw [size_flatK, hds]; exact hj
      rw [h1, ← hdk, ← flatK_list _ hk, Array.getElem?_toList, Array.getElem?_eq_getElem hj', getElem!_pos _ j hj']
      rfl
    have eg : ∀ args w, (callFunc 32 args).run Try.prog w = .ok (.enter 32 args) w := enters_of Try.func32 (by kernel_rfl) rfl
    have hcmp : CmpLays Try.prog 32 #[.pointer (some ⟨g1, 0, none⟩)] (encB x.S x.bs) 2 (cfB x.S x.bs) g 0 d.size W := fun m os dk hdk' b c => by
      have ho := out_sort (encB x.S x.bs) W g m dk os
      refine less_any (hC.out ho (fun i hi e => ?_)) (ho.blo hbox (fun e => ?_)) b.2 c.2
      · rw [e] at hi
        exact xcs_key hC hcur hi
      · rw [← e] at hcur
        exact hbox.apart hcur (by decide) rfl
    have hcon := AnyQ.slices_SortFunc Try.sortK 2 Try.isAgg34 Try.sizeOf34 (encB x.S x.bs) hk (fun b u hu => by simp [encB] at hu; rcases hu with rfl | rfl <;> rfl) (cfB x.S x.bs) (swoB x.S x.bs) 32 #[.pointer (some ⟨g1, 0, none⟩)] g 0 cap d W eg hcmp hH hcur.lt (by have := hC.ps.rm; omega)
    change Calls Try.prog 31 _ _ _ at hcon
    rw [hds] at hcon
    refine hcon.mono ?_
    rintro e w' ⟨rfl, d', n, os, hp, hs, rfl⟩
    have hp1 : d'.size = d.size := hp.1
    have hp2 : d'.toList.Perm d.toList := by
      have := hp.2.2
      rw [show d'.extract 0 done.length = d' by rw [← hds, ← hp1]; simp, show d.extract 0 done.length = d by rw [← hds]; simp] at this
      exact this
    have hsorted : d'.toList.map Subtype.val = x.bs := by
      refine List.Perm.eq_of_pairwise (le := fun b c => (x.S b).used ≤ (x.S c).used) (fun b c hb hc h1 h2 => ?_) ?_ (hC.ps.srt.imp fun h => Int.le_of_lt h) ?_
      · exact hC.ps.used_inj ((hmem b).1 (by rw [← hdl]; exact (hp2.map _).mem_iff.1 hb)) hc (by omega)
      · rw [List.pairwise_map, List.pairwise_iff_getElem]
        intro i j hi hj hij
        have := hs i j (Nat.zero_le _) hij (by rw [← hds, ← hp1]; simpa using hj)
        rw [ltB, getElem!_pos d' j (by simpa using hj), getElem!_pos d' i (by simpa using hi)] at this
        simpa using this
      · exact ((hp2.map Subtype.val).trans (by rw [hdl])).trans hperm
    have ho := out_sort (encB x.S x.bs) W g n d' os
    refine ⟨rfl, ?_, ho.mono fun i _ e => by rw [e]; rfl⟩
    have hown' : W.ownsRow C KT 2 (.slice (some ⟨g, 0, none⟩) d.size cap) d.size (flatP done) := by rw [hds]; exact hown
    have := own_sort (encB x.S x.bs) hk (m := n) (os := os) hown' hH hp1
    rw [hflat, hsorted, hds, hlen] at this
    rw [hlen]
    exact this
end
end Go.Proofs.Ytdnkeplmjimjcaa
