/-
  TrSort · TrNames · TrOne · TrLw · TrWalkF: these texts in one.
-/
import Derived.Test.YtcjojcihjhhpgaaPk11
import Derived.Test.YtcjojcihjhhpgaaIter
import Derived.Sort.OwnSorted
import Derived.Test.YtcjojcihjhhpgaaPk10
/-
  slices.Sort of a row of texts of one's own.
-/
namespace Go.Proofs.Ytcjojcihjhhpgaa
open Go.RowKit Go.Sort

def bts (s : ByteArray) : List UInt8 := s.data.toList
def ofB (x : List UInt8) : ByteArray := ⟨x.toArray⟩
theorem ofB_bts (s : ByteArray) : ofB (bts s) = s := rfl
theorem bts_ofB (x : List UInt8) : bts (ofB x) = x := rfl
theorem bts_inj {a b : ByteArray} (h : bts a = bts b) : a = b := congrArg ofB h
/-- A list of texts, rising. -/
def srtB (l : List ByteArray) : List ByteArray := ((l.map bts).mergeSort fun x y => decide (x ≤ y)).map ofB
theorem map_ofB (l : List ByteArray) : (l.map bts).map ofB = l := by
  rw [List.map_map]
  exact List.map_id l
theorem map_bts (l : List (List UInt8)) : (l.map ofB).map bts = l := by
  rw [List.map_map]
  exact List.map_id l
theorem srtB_nil : srtB [] = [] := by simp [srtB]
theorem srtB_len (l : List ByteArray) : (srtB l).length = l.length := by simp [srtB]
theorem srtB_perm (l : List ByteArray) : (srtB l).Perm l := by
  have := (List.mergeSort_perm (l.map bts) fun x y => decide (x ≤ y)).map ofB
  rw [map_ofB] at this
  exact this
theorem srtB_mem (l : List ByteArray) (x : ByteArray) : x ∈ srtB l ↔ x ∈ l := (srtB_perm l).mem_iff
theorem srtB_congr {l l' : List ByteArray} (h : l.Perm l') : srtB l = srtB l' := congrArg (List.map ofB) (mergeSort_of_perm (h.map bts))
theorem srtB_sorted (l : List ByteArray) : ((srtB l).map bts).Pairwise (· ≤ ·) := by
  unfold srtB
  rw [map_bts]
  have := List.pairwise_mergeSort (le := fun x y : List UInt8 => decide (x ≤ y)) (fun a b c h1 h2 => by simp only [decide_eq_true_eq] at *; exact List.le_trans h1 h2) (fun a b => by simp only [Bool.or_eq_true, decide_eq_true_eq]; exact List.le_total a b) (l.map bts)
  exact this.imp (fun h => by simpa using h)
theorem map_enc (l : List ByteArray) : l.map Value.string = (l.map bts).map encStr := by
  rw [List.map_map]
  rfl
theorem enc_srt (l : List ByteArray) : (((l.map bts).mergeSort fun x y => decide (x ≤ y)).map encStr) = (srtB l).map Value.string := by
  unfold srtB
  rw [List.map_map]
  rfl
theorem sort_ownS {w : World} (base m : Nat) (v : Value) (l : List ByteArray) (ho : w.ownsRow base STT 1 v m (l.map .string)) (hm : m = l.length) (hs : m < 1000000) :
    Calls Try.prog 33 #[v] w fun e w' => e = .returned (.tuple #[]) ∧ w'.ownsRow base STT 1 v m ((srtB l).map .string) ∧ w.grownBy w' v.ownBlock := by
  rcases ho.2 with ⟨rfl, h0⟩ | ⟨g, cap, cur, rfl, hb, hg, hc, hcm, hcs, hct⟩
  · have hl : l = [] := List.eq_nil_of_length_eq_zero (by omega)
    subst hl
    subst h0
    refine (AnyM.slices_Sort_string_none Try.sortA none 0 w).mono ?_
    rintro e w' ⟨rfl, rfl⟩
    exact ⟨rfl, by rw [srtB_nil]; exact ho, ⟨rfl, rfl, rfl, Nat.le_refl _, fun _ _ _ => rfl⟩⟩
  · subst hm
    have hl : (l.map bts).length = l.length := by simp
    have hct' : cur.toList.take (l.map bts).length = (l.map bts).map encStr := by
      rw [hl, ← map_enc]
      have := hct
      rw [Nat.mul_one] at this
      exact this
    have hS := AnyM.slices_Sort_string Try.sortA g 0 cap (l.map bts) w (holds_of_block hg hct') (Blo.lt hg) (by rw [hl]; omega)
    rw [hl] at hS
    refine hS.mono ?_
    rintro e w' ⟨rfl, k, os, rfl⟩
    have ho2 := ownsRow_sorted (n := k) (os := os) (ss := l.map bts) (ts := (l.map bts).mergeSort fun x y => decide (x ≤ y)) (by simp) hb hg (by rw [hl]; exact hc) hcm hcs
    rw [hl, enc_srt] at ho2
    exact ⟨rfl, ho2, grownBy_sorted _⟩
end Go.Proofs.Ytcjojcihjhhpgaa
/-
  names: a directory's names, rising.
-/
namespace Go.Proofs.Ytcjojcihjhhpgaa
open Go.RowKit Go.Maps Go.Sort Go.Shelf

/-- slices.Sort's two contracts at this dump, at the fence that asks nothing. -/
theorem sorts_keys (m : Nat) : AnyZ.SortsIn Try.prog Try.sortedA_ren Fence.wide m :=
  ⟨fun blk off cap ss W hH hblk hsz => callsIn_wide.2 (AnyM.slices_Sort_string Try.sortA blk off cap ss W hH hblk hsz),
   fun p cap W => callsIn_wide.2 (AnyM.slices_Sort_string_none Try.sortA p cap W)⟩
theorem keys_perm {w : World} {g n : Nat} {D : DataW (Option Nat)} {f : ByteArray → Option Nat} {ks : List ByteArray} (hown : w.ownsMap Try.prog STT ptrE g n D) (h2 : ∀ p, wfS p → Maps.has D (slit p) = (f p).isSome) (hn : ks.Nodup) (hk : ∀ p, p ∈ ks ↔ (f p).isSome = true) (hw : ∀ p, (f p).isSome = true → wfS p) : (ks.map bts).Perm (strKeys D) := by
  refine Collected.perm (left := fun _ => false) ⟨?_, fun x => ?_⟩ hown keyedS Try.underlying9 (fun _ => rfl)
  · exact List.Pairwise.map bts (fun a b h e => h (bts_inj e)) hn
  · constructor
    · intro hx
      obtain ⟨p, hp, rfl⟩ := List.mem_map.1 hx
      have h3 := (hk p).1 hp
      exact ⟨(h2 p (hw p h3)).trans h3, rfl⟩
    · rintro ⟨hx, -⟩
      have hwx : wfS (ofB x) := by
        obtain ⟨es, rfl, hK⟩ := hown.keysOf
        rw [has_eq, List.any_eq_true] at hx
        obtain ⟨q, hq, he⟩ := hx
        have hmem : Go.strOf q.1 ∈ strKeys (.map es) := List.mem_map.2 ⟨q, hq, rfl⟩
        have hle := strKeys_le hown Try.underlying9 _ hmem
        have e1 : q.1 = .string x := by first | exact WideAt.sameKey_eq he | exact (WideAt.sameKey_eq he).symm | exact of_decide_eq_true he | exact eq_of_beq he
        rw [e1] at hle
        exact hle
      have h3 := h2 (ofB x) hwx
      have e2 : slit (ofB x) = .string x := rfl
      rw [e2, hx] at h3
      exact List.mem_map.2 ⟨ofB x, (hk _).2 h3.symm, rfl⟩
/-- A directory's names. -/
def NamesL (T : Tr) (i : Nat) (L : List ByteArray) : Prop := ∃ ks : List ByteArray, ks.Nodup ∧ (∀ s, s ∈ ks ↔ (T.E i s).isSome = true) ∧ L = srtB ks
def NmO (w : World) (T : Tr) (i : Nat) (e : Ending) (w' : World) : Prop := ∃ (v : Value) (L : List ByteArray), e = .returned v ∧ NamesL T i L ∧ w'.ownsRow w.heap.size STT 1 v L.length (L.map .string) ∧ Below w.heap.size w w'
set_option maxRecDepth 100000 in
set_option maxHeartbeats 1000000 in
theorem names_any {w : World} {cnt : Nat} {T : Tr} {p : Pl} {i : Nat} (h : TrM w cnt T p) (hk : T.K i = 2) (ht : TrT T) : Calls Try.prog 37 #[.pointer (some ⟨p.B i, 0, none⟩)] w (NmO w T i) := by
  have hil : T.live i := by unfold Tr.live; omega
  obtain ⟨ks, D0, hown, h2, h5, h6, h8, h7⟩ := h.map i hk
  have hm : ∀ s, ((T.E i s).map p.B).isSome = (T.E i s).isSome := fun s => Option.isSome_map
  have hlen : ks.length ≤ 20100 := by
    have := told_len ht (P := ks.map fun s => (i, s)) (List.Pairwise.map _ (fun a b q e => q (by injection e)) h5) (fun q hq => by
      obtain ⟨s, hs, rfl⟩ := List.mem_map.1 hq
      have := (h6 s).1 hs
      rw [hm] at this
      exact this)
    rw [List.length_map] at this
    exact this
  refine (callsIn_wide (n := 6)).1 ?_
  obtain ⟨-, -, -, c3, -⟩ := h.cells hil
  rw [if_pos hk] at c3
  have hbl := hown.lt
  have HN : Hid (∀ ss : List (List UInt8), ss.Perm (strKeys D0) → NamesL T i (srtB (ss.map ofB))) := fun ss hp => by
    have hp2 := keys_perm hown (fun p hp => (h2 p hp).1) h5 h6 h8
    refine ⟨ks, h5, fun s => by rw [h6, hm], ?_⟩
    have := (hp.trans hp2.symm).map ofB
    rw [map_ofB] at this
    exact srtB_congr this
  have hseq : SeqGives Fence.wide 2 Try.prog 78 #[.pointer (some ⟨w.heap.size, 0, none⟩)] encStr (fun ss => ss.Perm (strKeys D0)) (Maps.size D0) (w.alloc (.cells #[.map (some (p.MB i))] NMT)) :=
    AnyZ.keys_gives (ρ := Try.keysA_ren) { Try.keysA with } Fence.wide _ trivial rfl (by omega) w.heap.size (p.MB i) cnt D0 _ (by simp) (by simp) (by
      obtain ⟨es, clock, hb, Ft, hs, hD⟩ := hown
      exact ⟨es, clock, (Below.heap_alloc _ _ (p.MB i) hbl).trans hb, Ft, hs, hD⟩)
  have cK : ∀ mb W, CallsIn Fence.wide 5 Try.prog 59 #[.map mb] W fun e w' => e = .returned (.func (.func 78) #[] #[.pointer (some ⟨W.heap.size, 0, none⟩)]) ∧ w' = W.alloc (.cells #[.map mb] NMT) := fun mb W => AnyZ.keys_in Try.keysA Fence.wide 5 trivial rfl mb W
  have cS := AnyZ.sorted_in Try.sortedA Fence.wide 5 trivial trivial trivial trivial rfl (by omega) (sorts_keys _) (enters_of Try.func33 (by kernel_rfl) rfl) 78 #[.pointer (some ⟨w.heap.size, 0, none⟩)] trivial (enters_of Try.func78 (by kernel_rfl) rfl) _ _ (by rw [h7]; unfold maxLen; omega) (by rw [h7]; omega) _ hseq
  change CallsIn _ _ Try.prog 58 _ _ _ at cS
  have hfK : Fence.wide.fn 59 := trivial
  have hfS : Fence.wide.fn 58 := trivial
  have H := Lib.hid h
  clear h hown h2 h5 h6 h8 h7 hm hlen hk hil hseq ht
  refine callsIn_of_wp Try.func37 rfl trivial ?_ rfl
  simp only [Try.ntmps37, List.size_toArray, List.length_cons, List.length_nil, Nat.reduceAdd, Nat.reduceSub, Array.replicate_succ, Array.replicate_zero, List.push_toArray, List.append_toArray, List.nil_append, List.cons_append]
  gi_wp2_with (first
    | (gi_at_call 59; refine (cK _ _).mono ?_; rintro e w' ⟨rfl, rfl⟩)
    | (gi_at_call 58; refine cS.mono ?_; rintro e w' ⟨v, ss, rfl, hS, hrow, hv, hb⟩; have HS := Lib.hid (And.intro hS (And.intro hrow (And.intro hv hb))); clear hS hrow hv hb))
  go_ret
  obtain ⟨hS, hrow, hv, hb⟩ := HS.out
  have e1 : (ss.mergeSort fun x y => decide (x ≤ y)).map encStr = (srtB (ss.map ofB)).map Value.string := by
    rw [← enc_srt, map_bts]
  have e2 : (srtB (ss.map ofB)).length = ss.length := by rw [srtB_len, List.length_map]
  refine ⟨v, srtB (ss.map ofB), rfl, HN.out ss hS, ?_, ((Below.refl _ w).alloc (Nat.le_refl _) _).trans (hb.mono (by simp))⟩
  rw [e2, ← e1]
  exact ownsRow_base_a hrow (by simp)
end Go.Proofs.Ytcjojcihjhhpgaa
/-
  The calls of a tree at a path of one name.
-/
namespace Go.Proofs.Ytcjojcihjhhpgaa
open Go.RowKit

/-- A path of one name, of no directory. -/
structure P1 (s x : ByteArray) : Prop where
  e : spE s = 0
  l : nml s = [x]
  d : dirB s = false
section
variable {T : Tr} {s x old y : ByteArray} {i f : Nat}
theorem P1.sp (h : P1 s x) : spL s = [x] := by unfold spL; rw [if_pos h.e]; exact h.l
theorem P1.dd (h : P1 s x) : spD s = false := by unfold spD; rw [if_pos h.e]; exact h.d
theorem P1.pe (h : P1 s x) : paE s = 0 := by unfold paE; rw [if_pos h.e, h.l]; rfl
theorem P1.pn (h : P1 s x) : paN s = x := by unfold paN; rw [h.sp]; rfl
theorem P1.nm (h : P1 s x) : nmE x = 0 := spL_nm s x (by rw [h.sp]; exact List.mem_cons_self)
theorem P1.n14 (h : P1 s x) : x.size ≤ 14 := by
  rcases Nat.lt_or_ge 14 x.size with q | q
  · have q2 := h.nm
    rw [nmE_long q] at q2
    exact absurd q2 (by decide)
  · exact q
theorem lead1 (hr : T.K 2 = 2) (he : T.E 2 x = some i) : leadK T 2 [x] = (some i, 0) := leadK_go hr he
theorem lead1_none (hr : T.K 2 = 2) (he : T.E 2 x = none) : leadK T 2 [x] = (none, 2) := leadK_none hr he
theorem above1 (hr : T.K 2 = 2) : aboveK T [x] = (some 2, 0) := by
  show findK T [] false (wrDir T) = _
  rw [findK_some (leadK_nil T 2)]
  unfold orE wrDir
  rw [if_pos hr, if_neg (fun q => by cases q.1)]
theorem find1 (h : P1 s x) (hr : T.K 2 = 2) (he : T.E 2 x = some i) (wr : Nat → Int) : findK T (spL s) (spD s) wr = (some i, wr i) := by
  rw [h.sp, h.dd, findK_some (lead1 hr he)]
  unfold orE
  rw [if_neg (fun q => by cases q.1)]
theorem find1_none (h : P1 s x) (hr : T.K 2 = 2) (he : T.E 2 x = none) (wr : Nat → Int) : findK T (spL s) (spD s) wr = (none, 2) := by
  rw [h.sp, findK_none (lead1_none hr he)]
theorem free1 (h : P1 s x) (hr : T.K 2 = 2) (he : T.E 2 x = none) : freeK T (spL s) (paN s) = (some 2, 0) := by
  unfold freeK
  rw [h.sp, h.pn, above1 hr]
  unfold freeR
  rw [if_neg (fun q => q rfl)]
  show (if (T.E 2 x).isSome = true then _ else _) = _
  rw [he]
  rfl
theorem ff1 (h : P1 s x) (hr : T.K 2 = 2) (he : T.E 2 x = none) : ffK T (spL s) (paN s) (spD s) = (some 2, 0) := by
  unfold ffK
  rw [free1 h hr he, h.dd]
  rfl
theorem create1 (h : P1 s x) (hr : T.K 2 = 2) (he : T.E 2 x = none) : createK T s = enterK T 2 x 1 := by
  unfold createK
  rw [if_neg (fun q => q h.pe), ff1 h hr he, h.pn]
  rfl
theorem mkdir1 (h : P1 s x) (hr : T.K 2 = 2) (he : T.E 2 x = none) : mkdirK T s = enterK T 2 x 2 := by
  have hx := h.n14
  unfold mkdirK
  rw [if_neg (fun q => q h.pe), free1 h hr he, h.pn, h.sp]
  show (if 255 < szN [x] + 1 then _ else _) = _
  rw [if_neg]
  show ¬ 255 < (1 + x.size + 0) + 1
  omega
theorem rm1 (h : P1 s x) (hr : T.K 2 = 2) (he : T.E 2 x = some i) {wr : Nat → Int} (hw : wr i = 0) : removeK T s wr = (dropK T 2 x i, 0) := by
  unfold removeK
  rw [if_neg (fun q => q h.pe), find1 h hr he, hw]
  unfold rmR
  rw [if_neg (fun q => q rfl)]
  show (dropK T ((aboveK T (spL s)).1.getD 0) (paN s) i, (0 : Int)) = _
  rw [h.sp, above1 hr, h.pn]
  rfl
theorem rm1_none (h : P1 s x) (hr : T.K 2 = 2) (he : T.E 2 x = none) (wr : Nat → Int) : removeK T s wr = (T, 2) := by
  unfold removeK
  rw [if_neg (fun q => q h.pe), find1_none h hr he]
  rfl
theorem unlink1 (h : P1 s x) (hr : T.K 2 = 2) (he : T.E 2 x = some i) (hk : T.K i = 1) : unlinkK T s = (dropK T 2 x i, 0) := rm1 h hr he (by unfold wrFile; rw [hk]; rfl)
theorem rmdir1 (h : P1 s x) (hr : T.K 2 = 2) (he : T.E 2 x = some i) (hk : T.K i = 2) (hb : T.bare i) : rmdirK T s = (dropK T 2 x i, 0) := rm1 h hr he (by unfold wrEmpty; rw [if_pos hk, if_pos hb])
theorem link1 (h0 : P1 old y) (h : P1 s x) (hr : T.K 2 = 2) (hy : T.E 2 y = some f) (hk : T.K f = 1) (he : T.E 2 x = none) : linkK T old s = if T.Lk f = 100 then (T, 31) else ((T.ent 2 x (some f)).lks f (T.Lk f + 1), 0) := by
  unfold linkK
  have hw : wrLink T f = 0 := by unfold wrLink; rw [hk]; rfl
  rw [if_neg (fun q => q h0.e), if_neg (fun q => q h.pe), find1 h0 hr hy, hw]
  show lkR2 T s f (ffK T (spL s) (paN s) (spD s)) = _
  rw [ff1 h hr he]
  unfold lkR2
  rw [if_neg (fun q => q rfl), h.pn]
theorem at1 (h : P1 s x) (hr : T.K 2 = 2) (he : T.E 2 x = some i) (wr : Nat → Int) : atK T s wr = (some i, wr i) := by
  unfold atK
  rw [if_neg (fun q => q h.e), find1 h hr he]
theorem at1_none (h : P1 s x) (hr : T.K 2 = 2) (he : T.E 2 x = none) (wr : Nat → Int) : atK T s wr = (none, 2) := by
  unfold atK
  rw [if_neg (fun q => q h.e), find1_none h hr he]
theorem stat1 (h : P1 s x) (hr : T.K 2 = 2) (he : T.E 2 x = some i) : statK T s = (statA T i, 0) := by
  unfold statK
  rw [at1 h hr he]
  rfl
theorem atf1 (h : P1 s x) (hr : T.K 2 = 2) (he : T.E 2 x = some i) (hk : T.K i = 1) : atK T s (wrFile T) = (some i, 0) := by
  rw [at1 h hr he]
  unfold wrFile
  rw [hk]
  rfl
theorem read1 (h : P1 s x) (hr : T.K 2 = 2) (he : T.E 2 x = some i) (hk : T.K i = 1) {a n : Int} (ha : 0 ≤ a) (hn : 0 ≤ n) (h4 : n ≤ 4096) : readK T s a n = (((T.D i).drop a.toNat).take n.toNat, 0) := by
  unfold readK
  rw [atf1 h hr he hk]
  unfold rdR
  rw [if_neg (fun q => q rfl), if_neg (by omega)]
theorem write1 (h : P1 s x) (hr : T.K 2 = 2) (he : T.E 2 x = some i) (hk : T.K i = 1) {a : Int} {m : List Nat} (ha : 0 ≤ a) (hm : m.length ≤ 4096) (h4 : a ≤ 38400 - (m.length : Int)) : writeK T s a m = if m.length = 0 then (T, 0) else (T.dat i (wrL (rszL (T.D i) (max (T.D i).length (a.toNat + m.length))) a.toNat m), 0) := by
  unfold writeK
  rw [atf1 h hr he hk]
  unfold wrR
  rw [if_neg (fun q => q rfl), if_neg (by omega), if_neg (by omega)]
theorem trunc1 (h : P1 s x) (hr : T.K 2 = 2) (he : T.E 2 x = some i) (hk : T.K i = 1) {a : Int} (ha : 0 ≤ a) (h4 : a ≤ 38400) : truncK T s a = (T.dat i (rszL (T.D i) a.toNat), 0) := by
  unfold truncK
  rw [atf1 h hr he hk]
  unfold trR
  rw [if_neg (fun q => q rfl), if_neg (by omega), if_neg (by omega)]
end
end Go.Proofs.Ytcjojcihjhhpgaa
/-
  What a law about one tree keeps; a tree whose root holds files alone.
-/
namespace Go.Proofs.Ytcjojcihjhhpgaa
open Go.RowKit

/-- A tree that lies in memory of the call's own. -/
structure Lw (w0 w : World) (cnt : Nat) (T : Tr) (p : Pl) : Prop where
  m : TrM w cnt T p
  t : TrT T
  b : Below w0.heap.size w0 w
  x : ∀ g, XT T p g → w0.heap.size ≤ g
/-- A block that is none of the tree's. -/
def NoX (T : Tr) (p : Pl) (w : World) (g : Nat) : Prop := ¬ XT T p g ∧ g < w.heap.size
section
variable {w0 w w' : World} {cnt cnt' : Nat} {T T' : Tr} {p p' : Pl} {g : Nat}
theorem Lw.step (h : Lw w0 w cnt T p) (hg : TrG w T p w' cnt' T' p') (ht : TrT T') : Lw w0 w' cnt' T' p' :=
  ⟨hg.m, ht, h.b.trans (hg.out.below h.b.size (fun g hl hx => by have := h.x g hx; omega)), fun g hx => (hg.sub g hx).elim (h.x g) (fun q => Nat.le_trans h.b.size q)⟩
theorem Lw.quiet (h : Lw w0 w cnt T p) (hb : Below w.heap.size w w') : Lw w0 w' cnt T p := ⟨h.m.later hb, h.t, h.b.trans (hb.mono h.b.size), h.x⟩
theorem NoX.step (h : NoX T p w g) (hg : TrG w T p w' cnt' T' p') : NoX T' p' w' g :=
  ⟨fun hx => (hg.sub g hx).elim h.1 (fun q => by have := h.2; omega), Nat.lt_of_lt_of_le h.2 hg.out.size⟩
theorem NoX.blo (h : NoX T p w g) (hg : TrG w T p w' cnt' T' p') {t : TypeId} {cs : Array Value} (hb : Blo w g t cs) : Blo w' g t cs := hg.out.blo hb h.1
theorem NoX.later (h : NoX T p w g) (hs : w.heap.size ≤ w'.heap.size) : NoX T p w' g := ⟨h.1, Nat.lt_of_lt_of_le h.2 hs⟩
theorem TrM.noX (h : TrM w cnt T p) (hg : w.heap.size ≤ g) (hl : g < w'.heap.size) : NoX T p w' g := ⟨fun hx => by have := h.lt hx; omega, hl⟩
/-- Walk's paths. -/
def WalkL (T : Tr) (L : List ByteArray) : Prop := ∃ Q : List TQ, (Q.map (·.1)).Nodup ∧ (∀ d s x, ((d, s), x) ∈ Q ↔ TP T 2 slA d s x) ∧ L = srtB (Q.map (·.2))
/-- The root's entries are files, these names. -/
structure Flat (T : Tr) (N : List ByteArray) : Prop where
  nd : N.Nodup
  mem : ∀ s, s ∈ N ↔ (T.E 2 s).isSome = true
  file : ∀ s j, T.E 2 s = some j → T.K j ≠ 2
theorem Flat.tp {N : List ByteArray} (h : Flat T N) {d : Nat} {s x : ByteArray} : TP T 2 slA d s x ↔ d = 2 ∧ s ∈ N ∧ x = slA ++ s := by
  constructor
  · intro q
    cases q with
    | file he hk => exact ⟨rfl, (h.mem _).2 (by rw [he]; rfl), rfl⟩
    | dir he hk => exact absurd hk (h.file _ _ he)
    | deep he hk _ => exact absurd hk (h.file _ _ he)
  · rintro ⟨rfl, hs, rfl⟩
    obtain ⟨j, hj⟩ := Option.isSome_iff_exists.1 ((h.mem s).1 hs)
    exact .file hj (h.file _ _ hj)
theorem Flat.walk {N L : List ByteArray} (h : Flat T N) (hL : WalkL T L) : L = srtB (N.map fun s => slA ++ s) := by
  obtain ⟨Q, h1, h2, rfl⟩ := hL
  apply srtB_congr
  have e1 : Q.map (·.2) = (Q.map (·.1)).map fun q => slA ++ q.2 := by
    rw [List.map_map]
    refine List.map_congr_left fun q hq => ?_
    obtain ⟨⟨d, s⟩, x⟩ := q
    exact ((h.tp).1 ((h2 d s x).1 hq)).2.2
  have e2 : (Q.map (·.1)).Perm (N.map fun s => (2, s)) := by
    refine (List.perm_ext_iff_of_nodup h1 (List.Pairwise.map _ (fun a b q e => q (by injection e)) h.nd)).2 fun q => ?_
    obtain ⟨d, s⟩ := q
    constructor
    · intro hq
      obtain ⟨⟨⟨d', s'⟩, x⟩, m, e⟩ := List.mem_map.1 hq
      have e : (d', s') = (d, s) := e
      cases e
      obtain ⟨rfl, hs, -⟩ := (h.tp).1 ((h2 _ _ _).1 m)
      exact List.mem_map.2 ⟨s, hs, rfl⟩
    · intro hq
      obtain ⟨s', hs, e⟩ := List.mem_map.1 hq
      cases e
      exact List.mem_map.2 ⟨((2, s), slA ++ s), (h2 _ _ _).2 ((h.tp).2 ⟨rfl, hs, rfl⟩), rfl⟩
  rw [e1]
  have h3 := e2.map fun q => slA ++ q.2
  have e3 : (N.map fun s => (2, s)).map (fun q : Nat × ByteArray => slA ++ q.2) = N.map fun s => slA ++ s := by rw [List.map_map]; rfl
  rw [e3] at h3
  exact h3
end
end Go.Proofs.Ytcjojcihjhhpgaa
/-
  Walk: all paths, rising.
-/
namespace Go.Proofs.Ytcjojcihjhhpgaa
open Go.RowKit

def WfO (w : World) (T : Tr) (e : Ending) (w' : World) : Prop := ∃ (v : Value) (L : List ByteArray), e = .returned v ∧ WalkL T L ∧ w'.ownsRow w.heap.size STT 1 v L.length (L.map .string) ∧ Below w.heap.size w w'
section
variable {w w' : World} {cnt : Nat} {T : Tr} {p : Pl}
theorem own_up {base b : Nat} {e : TypeId} {v : Value} {m : Nat} {xs : List Value} (h : w.ownsRow b e 1 v m xs) (hb : ∀ k, v.ownBlock = some k → base ≤ k) : w.ownsRow base e 1 v m xs := by
  refine ⟨h.1, ?_⟩
  rcases h.2 with q | ⟨g, cap, cur, q, q2, q3⟩
  · exact .inl q
  · exact .inr ⟨g, cap, cur, q, hb g (by rw [q]; rfl), q3⟩
theorem walkL_len (ht : TrT T) {L : List ByteArray} (h : WalkL T L) : L.length ≤ 20100 := by
  obtain ⟨Q, h1, h2, rfl⟩ := h
  rw [srtB_len, List.length_map]
  have := told_len ht h1 (fun q hq => by
    obtain ⟨⟨⟨d, s⟩, x⟩, hm, rfl⟩ := List.mem_map.1 hq
    exact ((h2 d s x).1 hm).bel.2)
  rw [List.length_map] at this
  exact this
set_option maxRecDepth 100000 in
set_option maxHeartbeats 1000000 in
theorem walkF_any (h : TrM w cnt T p) (ht : TrT T) : Calls Try.prog 11 #[.pointer (some ⟨p.bt, 0, none⟩)] w (WfO w T) := by
  obtain ⟨w1, hw1⟩ : ∃ w1, w.alloc (.cells #[.slice none 0 0] SST) = w1 := ⟨_, rfl⟩
  have hb1 : Below w.heap.size w w1 := by rw [← hw1]; exact sup_pct w _
  have hx1 : Blo w1 w.heap.size SST #[.slice none 0 0] := by rw [← hw1]; exact blo_laid w _ _
  have hsz1 : w1.heap.size = w.heap.size + 1 := by rw [← hw1]; simp
  have HB1 := Lib.hid hb1
  have HSz := Lib.hid hsz1
  obtain ⟨rk, hrk⟩ := ht.rank
  have hm1 := h.later hb1
  have HW : Hid (Calls Try.prog 31 #[.pointer (some ⟨p.B 2, 0, none⟩), .string ⟨#[47]⟩, .func (.func 32) #[] #[.pointer (some ⟨w.heap.size, 0, none⟩)]] w1 (WkO w1 T w.heap.size [] (.slice none 0 0) 2 ⟨#[47]⟩)) :=
    walk_any ht hrk (rk 2 + 1) 2 (Nat.lt_succ_self _) h.wf.root w1 [] (.slice none 0 0) ⟨#[47]⟩ [] hm1 ⟨hx1, rfl, .inl ⟨rfl, rfl⟩⟩
      ⟨fun hx => by have := h.lt hx; omega, fun k hk => by cases hk⟩ ⟨List.nodup_nil, rfl, fun q hq => by cases hq⟩ (by decide)
  have HT := Lib.hid ht
  have t1 : w1.cell? ⟨p.bt, 1, none⟩ = some (.pointer (some ⟨p.B 2, 0, none⟩)) := hm1.tree.cell 1
  clear h ht hb1 hx1 hsz1 hrk hm1
  go_enter Try.func11, Try.ntmps11
  go_upto_region 2 with (fail)
  go_wp2_with fail
  refine HW.out.mono ?_
  rintro e w2 ⟨rfl, Q, v, hwb, hnd, hmem, ho, hown⟩
  rw [List.nil_append] at hwb
  obtain ⟨a2, c2, rfl, -⟩ := own_slice hwb.own
  obtain ⟨n2, hn2⟩ : ∃ n2, (Q.map (·.2)).length = n2 := ⟨_, rfl⟩
  have HL : Hid (WalkL T (srtB (Q.map (·.2)))) := ⟨Q, hnd, hmem, rfl⟩
  have HLn := Lib.hid (walkL_len HT.out HL.out)
  have HOwn : Hid (∀ k, (Value.slice a2 (Q.map (·.2)).length c2).ownBlock = some k → w.heap.size ≤ k) := fun k hk => by
    rcases hown k hk with q | q
    · cases q
    · have := HSz.out; omega
  have HB2 : Hid (Below w.heap.size w w2) := by
    have h1 := HB1.out
    have h2 : Below w.heap.size w1 w2 := ho.below h1.size (fun k hl hk => by
      rcases hk with q | q
      · omega
      · cases q)
    exact h1.trans h2
  have HSo := Lib.hid (sort_ownS 0 (Q.map (·.2)).length (.slice a2 (Q.map (·.2)).length c2) (Q.map (·.2)) hwb.own rfl (by have := HLn.out; rw [srtB_len] at this; omega))
  have HX2 := Lib.hid hwb.box
  have HAp := Lib.hid (hwb.box.row_apart hwb.own (by decide))
  have d0 : w2.cell? ⟨w.heap.size, 0, none⟩ = some (.slice a2 (Q.map (·.2)).length c2) := hwb.box.cell 0
  clear hwb hnd hmem ho hown t1
  rw [hn2] at HSo HX2 HAp d0 HOwn
  have HN2 := Lib.hid hn2
  clear hn2
  go_wp2_with fail
  refine HSo.out.mono ?_
  rintro e w3 ⟨rfl, ho3, hg3⟩
  have e0 : w3.cell? ⟨w.heap.size, 0, none⟩ = some (.slice a2 n2 c2) := (HX2.out.grown hg3 HAp.out).cell 0
  have HO3 := Lib.hid (own_up ho3 HOwn.out)
  have HB3 : Hid (Below w.heap.size w w3) := HB2.out.grown hg3 HB2.out.size (fun j hj => HOwn.out j hj)
  clear ho3 hg3 d0
  go_wp2_with fail
  go_ret
  refine ⟨.slice a2 n2 c2, srtB (Q.map (·.2)), rfl, HL.out, ?_, ?_⟩
  · rw [srtB_len, HN2.out]
    exact HO3.out
  · exact HB3.out
end
end Go.Proofs.Ytcjojcihjhhpgaa
