/-
  TrAbove · TrFree · TrAdd · TrFresh · TrEnt: these texts in one.
-/
import Derived.Test.YtcjojcihjhhpgaaPk03
/-
  The directory of a new entry.
-/
namespace Go.Proofs.Ytcjojcihjhhpgaa
open Go.RowKit

def plV (b o n c : Nat) (d : Bool) (last : ByteArray) : Value := .agg #[.slice (some ⟨b, o, none⟩) n c, .bool d, .string last]
section
variable {w : World} {cnt : Nat} {T : Tr} {p : Pl}
set_option maxRecDepth 100000 in
theorem ahead_any (b o n c : Nat) (d : Bool) (last : ByteArray) (w : World) (h0 : 0 < n) (hc : n ≤ c) (hn : n ≤ 1000) :
    Calls Try.prog 62 #[.agg #[.slice (some ⟨b, o, none⟩) n c, .bool d, .string last]] w fun e w' => e = .returned (.slice (some ⟨b, o, none⟩) (n - 1) c) ∧ Below w.heap.size w w' := by
  obtain ⟨w1, hw1⟩ : ∃ w1, w1 = w.alloc (.cells #[.slice (some ⟨b, o, none⟩) n c, .bool d, .string last] PLT) := ⟨_, rfl⟩
  have HX1 : Hid (Blo w1 w.heap.size PLT #[.slice (some ⟨b, o, none⟩) n c, .bool d, .string last]) := by rw [hw1]; exact blo_laid w _ _
  have HB1 : Hid (Below w.heap.size w w1) := by rw [hw1]; exact sup_pct w _
  have c0 : w1.cell? ⟨w.heap.size, 0, none⟩ = some (.slice (some ⟨b, o, none⟩) n c) := HX1.out.cell 0
  have z4 : IntKind.i64.wrap ((n : Int) - 1) = (n : Int) - 1 := IntWalk.i64_in _ (by omega)
  have z5 : (0 : Int) ≤ (n : Int) - 1 := by omega
  have z6 : (n : Int) - 1 ≤ (c : Int) := by omega
  have z7 : ((n : Int) - 1).toNat = n - 1 := by omega
  have z8 : n - 1 ≤ c := by omega
  go_enter Try.func62, Try.ntmps62
  go_upto_region 1 with (fail)
  rw [← hw1]
  clear hw1
  go_wp2_with fail
  go_ret
  exact ⟨rfl, HB1.out⟩
/-- The directory of a new entry. -/
def aboveK (T : Tr) (l : List ByteArray) : Option Nat × Int := findK T (l.take (l.length - 1)) false (wrDir T)
theorem Strs.cutN {w : World} {a : Option Addr} {l : List ByteArray} (h : Strs w a l) (k : Nat) : Strs w a (l.take k) := fun hl => by
  obtain ⟨b, o, ha, hc⟩ := h (fun q => hl (by rw [q]; simp))
  refine ⟨b, o, ha, fun i hi => ?_⟩
  rw [List.length_take] at hi
  rw [hc i (by omega)]
  congr 2
  rw [List.getD_eq_getElem?_getD, List.getD_eq_getElem?_getD, List.getElem?_take_of_lt (by omega)]
set_option maxRecDepth 100000 in
set_option maxHeartbeats 4000000 in
theorem above_any (h : TrM w cnt T p) {b o n c : Nat} {d : Bool} {last : ByteArray} {l : List ByteArray} (hn : n = l.length) (h0 : 0 < n) (hc : n ≤ c) (hn9 : n ≤ 1000) (hs : Strs w (some ⟨b, o, none⟩) l) (hw : ∀ s ∈ l, wfS s) :
    Calls Try.prog 41 #[.pointer (some ⟨p.bt, 0, none⟩), .agg #[.slice (some ⟨b, o, none⟩) n c, .bool d, .string last]] w fun e w' => e = .returned (.tuple #[ptrV ((aboveK T l).1.map p.B), .int .i64 (aboveK T l).2]) ∧ Below w.heap.size w w' := by
  obtain ⟨w1, hw1⟩ : ∃ w1, w1 = w.alloc (.cells #[.slice (some ⟨b, o, none⟩) n c, .bool d, .string last] PLT) := ⟨_, rfl⟩
  have HX1 : Hid (Blo w1 w.heap.size PLT #[.slice (some ⟨b, o, none⟩) n c, .bool d, .string last]) := by rw [hw1]; exact blo_laid w _ _
  have HB1 : Hid (Below w.heap.size w w1) := by rw [hw1]; exact sup_pct w _
  have H1 := Lib.hid (h.later HB1.out)
  have HAh := Lib.hid (ahead_any b o n c d last w1 h0 hc hn9)
  have HFd : Hid (∀ W, Below w.heap.size w W → Calls Try.prog 40 #[.pointer (some ⟨p.bt, 0, none⟩), .agg #[.slice (some ⟨b, o, none⟩) (n - 1) c, .bool false], .func (.func 36) #[] #[]] W fun e w' => e = .returned (.tuple #[ptrV ((aboveK T l).1.map p.B), .int .i64 (aboveK T l).2]) ∧ Below W.heap.size W w') := fun W hb =>
    find_dir (h.later hb) (fun W i hW hi => directory_any hW hi) (by rw [List.length_take]; omega) (by omega) ((hs.below hb).cutN _) (fun s q => hw s (List.mem_of_mem_take q))
  have c0 : w1.cell? ⟨w.heap.size, 0, none⟩ = some (.slice (some ⟨b, o, none⟩) n c) := HX1.out.cell 0
  have c1 : w1.cell? ⟨w.heap.size, 1, none⟩ = some (.bool d) := HX1.out.cell 1
  have c2 : w1.cell? ⟨w.heap.size, 2, none⟩ = some (.string last) := HX1.out.cell 2
  clear h hn h0 hc hn9 hs hw
  generalize aboveK T l = R at *
  go_enter Try.func41, Try.ntmps41
  go_upto_region 1 with (fail)
  rw [← hw1]
  clear hw1
  go_wp2_with fail
  refine HAh.out.mono ?_
  rintro e w2 ⟨rfl, hb2⟩
  have HB2 := Lib.hid (HB1.out.trans (hb2.mono HB1.out.size))
  clear hb2 c0 c1 c2
  go_wp2_with fail
  refine (HFd.out w2 HB2.out).mono ?_
  rintro e w3 ⟨rfl, hb3⟩
  have HB3 := Lib.hid (HB2.out.trans (hb3.mono HB2.out.size))
  clear hb3
  go_wp2_with fail
  go_ret2
  exact ⟨rfl, HB3.out⟩
end
end Go.Proofs.Ytcjojcihjhhpgaa
/-
  The directory of a new entry whose name isn't there.
-/
namespace Go.Proofs.Ytcjojcihjhhpgaa
open Go.RowKit

/-- A path of an entry, as it lies. -/
structure PlO (w : World) (b o n c : Nat) (l : List ByteArray) (last : ByteArray) : Prop where
  len : n = l.length
  pos : 0 < n
  le : n ≤ c
  n9 : n ≤ 1000
  strs : Strs w (some ⟨b, o, none⟩) l
  keys : ∀ x ∈ l, wfS x
  wl : wfS last
theorem PlO.later {w w' : World} {b o n c : Nat} {l : List ByteArray} {last : ByteArray} (h : PlO w b o n c l last) (hb : Below w.heap.size w w') : PlO w' b o n c l last := ⟨h.len, h.pos, h.le, h.n9, h.strs.below hb, h.keys, h.wl⟩
theorem aboveK_cases {T : Tr} (hw : TrW T) (hr : T.live 2) (l : List ByteArray) : (∃ z, aboveK T l = (none, z) ∧ z ≠ 0) ∨ (∃ i, aboveK T l = (some i, 20)) ∨ ∃ i, T.live i ∧ T.K i = 2 ∧ aboveK T l = (some i, 0) := by
  unfold aboveK
  obtain ⟨R, hR⟩ : ∃ R, leadK T 2 (l.take (l.length - 1)) = R := ⟨_, rfl⟩
  have h1 := leadK_live hw (l.take (l.length - 1)) 2 hr
  have h2 := leadK_err (T := T) (l.take (l.length - 1)) 2
  rw [hR] at h1 h2
  obtain ⟨ro, rz⟩ := R
  cases ro with
  | none => exact .inl ⟨rz, findK_none hR, h2 rfl⟩
  | some i =>
    obtain ⟨q1, q2⟩ := h1 i rfl
    have e : findK T (l.take (l.length - 1)) false (wrDir T) = (some i, wrDir T i) := by
      rw [findK_some hR]
      rfl
    rw [e]
    unfold wrDir
    by_cases hk : T.K i = 2
    · rw [if_pos hk]; exact .inr (.inr ⟨i, q1, hk, rfl⟩)
    · rw [if_neg hk]; exact .inr (.inl ⟨i, rfl⟩)
def freeR (T : Tr) (R : Option Nat × Int) (last : ByteArray) : Option Nat × Int := if R.2 ≠ 0 then (none, R.2) else match R.1 with | none => (none, 0) | some i => if (T.E i last).isSome = true then (none, 17) else (some i, 0)
def freeK (T : Tr) (l : List ByteArray) (last : ByteArray) : Option Nat × Int := freeR T (aboveK T l) last
def ffR (R : Option Nat × Int) (d : Bool) : Option Nat × Int := if R.2 = 0 ∧ d = true then (R.1, 21) else R
def ffK (T : Tr) (l : List ByteArray) (last : ByteArray) (d : Bool) : Option Nat × Int := ffR (freeK T l last) d
section
variable {w : World} {cnt : Nat} {T : Tr} {p : Pl} {b o n c : Nat} {d : Bool} {last : ByteArray} {l : List ByteArray}
set_option maxRecDepth 100000 in
set_option maxHeartbeats 4000000 in
theorem free_any (h : TrM w cnt T p) (hp : PlO w b o n c l last) :
    Calls Try.prog 54 #[.pointer (some ⟨p.bt, 0, none⟩), .agg #[.slice (some ⟨b, o, none⟩) n c, .bool d, .string last]] w fun e w' => e = .returned (.tuple #[ptrV ((freeK T l last).1.map p.B), .int .i64 (freeK T l last).2]) ∧ Below w.heap.size w w' := by
  obtain ⟨w1, hw1⟩ : ∃ w1, w1 = w.alloc (.cells #[.slice (some ⟨b, o, none⟩) n c, .bool d, .string last] PLT) := ⟨_, rfl⟩
  have HX1 : Hid (Blo w1 w.heap.size PLT #[.slice (some ⟨b, o, none⟩) n c, .bool d, .string last]) := by rw [hw1]; exact blo_laid w _ _
  have HB1 : Hid (Below w.heap.size w w1) := by rw [hw1]; exact sup_pct w _
  have H1 := Lib.hid (h.later HB1.out)
  have hp1 := hp.later HB1.out
  have HAb := Lib.hid (above_any (d := d) (last := last) H1.out hp1.len hp1.pos hp1.le hp1.n9 hp1.strs hp1.keys)
  have HWl := Lib.hid hp.wl
  have HCs := Lib.hid (aboveK_cases h.wf h.root l)
  have c0 : w1.cell? ⟨w.heap.size, 0, none⟩ = some (.slice (some ⟨b, o, none⟩) n c) := HX1.out.cell 0
  have c1 : w1.cell? ⟨w.heap.size, 1, none⟩ = some (.bool d) := HX1.out.cell 1
  have c2 : w1.cell? ⟨w.heap.size, 2, none⟩ = some (.string last) := HX1.out.cell 2
  have HQ : Hid (freeK T l last = freeR T (aboveK T l) last) := rfl
  clear h hp hp1
  rcases HCs.out with ⟨z, hz, hz0⟩ | ⟨i, hz⟩ | ⟨i, hi, hk, hz⟩
  · have HE : Hid (freeK T l last = (none, z)) := by
      show _ = _
      rw [HQ.out, hz]
      exact if_pos hz0
    rw [hz] at HAb
    have hzb : (z == 0) = false := beq_eq_false_iff_ne.2 hz0
    clear hz hz0 HCs HQ
    go_enter Try.func54, Try.ntmps54
    go_upto_region 1 with (fail)
    rw [← hw1]
    clear hw1
    go_wp2_with fail
    refine HAb.out.mono ?_
    rintro e w2 ⟨rfl, hb2⟩
    have HB2 := Lib.hid (HB1.out.trans (hb2.mono HB1.out.size))
    clear hb2 c0 c1 c2
    go_wp2_with fail
    go_ret2
    rw [HE.out]
    exact ⟨rfl, HB2.out⟩
  · have HE : Hid (freeK T l last = (none, 20)) := by
      show _ = _
      rw [HQ.out, hz]
      exact if_pos (show (20 : Int) ≠ 0 by decide)
    rw [hz] at HAb
    clear hz HCs HQ
    go_enter Try.func54, Try.ntmps54
    go_upto_region 1 with (fail)
    rw [← hw1]
    clear hw1
    go_wp2_with fail
    refine HAb.out.mono ?_
    rintro e w2 ⟨rfl, hb2⟩
    have HB2 := Lib.hid (HB1.out.trans (hb2.mono HB1.out.size))
    clear hb2 c0 c1 c2
    go_wp2_with fail
    go_ret2
    rw [HE.out]
    exact ⟨rfl, HB2.out⟩
  · rw [hz] at HAb
    have HAb : Hid (Calls Try.prog 41 #[.pointer (some ⟨p.bt, 0, none⟩), .agg #[.slice (some ⟨b, o, none⟩) n c, .bool d, .string last]] w1 fun e w' => e = .returned (.tuple #[.pointer (some ⟨p.B i, 0, none⟩), .int .i64 0]) ∧ Below w1.heap.size w1 w') := HAb.out
    have HZ : Hid (freeK T l last = if (T.E i last).isSome = true then (none, 17) else (some i, 0)) := by
      show _ = _
      rw [HQ.out, hz]
      rfl
    have HI := Lib.hid (And.intro hi hk)
    clear hz HCs HQ hi hk
    cases he : T.E i last with
    | none =>
      have HE : Hid (freeK T l last = (some i, 0)) := by
        show _ = _
        rw [HZ.out, he]
        rfl
      have HEn := Lib.hid he
      clear he
      go_enter Try.func54, Try.ntmps54
      go_upto_region 1 with (fail)
      rw [← hw1]
      clear hw1
      go_wp2_with fail
      refine HAb.out.mono ?_
      rintro e w2 ⟨rfl, hb2⟩
      have HB2 := Lib.hid (HB1.out.trans (hb2.mono HB1.out.size))
      have H2 := H1.out.later hb2
      have hlk := (H2.later ((Below.refl _ _).drew)).look1 HI.out.2 HWl.out
      rw [HEn.out] at hlk
      have hlk : (Instr.lookup NMT (.map (some (p.MB i))) (.string last) false).run Try.prog w2.drew = .ok (.pointer none) w2.drew := hlk
      obtain ⟨-, -, -, e3, -⟩ := H2.cells HI.out.1
      rw [if_pos HI.out.2] at e3
      have c2 : w2.cell? ⟨w.heap.size, 2, none⟩ = some (.string last) := (HX1.out.later hb2).cell 2
      clear hb2 c0 c1 H2
      go_upto_region 4 with (fail)
      go_region
      go_wp2_with fail
      go_ret2
      rw [HE.out]
      exact ⟨rfl, HB2.out.drew⟩
    | some j =>
      have HE : Hid (freeK T l last = (none, 17)) := by
        show _ = _
        rw [HZ.out, he]
        rfl
      have HEn := Lib.hid he
      clear he
      go_enter Try.func54, Try.ntmps54
      go_upto_region 1 with (fail)
      rw [← hw1]
      clear hw1
      go_wp2_with fail
      refine HAb.out.mono ?_
      rintro e w2 ⟨rfl, hb2⟩
      have HB2 := Lib.hid (HB1.out.trans (hb2.mono HB1.out.size))
      have H2 := H1.out.later hb2
      have hlk := (H2.later ((Below.refl _ _).drew)).look1 HI.out.2 HWl.out
      rw [HEn.out] at hlk
      have hlk : (Instr.lookup NMT (.map (some (p.MB i))) (.string last) false).run Try.prog w2.drew = .ok (.pointer (some ⟨p.B j, 0, none⟩)) w2.drew := hlk
      obtain ⟨-, -, -, e3, -⟩ := H2.cells HI.out.1
      rw [if_pos HI.out.2] at e3
      have c2 : w2.cell? ⟨w.heap.size, 2, none⟩ = some (.string last) := (HX1.out.later hb2).cell 2
      clear hb2 c0 c1 H2
      go_upto_region 4 with (fail)
      go_region
      go_wp2_with fail
      go_ret2
      rw [HE.out]
      exact ⟨rfl, HB2.out.drew⟩
end
end Go.Proofs.Ytcjojcihjhhpgaa
/-
  A new node, in numbers and in memory.
-/
namespace Go.Proofs.Ytcjojcihjhhpgaa
open Go.RowKit

def updN {α : Type} (f : Nat → α) (i : Nat) (v : α) : Nat → α := fun j => if j = i then v else f j
theorem updN_at {α : Type} (f : Nat → α) (i : Nat) (v : α) : updN f i v i = v := if_pos rfl
theorem updN_ne {α : Type} (f : Nat → α) {i j : Nat} (v : α) (h : j ≠ i) : updN f i v j = f j := if_neg h
/-- A tree with a node more that has no name yet in any directory. -/
def Tr.add (T : Tr) (i : Nat) (k : Int) : Tr := { T with K := updN T.K i k, Lk := updN T.Lk i 1, E := updN T.E i (fun _ => none), D := updN T.D i [] }
def Pl.add (p : Pl) (i b m : Nat) : Pl := { p with B := updN p.B i b, MB := updN p.MB i m, DV := updN p.DV i (.slice none 0 0) }
/-- What a change of a tree leaves. -/
structure TrG (w : World) (T : Tr) (p : Pl) (w' : World) (cnt' : Nat) (T' : Tr) (p' : Pl) : Prop where
  m : TrM w' cnt' T' p'
  out : Out (XT T p) w w'
  sub : ∀ g, XT T' p' g → XT T p g ∨ w.heap.size ≤ g
  bt : p'.bt = p.bt
section
variable {w w1 : World} {cnt : Nat} {T : Tr} {p : Pl} {i b m : Nat} {k : Int}
theorem Tr.add_wf (h : TrW T) (hi : T.K i = 0) (h2 : 2 ≤ i) (hn : i ≤ T.n) (hk : k = 1 ∨ k = 2) : TrW (T.add i k) := by
  have h0 : T.K 2 = 2 := h.root
  have hi2 : i ≠ 2 := fun e => by rw [e, h0] at hi; exact absurd hi (by decide)
  have lv : ∀ j, (T.add i k).live j → j = i ∨ (j ≠ i ∧ T.live j) := fun j hj => by
    by_cases e : j = i
    · exact .inl e
    · refine .inr ⟨e, ?_⟩
      have : updN T.K i k j ≠ 0 := hj
      rwa [updN_ne _ _ e] at this
  refine ⟨h.n4, h.n2, ?_, fun j => ?_, fun j hj => ?_, fun j s t ht => ?_, fun j hj => ?_, fun j => ?_, fun j => ?_⟩
  · show updN T.K i k 2 = 2
    rw [updN_ne _ _ (Ne.symm hi2)]; exact h0
  · show updN T.K i k j = 0 ∨ updN T.K i k j = 1 ∨ updN T.K i k j = 2
    by_cases e : j = i
    · subst e; rw [updN_at]; omega
    · rw [updN_ne _ _ e]; exact h.kind j
  · rcases lv j hj with e | ⟨-, e⟩
    · subst e; exact ⟨h2, hn⟩
    · exact h.rng j e
  · have ht : updN T.E i (fun _ => none) j s = some t := ht
    by_cases e : j = i
    · subst e; rw [updN_at] at ht; cases ht
    · rw [updN_ne _ _ e] at ht
      obtain ⟨q1, q2, q3⟩ := h.ent j s t ht
      have et : t ≠ i := fun q => q2 (by rw [q]; exact hi)
      exact ⟨by show updN T.K i k j = 2; rw [updN_ne _ _ e]; exact q1, by show updN T.K i k t ≠ 0; rw [updN_ne _ _ et]; exact q2, q3⟩
  · show 1 ≤ updN T.Lk i 1 j ∧ updN T.Lk i 1 j ≤ 100
    rcases lv j hj with e | ⟨e, q⟩
    · subst e; rw [updN_at]; decide
    · rw [updN_ne _ _ e]; exact h.lk j q
  · show (updN T.D i [] j).length ≤ 38400
    by_cases e : j = i
    · subst e; rw [updN_at]; simp
    · rw [updN_ne _ _ e]; exact h.sz j
  · show ∀ y ∈ updN T.D i [] j, y < 256
    by_cases e : j = i
    · subst e; rw [updN_at]; simp
    · rw [updN_ne _ _ e]; exact h.by_ j
theorem TrM.lt (h : TrM w cnt T p) {g : Nat} (hg : XT T p g) : g < w.heap.size := by
  rcases hg with rfl | rfl | ⟨i, hi, rfl | ⟨hk, rfl⟩ | ⟨hk, e⟩⟩
  · exact h.tree.lt
  · exact h.row.lt
  · exact (h.node i hi).lt
  · obtain ⟨ks, hs⟩ := h.map i hk
    exact hs.lt
  · rcases h.dat i hk with ⟨q, -⟩ | ⟨g', c, cur, q, -, -, q3, -⟩
    · rw [q] at e; cases e
    · rw [q] at e
      cases e
      exact q3.lt
theorem ndL_len (T : Tr) (p : Pl) : (ndL T p).length = T.n + 1 := by simp [ndL]
theorem ndL_get {j : Nat} (hj : j ≤ T.n) : (ndL T p)[j]? = some (ptrV (ndP T p j)) := by
  unfold ndL
  rw [List.getElem?_map, List.getElem?_range (by omega)]
  rfl
theorem ndL_add (hn : i ≤ T.n) (hk : k = 1 ∨ k = 2) : (ndL T p).toArray.setIfInBounds i (.pointer (some ⟨b, 0, none⟩)) = (ndL (T.add i k) (p.add i b m)).toArray := by
  apply Array.toList_inj.1
  rw [Array.toList_setIfInBounds]
  show (ndL T p).set i _ = ndL (T.add i k) (p.add i b m)
  refine List.ext_getElem? fun j => ?_
  by_cases hj : j ≤ T.n
  · have hj2 : j ≤ (T.add i k).n := hj
    rw [ndL_get hj2, List.getElem?_set]
    by_cases e : i = j
    · subst e
      rw [if_pos rfl, if_pos (by rw [ndL_len]; omega)]
      unfold ndP
      rw [if_neg (by show updN T.K i k i ≠ 0; rw [updN_at]; omega)]
      show _ = some (ptrV (some (updN p.B i b i)))
      rw [updN_at]
      rfl
    · rw [if_neg e, ndL_get hj]
      unfold ndP
      have e2 : (T.add i k).K j = T.K j := updN_ne _ _ (Ne.symm e)
      have e3 : (p.add i b m).B j = p.B j := updN_ne _ _ (Ne.symm e)
      rw [e2, e3]
  · rw [List.getElem?_eq_none (by rw [List.length_set, ndL_len]; omega), List.getElem?_eq_none (by rw [ndL_len]; show T.n + 1 ≤ j; omega)]
theorem TrM.add (h : TrM w cnt T p) (hi : T.K i = 0) (h2 : 2 ≤ i) (hn : i ≤ T.n) (hk : k = 1 ∨ k = 2) (hb : Below w.heap.size w w1) (hbn : Blo w1 b NT #[.int .i64 (i : Int), .int .i64 k, .int .i64 1, .map (if k = 2 then some m else none), .slice none 0 0])
    (hm : k = 2 → SM w1 m 0 (fun _ => none) []) (b1 : w.heap.size ≤ b) (m1 : w.heap.size ≤ m) : TrG w T p (w1.setCell ⟨p.bn, i, none⟩ (.pointer (some ⟨b, 0, none⟩))) cnt (T.add i k) (p.add i b m) := by
  have h1 := h.later hb
  have hol := h.row.lt
  have ho : Out (fun g => g = p.bn) w1 (w1.setCell ⟨p.bn, i, none⟩ (.pointer (some ⟨b, 0, none⟩))) := out_put _ _ _ rfl
  have hlv : ∀ j, (T.add i k).live j → j = i ∨ (j ≠ i ∧ T.live j) := fun j hj => by
    by_cases e : j = i
    · exact .inl e
    · refine .inr ⟨e, ?_⟩
      have : updN T.K i k j ≠ 0 := hj
      rwa [updN_ne _ _ e] at this
  have kk : ∀ j, j ≠ i → (T.add i k).K j = T.K j := fun j e => updN_ne _ _ e
  have bb : ∀ j, j ≠ i → (p.add i b m).B j = p.B j := fun j e => updN_ne _ _ e
  have mm : ∀ j, j ≠ i → (p.add i b m).MB j = p.MB j := fun j e => updN_ne _ _ e
  have dd : ∀ j, j ≠ i → (p.add i b m).DV j = p.DV j := fun j e => updN_ne _ _ e
  have hB : (p.add i b m).B i = b := updN_at _ _ _
  have hM : (p.add i b m).MB i = m := updN_at _ _ _
  have hD : (p.add i b m).DV i = .slice none 0 0 := updN_at _ _ _
  have hK : (T.add i k).K i = k := updN_at _ _ _
  have old : ∀ g, XT T p g → g < w.heap.size := fun g => h.lt
  have dn : ∀ j, T.live j → p.B j ≠ p.bn := fun j hj => (h.node j hj).apart h.row (by decide)
  have mn : ∀ j, T.K j = 2 → p.MB j ≠ p.bn := fun j hj => by
    obtain ⟨ks, hs⟩ := h.map j hj
    exact hs.blo h.row
  have l2 : ∀ j, T.K j = 2 → T.live j := fun j e => by unfold Tr.live; omega
  have l1 : ∀ j, T.K j = 1 → T.live j := fun j e => by unfold Tr.live; omega
  have vn : ∀ j, T.K j = 1 → ∀ g, (p.DV j).ownBlock = some g → g ≠ p.bn := fun j hj g e => by
    rcases h.dat j hj with ⟨q, -⟩ | ⟨g', c, cur, q, -, -, q3, -⟩
    · rw [q] at e; cases e
    · rw [q] at e
      cases e
      exact q3.apart h.row (by decide)
  have Bn : ∀ j, T.live j → p.B j < w.heap.size := fun j hj => (h.node j hj).lt
  have Mn : ∀ j, T.K j = 2 → p.MB j < w.heap.size := fun j hj => old _ (.inr (.inr ⟨j, l2 j hj, .inr (.inl ⟨hj, rfl⟩)⟩))
  have hE : ∀ j, j ≠ i → (T.add i k).E j = T.E j := fun j e => updN_ne _ _ e
  have hEm : ∀ j s, j ≠ i → ((T.add i k).E j s).map (p.add i b m).B = (T.E j s).map p.B := fun j s e => by
    rw [hE j e]
    cases he : T.E j s with
    | none => rfl
    | some t =>
      have et : t ≠ i := fun q => (h.wf.ent j s t he).2.1 (by rw [q]; exact hi)
      show some ((p.add i b m).B t) = some (p.B t)
      rw [bb t et]
  refine ⟨⟨Tr.add_wf h.wf hi h2 hn hk, ?_, ?_, fun j hj => ?_, fun j hj => ?_, fun j hj => ?_, fun j hj => ?_, fun j t hj ht e => ?_, fun j t hj ht e => ?_, fun j t hj ht hne g hg => ?_⟩, ?_, fun g hg => ?_, rfl⟩
  · show Blo _ p.bt TTY #[.slice (some ⟨p.bn, 0, none⟩) (T.n + 1) (T.n + 1), .pointer (some ⟨(p.add i b m).B 2, 0, none⟩)]
    have e2 : (2 : Nat) ≠ i := fun q => by rw [← q, h.wf.root] at hi; exact absurd hi (by decide)
    rw [bb 2 e2]
    exact ho.blo h1.tree (h.tree.apart h.row (by decide))
  · show Blo _ p.bn PNT (ndL (T.add i k) (p.add i b m)).toArray
    rw [← ndL_add hn hk]
    exact h1.row.put i _
  · rcases hlv j hj with e | ⟨e, q⟩
    · subst e
      rw [hB]
      unfold ndC
      have h3 : (T.add j k).Lk j = 1 := updN_at _ _ _
      rw [hK, h3, hM, hD]
      exact ho.blo hbn (fun q => by omega)
    · rw [bb j e]
      unfold ndC
      have h3 : (T.add i k).Lk j = T.Lk j := updN_ne _ _ e
      rw [kk j e, h3, mm j e, dd j e]
      exact ho.blo (h1.node j q) (dn j q)
  · by_cases e : j = i
    · subst e
      rw [hK] at hj
      rw [hM]
      refine ⟨[], ?_⟩
      have hf : (fun s => ((T.add j k).E j s).map (p.add j b m).B) = fun _ => none := by
        funext s
        have : (T.add j k).E j = fun _ => none := updN_at _ _ _
        rw [this]
        rfl
      rw [hf]
      exact ((hm hj).mono (Nat.zero_le cnt)).out ho (fun q => by omega)
    · rw [kk j e] at hj
      obtain ⟨ks, hs⟩ := h1.map j hj
      rw [mm j e]
      refine ⟨ks, ?_⟩
      have hf : (fun s => ((T.add i k).E j s).map (p.add i b m).B) = fun s => (T.E j s).map p.B := funext fun s => hEm j s e
      rw [hf]
      exact hs.out ho (mn j hj)
  · by_cases e : j = i
    · subst e
      rw [hD]
      have : (T.add j k).D j = [] := updN_at _ _ _
      rw [this]
      exact .inl ⟨rfl, rfl⟩
    · rw [kk j e] at hj
      rw [dd j e]
      have : (T.add i k).D j = T.D j := updN_ne _ _ e
      rw [this]
      exact (h1.dat j hj).out ho (fun g hg => vn j hj g hg)
  · by_cases e : j = i
    · subst e; exact hD
    · rw [kk j e] at hj
      rw [dd j e]
      exact h.dir j hj
  · rcases hlv j hj with e1 | ⟨e1, q1⟩
    · rcases hlv t ht with e2 | ⟨e2, q2⟩
      · rw [e1, e2]
      · rw [e1, hB, bb t e2] at e
        have := Bn t q2
        omega
    · rcases hlv t ht with e2 | ⟨e2, q2⟩
      · rw [e2, hB, bb j e1] at e
        have := Bn j q1
        omega
      · rw [bb j e1, bb t e2] at e
        exact h.injB j t q1 q2 e
  · by_cases e1 : j = i
    · by_cases e2 : t = i
      · rw [e1, e2]
      · rw [kk t e2] at ht
        rw [e1, hM, mm t e2] at e
        have := Mn t ht
        omega
    · rw [kk j e1] at hj
      by_cases e2 : t = i
      · rw [e2, hM, mm j e1] at e
        have := Mn j hj
        omega
      · rw [kk t e2] at ht
        rw [mm j e1, mm t e2] at e
        exact h.injM j t hj ht e
  · by_cases e1 : j = i
    · rw [e1, hD] at hg; cases hg
    · rw [dd j e1] at hg
      rw [kk j e1] at hj
      by_cases e2 : t = i
      · rw [e2, hD]
        intro q
        cases q
      · rw [kk t e2] at ht
        rw [dd t e2]
        exact h.injD j t hj ht hne g hg
  · exact (Out.of_below hb).trans ho (fun g _ e => by rw [e]; exact .inr (.inl rfl))
  · rcases hg with e | e | ⟨j, hj, e⟩
    · exact .inl (.inl e)
    · exact .inl (.inr (.inl e))
    · rcases hlv j hj with q | ⟨q, ql⟩
      · subst q
        rw [hB, hM, hD, hK] at e
        rcases e with e | ⟨-, e⟩ | ⟨-, e⟩
        · exact .inr (by omega)
        · exact .inr (by omega)
        · cases e
      · rw [bb j q, mm j q, dd j q, kk j q] at e
        exact .inl (.inr (.inr ⟨j, ql, e⟩))
end
end Go.Proofs.Ytcjojcihjhhpgaa
/-
  A node of the least free inode.
-/
namespace Go.Proofs.Ytcjojcihjhhpgaa
open Go.RowKit

def LeastI (T : Tr) (i : Nat) : Prop := 2 ≤ i ∧ i ≤ T.n ∧ T.K i = 0 ∧ ∀ j, 2 ≤ j → j < i → T.K j ≠ 0
def FreO (w : World) (cnt : Nat) (T : Tr) (p : Pl) (k : Int) (e : Ending) (w' : World) : Prop :=
  ((∀ j, 2 ≤ j → j ≤ T.n → T.K j ≠ 0) ∧ e = .returned (.tuple #[.pointer none, .int .i64 23]) ∧ w' = w) ∨
  ∃ i b m, LeastI T i ∧ e = .returned (.tuple #[.pointer (some ⟨b, 0, none⟩), .int .i64 0]) ∧ TrG w T p w' cnt (T.add i k) (p.add i b m)
def FrR (w : World) (T : Tr) (v : Value) (wr : World) : Prop := ∃ i : Nat, 2 ≤ i ∧ i ≤ T.n + 1 ∧ v = .int .i64 (i : Int) ∧ (∀ j, 2 ≤ j → j < i → T.K j ≠ 0) ∧ wr = w
section
variable {w : World} {cnt : Nat} {T : Tr} {p : Pl} {k : Int}
theorem TrM.nodeAt (h : TrM w cnt T p) {j : Nat} (hj : j ≤ T.n) : w.cell? ⟨p.bn, j, none⟩ = some (ptrV (ndP T p j)) := by
  rw [h.row.cell, List.getElem?_toArray, ndL_get hj]
set_option maxRecDepth 100000 in
set_option maxHeartbeats 4000000 in
theorem fresh_any (h : TrM w cnt T p) (hk : k = 1 ∨ k = 2) : Calls Try.prog 30 #[.pointer (some ⟨p.bt, 0, none⟩), .int .i64 k] w (FreO w cnt T p k) := by
  have H := Lib.hid h
  have HK := Lib.hid hk
  have hn2 := h.wf.n2
  have c0 : w.cell? ⟨p.bt, 0, none⟩ = some (.slice (some ⟨p.bn, 0, none⟩) (T.n + 1) (T.n + 1)) := h.tree.cell 0
  have HSt : Hid (FrR w T (.int .i64 2) w) := ⟨2, Nat.le_refl _, by have := h.wf.n4; omega, rfl, fun j h1 h2 => by omega, rfl⟩
  clear h hk
  generalize hn : T.n = n at *
  have HN := Lib.hid hn
  clear hn
  go_enter Try.func30, Try.ntmps30
  go_wp2_with fail
  go_loopw [6] (fun v wr => FrR w T v wr) (fun v _ => n + 1 - (intOf v).toNat)
  case atStart => exact HSt.out
  case round =>
    clear HSt
    obtain ⟨i, hi2, hin, rfl, hno, rfl⟩ := hrel
    have HNo := Lib.hid hno
    have HI2 := Lib.hid hi2
    clear hno hi2
    rw [HN.out] at hin
    have i0 : (0 : Int) ≤ (i : Int) := by omega
    by_cases hlt : i < n + 1
    · have i1 : (i : Int) < (n : Int) + 1 := by omega
      have hl : i ≤ T.n := by rw [HN.out]; omega
      have x0 := H.out.nodeAt hl
      have HM := Lib.hid hlt
      by_cases hz : T.K i = 0
      · have HLe : Hid (LeastI T i) := ⟨HI2.out, hl, hz, HNo.out⟩
        unfold ndP at x0
        rw [if_pos hz] at x0
        have x0 : wr.cell? ⟨p.bn, i, none⟩ = some (.pointer none) := x0
        clear hl hz hlt
        go_upto_region 6 with (fail)
        obtain ⟨w1, hw1⟩ : ∃ w1, wr.alloc (.cells #[.int .i64 (i : Int), .int .i64 k, .int .i64 1, .map none, .slice none 0 0] NT) = w1 := ⟨_, rfl⟩
        rw [hw1]
        have HB1 : Hid (Below wr.heap.size wr w1) := by rw [← hw1]; exact sup_pct wr _
        have HX1 : Hid (Blo w1 wr.heap.size NT #[.int .i64 (i : Int), .int .i64 k, .int .i64 1, .map none, .slice none 0 0]) := by rw [← hw1]; exact blo_laid wr _ _
        have HSz : Hid (w1.heap.size = wr.heap.size + 1) := by show _ = _; rw [← hw1]; simp
        have H1 := Lib.hid (H.out.later HB1.out)
        clear hw1 c0 x0
        rcases HK.out with rfl | rfl
        · have HG := Lib.hid (H.out.add HLe.out.2.2.1 HLe.out.1 HLe.out.2.1 (.inl rfl) (m := wr.heap.size) HB1.out HX1.out (fun e => absurd e (by decide)) (Nat.le_refl _) (Nat.le_refl _))
          have d0 : w1.cell? ⟨p.bt, 0, none⟩ = some (.slice (some ⟨p.bn, 0, none⟩) (n + 1) (n + 1)) := by rw [← HN.out]; exact H1.out.tree.cell 0
          have y0 := H1.out.nodeAt HLe.out.2.1
          have f0 := H1.out.row.frozen i
          generalize ptrV (ndP T p i) = yv at *
          go_wp2_with fail
          go_ret2
          exact .inr ⟨i, _, _, HLe.out, rfl, HG.out⟩
        · have hmk : (Instr.makeMap NMT none).run Try.prog w1 = .ok (.map (some w1.heap.size)) (w1.alloc (.map #[] 0)) := rfl
          have hb2 : Below wr.heap.size wr (w1.alloc (.map #[] 0)) := HB1.out.alloc (by have := HSz.out; omega) _
          have hX2 := HX1.out.alloc (.map #[] 0)
          have e3 : (w1.alloc (.map #[] 0)).cell? ⟨wr.heap.size, 3, none⟩ = some (.map none) := hX2.cell 3
          have f3 := hX2.frozen 3
          have hM2 : SM (w1.alloc (.map #[] 0)) w1.heap.size 0 (fun _ => none) [] := SM.made w1
          have hX3 : Blo ((w1.alloc (.map #[] 0)).setCell ⟨wr.heap.size, 3, none⟩ (.map (some w1.heap.size))) wr.heap.size NT #[.int .i64 (i : Int), .int .i64 2, .int .i64 1, .map (some w1.heap.size), .slice none 0 0] := hX2.put 3 _
          have hb3 : Below wr.heap.size wr ((w1.alloc (.map #[] 0)).setCell ⟨wr.heap.size, 3, none⟩ (.map (some w1.heap.size))) := hb2.setCell (p := ⟨wr.heap.size, 3, none⟩) (Nat.le_refl _) _
          have hM3 : SM ((w1.alloc (.map #[] 0)).setCell ⟨wr.heap.size, 3, none⟩ (.map (some w1.heap.size))) w1.heap.size 0 (fun _ => none) [] := hM2.out (out_put (X := fun g => g = wr.heap.size) _ ⟨wr.heap.size, 3, none⟩ _ rfl) (by have := HSz.out; omega)
          have HG := Lib.hid (H.out.add HLe.out.2.2.1 HLe.out.1 HLe.out.2.1 (.inr rfl) (m := w1.heap.size) hb3 hX3 (fun _ => hM3) (Nat.le_refl _) (by have := HSz.out; omega))
          have H3 := Lib.hid (H.out.later hb3)
          clear hb2 hX2 hM2 hX3 hb3 hM3
          go_upto_region 8 with (fail)
          clear hmk e3 f3
          generalize (w1.alloc (.map #[] 0)).setCell ⟨wr.heap.size, 3, none⟩ (.map (some w1.heap.size)) = w3 at *
          have d0 : w3.cell? ⟨p.bt, 0, none⟩ = some (.slice (some ⟨p.bn, 0, none⟩) (n + 1) (n + 1)) := by rw [← HN.out]; exact H3.out.tree.cell 0
          have y0 := H3.out.nodeAt HLe.out.2.1
          have f0 := H3.out.row.frozen i
          generalize ptrV (ndP T p i) = yv at *
          go_wp2_with fail
          go_ret2
          exact .inr ⟨i, _, _, HLe.out, rfl, HG.out⟩
      · unfold ndP at x0
        rw [if_neg hz] at x0
        have x0 : wr.cell? ⟨p.bn, i, none⟩ = some (.pointer (some ⟨p.B i, 0, none⟩)) := x0
        have HE : Hid (∀ j, 2 ≤ j → j < i + 1 → T.K j ≠ 0) := fun j h1 h2 => by
          by_cases e : j = i
          · rw [e]; exact hz
          · exact HNo.out j h1 (by omega)
        clear hl hz hlt
        go_wp2_with fail
        go_roundw
        case rel => exact ⟨i + 1, by have := HI2.out; omega, by have := HM.out; have := HN.out; omega, rfl, HE.out, rfl⟩
        case measure => have := HM.out; simp [intOf]; omega
    · have i1 : ¬ (i : Int) < (n : Int) + 1 := by omega
      have HE : Hid (∀ j, 2 ≤ j → j ≤ T.n → T.K j ≠ 0) := fun j h1 h2 => HNo.out j h1 (by have := HN.out; omega)
      clear hlt
      go_wp2_with fail
      go_ret2
      exact .inl ⟨HE.out, rfl, rfl⟩
end
end Go.Proofs.Ytcjojcihjhhpgaa
/-
  A name more in a directory.
-/
namespace Go.Proofs.Ytcjojcihjhhpgaa
open Go.RowKit

def Tr.ent (T : Tr) (d : Nat) (s : ByteArray) (v : Option Nat) : Tr := { T with E := updN T.E d (updS (T.E d) s v) }
def leastI (T : Tr) : Option Nat := (List.range (T.n + 1)).find? fun i => decide (2 ≤ i ∧ T.K i = 0)
theorem least_some {T : Tr} {i : Nat} (h : LeastI T i) : leastI T = some i := by
  obtain ⟨h1, h2, h3, h4⟩ := h
  unfold leastI
  rw [List.find?_eq_some_iff_getElem]
  refine ⟨decide_eq_true ⟨h1, h3⟩, i, by rw [List.length_range]; omega, by simp, fun j hj => ?_⟩
  rw [List.getElem_range]
  simp only [Bool.not_eq_true', decide_eq_false_iff_not]
  exact fun q => h4 j q.1 hj q.2
theorem least_none {T : Tr} (h : ∀ j, 2 ≤ j → j ≤ T.n → T.K j ≠ 0) : leastI T = none := by
  unfold leastI
  rw [List.find?_eq_none]
  intro j hj
  rw [List.mem_range] at hj
  simp only [decide_eq_true_eq]
  exact fun q => h j q.1 (by omega) q.2
section
variable {w w1 w2 : World} {cnt cnt' cnt2 : Nat} {T T1 T2 : Tr} {p p1 p2 : Pl} {i d : Nat} {k : Int} {s : ByteArray}
theorem TrM.mono (h : TrM w cnt T p) (hc : cnt ≤ cnt') : TrM w cnt' T p :=
  ⟨h.wf, h.tree, h.row, h.node, fun i hi => by obtain ⟨ks, hs⟩ := h.map i hi; exact ⟨ks, hs.mono hc⟩, h.dat, h.dir, h.injB, h.injM, h.injD⟩
theorem TrG.refl (h : TrM w cnt T p) (hb : Below w.heap.size w w1) (hc : cnt ≤ cnt') : TrG w T p w1 cnt' T p := ⟨(h.later hb).mono hc, Out.of_below hb, fun g hg => .inl hg, rfl⟩
theorem TrG.trans (h : TrG w T p w1 cnt' T1 p1) (k : TrG w1 T1 p1 w2 cnt2 T2 p2) : TrG w T p w2 cnt2 T2 p2 :=
  ⟨k.m, h.out.trans k.out (fun g hg hx => (h.sub g hx).elim id (fun q => by omega)), fun g hg => by
    rcases k.sub g hg with q | q
    · exact h.sub g q
    · exact .inr (Nat.le_trans h.out.size q), k.bt.trans h.bt⟩
theorem TrG.before {w0 : World} (h : TrG w1 T p w2 cnt2 T2 p2) (hb : Below w0.heap.size w0 w1) : TrG w0 T p w2 cnt2 T2 p2 :=
  ⟨h.m, (Out.of_below hb).trans h.out (fun _ _ e => e), fun g hg => (h.sub g hg).imp id (fun q => Nat.le_trans hb.size q), h.bt⟩
theorem TrG.after {w3 : World} (h : TrG w T p w2 cnt2 T2 p2) (hb : Below w2.heap.size w2 w3) : TrG w T p w3 cnt2 T2 p2 :=
  ⟨h.m.later hb, h.out.trans (Out.of_below (X := fun _ => False) hb) (fun _ _ e => e.elim), h.sub, h.bt⟩
theorem Tr.ent_wf (h : TrW T) (hd : T.K d = 2) {v : Option Nat} (hv : ∀ j, v = some j → T.live j ∧ j ≠ 2) : TrW (T.ent d s v) := by
  refine ⟨h.n4, h.n2, h.root, h.kind, h.rng, fun j t x hx => ?_, h.lk, h.sz, h.by_⟩
  have hx : updN T.E d (updS (T.E d) s v) j t = some x := hx
  by_cases e : j = d
  · subst e
    rw [updN_at] at hx
    by_cases e2 : t = s
    · subst e2
      rw [updS_at] at hx
      exact ⟨hd, (hv x hx).1, (hv x hx).2⟩
    · rw [updS_ne _ _ e2] at hx
      exact h.ent _ _ _ hx
  · rw [updN_ne _ _ e] at hx
    exact h.ent _ _ _ hx
theorem TrM.ent (h : TrM w cnt T p) (hd : T.K d = 2) (hi : T.live i) (h2 : i ≠ 2) (hs : wfS s) (hc : cnt < 1000000) :
    ∃ w', (Instr.mapUpdate NMT (.map (some (p.MB d))) (.string s) (.pointer (some ⟨p.B i, 0, none⟩))).run Try.prog w = .ok () w' ∧ TrG w T p w' (cnt + 1) (T.ent d s (some i)) p := by
  obtain ⟨ks, hm⟩ := h.map d hd
  obtain ⟨w', hrun, hm', hg⟩ := hm.put Try.underlying80 hc hs (p.B i)
  have ho : Out (fun g => g = p.MB d) w w' := Out.of_grown hg (fun g e => by cases e; rfl)
  have hld : T.live d := by unfold Tr.live; omega
  have hne : ∀ g t cs, Blo w g t cs → g ≠ p.MB d := fun g t cs hb e => hm.blo hb e.symm
  refine ⟨w', hrun, ⟨Tr.ent_wf h.wf hd (fun j e => by cases e; exact ⟨hi, h2⟩), ho.blo h.tree (hne _ _ _ h.tree), ho.blo h.row (hne _ _ _ h.row), fun j hj => ho.blo (h.node j hj) (hne _ _ _ (h.node j hj)), fun j hj => ?_, fun j hj => ?_, h.dir, h.injB, h.injM, h.injD⟩, ?_, fun g hg => .inl hg, rfl⟩
  · have hj : T.K j = 2 := hj
    by_cases e : j = d
    · subst e
      refine ⟨addS ks s, ?_⟩
      have hf : (fun t => ((T.ent j s (some i)).E j t).map p.B) = updS (fun t => (T.E j t).map p.B) s (some (p.B i)) := by
        funext t
        show (updN T.E j (updS (T.E j) s (some i)) j t).map p.B = _
        rw [updN_at]
        by_cases e2 : t = s
        · subst e2; rw [updS_at, updS_at]; rfl
        · rw [updS_ne _ _ e2, updS_ne _ _ e2]
      rw [hf]
      exact hm'
    · obtain ⟨ks', hs'⟩ := h.map j hj
      refine ⟨ks', ?_⟩
      have hf : (fun t => ((T.ent d s (some i)).E j t).map p.B) = fun t => (T.E j t).map p.B := by
        funext t
        show (updN T.E d (updS (T.E d) s (some i)) j t).map p.B = _
        rw [updN_ne _ _ e]
      rw [hf]
      exact (hs'.out ho (fun q => e (h.injM j d hj hd q))).mono (Nat.le_succ _)
  · have hj : T.K j = 1 := hj
    refine (h.dat j hj).out ho (fun g hg e => ?_)
    rcases h.dat j hj with ⟨q, -⟩ | ⟨g', c, cur, q, -, -, q3, -⟩
    · rw [q] at hg; cases hg
    · rw [q] at hg
      cases hg
      exact hne _ _ _ q3 e
  · exact ho.mono fun g _ e => by rw [e]; exact .inr (.inr ⟨d, hld, .inr (.inl ⟨hd, rfl⟩)⟩)
end
end Go.Proofs.Ytcjojcihjhhpgaa
