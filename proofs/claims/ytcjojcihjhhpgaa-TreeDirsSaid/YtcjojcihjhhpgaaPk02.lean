/-
  TrSplit · TrLead: these texts in one.
-/
import Derived.Test.YtcjojcihjhhpgaaPk00
import Derived.Test.YtcjojcihjhhpgaaPk01
import Derived.Laws.Rows
import Derived.Laws.CopyOwn
/-
  Paths of a tree: split, parent.
-/
namespace Go.Proofs.Ytcjojcihjhhpgaa
open Go.RowKit

abbrev PTT := 84
abbrev PLT := 86
theorem sup_pct (w : World) (o : Obj) : Below w.heap.size w (w.alloc o) := (Below.refl _ _).alloc (Nat.le_refl _) _
theorem results_row_tmp {P : Program} {fn : Func} {p u : Tmp} {ty : TypeId} (h : fn.results = #[.cell p ty, .tmp u]) (tmps : Array Value) (w : World) (g : Nat) (t : TypeId) (cs : Array Value) (d : TypeDesc)
    (hp : tmps.getD p undef = .pointer (some ⟨g, 0, none⟩)) (hg : Blo w g t cs)
    (hu : P.underlying ty = some d) (hd : (match d with | .struct _ | .array _ _ => true | _ => false) = true) (hi : (P.info? ty).map (·.size) = some cs.size) :
    (results fn tmps).run P w = .ok (.tuple #[.agg cs, tmps.getD u undef]) w := by
  have hp' : tmps[p]?.getD undef = .pointer (some ⟨g, 0, none⟩) := by simpa using hp
  simp [results, h, hp', asAddr, run_loadVar_row w g t ty cs (0, 0) d hg hu hd hi]
theorem spL_lenT (s : ByteArray) : (spL s).length ≤ 255 := by
  have h1 := nml_len_le s
  unfold spL
  split
  · rename_i h0
    by_cases h2 : 255 < s.size
    · rw [spE_long h2] at h0; exact absurd h0 (by decide)
    · omega
  · simp
/-- Texts stay when a box that holds none is written. -/
theorem strs_row {w : World} {a : Option Addr} {l : List ByteArray} {g : Nat} {t : TypeId} {cs : Array Value} (h : Strs w a l) (hb : Blo w g t cs) (hs : ∀ (i : Nat) (s : ByteArray), cs[i]? ≠ some (.string s)) (cs' : Array Value) : Strs (w.setRow g cs') a l := fun hl => by
  obtain ⟨b, o, ha, hc⟩ := h hl
  refine ⟨b, o, ha, fun i hi => (out_row (X := fun k => k = g) w g cs' rfl).cell (hc i hi) (fun e => ?_)⟩
  have e : b = g := e
  have := hc i hi
  rw [e, hb.cell] at this
  exact hs _ _ this
theorem ts_nos {a : Option Addr} {n c : Nat} {d : Bool} (i : Nat) (s : ByteArray) : (#[.slice a n c, .bool d] : Array Value)[i]? ≠ some (.string s) := by
  match i with
  | 0 => simp
  | 1 => simp
  | i + 2 => simp
/-- A path, taken to pieces. -/
def TsO (w : World) (s : ByteArray) (e : Ending) (w' : World) : Prop := ∃ a n c, e = .returned (.tuple #[.agg #[.slice a n c, .bool (spD s)], .int .i64 (spE s)]) ∧ n = (spL s).length ∧ n ≤ c ∧ Strs w' a (spL s) ∧ (a = none → n = 0 ∧ c = 0) ∧ Below w.heap.size w w'
theorem ts_done {w w2 : World} {s : ByteArray} {a : Option Addr} {n c : Nat} {d : Bool} {z : Int} (hd : spD s = d) (hz : spE s = z) (hX : Blo w2 w.heap.size PTT #[.slice none 0 0, .bool false]) (hb : Below w.heap.size w w2) (hn : n = (spL s).length) (hc : n ≤ c) (hs : Strs w2 a (spL s)) (ha : a = none → n = 0 ∧ c = 0) :
    TsO w s (.returned (.tuple #[.agg #[.slice a n c, .bool d], .int .i64 z])) (w2.setRow w.heap.size #[.slice a n c, .bool d]) :=
  ⟨a, n, c, by rw [hd, hz], hn, hc, strs_row hs hX ts_nos _, ha, below_setRow hb (Nat.le_refl _) _⟩
set_option maxRecDepth 100000 in
set_option maxHeartbeats 4000000 in
theorem tsplit_any (s : ByteArray) (w : World) : Calls Try.prog 50 #[.string s] w (TsO w s) := by
  obtain ⟨w1, hw1⟩ : ∃ w1, w1 = w.alloc (.cells #[.slice none 0 0, .bool false] PTT) := ⟨_, rfl⟩
  have HX1 : Hid (Blo w1 w.heap.size PTT #[.slice none 0 0, .bool false]) := by rw [hw1]; exact blo_laid w _ _
  have HB1 : Hid (Below w.heap.size w w1) := by rw [hw1]; exact sup_pct w _
  have HS := Lib.hid (split_any s w1)
  go_enter Try.func50, Try.ntmps50
  go_upto_region 1 with (fail)
  rw [← hw1]
  clear hw1
  go_wp2_with fail
  refine HS.out.mono ?_
  rintro e w2 ⟨a, n, c, rfl, hn, hc, hs, ha, hb⟩
  have HX2 := Lib.hid (HX1.out.later hb)
  have HB2 := Lib.hid (HB1.out.trans (hb.mono HB1.out.size))
  have HQ := Lib.hid (And.intro hn (And.intro hc (And.intro hs ha)))
  clear hn hc hs ha hb HS HX1 HB1
  generalize hd : spD s = d at *
  generalize hz : spE s = z at *
  have HD := Lib.hid hd
  have HZ := Lib.hid hz
  clear hd hz
  have hg2 := HX2.out
  go_wp2_with (refine wpList_store_row rfl PTT (.tmp 2) (.tmp 15) rfl w.heap.size #[.slice a n c, .bool d] (by first | rfl | simp [go_sem]) (by first | rfl | simp [go_sem]) PTT _ hg2 (by kernel_rfl) rfl (by simp [Value.oneCell']) ?_)
  (try simp only [Exit.inBlock, Exit.then])
  obtain ⟨hn, hc, hs, ha⟩ := HQ.out
  exact bodyPost_ret (results_row_tmp (p := 2) (u := 3) (ty := PTT) rfl _ _ w.heap.size PTT #[.slice a n c, .bool d] _ (by simp) (blo_row HX2.out _) Try.underlying84 rfl (by kernel_rfl)) rfl (ts_done HD.out HZ.out HX2.out HB2.out hn hc hs ha)
/-- A path's parent and last name. -/
def TpO (w : World) (s : ByteArray) (e : Ending) (w' : World) : Prop :=
  (paE s ≠ 0 ∧ e = .returned (.tuple #[.agg #[.slice none 0 0, .bool false, .string ⟨#[]⟩], .int .i64 (paE s)]) ∧ Below w.heap.size w w') ∨
  (paE s = 0 ∧ ∃ b o n c, e = .returned (.tuple #[.agg #[.slice (some ⟨b, o, none⟩) n c, .bool (spD s), .string (paN s)], .int .i64 0]) ∧ n = (spL s).length ∧ 0 < n ∧ n ≤ c ∧ Strs w' (some ⟨b, o, none⟩) (spL s) ∧ Below w.heap.size w w')
theorem paE_zero {s : ByteArray} (h : paE s = 0) : spE s = 0 ∧ spL s ≠ [] := by
  unfold paE at h
  split at h
  · rename_i h0
    split at h
    · exact absurd h (by decide)
    · rename_i h1
      refine ⟨h0, ?_⟩
      unfold spL
      rw [if_pos h0]
      exact h1
  · rename_i h0
    exact absurd h h0
theorem tp_nos (i : Nat) (s : ByteArray) (h : (#[.slice none 0 0, .bool false, .string ⟨#[]⟩] : Array Value)[i]? = some (.string s)) : i = 2 ∧ s = ⟨#[]⟩ := by
  match i with
  | 0 => simp at h
  | 1 => simp at h
  | 2 => exact ⟨rfl, by simpa using h.symm⟩
  | i + 3 => simp at h
theorem spL_one {s : ByteArray} (h : spE s = 0) : spL s ≠ [⟨#[]⟩] := fun e => by
  have h2 : nml s = [⟨#[]⟩] := by rw [← e]; unfold spL; rw [if_pos h]
  unfold spE at h
  split at h
  · exact absurd h (by decide)
  · split at h
    · exact absurd h (by decide)
    · rw [h2] at h
      exact absurd h (by decide)
theorem tp_done {w w4 : World} {s : ByteArray} {b o n c : Nat} {d : Bool} (hp : paE s = 0) (hd : spD s = d) (hz : spE s = 0) (hX : Blo w4 w.heap.size PLT #[.slice none 0 0, .bool false, .string ⟨#[]⟩]) (hb : Below w.heap.size w w4) (hn : n = (spL s).length) (h0 : 0 < n) (hc : n ≤ c) (hs : Strs w4 (some ⟨b, o, none⟩) (spL s)) :
    TpO w s (.returned (.tuple #[.agg #[.slice (some ⟨b, o, none⟩) n c, .bool d, .string (paN s)], .int .i64 0])) (((w4.setCell ⟨w.heap.size, 0, none⟩ (.slice (some ⟨b, o, none⟩) n c)).setCell ⟨w.heap.size, 1, none⟩ (.bool d)).setCell ⟨w.heap.size, 2, none⟩ (.string (paN s))).drew ∧
    Blo (((w4.setCell ⟨w.heap.size, 0, none⟩ (.slice (some ⟨b, o, none⟩) n c)).setCell ⟨w.heap.size, 1, none⟩ (.bool d)).setCell ⟨w.heap.size, 2, none⟩ (.string (paN s))).drew w.heap.size PLT #[.slice (some ⟨b, o, none⟩) n c, .bool d, .string (paN s)] := by
  have hB := (((hX.put 0 (.slice (some ⟨b, o, none⟩) n c)).put 1 (.bool d)).put 2 (.string (paN s))).drew
  have hne : b ≠ w.heap.size := fun e => by
    obtain ⟨b', o', e1, hcl⟩ := hs (fun q => by rw [q] at hn; simp at hn; omega)
    cases e1
    have g : ∀ i, i < n → o + i = 2 ∧ (spL s).getD i ⟨#[]⟩ = ⟨#[]⟩ := fun i hi => by
      have := hcl i (by omega)
      rw [e, hX.cell] at this
      exact tp_nos _ _ this
    have h1 : n = 1 := by
      rcases Nat.lt_or_ge 1 n with q | q
      · have := (g 0 (by omega)).1
        have := (g 1 q).1
        omega
      · omega
    have h2 := (g 0 (by omega)).2
    refine spL_one hz ?_
    match h3 : spL s with
    | [] => rw [h3] at hn; simp at hn; omega
    | [x] => rw [h3] at h2; simpa using h2
    | x :: y :: r => rw [h3] at hn; simp at hn; omega
  refine ⟨.inr ⟨hp, b, o, n, c, by rw [hd], hn, h0, hc, ?_, (((hb.setCell (p := ⟨w.heap.size, 0, none⟩) (Nat.le_refl _) _).setCell (p := ⟨w.heap.size, 1, none⟩) (Nat.le_refl _) _).setCell (p := ⟨w.heap.size, 2, none⟩) (Nat.le_refl _) _).drew⟩, hB⟩
  intro hl
  obtain ⟨b', o', e1, hcl⟩ := hs hl
  cases e1
  have ho : Out (fun g => g = w.heap.size) w4 (((w4.setCell ⟨w.heap.size, 0, none⟩ (.slice (some ⟨b, o, none⟩) n c)).setCell ⟨w.heap.size, 1, none⟩ (.bool d)).setCell ⟨w.heap.size, 2, none⟩ (.string (paN s))) :=
    ((out_put (X := fun g => g = w.heap.size) w4 ⟨w.heap.size, 0, none⟩ _ rfl).trans (out_put (X := fun g => g = w.heap.size) _ ⟨w.heap.size, 1, none⟩ _ rfl) (fun _ _ e => e)).trans (out_put (X := fun g => g = w.heap.size) _ ⟨w.heap.size, 2, none⟩ _ rfl) (fun _ _ e => e)
  exact ⟨b, o, rfl, fun i hi => ho.cell (hcl i hi) (fun e => hne e)⟩
set_option maxRecDepth 100000 in
set_option maxHeartbeats 4000000 in
theorem tparent_any (s : ByteArray) (w : World) : Calls Try.prog 39 #[.string s] w (TpO w s) := by
  obtain ⟨w1, hw1⟩ : ∃ w1, w1 = w.alloc (.cells #[.slice none 0 0, .bool false, .string ⟨#[]⟩] PLT) := ⟨_, rfl⟩
  have HX1 : Hid (Blo w1 w.heap.size PLT #[.slice none 0 0, .bool false, .string ⟨#[]⟩]) := by rw [hw1]; exact blo_laid w _ _
  have HB1 : Hid (Below w.heap.size w w1) := by rw [hw1]; exact sup_pct w _
  have HP := Lib.hid (parent_any s w1)
  by_cases hz : paE s = 0
  · have HS : Hid (∀ W, Calls Try.prog 50 #[.string s] W (TsO W s)) := fun W => tsplit_any s W
    have HZ := Lib.hid (paE_zero hz)
    have HPz := Lib.hid hz
    go_enter Try.func39, Try.ntmps39
    go_upto_region 1 with (fail)
    rw [← hw1]
    clear hw1
    go_wp2_with fail
    refine HP.out.mono ?_
    rintro e w2 ⟨a0, n0, c0, rfl, -, -, -, -, hb⟩
    rw [hz]
    have HX2 := Lib.hid (HX1.out.later hb)
    have HB2 := Lib.hid (HB1.out.trans (hb.mono HB1.out.size))
    clear hz hb HP HX1 HB1
    generalize paN s = last at *
    go_wp2_with fail
    refine (HS.out w2).mono ?_
    rintro e w3 ⟨a, n, c, rfl, hn, hc, hs, ha, hb⟩
    rw [HZ.out.1]
    obtain ⟨b, o, rfl, hcell⟩ := hs HZ.out.2
    have hn0 : 0 < n := by
      have := List.length_pos_iff.2 HZ.out.2
      omega
    have x0 := hcell (n - 1) (by omega)
    have HX3 := Lib.hid (HX2.out.later hb)
    have HB3 := Lib.hid (HB2.out.trans (hb.mono HB2.out.size))
    have HQ := Lib.hid (And.intro hn (And.intro hc hs))
    have hn9 : n ≤ 255 := by rw [hn]; exact spL_lenT s
    have hl0 : (spL s).getD (n - 1) ⟨#[]⟩ = paN s := by unfold paN; rw [hn]
    rw [hl0] at x0
    clear hn hc hs ha HX2 HB2 hb hcell hl0 HS
    generalize hd : spD s = d at *
    have HD := Lib.hid hd
    clear hd
    go_upto_region 5 with (fail)
    obtain ⟨w4, hw4⟩ : ∃ w4, w3.alloc (.cells #[.slice (some ⟨b, o, none⟩) n c, .bool d] PTT) = w4 := ⟨_, rfl⟩
    rw [hw4]
    have hb4 : Below w3.heap.size w3 w4 := by rw [← hw4]; exact sup_pct w3 _
    have hP4 : Blo w4 w3.heap.size PTT #[.slice (some ⟨b, o, none⟩) n c, .bool d] := by rw [← hw4]; exact blo_laid w3 _ _
    clear hw4
    have p0 : w4.cell? ⟨w3.heap.size, 0, none⟩ = some (.slice (some ⟨b, o, none⟩) n c) := hP4.cell 0
    have p1 : w4.cell? ⟨w3.heap.size, 1, none⟩ = some (.bool d) := hP4.cell 1
    have x1 : w4.cell? ⟨b, o + (n - 1), none⟩ = some (.string (paN s)) := cell_later hb4 x0
    have HX4 := Lib.hid (HX3.out.later hb4)
    have HB4 := Lib.hid (HB3.out.trans (hb4.mono HB3.out.size))
    have HQ4 : Hid (Strs w4 (some ⟨b, o, none⟩) (spL s)) := HQ.out.2.2.below hb4
    have h0 : w4.cell? ⟨w.heap.size, 0, none⟩ = some (.slice none 0 0) := HX4.out.cell 0
    have h1 : w4.cell? ⟨w.heap.size, 1, none⟩ = some (.bool false) := HX4.out.cell 1
    have h2 : w4.cell? ⟨w.heap.size, 2, none⟩ = some (.string ⟨#[]⟩) := HX4.out.cell 2
    have f0 := HX4.out.frozen 0
    have f1 := HX4.out.frozen 1
    have f2 := HX4.out.frozen 2
    generalize w3.heap.size = gp at *
    have z4 : IntKind.i64.wrap ((n : Int) - 1) = (n : Int) - 1 := IntWalk.i64_in _ (by omega)
    have z5 : (0 : Int) ≤ (n : Int) - 1 := by omega
    have z6 : (n : Int) - 1 < (n : Int) := by omega
    have z7 : ((n : Int) - 1).toNat = n - 1 := by omega
    clear hb4 hP4 x0 HX3 HB3
    have HEnd := Lib.hid (tp_done HPz.out HD.out HZ.out.1 HX4.out HB4.out HQ.out.1 hn0 HQ.out.2.1 HQ4.out)
    go_region
    go_wp2_with fail
    (try simp only [Exit.inBlock, Exit.then])
    exact bodyPost_ret (results_row_tmp (p := 2) (u := 3) (ty := PLT) rfl _ _ w.heap.size PLT #[.slice (some ⟨b, o, none⟩) n c, .bool d, .string (paN s)] _ (by simp) HEnd.out.2 Try.underlying86 rfl (by kernel_rfl)) rfl HEnd.out.1
  · have hb0 : (paE s == 0) = false := beq_eq_false_iff_ne.2 hz
    have HPz := Lib.hid hz
    go_enter Try.func39, Try.ntmps39
    go_upto_region 1 with (fail)
    rw [← hw1]
    clear hw1
    go_wp2_with fail
    refine HP.out.mono ?_
    rintro e w2 ⟨a0, n0, c0, rfl, -, -, -, -, hb⟩
    have HX2 := Lib.hid (HX1.out.later hb)
    have HB2 := Lib.hid (HB1.out.trans (hb.mono HB1.out.size))
    clear hz hb HP HX1 HB1
    generalize paN s = last at *
    generalize hz : paE s = z at *
    have HZ := Lib.hid hz
    clear hz
    have hg2 := HX2.out
    go_wp2_with (refine wpList_store_row rfl PLT (.tmp 2) (.tmp 17) rfl w.heap.size #[.slice none 0 0, .bool false, .string ⟨#[]⟩] (by first | rfl | simp [go_sem]) (by first | rfl | simp [go_sem]) PLT _ hg2 (by kernel_rfl) rfl (by simp [Value.oneCell']) ?_)
    (try simp only [Exit.inBlock, Exit.then])
    refine bodyPost_ret (results_row_tmp (p := 2) (u := 3) (ty := PLT) rfl _ _ w.heap.size PLT #[.slice none 0 0, .bool false, .string ⟨#[]⟩] _ (by simp) (blo_row HX2.out _) Try.underlying86 rfl (by kernel_rfl)) rfl (.inl ⟨by rw [HZ.out]; exact HPz.out, ?_, below_setRow HB2.out (Nat.le_refl _) _⟩)
    rw [HZ.out]
    rfl
end Go.Proofs.Ytcjojcihjhhpgaa
/-
  Where names lead.
-/
namespace Go.Proofs.Ytcjojcihjhhpgaa
open Go.RowKit

def leadK (T : Tr) : Nat → List ByteArray → Option Nat × Int
  | at_, [] => (some at_, 0)
  | at_, s :: r => if T.K at_ = 2 then (match T.E at_ s with | some j => leadK T j r | none => (none, 2)) else (none, 20)
theorem leadK_nil (T : Tr) (a : Nat) : leadK T a [] = (some a, 0) := rfl
theorem leadK_go {T : Tr} {a j : Nat} {s : ByteArray} {r : List ByteArray} (h : T.K a = 2) (he : T.E a s = some j) : leadK T a (s :: r) = leadK T j r := by
  show (if T.K a = 2 then _ else _) = _
  rw [if_pos h, he]
theorem leadK_none {T : Tr} {a : Nat} {s : ByteArray} {r : List ByteArray} (h : T.K a = 2) (he : T.E a s = none) : leadK T a (s :: r) = (none, 2) := by
  show (if T.K a = 2 then _ else _) = _
  rw [if_pos h, he]
theorem leadK_file {T : Tr} {a : Nat} {s : ByteArray} {r : List ByteArray} (h : T.K a ≠ 2) : leadK T a (s :: r) = (none, 20) := by
  show (if T.K a = 2 then _ else _) = _
  rw [if_neg h]
theorem leadK_live {T : Tr} (hw : TrW T) : ∀ (l : List ByteArray) (a : Nat), T.live a → ∀ j, (leadK T a l).1 = some j → T.live j ∧ (leadK T a l).2 = 0
  | [], a, ha, j, h => by
    rw [leadK_nil] at h ⊢
    cases h
    exact ⟨ha, rfl⟩
  | s :: r, a, ha, j, h => by
    by_cases hk : T.K a = 2
    · cases he : T.E a s with
      | none => rw [leadK_none hk he] at h; cases h
      | some b =>
        rw [leadK_go hk he] at h ⊢
        exact leadK_live hw r b (hw.ent a s b he).2.1 j h
    · rw [leadK_file hk] at h; cases h
theorem leadK_err {T : Tr} : ∀ (l : List ByteArray) (a : Nat), (leadK T a l).1 = none → (leadK T a l).2 ≠ 0
  | [], a, h => by rw [leadK_nil] at h; cases h
  | s :: r, a, h => by
    by_cases hk : T.K a = 2
    · cases he : T.E a s with
      | none => rw [leadK_none hk he]; decide
      | some b =>
        rw [leadK_go hk he] at h ⊢
        exact leadK_err r b h
    · rw [leadK_file hk]; decide
theorem zeroPN (w : World) : (zeroValue PNT).run Try.prog w = .ok (.pointer none) w := by kernel_rfl
section
variable {w : World} {cnt : Nat} {T : Tr} {p : Pl}
theorem TrM.look {i : Nat} (h : TrM w cnt T p) (hi : T.K i = 2) {s : ByteArray} (hs : wfS s) : (Instr.lookup NMT (.map (some (p.MB i))) (.string s) true).run Try.prog w = .ok (.tuple #[ptrV ((T.E i s).map p.B), .bool ((T.E i s).map p.B).isSome]) w := by
  obtain ⟨ks, hm⟩ := h.map i hi
  exact hm.look_ok Try.underlying80 (zeroPN w) hs
theorem TrM.look1 {i : Nat} (h : TrM w cnt T p) (hi : T.K i = 2) {s : ByteArray} (hs : wfS s) : (Instr.lookup NMT (.map (some (p.MB i))) (.string s) false).run Try.prog w = .ok (ptrV ((T.E i s).map p.B)) w := by
  obtain ⟨ks, hm⟩ := h.map i hi
  exact hm.look Try.underlying80 (zeroPN w) hs
def LdR (w : World) (T : Tr) (p : Pl) (l : List ByteArray) (v t : Value) (wr : World) : Prop :=
  ∃ i a : Nat, i ≤ l.length ∧ t = .int .i64 (i : Int) ∧ v = .pointer (some ⟨p.B a, 0, none⟩) ∧ T.live a ∧ leadK T 2 l = leadK T a (l.drop i) ∧ wr = w
set_option maxRecDepth 100000 in
set_option maxHeartbeats 4000000 in
theorem lead_any (h : TrM w cnt T p) {a : Option Addr} {n c : Nat} {l : List ByteArray} (hn : n = l.length) (hn9 : n ≤ 1000) (hs : Strs w a l) (hw : ∀ s ∈ l, wfS s) :
    Calls Try.prog 61 #[.pointer (some ⟨p.bt, 0, none⟩), .slice a n c] w fun e w' => e = .returned (.tuple #[ptrV ((leadK T 2 l).1.map p.B), .int .i64 (leadK T 2 l).2]) ∧ w' = w := by
  have H := Lib.hid h
  have HN := Lib.hid hn
  have HS := Lib.hid hs
  have HW := Lib.hid hw
  have c1 : w.cell? ⟨p.bt, 1, none⟩ = some (.pointer (some ⟨p.B 2, 0, none⟩)) := h.tree.cell 1
  have HSt : Hid (LdR w T p l (.pointer (some ⟨p.B 2, 0, none⟩)) (.int .i64 0) w) := ⟨0, 2, Nat.zero_le _, rfl, rfl, h.root, rfl, rfl⟩
  clear h hn hs hw
  go_enter Try.func61, Try.ntmps61
  go_wp2_with fail
  clear c1
  go_loopw [6, 18] (fun v t wr => LdR w T p l v t wr) (fun _ t _ => n - (intOf t).toNat)
  case atStart => exact HSt.out
  case round =>
    clear HSt
    obtain ⟨i, d, hi, rfl, rfl, hd, hle, rfl⟩ := hrel
    have HL := Lib.hid hle
    have HDv := Lib.hid hd
    clear hle hd
    have i0 : (0 : Int) ≤ (i : Int) := by omega
    by_cases hin : i < n
    · have i1 : (i : Int) < (n : Int) := by omega
      have hil : i < l.length := by rw [← HN.out]; exact hin
      obtain ⟨b, o, rfl, hcell⟩ := HS.out (fun q => by rw [q] at hil; simp at hil)
      have x0 := hcell i hil
      obtain ⟨s, hs⟩ : ∃ s, l.getD i ⟨#[]⟩ = s := ⟨_, rfl⟩
      rw [hs] at x0
      have hsi : l[i]? = some s := by rw [← hs, List.getD_eq_getElem?_getD, List.getElem?_eq_getElem hil]; rfl
      have HWs : Hid (wfS s) := HW.out s (List.mem_of_getElem? hsi)
      have HDr : Hid (l.drop i = s :: l.drop (i + 1)) := by
        show _ = _
        obtain ⟨hj, he⟩ := List.getElem?_eq_some_iff.1 hsi
        rw [← he, List.getElem_cons_drop]
      have HDi := Lib.hid (directory_any H.out HDv.out)
      have HM := Lib.hid hin
      clear hcell hs hsi hil hin
      unfold wrDir at HDi
      by_cases hk : T.K d = 2
      · rw [if_pos hk] at HDi
        obtain ⟨-, -, -, c3, -⟩ := H.out.cells HDv.out
        rw [if_pos hk] at c3
        have hlk := H.out.look hk HWs.out
        cases he : T.E d s with
        | none =>
          rw [he] at hlk
          have HE : Hid (leadK T 2 l = (none, 2)) := by
            show _ = _
            rw [HL.out, HDr.out, leadK_none hk he]
          clear hk he
          go_wp2_with fail
          refine HDi.out.mono ?_
          rintro e w2 ⟨rfl, rfl⟩
          go_wp2_with fail
          go_ret2
          rw [HE.out]
          exact ⟨rfl, rfl⟩
        | some j =>
          rw [he] at hlk
          have HE : Hid (i + 1 ≤ l.length ∧ T.live j ∧ leadK T 2 l = leadK T j (l.drop (i + 1))) := ⟨by have := HM.out; have := HN.out; omega, (H.out.wf.ent d s j he).2.1, by rw [HL.out, HDr.out, leadK_go hk he]⟩
          clear hk he
          go_wp2_with fail
          refine HDi.out.mono ?_
          rintro e w2 ⟨rfl, rfl⟩
          go_wp2_with fail
          go_roundw
          case rel => exact ⟨i + 1, j, HE.out.1, rfl, rfl, HE.out.2.1, HE.out.2.2, rfl⟩
          case measure => have := HM.out; simp [intOf]; omega
      · rw [if_neg hk] at HDi
        have HE : Hid (leadK T 2 l = (none, 20)) := by
          show _ = _
          rw [HL.out, HDr.out, leadK_file hk]
        clear hk
        go_wp2_with fail
        refine HDi.out.mono ?_
        rintro e w2 ⟨rfl, rfl⟩
        go_wp2_with fail
        go_ret2
        rw [HE.out]
        exact ⟨rfl, rfl⟩
    · have i1 : ¬ (i : Int) < (n : Int) := by omega
      have HE : Hid (leadK T 2 l = (some d, 0)) := by
        show _ = _
        rw [HL.out, List.drop_eq_nil_of_le (by have := HN.out; omega), leadK_nil]
      clear hin
      go_wp2_with fail
      go_ret2
      rw [HE.out]
      exact ⟨rfl, rfl⟩
end
end Go.Proofs.Ytcjojcihjhhpgaa
