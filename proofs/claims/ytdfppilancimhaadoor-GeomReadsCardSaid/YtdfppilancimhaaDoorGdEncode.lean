/-
  The walks of a geometry's block: the program's Encode.
-/
import Derived.Test.YtdfppilancimhaaDoorBaseOpen
import Derived.Test.YtdfppilancimhaaDoorGeomRef
import Derived.Lib.BufferWrite
namespace Go.Proofs.YtdfppilancimhaaDoor
open Go.RowKit

/-- A geometry's sixty bytes. -/
def bodyN (B S I : Nat) : List Nat := [77, 65, 82, 76] ++ (le4 B ++ (le4 S ++ (le4 I ++ List.replicate 44 0)))
theorem bodyN_length (B S I : Nat) : (bodyN B S I).length = 60 := by simp [bodyN, le4]
theorem bodyN_lt (B S I : Nat) : ∀ x ∈ bodyN B S I, x < 256 := by
  intro x hx
  simp only [bodyN, List.mem_append, List.mem_replicate] at hx
  rcases hx with h | h | h | h | ⟨_, rfl⟩
  · revert x; decide
  · exact le4_lt _ x h
  · exact le4_lt _ x h
  · exact le4_lt _ x h
  · decide
def put4 (l : List Nat) (k v : Nat) : List Nat := (((l.set k (v % 256)).set (k + 1) (v / 256 % 256)).set (k + 2) (v / 65536 % 256)).set (k + 3) (v / 16777216 % 256)
theorem put4_length (l : List Nat) (k v : Nat) : (put4 l k v).length = l.length := by simp [put4]
theorem body_put (B S I : Nat) : put4 (put4 (put4 ([77, 65, 82, 76] ++ List.replicate 56 0) 4 B) 8 S) 12 I = bodyN B S I := rfl
set_option maxHeartbeats 400000 in
theorem gput_any (v g k m c : Nat) (w : World) (x0 x1 x2 x3 : Value) (hv : v < 4294967296) (hm : 4 ≤ m) (hm2 : m ≤ 9223372036854775807)
    (c0 : w.cell? ⟨g, k, none⟩ = some x0) (c1 : w.cell? ⟨g, k + 1, none⟩ = some x1) (c2 : w.cell? ⟨g, k + 2, none⟩ = some x2) (c3 : w.cell? ⟨g, k + 3, none⟩ = some x3)
    (f0 : w.frozen? ⟨g, k, none⟩ = false) (f1 : w.frozen? ⟨g, k + 1, none⟩ = false) (f2 : w.frozen? ⟨g, k + 2, none⟩ = false) (f3 : w.frozen? ⟨g, k + 3, none⟩ = false) :
    Calls Tryd.prog 18 #[.slice (some ⟨g, k, none⟩) m c, .int .i64 v] w fun e w' => e = .returned (.tuple #[]) ∧
      w' = (((w.setCell ⟨g, k, none⟩ (.int .u8 (v % 256 : Nat))).setCell ⟨g, k + 1, none⟩ (.int .u8 (v / 256 % 256 : Nat))).setCell ⟨g, k + 2, none⟩ (.int .u8 (v / 65536 % 256 : Nat))).setCell ⟨g, k + 3, none⟩ (.int .u8 (v / 16777216 % 256 : Nat)) := by
  have e3 : v / 16777216 % 256 = v / 16777216 := by omega
  rw [e3]
  clear e3
  go_enter Tryd.func18, Tryd.ntmps18
  go_wp2
  refine wp_loop_rounds 5 ?_
  rw [rounds_succ]
  go_wp2
  rw [rounds_succ]
  go_wp2
  rw [rounds_succ]
  go_wp2
  rw [rounds_succ]
  go_wp2
  rw [rounds_succ]
  go_wp2
  go_end0
  exact ⟨rfl, rfl⟩
theorem gput_row (v : Nat) (l : List Nat) (g k m c : Nat) (w : World) (hv : v < 4294967296) (hr : Row w g l) (hk : k + 4 ≤ l.length) (hm : 4 ≤ m) (hm2 : m ≤ 9223372036854775807) :
    Calls Tryd.prog 18 #[.slice (some ⟨g, k, none⟩) m c, .int .i64 v] w fun e w' => e = .returned (.tuple #[]) ∧ Row w' g (put4 l k v) ∧ Below g w w' := by
  refine (gput_any v g k m c w _ _ _ _ hv hm hm2 (hr.cell _ (by omega)) (hr.cell _ (by omega)) (hr.cell _ (by omega)) (hr.cell _ (by omega)) (hr.frozen _) (hr.frozen _) (hr.frozen _) (hr.frozen _)).mono ?_
  rintro e w' ⟨he, rfl⟩
  have b1 : Below g w (w.setCell ⟨g, k, none⟩ (.int .u8 (v % 256 : Nat))) := (Below.refl g w).setCell (Nat.le_refl g) _
  have b2 := b1.setCell (p := ⟨g, k + 1, none⟩) (Nat.le_refl g) (.int .u8 (v / 256 % 256 : Nat))
  have b3 := b2.setCell (p := ⟨g, k + 2, none⟩) (Nat.le_refl g) (.int .u8 (v / 65536 % 256 : Nat))
  have b4 := b3.setCell (p := ⟨g, k + 3, none⟩) (Nat.le_refl g) (.int .u8 (v / 16777216 % 256 : Nat))
  exact ⟨he, (((hr.set k (v % 256)).set (k + 1) (v / 256 % 256)).set (k + 2) (v / 65536 % 256)).set (k + 3) (v / 16777216 % 256), b4⟩
set_option maxHeartbeats 400000 in
theorem encode_bad (b s i : Int) (w : World) (h : ¬ Good b s i) :
    Calls Tryd.prog 9 #[.agg #[.int .i64 b, .int .i64 s, .int .i64 i]] w fun e w' => e = .returned (.tuple #[.slice none 0 0, .int .i64 22]) ∧ Below w.heap.size w w' := by
  have HB := Lib.hid (sup_below w)
  have HG := Lib.hid h
  clear h
  go_enter Tryd.func9, Tryd.ntmps9
  go_wp2_with fail
  refine (check_bad b s i _ HG.out).mono ?_
  rintro e w1 ⟨rfl, hb1⟩
  have HB1 : Hid (Below w.heap.size w w1) := (HB.out _).trans (hb1.mono (by simp))
  clear hb1
  go_wp2
  go_ret2
  exact ⟨rfl, HB1.out⟩
/-- What the program's Encode answers of a geometry. -/
def Encoded (w : World) (B S I : Nat) (e : Ending) (w' : World) : Prop :=
  ∃ g, e = .returned (.tuple #[.slice (some ⟨g, 0, none⟩) 64 64, .int .i64 0]) ∧ Row w' g (sealN (bodyN B S I)) ∧ w.heap.size ≤ g ∧ Below w.heap.size w w'
def marlS : ByteArray := { data := #[77, 65, 82, 76] }
theorem slice60 (g k r : Nat) (hk : k + r = 60) (hr : 0 < r) (W : World) :
    (Instr.slice 28 (.slice (some ⟨g, 0, none⟩) 60 60) (some (.int .i64 (k : Int))) none none).run Tryd.prog W = .ok (.slice (some ⟨g, k, none⟩) r r) W := by
  have ht' : Tryd.prog.underlying 28 = some (.slice (Tryd.prog.elem 28)) := by simp [Program.elem, Tryd.underlying28]
  have he : Tryd.prog.elem 28 = 5 := by simp [Program.elem, Tryd.underlying28]
  have e1 : 60 - k = r := by omega
  rw [run_slice_l W 28 _ _ _ ht' .i64 _ (by omega) (by omega), he, size_u8]
  simp [Result.andThen, sliced, Addr.add_lit, e1]
  intro e
  omega
theorem wp_copy_str {P : Program} {w : World} {ops : Array Oper} {rest : List Oper} {o : Oper} {a : Act} {Q : Exit → Act → World → Prop} (hgd : o.guard = none) (d s : Operand) (dT sT : TypeId)
    (ho : o.op = .call { callee := .builtin .copy, args := #[d, s], argTypes := #[dT, sT] }) (elem : TypeId) (hu : P.underlying dT = some (.slice elem)) (hsz : (P.info? elem).map (·.size) = some 1)
    (g off dLen dCap : Nat) (str : ByteArray) (hd : a.eval d = .slice (some ⟨g, off, none⟩) dLen dCap) (hs : a.eval s = .string str) (cur : Array Value) (t : TypeId) (hg : w.heap[g]? = some (.cells cur t (0, 0)))
    (hle : str.size ≤ dLen) (hfit : off + str.size ≤ cur.size)
    (h : ∀ w', w'.heap[g]? = some (.cells (cur.toList.take off ++ Lib.byteCells str.data.toList ++ cur.toList.drop (off + str.size)).toArray t (0, 0)) → Below g w w' → wpList P ops Q rest (a.put o.dst (goInt str.size)) w') : wpList P ops Q (o :: rest) a w := by
  refine wpList_plain hgd fun K hK => ?_
  have hrun := Lib.run_copy_row_string (P := P) w dT sT o.type elem g off dLen dCap str cur t hu hsz hg hle hfit
  have hfin := h _ (setRow_heap w g _ (cur.toList.take off ++ Lib.byteCells str.data.toList ++ cur.toList.drop (off + str.size)).toArray _ _ hg) (below_setRow (Below.refl g w) (Nat.le_refl g) _)
  unfold Oper.wp
  simp only [execOp, ho]
  simp [resolve, invoke, builtin, hd, hs, hrun, Result.andThen]
  rw [List.append_assoc] at hfin
  exact hK _ _ hfin
theorem marl_row : (((cellsB (List.replicate 60 0)).toArray.toList.take 0 ++ Lib.byteCells (#[77, 65, 82, 76] : Array UInt8).toList ++ (cellsB (List.replicate 60 0)).toArray.toList.drop (0 + 4)).toArray) = (cellsB ([77, 65, 82, 76] ++ List.replicate 56 0)).toArray := by rfl
set_option maxHeartbeats 1000000 in
theorem encode_good (B S I : Nat) (w : World) (ht : Tab w) (hz : 0 < w.heap.size) (h : Good B S I) :
    Calls Tryd.prog 9 #[.agg #[.int .i64 B, .int .i64 S, .int .i64 I]] w (Encoded w B S I) := by
  have HB := Lib.hid (sup_below w)
  have HC0 := Lib.hid (cells3_laid w B S I 23)
  have HG := Lib.hid h
  have HT := Lib.hid ht
  clear h ht
  go_enter Tryd.func9, Tryd.ntmps9
  go_wp2_with fail
  refine (check_good B S I _ HG.out).mono ?_
  rintro e w1 ⟨rfl, hb1⟩
  have HB1 : Hid (Below w.heap.size w w1) := (HB.out _).trans (hb1.mono (by simp))
  have HC1 := Lib.hid (HC0.out.below hb1 (by simp))
  have hz1 : w.heap.size < w1.heap.size := by have := hb1.size; simp at this; omega
  clear hb1
  have hmk := run_make_bytes (P := Tryd.prog) 28 5 Tryd.underlying28 info_u8 w1 60 60 rfl (by omega)
  have hrow0 : Hid (Row (w1.alloc (.cells (cellsB (List.replicate 60 0)).toArray 5)) w1.heap.size (List.replicate 60 0)) := row_laid w1 _
  have hfit : Hid (0 + ByteArray.size { data := #[77, 65, 82, 76] } ≤ (cellsB (List.replicate 60 0)).toArray.size) := by show 0 + 4 ≤ _; simp [cellsB_length]
  obtain ⟨c0, c1, c2⟩ := HC1.out
  go_wp2_with (refine wp_copy_str rfl (.tmp 15) _ 28 9 rfl 5 Tryd.underlying28 size_one w1.heap.size 0 60 60 { data := #[77, 65, 82, 76] } rfl rfl _ _ hrow0.out (by decide) hfit.out ?_; intro w2 hrow2 hb2; have HR2 : Hid (Row w2 w1.heap.size ([77, 65, 82, 76] ++ List.replicate 56 0)) := hrow2.trans (by rw [← marl_row]; rfl); have HB2 : Hid (Below w1.heap.size w1 w2) := ((Below.refl _ _).alloc (Nat.le_refl _) _).trans hb2; clear hrow2 hb2; have HC2 := Lib.hid (HC1.out.below HB2.out hz1); clear c0 c1 c2; obtain ⟨c0, c1, c2⟩ := HC2.out)
  clear c0 c1 c2
  have hB : B < 4294967296 := by have := HG.out.2.1; omega
  have hS : S < 4294967296 := by have := HG.out.2.2.2.1; omega
  have hI : I < 4294967296 := by have := HG.out.2.2.2.2.2.1; omega
  have i0 : ∀ W, (Instr.index 47 (.agg #[.int .i64 B, .int .i64 S, .int .i64 I]) (.int .i64 0)).run Tryd.prog W = .ok (.int .i64 B) W := fun _ => by kernel_rfl
  have i1 : ∀ W, (Instr.index 47 (.agg #[.int .i64 B, .int .i64 S, .int .i64 I]) (.int .i64 1)).run Tryd.prog W = .ok (.int .i64 S) W := fun _ => by kernel_rfl
  have i2 : ∀ W, (Instr.index 47 (.agg #[.int .i64 B, .int .i64 S, .int .i64 I]) (.int .i64 2)).run Tryd.prog W = .ok (.int .i64 I) W := fun _ => by kernel_rfl
  have s4 : ∀ W, (Instr.slice 28 (.slice (some ⟨w1.heap.size, 0, none⟩) 60 60) (some (.int .i64 4)) none none).run Tryd.prog W = .ok (.slice (some ⟨w1.heap.size, 4, none⟩) 56 56) W := slice60 _ 4 56 rfl (by decide)
  have s8 : ∀ W, (Instr.slice 28 (.slice (some ⟨w1.heap.size, 0, none⟩) 60 60) (some (.int .i64 8)) none none).run Tryd.prog W = .ok (.slice (some ⟨w1.heap.size, 8, none⟩) 52 52) W := slice60 _ 8 52 rfl (by decide)
  have s12 : ∀ W, (Instr.slice 28 (.slice (some ⟨w1.heap.size, 0, none⟩) 60 60) (some (.int .i64 12)) none none).run Tryd.prog W = .ok (.slice (some ⟨w1.heap.size, 12, none⟩) 48 48) W := slice60 _ 12 48 rfl (by decide)
  refine wp_loop_rounds 4 ?_
  rw [rounds_succ]
  go_wp2_with fail
  refine (gput_row B _ w1.heap.size 4 56 56 _ hB HR2.out (by simp [put4_length]) (by decide) (by decide)).mono ?_
  rintro e w3 ⟨rfl, hr, hb⟩
  have HR3 := Lib.hid hr
  have HB3 : Hid (Below w1.heap.size w1 w3) := HB2.out.trans hb
  clear hr hb
  go_wp2_with fail
  rw [rounds_succ]
  go_wp2_with fail
  refine (gput_row S _ w1.heap.size 8 52 52 _ hS HR3.out (by simp [put4_length]) (by decide) (by decide)).mono ?_
  rintro e w4 ⟨rfl, hr, hb⟩
  have HR4 := Lib.hid hr
  have HB4 : Hid (Below w1.heap.size w1 w4) := HB3.out.trans hb
  clear hr hb
  go_wp2_with fail
  rw [rounds_succ]
  go_wp2_with fail
  refine (gput_row I _ w1.heap.size 12 48 48 _ hI HR4.out (by simp [put4_length]) (by decide) (by decide)).mono ?_
  rintro e w5 ⟨rfl, hr, hb⟩
  have HR5 := Lib.hid hr
  have HB5 : Hid (Below w1.heap.size w1 w5) := HB4.out.trans hb
  clear hr hb
  go_wp2_with fail
  rw [rounds_succ]
  go_wp2_with fail
  have hbody := HR5.out
  rw [body_put] at hbody
  have HR6 := Lib.hid hbody
  have HD5 : Hid (Below w.heap.size w w5) := HB1.out.trans (HB5.out.mono HB1.out.size)
  clear hbody i0 i1 i2 s4 s8 s12
  refine (seal_any (bodyN B S I) 60 (bodyN_length B S I).symm (by decide) _ 60 _ (HT.out.below HD5.out hz) (by have := HD5.out.size; omega) (HR6.out.bytes (bodyN_lt B S I) (by rw [bodyN_length]; decide))).mono ?_
  rintro e w6 ⟨rfl, hr6, hb6⟩
  have HR7 := Lib.hid hr6
  have HD6 : Hid (Below w.heap.size w w6) := HD5.out.trans (hb6.mono HD5.out.size)
  clear hr6 hb6
  go_wp2
  go_ret2
  exact ⟨w5.heap.size, rfl, HR7.out, HD5.out.size, HD6.out⟩
end Go.Proofs.YtdfppilancimhaaDoor
