/-
  LaterInv · LaterKit · ChAwk: these texts in one.
-/
import Derived.Test.YtdnkeplmjimjcaaPk05
import Derived.Laws.Rows
/-
  A drawn region whose operations only make new memory: which slot holds what, told by facts that outlive new memory.
-/
namespace Go.Proofs.Ytdnkeplmjimjcaa
open Go.RowKit

abbrev ObjL := Value → World → Prop
def LaterP (p : ObjL) : Prop := ∀ v W W', Below W.heap.size W W' → p v W → p v W'
structure GL (R : List (Nat × ObjL)) (T : List (Nat × Value)) (w : World) (D : Nat → Bool) (X : Nat → Value) (W : World) : Prop where
  b : Below w.heap.size w W
  rows : ∀ x ∈ R, D x.1 = true → x.2 (X x.1) W
  dt : DetO T D X
def keysL (R : List (Nat × ObjL)) : Prop := ∀ x ∈ R, ∀ y ∈ R, x.1 = y.1 → x = y
section
variable {R : List (Nat × ObjL)} {T : List (Nat × Value)} {w W W' : World} {D : Nat → Bool} {X : Nat → Value}
theorem GL.start (hw : Below w.heap.size w W) : GL R T w (fun _ => false) X W := ⟨hw, fun _ _ h => (by cases h), fun _ _ h => (by cases h)⟩
theorem GL.tell (h : GL R T w D X W) (hs : ∀ x ∈ R, LaterP x.2) (i : Nat) (v : Value) (hb : Below W.heap.size W W') (hR : ∀ x ∈ R, x.1 ≠ i) (hv : ∀ x ∈ T, x.1 = i → x.2 = v) : GL R T w (updD D i) (updV X i v) W' :=
  ⟨h.b.trans (hb.mono h.b.size), fun x hx hd => by
    rw [updD_ne D i (hR x hx)] at hd
    rw [updV_ne X i v (hR x hx)]
    exact hs x hx _ _ _ hb (h.rows x hx hd), h.dt.set i v hv⟩
theorem GL.fresh (h : GL R T w D X W) (hk : keysL R) (hs : ∀ x ∈ R, LaterP x.2) (i : Nat) (v : Value) (z : ObjL) (hz : (i, z) ∈ R) (hb : Below W.heap.size W W') (ho : z v W') (hT : ∀ x ∈ T, x.1 ≠ i) : GL R T w (updD D i) (updV X i v) W' :=
  ⟨h.b.trans (hb.mono h.b.size), fun x hx hd => by
    by_cases e : x.1 = i
    · have := hk x hx _ hz e
      subst this
      rw [updV_at]; exact ho
    · rw [updD_ne D i e] at hd
      rw [updV_ne X i v e]
      exact hs x hx _ _ _ hb (h.rows x hx hd), fun x hx hd => by
    rw [updV_ne X i v (hT x hx)]
    rw [updD_ne D i (hT x hx)] at hd
    exact h.dt x hx hd⟩
end
end Go.Proofs.Ytdnkeplmjimjcaa
/-
  A whole struct loaded in a drawn region whose operations only make new memory.
-/
namespace Go.Proofs.Ytdnkeplmjimjcaa
open Go.RowKit
section
variable {P : Program} {ops : Array Oper} {Q : Exit → Act → World → Prop} {o : Oper} {a : Act} {w : World} {K : Act → World → Prop} {E : Prop}
theorem stepO_load_row (hw : Region.wanted o (yielded ops a.tmps) = true) (ty : TypeId) (x : Operand) (ho : o.op = .load ty x)
    (g : Nat) (hx : a.eval x = .pointer (some ⟨g, 0, none⟩)) (t : TypeId) (cs : Array Value) (fr : Nat × Nat) (d : TypeDesc) (hg : w.heap[g]? = some (.cells cs t fr))
    (hu : P.underlying ty = some d) (hd : (match d with | .struct _ | .array _ _ => true | _ => false) = true) (hi : (P.info? ty).map (·.size) = some cs.size)
    (hk : K (a.put o.dst (.agg cs)) w) : if Region.wanted o (yielded ops a.tmps) = true then Oper.wp P o a w K Q else E := by
  refine stepO_run (v := .agg cs) (w' := w) hw ?_ hk
  unfold execOp
  simp only [ho, hx, Instr.loadAt, Instr.sureAddr, Sem.run_bind, Sem.run_pure, Result.andThen_ok, run_loadVar_row w g t ty cs fr d hg hu hd hi]
end
end Go.Proofs.Ytdnkeplmjimjcaa
/-
  awake.
-/
namespace Go.Proofs.Ytdnkeplmjimjcaa
open Go.RowKit

def awB (i : Int) (d : Bool) : Bk := ⟨(0, i), gd zeroB, d, 0⟩
section
variable {w w' : World} {bc bm bd md base b : Nat} {room room' : Int} {N T : Nat} {L : List Bk}
theorem wf_of {a b : Int} (h1 : -9223372036854775808 ≤ a) (h2 : a ≤ 9223372036854775807) (h3 : -9223372036854775808 ≤ b) (h4 : b ≤ 9223372036854775807) : wfK (a, b) := ⟨wfI _ h1 h2, wfI _ h3 h4⟩
theorem NewC.far (h : NewC w bd md room) (hC : CA w bc bm base room' N T L) (h1 : bd ≠ bc) (h2 : md ≠ bm) (ho : Out (XC w bc bm base) w w') : NewC w' bd md room := by
  obtain ⟨n, f, ks, uses, v, hK, -, hB⟩ := hC.len
  refine h.out ho ?_ ?_
  · rintro ⟨-, e | e | ⟨t, cs, q1, q2⟩⟩
    · exact h1 e
    · exact hK.blo h.cb e.symm
    · have := h.cb
      unfold CB Blo at this
      unfold Blo at q1
      rw [q1] at this
      cases this
      rcases q2 with e | e
      · exact absurd e (by decide)
      · exact absurd e (by decide)
  · rintro ⟨-, e | e | ⟨t, cs, q1, q2⟩⟩
    · exact h.km.blo hB e
    · exact h2 e
    · exact h.km.blo q1 rfl
theorem outC_below (ho : Out (XC w bc bm base) w w') (hb : base ≤ w.heap.size) : Below base w w' := ho.below hb fun _ _ h => h.1
/-- What awake keeps from round to round. -/
structure AwS (w : World) (bc bm bd md : Nat) (N T : Nat) (L : List Bk) (wr : World) : Prop where
  ca : CA wr bc bm w.heap.size 2 N T L
  nd : NewC wr bd md 1
  below : Below w.heap.size w wr
  low : w.heap.size ≤ bd ∧ w.heap.size ≤ md
theorem AwS.later {wr : World} (h : AwS w bc bm bd md N T L wr) (hb : Below wr.heap.size wr w') : AwS w bc bm bd md N T L w' :=
  ⟨h.ca.later hb, h.nd.out (X := fun _ => False) (Out.of_below hb) id id, h.below.trans (hb.mono h.below.size), h.low⟩
/-- Behind a call on the first cache. -/
theorem AwS.call {wr : World} (h : AwS w bc bm bd md N T L wr) (h1 : bd ≠ bc) (h2 : md ≠ bm) {L' : List Bk} {N' T' : Nat} (hC : CA w' bc bm w.heap.size 2 N' T' L') (ho : Out (XC wr bc bm w.heap.size) wr w') : AwS w bc bm bd md N' T' L' w' :=
  ⟨hC, h.nd.far h.ca h1 h2 ho, h.below.trans (outC_below ho h.below.size), h.low⟩
def AwR (w : World) (bc bm bd md : Nat) (v : Value) (wr : World) : Prop :=
  (v = .int .i64 1 ∧ AwS w bc bm bd md 0 0 [] wr) ∨ (v = .int .i64 2 ∧ AwS w bc bm bd md 1 1 [awB 1 false] wr) ∨ (v = .int .i64 3 ∧ AwS w bc bm bd md 2 2 [awB 1 false, awB 2 false] wr) ∨ (v = .int .i64 4 ∧ AwS w bc bm bd md 3 4 [awB 1 false, awB 3 false] wr)
theorem aw_put1 : putK 2 [] (0, 1) zeroB false = ([awB 1 false], 0) := by kernel_rfl
theorem aw_put2 : putK 2 [awB 1 false] (0, 2) zeroB false = ([awB 1 false, awB 2 false], 0) := by kernel_rfl
theorem aw_get1 : getK [awB 1 false, awB 2 false] (0, 1) = ([awB 2 false, awB 1 false], some (gd zeroB)) := by kernel_rfl
theorem aw_put3 : putK 2 [awB 2 false, awB 1 false] (0, 3) zeroB false = ([awB 1 false, awB 3 false], 0) := by kernel_rfl
theorem aw_get2 : getK [awB 1 false, awB 3 false] (0, 2) = ([awB 1 false, awB 3 false], none) := by kernel_rfl
theorem aw_put4 : putK 1 [] (0, 1) zeroB true = ([awB 1 true], 0) := by kernel_rfl
theorem aw_put5 : putK 1 [awB 1 true] (0, 2) zeroB false = ([awB 1 true], 28) := by kernel_rfl
/-- A Put of a new block of zeros. -/
theorem put_zero {wr : World} (h : CA wr bc bm base room N T L) (i : Int) (hi : 0 ≤ i ∧ i ≤ 9) (d : Bool) (hT : T ≤ 1000) (hN : N ≤ 1000) {L' : List Bk} {code : Int} (e : putK room L (0, i) zeroB d = (L', code)) :
    Calls Try.prog 23 #[.pointer (some ⟨bc, 0, none⟩), .agg #[.int .i64 0, .int .i64 i], .slice (some ⟨wr.heap.size, 0, none⟩) 64 64, .bool d] (wr.alloc (.cells Z64 U8)) (CcO wr bc bm base room (N + 1) (T + 1) L' (.int .i64 code)) := by
  have hb := sup_pc9 wr (.cells Z64 U8)
  have hC := h.later hb
  have := put_any (p := (0, i)) (sc := 64) (d := d) hC (wf_of (by decide) (by decide) (by omega) (by omega)) (hC.din (bblk_zero wr)) (n := 64) rfl (by decide) (by omega) (by omega)
  rw [e] at this
  exact this.mono fun e w' q => q.before hb
set_option maxHeartbeats 8000000 in
theorem awake_any (w : World) : Calls Try.prog 8 #[] w fun e w' => e = .returned (.bool true) ∧ Below w.heap.size w w' := by
  have hmk := run_make64
  go_enter Try.func8, Try.ntmps8
  go_wp2_with fail
  refine (new_any (by decide) (by decide) _).mono ?_
  rintro e w1 ⟨rfl, hn1, hb1⟩
  have HN1 := Lib.hid hn1
  have HB1 := Lib.hid hb1
  clear hn1 hb1
  go_wp2_with fail
  refine (new_any (by decide) (by decide) _).mono ?_
  rintro e w2 ⟨rfl, hn2, hb2⟩
  have HSt : Hid (AwR w (w.heap.size + 1) w.heap.size (w1.heap.size + 1) w1.heap.size (.int .i64 1) w2) := by
    refine .inl ⟨rfl, ⟨(HN1.out.ca (by decide) (by decide) (by omega) (Nat.le_refl _)).later hb2, hn2, HB1.out.trans (hb2.mono HB1.out.size), by have := HB1.out.size; omega, HB1.out.size⟩⟩
  have HNe : Hid (w1.heap.size + 1 ≠ w.heap.size + 1 ∧ w1.heap.size ≠ w.heap.size) := by
    have := Blo.lt HN1.out.cb
    exact ⟨by omega, by omega⟩
  clear hn2 hb2 HN1 HB1
  generalize w1.heap.size + 1 = bd at *
  generalize w1.heap.size = md at *
  generalize w.heap.size + 1 = bc at *
  obtain ⟨bm, hbm⟩ : ∃ bm, bm = w.heap.size := ⟨_, rfl⟩
  rw [← hbm] at HSt HNe
  go_wp2_with fail
  go_loopw [5] (fun v wr => AwR w bc bm bd md v wr) (fun v _ => 4 - (intOf v).toNat)
  case atStart => exact HSt.out
  case round =>
    clear HSt
    rcases hrel with ⟨rfl, hS⟩ | ⟨rfl, hS⟩ | ⟨rfl, hS⟩ | ⟨rfl, hS⟩
    · have HS := Lib.hid hS
      have HP := Lib.hid (put_zero hS.ca 1 (by decide) false (by decide) (by decide) aw_put1)
      clear hS
      go_wp2_with fail
      refine HP.out.mono ?_
      rintro e w3 ⟨rfl, hC, ho⟩
      have HS3 := Lib.hid (HS.out.call HNe.out.1 HNe.out.2 hC ho)
      clear hC ho HS HP
      go_wp2_with fail
      go_roundw
      case rel => exact .inr (.inl ⟨rfl, HS3.out⟩)
      case measure => simp [intOf]
    · have HS := Lib.hid hS
      have HP := Lib.hid (put_zero hS.ca 2 (by decide) false (by decide) (by decide) aw_put2)
      clear hS
      go_wp2_with fail
      refine HP.out.mono ?_
      rintro e w3 ⟨rfl, hC, ho⟩
      have HS3 := Lib.hid (HS.out.call HNe.out.1 HNe.out.2 hC ho)
      clear hC ho HS HP
      go_wp2_with fail
      go_roundw
      case rel => exact .inr (.inr (.inl ⟨rfl, HS3.out⟩))
      case measure => simp [intOf]
    · have HS := Lib.hid hS
      have HG := Lib.hid (get_any (p := (0, 1)) hS.ca (wf_of (by decide) (by decide) (by decide) (by decide)) (by decide))
      clear hS
      go_wp2_with fail
      refine HG.out.mono ?_
      rintro e w3 ⟨hC, ho, hr⟩
      rw [aw_get1] at hC hr
      obtain ⟨q, -⟩ | ⟨d, g, cap', -, rfl, -⟩ := hr
      · cases q
      have HS3 := Lib.hid (HS.out.call HNe.out.1 HNe.out.2 hC ho)
      have HP := Lib.hid (put_zero HS3.out.ca 3 (by decide) false (by decide) (by decide) aw_put3)
      clear hC ho HS HG
      go_wp2_with fail
      refine HP.out.mono ?_
      rintro e w4 ⟨rfl, hC, ho⟩
      have HS4 := Lib.hid (HS3.out.call HNe.out.1 HNe.out.2 hC ho)
      clear hC ho HS3 HP
      go_wp2_with fail
      go_roundw
      case rel => exact .inr (.inr (.inr ⟨rfl, HS4.out⟩))
      case measure => simp [intOf]
    · have HS := Lib.hid hS
      have HG := Lib.hid (get_any (p := (0, 2)) hS.ca (wf_of (by decide) (by decide) (by decide) (by decide)) (by decide))
      clear hS
      go_wp2_with fail
      refine HG.out.mono ?_
      rintro e w3 ⟨hC, ho, hr⟩
      rw [aw_get2] at hC hr
      obtain ⟨-, rfl⟩ | ⟨d, g, cap', q, -, -⟩ := hr
      · have HS3 := Lib.hid (HS.out.call HNe.out.1 HNe.out.2 hC ho)
        have HLn := Lib.hid (len_any HS3.out.ca)
        clear hC ho HS HG
        go_wp2_with fail
        refine HLn.out.mono ?_
        rintro e w4 ⟨rfl, rfl⟩
        have HD := Lib.hid (HS3.out.nd.ca (base := w.heap.size) (by decide) (by decide) HS3.out.low.1 HS3.out.low.2)
        have HP := Lib.hid (put_zero HD.out 1 (by decide) true (by decide) (by decide) aw_put4)
        clear HLn
        go_wp2_with fail
        refine HP.out.mono ?_
        rintro e w5 ⟨rfl, hC, ho⟩
        have HB5 := Lib.hid (HS3.out.below.trans (outC_below ho HS3.out.below.size))
        have HP2 := Lib.hid (put_zero hC 2 (by decide) false (by decide) (by decide) aw_put5)
        clear HP hC ho HD HS3
        go_wp2_with fail
        refine HP2.out.mono ?_
        rintro e w6 ⟨rfl, hC, ho⟩
        have HB6 := Lib.hid (HB5.out.trans (outC_below ho HB5.out.size))
        clear HP2 hC ho HB5
        go_wp2_with fail
        go_ret
        exact ⟨rfl, HB6.out⟩
      · cases q
end
end Go.Proofs.Ytdnkeplmjimjcaa
