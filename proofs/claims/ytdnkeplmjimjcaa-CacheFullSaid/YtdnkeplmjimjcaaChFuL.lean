/-
  The walk of CacheFull.
-/
import Derived.Test.YtdnkeplmjimjcaaChFuM
import Derived.Deep.RegionHeld3
import Derived.Deep.CutRange
namespace Go.Proofs.Ytdnkeplmjimjcaa
open Go.RowKit

/-- What a law about one cache keeps: the cache, and boxes of keys. -/
structure LwS (w : World) (bc bm : Nat) (r : Int) (N T : Nat) (L : List Bk) (K : List (Nat × Int × Int)) (W : World) : Prop where
  ca : CA W bc bm w.heap.size r N T L
  ky : ∀ q, q ∈ K → Blo W q.1 KT #[.int .i64 q.2.1, .int .i64 q.2.2]
  below : Below w.heap.size w W
section
variable {w W W' : World} {bc bm : Nat} {r : Int} {N T N' T' : Nat} {L L' : List Bk} {K : List (Nat × Int × Int)}
theorem LwS.later (h : LwS w bc bm r N T L K W) (hb : Below W.heap.size W W') : LwS w bc bm r N T L K W' :=
  ⟨h.ca.later hb, fun q hq => (h.ky q hq).later hb, h.below.trans (hb.mono h.below.size)⟩
theorem xc_key {base g : Nat} {cs : Array Value} (hC : CA W bc bm base r N T L) (h : Blo W g KT cs) : ¬ XC W bc bm base g := by
  obtain ⟨n, f, ks, uses, v, hK, -, hB⟩ := hC.len
  rintro ⟨-, e | e | ⟨t, cs, q1, q2⟩⟩
  · exact h.apart hB (by decide) e
  · exact hK.blo h e.symm
  · unfold Blo at h q1
    rw [q1] at h
    cases h
    rcases q2 with e | e
    · exact absurd e (by decide)
    · exact absurd e (by decide)
theorem LwS.call (h : LwS w bc bm r N T L K W) (hC : CA W' bc bm w.heap.size r N' T' L') (ho : Out (XC W bc bm w.heap.size) W W') : LwS w bc bm r N' T' L' K W' :=
  ⟨hC, fun q hq => ho.blo (h.ky q hq) (xc_key h.ca (h.ky q hq)), h.below.trans (outC_below ho h.below.size)⟩
theorem LwS.cells (h : LwS w bc bm r N T L K W) {g : Nat} {a b : Int} (hq : (g, a, b) ∈ K) : W.cell? ⟨g, 0, none⟩ = some (.int .i64 a) ∧ W.cell? ⟨g, 1, none⟩ = some (.int .i64 b) := ⟨(h.ky _ hq).cell 0, (h.ky _ hq).cell 1⟩
theorem LwS.key (h : LwS w bc bm r N T L K W) {g : Nat} {a b : Int} (hb : Blo W g KT #[.int .i64 a, .int .i64 b]) : LwS w bc bm r N T L ((g, a, b) :: K) W :=
  ⟨h.ca, fun q hq => by
    rcases List.mem_cons.1 hq with e | e
    · rw [e]; exact hb
    · exact h.ky q e, h.below⟩
theorem LwS.few2 (h : LwS w bc bm r N T L K W) : LwS w bc bm r N T L K W := h
theorem LwS.few (h : LwS w bc bm r N T L K W) : LwS w bc bm r N T L [] W := ⟨h.ca, fun q hq => (by cases hq), h.below⟩
/-- A Put of bytes that were just made. -/
theorem LwS.put (h : LwS w bc bm r N T L K W) {a b : Int} (hw : wfK (a, b)) {g : Nat} {l : List Nat} (hg : BBlk W g l) (d : Bool) (hT : T ≤ 100000) (hN : N ≤ 100000) {c : Int} (e : putK r L (a, b) l d = (L', c)) :
    Calls Try.prog 23 #[.pointer (some ⟨bc, 0, none⟩), .agg #[.int .i64 a, .int .i64 b], .slice (some ⟨g, 0, none⟩) 64 64, .bool d] W fun e w' => e = .returned (.int .i64 c) ∧ LwS w bc bm r (N + 1) (T + 1) L' K w' := by
  have := put_any (p := (a, b)) (sc := 64) (d := d) h.ca hw (h.ca.din hg) (n := 64) hg.2.1.symm (by decide) (by omega) (by omega)
  rw [e] at this
  exact this.mono fun e w' q => ⟨q.1, h.call q.2.1 q.2.2⟩
end
section
variable {w W W' : World} {bc bm : Nat} {r : Int} {N T N' T' : Nat} {L L' : List Bk} {K : List (Nat × Int × Int)}
theorem LwS.mono (h : LwS w bc bm r N T L K W) (h1 : N ≤ N') (h2 : T ≤ T') : LwS w bc bm r N' T' L K W := ⟨h.ca.mono h1 h2, h.ky, h.below⟩
theorem LwS.pin (h : LwS w bc bm r N T L K W) {a b : Int} (hw : wfK (a, b)) (hT : T ≤ 100000) {c : Int} (e : doK L 4 (a, b) = (L', c)) :
    Calls Try.prog 24 #[.pointer (some ⟨bc, 0, none⟩), .agg #[.int .i64 a, .int .i64 b]] W fun e w' => e = .returned (.int .i64 c) ∧ LwS w bc bm r N (T + 1) L' K w' := by
  have := pinc_any (p := (a, b)) h.ca hw (by omega)
  rw [e] at this
  exact this.mono fun e w' q => ⟨q.1, h.call q.2.1 q.2.2⟩
theorem LwS.unpin (h : LwS w bc bm r N T L K W) {a b : Int} (hw : wfK (a, b)) (hT : T ≤ 100000) {c : Int} (e : doK L 5 (a, b) = (L', c)) :
    Calls Try.prog 25 #[.pointer (some ⟨bc, 0, none⟩), .agg #[.int .i64 a, .int .i64 b]] W fun e w' => e = .returned (.int .i64 c) ∧ LwS w bc bm r N (T + 1) L' K w' := by
  have := unpinc_any (p := (a, b)) h.ca hw (by omega)
  rw [e] at this
  exact this.mono fun e w' q => ⟨q.1, h.call q.2.1 q.2.2⟩
theorem LwS.clean (h : LwS w bc bm r N T L K W) {a b : Int} (hw : wfK (a, b)) {c : Int} (e : doK L 3 (a, b) = (L', c)) :
    Calls Try.prog 26 #[.pointer (some ⟨bc, 0, none⟩), .agg #[.int .i64 a, .int .i64 b]] W fun e w' => e = .returned (.int .i64 c) ∧ LwS w bc bm r N (T + 1) L' K w' := by
  have := clean_any (p := (a, b)) h.ca hw
  rw [e] at this
  exact this.mono fun e w' q => ⟨q.1, h.call q.2.1 q.2.2⟩
theorem LwS.get_some (h : LwS w bc bm r N T L K W) {a b : Int} (hw : wfK (a, b)) (hT : T ≤ 100000) {d : Nat → Nat} (e : getK L (a, b) = (L', some d)) :
    Calls Try.prog 22 #[.pointer (some ⟨bc, 0, none⟩), .agg #[.int .i64 a, .int .i64 b]] W fun e w' => ∃ g c, e = .returned (.tuple #[.slice (some ⟨g, 0, none⟩) 64 c, .bool true]) ∧ LwS w bc bm r N (T + 1) L' K w' ∧ w'.ownsRow W.heap.size U8 1 (.slice (some ⟨g, 0, none⟩) 64 c) 64 (cellsB (dtL d)) := by
  have := get_any (p := (a, b)) h.ca hw (by omega)
  refine this.mono fun e' w' ⟨q1, q2, q3⟩ => ?_
  rw [e] at q1 q3
  obtain ⟨q, -⟩ | ⟨d', g, c, q, q4, q5⟩ := q3
  · cases q
  · cases q
    exact ⟨g, c, q4, h.call q1 q2, q5⟩
theorem LwS.get_none (h : LwS w bc bm r N T L K W) {a b : Int} (hw : wfK (a, b)) (hT : T ≤ 100000) (e : getK L (a, b) = (L', none)) :
    Calls Try.prog 22 #[.pointer (some ⟨bc, 0, none⟩), .agg #[.int .i64 a, .int .i64 b]] W fun e w' => e = .returned (.tuple #[.slice none 0 0, .bool false]) ∧ LwS w bc bm r N (T + 1) L' K w' := by
  have := get_any (p := (a, b)) h.ca hw (by omega)
  refine this.mono fun e' w' ⟨q1, q2, q3⟩ => ?_
  rw [e] at q1 q3
  obtain ⟨-, q⟩ | ⟨d', g, c, q, q4, q5⟩ := q3
  · exact ⟨q, h.call q1 q2⟩
  · cases q
theorem LwS.len (h : LwS w bc bm r N T L K W) {n : Nat} (e : L.length = n) :
    Calls Try.prog 16 #[.pointer (some ⟨bc, 0, none⟩)] W fun e w' => e = .returned (.int .i64 (n : Nat)) ∧ W = w' := by
  rw [← e]
  exact len_any h.ca
theorem bytes_nil (W : World) : Calls Try.prog 12 #[.slice none 0 0] W (BytO W (byt [])) := bytes_any none 0 0 [] W rfl (by decide) (Bytes.none _ _)
end
def FuR (w : World) (bc bm : Nat) (r : Nat) (pin : Bool) (v : Value) (wr : World) : Prop :=
  ∃ i : Nat, i ≤ r ∧ v = .int .i64 (i : Int) ∧ LwS w bc bm r i (2 * i) (fuL pin i) [] wr
set_option maxRecDepth 100000 in
set_option maxHeartbeats 8000000 in
theorem cacheFull_any (a b : Int) (pin : Bool) (w : World) :
    Calls Try.prog 6 #[.int .i64 a, .int .i64 b, .bool pin] w fun e w' => e = .returned (.bool true) ∧ Below w.heap.size w w' := by
  obtain ⟨m, hm, hme⟩ := cut_mod a 29 (by decide)
  have hme : wrap64 ((IntKind.u64.wrap a).tmod 30) = (m : Int) := hme
  obtain ⟨r, hr⟩ : ∃ r, r = m + 1 := ⟨_, rfl⟩
  have e2 : Hid ((m : Int) + 1 = (r : Int)) := by show (m : Int) + 1 = (r : Int); omega
  have hr1 : (1 : Int) ≤ (r : Int) := by omega
  obtain ⟨k, hk, hke⟩ : ∃ k : Nat, k < r ∧ wrap64 ((IntKind.u64.wrap b).tmod (r : Int)) = (k : Int) := by
    obtain ⟨k, hk, e⟩ := cut_mod b m (by omega)
    exact ⟨k, by omega, by rw [hr, ← e]; congr 2⟩
  have hwr : IntKind.u64.wrap (r : Int) = (r : Int) := by rw [IntKind.wrap_u64]; omega
  have HKr := Lib.hid hk
  clear hk
  have hr2 : (r : Int) ≤ 30 := by omega
  clear hr
  go_enter Try.func6, Try.ntmps6
  go_wp2_with fail
  refine (awake_any _).mono ?_
  rintro e w1 ⟨rfl, hb1⟩
  have HB1 := Lib.hid hb1
  clear hb1
  have hNew := Lib.hid (new_any (room := r) hr1 (by omega) w1)
  go_wp2_with fail
  rw [e2.out, hme]
  clear hme
  refine hNew.out.mono ?_
  rintro e w2 ⟨rfl, hn2, hb2⟩
  have HSt : Hid (FuR w (w1.heap.size + 1) w1.heap.size r pin (.int .i64 0) w2) := by
    have h1 := HB1.out.size
    exact ⟨0, by omega, rfl, hn2.ca hr1 (by omega) (by omega) h1, fun q hq => (by cases hq), HB1.out.trans (hb2.mono h1)⟩
  clear hn2 hb2 HB1 hNew e2 hm
  generalize w1.heap.size + 1 = bc at *
  generalize w1.heap.size = bm at *
  go_wp2_with fail
  go_loopw [9] (fun v wr => FuR w bc bm r pin v wr) (fun v _ => r - (intOf v).toNat)
  case atStart => exact HSt.out
  case round =>
    clear HSt
    obtain ⟨i, hi, rfl, hS⟩ := hrel
    have HS := Lib.hid hS
    clear hS
    by_cases hlt : i < r
    · have i1 : (i : Int) < (r : Int) := by omega
      go_upto_region 11 with (fail)
      obtain ⟨wk, hwk⟩ : ∃ wk, wk = wr.alloc (.cells #[.int .i64 0, .int .i64 (i : Int)] KT) := ⟨_, rfl⟩
      rw [← hwk]
      have HSd : Hid (LwS w bc bm r i (2 * i) (fuL pin i) [(wr.heap.size, 0, (i : Int))] wk.drew) := by
        have hb : Below wr.heap.size wr wk := by rw [hwk]; exact sup_pc9 wr _
        refine ((HS.out.later hb).key ?_).later (Below.refl _ _).drew
        rw [hwk]; exact blo_laid wr _ _
      have HKy : Hid (∀ (N T : Nat) (L : List Bk) (W : World), LwS w bc bm r N T L [(wr.heap.size, 0, (i : Int))] W → W.cell? ⟨wr.heap.size, 0, none⟩ = some (.int .i64 0) ∧ W.cell? ⟨wr.heap.size, 1, none⟩ = some (.int .i64 (i : Int))) := fun N T L W h => h.cells (by simp)
      have HWf : Hid (wfK (0, (i : Int))) := wf_of (by decide) (by decide) (by omega) (by omega)
      have HPu := Lib.hid (fu_put pin i r hlt)
      have HI := Lib.hid (And.intro hlt hr2)
      have HBy := Lib.hid (fun W => bytes_nil W)
      clear hwk HS hlt i1
      generalize wr.heap.size = kb at *
      have HB : Hid (i ≤ 100 ∧ 2 * i + 1 ≤ 100000 ∧ i ≤ 100000 ∧ 2 * i ≤ 100000) := ⟨by have := HI.out.1; have := HI.out.2; omega, by have := HI.out.1; have := HI.out.2; omega, by have := HI.out.1; have := HI.out.2; omega, by have := HI.out.1; have := HI.out.2; omega⟩
      rcases pin with _ | _
      · have HPc : Hid (∀ (W : World) (g : Nat), LwS w bc bm r i (2 * i) (fuL false i) [(kb, 0, (i : Int))] W → BBlk W g (byt []) → Calls Try.prog 23 #[.pointer (some ⟨bc, 0, none⟩), .agg #[.int .i64 0, .int .i64 (i : Int)], .slice (some ⟨g, 0, none⟩) 64 64, .bool true] W fun e w' => e = .returned (.int .i64 0) ∧ LwS w bc bm r (i + 1) (2 * i + 1) (fuL false (i + 1)) [(kb, 0, (i : Int))] w') := fun W g h hg => by
          have := HPu.out
          rw [show fuL false i ++ [(⟨(0, (i : Int)), gd (byt []), !false, 0⟩ : Bk)] = fuL false (i + 1) by rw [fuL_succ]; rfl] at this
          exact h.put HWf.out hg true HB.out.2.2.2 HB.out.2.2.1 this
        obtain ⟨qa, qb⟩ := HKy.out _ _ _ _ HSd.out
        first | (go_region_with (first
            | (go_at_call 12; (with_reducible refine (HBy.out _).mono ?_); rintro e Wa ⟨g, rfl, hg, -, hb⟩; have HG := Lib.hid hg; have HS2 := Lib.hid (HSd.out.later hb); obtain ⟨qc, qd⟩ := HKy.out _ _ _ _ HS2.out; clear hg hb)
            | (go_at_call 23; (with_reducible refine (HPc.out _ _ HS2.out HG.out).mono ?_); rintro e Wb ⟨rfl, hS⟩; have HS3 := Lib.hid hS; clear hS)
            | fail)) | fail
        all_goals
          have HR : Hid (FuR w bc bm r false (.int .i64 ((i : Int) + 1)) Wb) := ⟨i + 1, HI.out.1, rfl, (HS3.out.few).mono (Nat.le_refl _) (by omega)⟩
          have HM := Lib.hid HI.out.1
          clear qa qb qc qd HSd HS2 HS3 HG HKy HPc HPu HBy HWf HI HB
          go_wp2_with fail
          go_roundw
          case rel => exact HR.out
          case measure => have := HM.out; simp [intOf]; omega
      · have HPc : Hid (∀ (W : World) (g : Nat), LwS w bc bm r i (2 * i) (fuL true i) [(kb, 0, (i : Int))] W → BBlk W g (byt []) → Calls Try.prog 23 #[.pointer (some ⟨bc, 0, none⟩), .agg #[.int .i64 0, .int .i64 (i : Int)], .slice (some ⟨g, 0, none⟩) 64 64, .bool false] W fun e w' => e = .returned (.int .i64 0) ∧ LwS w bc bm r (i + 1) (2 * i + 1) (fuL true i ++ [⟨(0, (i : Int)), gd (byt []), false, 0⟩]) [(kb, 0, (i : Int))] w') := fun W g h hg => by
          exact h.put HWf.out hg false HB.out.2.2.2 HB.out.2.2.1 HPu.out
        have HPi : Hid (∀ (W : World), LwS w bc bm r (i + 1) (2 * i + 1) (fuL true i ++ [⟨(0, (i : Int)), gd (byt []), false, 0⟩]) [(kb, 0, (i : Int))] W → Calls Try.prog 24 #[.pointer (some ⟨bc, 0, none⟩), .agg #[.int .i64 0, .int .i64 (i : Int)]] W fun e w' => e = .returned (.int .i64 0) ∧ LwS w bc bm r (i + 1) (2 * i + 1 + 1) (fuL true (i + 1)) [(kb, 0, (i : Int))] w') := fun W h => h.pin HWf.out HB.out.2.1 (fu_pin i)
        first | (go_region_held (fun W => W.cell? ⟨kb, 0, none⟩ = some (.int .i64 0) ∧ W.cell? ⟨kb, 1, none⟩ = some (.int .i64 (i : Int)))
          (first | exact HKy.out _ _ _ _ HSd.out | exact HKy.out _ _ _ _ HS4.out | exact HKy.out _ _ _ _ HS3.out | exact HKy.out _ _ _ _ HS2.out | fail)
          (first
            | (go_at_call 12; (with_reducible refine (HBy.out _).mono ?_); rintro e Wa ⟨g, rfl, hg, -, hb⟩; have HG := Lib.hid hg; have HS2 := Lib.hid (HSd.out.later hb); clear hg hb)
            | (go_at_call 23; (with_reducible refine (HPc.out _ _ HS2.out HG.out).mono ?_); rintro e Wb ⟨rfl, hS⟩; have HS3 := Lib.hid hS; clear hS)
            | (go_at_call 24; (with_reducible refine (HPi.out _ HS3.out).mono ?_); rintro e Wc ⟨rfl, hS⟩; have HS4 := Lib.hid hS; clear hS)
            | fail)) | fail
        rename_i hHeld
        have HR : Hid (FuR w bc bm r true (.int .i64 ((i : Int) + 1)) Wc) := ⟨i + 1, HI.out.1, rfl, (HS4.out.few).mono (Nat.le_refl _) (by omega)⟩
        have HM := Lib.hid HI.out.1
        clear hHeld HSd HS2 HS3 HS4 HG HKy HPc HPi HPu HBy HWf HI HB
        go_wp2_with fail
        go_roundw
        case rel => exact HR.out
        case measure => have := HM.out; simp [intOf]; omega
    · have hir : i = r := by omega
      rw [hir] at HS ⊢
      clear hir hi hlt
      go_upto_region 14 with (fail)
      obtain ⟨wk, hwk⟩ : ∃ wk, wk = (wr.alloc (.cells #[.int .i64 0, .int .i64 (k : Int)] KT)).alloc (.cells #[.int .i64 0, .int .i64 1000] KT) := ⟨_, rfl⟩
      rw [← hwk]
      have HSd : Hid (LwS w bc bm r r (2 * r) (fuL pin r) [(wr.heap.size + 1, 0, 1000), (wr.heap.size, 0, (k : Int))] wk.drew) := by
        have h1 := (HS.out.later (sup_pc9 wr (.cells #[.int .i64 0, .int .i64 (k : Int)] KT))).key (blo_laid wr KT _)
        have h2 := (h1.later (sup_pc9 _ (.cells #[.int .i64 0, .int .i64 1000] KT))).key (blo_laid _ KT _)
        rw [show (wr.alloc (.cells #[.int .i64 0, .int .i64 (k : Int)] KT)).heap.size = wr.heap.size + 1 by simp, ← hwk] at h2
        exact (h2.few2).later (Below.refl _ _).drew
      generalize wr.heap.size + 1 = kf at *
      generalize wr.heap.size = kb at *
      have HKy : Hid (∀ (N T : Nat) (L : List Bk) (W : World), LwS w bc bm r N T L [(kf, 0, 1000), (kb, 0, (k : Int))] W → W.cell? ⟨kf, 0, none⟩ = some (.int .i64 0) ∧ W.cell? ⟨kf, 1, none⟩ = some (.int .i64 1000) ∧ W.cell? ⟨kb, 0, none⟩ = some (.int .i64 0) ∧ W.cell? ⟨kb, 1, none⟩ = some (.int .i64 (k : Int))) := fun N T L W h => ⟨(h.cells (.head _)).1, (h.cells (.head _)).2, (h.cells (.tail _ (.head _))).1, (h.cells (.tail _ (.head _))).2⟩
      have HWf : Hid (wfK (0, (k : Int))) := wf_of (by decide) (by decide) (by omega) (by have := HKr.out; omega)
      have HWg : Hid (wfK (0, 1000)) := wf_of (by decide) (by decide) (by decide) (by decide)
      have HBy := Lib.hid (fun W => bytes_nil W)
      have HB3 : Hid (∀ W : World, Calls Try.prog 12 #[.slice (some ⟨W.heap.size, 0, none⟩) 1 1] (W.alloc (.cells #[.int .u8 3] U8)) (BytO (W.alloc (.cells #[.int .u8 3] U8)) (byt [3]))) := fun W =>
        bytes_any (some ⟨W.heap.size, 0, none⟩) 1 1 [3] _ rfl (by decide) (Bytes.laid W [3] _ _ _ (by decide) (by decide) (fun i hi => by
          obtain rfl : i = 0 := by simp at hi; exact hi
          rfl))
      have HR : Hid (r ≤ 30) := by show r ≤ 30; omega
      have HP1 : Hid (∀ (W : World) (g : Nat), LwS w bc bm r r (2 * r) (fuL pin r) [(kf, 0, 1000), (kb, 0, (k : Int))] W → BBlk W g (byt []) → Calls Try.prog 23 #[.pointer (some ⟨bc, 0, none⟩), .agg #[.int .i64 0, .int .i64 1000], .slice (some ⟨g, 0, none⟩) 64 64, .bool false] W fun e w' => e = .returned (.int .i64 28) ∧ LwS w bc bm r (r + 1) (2 * r + 1) (fuL pin r) [(kf, 0, 1000), (kb, 0, (k : Int))] w') := fun W g h hg => by
        have hr := HR.out
        rcases fu_full pin r with q | q
        · exact h.put HWg.out hg false (by omega) (by omega) q
        · omega
      have HP2 : Hid (∀ (W : World) (g : Nat), LwS w bc bm r (r + 1) (2 * r + 1) (fuL pin r) [(kf, 0, 1000), (kb, 0, (k : Int))] W → BBlk W g (byt [3]) → Calls Try.prog 23 #[.pointer (some ⟨bc, 0, none⟩), .agg #[.int .i64 0, .int .i64 (k : Int)], .slice (some ⟨g, 0, none⟩) 64 64, .bool false] W fun e w' => e = .returned (.int .i64 0) ∧ LwS w bc bm r (r + 2) (2 * r + 2) (fuW pin r k ++ [fuS pin k]) [(kf, 0, 1000), (kb, 0, (k : Int))] w') := fun W g h hg => by
        have hr := HR.out
        exact h.put HWf.out hg false (by omega) (by omega) (fu_again pin HKr.out)
      have HLn : Hid (∀ (N T : Nat) (s : Bk) (W : World), LwS w bc bm r N T (fuW pin r k ++ [s]) [(kf, 0, 1000), (kb, 0, (k : Int))] W → Calls Try.prog 16 #[.pointer (some ⟨bc, 0, none⟩)] W fun e w' => e = .returned (.int .i64 (r : Nat)) ∧ W = w') := fun N T s W h => h.len (fu_len pin HKr.out s)
      have HG1 : Hid (∀ (W : World), LwS w bc bm r (r + 2) (2 * r + 2 + 1) (fuW pin r k ++ [fuT k]) [(kf, 0, 1000), (kb, 0, (k : Int))] W → Calls Try.prog 22 #[.pointer (some ⟨bc, 0, none⟩), .agg #[.int .i64 0, .int .i64 (k : Int)]] W fun e w' => ∃ g c, e = .returned (.tuple #[.slice (some ⟨g, 0, none⟩) 64 c, .bool true]) ∧ LwS w bc bm r (r + 2) (2 * r + 2 + 1 + 1) (fuW pin r k ++ [fuT k]) [(kf, 0, 1000), (kb, 0, (k : Int))] w' ∧ w'.ownsRow W.heap.size U8 1 (.slice (some ⟨g, 0, none⟩) 64 c) 64 (cellsB (dtL (gd (byt [3]))))) := fun W h => h.get_some HWf.out (by have := HR.out; omega) (fu_get pin r k)
      have HP3 : Hid (∀ (W : World) (g : Nat), LwS w bc bm r (r + 2) (2 * r + 2 + 1 + 1) (fuW pin r k ++ [fuT k]) [(kf, 0, 1000), (kb, 0, (k : Int))] W → BBlk W g (byt []) → Calls Try.prog 23 #[.pointer (some ⟨bc, 0, none⟩), .agg #[.int .i64 0, .int .i64 1000], .slice (some ⟨g, 0, none⟩) 64 64, .bool true] W fun e w' => e = .returned (.int .i64 0) ∧ LwS w bc bm r (r + 2 + 1) (2 * r + 2 + 1 + 1 + 1) (fuW pin r k ++ [fuF]) [(kf, 0, 1000), (kb, 0, (k : Int))] w') := fun W g h hg => by
        have hr := HR.out
        exact h.put HWg.out hg true (by omega) (by omega) (fu_in pin HKr.out (by omega))
      have HG2 : Hid (∀ (W : World), LwS w bc bm r (r + 2 + 1) (2 * r + 2 + 1 + 1 + 1) (fuW pin r k ++ [fuF]) [(kf, 0, 1000), (kb, 0, (k : Int))] W → Calls Try.prog 22 #[.pointer (some ⟨bc, 0, none⟩), .agg #[.int .i64 0, .int .i64 (k : Int)]] W fun e w' => e = .returned (.tuple #[.slice none 0 0, .bool false]) ∧ LwS w bc bm r (r + 2 + 1) (2 * r + 2 + 1 + 1 + 1 + 1) (fuW pin r k ++ [fuF]) [(kf, 0, 1000), (kb, 0, (k : Int))] w') := fun W h => h.get_none HWf.out (by have := HR.out; omega) (fu_gone pin HKr.out (by have := HR.out; omega))
      clear hwk HS hke hwr
      first | (go_region_held (fun W => W.cell? ⟨kf, 0, none⟩ = some (.int .i64 0) ∧ W.cell? ⟨kf, 1, none⟩ = some (.int .i64 1000) ∧ W.cell? ⟨kb, 0, none⟩ = some (.int .i64 0) ∧ W.cell? ⟨kb, 1, none⟩ = some (.int .i64 (k : Int)))
          (first | exact HKy.out _ _ _ _ HSd.out | exact HKy.out _ _ _ _ HS5.out | exact HKy.out _ _ _ _ HS4.out | exact HKy.out _ _ _ _ (HS3.out.later (sup_pc9 _ _)) | exact HKy.out _ _ _ _ HS3.out | exact HKy.out _ _ _ _ HS2.out | fail)
          (first
            | (go_at_call 12; (with_reducible refine (HBy.out _).mono ?_); rintro e Wa ⟨g, rfl, hg, -, hb⟩; have HG := Lib.hid hg; have HS2 := Lib.hid (HSd.out.later hb); clear hg hb)
            | (go_at_call 23; (with_reducible refine (HP1.out _ _ HS2.out HG.out).mono ?_); rintro e Wb ⟨rfl, hS⟩; have HS3 := Lib.hid hS; clear hS)
            | (go_at_call 12; (with_reducible refine (HB3.out _).mono ?_); rintro e Wc ⟨g2, rfl, hg, -, hb⟩; have HG3 := Lib.hid hg; have HS4 := Lib.hid ((HS3.out.later (sup_pc9 _ _)).later hb); clear hg hb)
            | (go_at_call 23; (with_reducible refine (HP2.out _ _ HS4.out HG3.out).mono ?_); rintro e Wd ⟨rfl, hS⟩; have HS5 := Lib.hid hS; clear hS)
            | (go_at_call 16; (with_reducible refine (HLn.out _ _ _ _ HS5.out).mono ?_); rintro e We ⟨rfl, rfl⟩)
            | fail)) | fail
      all_goals
        rename_i hHeld
        clear hHeld HSd HS2 HS3 HS4 HG HG3 HB3 HP1 HP2
        have HKz : Hid (∀ (N T : Nat) (L : List Bk) (W : World), LwS w bc bm r N T L [(kf, 0, 1000), (kb, 0, (k : Int))] W → W.cell? ⟨kf, 0, none⟩ = some (.int .i64 0) ∧ W.cell? ⟨kf, 1, none⟩ = some (.int .i64 1000)) := fun N T L W h => ⟨(HKy.out _ _ _ _ h).1, (HKy.out _ _ _ _ h).2.1⟩
        rcases pin with _ | _
        · obtain ⟨-, -, q3, q4⟩ := HKy.out _ _ _ _ HS5.out
          have HCl := Lib.hid (HS5.out.clean HWf.out (fu_clean r k))
          go_wp2_with fail
          refine HCl.out.mono ?_
          rintro e W6 ⟨rfl, hS⟩
          have HS6 := Lib.hid hS
          clear hS HCl q3 q4
          obtain ⟨-, -, q3, q4⟩ := HKy.out _ _ _ _ HS6.out
          have HGc := Lib.hid (HG1.out _ HS6.out)
          clear HS5
          go_wp2_with fail
          refine HGc.out.mono ?_
          rintro e W7 ⟨g7, c7, rfl, hS, -⟩
          have HS7 := Lib.hid hS
          clear q3 q4 hS HGc HS6 HG1
          go_upto_region 20 with (fail)
          have HSe := Lib.hid (HS7.out.later (Below.refl _ _).drew)
          clear HS7
          first | (go_region_held (fun W => W.cell? ⟨kf, 0, none⟩ = some (.int .i64 0) ∧ W.cell? ⟨kf, 1, none⟩ = some (.int .i64 1000))
              (first | exact HKz.out _ _ _ _ HSe.out | exact HKz.out _ _ _ _ HS9.out | exact HKz.out _ _ _ _ HS8.out | fail)
              (first
                | (go_at_call 12; (with_reducible refine (HBy.out _).mono ?_); rintro e Wf ⟨g8, rfl, hg, -, hb⟩; have HG8 := Lib.hid hg; have HS8 := Lib.hid (HSe.out.later hb); clear hg hb)
                | (go_at_call 23; (with_reducible refine (HP3.out _ _ HS8.out HG8.out).mono ?_); rintro e Wg ⟨rfl, hS⟩; have HS9 := Lib.hid hS; clear hS)
                | fail)) | fail
          all_goals
            rename_i hHeld
            clear hHeld HSe HS8 HG8 HP3 HBy HWg
            obtain ⟨-, -, q3, q4⟩ := HKy.out _ _ _ _ HS9.out
            have HGd := Lib.hid (HG2.out _ HS9.out)
            clear HS9 HG2
            go_wp2_with fail
            refine HGd.out.mono ?_
            rintro e W10 ⟨rfl, hS⟩
            have HS10 := Lib.hid hS
            have HLc := Lib.hid (HLn.out _ _ _ _ hS)
            have hrr : ((r : Int) == (r : Int)) = true := by simp
            clear q3 q4 hS HGd HLn
            go_wp2_with fail
            refine HLc.out.mono ?_
            rintro e W11 ⟨rfl, rfl⟩
            clear HLc
            go_wp2_with fail
            go_ret
            exact ⟨rfl, HS10.out.below⟩
        · obtain ⟨-, -, q3, q4⟩ := HKy.out _ _ _ _ HS5.out
          have HCl := Lib.hid (HS5.out.unpin HWf.out (by have := HR.out; omega) (fu_unpin r k))
          go_wp2_with fail
          refine HCl.out.mono ?_
          rintro e W6 ⟨rfl, hS⟩
          have HS6 := Lib.hid hS
          clear hS HCl q3 q4
          obtain ⟨-, -, q3, q4⟩ := HKy.out _ _ _ _ HS6.out
          have HGc := Lib.hid (HG1.out _ HS6.out)
          clear HS5
          go_wp2_with fail
          refine HGc.out.mono ?_
          rintro e W7 ⟨g7, c7, rfl, hS, -⟩
          have HS7 := Lib.hid hS
          clear q3 q4 hS HGc HS6 HG1
          go_upto_region 20 with (fail)
          have HSe := Lib.hid (HS7.out.later (Below.refl _ _).drew)
          clear HS7
          first | (go_region_held (fun W => W.cell? ⟨kf, 0, none⟩ = some (.int .i64 0) ∧ W.cell? ⟨kf, 1, none⟩ = some (.int .i64 1000))
              (first | exact HKz.out _ _ _ _ HSe.out | exact HKz.out _ _ _ _ HS9.out | exact HKz.out _ _ _ _ HS8.out | fail)
              (first
                | (go_at_call 12; (with_reducible refine (HBy.out _).mono ?_); rintro e Wf ⟨g8, rfl, hg, -, hb⟩; have HG8 := Lib.hid hg; have HS8 := Lib.hid (HSe.out.later hb); clear hg hb)
                | (go_at_call 23; (with_reducible refine (HP3.out _ _ HS8.out HG8.out).mono ?_); rintro e Wg ⟨rfl, hS⟩; have HS9 := Lib.hid hS; clear hS)
                | fail)) | fail
          all_goals
            rename_i hHeld
            clear hHeld HSe HS8 HG8 HP3 HBy HWg
            obtain ⟨-, -, q3, q4⟩ := HKy.out _ _ _ _ HS9.out
            have HGd := Lib.hid (HG2.out _ HS9.out)
            clear HS9 HG2
            go_wp2_with fail
            refine HGd.out.mono ?_
            rintro e W10 ⟨rfl, hS⟩
            have HS10 := Lib.hid hS
            have HLc := Lib.hid (HLn.out _ _ _ _ hS)
            have hrr : ((r : Int) == (r : Int)) = true := by simp
            clear q3 q4 hS HGd HLn
            go_wp2_with fail
            refine HLc.out.mono ?_
            rintro e W11 ⟨rfl, rfl⟩
            clear HLc
            go_wp2_with fail
            go_ret
            exact ⟨rfl, HS10.out.below⟩
theorem cacheFull_walk (a b : Int) (pin : Bool) (w : World) (_ : (Lit.int .i64 a).wf = true) (_ : (Lit.int .i64 b).wf = true) :
    Calls Try.prog 6 #[.int .i64 a, .int .i64 b, .bool pin] w fun e w' => e = .returned (.bool true) ∧ Below w.heap.size w w' := cacheFull_any a b pin w
end Go.Proofs.Ytdnkeplmjimjcaa
