/-
  Check, ranking, the closure of Until.
-/
import Derived.Test.YtblpfgjjiihjoaaPkRow
namespace Go.Proofs.Ytblpfgjjiihjoaa
open Go.RowKit

section
variable {w w' : World} {a : Option Addr} {l : List Cd} {n cap : Nat}
structure CkR (w : World) (a : Option Addr) (l : List Cd) (wr : World) : Prop where
  list : Cds wr a l
  below : Below w.heap.size w wr
theorem CkR.later {w wr w' : World} (h : CkR w a l wr) (hb : Below wr.heap.size wr w') : CkR w a l w' := ⟨h.list.below hb, h.below.trans (hb.mono h.below.size)⟩
def CkI (w : World) (a : Option Addr) (l : List Cd) (n : Nat) (i : Value) (wr : World) : Prop :=
  ∃ k : Nat, k ≤ n ∧ i = .int .i64 k ∧ (∀ j, j < k → GoodC (l.getD j c0)) ∧ CkR w a l wr
def CheckIs (l : List Cd) (z : Int) : Prop := (l.length ≤ 512 ∧ GoodL l ∧ z = 0) ∨ (¬ (l.length ≤ 512 ∧ GoodL l) ∧ z = 22)
def CkOut (l : List Cd) (w : World) (e : Ending) (w' : World) : Prop := ∃ z, CheckIs l z ∧ e = .returned (.int .i64 z) ∧ Below w.heap.size w w'
theorem goodL_of (h : ∀ j, j < l.length → GoodC (l.getD j c0)) : GoodL l := fun c hc => by
  obtain ⟨i, hi, rfl⟩ := List.mem_iff_getElem.1 hc
  have := h i hi
  rw [List.getD_eq_getElem?_getD, List.getElem?_eq_getElem hi] at this
  exact this
theorem GoodL.at (h : GoodL l) {j : Nat} (hj : j < l.length) : GoodC (l.getD j c0) := by
  rw [List.getD_eq_getElem?_getD, List.getElem?_eq_getElem hj]
  exact h _ (List.getElem_mem _)
set_option maxHeartbeats 4000000 in
theorem check_any (hC : Cds w a l) (hn : n = l.length) (hmx : n ≤ 9223372036854775807) :
    Calls Try.prog 14 #[.slice a n cap] w (CkOut l w) := by
  have HR := Lib.hid (show CkR w a l w from ⟨hC, Below.refl _ _⟩)
  have HN := Lib.hid hn
  clear hC hn
  by_cases h512 : n ≤ 512
  · have h513 : ¬ (512 : Int) < (n : Int) := by omega
    go_enter Try.func14, Try.ntmps14
    go_wp2_with fail
    go_loopw [10] (fun i wr => CkI w a l n i wr) (fun i _ => n - (intOf i).toNat)
    case atStart => exact ⟨0, Nat.zero_le _, rfl, fun j hj => by omega, HR.out⟩
    case round =>
      clear HR
      obtain ⟨k, hk, rfl, hg, hR⟩ := hrel
      have HR := Lib.hid hR
      have HG := Lib.hid hg
      clear hR hg
      by_cases hlt : k < n
      · have hkl : k < l.length := by rw [← HN.out]; exact hlt
        obtain ⟨b, o, rfl, q1, q2, q3, q4⟩ := HR.out.list.at hkl
        obtain ⟨c, hc⟩ : ∃ c, l.getD k c0 = c := ⟨_, rfl⟩
        rw [hc] at q1 q2 q3 q4
        have HCk := Lib.hid hc
        clear hc
        have HOk := Lib.hid (fun W => ok_any c.seg c.live c.cap c.age W)
        have HR1 := Lib.hid (HR.out.later (sup_pk wr (.cells #[.int .i64 c.seg, .int .i64 c.live, .int .i64 c.cap, .int .i64 c.age] CD)))
        clear HR hkl
        cases hok : okB c.seg c.live c.cap c.age with
        | true =>
          have HK : Hid (GoodC c) := (okB_good c).1 hok
          rw [hok] at HOk
          clear hok
          go_wp2_with fail
          refine (HOk.out _).mono ?_
          rintro e w5 ⟨rfl, hb⟩
          have HR5 := Lib.hid (HR1.out.later hb)
          clear hb HOk HR1 q1 q2 q3 q4
          go_wp2_with fail
          go_roundw
          case rel =>
            refine ⟨k + 1, by omega, by simp, fun j hj => ?_, HR5.out⟩
            by_cases e : j = k
            · subst e; rw [HCk.out]; exact HK.out
            · exact HG.out j (by omega)
          case measure => simp [intOf]; omega
        | false =>
          have HK : Hid (¬ GoodC c) := fun q => by rw [(okB_good c).2 q] at hok; cases hok
          rw [hok] at HOk
          clear hok
          go_wp2_with fail
          refine (HOk.out _).mono ?_
          rintro e w5 ⟨rfl, hb⟩
          have HR5 := Lib.hid (HR1.out.later hb)
          clear hb HOk HR1 q1 q2 q3 q4
          go_wp2_with fail
          have hbad : CheckIs l 22 := .inr ⟨fun q => HK.out (by rw [← HCk.out]; exact q.2.at (by rw [← HN.out]; exact hlt)), rfl⟩
          have HBad := Lib.hid hbad
          clear hbad
          go_ret
          exact ⟨22, HBad.out, rfl, HR5.out.below⟩
      · have hkn : k = n := by omega
        have HGood : Hid (CheckIs l 0) := .inl ⟨by rw [← HN.out]; exact h512, goodL_of (fun j hj => HG.out j (by rw [hkn, HN.out]; exact hj)), rfl⟩
        clear hkn
        go_wp2
        go_ret
        exact ⟨0, HGood.out, rfl, HR.out.below⟩
  · have h513 : (512 : Int) < (n : Int) := by omega
    have HBad : Hid (CheckIs l 22) := .inr ⟨fun q => h512 (by rw [HN.out]; exact q.1), rfl⟩
    go_enter Try.func14, Try.ntmps14
    go_wp2
    go_ret
    exact ⟨22, HBad.out, rfl, HR.out.below⟩

theorem made5 (n : Nat) : (madeCells #[.int .i64 0, .int .i64 0, .int .i64 0, .int .i64 0, .int .i64 0] (n * 5)).size = n * 5 := by simp [madeCells]
theorem info_rk : (Try.prog.info? RK).map (fun i => (i.zero, i.size, i.bytes)) = some (some (.agg #[.int .i64 0, .int .i64 0, .int .i64 0, .int .i64 0, .int .i64 0]), 5, 40) := by kernel_rfl
theorem run_make_rk (w : World) (n : Nat) (hn : n ≤ 512) :
    (Instr.makeSlice 53 (.int .i64 n) (.int .i64 n)).run Try.prog w = .ok (.slice (some ⟨w.heap.size, 0, none⟩) n n) (w.alloc (.cells (madeCells #[.int .i64 0, .int .i64 0, .int .i64 0, .int .i64 0, .int .i64 0] (n * 5)) RK)) := by
  obtain ⟨i, hi0, hz, hs1, hb1⟩ := info_parts info_rk
  have hr := run_make (P := Try.prog) w 53 RK i _ Try.underlying53 hi0 hz .i64 .i64 n n (by omega) (Int.le_refl _) (by rw [hb1]; omega) (by omega)
  simp only [Int.toNat_natCast] at hr
  rw [hr, hs1]
  rfl
/-- A row of m places whose first k are told. -/
structure Raw (w : World) (gr m k : Nat) (h : Nat → Rk) : Prop where
  row : ∃ cs, Blo w gr RK cs ∧ cs.size = m * 5 ∧ ∀ i, i < k → cs[i * 5]? = some (.int .i64 (h i).c.seg) ∧ cs[i * 5 + 1]? = some (.int .i64 (h i).c.live) ∧ cs[i * 5 + 2]? = some (.int .i64 (h i).c.cap) ∧ cs[i * 5 + 3]? = some (.int .i64 (h i).c.age) ∧ cs[i * 5 + 4]? = some (.int .i64 (h i).at_)
theorem Raw.later {gr m k : Nat} {h : Nat → Rk} (hR : Raw w gr m k h) (hb : Below w.heap.size w w') : Raw w' gr m k h := by
  obtain ⟨cs, h1, h2, h3⟩ := hR.row
  exact ⟨cs, h1.later hb, h2, h3⟩
theorem Raw.frozen {gr m k : Nat} {h : Nat → Rk} (hR : Raw w gr m k h) (j : Nat) : w.frozen? ⟨gr, j, none⟩ = false := by
  obtain ⟨cs, h1, h2, h3⟩ := hR.row
  exact h1.frozen j
theorem Raw.some {gr m k : Nat} {h : Nat → Rk} (hR : Raw w gr m k h) {j : Nat} (hj : j < m * 5) : ∃ v, w.cell? ⟨gr, j, none⟩ = Option.some v := by
  obtain ⟨cs, h1, h2, h3⟩ := hR.row
  exact ⟨cs[j]'(by omega), by rw [h1.cell j, Array.getElem?_eq_getElem (by omega)]⟩
theorem arr_put (cs : Array Value) (a b : Nat) (v : Value) : (cs.setIfInBounds a v)[b]? = if a = b then (if a < cs.size then some v else none) else cs[b]? := by
  rw [Array.getElem?_setIfInBounds]
theorem Raw.set {gr m k : Nat} {h : Nat → Rk} (hR : Raw w gr m k h) (hk : k < m) : Raw (setR w gr k (h k)) gr m (k + 1) h := by
  obtain ⟨cs, h1, h2, h3⟩ := hR.row
  refine ⟨_, ((((h1.put (k * 5) (.int .i64 (h k).c.seg)).put (k * 5 + 1) (.int .i64 (h k).c.live)).put (k * 5 + 2) (.int .i64 (h k).c.cap)).put (k * 5 + 3) (.int .i64 (h k).c.age)).put (k * 5 + 4) (.int .i64 (h k).at_), by simp [h2], fun i hi => ?_⟩
  simp only [arr_put, Array.size_setIfInBounds]
  by_cases e : i = k
  · subst e
    simp [h2, show i * 5 < m * 5 by omega, show i * 5 + 1 < m * 5 by omega, show i * 5 + 2 < m * 5 by omega, show i * 5 + 3 < m * 5 by omega, show i * 5 + 4 < m * 5 by omega]
  · obtain ⟨a, b, c, d, f⟩ := h3 i (by omega)
    rw [if_neg (by omega), if_neg (by omega), if_neg (by omega), if_neg (by omega), if_neg (by omega), if_neg (by omega), if_neg (by omega), if_neg (by omega), if_neg (by omega), if_neg (by omega), if_neg (by omega), if_neg (by omega), if_neg (by omega), if_neg (by omega), if_neg (by omega), if_neg (by omega), if_neg (by omega), if_neg (by omega), if_neg (by omega), if_neg (by omega), if_neg (by omega), if_neg (by omega), if_neg (by omega), if_neg (by omega), if_neg (by omega)]
    exact ⟨a, b, c, d, f⟩
theorem Raw.od {gr m : Nat} {h : Nat → Rk} (hR : Raw w gr m m h) (hg : ∀ i, i < m → GoodC (h i).c) : Od w gr m h := by
  obtain ⟨cs, h1, h2, h3⟩ := hR.row
  exact ⟨⟨cs, h1, h3⟩, hg⟩
def rkAt (l : List Cd) (i : Nat) : Rk := ⟨l.getD i c0, i⟩
abbrev OT := 53
structure RnR (w : World) (l : List Cd) (n gr po k : Nat) (wr : World) : Prop where
  raw : Raw wr gr n k (rkAt l)
  var : Blo wr po OT #[.slice (some ⟨gr, 0, none⟩) n n]
  below : Below w.heap.size w wr
theorem RnR.later {gr po k : Nat} {wr : World} (h : RnR w l n gr po k wr) (hb : Below wr.heap.size wr w') : RnR w l n gr po k w' := ⟨h.raw.later hb, h.var.later hb, h.below.trans (hb.mono h.below.size)⟩
def RnI (w : World) (l : List Cd) (n gr po : Nat) (i : Value) (wr : World) : Prop :=
  ∃ k : Nat, k ≤ n ∧ i = .int .i64 k ∧ RnR w l n gr po k wr
theorem RnR.start : RnR w l n w.heap.size (w.heap.size + 1) 0 ((w.alloc (.cells (madeCells #[.int .i64 0, .int .i64 0, .int .i64 0, .int .i64 0, .int .i64 0] (n * 5)) RK)).alloc (.cells #[.slice (some ⟨w.heap.size, 0, none⟩) n n] OT)) := by
  have hb : Below w.heap.size w ((w.alloc (.cells (madeCells #[.int .i64 0, .int .i64 0, .int .i64 0, .int .i64 0, .int .i64 0] (n * 5)) RK)).alloc (.cells #[.slice (some ⟨w.heap.size, 0, none⟩) n n] OT)) := ((Below.refl _ _).alloc (Nat.le_refl _) _).alloc (by simp) _
  refine ⟨⟨_, (blo_laid w RK _).alloc _, made5 n, fun i hi => by omega⟩, ?_, hb⟩
  have := blo_laid (w.alloc (.cells (madeCells #[.int .i64 0, .int .i64 0, .int .i64 0, .int .i64 0, .int .i64 0] (n * 5)) RK)) OT #[.slice (some ⟨w.heap.size, 0, none⟩) n n]
  simpa using this
theorem RnR.next {gr po k : Nat} {wr : World} (h : RnR w l n gr po k wr) (hk : k < n) (hne : po ≠ gr) (hg : w.heap.size ≤ gr) : RnR w l n gr po (k + 1) (setR wr gr k (rkAt l k)) :=
  ⟨h.raw.set hk, setR_fr (w := wr) (gr := gr) (w0 := wr) (fun _ _ _ _ hx => hx) k (rkAt l k) _ _ _ hne h.var, setR_below (h.below) hg k (rkAt l k)⟩
theorem Raw.lt {gr m k : Nat} {h : Nat → Rk} (hR : Raw w gr m k h) : gr < w.heap.size := by
  obtain ⟨cs, h1, h2, h3⟩ := hR.row
  exact h1.lt
def RankOut (l : List Cd) (n : Nat) (w : World) (e : Ending) (w' : World) : Prop :=
  ∃ po gr h', e = .returned (.pointer (some ⟨po, 0, none⟩)) ∧ Holds n h' (ordR (rks l)) ∧ Hp w' po gr n n OT h' ∧ w.heap.size ≤ po ∧ w.heap.size ≤ gr ∧ Below w.heap.size w w'
set_option maxHeartbeats 4000000 in
theorem rank_any (hC : Cds w a l) (hn : n = l.length) (hmx : n ≤ 512) (hg : GoodL l) :
    Calls Try.prog 26 #[.slice a n cap] w (RankOut l n w) := by
  have HC := Lib.hid hC
  have HN := Lib.hid hn
  have HG := Lib.hid hg
  have HS0 := Lib.hid (RnR.start (w := w) (l := l) (n := n))
  have hmk := run_make_rk w n hmx
  clear hC hn hg
  go_enter Try.func26, Try.ntmps26
  go_wp2_with fail
  generalize ((w.alloc (.cells (madeCells #[.int .i64 0, .int .i64 0, .int .i64 0, .int .i64 0, .int .i64 0] (n * 5)) RK)).alloc (.cells #[.slice (some ⟨w.heap.size, 0, none⟩) n n] OT)) = w1 at *
  clear hmk
  obtain ⟨gr, hgr⟩ : ∃ g, w.heap.size = g := ⟨_, rfl⟩
  rw [hgr] at HS0
  obtain ⟨po, hpo⟩ : ∃ p, gr + 1 = p := ⟨_, rfl⟩
  rw [hpo] at HS0
  simp only [hgr, hpo]
  have HGR := Lib.hid hgr
  have HPO := Lib.hid hpo
  clear hgr hpo
  go_loopw [11] (fun i wr => RnI w l n gr po i wr) (fun i _ => n - (intOf i).toNat)
  case atStart => exact ⟨0, Nat.zero_le _, rfl, HS0.out⟩
  case round =>
    clear HS0
    obtain ⟨k, hk, rfl, hR⟩ := hrel
    by_cases hlt : k < n
    · have hC1 := HC.out.below hR.below
      have hkl : k < l.length := by rw [← HN.out]; exact hlt
      obtain ⟨b, o, rfl, q1, q2, q3, q4⟩ := hC1.at hkl
      have v0 := hR.var.cell 0
      simp at v0
      have hb1 := sup_pk wr (.cells #[.int .i64 (l.getD k c0).seg, .int .i64 (l.getD k c0).live, .int .i64 (l.getD k c0).cap, .int .i64 (l.getD k c0).age] CD)
      have f0 := (hR.later hb1).raw.frozen (k * 5)
      have f1 := (hR.later hb1).raw.frozen (k * 5 + 1)
      have f2 := (hR.later hb1).raw.frozen (k * 5 + 2)
      have f3 := (hR.later hb1).raw.frozen (k * 5 + 3)
      have f4 := (hR.later hb1).raw.frozen (k * 5 + 4)
      have hl1 := hR.raw.lt
      have hl2 := hR.var.lt
      have hg1 : gr ≠ wr.heap.size := by omega
      have hg2 : po ≠ wr.heap.size := by omega
      have hne : po ≠ gr := by have := HPO.out; omega
      have v1 := (hR.later hb1).var.cell 0
      simp only [List.getElem?_toArray, List.getElem?_cons_zero] at v1
      obtain ⟨g0, y0⟩ := (hR.later hb1).raw.some (j := k * 5) (by omega)
      obtain ⟨g1, y1⟩ := (hR.later hb1).raw.some (j := k * 5 + 1) (by omega)
      obtain ⟨g2, y2⟩ := (hR.later hb1).raw.some (j := k * 5 + 2) (by omega)
      obtain ⟨g3, y3⟩ := (hR.later hb1).raw.some (j := k * 5 + 3) (by omega)
      obtain ⟨g4, y4⟩ := (hR.later hb1).raw.some (j := k * 5 + 4) (by omega)
      have HR1 := Lib.hid ((hR.later hb1).next hlt hne (by rw [HGR.out]; exact Nat.le_refl _))
      clear hR hC1 hkl hl1 hl2 hb1 hne
      unfold rkAt at HR1
      obtain ⟨c, hc⟩ : ∃ c, l.getD k c0 = c := ⟨_, rfl⟩
      rw [hc] at q1 q2 q3 q4
      simp only [hc] at HR1 v1 y0 y1 y2 y3 y4 f0 f1 f2 f3 f4
      clear hc
      go_wp2_with fail
      go_roundw
      case rel => exact ⟨k + 1, by omega, by simp, HR1.out⟩
      case measure => simp [intOf]; omega
    · have hkn : k = n := by omega
      subst hkn
      clear hlt
      have hH : Hp wr po gr k k OT (rkAt l) := ⟨hR.raw.od (fun i hi => HG.out.at (by rw [← HN.out]; exact hi)), hR.var, by have := HPO.out; omega⟩
      have HH := Lib.hid hH
      have HB := Lib.hid hR.below
      clear hH hR
      go_wp2_with fail
      refine (init_any (C := gr) HH.out hmx (Nat.le_refl _)).mono ?_
      rintro e w5 ⟨h', rfl, hI, hH5, hb5, hf5⟩
      have HH5 := Lib.hid hH5
      have HB5 : Hid (Below w.heap.size w w5) := by
        have := HB.out
        rw [← HGR.out] at hb5
        exact this.trans hb5
      have hhold : Holds k h' (ordR (rks l)) := by
        have := HN.out
        subst this
        exact ini_holds l (rkAt l) h' HG.out (fun i hi => rfl) hI
      have HHo := Lib.hid hhold
      clear hI hH5 hb5 hf5 hhold
      go_wp2
      go_ret
      exact ⟨_, gr, h', rfl, HHo.out, HH5.out, by rw [HGR.out, ← HPO.out]; omega, by rw [HGR.out]; exact Nat.le_refl _, HB5.out⟩
end
end Go.Proofs.Ytblpfgjjiihjoaa
