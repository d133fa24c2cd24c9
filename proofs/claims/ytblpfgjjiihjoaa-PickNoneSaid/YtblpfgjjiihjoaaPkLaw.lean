/-
  The statements' own helpers: ref, same, awake.
-/
import Derived.Test.YtblpfgjjiihjoaaPkRefBest
import Derived.DeepKeys
namespace Go.Proofs.Ytblpfgjjiihjoaa
open Go.RowKit

section
variable {w w' : World} {a : Option Addr} {l : List Cd} {n cap : Nat}
def RfI (w : World) (a : Option Addr) (l : List Cd) (n : Nat) (v i : Value) (wr : World) : Prop :=
  ∃ k x cp, k ≤ n ∧ i = .int .i64 ((k : Nat) : Int) ∧ v = .slice x k cp ∧ wr.ownsRow w.heap.size RCD 4 (.slice x k cp) k (cellsI (flatC (l.take k))) ∧ CkR w a l wr
def RfOut (l : List Cd) (n : Nat) (w : World) (e : Ending) (w' : World) : Prop :=
  ∃ x cp, e = .returned (.slice x n cp) ∧ w'.ownsRow w.heap.size RCD 4 (.slice x n cp) n (cellsI (flatC l)) ∧ Below w.heap.size w w'
set_option maxHeartbeats 4000000 in
theorem ref_any (hC : Cds w a l) (hn : n = l.length) (hmx : n ≤ 1000) :
    Calls Try.prog 12 #[.slice a n cap] w (RfOut l n w) := by
  have HS0 := Lib.hid (show CkR w a l w from ⟨hC, Below.refl _ _⟩)
  have HN := Lib.hid hn
  have HC := Lib.hid hC
  clear hC hn
  go_enter Try.func12, Try.ntmps12
  go_wp2_with fail
  go_loopw [3, 8] (fun v i wr => RfI w a l n v i wr) (fun _ i _ => n - (intOf i).toNat)
  case atStart => exact ⟨0, none, 0, Nat.zero_le _, rfl, rfl, World.ownsRow_nil _ _ _ _, HS0.out⟩
  case round =>
    clear HS0
    obtain ⟨k, x, cp, hk, rfl, rfl, hO, hR⟩ := hrel
    have HR := Lib.hid hR
    have HO := Lib.hid hO
    clear hR hO
    by_cases hlt : k < n
    · have hkl : k < l.length := by rw [← HN.out]; exact hlt
      obtain ⟨b, o, rfl, q1, q2, q3, q4⟩ := HR.out.list.at hkl
      have hsn := take_snocC l k hkl
      obtain ⟨c, hc⟩ : ∃ c, l.getD k c0 = c := ⟨_, rfl⟩
      rw [hc] at q1 q2 q3 q4 hsn
      have HSn := Lib.hid hsn
      have hb1 := sup_pk wr (.cells #[.int .i64 c.seg, .int .i64 c.live, .int .i64 c.cap, .int .i64 c.age] CD)
      have HR1 := Lib.hid (HR.out.later hb1)
      have HO1 := Lib.hid (own_later HO.out hb1)
      have HX := Lib.hid (blo_laid wr CD #[.int .i64 c.seg, .int .i64 c.live, .int .i64 c.cap, .int .i64 c.age])
      have hsz := HR.out.below.size
      clear hkl hsn hc hb1 HR HO
      go_upto_region 5 with (fail)
      generalize (wr.alloc (.cells #[.int .i64 c.seg, .int .i64 c.live, .int .i64 c.cap, .int .i64 c.age] CD)) = w1 at *
      generalize wr.heap.size = gx at *
      have s0 := HX.out.cell 0
      have s1 := HX.out.cell 1
      have s2 := HX.out.cell 2
      have s3 := HX.out.cell 3
      simp at s0 s1 s2 s3
      have HO2 := Lib.hid (own_later HO1.out (sup_pk w1 (.cells #[.int .i64 c.seg, .int .i64 c.live, .int .i64 c.cap, .int .i64 c.age] RCD)))
      have hs1 : w.heap.size ≤ w1.heap.size := HR1.out.below.size
      go_wp2_with (at_builtin; refine wp_append_cds rfl (.tmp 12) (.tmp 22) SRC rfl w.heap.size RCD Try.underlying27 info_rcd (.slice x k cp) k (l.take k) rfl HO2.out (some ⟨w1.heap.size, 0, none⟩) 1 1 [c] rfl rfl (Cds.one w1 c RCD) (fun h => by cases h) (by omega) (by simp; omega) ?_; intro a2 cp2 w5 hown hgrow; have HO5 := Lib.hid hown; have HB5 := Lib.hid ((HR1.out.below.trans ((sup_pk w1 (.cells #[.int .i64 c.seg, .int .i64 c.live, .int .i64 c.cap, .int .i64 c.age] RCD)).mono hs1)).grown hgrow (by simp; omega) (fun q hq => own_ge HO1.out hq)); clear hown hgrow)
      have HL5 : Hid (CkR w (some ⟨b, o, none⟩) l w5) := ⟨HC.out.below HB5.out, HB5.out⟩
      go_roundw
      case rel => exact ⟨k + 1, a2, cp2, by omega, by simp, rfl, by rw [HSn.out]; exact HO5.out, HL5.out⟩
      case measure => simp [intOf]; omega
    · have hkn : k = n := by omega
      have htk : l.take n = l := by rw [HN.out]; exact List.take_length
      subst hkn
      rw [htk] at HO
      clear htk
      go_wp2
      go_ret
      exact ⟨x, cp, rfl, HO.out, HR.out.below⟩

def FitZ (x : Int) : Prop := -9223372036854775808 ≤ x ∧ x ≤ 9223372036854775807
def FitC (c : Cd) : Prop := FitZ c.seg ∧ FitZ c.live ∧ FitZ c.cap ∧ FitZ c.age
def FitL (l : List Cd) : Prop := ∀ c ∈ l, FitC c
theorem FitL.at (h : FitL l) {j : Nat} (hj : j < l.length) : FitC (l.getD j c0) := by
  rw [List.getD_eq_getElem?_getD, List.getElem?_eq_getElem hj]
  exact h _ (List.getElem_mem _)
theorem cells_int : Try.prog.cellsOf 3 = 1 := by kernel_rfl
theorem cells_cd : Try.prog.cellsOf CD = 4 := by kernel_rfl
theorem cells_rcd : Try.prog.cellsOf RCD = 4 := by kernel_rfl
theorem key_cd : Try.prog.keyTypeAt 4 CD = true := by kernel_rfl
theorem key_rcd : Try.prog.keyTypeAt 4 RCD = true := by kernel_rfl
theorem wf_i64 (a : Int) (h : FitZ a) : (Lit.int .i64 a).wf = true := by
  unfold FitZ at h
  simp [Lit.wf, IntKind.min, IntKind.max, IntKind.signed, IntKind.bits]; omega
theorem cd_lits (c : Cd) (h : FitC c) : Try.prog.keyLits 4 CD (cdv c).toList = some [.int .i64 c.seg, .int .i64 c.live, .int .i64 c.cap, .int .i64 c.age] := by
  obtain ⟨h1, h2, h3, h4⟩ := h
  have wa := wf_i64 _ h1
  have wb := wf_i64 _ h2
  have wc := wf_i64 _ h3
  have wd := wf_i64 _ h4
  simp [cdv, Program.keyLits, Try.underlying35, Try.underlying3, cells_int, cells_cd, List.range, List.range.loop, wa, wb, wc, wd]
theorem rcd_lits (c : Cd) (h : FitC c) : Try.prog.keyLits 4 RCD (cdv c).toList = some [.int .i64 c.seg, .int .i64 c.live, .int .i64 c.cap, .int .i64 c.age] := by
  obtain ⟨h1, h2, h3, h4⟩ := h
  have wa := wf_i64 _ h1
  have wb := wf_i64 _ h2
  have wc := wf_i64 _ h3
  have wd := wf_i64 _ h4
  simp [cdv, Program.keyLits, Try.underlying39, Try.underlying3, cells_int, cells_rcd, List.range, List.range.loop, wa, wb, wc, wd]
theorem cd_ext {c d : Cd} : c = d ↔ c.seg = d.seg ∧ c.live = d.live ∧ c.cap = d.cap ∧ c.age = d.age := by
  obtain ⟨a1, a2, a3, a4⟩ := c
  obtain ⟨b1, b2, b3, b4⟩ := d
  simp
theorem eql_cd (c d : Cd) (hc : FitC c) (hd : FitC d) (W : World) : ∃ r : Bool, (binOp .eql CD (.agg (cdv c)) (.agg (cdv d))).run Try.prog W = .ok (.bool r) W ∧ (r = true ↔ c = d) := by
  obtain ⟨r, hr, hiff⟩ := run_equalIn_deep (P := Try.prog) 9996 4 CD key_cd W 4 4 (.agg (cdv c)) (.agg (cdv d)) _ _ (by simp [Value.formed, Try.underlying35, cells_cd, cdv]) (by simp [Value.formed, Try.underlying35, cells_cd, cdv]) (cd_lits c hc) (cd_lits d hd)
  refine ⟨r, ?_, ?_⟩
  · rw [run_eql_struct, hr]; rfl
  · rw [hiff, cd_ext]; simp
theorem neq_rcd (c d : Cd) (hc : FitC c) (hd : FitC d) (W : World) : ∃ r : Bool, (binOp .neq RCD (.agg (cdv c)) (.agg (cdv d))).run Try.prog W = .ok (.bool (!r)) W ∧ (r = true ↔ c = d) := by
  obtain ⟨r, hr, hiff⟩ := run_equalIn_deep (P := Try.prog) 9996 4 RCD key_rcd W 4 4 (.agg (cdv c)) (.agg (cdv d)) _ _ (by simp [Value.formed, Try.underlying39, cells_rcd, cdv]) (by simp [Value.formed, Try.underlying39, cells_rcd, cdv]) (rcd_lits c hc) (rcd_lits d hd)
  refine ⟨r, ?_, ?_⟩
  · rw [run_neq_struct, hr]; rfl
  · rw [hiff, cd_ext]; simp
theorem list_ext0 {m : List Cd} (h1 : l.length = m.length) (h2 : ∀ j, j < l.length → l.getD j c0 = m.getD j c0) : l = m := by
  apply List.ext_getElem h1
  intro i a b
  have := h2 i a
  rwa [List.getD_eq_getElem?_getD, List.getD_eq_getElem?_getD, List.getElem?_eq_getElem a, List.getElem?_eq_getElem b] at this
structure SmR (w : World) (x : Option Addr) (l : List Cd) (b : Option Addr) (m : List Cd) (wr : World) : Prop where
  l1 : Cds wr x l
  l2 : Cds wr b m
  below : Below w.heap.size w wr
theorem SmR.later {x b : Option Addr} {m : List Cd} {wr : World} (h : SmR w x l b m wr) (hb : Below wr.heap.size wr w') : SmR w x l b m w' := ⟨h.l1.below hb, h.l2.below hb, h.below.trans (hb.mono h.below.size)⟩
def SmI (w : World) (x : Option Addr) (l : List Cd) (b : Option Addr) (m : List Cd) (n : Nat) (i : Value) (wr : World) : Prop :=
  ∃ k : Nat, k ≤ n ∧ i = .int .i64 k ∧ (∀ j, j < k → l.getD j c0 = m.getD j c0) ∧ SmR w x l b m wr
def SmIs (r : Bool) (l m : List Cd) : Prop := r = true ↔ l = m
def SmOut (l m : List Cd) (w : World) (e : Ending) (w' : World) : Prop := ∃ r : Bool, SmIs r l m ∧ e = .returned (.bool r) ∧ Below w.heap.size w w'
set_option maxHeartbeats 4000000 in
theorem same_any {b : Option Addr} {m : List Cd} {k cb : Nat} (hC : Cds w a l) (hn : n = l.length) (hmx : n ≤ 1000) (hD : Cds w b m) (hk : k = m.length) (hmk : k ≤ 1000) (hf : FitL l) (hg : FitL m) :
    Calls Try.prog 13 #[.slice a n cap, .slice b k cb] w (SmOut l m w) := by
  have HRf := Lib.hid (ref_any (cap := cap) hC hn hmx)
  have HD := Lib.hid hD
  have HN := Lib.hid hn
  have HK := Lib.hid hk
  have HF := Lib.hid hf
  have HG := Lib.hid hg
  clear hC hn hD hk hf hg
  go_enter Try.func13, Try.ntmps13
  go_wp2_with fail
  refine HRf.out.mono ?_
  rintro e w1 ⟨x, cp, rfl, hO, hb1⟩
  have HS0 : Hid (SmR w x l b m w1) := ⟨Cds.own hO, HD.out.below hb1, hb1⟩
  clear hO hb1 HRf
  by_cases hnk : n = k
  · have t0 : ((n : Int) != (k : Int)) = false := by simp [hnk]
    have HNK := Lib.hid hnk
    clear hnk
    go_wp2_with fail
    go_loopw [16] (fun i wr => SmI w x l b m n i wr) (fun i _ => n - (intOf i).toNat)
    case atStart => exact ⟨0, Nat.zero_le _, rfl, fun j hj => by omega, HS0.out⟩
    case round =>
      clear HS0
      obtain ⟨q, hq, rfl, hall, hR⟩ := hrel
      have HR := Lib.hid hR
      have HAll := Lib.hid hall
      clear hR hall
      by_cases hlt : q < n
      · have hql : q < l.length := by rw [← HN.out]; exact hlt
        have hqm : q < m.length := by rw [← HK.out, ← HNK.out]; exact hlt
        obtain ⟨b1, o1, rfl, x0, x1, x2, x3⟩ := HR.out.l1.at hql
        obtain ⟨b2, o2, rfl, y0, y1, y2, y3⟩ := HR.out.l2.at hqm
        have hfc := HF.out.at hql
        have hgc := HG.out.at hqm
        obtain ⟨c, hc⟩ : ∃ c, l.getD q c0 = c := ⟨_, rfl⟩
        obtain ⟨d, hd⟩ : ∃ d, m.getD q c0 = d := ⟨_, rfl⟩
        rw [hc] at x0 x1 x2 x3 hfc
        rw [hd] at y0 y1 y2 y3 hgc
        have HCD : Hid (l.getD q c0 = m.getD q c0 ↔ c = d) := by show _ ↔ _; rw [hc, hd]
        obtain ⟨r, hr⟩ : ∃ r : Bool, ∀ W, (binOp .neq RCD (.agg (cdv c)) (.agg (cdv d))).run Try.prog W = .ok (.bool (!r)) W ∧ (r = true ↔ c = d) := by
          obtain ⟨r, h1, h2⟩ := neq_rcd c d hfc hgc w
          refine ⟨r, fun W => ?_⟩
          obtain ⟨r', h3, h4⟩ := neq_rcd c d hfc hgc W
          have : r' = r := by
            cases r <;> cases r' <;> simp_all
          subst this
          exact ⟨h3, h4⟩
        have hneq := fun W => (hr W).1
        have HIff := Lib.hid ((hr w).2)
        unfold cdv at hneq
        have j1 : (0 : Int) ≤ (q : Int) := by omega
        have j2 : (q : Int) < (n : Int) := by omega
        have j3 : (q : Int) < (k : Int) := by have := HNK.out; omega
        clear hr hc hd hfc hgc hql hqm
        cases r with
        | true =>
          have HAll2 : Hid (∀ j, j < q + 1 → l.getD j c0 = m.getD j c0) := fun j hj => by
            by_cases e : j = q
            · subst e; exact HCD.out.2 (HIff.out.1 rfl)
            · exact HAll.out j (by omega)
          simp only [Bool.not_true] at hneq
          go_wp2_with fail
          go_quiet (fail)
          have HR2 : Hid (SmR w _ l _ m (wr.drewN nq)) := HR.out.later (below_drewN (Below.refl _ _) nq)
          clear HR x0 x1 x2 x3 y0 y1 y2 y3 hneq
          generalize wr.drewN nq = wy at *
          go_wp2_with fail
          go_roundw
          case rel => exact ⟨q + 1, by omega, by simp, HAll2.out, HR2.out⟩
          case measure => simp [intOf]; omega
        | false =>
          have HNo : Hid (SmIs false l m) := ⟨(fun h => by cases h), fun h => by
            have := HIff.out.2 (HCD.out.1 (by rw [h]))
            cases this⟩
          simp only [Bool.not_false] at hneq
          go_wp2_with fail
          go_quiet (fail)
          have HR2 : Hid (SmR w _ l _ m (wr.drewN nq)) := HR.out.later (below_drewN (Below.refl _ _) nq)
          clear HR x0 x1 x2 x3 y0 y1 y2 y3 hneq
          generalize wr.drewN nq = wy at *
          go_wp2_with fail
          go_ret
          exact ⟨false, HNo.out, rfl, HR2.out.below⟩
      · have hqn : q = n := by omega
        have HYes : Hid (SmIs true l m) := ⟨fun _ => list_ext0 (by rw [← HN.out, ← HK.out]; exact HNK.out) (fun j hj => HAll.out j (by rw [hqn, HN.out]; exact hj)), fun _ => rfl⟩
        clear hqn
        go_wp2
        go_ret
        exact ⟨true, HYes.out, rfl, HR.out.below⟩
  · have t0 : ((n : Int) != (k : Int)) = true := by simp; omega
    have HNo : Hid (SmIs false l m) := ⟨(fun h => by cases h), fun h => absurd (by rw [HN.out, HK.out, h]) hnk⟩
    clear hnk
    go_wp2_with fail
    go_ret
    exact ⟨false, HNo.out, rfl, HS0.out.below⟩
end
end Go.Proofs.Ytblpfgjjiihjoaa
