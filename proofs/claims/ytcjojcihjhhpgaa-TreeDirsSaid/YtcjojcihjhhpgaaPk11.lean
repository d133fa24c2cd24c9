/-
  walk tells all that is below a directory.
-/
import Derived.Test.YtcjojcihjhhpgaaPk10
namespace Go.Proofs.Ytcjojcihjhhpgaa
open Go.RowKit

structure WkS (w0 : World) (cnt : Nat) (T : Tr) (p : Pl) (g : Nat) (A : List ByteArray) (v0 : Value) (i : Nat) (pre : ByteArray) (r : Nat) (v : Value) (done : List ByteArray) (c : Nat) (Q : List TQ) (wr : World) : Prop where
  tr : TrM wr cnt T p
  wb : WB wr g (A ++ Q.map (·.2)) v
  wq : WQ T i pre done Q
  sr : ∃ k, SR wr (p.MB i) r k (fun s => (T.E i s).map p.B) done c
  out : Out (fun k => k = g ∨ v0.ownBlock = some k) w0 wr
  own : ∀ k, v.ownBlock = some k → v0.ownBlock = some k ∨ w0.heap.size ≤ k
  rl : w0.heap.size ≤ r
def WkR (w0 : World) (cnt : Nat) (T : Tr) (p : Pl) (g : Nat) (A : List ByteArray) (v0 : Value) (i : Nat) (pre : ByteArray) (r : Nat) (wr : World) : Prop := ∃ v done c Q, WkS w0 cnt T p g A v0 i pre r v done c Q wr
def WkO (w : World) (T : Tr) (g : Nat) (A : List ByteArray) (v : Value) (i : Nat) (pre : ByteArray) (e : Ending) (w' : World) : Prop :=
  e = .returned (.tuple #[]) ∧ ∃ (Q : List TQ) (v' : Value), WB w' g (A ++ Q.map (·.2)) v' ∧ (Q.map (·.1)).Nodup ∧ (∀ d s x, ((d, s), x) ∈ Q ↔ TP T i pre d s x) ∧ Out (fun k => k = g ∨ v.ownBlock = some k) w w' ∧ ∀ k, v'.ownBlock = some k → v.ownBlock = some k ∨ w.heap.size ≤ k
section
variable {T : Tr} {p : Pl} {cnt g : Nat} {w0 wr w2 w3 : World} {A : List ByteArray} {v0 v v' : Value} {i r c c' cc : Nat} {pre n : ByteArray} {done : List ByteArray} {Q Q' : List TQ}
/-- What the box and its row are not. -/
def Free (T : Tr) (p : Pl) (g : Nat) (v : Value) : Prop := ¬ XT T p g ∧ ∀ k, v.ownBlock = some k → ¬ XT T p k
theorem nmE_size14 {x : ByteArray} (h : nmE x = 0) : x.size ≤ 14 := by
  rcases Nat.lt_or_ge 14 x.size with h1 | h1
  · rw [nmE_long h1] at h; exact absurd h (by decide)
  · exact h1
theorem SR.out {w w' : World} {g r n cnt : Nat} {f : ByteArray → Option Nat} {done : List ByteArray} {X : Nat → Prop} (h : SR w g r n f done cnt) (ho : Out X w w') (h1 : ¬ X g) (h2 : ¬ X r) : SR w' g r n f done cnt := by
  obtain ⟨D, left, q1, q2⟩ := h
  have l1 := q1.owns.lt
  have l2 := q1.lt
  obtain ⟨es, clock, since, seen, c0, hb, F, hs, hD, hr, rest⟩ := q1
  exact ⟨D, left, ⟨es, clock, since, seen, c0, (ho.block g l1 h1).trans hb, F, hs, hD, (ho.block r l2 h2).trans hr, rest⟩, q2⟩
theorem WkS.free (h : WkS w0 cnt T p g A v0 i pre r v done c Q wr) (h0 : TrM w0 cnt T p) (hf : Free T p g v0) : Free T p g v :=
  ⟨hf.1, fun k hk hx => by
    rcases h.own k hk with q | q
    · exact hf.2 k q hx
    · have := h0.lt hx
      omega⟩
/-- Behind a step of the range. -/
theorem WkS.step (h : WkS w0 cnt T p g A v0 i pre r v done c Q wr) (h0 : TrM w0 cnt T p) (hg : wr.grownBy w2 (some r)) :
    TrM w2 cnt T p ∧ WB w2 g (A ++ Q.map (·.2)) v ∧ Out (fun k => k = g ∨ v0.ownBlock = some k) w0 w2 := by
  obtain ⟨k0, hsr⟩ := h.sr
  have ho : Out (fun k => k = r) wr w2 := Out.of_grown hg (fun k e => by cases e; rfl)
  refine ⟨h.tr.out ho (fun k hx e => ?_), h.wb.out ho (fun e => hsr.blo h.wb.box e.symm) (fun k hk e => ?_), h.out.trans ho (fun k hk e => ?_)⟩
  · have := h0.lt hx
    have := h.rl
    omega
  · obtain ⟨cs, hb⟩ := h.wb.row hk
    exact hsr.blo hb e.symm
  · have := h.rl
    omega
/-- Behind what was told. -/
theorem WkS.more (h : WkS w0 cnt T p g A v0 i pre r v done c Q wr) (h0 : TrM w0 cnt T p) (hf : Free T p g v0) (hki : T.K i = 2) {k : Nat} (hs : SR w2 (p.MB i) r k (fun s => (T.E i s).map p.B) (done ++ [n]) c') (hg : wr.grownBy w2 (some r))
    (hwb : WB w3 g (A ++ (Q ++ Q').map (·.2)) v') (ho : Out (fun k => k = g ∨ v.ownBlock = some k) w2 w3) (hv : ∀ k, v'.ownBlock = some k → v.ownBlock = some k ∨ w2.heap.size ≤ k) (hq : WQ T i pre (done ++ [n]) (Q ++ Q')) :
    WkS w0 cnt T p g A v0 i pre r v' (done ++ [n]) c' (Q ++ Q') w3 := by
  obtain ⟨q1, q2, q3⟩ := h.step h0 hg
  have hfr := h.free h0 hf
  refine ⟨q1.out ho (fun k hx e => ?_), hwb, hq, ⟨k, ?_⟩, q3.trans ho (fun k hk e => ?_), fun k hk => ?_, h.rl⟩
  · rcases e with e | e
    · exact hfr.1 (e ▸ hx)
    · exact hfr.2 k e hx
  · refine hs.out ho (fun e => ?_) (fun e => ?_)
    · have hx : XT T p (p.MB i) := .inr (.inr ⟨i, by unfold Tr.live; omega, .inr (.inl ⟨hki, rfl⟩)⟩)
      rcases e with e | e
      · exact hfr.1 (e ▸ hx)
      · exact hfr.2 _ e hx
    · rcases e with e | e
      · exact hs.blo q2.box e
      · obtain ⟨cs, hb⟩ := q2.row e
        exact hs.blo hb rfl
  · rcases e with e | e
    · exact .inl e
    · rcases h.own k e with x | x
      · exact .inr x
      · omega
  · rcases hv k hk with x | x
    · exact h.own k x
    · exact .inr (Nat.le_trans q3.size x)
set_option maxRecDepth 100000 in
set_option maxHeartbeats 1000000 in
theorem walk_any (ht : TrT T) {rk : Nat → Nat} (hrk : ∀ d s j, T.E d s = some j → T.K j = 2 → rk j < rk d) : ∀ m i, rk i < m → T.K i = 2 → ∀ (w : World) (A : List ByteArray) (v : Value) (pre : ByteArray) (P0 : List (Nat × ByteArray)),
    TrM w cnt T p → WB w g A v → Free T p g v → WP T i P0 A.length → pre.size ≤ 15 * A.length + 1 →
    Calls Try.prog 31 #[.pointer (some ⟨p.B i, 0, none⟩), .string pre, .func (.func 32) #[] #[.pointer (some ⟨g, 0, none⟩)]] w (WkO w T g A v i pre) := by
  intro m
  induction m with
  | zero => intro i hi; omega
  | succ m ih =>
    intro i hi hk w A v pre P0 h hwb hfr hP hpre
    have hil : T.live i := by unfold Tr.live; omega
    obtain ⟨-, -, -, c3, -⟩ := h.cells hil
    rw [if_pos hk] at c3
    obtain ⟨ks, hm⟩ := h.map i hk
    obtain ⟨w1, hrun, ⟨cn, hsr⟩, hb1, hsz1⟩ := hm.range (t := NMT) Try.underlying80
    have HSt : Hid (WkR w cnt T p g A v i pre w.heap.size w1) := ⟨v, [], cn, [], h.later hb1, by
        have := hwb.out (Out.of_below (X := fun _ => False) hb1) (fun e => e) (fun _ _ e => e)
        rw [List.map_nil, List.append_nil]
        exact this, WQ.none T i pre, ⟨_, hsr⟩, Out.of_below hb1, fun k e => .inl e, Nat.le_refl _⟩
    have H := Lib.hid h
    have HK := Lib.hid hk
    have HFr := Lib.hid hfr
    have HP := Lib.hid hP
    have HI := Lib.hid hi
    have HIh := Lib.hid ih
    have HT := Lib.hid ht
    have HPre := Lib.hid hpre
    clear hpre
    clear hm hsr hb1 hsz1 h hwb hfr hP hi ih hil ht hk
    generalize hr : w.heap.size = r at *
    have HR := Lib.hid hr
    clear hr
    go_enter Try.func31, Try.ntmps31
    go_wp2_with fail
    clear c3 hrun
    go_loopw [] (fun wr => WkR w cnt T p g A v i pre r wr) (fun wr => wr.rangeLeft (p.MB i) r)
    case atStart => exact HSt.out
    case round =>
      clear HSt
      obtain ⟨v1, done, c, Q, hS⟩ := hrel
      have HS := Lib.hid hS
      obtain ⟨k0, hsr⟩ := HS.out.sr
      have HM := Lib.hid hsr.left_eq
      clear hS
      rcases hsr.next 0 with ⟨hall, hrun⟩ | ⟨n, b, w2, c', hwf, hfb, hnin, hrun, hsr', hlt, hgr, hsz, hen⟩
      · have HE : Hid (WkO w T g A v i pre (.returned (.tuple #[])) wr) := ⟨rfl, Q, v1, HS.out.wb, HS.out.wq.nd, HS.out.wq.all (fun n hn => hall n (by
            obtain ⟨j, hj⟩ := Option.isSome_iff_exists.1 hn
            exact wfS_14 (nmE_size14 (HT.out.nm i n j hj))) (by show ((T.E i n).map p.B).isSome = true; rw [Option.isSome_map]; exact hn)), HS.out.out, HS.out.own⟩
        clear hall hsr HS
        go_wp2_with fail
        go_end0
        exact HE.out
      · obtain ⟨cc, hcc, rfl⟩ : ∃ cc, T.E i n = some cc ∧ p.B cc = b := by
          have hfb : (T.E i n).map p.B = some b := hfb
          cases hq : T.E i n with
          | none => rw [hq] at hfb; cases hfb
          | some cc => rw [hq] at hfb; exact ⟨cc, rfl, Option.some.inj hfb⟩
        obtain ⟨q1, q2, q3⟩ := HS.out.step H.out hgr
        have hlc := (HT.out.wf.ent i n cc hcc).2.1
        have hshort := HP.out.short HT.out HS.out.wq
        have hAl : (A ++ Q.map (·.2)).length < 100000 := by rw [List.length_append, List.length_map]; omega
        have hn14 := nmE_size14 (HT.out.nm i n cc hcc)
        have hpre := HPre.out
        have z1 : ¬ (9223372036854775807 : Int) < (pre.size : Int) + (n.size : Int) := by omega
        have z2 : ¬ (9223372036854775807 : Int) < (pre.size : Int) + (n.size : Int) + 1 := by omega
        have z3 : ¬ (9223372036854775807 : Int) < ((pre ++ n).size : Int) + 1 := by rw [ByteArray.size_append]; omega
        have HDi := Lib.hid (isDir_any q1 hlc)
        have HC := Lib.hid (And.intro hcc (And.intro hnin (And.intro hsr' (And.intro hgr hlt))))
        have hmore : ∀ (Q' : List TQ) (v' : Value) (w3 : World), WB w3 g (A ++ (Q ++ Q').map (·.2)) v' → Out (fun k => k = g ∨ v1.ownBlock = some k) w2 w3 → (∀ k, v'.ownBlock = some k → v1.ownBlock = some k ∨ w2.heap.size ≤ k) → WQ T i pre (done ++ [n]) (Q ++ Q') → WkS w cnt T p g A v i pre r v' (done ++ [n]) c' (Q ++ Q') w3 := fun Q' v' w3 a1 a2 a3 a4 => HS.out.more H.out HFr.out HK.out hsr' hgr a1 a2 a3 a4
        have HMo := Lib.hid hmore
        clear hmore
        by_cases hk2 : T.K cc = 2
        · have HTe := Lib.hid (tell_any q2 (pre ++ n ++ slA) hAl)
          have hQ1 : (A ++ Q.map (·.2)).length = A.length + Q.length := by rw [List.length_append, List.length_map]
          have HWp : Hid (WP T cc (P0 ++ Q.map (·.1) ++ [(i, n)]) ((A ++ Q.map (·.2) ++ [pre ++ n ++ slA]).length)) := by
            have := HP.out.down HT.out HS.out.wq hnin hcc hk2
            rw [← hQ1] at this
            rw [List.length_append]
            exact this
          have HFr1 := Lib.hid (HS.out.free H.out HFr.out)
          have HRec : Hid (∀ w4 v4, TrM w4 cnt T p → WB w4 g (A ++ Q.map (·.2) ++ [pre ++ n ++ slA]) v4 → Free T p g v4 → Calls Try.prog 31 #[.pointer (some ⟨p.B cc, 0, none⟩), .string (pre ++ n ++ slA), .func (.func 32) #[] #[.pointer (some ⟨g, 0, none⟩)]] w4 (WkO w4 T g (A ++ Q.map (·.2) ++ [pre ++ n ++ slA]) v4 cc (pre ++ n ++ slA))) := fun w4 v4 a1 a2 a3 => by
            have h1 := hrk i n cc hcc hk2
            have h2 := HI.out
            refine HIh.out cc (by omega) hk2 w4 _ v4 _ _ a1 a2 a3 HWp.out ?_
            rw [ByteArray.size_append, ByteArray.size_append, List.length_append, hQ1]
            have e1 : slA.size = 1 := rfl
            have e2 : [pre ++ n ++ slA].length = 1 := rfl
            rw [e1, e2]
            omega
          have HQ1 := Lib.hid q1
          have HWd : Hid (∀ Q2 : List TQ, (Q2.map (·.1)).Nodup → (∀ d s x, ((d, s), x) ∈ Q2 ↔ TP T cc (pre ++ n ++ slA) d s x) → WQ T i pre (done ++ [n]) (Q ++ ([((i, n), pre ++ n ++ slA)] ++ Q2))) := fun Q2 a1 a2 => HS.out.wq.dir HT.out hnin hcc hk2 a1 a2
          rw [decide_eq_true hk2] at HDi
          clear hcc q1 q2 q3 hlc hshort hAl hk2 hfb hwf hnin hsr' hlt hgr hsz hsr hn14 hpre hQ1
          go_wp2_with fail
          refine HDi.out.mono ?_
          rintro e w3 ⟨rfl, rfl⟩
          go_wp2_with fail
          refine HTe.out.mono ?_
          rintro e w4 ⟨rfl, v4, hwb4, ho4, hv4⟩
          have hfr1 := HFr1.out
          have hq1 := HQ1.out
          have htr4 := hq1.out ho4 (fun k hx e => e.elim (fun e => hfr1.1 (e ▸ hx)) (fun e => hfr1.2 k e hx))
          have hfr4 : Free T p g v4 := ⟨hfr1.1, fun k hk hx => (hv4 k hk).elim (fun e => hfr1.2 k e hx) (fun e => by have := hq1.lt hx; omega)⟩
          have HR4 := Lib.hid (HRec.out w4 v4 htr4 hwb4 hfr4)
          have HO4 := Lib.hid (And.intro ho4 hv4)
          clear hwb4 ho4 hv4 hfr1 hq1 htr4 hfr4
          go_wp2_with fail
          refine HR4.out.mono ?_
          rintro e w5 ⟨rfl, Q2, v5, hwb5, hnd5, hmem5, ho5, hv5⟩
          have HS5 : Hid (WkS w cnt T p g A v i pre r v5 (done ++ [n]) c' (Q ++ ([((i, n), pre ++ n ++ slA)] ++ Q2)) w5) := by
            refine HMo.out _ v5 w5 ?_ (HO4.out.1.trans ho5 (fun k hk e => ?_)) (fun k hk => ?_) (HWd.out Q2 hnd5 hmem5)
            · rw [List.map_append, List.map_append, ← List.append_assoc, ← List.append_assoc]
              exact hwb5
            · rcases e with e | e
              · exact .inl e
              · rcases HO4.out.2 k e with x | x
                · exact .inr x
                · omega
            · rcases hv5 k hk with x | x
              · exact HO4.out.2 k x
              · exact .inr (Nat.le_trans HO4.out.1.size x)
          clear hwb5 hnd5 hmem5 ho5 hv5
          go_wp2_with fail
          go_roundw
          case rel => exact ⟨_, _, _, _, HS5.out⟩
          case measure =>
            obtain ⟨k5, hsr5⟩ := HS5.out.sr
            rw [hsr5.left_eq, HM.out]
            exact HC.out.2.2.2.2
        · have HTe := Lib.hid (tell_any q2 (pre ++ n) hAl)
          have HWq := Lib.hid (HS.out.wq.file HT.out hnin hcc hk2)
          rw [decide_eq_false hk2] at HDi
          clear hcc q1 q2 q3 hlc hshort hAl hk2 hfb hwf hnin hsr' hlt hgr hsz hsr hn14 hpre
          go_wp2_with fail
          refine HDi.out.mono ?_
          rintro e w3 ⟨rfl, rfl⟩
          go_wp2_with fail
          refine HTe.out.mono ?_
          rintro e w4 ⟨rfl, v4, hwb4, ho4, hv4⟩
          have HS4 : Hid (WkS w cnt T p g A v i pre r v4 (done ++ [n]) c' (Q ++ [((i, n), pre ++ n)]) w4) := HMo.out [((i, n), pre ++ n)] v4 w4 (by rw [List.map_append, ← List.append_assoc]; exact hwb4) ho4 hv4 HWq.out
          clear hwb4 ho4 hv4
          go_wp2_with fail
          go_roundw
          case rel => exact ⟨_, _, _, _, HS4.out⟩
          case measure =>
            obtain ⟨k4, hsr4⟩ := HS4.out.sr
            rw [hsr4.left_eq, HM.out]
            exact HC.out.2.2.2.2
end
end Go.Proofs.Ytcjojcihjhhpgaa
