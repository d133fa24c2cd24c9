/-
  The document's Best and Until.
-/
import Derived.Test.YtblpfgjjiihjoaaPkRefOrd
namespace Go.Proofs.Ytblpfgjjiihjoaa
open Go.RowKit

section
variable {w w' : World} {a : Option Addr} {l : List Cd} {n cap : Nat}
def RefOut (w : World) (R : List Cd → Int → Prop) (e : Ending) (w' : World) : Prop :=
  ∃ x m cp L z, R L z ∧ e = .returned (.tuple #[.slice x m cp, .int .i64 z]) ∧ m = L.length ∧ Cds w' x L ∧ Below w.heap.size w w'
set_option maxHeartbeats 4000000 in
theorem refBest_any (k : Int) (hC : Cds w a l) (hn : n = l.length) (hmx : n ≤ 9223372036854775807) :
    Calls Try.prog 11 #[.slice a n cap, .int .i64 k] w (RefOut w (BestIs l k)) := by
  have HGd := Lib.hid (good_any (cap := cap) hC hn hmx)
  have HC := Lib.hid hC
  have HN := Lib.hid hn
  clear hC hn
  go_enter Try.func11, Try.ntmps11
  go_wp2_with fail
  refine HGd.out.mono ?_
  rintro e w2 ⟨b, hb, rfl, hb2⟩
  have HC2 := Lib.hid (HC.out.below hb2)
  have HB2 := Lib.hid hb2
  clear hb2 HC HGd
  cases b with
  | false =>
    have HI : Hid (BestIs l k [] 22) := .inl ⟨.inl (fun h => by have := hb.2 h; cases this), rfl, rfl⟩
    clear hb
    go_wp2_with fail
    go_ret2
    exact ⟨none, 0, 0, [], 22, HI.out, rfl, rfl, Cds.nil _ _, HB2.out⟩
  | true =>
    have hok := hb.1 rfl
    have HOk := Lib.hid hok
    clear hb
    by_cases hk : k < 0
    · have HI : Hid (BestIs l k [] 22) := .inl ⟨.inr hk, rfl, rfl⟩
      clear hok
      go_wp2_with fail
      go_ret2
      exact ⟨none, 0, 0, [], 22, HI.out, rfl, rfl, Cds.nil _ _, HB2.out⟩
    · have HF := Lib.hid (order_any (cap := cap) HC2.out HN.out (by rw [HN.out]; exact hok.1) hok.2)
      have h512 : n ≤ 512 := by rw [HN.out]; exact hok.1
      clear hok
      go_wp2_with fail
      refine HF.out.mono ?_
      rintro e w3 ⟨x, cp, rfl, hR⟩
      have hO := hR.own
      have htk : l.take n = l := by rw [HN.out]; exact List.take_length
      rw [htk] at hO
      obtain ⟨hl1, hl2, hl3⟩ := own_lit hO
      have HT := Lib.hid (Cds.own hO)
      have HB3 := Lib.hid (HB2.out.trans (hR.below.mono HB2.out.size))
      have hlen : (ordC l).length = n := by rw [ordC_length]; exact HN.out.symm
      by_cases hkn : k < (n : Int)
      · obtain ⟨p, rfl⟩ : ∃ p : Nat, k = (p : Int) := ⟨k.toNat, by omega⟩
        have hcu := cutC_upto (p := p) hl3 (by omega) (by omega) hl2
        have HI : Hid (BestIs l p ((ordC l).take p) 0) := .inr ⟨HOk.out, by omega, rfl, rfl⟩
        have HL : Hid (p = ((ordC l).take p).length) := by show _ = _; rw [List.length_take, hlen]; omega
        clear hR hO htk hl1 hl2 hl3 hlen
        go_wp2_with fail
        go_ret2
        exact ⟨x, p, cp, _, 0, HI.out, rfl, HL.out, HT.out.take p, HB3.out⟩
      · have HI : Hid (BestIs l k (ordC l) 0) := .inr ⟨HOk.out, by omega, by rw [List.take_of_length_le]; omega, rfl⟩
        have HL : Hid (n = (ordC l).length) := hlen.symm
        clear hR hO htk hl1 hl2 hl3 hlen
        go_wp2_with fail
        go_ret2
        exact ⟨x, n, cp, _, 0, HI.out, rfl, HL.out, HT.out, HB3.out⟩
structure UtR (w : World) (x : Option Addr) (T : List Cd) (wr : World) : Prop where
  list : Cds wr x T
  below : Below w.heap.size w wr
theorem UtR.later {x : Option Addr} {T : List Cd} {wr : World} (h : UtR w x T wr) (hb : Below wr.heap.size wr w') : UtR w x T w' := ⟨h.list.below hb, h.below.trans (hb.mono h.below.size)⟩
def UtI (w : World) (x : Option Addr) (T : List Cd) (n : Nat) (r : Int) (v i : Value) (wr : World) : Prop :=
  ∃ p : Nat, p ≤ n ∧ i = .int .i64 p ∧ v = .int .i64 (r - roomC (T.take p)) ∧ (∀ j, j < p → roomC (T.take j) < r) ∧ UtR w x T wr
theorem ordC_good (h : GoodL l) : GoodL (ordC l) := fun c hc => by
  have h1 : ordC l = (ordR (rks l)).map Rk.c := by rw [ordR_map, rks_map]
  rw [h1] at hc
  obtain ⟨y, hy, rfl⟩ := List.mem_map.1 hc
  rw [ordR_mem, rks_mem] at hy
  obtain ⟨i, hi, e⟩ := hy
  rw [← e]
  exact h.at hi
theorem below_drewN {B : Nat} (h : Below B w w') (q : Nat) : Below B w (w'.drewN q) := ⟨h.os, h.tape, h.output, h.size, h.block⟩
set_option maxHeartbeats 4000000 in
theorem refUntil_any (r : Int) (hC : Cds w a l) (hn : n = l.length) (hmx : n ≤ 9223372036854775807) (hr1 : -9223372036854775808 ≤ r) (hr2 : r ≤ 9223372036854775807) :
    Calls Try.prog 17 #[.slice a n cap, .int .i64 r] w (RefOut w (UntilIs l r)) := by
  have HGd := Lib.hid (good_any (cap := cap) hC hn hmx)
  have HC := Lib.hid hC
  have HN := Lib.hid hn
  clear hC hn
  go_enter Try.func17, Try.ntmps17
  go_wp2_with fail
  refine HGd.out.mono ?_
  rintro e w2 ⟨b, hb, rfl, hb2⟩
  have HC2 := Lib.hid (HC.out.below hb2)
  have HB2 := Lib.hid hb2
  clear hb2 HC HGd
  cases b with
  | false =>
    have HI : Hid (UntilIs l r [] 22) := .inl ⟨.inl (fun h => by have := hb.2 h; cases this), rfl, rfl⟩
    clear hb
    go_wp2_with fail
    go_ret2
    exact ⟨none, 0, 0, [], 22, HI.out, rfl, rfl, Cds.nil _ _, HB2.out⟩
  | true =>
    have hok := hb.1 rfl
    have HOk := Lib.hid hok
    clear hb
    by_cases hk : r < 0
    · have HI : Hid (UntilIs l r [] 22) := .inl ⟨.inr hk, rfl, rfl⟩
      clear hok
      go_wp2_with fail
      go_ret2
      exact ⟨none, 0, 0, [], 22, HI.out, rfl, rfl, Cds.nil _ _, HB2.out⟩
    · have HF := Lib.hid (order_any (cap := cap) HC2.out HN.out (by rw [HN.out]; exact hok.1) hok.2)
      have h512 : n ≤ 512 := by rw [HN.out]; exact hok.1
      have HTG := Lib.hid (ordC_good hok.2)
      clear hok
      go_wp2_with fail
      refine HF.out.mono ?_
      rintro e w3 ⟨x, cp, rfl, hR⟩
      have hO := hR.own
      have htk : l.take n = l := by rw [HN.out]; exact List.take_length
      rw [htk] at hO
      obtain ⟨hl1, hl2, hl3⟩ := own_lit hO
      have HL2 := Lib.hid hl2
      have HL3 := Lib.hid hl3
      have HS0 : Hid (UtR w x (ordC l) w3) := ⟨Cds.own hO, HB2.out.trans (hR.below.mono HB2.out.size)⟩
      have HLen : Hid ((ordC l).length = n) := by show _ = _; rw [ordC_length]; exact HN.out.symm
      obtain ⟨T, hT⟩ : ∃ T, ordC l = T := ⟨_, rfl⟩
      rw [hT] at HS0 HLen HTG
      have HT := Lib.hid hT
      clear hR hO htk hl1 hl2 hl3 hT HF HB2 HC2
      go_wp2_with fail
      go_loopw [1, 7] (fun v i wr => UtI w x T n r v i wr) (fun _ i _ => n - (intOf i).toNat)
      case atStart => exact ⟨0, Nat.zero_le _, rfl, by simp [roomC], fun j hj => by omega, HS0.out⟩
      case round =>
        clear HS0
        obtain ⟨p, hp, rfl, rfl, hall, hR⟩ := hrel
        have HR := Lib.hid hR
        have HAll := Lib.hid hall
        clear hR hall
        have hbd := roomC_bd _ (HTG.out.take p)
        have hlp : (T.take p).length ≤ 512 := by rw [List.length_take]; omega
        obtain ⟨M, hM⟩ : ∃ M, roomC (T.take p) = M := ⟨_, rfl⟩
        rw [hM] at hbd
        have HM := Lib.hid hM
        simp only [hM]
        have m1 : 0 ≤ M := hbd.1
        have m2 : M ≤ 32768 := by omega
        clear hbd hlp hM
        have HEnd : Hid (r ≤ M ∨ p = n → UntilIs l r (T.take p) 0) := fun h => .inr ⟨HOk.out, by omega, ⟨p, by rw [HT.out], by rw [← HN.out]; exact hp, by rw [HT.out]; exact HAll.out, fun h2 => by
          rw [HT.out, HM.out]
          rcases h with h | h
          · exact h
          · have := HN.out; omega⟩, rfl⟩
        have HLp : Hid (p = (T.take p).length) := by show _ = _; rw [List.length_take, HLen.out]; omega
        by_cases hlt : p < n
        · by_cases hrm : r ≤ M
          · have HI := Lib.hid (HEnd.out (.inl hrm))
            have t1 : ¬ 0 < r - M := by omega
            have hcu := cutC_upto (p := p) HL3.out hp (by omega) HL2.out
            clear HEnd
            go_wp2_with fail
            go_ret2
            exact ⟨x, p, cp, _, 0, HI.out, rfl, HLp.out, HR.out.list.take p, HR.out.below⟩
          · have t1 : 0 < r - M := by omega
            have hpT : p < T.length := by rw [HLen.out]; exact hlt
            have hgc := HTG.out.at hpT
            have hsn := take_snocC T p hpT
            obtain ⟨b, o, rfl, q1, q2, q3, q4⟩ := HR.out.list.at hpT
            obtain ⟨c, hc⟩ : ∃ c, T.getD p c0 = c := ⟨_, rfl⟩
            rw [hc] at q1 q2 q3 q4 hgc hsn
            have HS : Hid (roomC (T.take (p + 1)) = M + (c.cap - c.live)) := by show _ = _; rw [hsn, roomC_snoc, HM.out]
            unfold GoodC at hgc
            have m3 : 0 ≤ c.cap - c.live := by omega
            have m4 : c.cap - c.live ≤ 64 := by omega
            have e1 : IntKind.i64.wrap (c.cap - c.live) = c.cap - c.live := IntWalk.i64_in _ (by omega)
            have e2 : IntKind.i64.wrap (r - M - (c.cap - c.live)) = r - M - (c.cap - c.live) := IntWalk.i64_in _ (by omega)
            have j1 : (0 : Int) ≤ (p : Int) := by omega
            have j2 : (p : Int) < (n : Int) := by omega
            have HAll2 : Hid (∀ j, j < p + 1 → roomC (T.take j) < r) := fun j hj => by
              by_cases e : j = p
              · subst e; rw [HM.out]; omega
              · exact HAll.out j (by omega)
            clear hpT hgc hsn hc HEnd HAll HLp
            go_wp2_with fail
            go_quiet (fail)
            have HR2 : Hid (UtR w _ T (wr.drewN nq)) := HR.out.later (below_drewN (Below.refl _ _) nq)
            clear HR q1 q2 q3 q4 e1 e2
            generalize wr.drewN nq = wy at *
            go_wp2_with fail
            go_roundw
            case rel => exact ⟨p + 1, by omega, by simp, by rw [HS.out]; congr 1; omega, HAll2.out, HR2.out⟩
            case measure => simp [intOf]; omega
        · have HI := Lib.hid (HEnd.out (.inr (by omega)))
          have hcu := cutC_upto (p := p) HL3.out hp (by omega) HL2.out
          have hpn : ¬ (p : Int) < (n : Int) := by omega
          clear HEnd
          go_wp2_with fail
          go_ret2
          exact ⟨x, _, cp, _, 0, HI.out, rfl, HLp.out, HR.out.list.take _, HR.out.below⟩
end
end Go.Proofs.Ytblpfgjjiihjoaa
