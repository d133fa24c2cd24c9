/-
  ChRoom · ChPut · ChPutW · ChByt · KRan · ChOrd · RegInv · ObjInv: these texts in one.
-/
import Derived.Test.YtdnkeplmjimjcaaPk04
import Derived.Test.YtdnkeplmjimjcaaPk01
import Derived.Maps.RangeWalk
import Derived.OwnWalk
import Derived.StillTail
import Derived.RegionTactic
import Derived.Test.YtdnkeplmjimjcaaPk00
import Derived.Laws.Tables
/-
  makeRoom.
-/
namespace Go.Proofs.Ytdnkeplmjimjcaa
open Go.RowKit

/-- The blocks behind makeRoom, and whether there is room. -/
def roomK (room : Int) (L : List Bk) : List Bk × Bool :=
  if (L.length : Int) < room then (L, true)
  else match L.find? goK with
    | none => (L, false)
    | some s => (woK L s.key, true)
section
variable {w w' : World} {bc bm base b : Nat} {room uses : Int} {N T T' : Nat} {x : Sx} {a : Int} {s : Bf} {v : Value} {p : Int × Int} {L L' : List Bk}
theorem CS.popped (hC : CS w bc bm base room N T x) {gr cap n : Nat} (hv : x.v = .slice (some ⟨gr, 0, none⟩) x.m cap) (hmn : n + 1 = x.m) {e : Ending} (hR : RmO w bc bm base gr cap room x.uses x.m n 0 x.h x.S e w') :
    ∃ v' h', LS w' bc bm base room N T { x with v := v', m := n, h := h' } (x.h 0) (-1) ∧ (∀ i, i < n → h' i ≠ x.h 0) ∧ Hq n (us x.S h') ∧ Out (XC w bc bm base) w w' := by
  obtain ⟨-, h', hH, hq, hr, hB, ho⟩ := hR
  have hm0 : 0 < x.m := by omega
  have hw0 := hC.who 0 hm0
  have hnb : ∀ i, i < n → h' i ≠ x.h 0 := fun i hi e => by
    obtain ⟨j, hj, hj0, e2⟩ := hr.1 i hi
    exact hj0 (hC.gs.inj hj hm0 (e2.symm.trans e))
  have hx : ∀ g, XB bc (.slice (some ⟨gr, 0, none⟩) x.m cap) x.m x.h g → XC w bc bm base g := fun g hg => by
    rcases hg with e | e
    · rw [e]; exact ⟨hC.low.1, .inl rfl⟩
    · exact hC.gs.xc hC.hl (by rw [hv]; exact e)
  have hmle := hC.mle
  have hrm := hC.ps.rm
  refine ⟨_, h', ⟨hH.cb, hC.km.out ho ?_, hH.gs, hB, .inr ⟨rfl, hnb, hq⟩, fun c hc hne hg => ?_, fun c hc hne hg => ?_, fun i hi _ => ?_, hC.ps, (show n ≤ 4096 by omega), hC.low, hC.ps.wf _ hw0.1, .inl ⟨hw0.1, (hC.ps.key _ _).2 ⟨hw0.1, rfl⟩⟩, hC.low.2.2 _ hw0.1⟩, hnb, hq, ho.mono fun g _ h => hx g h⟩
  · rintro (e | e)
    · exact hC.km.blo hC.cb e
    · exact hC.km.xg hC.gs (by rw [hv]; exact e)
  · have hB' := hC.off c hc hg
    refine hB'.out ho ?_
    rintro (e | e | ⟨i, hi, e⟩)
    · exact hB'.apart hC.cb (by decide) e
    · obtain ⟨cs, h1, -⟩ := hB'
      exact blo_own hC.gs.row h1 (by decide) (by rw [hv]; exact e)
    · have := (hC.who i hi).2
      have hg : goesB (x.S c) = false := hg
      rw [e, hg] at this
      cases this
  · obtain ⟨j, hj, e⟩ := hC.on c hc hg
    obtain ⟨k, hk, e2⟩ := hr.2 j hj (fun q => hne (by rw [← e, q]))
    exact ⟨k, hk, (show h' k = c by rw [e2, e])⟩
  · obtain ⟨j, hj, -, e⟩ := hr.1 i hi
    show h' i ∈ x.bs ∧ goesB (x.S (h' i)) = true
    rw [e]
    exact hC.who j hj
theorem LS.gone (hL : LS w bc bm base room N T x b a) (hb : b ∈ x.bs) (hfr : ∀ i, i < x.m → x.h i ≠ b) (hq : Hq x.m (us x.S x.h)) (hK : KM w' bm x.n (updP x.f (keyB (x.S b)) none) (x.ks.erase (keyB (x.S b)))) (hks : keyB (x.S b) ∈ x.ks) (hg : w.grownBy w' (some bm)) :
    CS w' bc bm base room N T { x with bs := x.bs.erase b, ks := x.ks.erase (keyB (x.S b)), f := updP x.f (keyB (x.S b)) none } := by
  have ho : Out (fun g => g = bm) w w' := Out.of_grown hg (fun g e => by cases e; rfl)
  have hnx : ∀ g, XG x.v x.m x.h g → ¬ g = bm := fun g hx e => by rw [e] at hx; exact hL.km.xg hL.gs hx
  have hN := hL.ps.nodup
  refine ⟨Out.blo ho hL.cb (fun e => hL.km.blo hL.cb e.symm), hK, hL.gs.out ho hnx, hq, fun c hc h3 => ?_, fun c hc h3 => ?_, fun i hi => ?_, hL.ps.drop hb hks, ⟨hL.low.1, hL.low.2.1, fun c hc => hL.low.2.2 c (hN.mem_erase_iff.1 hc).2⟩⟩
  · have hc' := hN.mem_erase_iff.1 hc
    have := hL.off c hc'.2 hc'.1 h3
    exact this.out ho (fun e => hL.km.buf this e.symm)
  · have hc' := hN.mem_erase_iff.1 hc
    exact hL.on c hc'.2 hc'.1 h3
  · obtain ⟨q1, q2⟩ := hL.who i hi (hfr i hi)
    exact ⟨hN.mem_erase_iff.2 ⟨hfr i hi, q1⟩, q2⟩
theorem CS.v0 (hC : CS w bc bm base room N T x) (hv : x.v = .slice none 0 0 ∨ ∃ gr cap, x.v = .slice (some ⟨gr, 0, none⟩) x.m cap) : ∃ ao cap, x.v = .slice ao x.m cap := by
  rcases hC.gs.row.2 with ⟨q, q2⟩ | ⟨g, cap, cur, q, _⟩
  · exact ⟨none, 0, by rw [q, q2]⟩
  · exact ⟨_, cap, q⟩
def RoO (w : World) (bc bm base : Nat) (room : Int) (N T : Nat) (x : Sx) (e : Ending) (w' : World) : Prop :=
  e = .returned (.bool (roomK room (lstK x.S x.bs)).2) ∧ (∃ x', CS w' bc bm base room N T x' ∧ (roomK room (lstK x.S x.bs)).1 = lstK x'.S x'.bs ∧ x'.n = x.n ∧ x'.uses = x.uses ∧ (∀ p, x.f p = none → x'.f p = none) ∧ ((roomK room (lstK x.S x.bs)).2 = true → (x'.bs.length : Int) < room)) ∧ Out (XC w bc bm base) w w'
set_option maxRecDepth 100000 in
set_option maxHeartbeats 4000000 in
theorem room_any (hC : CS w bc bm base room N T x) : Calls Try.prog 38 #[.pointer (some ⟨bc, 0, none⟩)] w (RoO w bc bm base room N T x) := by
  have hlen := hC.km.len 3
  rw [hC.ps.len] at hlen
  have hlr : (lstK x.S x.bs).length = x.bs.length := by simp [lstK]
  have hrm := hC.ps.rm
  obtain ⟨d0, d1, d2, -⟩ := hC.cb.cell
  have c0 : ∀ y : Kept w, y.at_.cell? ⟨bc, 0, none⟩ = some (.int .i64 room) := fun y => cell_later y.below d0
  have c1 : ∀ y : Kept w, y.at_.cell? ⟨bc, 1, none⟩ = some (.map (some bm)) := fun y => cell_later y.below d1
  have k1 : ∀ y : Kept w, (Builtin.len_ #[KMT] 3 #[.map (some bm)]).run Try.prog y.at_ = .ok (.int .i64 (x.bs.length : Nat)) y.at_ := fun y => by
    have := (hC.km.later y.below).len 3
    rw [hC.ps.len] at this
    exact this
  have HC := Lib.hid hC
  by_cases hlt : (x.bs.length : Int) < room
  · have HE : Hid (∀ w', Below w.heap.size w w' → RoO w bc bm base room N T x (.returned (.bool true)) w') := fun w' hb => by
      have e : roomK room (lstK x.S x.bs) = (lstK x.S x.bs, true) := by unfold roomK; rw [hlr, if_pos hlt]
      unfold RoO
      rw [e]
      exact ⟨rfl, ⟨x, HC.out.later hb, rfl, rfl, rfl, fun _ h => h, fun _ => hlt⟩, Out.of_below hb⟩
    clear hC hlen hlr hrm d0 d1 d2 HC
    go_enter Try.func38, Try.ntmps38
    go_upto_region 1 with (fail)
    refine wp_region_kept (by kernel_rfl) (by kernel_rfl) ?_
    repeat (go_big_quiet_step (fail))
    refine wpQuiet_nil ?_
    rintro W2 ⟨w2, rfl⟩
    have HE2 := Lib.hid (HE.out _ w2.below)
    clear c0 c1 k1 HE
    go_wp2_with fail
    go_ret
    exact HE2.out
  · obtain ⟨ao, cap, hv⟩ : ∃ ao cap, x.v = .slice ao x.m cap := by
      rcases hC.gs.row.2 with ⟨q, q2⟩ | ⟨g, cap, cur, q, _⟩
      · exact ⟨none, 0, by rw [q, q2]⟩
      · exact ⟨_, cap, q⟩
    have c2 : ∀ y : Kept w, y.at_.cell? ⟨bc, 2, none⟩ = some (.slice ao x.m cap) := fun y => cell_later y.below (by rw [← hv]; exact d2)
    by_cases hm0 : x.m = 0
    · have HE : Hid (∀ w', Below w.heap.size w w' → RoO w bc bm base room N T x (.returned (.bool false)) w') := fun w' hb => by
        have e : roomK room (lstK x.S x.bs) = (lstK x.S x.bs, false) := by
          unfold roomK
          rw [hlr, if_neg hlt, lst_nogo (fun c hc => ?_)]
          by_cases hg : goesB (x.S c) = true
          · obtain ⟨i, hi, _⟩ := HC.out.on c hc hg
            omega
          · simpa using hg
        unfold RoO
        rw [e]
        exact ⟨rfl, ⟨x, HC.out.later hb, rfl, rfl, rfl, fun _ h => h, fun q => by cases q⟩, Out.of_below hb⟩
      rw [hm0] at c2
      clear hC hlen hlr hrm d0 d1 d2 HC hv hm0
      go_enter Try.func38, Try.ntmps38
      go_upto_region 1 with (fail)
      refine wp_region_kept (by kernel_rfl) (by kernel_rfl) ?_
      repeat (go_big_quiet_step (fail))
      refine wpQuiet_nil ?_
      rintro W2 ⟨w2, rfl⟩
      have HE2 := Lib.hid (HE.out _ w2.below)
      have c2 := c2 w2
      clear c0 c1 k1 HE
      go_wp2_with fail
      refine (glen_any _ _ _ _).mono ?_
      rintro e w3 ⟨rfl, rfl⟩
      go_wp2_with fail
      go_ret
      exact HE2.out
    · obtain ⟨gr, hao⟩ : ∃ gr, x.v = .slice (some ⟨gr, 0, none⟩) x.m cap := by
        obtain ⟨gr, cap', q⟩ := hC.gs.form (by omega)
        rw [q] at hv
        cases hv
        exact ⟨gr, q⟩
      obtain rfl : ao = some ⟨gr, 0, none⟩ := by rw [hv] at hao; cases hao; rfl
      obtain ⟨n, hmn⟩ : ∃ n, n + 1 = x.m := ⟨x.m - 1, by omega⟩
      have hmle := hC.mle
      have HPop : Hid (∀ y : Kept w, Calls Try.prog 53 #[.iface 92 (.pointer (some ⟨bc, 2, none⟩))] y.at_ (RmO y.at_ bc bm base gr cap room x.uses x.m n 0 x.h x.S)) := fun y => by
        have hCy := HC.out.later y.below
        exact hpop_any ⟨by have := hCy.cb; rw [hv] at this; exact this, by have := hCy.gs; rw [hv] at this; exact this⟩ hCy.hq hmn (by omega)
      have e0 : ((x.m : Nat) : Int) ≠ 0 := by omega
      have e1 : (((x.m : Nat) : Int) == 0) = false := by simpa using hm0
      have hw0 := hC.who 0 (by omega)
      have HL : Hid ((roomK room (lstK x.S x.bs)) = (woK (lstK x.S x.bs) (keyB (x.S (x.h 0))), true)) := by
        show roomK room (lstK x.S x.bs) = _
        unfold roomK
        rw [hlr, if_neg hlt, lst_go hC.ps hw0.1 hw0.2 (fun c hc hg => ?_)]
        · rfl
        · obtain ⟨j, hj, e⟩ := hC.on c hc hg
          have := hC.hq.top j hj
          unfold us at this
          rw [e] at this
          exact this
      have HV := Lib.hid hv
      have HMn := Lib.hid hmn
      have HW := Lib.hid hw0
      clear hC hlen hlr hrm d0 d1 d2 hv hm0 hao hmn hmle hw0
      go_enter Try.func38, Try.ntmps38
      go_upto_region 1 with (fail)
      refine wp_region_kept (by kernel_rfl) (by kernel_rfl) ?_
      repeat (go_big_quiet_step (fail))
      refine wpQuiet_nil ?_
      rintro W2 ⟨w2, rfl⟩
      have c2 := c2 w2
      clear c0 c1 k1
      go_wp2_with fail
      refine (glen_any _ _ _ _).mono ?_
      rintro e w3 ⟨rfl, rfl⟩
      clear c2
      go_wp2_with fail
      refine (HPop.out w2).mono ?_
      intro e w4 hR
      have HB2 := Lib.hid w2.below
      obtain ⟨v', h', hL, hfr, hq, ho⟩ := (HC.out.later w2.below).popped HV.out HMn.out hR
      obtain ⟨rfl, -⟩ := hR
      have HO := Lib.hid (outC_trans (Out.of_below HB2.out) ho)
      have hLd := hL.later (show Below w4.heap.size w4 w4.drew from (Below.refl _ _).drew)
      have hkin := kin HC.out HW.out.1
      obtain ⟨w5, hrun, hK, hg⟩ := hLd.km.del (show wfK (keyB (x.S (x.h 0))) from HC.out.ps.wf _ HW.out.1) hkin 0
      have hCS := hLd.gone HW.out.1 hfr hq hK hkin hg
      have HE : Hid (RoO w bc bm base room N T x (.returned (.bool true)) w5) := by
        unfold RoO
        rw [HL.out]
        refine ⟨rfl, ⟨_, hCS, (lst_erase HC.out.ps HW.out.1).symm, rfl, rfl, fun p hp => ?_, fun _ => ?_⟩, outC_trans HO.out (outC_trans (Out.of_below (Below.refl _ _).drew) (Out.of_grown hg (fun g e => by cases e; exact ⟨HC.out.low.2.1, .inr (.inl rfl)⟩)))⟩
        · show updP x.f _ none p = none
          by_cases e : p = keyB (x.S (x.h 0))
          · rw [e, updP_at]
          · rw [updP_ne _ _ e]; exact hp
        show ((x.bs.erase (x.h 0)).length : Int) < room
        have := List.length_erase_of_mem HW.out.1
        have := List.length_pos_of_mem HW.out.1
        have := HC.out.ps.rm
        omega
      have k1 : (Builtin.delete_ #[KMT, KT] 0 #[.map (some bm), .agg #[.int .i64 (x.S (x.h 0)).ino, .int .i64 (x.S (x.h 0)).lbn]]).run Try.prog w4.drew = .ok (.tuple #[]) w5 := hrun
      obtain ⟨b0, b1, -, -, -, -⟩ := hL.buf.cells
      obtain ⟨-, c1, -, -⟩ := hL.cb.cell
      have c1' := cell_later (show Below w4.heap.size w4 w4.drew from (Below.refl _ _).drew) c1
      have b0 : w4.cell? ⟨x.h 0, 0, none⟩ = some (.int .i64 (x.S (x.h 0)).ino) := b0
      have b1 : w4.cell? ⟨x.h 0, 1, none⟩ = some (.int .i64 (x.S (x.h 0)).lbn) := b1
      have b0' := cell_later (show Below w4.heap.size w4 w4.drew from (Below.refl _ _).drew) b0
      have b1' := cell_later (show Below w4.heap.size w4 w4.drew from (Below.refl _ _).drew) b1
      clear hL hfr hq ho hLd hkin hrun hK hg hCS HO HPop HL HC HV HMn HW HB2
      generalize (x.S (x.h 0)).ino = ki at *
      generalize (x.S (x.h 0)).lbn = kl at *
      generalize x.h 0 = q at *
      have hta := run_assert_pb (.pointer (some ⟨q, 0, none⟩)) w4
      go_wp2_with fail
      go_region
      go_wp2_with fail
      go_ret
      exact HE.out
end
end Go.Proofs.Ytdnkeplmjimjcaa
/-
  Put.
-/
namespace Go.Proofs.Ytdnkeplmjimjcaa
open Go.RowKit

def gd (l : List Nat) : Nat → Nat := fun i => l.getD i 0
/-- The blocks behind Put, and its error. -/
def putK (room : Int) (L : List Bk) (p : Int × Int) (l : List Nat) (d : Bool) : List Bk × Int :=
  if l.length ≠ 64 then (L, 22)
  else match findK L p with
    | some s => (woK L p ++ [⟨p, gd l, s.dirty || d, s.pins⟩], 0)
    | none => if (roomK room L).2 = true then ((roomK room L).1 ++ [⟨p, gd l, d, 0⟩], 0) else ((roomK room L).1, 28)
/-- Bytes that are handed in. -/
structure DIn (w : World) (bc bm base : Nat) (a : Option Addr) (l : List Nat) : Prop where
  b : Bytes w a l
  far : ∀ g o, a = some ⟨g, o, none⟩ → g < w.heap.size ∧ ¬ XC w bc bm base g
section
variable {w w' : World} {bc bm base b : Nat} {room uses : Int} {N T T' : Nat} {x : Sx} {a : Int} {s : Bf} {v : Value} {p : Int × Int} {L L' : List Bk} {sa : Option Addr} {l : List Nat}
theorem DIn.out (h : DIn w bc bm base sa l) (ho : Out (XC w bc bm base) w w') : DIn w' bc bm base sa l := by
  refine ⟨⟨h.b.1, h.b.2.1, fun hl => ?_⟩, fun g o e => ?_⟩
  · obtain ⟨g, o, e, hc⟩ := h.b.2.2 hl
    exact ⟨g, o, e, fun i hi => ho.cell (hc i hi) (h.far g o e).2⟩
  · obtain ⟨h1, h2⟩ := h.far g o e
    exact ⟨Nat.lt_of_lt_of_le h1 ho.size, fun q => h2 (XC.back ho (fun _ q _ => q) h1 q)⟩
theorem DIn.src (h : DIn w bc bm base sa l) (hl : l.length = 64) : ∃ g o, sa = some ⟨g, o, none⟩ ∧ ∀ j u, (cellsB l)[j]? = some u → w.cell? ((⟨g, o, none⟩ : Addr).add j) = some u := by
  obtain ⟨g, o, e, hc⟩ := h.b.2.2 (fun q => by rw [q] at hl; cases hl)
  refine ⟨g, o, e, fun j u hj => ?_⟩
  have hj' : j < l.length := by
    have := (List.getElem?_eq_some_iff.1 hj).1
    rwa [cellsB_length] at this
  rw [cellsB_get l j hj'] at hj
  cases hj
  rw [Addr.add_mid]
  exact hc j hj'
theorem BufO.there (hB : BufO w b s a) : w.there b 2 64 := by
  obtain ⟨cs, h1, h2⟩ := hB
  intro j hj
  refine ⟨?_, h1.frozen _⟩
  rw [h1.cell, h2.dat j hj]
  rfl
theorem BufO.put_data (hB : BufO w b s a) (hl : l.length = 64) : BufO (w.setCells b 2 (cellsB l)) b { s with data := gd l } a := by
  obtain ⟨cs, h1, h2⟩ := hB
  obtain ⟨cs', h3, h4, h5⟩ := blo_cells (cellsB l) 2 w cs h1
  have hz := h2.size
  have hlc : (cellsB l).length = 64 := by rw [cellsB_length, hl]
  have low : ∀ j, (j < 2 ∨ 66 ≤ j) → cs'[j]? = cs[j]? := fun j hj => by rw [h5, if_neg (by omega)]
  refine ⟨cs', h3, by omega, (low _ (by omega)).trans h2.k0, (low _ (by omega)).trans h2.k1, fun i hi => ?_, (low _ (by omega)).trans h2.dirty, (low _ (by omega)).trans h2.pins, (low _ (by omega)).trans h2.used, (low _ (by omega)).trans h2.at_⟩
  rw [h5, if_pos (by omega), show 2 + i - 2 = i by omega, cellsB_get l i (by omega)]
  rfl
/-- A new buffer. -/
theorem CS.fresh {wA : World} (hC : CS w bc bm base room N T x) (hp : wfK p) (hf : x.f p = none) (hlen : (x.bs.length : Int) < room) (hb : w.heap.size ≤ b) (hA : Out (fun g => g = bm) w wA) (hK : KM wA bm (x.n + 1) (updP x.f p (some b)) (addP x.ks p)) {N' : Nat} (hn : x.n + 1 ≤ N') (w' : World) (s' : Bf)
    (hB : BufO w' b s' (-1)) (hCB : CB w' bc bm room (x.uses + 1) x.v) (ho : Out (fun g => g = bc ∨ g = b) wA w') (h1 : keyB s' = p) (h2 : s'.pins = 0) (h3 : s'.used = x.uses + 1) :
    LS w' bc bm base room N' (T + 1) { x with S := upn x.S b s', bs := x.bs ++ [b], ks := addP x.ks p, f := updP x.f p (some b), n := x.n + 1, uses := x.uses + 1 } b (-1) := by
  have hbs : ∀ c, c ∈ x.bs → c < w.heap.size := fun c hc => by
    obtain ⟨a, hB⟩ := hC.buf hc
    exact hB.lt
  have hnb : b ∉ x.bs := fun q => by have := hbs b q; omega
  have hne : ∀ c, c ≠ b → (upn x.S b s') c = x.S c := fun c e => upn_ne _ _ e
  have hib : ∀ i, i < x.m → x.h i ≠ b := fun i hi e => hnb (by rw [← e]; exact (hC.who i hi).1)
  have hks : p ∉ x.ks := by
    obtain ⟨D, _, _, _, hk, _⟩ := hC.km
    intro q
    have := (hk p).1 q
    rw [hf] at this
    cases this
  have hout : Out (fun g => g = bm ∨ g = bc ∨ g = b) w w' := (hA.mono fun g _ e => .inl e).trans ho fun g _ e => .inr e
  have hrow : ∀ g, XG x.v x.m x.h g → ¬ (g = bm ∨ g = bc ∨ g = b) := by
    rintro g hg (e | e | e)
    · rw [e] at hg; exact hC.km.xg hC.gs hg
    · rw [e] at hg; exact cb_free hC.cb hC.gs hg
    · have : g < w.heap.size := by
        rcases (hC.gs.xc (bc := bc) (bm := bm) hC.hl hg).2 with q | q | ⟨t, cs, q, _⟩
        · rw [q]; exact Blo.lt hC.cb
        · rw [q]; exact hC.km.lt
        · exact q.lt
      omega
  have hbo : ∀ c s a, BufO w c s a → BufO w' c s a := fun c s a hc => hc.out hout (by
    rintro (e | e | e)
    · exact hC.km.buf hc e.symm
    · exact hc.apart hC.cb (by decide) e
    · have := hc.lt
      omega)
  have hm := hC.mle
  refine ⟨hCB, hK.out ho ?_, ⟨hout.own hC.gs.row (fun g hg => hrow g (.inl hg)), fun i hi => ?_⟩, ?_, .inr ⟨rfl, hib, ?_⟩, fun c hc hcb hg => ?_, fun c hc hcb hg => ?_, fun i hi hcb => ?_, hC.ps.add hnb hf hks h1 hp h3 h2 (Nat.le_refl _) hlen hn, (by have := hC.ps.rm; show x.m ≤ 4096; omega), ⟨hC.low.1, hC.low.2.1, fun c hc => ?_⟩, ?_, .inl ⟨by simp, ?_⟩, ?_⟩
  · rintro (e | e)
    · exact hC.km.blo hC.cb e
    · have := hC.km.lt
      omega
  · show BufO w' (x.h i) (upn x.S b s' (x.h i)) _
    rw [hne _ (hib i hi)]
    exact hbo _ _ _ (hC.gs.buf i hi)
  · show BufO w' b (upn x.S b s' b) _
    rw [upn_at]; exact hB
  · intro j j0 j1
    have j1 : j < x.m := j1
    show (upn x.S b s' (x.h ((j - 1) / 2))).used ≤ (upn x.S b s' (x.h j)).used
    rw [hne _ (hib _ j1), hne _ (hib _ (by omega))]
    exact hC.hq j j0 j1
  · have hc : c ∈ x.bs ++ [b] := hc
    have hc' : c ∈ x.bs := by simpa [hcb] using hc
    have hg : goesB (upn x.S b s' c) = false := hg
    show BufO w' c (upn x.S b s' c) _
    rw [hne _ hcb] at hg ⊢
    exact hbo _ _ _ (hC.off c hc' hg)
  · have hc : c ∈ x.bs ++ [b] := hc
    have hc' : c ∈ x.bs := by simpa [hcb] using hc
    have hg : goesB (upn x.S b s' c) = true := hg
    rw [hne _ hcb] at hg
    exact hC.on c hc' hg
  · show x.h i ∈ x.bs ++ [b] ∧ goesB (upn x.S b s' (x.h i)) = true
    rw [hne _ hcb]
    exact ⟨by simp [(hC.who i hi).1], (hC.who i hi).2⟩
  · have hc : c ∈ x.bs ++ [b] := hc
    rcases List.mem_append.1 hc with q | q
    · exact hC.low.2.2 c q
    · obtain rfl : c = b := by simpa using q
      have := hC.low.2.1
      have := hC.km.lt
      omega
  · show wfK (keyB (upn x.S b s' b))
    rw [upn_at, h1]; exact hp
  · show updP x.f p (some b) (keyB (upn x.S b s' b)) = some b
    rw [upn_at, h1, updP_at]
  · have := hC.low.2.1
    have := hC.km.lt
    omega
end
end Go.Proofs.Ytdnkeplmjimjcaa
/-
  Put: the walk.
-/
namespace Go.Proofs.Ytdnkeplmjimjcaa
open Go.RowKit

theorem szU8 : (Try.prog.info? U8).map (·.size) = some 1 := by kernel_rfl
section
variable {w w' : World} {bc bm base b : Nat} {room uses : Int} {N T T' : Nat} {x : Sx} {a : Int} {s : Bf} {v : Value} {p : Int × Int} {L L' : List Bk} {sa : Option Addr} {l : List Nat} {sc : Nat} {d : Bool}
/-- Put of other than a block. -/
theorem put_bad (hl : l.length ≠ 64) (h : CA w bc bm base room N T L) (n : Nat) (hn : n = l.length) (hn2 : n ≤ 1000000) :
    Calls Try.prog 23 #[.pointer (some ⟨bc, 0, none⟩), keyV p, .slice sa n sc, .bool d] w (CcO w bc bm base room (N + 1) (T + 1) (putK room L p l d).1 (.int .i64 (putK room L p l d).2)) := by
  have e : putK room L p l d = (L, 22) := by unfold putK; rw [if_pos hl]
  rw [e]
  obtain ⟨ki, kl⟩ := p
  have HE : Hid (∀ w', Below w.heap.size w w' → CcO w bc bm base room (N + 1) (T + 1) L (.int .i64 22) (.returned (.int .i64 22)) w') := fun w' hb => ⟨rfl, (h.later hb).mono (by omega) (by omega), Out.of_below hb⟩
  have HB := Lib.hid (sup_pc9 w (.cells #[.int .i64 ki, .int .i64 kl] KT))
  have e1 : (((n : Nat) : Int) != 64) = true := by rw [bne_iff_ne]; omega
  clear hl hn hn2 h e
  unfold keyV
  go_enter Try.func23, Try.ntmps23
  go_wp2_with fail
  go_ret
  exact HE.out _ HB.out
set_option maxRecDepth 100000 in
set_option maxHeartbeats 8000000 in
theorem put_old (hC : CS w bc bm base room N T x) (hp : wfK p) (hq : x.f p = some b) (hl : l.length = 64) (hD : DIn w bc bm base sa l) (hT : T ≤ 4000000000000000000) :
    Calls Try.prog 23 #[.pointer (some ⟨bc, 0, none⟩), keyV p, .slice sa 64 sc, .bool d] w (CcO w bc bm base room N (T + 1) (woK (lstK x.S x.bs) p ++ [⟨p, gd l, (x.S b).dirty || d, (x.S b).pins⟩]) (.int .i64 0)) := by
    obtain ⟨hb, hpb⟩ := (hC.ps.key p b).1 hq
    obtain ⟨ki, kl⟩ := p
    obtain ⟨-, d1, -, -⟩ := hC.cb.cell
    obtain ⟨w1, hw1⟩ : ∃ w1, w1 = w.alloc (.cells #[.int .i64 ki, .int .i64 kl] KT) := ⟨_, rfl⟩
    have HB1 : Hid (Below w.heap.size w w1) := by rw [hw1]; exact sup_pc9 w _
    have hX : Blo w1 w.heap.size KT #[.int .i64 ki, .int .i64 kl] := by rw [hw1]; exact blo_laid w _ _
    have c0 : ∀ y : Kept w1, y.at_.cell? ⟨w.heap.size, 0, none⟩ = some (.int .i64 ki) := fun y => cell_later y.below (Blo.cell hX 0)
    have c1 : ∀ y : Kept w1, y.at_.cell? ⟨w.heap.size, 1, none⟩ = some (.int .i64 kl) := fun y => cell_later y.below (Blo.cell hX 1)
    have c2 : ∀ y : Kept w1, y.at_.cell? ⟨bc, 1, none⟩ = some (.map (some bm)) := fun y => cell_later y.below (cell_later HB1.out d1)
    have k1 : ∀ y : Kept w1, (Instr.lookup KMT (.map (some bm)) (.agg #[.int .i64 ki, .int .i64 kl]) true).run Try.prog y.at_ = .ok (.tuple #[.pointer (some ⟨b, 0, none⟩), .bool true]) y.at_ := fun y => by
      have := (hC.km.later (HB1.out.trans (y.below.mono HB1.out.size))).look_ok hp
      rw [hq] at this
      exact this
    have HC := Lib.hid hC
    have HI := Lib.hid (And.intro hb hpb)
    have HD := Lib.hid hD
    have HL64 := Lib.hid hl
    have HLen : Hid ((cellsB l).length = 64 * 1) := by show _ = 64 * 1; rw [cellsB_length, hl]
    have HTT := Lib.hid hT
    obtain ⟨sg, so, rfl, -⟩ := hD.src hl
    clear hC hp hX d1 hq hb hpb hD hl hT
    unfold keyV
    go_enter Try.func23, Try.ntmps23
    go_upto_region 3 with (fail)
    rw [← hw1]
    clear hw1
    obtain ⟨g0, hg0⟩ : ∃ g0, w.heap.size = g0 := ⟨_, rfl⟩
    rw [hg0] at c0 c1 ⊢
    refine wp_region_kept (by kernel_rfl) (by kernel_rfl) ?_
    repeat (go_big_quiet_step (fail))
    refine wpQuiet_nil ?_
    rintro W2 ⟨w2, rfl⟩
    have HB2 := Lib.hid (HB1.out.trans (w2.below.mono HB1.out.size))
    have hC2 := HC.out.later HB2.out
    have hps := hC2.ps
    have HLow : Hid (base ≤ bc ∧ base ≤ b) := ⟨hC2.low.1, hC2.low.2.2 b HI.out.1⟩
    have hN := hps.nodup
    obtain ⟨a, hB, hL⟩ := hC2.loose HI.out.1
    have HSrcA : Hid (∀ j u, (cellsB l)[j]? = some u → w2.at_.cell? ((⟨sg, so, none⟩ : Addr).add j) = some u) := by
      obtain ⟨g, o, e, h⟩ := (HD.out.out (Out.of_below HB2.out)).src HL64.out
      cases e
      exact h
    have HTh : Hid (w2.at_.there b 2 (cellsB l).length) := by
      show w2.at_.there b 2 (cellsB l).length
      rw [cellsB_length, HL64.out]; exact hB.there
    obtain ⟨wB, hwB⟩ : ∃ wB, wB = w2.at_.setCells b 2 (cellsB l) := ⟨_, rfl⟩
    have HNe : Hid (b ≠ bc) := hB.apart hC2.cb (by decide)
    have HOB : Hid (Out (fun g => g = bc ∨ g = b) w2.at_ wB) := by rw [hwB]; exact out_cells _ _ _ (.inr rfl)
    have HBB : Hid (BufO wB b { x.S b with data := gd l } a) := by rw [hwB]; exact hB.put_data HL64.out
    have HCBB : Hid (CB wB bc bm room x.uses x.v) := by
      rw [hwB]
      exact Out.blo (out_cells (X := fun g => g = b) _ _ _ rfl) hC2.cb (fun e => HNe.out e.symm)
    have HU : Hid (0 ≤ x.uses ∧ x.uses ≤ 4000000000000000000) := ⟨hps.us.1, by have := hps.us.2; have := HTT.out; omega⟩
    obtain ⟨-, -, b66, -, -, -⟩ := HBB.out.cells
    have f66 := HBB.out.frozen 66
    have b66 : wB.cell? ⟨b, 66, none⟩ = some (.bool (x.S b).dirty) := b66
    have HLs : Hid (∀ (w' : World) (s' : Bf), BufO w' b s' a → CB w' bc bm room (x.uses + 1) x.v → Out (fun g => g = bc ∨ g = b) w2.at_ w' → keyB s' = keyB (x.S b) → s'.pins = (x.S b).pins → s'.used = x.uses + 1 → s'.data = gd l → s'.dirty = ((x.S b).dirty || d) →
        ∃ x', LS w' bc bm base room N (T + 1) x' b a ∧ lstK x'.S x'.bs = woK (lstK x.S x.bs) (ki, kl) ++ [⟨(ki, kl), gd l, (x.S b).dirty || d, (x.S b).pins⟩] ∧ Out (XC w bc bm base) w w') := by
      intro w' s' h1 h2 h3 h4 h5 h6 h7 h8
      refine ⟨_, hL w' s' (x.uses + 1) (x.bs.erase b ++ [b]) (T + 1) h1 h2 h3 (hps.use HI.out.1 h4 h6 h5 (Nat.le_refl _)) (fun c => ?_), ?_, ?_⟩
      · rw [List.mem_append, hN.mem_erase_iff, List.mem_singleton]
        by_cases e : c = b
        · rw [e]; simp [HI.out.1]
        · simp [e]
      · refine (lst_use hps HI.out.1 s').trans ?_
        rw [HI.out.2]
        unfold bk
        rw [h4, h5, h7, h8, HI.out.2]
      · exact outC_trans (Out.of_below HB2.out) (h3.mono fun g _ h => xc_b hB HLow.out.1 HLow.out.2 h)
    clear c0 c1 c2 k1 HC hC2 hps hN hB hL HD HB2 HI HL64
    generalize hsd0 : (x.S b).dirty = sd at *
    have hcp : (Builtin.copy_ #[BYS, BYS] 3 #[.slice (some ⟨b, 2, none⟩) 64 64, .slice (some ⟨sg, so, none⟩) 64 sc]).run Try.prog w2.at_ = .ok (.int .i64 64) wB := by
      rw [hwB]
      exact run_copy_many w2.at_ BYS BYS 3 U8 1 b 2 64 64 ⟨sg, so, none⟩ 64 sc (cellsB l) Try.underlying35 szU8 HLen.out HSrcA.out (fun j hj => (HTh.out j hj).1) (fun j hj => (HTh.out j hj).2) (cellsB_oneC _)
    clear hwB
    clear HSrcA HTh
    go_upto_region 10 with (fail)
    clear hcp
    clear hsd0
    rcases (show sd = false ∨ sd = true by cases sd <;> simp) with rfl | rfl
    · have HBC := Lib.hid (HBB.out.put_dirty d)
      have HCC : Hid (CB (wB.setCell ⟨b, 66, none⟩ (.bool d)) bc bm room x.uses x.v) := Blo.far HCBB.out (p := ⟨b, 66, none⟩) (fun e => HNe.out e.symm) _
      have HOC : Hid (Out (fun g => g = bc ∨ g = b) w2.at_ (wB.setCell ⟨b, 66, none⟩ (.bool d))) := HOB.out.put (p := ⟨b, 66, none⟩) (.inr rfl) _
      have hu := HU.out
      have HUs := Lib.hid (use_any HCC.out HBC.out hu.1 hu.2)
      clear HBB HCBB HOB HNe hu
      go_wp2_with fail
      refine HUs.out.mono ?_
      rintro e wD ⟨rfl, hCD, hBD, hoD⟩
      obtain ⟨x', hL, hlst, hoL⟩ := HLs.out wD _ hBD hCD (HOC.out.trans hoD (fun _ _ h => h)) rfl rfl rfl rfl rfl
      have HPl := Lib.hid (place_any hL hL.blt)
      have HX := Lib.hid (And.intro hlst hoL)
      clear HLs HUs HBC HCC HOC hCD hBD hoD hL hlst hoL
      go_wp2_with fail
      refine HPl.out.mono ?_
      rintro e wE ⟨rfl, v', m', h', hC, ho⟩
      have HE := Lib.hid ((show CcO w bc bm base room N (T + 1) (woK (lstK x.S x.bs) (ki, kl) ++ [⟨(ki, kl), gd l, _ || d, (x.S b).pins⟩]) (.int .i64 0) (.returned (.int .i64 0)) wE from ⟨rfl, ⟨_, hC, HX.out.1.symm⟩, outC_trans HX.out.2 ho⟩))
      clear HPl HX hC ho
      go_wp2_with fail
      go_ret
      exact HE.out
    · have HBC := Lib.hid (HBB.out.put_dirty true)
      have HCC : Hid (CB (wB.setCell ⟨b, 66, none⟩ (.bool true)) bc bm room x.uses x.v) := Blo.far HCBB.out (p := ⟨b, 66, none⟩) (fun e => HNe.out e.symm) _
      have HOC : Hid (Out (fun g => g = bc ∨ g = b) w2.at_ (wB.setCell ⟨b, 66, none⟩ (.bool true))) := HOB.out.put (p := ⟨b, 66, none⟩) (.inr rfl) _
      have hu := HU.out
      have HUs := Lib.hid (use_any HCC.out HBC.out hu.1 hu.2)
      clear HBB HCBB HOB HNe hu
      go_wp2_with fail
      refine HUs.out.mono ?_
      rintro e wD ⟨rfl, hCD, hBD, hoD⟩
      obtain ⟨x', hL, hlst, hoL⟩ := HLs.out wD _ hBD hCD (HOC.out.trans hoD (fun _ _ h => h)) rfl rfl rfl rfl rfl
      have HPl := Lib.hid (place_any hL hL.blt)
      have HX := Lib.hid (And.intro hlst hoL)
      clear HLs HUs HBC HCC HOC hCD hBD hoD hL hlst hoL
      go_wp2_with fail
      refine HPl.out.mono ?_
      rintro e wE ⟨rfl, v', m', h', hC, ho⟩
      have HE := Lib.hid ((show CcO w bc bm base room N (T + 1) (woK (lstK x.S x.bs) (ki, kl) ++ [⟨(ki, kl), gd l, _ || d, (x.S b).pins⟩]) (.int .i64 0) (.returned (.int .i64 0)) wE from ⟨rfl, ⟨_, hC, HX.out.1.symm⟩, outC_trans HX.out.2 ho⟩))
      clear HPl HX hC ho
      go_wp2_with fail
      go_ret
      exact HE.out
set_option maxRecDepth 100000 in
set_option maxHeartbeats 8000000 in
theorem put_new_no (hC : CS w bc bm base room N T x) (hp : wfK p) (hq : x.f p = none) (hr : (roomK room (lstK x.S x.bs)).2 = false) :
    Calls Try.prog 23 #[.pointer (some ⟨bc, 0, none⟩), keyV p, .slice sa 64 sc, .bool d] w (CcO w bc bm base room N T (roomK room (lstK x.S x.bs)).1 (.int .i64 28)) := by
    obtain ⟨ki, kl⟩ := p
    obtain ⟨-, d1, -, -⟩ := hC.cb.cell
    obtain ⟨w1, hw1⟩ : ∃ w1, w1 = w.alloc (.cells #[.int .i64 ki, .int .i64 kl] KT) := ⟨_, rfl⟩
    have HB1 : Hid (Below w.heap.size w w1) := by rw [hw1]; exact sup_pc9 w _
    have hX : Blo w1 w.heap.size KT #[.int .i64 ki, .int .i64 kl] := by rw [hw1]; exact blo_laid w _ _
    have c0 : ∀ y : Kept w1, y.at_.cell? ⟨w.heap.size, 0, none⟩ = some (.int .i64 ki) := fun y => cell_later y.below (Blo.cell hX 0)
    have c1 : ∀ y : Kept w1, y.at_.cell? ⟨w.heap.size, 1, none⟩ = some (.int .i64 kl) := fun y => cell_later y.below (Blo.cell hX 1)
    have c2 : ∀ y : Kept w1, y.at_.cell? ⟨bc, 1, none⟩ = some (.map (some bm)) := fun y => cell_later y.below (cell_later HB1.out d1)
    have k1 : ∀ y : Kept w1, (Instr.lookup KMT (.map (some bm)) (.agg #[.int .i64 ki, .int .i64 kl]) true).run Try.prog y.at_ = .ok (.tuple #[.pointer none, .bool false]) y.at_ := fun y => by
      have := (hC.km.later (HB1.out.trans (y.below.mono HB1.out.size))).look_ok hp
      rw [hq] at this
      exact this
    have HC := Lib.hid hC
    have HR := Lib.hid hr
    clear hC hp hX d1 hq hr
    unfold keyV
    go_enter Try.func23, Try.ntmps23
    go_upto_region 3 with (fail)
    rw [← hw1]
    clear hw1
    obtain ⟨g0, hg0⟩ : ∃ g0, w.heap.size = g0 := ⟨_, rfl⟩
    rw [hg0] at c0 c1 ⊢
    refine wp_region_kept (by kernel_rfl) (by kernel_rfl) ?_
    repeat (go_big_quiet_step (fail))
    refine wpQuiet_nil ?_
    rintro W2 ⟨w2, rfl⟩
    have HB2 := Lib.hid (HB1.out.trans (w2.below.mono HB1.out.size))
    clear c0 c1 c2 k1
    go_wp2_with fail
    refine (room_any (HC.out.later HB2.out)).mono ?_
    rintro e w3 ⟨rfl, ⟨x', hC', hlst, -⟩, ho⟩
    rw [HR.out]
    have HE : Hid (CcO w bc bm base room N T (roomK room (lstK x.S x.bs)).1 (.int .i64 28) (.returned (.int .i64 28)) w3) := ⟨rfl, ⟨x', hC', hlst⟩, outC_trans (Out.of_below HB2.out) ho⟩
    clear hC' hlst ho HC HR
    go_wp2_with fail
    go_ret
    exact HE.out
theorem zc_new : Try.zeroCells79 = #[.int .i64 0, .int .i64 0] ++ Array.replicate 64 (.int .u8 0) ++ #[.bool false, .int .i64 0, .int .i64 0, .int .i64 0] := by kernel_rfl
theorem zc_dat (i : Nat) (hi : i < 64) : Try.zeroCells79[2 + i]? = some (.int .u8 0) := by
  rw [zc_new]
  have h1 : (#[Value.int .i64 0, .int .i64 0] ++ Array.replicate 64 (Value.int .u8 0)).size = 66 := by simp
  have h2 : (#[Value.int .i64 0, Value.int .i64 0]).size = 2 := rfl
  rw [Array.getElem?_append_left (by rw [h1]; omega), Array.getElem?_append_right (by rw [h2]; omega), h2, Array.getElem?_replicate, if_pos (by omega)]
/-- The cells of a new buffer. -/
theorem new_cells (ki kl : Int) : BfC (((Try.zeroCells79.setIfInBounds 0 (.int .i64 ki)).setIfInBounds 1 (.int .i64 kl)).setIfInBounds 69 (.int .i64 (-1))) ⟨ki, kl, fun _ => 0, false, 0, 0⟩ (-1) := by
  have hs : Try.zeroCells79.size = 70 := by kernel_rfl
  have g : ∀ j, j ≠ 0 → j ≠ 1 → j ≠ 69 → (((Try.zeroCells79.setIfInBounds 0 (.int .i64 ki)).setIfInBounds 1 (.int .i64 kl)).setIfInBounds 69 (.int .i64 (-1)))[j]? = Try.zeroCells79[j]? := fun j h0 h1 h2 => by
    rw [Array.getElem?_setIfInBounds_ne (by omega), Array.getElem?_setIfInBounds_ne (by omega), Array.getElem?_setIfInBounds_ne (by omega)]
  refine ⟨by simp [hs], ?_, ?_, fun i hi => ?_, ?_, ?_, ?_, ?_⟩
  · rw [Array.getElem?_setIfInBounds_ne (by omega), Array.getElem?_setIfInBounds_ne (by omega), Array.getElem?_setIfInBounds, if_pos rfl, if_pos (by rw [hs]; omega)]
  · rw [Array.getElem?_setIfInBounds_ne (by omega), Array.getElem?_setIfInBounds, if_pos rfl, if_pos (by simp [hs])]
  · rw [g _ (by omega) (by omega) (by omega)]
    exact zc_dat i hi
  · rw [g _ (by omega) (by omega) (by omega)]; kernel_rfl
  · rw [g _ (by omega) (by omega) (by omega)]; kernel_rfl
  · rw [g _ (by omega) (by omega) (by omega)]; kernel_rfl
  · rw [Array.getElem?_setIfInBounds, if_pos rfl, if_pos (by simp [hs])]
set_option maxRecDepth 100000 in
set_option maxHeartbeats 8000000 in
theorem put_new (hC : CS w bc bm base room N T x) (hp : wfK p) (hq : x.f p = none) (hr : (roomK room (lstK x.S x.bs)).2 = true) (hl : l.length = 64) (hD : DIn w bc bm base sa l) (hT : T ≤ 4000000000000000000) (hN : N < 1000000) :
    Calls Try.prog 23 #[.pointer (some ⟨bc, 0, none⟩), keyV p, .slice sa 64 sc, .bool d] w (CcO w bc bm base room (N + 1) (T + 1) ((roomK room (lstK x.S x.bs)).1 ++ [⟨p, gd l, d, 0⟩]) (.int .i64 0)) := by
    obtain ⟨ki, kl⟩ := p
    obtain ⟨-, d1, -, -⟩ := hC.cb.cell
    obtain ⟨w1, hw1⟩ : ∃ w1, w1 = w.alloc (.cells #[.int .i64 ki, .int .i64 kl] KT) := ⟨_, rfl⟩
    have HB1 : Hid (Below w.heap.size w w1) := by rw [hw1]; exact sup_pc9 w _
    have hX : Blo w1 w.heap.size KT #[.int .i64 ki, .int .i64 kl] := by rw [hw1]; exact blo_laid w _ _
    have HX := Lib.hid hX
    have c0 : ∀ y : Kept w1, y.at_.cell? ⟨w.heap.size, 0, none⟩ = some (.int .i64 ki) := fun y => cell_later y.below (Blo.cell hX 0)
    have c1 : ∀ y : Kept w1, y.at_.cell? ⟨w.heap.size, 1, none⟩ = some (.int .i64 kl) := fun y => cell_later y.below (Blo.cell hX 1)
    have c2 : ∀ y : Kept w1, y.at_.cell? ⟨bc, 1, none⟩ = some (.map (some bm)) := fun y => cell_later y.below (cell_later HB1.out d1)
    have k1 : ∀ y : Kept w1, (Instr.lookup KMT (.map (some bm)) (.agg #[.int .i64 ki, .int .i64 kl]) true).run Try.prog y.at_ = .ok (.tuple #[.pointer none, .bool false]) y.at_ := fun y => by
      have := (hC.km.later (HB1.out.trans (y.below.mono HB1.out.size))).look_ok hp
      rw [hq] at this
      exact this
    have HC := Lib.hid hC
    have HR := Lib.hid hr
    have HQ := Lib.hid hq
    have HWf := Lib.hid hp
    have HD := Lib.hid hD
    have HL64 := Lib.hid hl
    have HLen : Hid ((cellsB l).length = 64 * 1) := by show _ = 64 * 1; rw [cellsB_length, hl]
    have HTT := Lib.hid (And.intro hT hN)
    obtain ⟨sg, so, rfl, -⟩ := hD.src hl
    clear hC hp hX d1 hq hr hD hl hT hN
    unfold keyV
    go_enter Try.func23, Try.ntmps23
    go_upto_region 3 with (fail)
    rw [← hw1]
    clear hw1
    obtain ⟨g0, hg0⟩ : ∃ g0, w.heap.size = g0 := ⟨_, rfl⟩
    rw [hg0] at c0 c1 HX ⊢
    refine wp_region_kept (by kernel_rfl) (by kernel_rfl) ?_
    repeat (go_big_quiet_step (fail))
    refine wpQuiet_nil ?_
    rintro W2 ⟨w2, rfl⟩
    have HB2 := Lib.hid (HB1.out.trans (w2.below.mono HB1.out.size))
    have HX2 := Lib.hid (Blo.later HX.out w2.below)
    clear c0 c1 c2 k1
    go_wp2_with fail
    refine (room_any (HC.out.later HB2.out)).mono ?_
    rintro e w3 ⟨rfl, ⟨x', hC', hlst, hn, -, hfn, hlen⟩, ho⟩
    rw [HR.out]
    have HO3 := Lib.hid (outC_trans (Out.of_below HB2.out) ho)
    have hX3 : Blo w3 g0 KT #[.int .i64 ki, .int .i64 kl] := ho.blo HX2.out (by
      rintro ⟨-, e | e | ⟨t, cs, h1, h2⟩⟩
      · exact HX2.out.apart (HC.out.later HB2.out).cb (by decide) e
      · exact (HC.out.later HB2.out).km.blo HX2.out e.symm
      · have := HX2.out
        unfold Blo at this h1
        rw [h1] at this
        cases this
        rcases h2 with e | e
        · exact absurd e (by decide)
        · exact absurd e (by decide))
    have c0 : w3.cell? ⟨g0, 0, none⟩ = some (.int .i64 ki) := hX3.cell 0
    have c1 : w3.cell? ⟨g0, 1, none⟩ = some (.int .i64 kl) := hX3.cell 1
    have HX3 := Lib.hid hX3
    have HC3 := Lib.hid hC'
    have HF3 := Lib.hid (And.intro hlst (And.intro hn (And.intro (hfn _ HQ.out) (hlen HR.out))))
    clear hC' hlst hn hfn hlen ho hX3 HX HX2
    go_upto_region 8 with (fail)
    have hn1 : x'.n + 1 ≤ N + 1 := by have := HC3.out.ps.cnt; omega
    have HN1 := Lib.hid hn1
    obtain ⟨w4, hw4⟩ : ∃ w4, w4 = w3.alloc (.cells (((Try.zeroCells79.setIfInBounds 0 (.int .i64 ki)).setIfInBounds 1 (.int .i64 kl)).setIfInBounds 69 (.int .i64 (-1))) BT) := ⟨_, rfl⟩
    rw [← hw4]
    have HB4 : Hid (Below w3.heap.size w3 w4) := by rw [hw4]; exact sup_pc9 w3 _
    have HN4 : Hid (BufO w4 w3.heap.size ⟨ki, kl, fun _ => 0, false, 0, 0⟩ (-1)) := ⟨_, by rw [hw4]; exact blo_laid w3 _ _, new_cells ki kl⟩
    clear hw4 hn1
    have hbd : Below w4.heap.size w4 w4.drew := (Below.refl _ _).drew
    have hB4d := HB4.out.drew
    obtain ⟨w5, hrun, hK, hg⟩ := (HC3.out.km.later hB4d).put (by have := HC3.out.ps.cnt; have := HTT.out; omega) HWf.out w3.heap.size
    have k1 : (Instr.mapUpdate KMT (.map (some bm)) (.agg #[.int .i64 ki, .int .i64 kl]) (.pointer (some ⟨w3.heap.size, 0, none⟩))).run Try.prog w4.drew = .ok () w5 := hrun
    have c0' := cell_later hB4d c0
    have c1' := cell_later hB4d c1
    obtain ⟨-, d1, d2, d3⟩ := HC3.out.cb.cell
    have d1' := cell_later hB4d d1
    have HA5 : Hid (Out (fun g => g = bm) w3 w5) := (Out.of_below hB4d : Out (fun g => g = bm) w3 w4.drew).trans (Out.of_grown hg (fun g e => by cases e; rfl)) (fun _ _ h => h)
    have HK5 := Lib.hid hK
    have HLow : Hid (base ≤ bc ∧ base ≤ bm) := ⟨HC3.out.low.1, HC3.out.low.2.1⟩
    have HBm : Hid (bm < w3.heap.size) := HC3.out.km.lt
    have HB5 : Hid (BufO w5 w3.heap.size ⟨ki, kl, fun _ => 0, false, 0, 0⟩ (-1)) := (HN4.out.later hbd).out (X := fun g => g = bm) (Out.of_grown hg (fun g e => by cases e; rfl)) (fun e => by have := HBm.out; omega)
    have HCB5 : Hid (CB w5 bc bm room x'.uses x'.v) := Out.blo HA5.out HC3.out.cb (fun e => HC3.out.km.blo HC3.out.cb e.symm)
    have HNe : Hid (w3.heap.size ≠ bc) := fun e => by have := Blo.lt HC3.out.cb; omega
    clear hrun hK hg hbd hB4d c0 c1 d1 d2 d3
    go_region
    clear k1 c0' c1' d1' HB4 HN4 HX3
    have HFr := Lib.hid (fun (w' : World) (s' : Bf) => HC3.out.fresh HWf.out HF3.out.2.2.1 HF3.out.2.2.2 (Nat.le_refl _) HA5.out HK5.out HN1.out w' s')
    have HO5 : Hid (Out (XC w bc bm base) w w5) := outC_trans HO3.out (HA5.out.mono fun g _ e => by rw [e]; exact ⟨HLow.out.2, .inr (.inl rfl)⟩)
    have HSrcA : Hid (∀ j u, (cellsB l)[j]? = some u → w5.cell? ((⟨sg, so, none⟩ : Addr).add j) = some u) := by
      obtain ⟨g, o, e, h⟩ := (HD.out.out HO5.out).src HL64.out
      cases e
      exact h
    have HTh : Hid (w5.there w3.heap.size 2 (cellsB l).length) := by
      show w5.there w3.heap.size 2 (cellsB l).length
      rw [cellsB_length, HL64.out]; exact HB5.out.there
    obtain ⟨wB, hwB⟩ : ∃ wB, wB = w5.setCells w3.heap.size 2 (cellsB l) := ⟨_, rfl⟩
    have HOB : Hid (Out (fun g => g = bc ∨ g = w3.heap.size) w5 wB) := by rw [hwB]; exact out_cells _ _ _ (.inr rfl)
    have HBB : Hid (BufO wB w3.heap.size { (⟨ki, kl, fun _ => 0, false, 0, 0⟩ : Bf) with data := gd l } (-1)) := by rw [hwB]; exact HB5.out.put_data HL64.out
    have HCBB : Hid (CB wB bc bm room x'.uses x'.v) := by
      rw [hwB]
      exact Out.blo (out_cells (X := fun g => g = w3.heap.size) _ _ _ rfl) HCB5.out (fun e => HNe.out e.symm)
    have HU : Hid (0 ≤ x'.uses ∧ x'.uses ≤ 4000000000000000000) := ⟨HC3.out.ps.us.1, by have := HC3.out.ps.us.2; have := HTT.out; omega⟩
    obtain ⟨-, -, b66, -, -, -⟩ := HBB.out.cells
    have f66 := HBB.out.frozen 66
    obtain ⟨sd, hsd0⟩ : ∃ sd, sd = false := ⟨_, rfl⟩
    have b66 : wB.cell? ⟨w3.heap.size, 66, none⟩ = some (.bool sd) := by rw [hsd0]; exact b66
    have HLs : Hid (∀ (w' : World) (s' : Bf), BufO w' w3.heap.size s' (-1) → CB w' bc bm room (x'.uses + 1) x'.v → Out (fun g => g = bc ∨ g = w3.heap.size) w5 w' → keyB s' = (ki, kl) → s'.pins = 0 → s'.used = x'.uses + 1 → s'.data = gd l → s'.dirty = (sd || d) →
        ∃ x2, LS w' bc bm base room (N + 1) (T + 1) x2 w3.heap.size (-1) ∧ lstK x2.S x2.bs = (roomK room (lstK x.S x.bs)).1 ++ [⟨(ki, kl), gd l, sd || d, 0⟩] ∧ Out (XC w bc bm base) w w') := by
      intro w' s' h1 h2 h3 h4 h5 h6 h7 h8
      refine ⟨_, HFr.out w' s' h1 h2 h3 h4 h5 h6, ?_, ?_⟩
      · refine (lst_add (fun q => ?_) s').trans ?_
        · obtain ⟨a, hB⟩ := HC3.out.buf q
          have := hB.lt
          omega
        · rw [HF3.out.1]
          unfold bk
          rw [h4, h5, h7, h8]
      · exact outC_trans HO5.out (h3.mono fun g _ h => xc_b HB5.out HLow.out.1 (Nat.le_trans HLow.out.2 (Nat.le_of_lt HBm.out)) h)
    rw [hsd0] at HLs b66
    clear HC HR HQ HWf HD HL64 HTT HB1 hg0 HB2 HO3 HC3 HF3 HN1 HA5 HK5 HBm HCB5 HFr HO5
    generalize w3.heap.size = bn at *
    have hcp : (Builtin.copy_ #[BYS, BYS] 3 #[.slice (some ⟨bn, 2, none⟩) 64 64, .slice (some ⟨sg, so, none⟩) 64 sc]).run Try.prog w5 = .ok (.int .i64 64) wB := by
      rw [hwB]
      exact run_copy_many w5 BYS BYS 3 U8 1 bn 2 64 64 ⟨sg, so, none⟩ 64 sc (cellsB l) Try.underlying35 szU8 HLen.out HSrcA.out (fun j hj => (HTh.out j hj).1) (fun j hj => (HTh.out j hj).2) (cellsB_oneC _)
    clear hwB
    clear HSrcA HTh
    go_upto_region 10 with (fail)
    clear hcp
    have HBC := Lib.hid (HBB.out.put_dirty d)
    have HCC : Hid (CB (wB.setCell ⟨bn, 66, none⟩ (.bool d)) bc bm room x'.uses x'.v) := Blo.far HCBB.out (p := ⟨bn, 66, none⟩) (fun e => HNe.out e.symm) _
    have HOC : Hid (Out (fun g => g = bc ∨ g = bn) w5 (wB.setCell ⟨bn, 66, none⟩ (.bool d))) := HOB.out.put (p := ⟨bn, 66, none⟩) (.inr rfl) _
    have hu := HU.out
    have HUs := Lib.hid (use_any HCC.out HBC.out hu.1 hu.2)
    clear HBB HCBB HOB HNe hu
    go_wp2_with fail
    refine HUs.out.mono ?_
    rintro e wD ⟨rfl, hCD, hBD, hoD⟩
    obtain ⟨x', hL, hlst, hoL⟩ := HLs.out wD _ hBD hCD (HOC.out.trans hoD (fun _ _ h => h)) rfl rfl rfl rfl rfl
    have HPl := Lib.hid (place_any hL hL.blt)
    have HX := Lib.hid (And.intro hlst hoL)
    clear HLs HUs HBC HCC HOC hCD hBD hoD hL hlst hoL
    go_wp2_with fail
    refine HPl.out.mono ?_
    rintro e wE ⟨rfl, v', m', h', hC, ho⟩
    have HE := Lib.hid ((show CcO w bc bm base room (N + 1) (T + 1) ((roomK room (lstK x.S x.bs)).1 ++ [⟨(ki, kl), gd l, false || d, 0⟩]) (.int .i64 0) (.returned (.int .i64 0)) wE from ⟨rfl, ⟨_, hC, HX.out.1.symm⟩, outC_trans HX.out.2 ho⟩))
    clear HPl HX hC ho
    go_wp2_with fail
    go_ret
    exact HE.out

/-- Put of any key, any bytes. -/
theorem put_any (h : CA w bc bm base room N T L) (hp : wfK p) (hD : DIn w bc bm base sa l) {n : Nat} (hn : n = l.length) (hn2 : n ≤ 1000000) (hT : T ≤ 4000000000000000000) (hN : N < 1000000) :
    Calls Try.prog 23 #[.pointer (some ⟨bc, 0, none⟩), keyV p, .slice sa n sc, .bool d] w (CcO w bc bm base room (N + 1) (T + 1) (putK room L p l d).1 (.int .i64 (putK room L p l d).2)) := by
  by_cases hl : l.length = 64
  · obtain rfl : n = 64 := by omega
    cases hf : findK L p with
    | some s =>
      have e : putK room L p l d = (woK L p ++ [⟨p, gd l, s.dirty || d, s.pins⟩], 0) := by unfold putK; rw [if_neg (by omega), hf]
      rw [e]
      obtain ⟨x, b, hC, rfl, hq, rfl, hb, hpb⟩ := do_some h hf
      refine (put_old hC hp hq hl hD hT).mono fun e w' q => ⟨q.1, q.2.1.mono (by omega) (Nat.le_refl _), q.2.2⟩
    | none =>
      have e : putK room L p l d = if (roomK room L).2 = true then ((roomK room L).1 ++ [⟨p, gd l, d, 0⟩], 0) else ((roomK room L).1, 28) := by unfold putK; rw [if_neg (by omega), hf]
      rw [e]
      obtain ⟨x, hC, rfl⟩ := h
      rw [find_lst hC.ps p] at hf
      have hf : x.f p = none := by simpa using hf
      by_cases hr : (roomK room (lstK x.S x.bs)).2 = true
      · rw [if_pos hr]
        exact put_new hC hp hf hr hl hD hT hN
      · rw [if_neg hr]
        exact (put_new_no hC hp hf (by simpa using hr)).mono fun e w' q => ⟨q.1, q.2.1.mono (by omega) (by omega), q.2.2⟩
  · exact put_bad hl h n hn hn2
end
end Go.Proofs.Ytdnkeplmjimjcaa
/-
  The law's Bytes: a block's, by going round; a slice of one's own that is handed in.
-/
namespace Go.Proofs.Ytdnkeplmjimjcaa
open Go.RowKit

def L64 (f : Nat → Nat) : List Nat := (List.range 64).map f
theorem L64_length (f : Nat → Nat) : (L64 f).length = 64 := by simp [L64]
theorem L64_get (f : Nat → Nat) (j : Nat) (h : j < 64) : (L64 f).getD j 0 = f j := by
  rw [List.getD_eq_getElem?_getD, L64, List.getElem?_map, List.getElem?_range h]; rfl
theorem L64_ext {f g : Nat → Nat} (h : ∀ j, j < 64 → f j = g j) : L64 f = L64 g := by
  apply List.map_congr_left
  intro j hj
  exact h j (List.mem_range.1 hj)
theorem L64_of (l : List Nat) (h : l.length = 64) : L64 (fun j => l.getD j 0) = l := by
  apply List.ext_getElem (by rw [L64_length, h])
  intro j h1 h2
  simp [L64, List.getD_eq_getElem?_getD, List.getElem?_eq_getElem h2]
theorem L64_byte {f : Nat → Nat} (h : ∀ j, j < 64 → f j < 256) : ∀ x ∈ L64 f, x < 256 := fun x hx => by
  simp only [L64, List.mem_map, List.mem_range] at hx
  obtain ⟨j, hj, rfl⟩ := hx
  exact h j hj
theorem getD_b {l : List Nat} (h : ∀ x ∈ l, x < 256) (j : Nat) : l.getD j 0 < 256 := by
  rw [List.getD_eq_getElem?_getD]
  cases e : l[j]? with
  | none => simp
  | some x => exact h x (List.mem_of_getElem? e)
def zeroB : List Nat := List.replicate 64 0
theorem zeroB_length : zeroB.length = 64 := by decide
theorem zeroB_byte : ∀ x ∈ zeroB, x < 256 := fun x hx => by rw [List.eq_of_mem_replicate hx]; decide
def BBlk (w : World) (g : Nat) (l : List Nat) : Prop := Blo w g U8 (cellsB l).toArray ∧ l.length = 64 ∧ ∀ x ∈ l, x < 256
def Z64 : Array Value := (cellsB zeroB).toArray
theorem run_make64 : ∀ W : World, (Instr.makeSlice 35 (.int .i64 64) (.int .i64 64)).run Try.prog W = .ok (.slice (some ⟨W.heap.size, 0, none⟩) 64 64) (W.alloc (.cells Z64 U8)) := fun _ => by kernel_rfl
theorem bblk_zero (w : World) : BBlk (w.alloc (.cells Z64 U8)) w.heap.size zeroB := ⟨blo_laid w U8 Z64, by decide, zeroB_byte⟩
def bytK (l : List Nat) (k : Nat) : List Nat := L64 fun j => if j < k then l.getD (j % l.length) 0 else 0
def byt (l : List Nat) : List Nat := L64 fun j => l.getD (j % l.length) 0
theorem byt_length (l : List Nat) : (byt l).length = 64 := L64_length _
theorem byt_byte {l : List Nat} (h : ∀ x ∈ l, x < 256) : ∀ x ∈ byt l, x < 256 := L64_byte fun j _ => getD_b h _
theorem bytK_byte {l : List Nat} (h : ∀ x ∈ l, x < 256) (k : Nat) : ∀ x ∈ bytK l k, x < 256 := L64_byte fun j _ => by
  split
  · exact getD_b h _
  · decide
theorem bytK_zero (l : List Nat) : bytK l 0 = zeroB := by
  unfold bytK zeroB L64
  simp [List.map_const']
theorem bytK_all (l : List Nat) : bytK l 64 = byt l := L64_ext fun j hj => if_pos hj
theorem bytK_nil (k : Nat) : bytK [] k = byt [] := L64_ext fun j hj => by simp
theorem bytK_put (l : List Nat) (k : Nat) (hk : k < 64) : (cellsB (bytK l k)).toArray.setIfInBounds k (.int .u8 (l.getD (k % l.length) 0 : Nat)) = (cellsB (bytK l (k + 1))).toArray := by
  have h1 : (bytK l k).length = 64 := L64_length _
  have h2 : (bytK l (k + 1)).length = 64 := L64_length _
  apply Array.ext_getElem?
  intro j
  rw [Array.getElem?_setIfInBounds, List.getElem?_toArray, List.getElem?_toArray, List.size_toArray, cellsB_length, h1]
  by_cases hj : j < 64
  · rw [cellsB_get _ j (by omega), cellsB_get _ j (by omega)]
    unfold bytK
    rw [L64_get _ _ hj, L64_get _ _ hj]
    by_cases e : k = j
    · subst e; rw [if_pos rfl, if_pos hk, if_pos (by omega)]
    · rw [if_neg e]
      by_cases c : j < k
      · rw [if_pos c, if_pos (by omega)]
      · rw [if_neg c, if_neg (by omega)]
  · rw [if_neg (by omega), List.getElem?_eq_none (by rw [cellsB_length]; omega), List.getElem?_eq_none (by rw [cellsB_length]; omega)]
def BytO (w : World) (l : List Nat) (e : Ending) (w' : World) : Prop :=
  ∃ g, e = .returned (.slice (some ⟨g, 0, none⟩) 64 64) ∧ BBlk w' g l ∧ w.heap.size ≤ g ∧ Below w.heap.size w w'
def BytR (w : World) (l : List Nat) (t : Value) (wr : World) : Prop :=
  ∃ k : Nat, k ≤ 64 ∧ t = .int .i64 k ∧ Blo wr w.heap.size U8 (cellsB (bytK l k)).toArray ∧ Below w.heap.size w wr
set_option maxHeartbeats 1000000 in
theorem bytes_any (a : Option Addr) (n cap : Nat) (l : List Nat) (w : World) (hn : n = l.length) (hm : n ≤ 9223372036854775807) (h : Bytes w a l) : Calls Try.prog 12 #[.slice a n cap] w (BytO w (byt l)) := by
  have hmk := run_make64
  have HN := Lib.hid hn
  have H := Lib.hid h
  have hb0 : Below w.heap.size w (w.alloc (.cells Z64 U8)) := (Below.refl _ _).alloc (Nat.le_refl _) _
  have HSt : Hid (BytR w l (.int .i64 0) (w.alloc (.cells Z64 U8))) := ⟨0, by omega, rfl, by rw [bytK_zero]; exact blo_laid w U8 Z64, hb0⟩
  clear hn h hb0
  go_enter Try.func12, Try.ntmps12
  go_wp2_with fail
  clear hmk
  go_loopw [8] (fun t wr => BytR w l t wr) (fun t _ => 64 - (intOf t).toNat)
  case atStart => exact HSt.out
  case round =>
    clear HSt
    obtain ⟨k, hk, rfl, hG, hb⟩ := hrel
    have HB := Lib.hid hb
    clear hb
    by_cases hlt : k < 64
    · have k0 : (0 : Int) ≤ (k : Int) := by omega
      have k1 : (k : Int) < 64 := by omega
      by_cases hn0 : 0 < n
      · obtain ⟨b, o, rfl, hc⟩ := (H.out.below HB.out).2.2 (fun e => by have := HN.out; rw [e] at this; simp at this; omega)
        obtain ⟨r, hr⟩ : ∃ r, k % n = r := ⟨_, rfl⟩
        have hrn : r < n := by rw [← hr]; exact Nat.mod_lt _ hn0
        have hcr := hc r (by rw [← HN.out]; exact hrn)
        have er : (k : Int) % (n : Int) = (r : Int) := by rw [← hr]; first | exact (Int.natCast_emod k n).symm | exact (Int.ofNat_emod k n).symm | simp
        have hc0 := hG.cell k
        rw [List.getElem?_toArray, cellsB_get _ _ (by rw [show (bytK l k).length = 64 from L64_length _]; exact hlt)] at hc0
        have hf0 := hG.frozen k
        have HG2 : Hid (Blo (wr.setCell ⟨w.heap.size, k, none⟩ (.int .u8 (l.getD r 0 : Nat))) w.heap.size U8 (cellsB (bytK l (k + 1))).toArray) := by
          have := hG.put k (.int .u8 (l.getD r 0 : Nat))
          rw [← hr, HN.out, bytK_put l k hlt] at this
          rw [← hr, HN.out]
          exact this
        have n1 : (0 : Int) < (n : Int) := by omega
        have r0 : (0 : Int) ≤ (r : Int) := by omega
        have r1 : (r : Int) < (n : Int) := by omega
        clear hr hc hG
        generalize l.getD r 0 = x at *
        go_wp2_with fail
        clear er
        have HB2 := Lib.hid (HB.out.setCell (p := ⟨w.heap.size, k, none⟩) (Nat.le_refl _) (.int .u8 (x : Int)))
        clear hc0 hf0 hcr HB
        go_roundw
        case rel => exact ⟨k + 1, by omega, by simp, HG2.out, HB2.out⟩
        case measure => simp [intOf]; omega
      · have hl : l = [] := List.eq_nil_of_length_eq_zero (by have := HN.out; omega)
        have HG2 : Hid (Blo wr w.heap.size U8 (cellsB (bytK l (k + 1))).toArray) := by
          have := hG
          rw [hl, bytK_nil] at this
          rw [hl, bytK_nil]
          exact this
        have n1 : ¬ (0 : Int) < (n : Int) := by omega
        clear hG hl
        go_wp2_with fail
        go_roundw
        case rel => exact ⟨k + 1, by omega, by simp, HG2.out, HB.out⟩
        case measure => simp [intOf]; omega
    · have hke : k = 64 := by omega
      subst hke
      rw [bytK_all] at hG
      have HG2 := Lib.hid hG
      have HBy := Lib.hid (byt_byte H.out.1)
      clear hG
      go_wp2
      go_ret
      exact ⟨w.heap.size, rfl, ⟨HG2.out, byt_length _, HBy.out⟩, Nat.le_refl _, HB.out⟩
/-- Of a cache's block of bytes. -/
theorem dtL_gd {l : List Nat} (h : l.length = 64) : dtL (gd l) = l := L64_of l h
theorem BBlk.later {w w' : World} {g : Nat} {l : List Nat} (h : BBlk w g l) (hb : Below w.heap.size w w') : BBlk w' g l := ⟨h.1.later hb, h.2⟩
/-- A block of bytes of one's own, handed in. -/
theorem BBlk.din {w : World} {g : Nat} {l : List Nat} (h : BBlk w g l) {bc bm base : Nat} {room uses : Int} {v : Value} {n : Nat} {f : Int × Int → Option Nat} {ks : List (Int × Int)} (hC : CB w bc bm room uses v) (hK : KM w bm n f ks) : DIn w bc bm base (some ⟨g, 0, none⟩) l := by
  refine ⟨⟨h.2.2, by rw [h.2.1]; decide, fun _ => ⟨g, 0, rfl, fun i hi => ?_⟩⟩, fun g' o e => ?_⟩
  · rw [Nat.zero_add, h.1.cell, List.getElem?_toArray, cellsB_get l i hi]
  · cases e
    refine ⟨h.1.lt, ?_⟩
    rintro ⟨-, e | e | ⟨t, cs, h1, h2⟩⟩
    · exact h.1.apart hC (by decide) e
    · exact hK.blo h.1 e.symm
    · have := h.1
      unfold Blo at this h1
      rw [h1] at this
      cases this
      rcases h2 with e | e
      · exact absurd e (by decide)
      · exact absurd e (by decide)
theorem CA.din {w : World} {bc bm base N T : Nat} {room : Int} {L : List Bk} (hC : CA w bc bm base room N T L) {g : Nat} {l : List Nat} (h : BBlk w g l) : DIn w bc bm base (some ⟨g, 0, none⟩) l := by
  obtain ⟨x, hC, -⟩ := hC
  exact h.din hC.cb hC.km
end Go.Proofs.Ytdnkeplmjimjcaa
/-
  A range over a map from pairs of integers to pointers.
-/
namespace Go.Proofs.Ytdnkeplmjimjcaa
open Go.RowKit Go.Maps

set_option maxRecDepth 100000 in
theorem keyLeaf_inv {d : Nat} {v : Value} {l : List Lit} (h : Try.prog.keyLits (d + 1) 3 [v] = some l) : ∃ a : Int, v = .int .i64 a ∧ (Lit.int .i64 a).wf = true ∧ l = [.int .i64 a] := by
  unfold Program.keyLits at h
  simp only [Try.underlying3] at h
  cases v with
  | int k a =>
    simp at h
    obtain ⟨⟨rfl, hw⟩, rfl⟩ := h
    exact ⟨a, rfl, hw, rfl⟩
  | _ => simp at h
set_option maxRecDepth 100000 in
theorem keyLitsK_inv {d : Nat} {vs : List Value} {l : List Lit} (h : Try.prog.keyLits (d + 1 + 1) KT vs = some l) : ∃ p, wfK p ∧ vs = [.int .i64 p.1, .int .i64 p.2] ∧ l = [.int .i64 p.1, .int .i64 p.2] := by
  have hc : Try.prog.cellsOf KT = 2 := by kernel_rfl
  have hi : Try.prog.cellsOf 3 = 1 := by kernel_rfl
  unfold Program.keyLits at h
  simp only [Try.underlying34] at h
  simp [hc, hi] at h
  obtain ⟨hl, h⟩ := h
  match vs, hl with
  | [v, u], _ =>
    simp at h
    cases h1 : Try.prog.keyLits (d + 1) 3 [v] with
    | none => simp [h1] at h
    | some l1 =>
      cases h2 : Try.prog.keyLits (d + 1) 3 [u] with
      | none => simp [h1, h2] at h
      | some l2 =>
        simp [h1, h2] at h
        obtain ⟨a, rfl, wa, rfl⟩ := keyLeaf_inv h1
        obtain ⟨b, rfl, wb, rfl⟩ := keyLeaf_inv h2
        exact ⟨(a, b), ⟨wa, wb⟩, rfl, by simpa using h.symm⟩
set_option maxRecDepth 100000 in
theorem keyOfK_inv {v : Value} {kl : Lit} (h : keyOf Try.prog KT v = some kl) : ∃ p, wfK p ∧ v = keyV p ∧ kl = klit p := by
  have hsz : Try.prog.types.size + 1 = 138 + 1 + 1 := by kernel_rfl
  unfold keyOf at h
  simp only [Try.underlying34] at h
  split at h
  · rename_i hf
    cases v with
    | agg cs =>
      rw [hsz] at h
      cases hq : Try.prog.keyLits (138 + 1 + 1) KT (Value.agg cs).cells.toList with
      | none => rw [hq] at h; cases h
      | some ls =>
        rw [hq] at h
        obtain ⟨p, hp, hv, rfl⟩ := keyLitsK_inv hq
        refine ⟨p, hp, ?_, ?_⟩
        · unfold keyV
          congr 1
          apply Array.toList_inj.1
          exact hv
        · simpa [klit] using h.symm
    | _ => simp [Value.formed, Try.underlying34] at hf
  · cases h
/-- Block r ranges over the map of block g, that leads from f's keys to f's blocks; those of done have come. -/
def KR (w : World) (g r n : Nat) (f : Int × Int → Option Nat) (done : List (Int × Int)) (cnt : Nat) : Prop :=
  ∃ (D : DataW (Option Nat)) (left : Lit → Bool), w.ranges Try.prog KT ptrE g r n D left cnt ∧ (∀ p, wfK p → Maps.has D (klit p) = (f p).isSome ∧ D.atKey (klit p) (.held none) = .held (f p)) ∧
    (∀ p, wfK p → left (klit p) = ((f p).isSome && !done.contains p)) ∧ done.Nodup ∧ (∀ p ∈ done, (f p).isSome = true)
section
variable {w w' : World} {g r n : Nat} {f : Int × Int → Option Nat} {ks done : List (Int × Int)} {cnt : Nat}
theorem KM.range (h : KM w g n f ks) : ∃ w', (Instr.range KMT (.map (some g))).run Try.prog w = .ok (.pointer (some ⟨w.heap.size, 0, none⟩)) w' ∧ (∃ cnt, KR w' g w.heap.size n f [] cnt) ∧ Below w.heap.size w w' ∧ w'.heap.size = w.heap.size + 1 := by
  obtain ⟨D, h1, h2, -⟩ := h
  obtain ⟨w', e1, e2, e3, e4⟩ := h1.range keyedK Try.underlying65
  exact ⟨w', e1, ⟨_, D, _, e2, h2, fun p hp => by rw [(h2 p hp).1]; simp, List.nodup_nil, fun p hp => by cases hp⟩, ⟨e3.os, e3.tape, e3.output, e3.size, fun i hi => e3.block i hi (by simp)⟩, e4⟩
theorem KR.next (h : KR w g r n f done cnt) (ty : TypeId) :
    ((∀ p, wfK p → (f p).isSome = true → p ∈ done) ∧ (Instr.next (.pointer (some ⟨r, 0, none⟩)) false ty).run Try.prog w = .ok (.tuple #[.bool false]) w) ∨
    ∃ p b w' cnt', wfK p ∧ f p = some b ∧ p ∉ done ∧ (Instr.next (.pointer (some ⟨r, 0, none⟩)) false ty).run Try.prog w = .ok (.tuple #[.bool true, keyV p, .pointer (some ⟨b, 0, none⟩)]) w' ∧
      KR w' g r n f (done ++ [p]) cnt' ∧ cnt' < cnt ∧ w.grownBy w' (some r) ∧ w'.heap.size = w.heap.size ∧ (Instr.entry (.pointer (some ⟨r, 0, none⟩))).run Try.prog w' = .ok (.tuple #[keyV p, .pointer (some ⟨b, 0, none⟩)]) w' := by
  obtain ⟨D, left, h1, h2, h3, h4, h5⟩ := h
  rcases h1.next keyedK ty with ⟨-, hl, hrun⟩ | ⟨key, v, kl, y, w', cnt', hkey, hlk, hv, hat, hrun, hrg, hlt, hgr, hsz, hen⟩
  · refine .inl ⟨fun p hp hf => ?_, hrun⟩
    have := h3 p hp
    rw [hl, hf] at this
    simpa using this.symm
  · obtain ⟨p, hp, rfl, rfl⟩ := keyOfK_inv hkey
    obtain ⟨q, rfl, rfl⟩ := ptrE_inv hv
    have e1 : D.atKey (klit p) (.held none) = .held q := hat _
    rw [(h2 p hp).2] at e1
    cases e1
    have e3 := h3 p hp
    rw [hlk] at e3
    have hs : (f p).isSome = true ∧ p ∉ done := by simpa using e3.symm
    obtain ⟨b, hb⟩ := Option.isSome_iff_exists.1 hs.1
    rw [hb] at hrun hen
    refine .inr ⟨p, b, w', cnt', hp, hb, hs.2, hrun, ⟨D, _, hrg, h2, fun z hz => ?_, ?_, fun z hz => ?_⟩, hlt, hgr, hsz, hen⟩
    · rw [h3 z hz]
      by_cases e : z = p
      · subst e
        rw [WideAt.sameKey_self (klit_key hz)]
        simp
      · have hn : (klit z).sameKey (klit p) = false := by
          cases hq : (klit z).sameKey (klit p) with
          | false => rfl
          | true => exact absurd (klit_inj hz hp (WideAt.sameKey_eq hq)) e
        rw [hn]
        simp [e]
    · rw [List.nodup_append]
      exact ⟨h4, by simp, fun a ha b hb e => by
        have : b = p := by simpa using hb
        rw [e, this] at ha
        exact hs.2 ha⟩
    · rcases List.mem_append.1 hz with q | q
      · exact h5 z q
      · have : z = p := by simpa using q
        rw [this]; exact hs.1
theorem KR.kept (h : KR w g r n f done cnt) {row : Option Nat} (hg : w.grownBy w' row) (h1 : some g ≠ row) (h2 : some r ≠ row) : KR w' g r n f done cnt := by
  obtain ⟨D, left, q1, q2⟩ := h
  exact ⟨D, left, q1.kept hg h1 h2, q2⟩
theorem KR.later (h : KR w g r n f done cnt) (hb : Below w.heap.size w w') : KR w' g r n f done cnt := h.kept (grown_of_below hb none) (by simp) (by simp)
theorem KR.left_eq (h : KR w g r n f done cnt) : w.rangeLeft g r = cnt := by
  obtain ⟨D, left, q1, q2⟩ := h
  exact q1.left_eq
theorem KR.lt (h : KR w g r n f done cnt) : r < w.heap.size := by
  obtain ⟨D, left, q1, q2⟩ := h
  exact q1.lt
end
end Go.Proofs.Ytdnkeplmjimjcaa
/-
  Order: the keys of the map, ahead of their sorting.
-/
namespace Go.Proofs.Ytdnkeplmjimjcaa
open Go.RowKit

abbrev KSL := 48
abbrev PC := 24
def flatP (ps : List (Int × Int)) : List Value := ps.flatMap fun p => [.int .i64 p.1, .int .i64 p.2]
theorem flatP_len (ps : List (Int × Int)) : (flatP ps).length = ps.length * 2 := by
  induction ps with
  | nil => rfl
  | cons p ps ih => simp only [flatP, List.flatMap_cons, List.length_append, List.length_cons, List.length_nil] at *; omega
theorem flatP_app (ps qs : List (Int × Int)) : flatP (ps ++ qs) = flatP ps ++ flatP qs := by simp [flatP]
theorem flatP_one (ps : List (Int × Int)) : ∀ u ∈ flatP ps, u.oneCell' = true := fun u hu => by
  unfold flatP at hu
  simp at hu
  obtain ⟨a, b, -, h | h⟩ := hu <;> rw [h] <;> rfl
theorem info_kt : (Try.prog.info? KT).map (fun i => (i.zero, i.size, i.bytes)) = some (some (.agg #[.int .i64 0, .int .i64 0]), 2, 16) := by kernel_rfl
section
variable {w w' W : World} {bc bm base b : Nat} {room uses : Int} {N T : Nat} {x : Sx} {L : List Bk}
theorem KR.blo {g r n cnt : Nat} {f : Int × Int → Option Nat} {done : List (Int × Int)} (h : KR w g r n f done cnt) {g' : Nat} {t : TypeId} {cs : Array Value} (hb : Blo w g' t cs) : r ≠ g' := by
  obtain ⟨D, left, ⟨es, clock, since, seen, c0, _, _, _, _, hr, _⟩, _⟩ := h
  rintro rfl
  unfold Blo at hb
  rw [hr] at hb
  cases hb
structure OrS (w : World) (bc bm base : Nat) (room : Int) (N T : Nat) (x : Sx) (r : Nat) (v : Value) (done : List (Int × Int)) (cnt : Nat) (wr : World) : Prop where
  own : wr.ownsRow (w.heap.size + 1) KT 2 v done.length (flatP done)
  kr : KR wr bm r x.n x.f done cnt
  cs : CS wr bc bm base room N T x
  box : Blo wr w.heap.size PC #[.pointer (some ⟨bc, 0, none⟩)]
  below : Below w.heap.size w wr
  lt : done.length ≤ 4096
  rl : w.heap.size + 1 ≤ r
def OrR (w : World) (bc bm base : Nat) (room : Int) (N T : Nat) (x : Sx) (r : Nat) (v : Value) (wr : World) : Prop :=
  ∃ (done : List (Int × Int)) (cnt : Nat), OrS w bc bm base room N T x r v done cnt wr
theorem xcs_key {g : Nat} {cs : Array Value} (hC : CS W bc bm base room N T x) (h : Blo W g KT cs) : ¬ XC W bc bm base g := by
  rintro ⟨-, e | e | ⟨t, cs, q1, q2⟩⟩
  · exact h.apart hC.cb (by decide) e
  · exact hC.km.blo h e.symm
  · unfold Blo at h q1
    rw [q1] at h
    cases h
    rcases q2 with e | e
    · exact absurd e (by decide)
    · exact absurd e (by decide)
theorem nodup_len : ∀ (l m : List (Int × Int)), l.Nodup → (∀ x ∈ l, x ∈ m) → l.length ≤ m.length
  | [], _, _, _ => Nat.zero_le _
  | a :: l, m, hn, hs => by
    have h1 := List.nodup_cons.1 hn
    have h2 := nodup_len l (m.erase a) h1.2 (fun x hx => (List.mem_erase_of_ne (fun e => h1.1 (by rw [← e]; exact hx))).2 (hs x (List.mem_cons_of_mem _ hx)))
    have h3 := List.length_erase_of_mem (hs a List.mem_cons_self)
    have h4 := List.length_pos_of_mem (hs a List.mem_cons_self)
    simp only [List.length_cons]
    omega
theorem CS.few (hC : CS w bc bm base room N T x) {r n cnt : Nat} {done : List (Int × Int)} (hK : KR W bm r n x.f done cnt) : done.length ≤ 4096 := by
  obtain ⟨D, left, _, _, _, h4, h5⟩ := hK
  obtain ⟨D', _, _, _, hk, _⟩ := hC.km
  have := nodup_len done x.ks h4 (fun p hp => (hk p).2 (h5 p hp))
  have := hC.ps.len
  have := hC.ps.rm
  omega
theorem KR.ne {g r n cnt : Nat} {f : Int × Int → Option Nat} {done : List (Int × Int)} (h : KR w g r n f done cnt) : r ≠ g := by
  obtain ⟨D, left, q, _⟩ := h
  exact q.ne
theorem own_blo {base' : Nat} {e : TypeId} {sz n : Nat} {v : Value} {xs : List Value} (h : w.ownsRow base' e sz v n xs) {g : Nat} (hg : v.ownBlock = some g) : base' ≤ g ∧ ∃ cs, Blo w g e cs := by
  rcases h.2 with ⟨q, _⟩ | ⟨g', cap, cur, q, hb, hc, _⟩
  · rw [q] at hg; cases hg
  · rw [q] at hg
    obtain rfl : g' = g := by simpa [Value.ownBlock] using hg
    exact ⟨hb, cur, hc⟩
/-- Past a step of the range. -/
theorem OrS.step {r : Nat} {v : Value} {done : List (Int × Int)} {cnt : Nat} {wr : World} (h : OrS w bc bm base room N T x r v done cnt wr) {cnt' : Nat} {p : Int × Int} (hg : wr.grownBy w' (some r)) (hk : KR w' bm r x.n x.f (done ++ [p]) cnt') :
    w'.ownsRow (w.heap.size + 1) KT 2 v done.length (flatP done) ∧ CS w' bc bm base room N T x ∧ Blo w' w.heap.size PC #[.pointer (some ⟨bc, 0, none⟩)] ∧ Below w.heap.size w w' := by
  have ho : Out (fun g => g = r) wr w' := Out.of_grown hg (fun g e => by cases e; rfl)
  refine ⟨ho.own h.own (fun g hg e => ?_), h.cs.out ho (fun g hg e => ?_), ho.blo h.box (fun e => ?_), h.below.trans (ho.below h.below.size (fun g _ e => by have := h.rl; omega))⟩
  · obtain ⟨-, cs, hb⟩ := own_blo h.own hg
    exact h.kr.blo hb e.symm
  · rcases hg.2 with q | q | ⟨t, cs, q, _⟩
    · exact h.kr.blo h.cs.cb (by rw [← e, q])
    · exact h.kr.ne (by rw [← e, q])
    · exact h.kr.blo q e.symm
  · exact h.kr.blo h.box e.symm
/-- Past the append. -/
theorem OrS.app {r : Nat} {v v' : Value} {done : List (Int × Int)} {w6 w7 : World} {cnt' : Nat} {p : Int × Int} (h1 : w6.ownsRow (w.heap.size + 1) KT 2 v done.length (flatP done)) (h2 : CS w6 bc bm base room N T x) (h3 : Blo w6 w.heap.size PC #[.pointer (some ⟨bc, 0, none⟩)]) (h4 : Below w.heap.size w w6) (hk : KR w6 bm r x.n x.f (done ++ [p]) cnt') (hr : w.heap.size + 1 ≤ r)
    (hown : w7.ownsRow (w.heap.size + 1) KT 2 v' (done.length + 1) (flatP done ++ flatP [p])) (hg : w6.grownBy w7 v.ownBlock) : OrS w bc bm base room N T x r v' (done ++ [p]) cnt' w7 := by
  have ho : Out (fun g => v.ownBlock = some g) w6 w7 := Out.of_grown hg (fun g e => e)
  have hx : ∀ g, v.ownBlock = some g → w.heap.size + 1 ≤ g ∧ ∃ cs, Blo w6 g KT cs := fun g e => own_blo h1 e
  refine ⟨?_, hk.kept hg (fun e => ?_) (fun e => ?_), h2.out ho (fun g hg e => ?_), ho.blo h3 (fun e => ?_), h4.trans (ho.below h4.size (fun g _ e => by have := (hx g e).1; omega)), h2.few hk, hr⟩
  · rw [List.length_append, flatP_app]
    exact hown
  · obtain ⟨-, cs, hb⟩ := hx bm e.symm
    exact h2.km.blo hb rfl
  · obtain ⟨-, cs, hb⟩ := hx r e.symm
    exact hk.blo hb rfl
  · obtain ⟨-, cs, hb⟩ := hx g e
    exact (xcs_key h2 hb) hg
  · have := (hx _ e).1
    omega
end
end Go.Proofs.Ytdnkeplmjimjcaa
/-
  A region that draws its order, by what each of its operations leaves: one proof an operation, whatever the order.
-/
namespace Go.Proofs.Ytdnkeplmjimjcaa

def updV (X : Nat → Value) (i : Nat) (v : Value) : Nat → Value := fun j => if j = i then v else X j
theorem updV_at (X : Nat → Value) (i : Nat) (v : Value) : updV X i v i = v := by unfold updV; rw [if_pos rfl]
theorem updV_ne (X : Nat → Value) (i : Nat) (v : Value) {j : Nat} (h : j ≠ i) : updV X i v j = X j := by unfold updV; rw [if_neg h]
/-- The operations behind number n come one by one; those ahead wait for earlier ones alone. -/
def regInvB (md : Region.Mode) (ops : Array Oper) (n : Nat) : Bool :=
  decide (n ≤ ops.size) && (List.range n).all (fun i => ((ops[i]?).map (·.after.all fun e => !Region.binds md e || decide (e.on < i))).getD false) &&
  (decide (n = ops.size) || (List.range n).all (fun i => Region.waitsFor md ops n i)) && Region.chainB md ops n &&
  Region.seqB md ops (ops.size - n) n (Array.replicate n true ++ Array.replicate (ops.size - n) false)
section
variable {P : Program} {ops : Array Oper} {Q : Exit → Act → World → Prop} {md : Region.Mode}
structure HeadI (ops : Array Oper) (n : Nat) (listed : Array Bool) : Prop where
  size : listed.size = ops.size
  tail : ∀ t, n ≤ t → t < ops.size → listed.getD t true = false
theorem HeadI.set {n i : Nat} {listed : Array Bool} (h : HeadI ops n listed) (hi : i < n) : HeadI ops n (listed.setIfInBounds i true) :=
  ⟨by simp [h.size], fun t ht hts => by rw [getD_set_ne true (by omega)]; exact h.tail t ht hts⟩
theorem HeadI.full {n : Nat} {listed : Array Bool} (h : HeadI ops n listed) (hn : n ≤ ops.size) (hl : ∀ i, i < n → listed.getD i false = true) : listed = Array.replicate n true ++ Array.replicate (ops.size - n) false := by
  refine Array.ext (by simp [h.size]; omega) fun i h1 h2 => ?_
  by_cases hi : i < n
  · have := hl i hi
    rw [Array.getElem_append_left (by simpa using hi), Array.getElem_replicate]
    simpa [h1] using this
  · have := h.tail i (by omega) (by rw [← h.size]; exact h1)
    rw [Array.getElem_append_right (by simpa using hi), Array.getElem_replicate]
    simpa [h1] using this
theorem wpAny_inv {n : Nat} {I : Array Bool → Act → World → Prop} (hB : regInvB md ops n = true)
    (hstep : ∀ (listed : Array Bool) (a : Act) (w : World) (i : Nat) (o : Oper), ops[i]? = some o → i < n → listed.getD i true = false → (∀ e ∈ o.after, Region.binds md e = true → listed.getD e.on false = true) → I listed a w →
      ∀ K : Act → World → Prop, (∀ a' w', I (listed.setIfInBounds i true) a' w' → K a' w') → if Region.wanted o (yielded ops a.tmps) = true then Oper.wp P o a w K Q else K (a.put o.dst undef) w)
    (hend : ∀ (listed : Array Bool) (a : Act) (w : World), (∀ i, i < n → listed.getD i false = true) → I listed a w → wpList P ops Q (ops.toList.drop n) a w) :
    ∀ (f : Nat) (listed : Array Bool) (a : Act) (w : World), (listed.toList.take n).count false = f → HeadI ops n listed → I listed a w → wpAny P md ops Q (f + (ops.size - n)) listed a w := by
  unfold regInvB at hB
  simp only [Bool.and_eq_true, decide_eq_true_eq, Bool.or_eq_true] at hB
  obtain ⟨⟨⟨⟨hn, hlow⟩, hsink⟩, hchain⟩, hseq⟩ := hB
  intro f
  induction f with
  | zero =>
    intro listed a w hc hI h
    have hl : ∀ i, i < n → listed.getD i false = true := fun i hi => by
      have his : i < listed.size := by rw [hI.size]; omega
      cases hv : listed[i] with
      | true => simp [his, hv]
      | false =>
        exfalso
        have : false ∈ listed.toList.take n := by
          rw [List.mem_take_iff_getElem]
          exact ⟨i, by simp; omega, by simpa using hv⟩
        have := List.count_pos_iff.2 this
        omega
    have hcan := hI.full hn hl
    rw [Nat.zero_add]
    have hlen : (ops.toList.drop n).length = ops.size - n := by simp
    have hs2 : Region.seqB md ops (ops.toList.drop n).length n listed = true := by rw [hlen, hcan]; exact hseq
    have := wpAny_of_seq (md := md) (Q' := Q) (P := P) (ops.toList.drop n) n listed a w (fun j => by simp [List.getElem?_drop]) hs2 (hend listed a w hl h)
    rwa [hlen] at this
  | succ f ih =>
    intro listed a w hc hI h
    -- some head is unlisted
    have hex : ∃ i, i < n ∧ listed.getD i true = false ∧ ∀ j, j < i → listed.getD j false = true := by
      have hm : ∃ i, i < n ∧ listed.getD i true = false := by
        have : false ∈ listed.toList.take n := List.count_pos_iff.1 (by omega)
        rw [List.mem_take_iff_getElem] at this
        obtain ⟨i, hi, hv⟩ := this
        have his : i < listed.size := by simp at hi; omega
        refine ⟨i, by simp at hi; omega, ?_⟩
        simp [his]
        simpa using hv
      obtain ⟨i, hi, hv⟩ := hm
      induction i using Nat.strongRecOn with
      | _ i ih2 =>
        by_cases hall : ∀ j, j < i → listed.getD j false = true
        · exact ⟨i, hi, hv, hall⟩
        · obtain ⟨j, hj⟩ := Classical.not_forall.1 hall
          obtain ⟨hji, hjv⟩ := Classical.not_imp.1 hj
          exact ih2 j hji (by omega) (by
            have hjs : j < listed.size := by rw [hI.size]; omega
            simp [hjs] at hjv ⊢
            exact hjv)
    obtain ⟨i0, hi0, hv0, hbef⟩ := hex
    have hready0 : i0 ∈ Region.ready md ops listed := by
      have his : i0 < ops.size := by omega
      have h1 := List.all_eq_true.1 hlow i0 (List.mem_range.2 hi0)
      rw [mem_ready]
      rw [Array.getElem?_eq_getElem his] at h1
      simp only [Option.map_some, Option.getD_some] at h1
      refine ⟨hv0, _, Array.getElem?_eq_getElem his, fun e he hb => ?_⟩
      have h2 := Array.all_eq_true'.1 h1 e he
      simp only [hb, Bool.not_true, Bool.false_or, decide_eq_true_eq] at h2
      exact hbef _ h2
    rw [show f + 1 + (ops.size - n) = (f + (ops.size - n)) + 1 by omega]
    refine ⟨fun h0 => (by rw [h0] at hready0; cases hready0), fun i hi => ?_⟩
    obtain ⟨hiu, oi, hoi, hall⟩ := mem_ready.1 hi
    have his : i < ops.size := (Array.getElem?_eq_some_iff.1 hoi).1
    have hin : i < n := by
      rcases Nat.lt_or_ge i n with h' | h'
      · exact h'
      · exfalso
        by_cases hie : i = n
        · subst hie
          rcases hsink with hs | hs
          · omega
          · have h1 := List.all_eq_true.1 hs i0 (List.mem_range.2 hi0)
            obtain ⟨oj, hoj, e, he, hb, hon⟩ := Region.waitsFor_spec h1
            have : oj = oi := Option.some.inj (hoj.symm.trans hoi)
            subst this
            have h2 := hall e he hb
            rw [hon, getD_both hv0] at h2
            cases h2
        · have h1 := List.all_eq_true.1 hchain i (List.mem_range.2 his)
          simp only [Bool.or_eq_true, decide_eq_true_eq] at h1
          rcases h1 with h1 | h1
          · omega
          · obtain ⟨oj, hoj, e, he, hb, hon⟩ := Region.waitsFor_spec h1
            have : oj = oi := Option.some.inj (hoj.symm.trans hoi)
            subst this
            have h2 := hall e he hb
            rw [hon, getD_both (hI.tail (i - 1) (by omega) (by omega))] at h2
            cases h2
    refine wpOp_step hoi fun K' hK => ?_
    refine hstep listed a w i oi hoi hin hiu hall h K' fun a' w' hI' => hK a' w' (ih _ a' w' ?_ (hI.set hin) hI')
    have hil : i < listed.toList.length := by simp; rw [hI.size]; exact his
    have hiv : listed.toList[i] = false := by
      have := hiu
      simp at hil
      simp [hil] at this
      simpa using this
    have hlt2 : i < (List.take n listed.toList).length := by rw [List.length_take]; omega
    rw [Array.toList_setIfInBounds, List.take_set, List.count_set hlt2]
    have hgt : (List.take n listed.toList)[i]'hlt2 = false := by rw [List.getElem_take]; exact hiv
    simp [hgt, hc]
/-- The slots of the first operations, written one after another. -/
def putL : List (Nat × Nat) → (Nat → Value) → Act → Act
  | [], _, a => a
  | (i, d) :: l, X, a => putL l X (a.put (some d) (X i))
theorem put_comm (a : Act) {d d' : Nat} (h : d ≠ d') (u v : Value) : (a.put (some d) u).put (some d') v = (a.put (some d') v).put (some d) u := by
  simp only [Act.put]
  rw [Array.setIfInBounds_comm _ _ h]
theorem put_put (a : Act) (d : Nat) (u v : Value) : (a.put (some d) u).put (some d) v = a.put (some d) v := by
  simp [Act.put]
theorem put_putL : ∀ (l : List (Nat × Nat)) (X : Nat → Value) (a : Act) (d : Nat) (v : Value), (∀ x ∈ l, x.2 ≠ d) → (putL l X a).put (some d) v = putL l X (a.put (some d) v)
  | [], _, _, _, _, _ => rfl
  | (i, e) :: l, X, a, d, v, h => by
    rw [putL, put_putL l X _ d v (fun x hx => h x (List.mem_cons_of_mem _ hx)), put_comm a (h (i, e) List.mem_cons_self), putL]
theorem putL_upd : ∀ (l : List (Nat × Nat)) (X : Nat → Value) (a : Act) (i : Nat) (v : Value), (∀ x ∈ l, x.1 ≠ i) → putL l (updV X i v) a = putL l X a
  | [], _, _, _, _, _ => rfl
  | (j, e) :: l, X, a, i, v, h => by
    rw [putL, putL, updV_ne X i v (h (j, e) List.mem_cons_self), putL_upd l X _ i v (fun x hx => h x (List.mem_cons_of_mem _ hx))]
theorem putL_put : ∀ (l : List (Nat × Nat)) (X : Nat → Value) (a : Act) (i d : Nat) (v : Value), (l.map (·.1)).Nodup → (l.map (·.2)).Nodup → (i, d) ∈ l → (putL l X a).put (some d) v = putL l (updV X i v) a
  | [], _, _, _, _, _, _, _, h => by cases h
  | (j, e) :: l, X, a, i, d, v, h1, h2, hm => by
    rw [List.map_cons, List.nodup_cons] at h1 h2
    rcases List.mem_cons.1 hm with h | h
    · cases h
      rw [putL, putL, updV_at, putL_upd l X _ _ v (fun x hx e => h1.1 (List.mem_map.2 ⟨x, hx, e⟩)), put_putL l X _ _ v (fun x hx e => h2.1 (List.mem_map.2 ⟨x, hx, e⟩)), put_put]
    · have hji : j ≠ i := fun e => h1.1 (by rw [e]; exact List.mem_map_of_mem (f := (·.1)) h)
      rw [putL, putL, updV_ne X i v hji, putL_put l X _ i d v h1.2 h2.2 h]
theorem putL_own (a : Act) (g : Nat → Nat) : ∀ (l : List (Nat × Nat)), (∀ x ∈ l, g x.1 = x.2) → putL l (fun i => (a.tmps[g i]?).getD undef) a = a
  | [], _ => rfl
  | (i, d) :: l, h => by
    have e : a.put (some d) ((a.tmps[g i]?).getD undef) = a := by
      rw [h (i, d) List.mem_cons_self]
      simp only [Act.put]
      rcases Nat.lt_or_ge d a.tmps.size with hd | hd
      · have : a.tmps.setIfInBounds d ((a.tmps[d]?).getD undef) = a.tmps := by
          rw [Array.setIfInBounds, dif_pos hd, Array.getElem?_eq_getElem hd, Option.getD_some]
          exact Array.set_getElem_self hd
        rw [this]
      · have : a.tmps.setIfInBounds d ((a.tmps[d]?).getD undef) = a.tmps := by rw [Array.setIfInBounds, dif_neg (by omega)]
        rw [this]
    rw [putL, e, putL_own a g l (fun x hx => h x (List.mem_cons_of_mem _ hx))]
def nodupB : List Nat → Bool
  | [] => true
  | x :: l => !l.contains x && nodupB l
theorem nodup_of : ∀ {l : List Nat}, nodupB l = true → l.Nodup
  | [], _ => List.nodup_nil
  | x :: l, h => by
    simp only [nodupB, Bool.and_eq_true, Bool.not_eq_true', List.contains_eq_mem, decide_eq_false_iff_not] at h
    exact List.nodup_cons.2 ⟨h.1, nodup_of h.2⟩
def dstsB (ops : Array Oper) (n : Nat) (l : List (Nat × Nat)) : Bool :=
  nodupB (l.map (·.1)) && nodupB (l.map (·.2)) && (List.range n).all (fun i => match (ops[i]?).bind (·.dst) with | some d => l.contains (i, d) | none => true) &&
  l.all (fun x => (ops[x.1]?).bind (·.dst) == some x.2)
def updD (D : Nat → Bool) (i : Nat) : Nat → Bool := fun j => if j = i then true else D j
theorem updD_at (D : Nat → Bool) (i : Nat) : updD D i i = true := by unfold updD; rw [if_pos rfl]
theorem updD_ne (D : Nat → Bool) (i : Nat) {j : Nat} (h : j ≠ i) : updD D i j = D j := by unfold updD; rw [if_neg h]
/-- Each operation's own proof. -/
def StepsI (P : Program) (ops : Array Oper) (Q : Exit → Act → World → Prop) (F : (Nat → Value) → Act) (I : (Nat → Bool) → (Nat → Value) → World → Prop) : Nat → List Oper → Prop
  | _, [] => True
  | k, o :: r => (∀ (D : Nat → Bool) (X : Nat → Value) (W : World), D k = false → (∀ e ∈ o.after, Region.binds .any e = true → D e.on = true) → I D X W →
      ∀ K : Act → World → Prop, (∀ v W', I (updD D k) (updV X k v) W' → K ((F X).put o.dst v) W') → if Region.wanted o (yielded ops (F X).tmps) = true then Oper.wp P o (F X) W K Q else K ((F X).put o.dst undef) W) ∧ StepsI P ops Q F I (k + 1) r
theorem StepsI.at_ {F : (Nat → Value) → Act} {I : (Nat → Bool) → (Nat → Value) → World → Prop} : ∀ {l : List Oper} {k : Nat}, StepsI P ops Q F I k l → ∀ (i : Nat) (o : Oper), l[i]? = some o →
    ∀ (D : Nat → Bool) (X : Nat → Value) (W : World), D (k + i) = false → (∀ e ∈ o.after, Region.binds .any e = true → D e.on = true) → I D X W →
      ∀ K : Act → World → Prop, (∀ v W', I (updD D (k + i)) (updV X (k + i) v) W' → K ((F X).put o.dst v) W') → if Region.wanted o (yielded ops (F X).tmps) = true then Oper.wp P o (F X) W K Q else K ((F X).put o.dst undef) W
  | [], _, _, i, o, ho => by simp at ho
  | o' :: l, k, h, 0, o, ho => by
    have : o' = o := by simpa using ho
    subst this
    exact h.1
  | o' :: l, k, h, i + 1, o, ho => by
    have := StepsI.at_ h.2 i o (by simpa using ho)
    rw [show k + 1 + i = k + (i + 1) by omega] at this
    exact this
/-- The law: what holds between the operations (D: which have been carried out; X: what their slots hold). -/
theorem wp_region_inv {id n : Nat} {a : Act} {w : World} (l : List (Nat × Nat)) (I : (Nat → Bool) → (Nat → Value) → World → Prop) (hm : P.follows .mixedOrders = true) (hB : regInvB .any ops n = true) (hl : dstsB ops n l = true)
    {F : (Nat → Value) → Act} (hF : ∀ X, putL l X a = F X) (h0 : ∀ X, I (fun _ => false) X w.drew) (hs : StepsI P ops Q F I 0 (ops.toList.take n))
    (ht : ∀ D X W, (∀ i, i < n → D i = true) → I D X W → wpList P ops Q (ops.toList.drop n) (F X) W) : (Code.region id ops true).wp P Q a w := by
  refine wp_region_any hm ?_
  have hB' := hB
  unfold regInvB at hB'
  simp only [Bool.and_eq_true, decide_eq_true_eq, Bool.or_eq_true] at hB'
  obtain ⟨⟨⟨⟨hn, hlow⟩, _⟩, _⟩, _⟩ := hB'
  unfold dstsB at hl
  simp only [Bool.and_eq_true] at hl
  obtain ⟨⟨⟨hl1, hl2⟩, hl3⟩, hl4⟩ := hl
  have hput : ∀ (X : Nat → Value) (i : Nat) (o : Oper), ops[i]? = some o → i < n → ∀ v, (F X).put o.dst v = F (updV X i v) := by
    intro X i o ho hi v
    have h1 := List.all_eq_true.1 hl3 i (List.mem_range.2 hi)
    rw [← hF, ← hF]
    cases hd : o.dst with
    | none =>
      show putL l X a = _
      refine (putL_upd l X a i v (fun x hx e => ?_)).symm
      have h2 := List.all_eq_true.1 hl4 x hx
      rw [e, ho] at h2
      simp [hd] at h2
    | some d =>
      rw [ho] at h1
      simp only [Option.bind_some, hd] at h1
      exact putL_put l X a i d v (nodup_of hl1) (nodup_of hl2) (by simpa using h1)
  have hown := putL_own a (fun i => ((ops[i]?).bind (·.dst)).getD 0) l (fun x hx => by
    have h2 := List.all_eq_true.1 hl4 x hx
    have h3 : (ops[x.1]?).bind (·.dst) = some x.2 := by simpa using h2
    rw [h3]; rfl)
  rw [hF] at hown
  have := wpAny_inv (P := P) (Q := Q) (md := .any) (ops := ops) (n := n) (I := fun listed b W => ∃ X D, b = F X ∧ I D X W ∧ ∀ i, i < n → D i = listed.getD i false) hB
    (fun listed b W i o ho hi hu hdeps hI K hK => by
      obtain ⟨X, D, rfl, hI, hD⟩ := hI
      have hi0 : (ops.toList.take n)[i]? = some o := by rw [List.getElem?_take_of_lt hi]; simpa using ho
      have key := StepsI.at_ hs i o hi0 D X W
      rw [Nat.zero_add] at key
      refine key (by rw [hD i hi]; exact getD_both hu) (fun e he hb => ?_) hI K (fun v W' hI' => hK _ _ ⟨updV X i v, updD D i, hput X i o ho hi v, hI', fun j hj => ?_⟩)
      · have h1 := List.all_eq_true.1 hlow i (List.mem_range.2 hi)
        rw [ho] at h1
        simp only [Option.map_some, Option.getD_some] at h1
        have h2 := Array.all_eq_true'.1 h1 e he
        simp only [hb, Bool.not_true, Bool.false_or, decide_eq_true_eq] at h2
        rw [hD e.on (by omega)]
        exact hdeps e he hb
      · by_cases hji : j = i
        · subst hji
          rw [updD_at]
          rcases Nat.lt_or_ge j listed.size with h' | h'
          · simp [h']
          · rw [Array.getD_eq_getD_getElem?, Array.getElem?_eq_none h'] at hu; cases hu
        · rw [updD_ne _ _ hji, getD_set_ne false (Ne.symm hji)]
          exact hD j hj)
    (fun listed b W hll hI => by
      obtain ⟨X, D, rfl, hI, hD⟩ := hI
      exact ht D X W (fun i hi => by rw [hD i hi]; exact hll i hi) hI)
    n (Array.replicate ops.size false) a { w with drawn := w.drawn + 1 }
    (by rw [Array.toList_replicate, List.take_replicate, List.count_replicate]; simp; omega)
    ⟨by simp, fun t ht hts => by simp [hts]⟩
    ⟨_, fun _ => false, hown.symm, h0 _, fun i hi => (getD_replicate_false _ _).symm⟩
  rwa [show n + (ops.size - n) = ops.size by omega] at this
end
end Go.Proofs.Ytdnkeplmjimjcaa
/-
  Memory of a region's own that draws its order: which operation's slot holds which object: rows that are appended to, blocks that are made and stored into; whatever they hold.
-/
namespace Go.Proofs.Ytdnkeplmjimjcaa
open Go.RowKit

def blkOf : Value → Option Nat
  | .slice (some a) _ _ => some a.block
  | .pointer (some a) => some a.block
  | _ => none
structure ObjT where
  p : Value → World → Prop
  c : Nat
  o : Nat
def Stab (p : Value → World → Prop) : Prop := ∀ v W W' b, W.grownBy W' b → (∀ k, blkOf v = some k → some k ≠ b) → p v W → p v W'
theorem blk_own {w : World} {base : Nat} {e : TypeId} {size : Nat} {v : Value} {n : Nat} {xs : List Value} (h : w.ownsRow base e size v n xs) : v.ownBlock = blkOf v := by
  rcases h.2 with ⟨rfl, _⟩ | ⟨g, cap, cur, rfl, _⟩ <;> rfl
def rowP (base : Nat) (e : TypeId) (size n : Nat) (xs : List Value) : Value → World → Prop := fun v W => W.ownsRow base e size v n xs
def cellsP (base : Nat) (t : TypeId) (cs : Array Value) : Value → World → Prop := fun v W => ∃ g, v = .pointer (some ⟨g, 0, none⟩) ∧ base ≤ g ∧ Blo W g t cs
theorem stab_row (base : Nat) (e : TypeId) (size n : Nat) (xs : List Value) : Stab (rowP base e size n xs) := fun v W W' b hg hk h => by
  refine World.ownsRow.kept h hg ?_
  rw [blk_own h]
  cases hb : blkOf v with
  | none => exact .inl rfl
  | some k => exact .inr fun e => hk k hb (by rw [← e])
theorem stab_cells (base : Nat) (t : TypeId) (cs : Array Value) : Stab (cellsP base t cs) := fun v W W' b hg hk h => by
  obtain ⟨g, rfl, h1, h2⟩ := h
  exact ⟨g, rfl, h1, h2.grown hg (hk g rfl)⟩
def DetO (T : List (Nat × Value)) (D : Nat → Bool) (X : Nat → Value) : Prop := ∀ x ∈ T, D x.1 = true → X x.1 = x.2
structure GI (R : List (Nat × ObjT)) (T : List (Nat × Value)) (C : List (Nat × Nat)) (w : World) (D : Nat → Bool) (X : Nat → Value) (W : World) : Prop where
  b : Below w.heap.size w W
  rows : ∀ x ∈ R, D x.1 = true → (∀ y ∈ R, y.2.c = x.2.c → x.2.o < y.2.o → D y.1 = false) → x.2.p (X x.1) W
  blk : ∀ x ∈ R, D x.1 = true → ∀ k, blkOf (X x.1) = some k → w.heap.size ≤ k ∧ k < W.heap.size
  ap : ∀ x ∈ R, ∀ y ∈ R, x.2.c ≠ y.2.c → D x.1 = true → D y.1 = true → ∀ k, blkOf (X x.1) = some k → blkOf (X y.1) ≠ some k
  dt : DetO T D X
  cl : ∀ x ∈ C, D x.1 = true → D x.2 = true
def keysO (R : List (Nat × ObjT)) : Prop := ∀ x ∈ R, ∀ y ∈ R, x.1 = y.1 → x = y
def stabs (R : List (Nat × ObjT)) : Prop := ∀ x ∈ R, Stab x.2.p
theorem keysO_of {R : List (Nat × ObjT)} (h : nodupB (R.map (·.1)) = true) : keysO R := by
  have hn := nodup_of h
  clear h
  induction R with
  | nil => intro x hx; cases hx
  | cons a R ih =>
    rw [List.map_cons, List.nodup_cons] at hn
    intro x hx y hy e
    rcases List.mem_cons.1 hx with rfl | hx' <;> rcases List.mem_cons.1 hy with rfl | hy'
    · rfl
    · exact absurd (by rw [e]; exact List.mem_map_of_mem (f := (·.1)) hy') hn.1
    · exact absurd (by rw [← e]; exact List.mem_map_of_mem (f := (·.1)) hx') hn.1
    · exact ih hn.2 x hx' y hy' e
section
variable {R : List (Nat × ObjT)} {T : List (Nat × Value)} {C : List (Nat × Nat)} {w W W' : World} {D : Nat → Bool} {X : Nat → Value}
theorem updD_ofO {D : Nat → Bool} {i j : Nat} (h : updD D i j = true) : j = i ∨ (j ≠ i ∧ D j = true) := by
  by_cases e : j = i
  · exact .inl e
  · rw [updD_ne D i e] at h; exact .inr ⟨e, h⟩
theorem updD_offO {D : Nat → Bool} {i j : Nat} (h : updD D i j = false) : D j = false := by
  by_cases e : j = i
  · rw [e, updD_at] at h; cases h
  · rwa [updD_ne D i e] at h
theorem updD_upO {D : Nat → Bool} {i j : Nat} (h : D j = true) : updD D i j = true := by
  by_cases e : j = i
  · rw [e, updD_at]
  · rw [updD_ne D i e]; exact h
theorem GI.start (hw : Below w.heap.size w W) : GI R T C w (fun _ => false) X W :=
  ⟨hw, fun _ _ h => (by cases h), fun _ _ h => (by cases h), fun _ _ _ _ _ h => (by cases h), fun _ _ h => (by cases h), fun _ _ h => (by cases h)⟩
theorem GI.size (h : GI R T C w D X W) : w.heap.size ≤ W.heap.size := h.b.size
theorem DetO.set {T : List (Nat × Value)} {D : Nat → Bool} {X : Nat → Value} (h : DetO T D X) (i : Nat) (v : Value) (hv : ∀ x ∈ T, x.1 = i → x.2 = v) : DetO T (updD D i) (updV X i v) := fun x hx hd => by
  by_cases e : x.1 = i
  · rw [e, updV_at]; exact (hv x hx e).symm
  · rw [updV_ne X i v e]
    rw [updD_ne D i e] at hd
    exact h x hx hd
/-- An operation whose slot is no object of the region's own; it may make new memory. -/
theorem GI.tell (h : GI R T C w D X W) (hs : stabs R) (i : Nat) (v : Value) (hb : Below W.heap.size W W') (hR : ∀ x ∈ R, x.1 ≠ i) (hv : ∀ x ∈ T, x.1 = i → x.2 = v) (hc : ∀ x ∈ C, x.1 = i → D x.2 = true) : GI R T C w (updD D i) (updV X i v) W' := by
  have hd : ∀ x ∈ R, updD D i x.1 = true → D x.1 = true := fun x hx hh => by rwa [updD_ne D i (hR x hx)] at hh
  have hg : W.grownBy W' none := grown_of_below hb none
  refine ⟨h.b.trans (hb.mono h.size), fun x hx hh hn => ?_, fun x hx hh k hk => ?_, fun x hx y hy hcc h1 h2 k hk => ?_, h.dt.set i v hv, fun x hx hh => ?_⟩
  · rw [updV_ne X i v (hR x hx)]
    exact hs x hx _ W W' none hg (fun _ _ e => by cases e) (h.rows x hx (hd x hx hh) (fun y hy e1 e2 => updD_offO (hn y hy e1 e2)))
  · rw [updV_ne X i v (hR x hx)] at hk
    have := h.blk x hx (hd x hx hh) k hk
    have := hb.size
    omega
  · rw [updV_ne X i v (hR x hx)] at hk
    rw [updV_ne X i v (hR y hy)]
    exact h.ap x hx y hy hcc (hd x hx h1) (hd y hy h2) k hk
  · rcases updD_ofO hh with e | ⟨_, e⟩
    · exact updD_upO (hc x hx e)
    · exact updD_upO (h.cl x hx e)
/-- An operation that makes an object anew (b = none), or changes the newest one of its class. -/
theorem GI.set (h : GI R T C w D X W) (hk : keysO R) (hs : stabs R) (i : Nat) (v : Value) (z : ObjT) (hz : (i, z) ∈ R) (b : Option Nat) (hg : W.grownBy W' b)
    (hb : ∀ k, b = some k → w.heap.size ≤ k ∧ k < W.heap.size ∧ ∀ x ∈ R, D x.1 = true → x.2.c ≠ z.c → blkOf (X x.1) ≠ some k)
    (hv : ∀ k, blkOf v = some k → w.heap.size ≤ k ∧ k < W'.heap.size ∧ (b = some k ∨ W.heap.size ≤ k))
    (hlast : ∀ y ∈ R, y.2.c = z.c → y.1 ≠ i → y.2.o < z.o ∨ D y.1 = false)
    (ho : z.p v W') (hT : ∀ x ∈ T, x.1 ≠ i) (hc : ∀ x ∈ C, x.1 = i → D x.2 = true) : GI R T C w (updD D i) (updV X i v) W' := by
  have hb' : Below w.heap.size w W' := h.b.grown hg h.b.size (fun k hkk => (hb k hkk).1)
  have apr : ∀ x ∈ R, x.2.c ≠ z.c → D x.1 = true → ∀ k, blkOf (X x.1) = some k → some k ≠ b := fun x hx hc hd k hkk e => (hb k e.symm).2.2 x hx hd hc hkk
  have aps : ∀ x ∈ R, x.2.c ≠ z.c → D x.1 = true → ∀ k, blkOf (X x.1) = some k → blkOf v ≠ some k := fun x hx hc hd k hkk e => by
    rcases (hv k e).2.2 with e2 | e2
    · exact apr x hx hc hd k hkk e2.symm
    · have := (h.blk x hx hd k hkk).2
      omega
  have cls : ∀ x ∈ R, x.1 = i → x = (i, z) := fun x hx e => hk x hx _ hz e
  refine ⟨hb', fun x hx hh hn => ?_, fun x hx hh k hkk => ?_, fun x hx y hy hcc h1 h2 k hkk => ?_, fun x hx hd => ?_, fun x hx hh => ?_⟩
  · by_cases e : x.1 = i
    · have := cls x hx e
      subst this
      rw [updV_at]; exact ho
    · rw [updD_ne D i e] at hh
      by_cases hcc : x.2.c = z.c
      · rcases hlast x hx hcc e with h3 | h3
        · have := hn (i, z) hz hcc.symm h3
          rw [updD_at] at this; cases this
        · rw [h3] at hh; cases hh
      · rw [updV_ne X i v e]
        exact hs x hx _ W W' b hg (apr x hx hcc hh) (h.rows x hx hh (fun y hy e1 e2 => updD_offO (hn y hy e1 e2)))
  · by_cases e : x.1 = i
    · rw [e, updV_at] at hkk
      exact ⟨(hv k hkk).1, (hv k hkk).2.1⟩
    · rw [updV_ne X i v e] at hkk
      rw [updD_ne D i e] at hh
      have := h.blk x hx hh k hkk
      have := hg.size
      omega
  · by_cases e : x.1 = i
    · have hxe := cls x hx e
      have hye : y.1 ≠ i := fun e2 => by
        have := cls y hy e2
        rw [hxe, this] at hcc; exact hcc rfl
      rw [e, updV_at] at hkk
      rw [updV_ne X i v hye]
      rw [updD_ne D i hye] at h2
      intro e3
      exact aps y hy (fun e2 => hcc (by rw [hxe, e2])) h2 k e3 hkk
    · rw [updV_ne X i v e] at hkk
      rw [updD_ne D i e] at h1
      by_cases e2 : y.1 = i
      · have hye := cls y hy e2
        rw [e2, updV_at]
        exact aps x hx (fun e3 => hcc (by rw [hye, e3])) h1 k hkk
      · rw [updV_ne X i v e2]
        rw [updD_ne D i e2] at h2
        exact h.ap x hx y hy hcc h1 h2 k hkk
  · rw [updV_ne X i v (hT x hx)]
    rw [updD_ne D i (hT x hx)] at hd
    exact h.dt x hx hd
  · rcases updD_ofO hh with e | ⟨_, e⟩
    · exact updD_upO (hc x hx e)
    · exact updD_upO (h.cl x hx e)
/-- A new block. -/
theorem GI.fresh (h : GI R T C w D X W) (hk : keysO R) (hs : stabs R) (i : Nat) (v : Value) (z : ObjT) (hz : (i, z) ∈ R) (hb : Below W.heap.size W W') (hv : ∀ k, blkOf v = some k → W.heap.size ≤ k ∧ k < W'.heap.size)
    (hlast : ∀ y ∈ R, y.2.c = z.c → y.1 ≠ i → y.2.o < z.o ∨ D y.1 = false) (ho : z.p v W') (hT : ∀ x ∈ T, x.1 ≠ i) (hc : ∀ x ∈ C, x.1 = i → D x.2 = true) : GI R T C w (updD D i) (updV X i v) W' :=
  h.set hk hs i v z hz none (grown_of_below hb none) (fun k e => by cases e) (fun k e => ⟨Nat.le_trans h.size (hv k e).1, (hv k e).2, .inr (hv k e).1⟩) hlast ho hT hc
/-- The newest one of its class changed, or put into a new block. -/
theorem GI.onto (h : GI R T C w D X W) (hk : keysO R) (hs : stabs R) (i p : Nat) (v : Value) (z y0 : ObjT) (hz : (i, z) ∈ R) (hp : (p, y0) ∈ R) (hcl : z.c = y0.c) (hpd : D p = true)
    (hg : W.grownBy W' (blkOf (X p))) (hv : blkOf v = blkOf (X p) ∨ (blkOf v = some W.heap.size ∧ W.heap.size < W'.heap.size))
    (hlast : ∀ y ∈ R, y.2.c = z.c → y.1 ≠ i → y.2.o < z.o ∨ D y.1 = false) (ho : z.p v W') (hT : ∀ x ∈ T, x.1 ≠ i) (hc : ∀ x ∈ C, x.1 = i → D x.2 = true) : GI R T C w (updD D i) (updV X i v) W' := by
  refine h.set hk hs i v z hz (blkOf (X p)) hg (fun k e => ⟨(h.blk _ hp hpd k e).1, (h.blk _ hp hpd k e).2, fun x hx hd hcc e2 => ?_⟩) (fun k e => ?_) hlast ho hT hc
  · exact h.ap x hx (p, y0) hp (by rw [← hcl]; exact hcc) hd hpd k e2 e
  · rcases hv with e2 | ⟨e2, e3⟩
    · rw [e2] at e
      have := h.blk _ hp hpd k e
      have := hg.size
      exact ⟨by omega, by omega, .inl e⟩
    · rw [e2] at e
      cases e
      exact ⟨h.size, e3, .inr (Nat.le_refl _)⟩
end
/-! Steps -/
section
variable {P : Program} {ops : Array Oper} {Q : Exit → Act → World → Prop} {o : Oper} {a : Act} {w w' : World} {K : Act → World → Prop} {E : Prop}
theorem stepO_run {v : Value} (hw : Region.wanted o (yielded ops a.tmps) = true) (hr : (execOp a.eval o).run P w = .ok (.value v) w') (hk : K (a.put o.dst v) w') :
    if Region.wanted o (yielded ops a.tmps) = true then Oper.wp P o a w K Q else E := by
  rw [if_pos hw]
  unfold Oper.wp
  rw [hr]
  exact hk
theorem stepO_call {f : FuncId} {args : Array Value} {post : Ending → World → Prop} (hw : Region.wanted o (yielded ops a.tmps) = true) (hr : (execOp a.eval o).run P w = .ok (.enter f args) w)
    (hc : Calls P f args w post) (hk : ∀ e w', post e w' → ∃ v, e = .returned v ∧ K (a.put o.dst v) w') :
    if Region.wanted o (yielded ops a.tmps) = true then Oper.wp P o a w K Q else E := by
  rw [if_pos hw]
  unfold Oper.wp
  rw [hr]
  exact hc.mono fun e w' h => by
    obtain ⟨v, rfl, h2⟩ := hk e w' h
    exact h2
theorem stepO_store (hw : Region.wanted o (yielded ops a.tmps) = true) (ty : TypeId) (x y : Operand) (ho : o.op = .store ty x y) (g : Nat) (cells : Array Value) (hx : a.eval x = .pointer (some ⟨g, 0, none⟩)) (hy : a.eval y = .agg cells)
    (t : TypeId) (old : Array Value) (hg : Blo w g t old) (hi : (P.info? ty).map (·.size) = some cells.size) (hold : old.size = cells.size) (h1 : cells.all (·.oneCell') = true) (hd : o.dst = none) (v : Value)
    (hk : Blo (w.setRow g cells) g t cells → w.grownBy (w.setRow g cells) (some g) → K (a.put o.dst v) (w.setRow g cells)) :
    if Region.wanted o (yielded ops a.tmps) = true then Oper.wp P o a w K Q else E := by
  rw [if_pos hw]
  refine wp_store_row ty x y ho g cells hx hy t old hg hi hold h1 ?_
  have := hk (setRow_heap w g old cells t (0, 0) hg) ⟨rfl, rfl, rfl, by simp, fun k _ hne => setRow_other w g k cells (fun e => hne (by rw [e]))⟩
  rw [hd] at this ⊢
  exact this
theorem stepO_append (hw : Region.wanted o (yielded ops a.tmps) = true) (s x : Operand) (t : TypeId) (ho : o.op = .call { callee := .builtin .append, args := #[s, x], argTypes := #[t, t] })
    (base : Nat) (e : TypeId) (z : Value) (size bytes : Nat) (ht : P.underlying t = some (.slice e)) (hi : (P.info? e).map (fun i => (i.zero, i.size, i.bytes)) = some (some z, size, bytes)) (hzs : z.cells.size = size) (hsz : 0 < size) (hby : bytes ≤ 1000)
    (v : Value) (n : Nat) (xs : List Value) (hs : a.eval s = v) (hown : w.ownsRow base e size v n xs) (ao : Option Addr) (m c : Nat) (ys : List Value) (hx : a.eval x = .slice ao m c) (hl : ys.length = m * size) (hy : ∀ ad, ao = some ad → ∀ j u, ys[j]? = some u → w.cell? (ad.add j) = some u) (h1 : ∀ u ∈ ys, u.oneCell' = true) (hnone : ao = none → m = 0)
    (hroom : n + m ≤ 1000000) (hbase : base ≤ w.heap.size)
    (hk : ∀ v' w', w'.ownsRow base e size v' (n + m) (xs ++ ys) → w.grownBy w' (blkOf v) → (blkOf v' = blkOf v ∨ (blkOf v' = some w.heap.size ∧ w.heap.size < w'.heap.size)) → K (a.put o.dst v') w') :
    if Region.wanted o (yielded ops a.tmps) = true then Oper.wp P o a w K Q else E := by
  obtain ⟨i, hi0, hz, hs1, hb1⟩ := info_parts hi
  rw [if_pos hw]
  unfold Oper.wp
  cases ao with
  | none =>
    obtain rfl := hnone rfl
    have hys : ys = [] := List.eq_nil_of_length_eq_zero (by rw [hl]; simp)
    subst hys
    have hrun : (Builtin.append_ #[t, t] o.type #[v, .slice none 0 c]).run P w = .ok v w := by
      rcases hown.2 with ⟨rfl, rfl⟩ | ⟨g, cap, cur, rfl, _, _, hnc, _⟩
      · simp [Builtin.append_, run_underlying ht, sizeOf, typeInfo, hi0, Builtin.lenOf, Builtin.firstCells]
      · simp [Builtin.append_, run_underlying ht, sizeOf, typeInfo, hi0, Builtin.lenOf, Builtin.firstCells, hnc, storeCells]
    simp [execOp, ho, resolve, invoke, builtin, hs, hx, hrun, Result.andThen]
    exact hk v w (by simpa using hown) ⟨rfl, rfl, rfl, Nat.le_refl _, fun _ _ _ => rfl⟩ (.inl rfl)
  | some ad =>
    obtain ⟨v', w', hrun, h2, h3, _, h5⟩ := run_append_own_at (P := P) w base t o.type e i z size bytes ht hi0 hz hs1 hb1 hzs hsz v n xs hown ad m c ys hl (hy ad rfl) h1 (by unfold maxLen; omega) (Nat.le_trans (Nat.mul_le_mul hroom hby) (by decide)) hbase
    simp [execOp, ho, resolve, invoke, builtin, hs, hx, hrun, Result.andThen]
    rw [blk_own hown] at h3 h5
    refine hk v' w' h2 h3 ?_
    rw [← blk_own h2]
    rcases h5 with h5 | h5
    · exact .inl h5
    · exact .inr ⟨h5, (h2.lt _ h5).2⟩
end
end Go.Proofs.Ytdnkeplmjimjcaa
