/-
  SgWtn · SgClM · SgWhN · SgCl: these texts in one.
-/
import Derived.Test.YtlkgaefabahkoaaDoorPk20
import Derived.Test.YtlkgaefabahkoaaDoorPk12
import Derived.Test.YtlkgaefabahkoaaDoorPk19
import Derived.Test.YtlkgaefabahkoaaDoorPk10
import Derived.Test.YtlkgaefabahkoaaDoorPk16
import Derived.Test.YtlkgaefabahkoaaDoorPk17
import Derived.BigQuiet
/-
  Partial segments: pieces that came in; written.
-/
namespace Go.Proofs.YtlkgaefabahkoaaDoor
open Go.RowKit

theorem fisN_later {w w' : World} {a : Option Addr} {l : List Fi} (h : FisN w a l) (hF : Fis w a l) (hb : Below w.heap.size w w') : FisN w' a l := fun b o i n c hi ha hc => by
  obtain ⟨b', o', c', cp, ha', _, _, h3, _⟩ := hF.at hi
  rw [ha] at ha'
  cases ha'
  have h4 := cell_later hb h3
  rw [h4] at hc
  injection hc with hc
  injection hc with e1 e2 e3
  subst e1 e2 e3
  exact h b o i _ _ hi ha h3
abbrev PZT := 51
structure Pz where
  ad : Int
  m : Sm
  fa : Option Addr
  fn : Nat
  fc : Nat
  ia : Option Addr
  inn : Nat
  ic : Nat
  da : Option Addr
  dn : Nat
  dc : Nat
  dt : List Nat
abbrev pzA (p : Pz) : Array Value := pieceA p.ad p.m p.fa p.fn p.fc p.ia p.inn p.ic p.da p.dn p.dc
/-- A slice of pieces that came in. -/
structure Pzs (w : World) (a : Option Addr) (n : Nat) (K : Nat → Pz) : Prop where
  at_ : ∀ i, i < n → ∃ b o, a = some ⟨b, o, none⟩ ∧ ∀ j u, (pzA (K i))[j]? = some u → w.cell? ⟨b, o + i * 9 + j, none⟩ = some u
  each : ∀ i, i < n → PieceIn w (K i).ad (K i).m (K i).fa (K i).fn (K i).fc (K i).ia (K i).inn (K i).ic (K i).da (K i).dn (K i).dc (K i).dt
def stepZ (d : Dm) (p : Pz) : Dm := if few15 p.m.fs p.m.is p.dn = true then (segW d p.ad p.m (lsF (rnd p.dt) (rdN p.m))).1 else d
def wtD (n0 : Nat) (K : Nat → Pz) : Nat → Dm
  | 0 => newD n0
  | i + 1 => stepZ (wtD n0 K i) (K i)
theorem stepZ_n (d : Dm) (p : Pz) : (stepZ d p).n = d.n := by
  unfold stepZ
  split
  · exact segW_n _ _ _ _
  · rfl
theorem wtD_n (n0 : Nat) (K : Nat → Pz) : ∀ i, (wtD n0 K i).n = n0
  | 0 => rfl
  | i + 1 => (stepZ_n _ _).trans (wtD_n n0 K i)
theorem rdN_few {p : Pz} (h : few15 p.m.fs p.m.is p.dn = true) : rdN p.m ≤ 120 := by
  have q := few15_yes h
  unfold rdN
  omega
theorem wtD_rm (n0 : Nat) (K : Nat → Pz) : ∀ i, i ≤ 12 → Rm (wtD n0 K i) (4000 - i * 200)
  | 0, _ => rm_new n0 4000 (by decide)
  | i + 1, hi => by
    have h := wtD_rm n0 K i (by omega)
    show Rm (stepZ (wtD n0 K i) (K i)) _
    unfold stepZ
    split
    · rename_i hf
      have := rdN_few hf
      exact Rm.seg (h.mono (by rw [lsF_length]; omega))
    · exact h.mono (by omega)
theorem wtD_rd {n : Nat} (n0 : Nat) (h1 : 1 ≤ n0) (h2 : n0 ≤ 4096) (K : Nat → Pz) (hK : ∀ i, i < n → ∀ x ∈ (K i).dt, x < 256) : ∀ i, i ≤ 12 → i ≤ n → Rd (wtD n0 K i) (4000 - i * 200)
  | 0, _, _ => rd_new n0 4000 h1 h2 (by decide)
  | i + 1, hi, hn => by
    have h := wtD_rd n0 h1 h2 K hK i (by omega) (by omega)
    show Rd (stepZ (wtD n0 K i) (K i)) _
    unfold stepZ
    split
    · rename_i hf
      have := rdN_few hf
      exact Rd.seg (h.mono (by rw [lsF_length]; omega)) (rnd_byte (hK i (by omega)) _ (by omega))
    · exact h.mono (by omega)
structure WtR (w : World) (g9 : Nat) (n0 : Nat) (K : Nat → Pz) (L : Dl) (i : Nat) (W : World) : Prop where
  dk : ∃ q, Dk w.heap.size W { L with qv := q } (wtD n0 K i)
  mr : ∃ sa qa sc qc, Mr W sa qa sc qc (wtD n0 K i) ∧ Blo W g9 RDT (agR sa qa sc qc (wtD n0 K i))
  res : Blo W w.heap.size RDT zdk
  below : Below w.heap.size w W
def WrtO (n0 : Nat) (K : Nat → Pz) (n : Nat) (w : World) (e : Ending) (w' : World) : Prop :=
  ∃ L sa qa sc qc, e = .returned (.tuple #[.pointer (some ⟨L.bd, 0, none⟩), .agg (agR sa qa sc qc (wtD n0 K (min n 12))), .bool true]) ∧ Dk w.heap.size w' L (wtD n0 K (min n 12)) ∧ Mr w' sa qa sc qc (wtD n0 K (min n 12)) ∧ Below w.heap.size w w'
section
variable {w w' W : World} {L : Dl} {K : Nat → Pz} {n0 i g9 : Nat}
theorem WtR.later (h : WtR w g9 n0 K L i W) (hb : Below W.heap.size W w') : WtR w g9 n0 K L i w' := by
  obtain ⟨⟨q, hq⟩, ⟨sa, qa, sc, qc, h2, h3⟩, h4, h5⟩ := h
  exact ⟨⟨q, hq.later hb⟩, ⟨sa, qa, sc, qc, h2.later hb, h3.later hb⟩, h4.later hb, h5.trans (hb.mono h5.size)⟩
theorem WtR.same (h : WtR w g9 n0 K L i W) (e : wtD n0 K (i + 1) = wtD n0 K i) : WtR w g9 n0 K L (i + 1) W := by
  obtain ⟨hq, hm, h4, h5⟩ := h
  rw [← e] at hq hm
  exact ⟨hq, hm, h4, h5⟩
theorem wrt_fin {n : Nat} {q : Value} {dd : Dm} {sa qa : Option Addr} {sc qc : Nat} (hQ : Dk w.heap.size W { L with qv := q } dd) (hM : Mr W sa qa sc qc dd) (hZ : Blo W w.heap.size RDT zdk) (hB : Below w.heap.size w W) (hi : min n 12 = i) (hd : wtD n0 K i = dd) :
    WrtO n0 K n w (.returned (.tuple #[.pointer (some ⟨L.bd, 0, none⟩), .agg (agR sa qa sc qc dd), .bool true])) (put4g W.drew w.heap.size (.slice sa dd.n sc) (.slice qa dd.Q.length qc) (.int .i64 dd.steps) (.int .i64 (lfD dd))) := by
  have hdr : Below W.heap.size W W.drew := (Below.refl _ _).drew
  have ho := put4g_out W.drew w.heap.size (.slice sa dd.n sc) (.slice qa dd.Q.length qc) (.int .i64 dd.steps) (.int .i64 (lfD dd))
  have hZ2 := hZ.later hdr
  unfold WrtO
  rw [hi, hd]
  refine ⟨{ L with qv := q }, sa, qa, sc, qc, rfl, (hQ.later hdr).out ho (fun j hj hx => ?_), (hM.later hdr).out ho (fun g cs hb e => ?_), (hB.drew).trans (ho.below hB.size (fun j _ e => by omega))⟩
  · subst hx
    exact (hQ.later hdr).apart hZ2 (by decide) (by decide) (by decide) hj
  · subst e
    rcases hb with hb | hb
    · exact hb.apart hZ2 (by decide) rfl
    · exact hb.apart hZ2 (by decide) rfl
def PBk (nb : Nat) (dt : List Nat) : ObjL := fun v W => ∃ xa xc G B, v = .slice xa nb xc ∧ RowB W B (.slice xa nb xc) nb G (rnd dt)
theorem later_pbk (nb : Nat) (dt : List Nat) : LaterP (PBk nb dt) := fun v W W' hb h => by
  obtain ⟨xa, xc, G, B, rfl, hy⟩ := h
  exact ⟨xa, xc, G, B, rfl, hy.later hb⟩
def PTx (nb : Nat) (dt : List Nat) : ObjL := fun v W => ∃ ta tc, v = .slice ta nb tc ∧ Rds W ta (cellsS (rnd dt) nb)
theorem later_ptx (nb : Nat) (dt : List Nat) : LaterP (PTx nb dt) := fun v W W' hb h => by
  obtain ⟨xa, xc, rfl, hy⟩ := h
  exact ⟨xa, xc, rfl, hy.later hb⟩
def PWr (d : Dm) (c : Int) : ObjL := fun v W => ∃ sa qa sc qc, v = .tuple #[.agg (agR sa qa sc qc d), .int .i64 c] ∧ Mr W sa qa sc qc d
theorem later_pwr (d : Dm) (c : Int) : LaterP (PWr d c) := fun v W W' hb h => by
  obtain ⟨sa, qa, sc, qc, rfl, hm⟩ := h
  exact ⟨sa, qa, sc, qc, rfl, hm.later hb⟩
def PAg (d : Dm) : ObjL := fun v W => ∃ sa qa sc qc, v = .agg (agR sa qa sc qc d) ∧ Mr W sa qa sc qc d
theorem later_pag (d : Dm) : LaterP (PAg d) := fun v W W' hb h => by
  obtain ⟨sa, qa, sc, qc, rfl, hm⟩ := h
  exact ⟨sa, qa, sc, qc, rfl, hm.later hb⟩
def WtI (RL : List (Nat × ObjL)) (TL : List (Nat × Value)) (w7 : World) (g9 : Nat) (d : Dm) (c : Int) (D : Nat → Bool) (X : Nat → Value) (W : World) : Prop :=
  (D 15 = false ∧ D 16 = false ∧ GL RL TL w7 D X W) ∨ (D 15 = true ∧ (∀ j, j < 14 → D j = true) ∧ ∃ sa qa sc qc v W0, X 12 = .tuple #[v, .int .i64 c] ∧ (D 14 = true → X 14 = .int .i64 c) ∧ (D 16 = true → D 14 = true ∧ X 16 = .int .i64 c) ∧ Below w7.heap.size w7 W0 ∧ Mr W0 sa qa sc qc d ∧ W = W0.setRow g9 (agR sa qa sc qc d))
set_option maxRecDepth 100000 in
set_option maxHeartbeats 8000000 in
theorem written_any (n0 : Nat) (h1 : 1 ≤ n0) (h2 : n0 ≤ 4096) (a : Option Addr) (n cap : Nat) (K : Nat → Pz) (w : World) (hn9 : n ≤ 9223372036854775807) (hL : Tab w ∧ 0 < w.heap.size) (hP : Pzs w a n K) :
    Calls Tryd.prog 10 #[.int .i64 n0, .slice a n cap] w (WrtO n0 K n w) := by
  have HT := Lib.hid (show ∀ W, Below w.heap.size w W → Tab W ∧ 0 < W.heap.size from fun W hb => ⟨hL.1.below hb hL.2, by have := hb.size; have := hL.2; omega⟩)
  have HP := Lib.hid hP
  have HX0 := Lib.hid (blo_laid w RDT zdk)
  have HB0 := Lib.hid (sup_pc w (.cells zdk RDT))
  clear hP hL
  go_enter Tryd.func10, Tryd.ntmps10
  go_upto_region 1 with (fail)
  obtain ⟨w1, hw1⟩ : ∃ w1, w.alloc (.cells zdk RDT) = w1 := ⟨_, rfl⟩
  rw [hw1] at HX0 HB0
  unfold zdk at hw1
  rw [hw1]
  clear hw1
  go_wp2_with fail
  refine (new_any n0 w1 h1 h2).mono ?_
  rintro e w2 ⟨L, rfl, hD, hb2⟩
  have HD2 := Lib.hid (hD.deeper HB0.out.size)
  have HX2 := Lib.hid (HX0.out.later hb2)
  have HB2 := Lib.hid (HB0.out.trans (hb2.mono HB0.out.size))
  clear hD hb2 HX0 HB0
  go_wp2_with fail
  refine (mnew_any n0 w2 h1 h2).mono ?_
  rintro e w3 ⟨sa, qa, sc, qc, rfl, hM, hb3⟩
  unfold agR
  have hal : Below w3.heap.size w3 (w3.alloc (.cells (agR sa qa sc qc (newD n0)) RDT)) := sup_pc _ _
  have hb4 := hb3.trans (hal.mono hb3.size)
  have HS := Lib.hid (show WtR w w3.heap.size n0 K L 0 (w3.alloc (.cells (agR sa qa sc qc (newD n0)) RDT)) from ⟨⟨L.qv, HD2.out.later hb4⟩, ⟨sa, qa, sc, qc, hM.later hal, blo_laid w3 RDT _⟩, HX2.out.later hb4, HB2.out.trans (hb4.mono HB2.out.size)⟩)
  have HLt9 : Hid (w.heap.size < w3.heap.size) := Nat.lt_of_lt_of_le HX2.out.lt hb3.size
  clear hM hb3 hal hb4 HD2 HX2 HB2
  unfold agR at HS
  go_upto_region 5 with (fail)
  generalize w3.alloc (.cells #[.slice sa (newD n0).n sc, .slice qa (newD n0).Q.length qc, .int .i64 (newD n0).steps, .int .i64 (lfD (newD n0))] RDT) = w4 at *
  generalize w3.heap.size = g9 at *
  go_wp2_with fail
  go_loopw [11] (fun t wr => ∃ i : Nat, i ≤ 12 ∧ i ≤ n ∧ t = .int .i64 ((i : Nat) : Int) ∧ WtR w g9 n0 K L i wr) (fun t _ => 12 - (intOf t).toNat)
  case atStart => exact ⟨0, by omega, by omega, rfl, HS.out⟩
  case round =>
    clear HS
    obtain ⟨i, hi12, hin, rfl, hS⟩ := hrel
    have HS := Lib.hid hS
    clear hS
    by_cases hgo : i < n ∧ i < 12
    · obtain ⟨g1, g2⟩ := hgo
      obtain ⟨b, o, rfl, hcell⟩ := HP.out.at_ i g1
      have hE := HP.out.each i g1
      have HSt : Hid (wtD n0 K (i + 1) = stepZ (wtD n0 K i) (K i)) := rfl
      have HRm := Lib.hid (wtD_rm n0 K i hi12)
      have HDn := Lib.hid (wtD_n n0 K i)
      obtain ⟨p, hp⟩ : ∃ p, K i = p := ⟨_, rfl⟩
      rw [hp] at hcell hE HSt
      clear hp
      obtain ⟨ad, m, fa, fn, fc, ia, inn, ic, da, dn, dc, dt⟩ := p
      have HE := Lib.hid hE
      have HC := Lib.hid (fun j u hj => cell_later HS.out.below (hcell j u hj))
      have c0 := HC.out 0 _ rfl
      have c1 := HC.out 1 _ rfl
      have c2 := HC.out 2 _ rfl
      have c3 := HC.out 3 _ rfl
      have c4 := HC.out 4 _ rfl
      have c5 := HC.out 5 _ rfl
      have c6 := HC.out 6 _ rfl
      have c7 := HC.out 7 _ rfl
      have c8 := HC.out 8 _ rfl
      have HFn : Hid (fn = m.fs.length) := hE.part.fin.leq
      have HIn : Hid (inn = m.is.length) := hE.part.ins.leq
      have HFw := Lib.hid (fun (W : World) (hb : Below w.heap.size w W) => few15_any (w := W) ad m.e m.c m.i m.p m.x m.fs m.is fa fn fc ia inn ic da dn dc (hE.part.fin.fis.later hb) HFn.out HIn.out hE.part.fin.lenm hE.part.ins.lenm hE.le hE.part.fin.lb)
      simp only [pieceA, pzA, Nat.add_zero] at c0 c1 c2 c3 c4 c5 c6 c7 c8
      have i1 : (0 : Int) ≤ (i : Int) := by omega
      have i2 : (i : Int) < (n : Int) := by omega
      clear hcell hE
      go_upto_region 9 with (fail)
      have HX2 := Lib.hid (blo_laid wr PZT (pieceA ad m fa fn fc ia inn ic da dn dc))
      have HS2 := Lib.hid (HS.out.later (sup_pc wr (.cells (pieceA ad m fa fn fc ia inn ic da dn dc) PZT)))
      clear c0 c1 c2 c3 c4 c5 c6 c7 c8 HC HS
      have HLt2 : Hid (wr.heap.size < (wr.alloc (.cells (pieceA ad m fa fn fc ia inn ic da dn dc) PZT)).heap.size) := HX2.out.lt
      unfold pieceA at HX2 HS2 HLt2
      generalize wr.alloc (.cells #[.int .i64 ad, .int .i64 m.e, .int .i64 m.c, .int .i64 m.i, .int .i64 m.p, .int .i64 m.x, .slice fa fn fc, .slice ia inn ic, .slice da dn dc] PZT) = w2 at *
      generalize wr.heap.size = gp at *
      have c0 := HX2.out.cell 0
      have c1 := HX2.out.cell 1
      have c2 := HX2.out.cell 2
      have c3 := HX2.out.cell 3
      have c4 := HX2.out.cell 4
      have c5 := HX2.out.cell 5
      have c6 := HX2.out.cell 6
      have c7 := HX2.out.cell 7
      have c8 := HX2.out.cell 8
      simp [pieceA] at c0 c1 c2 c3 c4 c5 c6 c7 c8
      cases hfew : few15 m.fs m.is dn with
      | false =>
        rw [hfew] at HFw
        have hst : wtD n0 K (i + 1) = wtD n0 K i := by
          rw [HSt.out]
          unfold stepZ
          exact if_neg (by show ¬ few15 m.fs m.is dn = true; rw [hfew]; simp)
        have HSt2 := Lib.hid hst
        clear hst hfew
        go_wp2_with fail
        refine (HFw.out _ HS2.out.below).mono ?_
        rintro e w5 ⟨rfl, hb5⟩
        have HS5 := Lib.hid ((HS2.out.later hb5).same HSt2.out)
        clear hb5 HS2 HX2 c0 c1 c2 c3 c4 c5 c6 c7 c8 HFw
        go_wp2_with fail
        refine ⟨⟨i + 1, by omega, by omega, by simp, HS5.out⟩, ?_⟩
        simp [intOf]
        omega
      | true =>
        rw [hfew] at HFw
        have hfn := HFn.out
        have hin2 := HIn.out
        have hq := few15_yes hfew
        have hsz := few15_szF hfew
        have hnb := rdN_blks m
        have hn120 : rdN m ≤ 120 := by unfold rdN; omega
        have hlbm : ∀ x ∈ m.fs, ∀ n ∈ x.lb, -9223372036854775808 ≤ n := fun x hx n hn => (Go.bounds_i64 ((HE.out.part.fin.wf x hx).2.2 n hn)).1
        have hlb2 : ∀ x ∈ m.fs, ∀ n ∈ x.lb, -9223372036854775808 ≤ n ∧ n ≤ 9223372036854775807 := fun x hx n hn => Go.bounds_i64 ((HE.out.part.fin.wf x hx).2.2 n hn)
        have HBk := Lib.hid (fun (W : World) (hb : Below w.heap.size w W) => blocks_any (w := W) (n := rdN m) m.e m.c m.i m.p m.x m.fs m.is fa fn fc ia inn ic (HE.out.part.fin.fis.later hb) hfn hin2 hnb (by omega) da dn dc dt (HE.out.data.below hb) HE.out.len (by omega) HE.out.nil (by omega))
        have hst : wtD n0 K (i + 1) = (segW (wtD n0 K i) ad m (lsF (rnd dt) (rdN m))).1 := by
          rw [HSt.out]
          unfold stepZ
          exact if_pos hfew
        have HSt2 := Lib.hid hst
        have HLb := Lib.hid hlbm
        have HLb2 := Lib.hid hlb2
        have HQ := Lib.hid (show fn ≤ 300000 ∧ inn ≤ 300000 ∧ szF m.fs ≤ 400 ∧ rdN m ≤ 120 ∧ ∀ x ∈ m.fs, x.lb.length ≤ 300000 from ⟨by omega, by omega, hsz, hn120, fun x hx => by have := lb_blF m.fs x hx; omega⟩)
        clear hst hlbm hlb2 hfn hin2 hq hsz hnb hn120 hfew
        generalize rdN m = nb at *
        go_wp2_with fail
        refine (HFw.out _ HS2.out.below).mono ?_
        rintro e w3 ⟨rfl, hb3⟩
        have HS3 := Lib.hid (HS2.out.later hb3)
        have HX3 := Lib.hid (HX2.out.later hb3)
        clear hb3 HS2 HX2 c0 c1 c2 c3 c4 c5 c6 c7 c8 HFw
        have c0 := HX3.out.cell 0
        have c1 := HX3.out.cell 1
        have c2 := HX3.out.cell 2
        have c3 := HX3.out.cell 3
        have c4 := HX3.out.cell 4
        have c5 := HX3.out.cell 5
        have c6 := HX3.out.cell 6
        have c7 := HX3.out.cell 7
        have c8 := HX3.out.cell 8
        simp [pieceA] at c0 c1 c2 c3 c4 c5 c6 c7 c8
        go_wp2_with fail
        refine (HBk.out _ HS3.out.below).mono ?_
        rintro e w4 ⟨ba, bc, G, rfl, hR4, hb4⟩
        have HS4 := Lib.hid (HS3.out.later hb4)
        have HX4 := Lib.hid (HX3.out.later hb4)
        have HR4 := Lib.hid hR4
        clear hR4 hb4 HS3 HX3 c0 c1 c2 c3 c4 c5 c6 c7 c8
        have c0 := HX4.out.cell 0
        have c1 := HX4.out.cell 1
        have c2 := HX4.out.cell 2
        have c3 := HX4.out.cell 3
        have c4 := HX4.out.cell 4
        have c5 := HX4.out.cell 5
        have c6 := HX4.out.cell 6
        have c7 := HX4.out.cell 7
        have c8 := HX4.out.cell 8
        simp [pieceA] at c0 c1 c2 c3 c4 c5 c6 c7 c8
        have HOw := Lib.hid (own_new (w := w4) m.e m.c m.i m.p m.x fa fn fc ia inn ic (HE.out.part.fin.fis.later HS4.out.below) (HE.out.part.ins.ints.below HS4.out.below) HFn.out HIn.out HQ.out.1 HQ.out.2.1 HQ.out.2.2.2.2 (fisN_later HE.out.part.fin.nils HE.out.part.fin.fis HS4.out.below) HE.out.part.ins.nil)
        go_wp2_with fail
        obtain ⟨⟨q0, hq0⟩, -, -, -⟩ := HS4.out
        have HD4 := Lib.hid hq0
        clear hq0
        refine HOw.out.mono ?_
        rintro e w5 ⟨fb, fd, ib, id, rfl, hfo, hio, hb5⟩
        have HS5 := Lib.hid (HS4.out.later hb5)
        have HX5 := Lib.hid (HX4.out.later hb5)
        have HR5 := Lib.hid (HR4.out.later hb5)
        have HF5 := Lib.hid hfo
        have HI5 := Lib.hid hio
        have HD5 := Lib.hid (HD4.out.later hb5)
        have HLo : Hid (∀ g, ({ L with qv := q0 } : Dl).has g → g < w4.heap.size) := fun g hg => (HD4.out.has_lt hg).2
        have HG9 : Hid (g9 < w4.heap.size) := by
          obtain ⟨-, ⟨_, _, _, _, _, hx⟩, -, -⟩ := HS4.out
          exact hx.lt
        clear hfo hio hb5 HOw HS4 HX4 HR4 HD4 c0 c1 c2 c3 c4 c5 c6 c7 c8
        go_upto_region 12 with (fail)
        have hb6 := sup_pc w5 (.cells #[.int .i64 m.e, .int .i64 m.c, .int .i64 m.i, .int .i64 m.p, .int .i64 m.x, .slice fb fn fd, .slice ib inn id] PT)
        have HS6 := Lib.hid (HS5.out.later hb6)
        have HX6 := Lib.hid (HX5.out.later hb6)
        have HR6 := Lib.hid (HR5.out.later hb6)
        have HD6 := Lib.hid (HD5.out.later hb6)
        have HF6 : Hid (∃ av, Fo (w5.alloc (.cells #[.int .i64 m.e, .int .i64 m.c, .int .i64 m.i, .int .i64 m.p, .int .i64 m.x, .slice fb fn fd, .slice ib inn id] PT)) w4.heap.size (.slice fb fn fd) av m.fs fn) := by
          obtain ⟨av, hf⟩ := HF5.out
          exact ⟨av, hf.later hb6⟩
        have HI6 := Lib.hid (own_later HI5.out hb6)
        have HP6 := Lib.hid (blo_laid w5 PT #[.int .i64 m.e, .int .i64 m.c, .int .i64 m.i, .int .i64 m.p, .int .i64 m.x, .slice fb fn fd, .slice ib inn id])
        have HLt6 : Hid (w5.heap.size < (w5.alloc (.cells #[.int .i64 m.e, .int .i64 m.c, .int .i64 m.i, .int .i64 m.p, .int .i64 m.x, .slice fb fn fd, .slice ib inn id] PT)).heap.size) := HP6.out.lt
        clear hb6 HS5 HX5 HR5 HD5 HF5 HI5
        generalize w5.alloc (.cells #[.int .i64 m.e, .int .i64 m.c, .int .i64 m.i, .int .i64 m.p, .int .i64 m.x, .slice fb fn fd, .slice ib inn id] PT) = w6 at *
        generalize w5.heap.size = gq at *
        have HWr : Hid (Calls Tryd.prog 17 #[.pointer (some ⟨L.bd, 0, none⟩), .int .i64 ad, part m.e m.c m.i m.p m.x fb fn fd ib inn id, .slice ba nb bc] w6 (CodeO w.heap.size w6 { L with qv := q0 } (segW (wtD n0 K i) ad m (lsF (rnd dt) nb)).1 (segW (wtD n0 K i) ad m (lsF (rnd dt) nb)).2)) := by
          obtain ⟨av, hf⟩ := HF6.out
          exact write_row (w := w6) (n := nb) (L := { L with qv := q0 }) ad m fb fn fd ib inn id (hf.fis HFn.out) HFn.out (by have := HQ.out.2.2.1; omega) (Ints.own HI6.out) HIn.out (by have := HQ.out.2.1; omega) HLb.out HR6.out (by have := HQ.out.2.2.2.1; omega) (HT.out w6 HS6.out.below).1 (HT.out w6 HS6.out.below).2 (HRm.out.mono (by have := HQ.out.2.2.2.1; omega)) HD6.out
        obtain ⟨⟨d', c'⟩, hcp⟩ : ∃ cp, segW (wtD n0 K i) ad m (lsF (rnd dt) nb) = cp := ⟨_, rfl⟩
        rw [hcp] at HWr HSt2
        have HCp := Lib.hid hcp
        clear hcp
        have c0 := HX6.out.cell 0
        have p0 := HP6.out.cell 0
        have p1 := HP6.out.cell 1
        have p2 := HP6.out.cell 2
        have p3 := HP6.out.cell 3
        have p4 := HP6.out.cell 4
        have p5 := HP6.out.cell 5
        have p6 := HP6.out.cell 6
        simp [pieceA] at c0 p0 p1 p2 p3 p4 p5 p6
        go_wp2_with fail
        refine HWr.out.mono ?_
        rintro e w7 ⟨rfl, q1v, hD7, hO7, -⟩
        have HD7 := Lib.hid hD7
        have HX7 := Lib.hid (hO7.blo HX6.out (HD6.out.apart HX6.out (by decide) (by decide) (by decide)))
        have HP7 := Lib.hid (hO7.blo HP6.out (HD6.out.apart HP6.out (by decide) (by decide) (by decide)))
        have HF7 : Hid (∃ av, Fo w7 w4.heap.size (.slice fb fn fd) av m.fs fn) := by
          obtain ⟨av, hf⟩ := HF6.out
          exact ⟨av, hf.out hO7 (fun g hg _ => HLo.out g hg)⟩
        have HI7 := Lib.hid (own_out HI6.out hO7 (fun g hg _ => HLo.out g hg))
        have HM7 : Hid (∃ sa qa sc qc, Mr w7 sa qa sc qc (wtD n0 K i) ∧ Blo w7 g9 RDT (agR sa qa sc qc (wtD n0 K i))) := by
          obtain ⟨-, ⟨sa, qa, sc, qc, hm, hx⟩, -, -⟩ := HS6.out
          refine ⟨sa, qa, sc, qc, hm.out hO7 (fun g cs hb => ?_), hO7.blo hx (HD6.out.apart hx (by decide) (by decide) (by decide))⟩
          rcases hb with hb | hb
          · exact HD6.out.apart hb (by decide) (by decide) (by decide)
          · exact HD6.out.apart hb (by decide) (by decide) (by decide)
        have HZ7 := Lib.hid (hO7.blo HS6.out.res (HD6.out.apart HS6.out.res (by decide) (by decide) (by decide)))
        have HB7 := Lib.hid (HS6.out.below.trans (hO7.below HS6.out.below.size (fun i _ hi => (HD6.out.has_lt hi).1)))
        clear hD7 hO7 HWr HS6 HX6 HR6 HD6 HF6 HI6 HP6 HLo c0 p0 p1 p2 p3 p4 p5 p6
        obtain ⟨sa1, qa1, sc1, qc1, hm7, hx7⟩ := HM7.out
        have HMr := Lib.hid hm7
        have HBx := Lib.hid hx7
        have HRdd : Hid (Rd (wtD n0 K i) (nb + 6)) := (wtD_rd n0 h1 h2 K (fun i hi => (HP.out.each i hi).data.1) i hi12 hin).mono (by have := HQ.out.2.2.2.1; omega)
        have HK : Hid (∀ W, Blo W gp PZT #[.int .i64 ad, .int .i64 m.e, .int .i64 m.c, .int .i64 m.i, .int .i64 m.p, .int .i64 m.x, .slice fa fn fc, .slice ia inn ic, .slice da dn dc] → (W.cell? ⟨gp, 0, none⟩ = some (.int .i64 ad) ∧ W.cell? ⟨gp, 1, none⟩ = some (.int .i64 m.e) ∧ W.cell? ⟨gp, 2, none⟩ = some (.int .i64 m.c) ∧ W.cell? ⟨gp, 3, none⟩ = some (.int .i64 m.i) ∧ W.cell? ⟨gp, 4, none⟩ = some (.int .i64 m.p) ∧ W.cell? ⟨gp, 5, none⟩ = some (.int .i64 m.x) ∧ W.cell? ⟨gp, 6, none⟩ = some (.slice fa fn fc) ∧ W.cell? ⟨gp, 7, none⟩ = some (.slice ia inn ic) ∧ W.cell? ⟨gp, 8, none⟩ = some (.slice da dn dc))) := fun W hX => ⟨hX.cell 0, hX.cell 1, hX.cell 2, hX.cell 3, hX.cell 4, hX.cell 5, hX.cell 6, hX.cell 7, hX.cell 8⟩
        have HKb := Lib.hid (fun W (hb : Below w7.heap.size w7 W) => HK.out W (HX7.out.later hb))
        have HN9 : Hid (nb ≤ 100000) := Nat.le_trans HQ.out.2.2.2.1 (by decide)
        have HBl : Hid (∀ W, Below w7.heap.size w7 W → Calls Tryd.prog 23 #[part m.e m.c m.i m.p m.x fa fn fc ia inn ic, .slice da dn dc] W (BlkO W nb dt)) := fun W hb => HBk.out W (HB7.out.trans (hb.mono HB7.out.size))
        have HWm : Hid (∀ W ta tc, Below w7.heap.size w7 W → Rds W ta (cellsS (rnd dt) nb) → Calls Tryd.prog 18 #[.agg (agR sa1 qa1 sc1 qc1 (wtD n0 K i)), .int .i64 ad, part m.e m.c m.i m.p m.x fa fn fc ia inn ic, .slice ta nb tc] W (MrO W d' c')) := fun W ta tc hb hR => by
          have hbw := HB7.out.trans (hb.mono HB7.out.size)
          have h := mwrite_any (w := W) ad m fa fn fc ia inn ic (HE.out.part.fin.fis.later hbw) HFn.out (by have := HQ.out.2.2.1; omega) (HE.out.part.ins.ints.below hbw) HIn.out (by have := HQ.out.2.1; omega) HLb2.out ta nb tc (lsF (rnd dt) nb) (lsF_length _ _).symm (by have := HQ.out.2.2.2.1; omega) (by rw [cellsS_congr nb (fun i hi => lsF_get (rnd dt) hi)]; exact hR) (rnd_byte HE.out.data.1 nb (by have := HQ.out.2.2.2.1; omega)) HRdd.out (HMr.out.later hb)
          rw [HCp.out] at h
          exact h
        clear hm7 hx7
        go_upto_region 14 with (fail)
        obtain ⟨RL, hRL⟩ : ∃ RL : List (Nat × ObjL), RL = [(9, PBk nb dt), (10, PTx nb dt), (11, PWr d' c'), (12, PWr d' c'), (13, PAg d')] := ⟨_, rfl⟩
        obtain ⟨TL, hTL⟩ : ∃ TL : List (Nat × Value), TL = [(0, .agg (agR sa1 qa1 sc1 qc1 (wtD n0 K i))), (1, .pointer (some ⟨gp, 0, none⟩)), (2, .int .i64 ad), (3, .pointer (some ⟨gp, 1, none⟩)), (4, .agg #[.int .i64 m.e, .int .i64 m.c, .int .i64 m.i, .int .i64 m.p, .int .i64 m.x, .slice fa fn fc, .slice ia inn ic]), (5, .pointer (some ⟨gp, 1, none⟩)), (6, .agg #[.int .i64 m.e, .int .i64 m.c, .int .i64 m.i, .int .i64 m.p, .int .i64 m.x, .slice fa fn fc, .slice ia inn ic]), (7, .pointer (some ⟨gp, 8, none⟩)), (8, .slice da dn dc), (14, .int .i64 c')] := ⟨_, rfl⟩
        have hKB : keysL RL := by intro x hx y hy e; simp only [hRL, List.mem_cons, List.not_mem_nil, or_false] at hx hy; rcases hx with rfl | rfl | rfl | rfl | rfl <;> rcases hy with rfl | rfl | rfl | rfl | rfl <;> first | rfl | (exfalso; simp at e; done) | fail
        have hLB : ∀ x ∈ RL, LaterP x.2 := by intro x hx; simp only [hRL, List.mem_cons, List.not_mem_nil, or_false] at hx; rcases hx with rfl | rfl | rfl | rfl | rfl <;> first | exact later_pbk _ _ | exact later_ptx _ _ | exact later_pwr _ _ | exact later_pag _ | fail
        refine wp_region_inv (n := 17) [(0, 66), (1, 67), (2, 68), (3, 69), (4, 70), (5, 71), (6, 72), (7, 73), (8, 74), (9, 75), (10, 76), (11, 77), (12, 65), (13, 78), (14, 79), (16, 16)] (WtI RL TL w7 g9 d' c') (by kernel_rfl) (by kernel_rfl) (by kernel_rfl) (fun X => by simp only [putL, Act.put, List.setIfInBounds_toArray, List.set_cons_zero, List.set_cons_succ]; rfl) (fun X => .inl ⟨rfl, rfl, GL.start (Below.refl _ _).drew⟩) ?_ ?_
        · show StepsI _ _ _ _ _ 0 [_, _, _, _, _, _, _, _, _, _, _, _, _, _, _, _, _]
          refine ⟨fun D X W hD hd hI Kx hK => ?_, ?_⟩
          · rcases hI with ⟨hA, hA6, hI⟩ | ⟨hA, hB5, xa2, xq2, xs2, xk2, xv2, W0, k12, k14, k16, hbe, hmr, rfl⟩
            case inr => rw [hB5 0 (by decide)] at hD; cases hD
            replace hK := fun v W' (h : GL RL TL w7 (updD D 0) (updV X 0 v) W') => hK v W' (.inl ⟨(updD_ne D 0 (by decide)).trans hA, (updD_ne D 0 (by decide)).trans hA6, h⟩)
            exact stepO_load_row (by simp [Region.wanted]) RDT (.tmp 9) rfl g9 rfl RDT (agR sa1 qa1 sc1 qc1 (wtD n0 K i)) (0, 0) _ (HBx.out.later hI.b) Tryd.underlying29 rfl (by kernel_rfl) (hK _ _ (hI.tell hLB 0 _ (Below.refl _ _) (by simp [hRL]) (by simp [hTL])))
          refine ⟨fun D X W hD hd hI Kx hK => ?_, ?_⟩
          · rcases hI with ⟨hA, hA6, hI⟩ | ⟨hA, hB5, xa2, xq2, xs2, xk2, xv2, W0, k12, k14, k16, hbe, hmr, rfl⟩
            case inr => rw [hB5 1 (by decide)] at hD; cases hD
            replace hK := fun v W' (h : GL RL TL w7 (updD D 1) (updV X 1 v) W') => hK v W' (.inl ⟨(updD_ne D 1 (by decide)).trans hA, (updD_ne D 1 (by decide)).trans hA6, h⟩)
            exact stepO_run (v := .pointer (some ⟨gp, 0, none⟩)) (w' := W) (by simp [Region.wanted]) (by simp [go_sem, execOp]) (hK _ _ (hI.tell hLB 1 _ (Below.refl _ _) (by simp [hRL]) (by simp [hTL])))
          refine ⟨fun D X W hD hd hI Kx hK => ?_, ?_⟩
          · rcases hI with ⟨hA, hA6, hI⟩ | ⟨hA, hB5, xa2, xq2, xs2, xk2, xv2, W0, k12, k14, k16, hbe, hmr, rfl⟩
            case inr => rw [hB5 2 (by decide)] at hD; cases hD
            replace hK := fun v W' (h : GL RL TL w7 (updD D 2) (updV X 2 v) W') => hK v W' (.inl ⟨(updD_ne D 2 (by decide)).trans hA, (updD_ne D 2 (by decide)).trans hA6, h⟩)
            have a1 := hI.dt (1, .pointer (some ⟨gp, 0, none⟩)) (by simp [hTL]) (hd ⟨1, .data⟩ (by simp) rfl)
            obtain ⟨k0, k1, k2, k3, k4, k5, k6, k7, k8⟩ := HKb.out W hI.b
            exact stepO_run (v := .int .i64 ad) (w' := W) (by simp [Region.wanted]) (by simp [go_sem, execOp, a1, k0, k1, k2, k3, k4, k5, k6, k7, k8]) (hK _ _ (hI.tell hLB 2 _ (Below.refl _ _) (by simp [hRL]) (by simp [hTL])))
          refine ⟨fun D X W hD hd hI Kx hK => ?_, ?_⟩
          · rcases hI with ⟨hA, hA6, hI⟩ | ⟨hA, hB5, xa2, xq2, xs2, xk2, xv2, W0, k12, k14, k16, hbe, hmr, rfl⟩
            case inr => rw [hB5 3 (by decide)] at hD; cases hD
            replace hK := fun v W' (h : GL RL TL w7 (updD D 3) (updV X 3 v) W') => hK v W' (.inl ⟨(updD_ne D 3 (by decide)).trans hA, (updD_ne D 3 (by decide)).trans hA6, h⟩)
            exact stepO_run (v := .pointer (some ⟨gp, 1, none⟩)) (w' := W) (by simp [Region.wanted]) (by simp [go_sem, execOp]) (hK _ _ (hI.tell hLB 3 _ (Below.refl _ _) (by simp [hRL]) (by simp [hTL])))
          refine ⟨fun D X W hD hd hI Kx hK => ?_, ?_⟩
          · rcases hI with ⟨hA, hA6, hI⟩ | ⟨hA, hB5, xa2, xq2, xs2, xk2, xv2, W0, k12, k14, k16, hbe, hmr, rfl⟩
            case inr => rw [hB5 4 (by decide)] at hD; cases hD
            replace hK := fun v W' (h : GL RL TL w7 (updD D 4) (updV X 4 v) W') => hK v W' (.inl ⟨(updD_ne D 4 (by decide)).trans hA, (updD_ne D 4 (by decide)).trans hA6, h⟩)
            have a3 := hI.dt (3, .pointer (some ⟨gp, 1, none⟩)) (by simp [hTL]) (hd ⟨3, .data⟩ (by simp) rfl)
            obtain ⟨k0, k1, k2, k3, k4, k5, k6, k7, k8⟩ := HKb.out W hI.b
            exact stepO_run (v := .agg #[.int .i64 m.e, .int .i64 m.c, .int .i64 m.i, .int .i64 m.p, .int .i64 m.x, .slice fa fn fc, .slice ia inn ic]) (w' := W) (by simp [Region.wanted]) (by simp [go_sem, execOp, a3, k0, k1, k2, k3, k4, k5, k6, k7, k8]) (hK _ _ (hI.tell hLB 4 _ (Below.refl _ _) (by simp [hRL]) (by simp [hTL])))
          refine ⟨fun D X W hD hd hI Kx hK => ?_, ?_⟩
          · rcases hI with ⟨hA, hA6, hI⟩ | ⟨hA, hB5, xa2, xq2, xs2, xk2, xv2, W0, k12, k14, k16, hbe, hmr, rfl⟩
            case inr => rw [hB5 5 (by decide)] at hD; cases hD
            replace hK := fun v W' (h : GL RL TL w7 (updD D 5) (updV X 5 v) W') => hK v W' (.inl ⟨(updD_ne D 5 (by decide)).trans hA, (updD_ne D 5 (by decide)).trans hA6, h⟩)
            exact stepO_run (v := .pointer (some ⟨gp, 1, none⟩)) (w' := W) (by simp [Region.wanted]) (by simp [go_sem, execOp]) (hK _ _ (hI.tell hLB 5 _ (Below.refl _ _) (by simp [hRL]) (by simp [hTL])))
          refine ⟨fun D X W hD hd hI Kx hK => ?_, ?_⟩
          · rcases hI with ⟨hA, hA6, hI⟩ | ⟨hA, hB5, xa2, xq2, xs2, xk2, xv2, W0, k12, k14, k16, hbe, hmr, rfl⟩
            case inr => rw [hB5 6 (by decide)] at hD; cases hD
            replace hK := fun v W' (h : GL RL TL w7 (updD D 6) (updV X 6 v) W') => hK v W' (.inl ⟨(updD_ne D 6 (by decide)).trans hA, (updD_ne D 6 (by decide)).trans hA6, h⟩)
            have a5 := hI.dt (5, .pointer (some ⟨gp, 1, none⟩)) (by simp [hTL]) (hd ⟨5, .data⟩ (by simp) rfl)
            obtain ⟨k0, k1, k2, k3, k4, k5, k6, k7, k8⟩ := HKb.out W hI.b
            exact stepO_run (v := .agg #[.int .i64 m.e, .int .i64 m.c, .int .i64 m.i, .int .i64 m.p, .int .i64 m.x, .slice fa fn fc, .slice ia inn ic]) (w' := W) (by simp [Region.wanted]) (by simp [go_sem, execOp, a5, k0, k1, k2, k3, k4, k5, k6, k7, k8]) (hK _ _ (hI.tell hLB 6 _ (Below.refl _ _) (by simp [hRL]) (by simp [hTL])))
          refine ⟨fun D X W hD hd hI Kx hK => ?_, ?_⟩
          · rcases hI with ⟨hA, hA6, hI⟩ | ⟨hA, hB5, xa2, xq2, xs2, xk2, xv2, W0, k12, k14, k16, hbe, hmr, rfl⟩
            case inr => rw [hB5 7 (by decide)] at hD; cases hD
            replace hK := fun v W' (h : GL RL TL w7 (updD D 7) (updV X 7 v) W') => hK v W' (.inl ⟨(updD_ne D 7 (by decide)).trans hA, (updD_ne D 7 (by decide)).trans hA6, h⟩)
            exact stepO_run (v := .pointer (some ⟨gp, 8, none⟩)) (w' := W) (by simp [Region.wanted]) (by simp [go_sem, execOp]) (hK _ _ (hI.tell hLB 7 _ (Below.refl _ _) (by simp [hRL]) (by simp [hTL])))
          refine ⟨fun D X W hD hd hI Kx hK => ?_, ?_⟩
          · rcases hI with ⟨hA, hA6, hI⟩ | ⟨hA, hB5, xa2, xq2, xs2, xk2, xv2, W0, k12, k14, k16, hbe, hmr, rfl⟩
            case inr => rw [hB5 8 (by decide)] at hD; cases hD
            replace hK := fun v W' (h : GL RL TL w7 (updD D 8) (updV X 8 v) W') => hK v W' (.inl ⟨(updD_ne D 8 (by decide)).trans hA, (updD_ne D 8 (by decide)).trans hA6, h⟩)
            have a7 := hI.dt (7, .pointer (some ⟨gp, 8, none⟩)) (by simp [hTL]) (hd ⟨7, .data⟩ (by simp) rfl)
            obtain ⟨k0, k1, k2, k3, k4, k5, k6, k7, k8⟩ := HKb.out W hI.b
            exact stepO_run (v := .slice da dn dc) (w' := W) (by simp [Region.wanted]) (by simp [go_sem, execOp, a7, k0, k1, k2, k3, k4, k5, k6, k7, k8]) (hK _ _ (hI.tell hLB 8 _ (Below.refl _ _) (by simp [hRL]) (by simp [hTL])))
          refine ⟨fun D X W hD hd hI Kx hK => ?_, ?_⟩
          · rcases hI with ⟨hA, hA6, hI⟩ | ⟨hA, hB5, xa2, xq2, xs2, xk2, xv2, W0, k12, k14, k16, hbe, hmr, rfl⟩
            case inr => rw [hB5 9 (by decide)] at hD; cases hD
            replace hK := fun v W' (h : GL RL TL w7 (updD D 9) (updV X 9 v) W') => hK v W' (.inl ⟨(updD_ne D 9 (by decide)).trans hA, (updD_ne D 9 (by decide)).trans hA6, h⟩)
            have a6 := hI.dt (6, .agg #[.int .i64 m.e, .int .i64 m.c, .int .i64 m.i, .int .i64 m.p, .int .i64 m.x, .slice fa fn fc, .slice ia inn ic]) (by simp [hTL]) (hd ⟨6, .data⟩ (by simp) rfl)
            have a8 := hI.dt (8, .slice da dn dc) (by simp [hTL]) (hd ⟨8, .data⟩ (by simp) rfl)
            refine stepO_call (f := 23) (args := #[.agg #[.int .i64 m.e, .int .i64 m.c, .int .i64 m.i, .int .i64 m.p, .int .i64 m.x, .slice fa fn fc, .slice ia inn ic], .slice da dn dc]) (by simp [Region.wanted]) (by simp [go_sem, execOp, a6, a8]) (HBl.out W hI.b) (fun e W' hr => ?_)
            obtain ⟨xa, xc, G2, he, hy, hb⟩ := hr
            exact ⟨_, he, hK _ _ (hI.fresh hKB hLB 9 _ (PBk nb dt) (by simp [hRL]) hb ⟨xa, xc, G2, W.heap.size, rfl, hy⟩ (by simp [hTL]))⟩
          refine ⟨fun D X W hD hd hI Kx hK => ?_, ?_⟩
          · rcases hI with ⟨hA, hA6, hI⟩ | ⟨hA, hB5, xa2, xq2, xs2, xk2, xv2, W0, k12, k14, k16, hbe, hmr, rfl⟩
            case inr => rw [hB5 10 (by decide)] at hD; cases hD
            replace hK := fun v W' (h : GL RL TL w7 (updD D 10) (updV X 10 v) W') => hK v W' (.inl ⟨(updD_ne D 10 (by decide)).trans hA, (updD_ne D 10 (by decide)).trans hA6, h⟩)
            have r9 := hI.rows (9, PBk nb dt) (by simp [hRL]) (hd ⟨9, .data⟩ (by simp) rfl)
            obtain ⟨xa, xc, G2, sz, hx, hy⟩ := r9
            have hx2 : X 9 = _ := hx
            refine stepO_call (f := 19) (args := #[.slice xa nb xc]) (by simp [Region.wanted]) (by simp [go_sem, execOp, hx2]) (rtexts_any hy HN9.out) (fun e W' hr => ?_)
            obtain ⟨ta, tc, he, ht, hb⟩ := hr
            exact ⟨_, he, hK _ _ (hI.fresh hKB hLB 10 _ (PTx nb dt) (by simp [hRL]) hb ⟨ta, tc, rfl, ht⟩ (by simp [hTL]))⟩
          refine ⟨fun D X W hD hd hI Kx hK => ?_, ?_⟩
          · rcases hI with ⟨hA, hA6, hI⟩ | ⟨hA, hB5, xa2, xq2, xs2, xk2, xv2, W0, k12, k14, k16, hbe, hmr, rfl⟩
            case inr => rw [hB5 11 (by decide)] at hD; cases hD
            replace hK := fun v W' (h : GL RL TL w7 (updD D 11) (updV X 11 v) W') => hK v W' (.inl ⟨(updD_ne D 11 (by decide)).trans hA, (updD_ne D 11 (by decide)).trans hA6, h⟩)
            have a0 := hI.dt (0, .agg (agR sa1 qa1 sc1 qc1 (wtD n0 K i))) (by simp [hTL]) (hd ⟨0, .data⟩ (by simp) rfl)
            have a2 := hI.dt (2, .int .i64 ad) (by simp [hTL]) (hd ⟨2, .data⟩ (by simp) rfl)
            have a4 := hI.dt (4, .agg #[.int .i64 m.e, .int .i64 m.c, .int .i64 m.i, .int .i64 m.p, .int .i64 m.x, .slice fa fn fc, .slice ia inn ic]) (by simp [hTL]) (hd ⟨4, .data⟩ (by simp) rfl)
            have r10 := hI.rows (10, PTx nb dt) (by simp [hRL]) (hd ⟨10, .data⟩ (by simp) rfl)
            obtain ⟨ta, tc, hx, ht⟩ := r10
            have hx2 : X 10 = _ := hx
            refine stepO_call (f := 18) (args := #[.agg (agR sa1 qa1 sc1 qc1 (wtD n0 K i)), .int .i64 ad, .agg #[.int .i64 m.e, .int .i64 m.c, .int .i64 m.i, .int .i64 m.p, .int .i64 m.x, .slice fa fn fc, .slice ia inn ic], .slice ta nb tc]) (by simp [Region.wanted]) (by simp [go_sem, execOp, a0, a2, a4, hx2]) (HWm.out W ta tc hI.b ht) (fun e W' hr => ?_)
            obtain ⟨sa2, qa2, sc2, qc2, he, hm, hb⟩ := hr
            exact ⟨_, he, hK _ _ (hI.fresh hKB hLB 11 _ (PWr d' c') (by simp [hRL]) hb ⟨sa2, qa2, sc2, qc2, rfl, hm⟩ (by simp [hTL]))⟩
          refine ⟨fun D X W hD hd hI Kx hK => ?_, ?_⟩
          · rcases hI with ⟨hA, hA6, hI⟩ | ⟨hA, hB5, xa2, xq2, xs2, xk2, xv2, W0, k12, k14, k16, hbe, hmr, rfl⟩
            case inr => rw [hB5 12 (by decide)] at hD; cases hD
            replace hK := fun v W' (h : GL RL TL w7 (updD D 12) (updV X 12 v) W') => hK v W' (.inl ⟨(updD_ne D 12 (by decide)).trans hA, (updD_ne D 12 (by decide)).trans hA6, h⟩)
            have r11 := hI.rows (11, PWr d' c') (by simp [hRL]) (hd ⟨11, .data⟩ (by simp) rfl)
            obtain ⟨sa2, qa2, sc2, qc2, hx, hm⟩ := r11
            have hx2 : X 11 = _ := hx
            exact stepO_run (v := .tuple #[.agg (agR sa2 qa2 sc2 qc2 d'), .int .i64 c']) (w' := W) (by simp [Region.wanted]) (by simp [go_sem, execOp, hx2]) (hK _ _ (hI.fresh hKB hLB 12 _ (PWr d' c') (by simp [hRL]) (Below.refl _ _) ⟨sa2, qa2, sc2, qc2, rfl, hm⟩ (by simp [hTL])))
          refine ⟨fun D X W hD hd hI Kx hK => ?_, ?_⟩
          · rcases hI with ⟨hA, hA6, hI⟩ | ⟨hA, hB5, xa2, xq2, xs2, xk2, xv2, W0, k12, k14, k16, hbe, hmr, rfl⟩
            case inr => rw [hB5 13 (by decide)] at hD; cases hD
            replace hK := fun v W' (h : GL RL TL w7 (updD D 13) (updV X 13 v) W') => hK v W' (.inl ⟨(updD_ne D 13 (by decide)).trans hA, (updD_ne D 13 (by decide)).trans hA6, h⟩)
            have r12 := hI.rows (12, PWr d' c') (by simp [hRL]) (hd ⟨12, .data⟩ (by simp) rfl)
            obtain ⟨sa2, qa2, sc2, qc2, hx, hm⟩ := r12
            have hx2 : X 12 = _ := hx
            exact stepO_run (v := .agg (agR sa2 qa2 sc2 qc2 d')) (w' := W) (by simp [Region.wanted]) (by simp [go_sem, execOp, hx2]) (hK _ _ (hI.fresh hKB hLB 13 _ (PAg d') (by simp [hRL]) (Below.refl _ _) ⟨sa2, qa2, sc2, qc2, rfl, hm⟩ (by simp [hTL])))
          refine ⟨fun D X W hD hd hI Kx hK => ?_, ?_⟩
          · rcases hI with ⟨hA, hA6, hI⟩ | ⟨hA, hB5, xa2, xq2, xs2, xk2, xv2, W0, k12, k14, k16, hbe, hmr, rfl⟩
            case inr =>
              have n16 : updD D 14 16 = true → updD D 14 14 = true ∧ updV X 14 (.int .i64 c') 16 = .int .i64 c' := fun h => by rw [updD_ne D 14 (by decide)] at h; have h4 := (k16 h).1; rw [hD] at h4; cases h4
              exact stepO_run (v := .int .i64 c') (w' := W0.setRow g9 (agR xa2 xq2 xs2 xk2 d')) (by simp [Region.wanted]) (by simp [go_sem, execOp, k12]) (hK _ _ (.inr ⟨(updD_ne D 14 (by decide)).trans hA, fun j hj => (updD_ne D 14 (by omega)).trans (hB5 j hj), xa2, xq2, xs2, xk2, xv2, W0, (updV_ne X 14 _ (by decide)).trans k12, fun _ => updV_at X 14 _, n16, hbe, hmr, rfl⟩))
            replace hK := fun v W' (h : GL RL TL w7 (updD D 14) (updV X 14 v) W') => hK v W' (.inl ⟨(updD_ne D 14 (by decide)).trans hA, (updD_ne D 14 (by decide)).trans hA6, h⟩)
            have r12 := hI.rows (12, PWr d' c') (by simp [hRL]) (hd ⟨12, .data⟩ (by simp) rfl)
            obtain ⟨sa2, qa2, sc2, qc2, hx, hm⟩ := r12
            have hx2 : X 12 = _ := hx
            exact stepO_run (v := .int .i64 c') (w' := W) (by simp [Region.wanted]) (by simp [go_sem, execOp, hx2]) (hK _ _ (hI.tell hLB 14 _ (Below.refl _ _) (by simp [hRL]) (by simp [hTL])))
          refine ⟨fun D X W hD hd hI Kx hK => ?_, ?_⟩
          · rcases hI with ⟨hA, hA6, hI⟩ | ⟨hA, -⟩
            case inr => rw [hA] at hD; cases hD
            have hall : ∀ j, j < 14 → D j = true := fun j hj => match j, hj with
              | 0, _ => hd ⟨0, .phase⟩ (by simp) rfl
              | 1, _ => hd ⟨1, .phase⟩ (by simp) rfl
              | 2, _ => hd ⟨2, .phase⟩ (by simp) rfl
              | 3, _ => hd ⟨3, .phase⟩ (by simp) rfl
              | 4, _ => hd ⟨4, .phase⟩ (by simp) rfl
              | 5, _ => hd ⟨5, .phase⟩ (by simp) rfl
              | 6, _ => hd ⟨6, .phase⟩ (by simp) rfl
              | 7, _ => hd ⟨7, .phase⟩ (by simp) rfl
              | 8, _ => hd ⟨8, .phase⟩ (by simp) rfl
              | 9, _ => hd ⟨9, .phase⟩ (by simp) rfl
              | 10, _ => hd ⟨10, .phase⟩ (by simp) rfl
              | 11, _ => hd ⟨11, .phase⟩ (by simp) rfl
              | 12, _ => hd ⟨12, .phase⟩ (by simp) rfl
              | 13, _ => hd ⟨13, .phase⟩ (by simp) rfl
            obtain ⟨sa3, qa3, sc3, qc3, hx12, -⟩ := hI.rows (12, PWr d' c') (by simp [hRL]) (hall 12 (by decide))
            obtain ⟨sa2, qa2, sc2, qc2, hx13, hm13⟩ := hI.rows (13, PAg d') (by simp [hRL]) (hall 13 (by decide))
            have k13 : X 13 = .agg (agR sa2 qa2 sc2 qc2 d') := hx13
            have k14 : D 14 = true → X 14 = .int .i64 c' := fun h => hI.dt (14, .int .i64 c') (by simp [hTL]) h
            have n14 : updD D 15 14 = true → updV X 15 undef 14 = .int .i64 c' := fun h => by rw [updD_ne D 15 (by decide)] at h; rw [updV_ne X 15 _ (by decide)]; exact k14 h
            have n16 : updD D 15 16 = true → updD D 15 14 = true ∧ updV X 15 undef 16 = .int .i64 c' := fun h => by rw [updD_ne D 15 (by decide), hA6] at h; cases h
            exact stepO_store (by simp [Region.wanted]) RDT (.tmp 9) (.tmp 78) rfl g9 (agR sa2 qa2 sc2 qc2 d') (by simp [go_sem]) (by simp [go_sem, k13]) RDT _ (HBx.out.later hI.b) (by kernel_rfl) rfl (by simp [agR, Value.oneCell']) rfl undef (fun _ _ => hK undef _ (.inr ⟨updD_at D 15, fun j hj => (updD_ne D 15 (by omega)).trans (hall j hj), sa2, qa2, sc2, qc2, _, W, (updV_ne X 15 _ (by decide)).trans hx12, n14, n16, hI.b, hm13, rfl⟩))
          refine ⟨fun D X W hD hd hI Kx hK => ?_, ?_⟩
          · rcases hI with ⟨hA, -, -⟩ | ⟨hA, hB5, xa2, xq2, xs2, xk2, xv2, W0, k12, k14, k16, hbe, hmr, rfl⟩
            case inl => have h5 := hd ⟨15, .chain⟩ (by simp) rfl; rw [hA] at h5; cases h5
            have h4 := hd ⟨14, .data⟩ (by simp) rfl
            have a14 : X 14 = .int .i64 c' := k14 h4
            exact stepO_run (v := .int .i64 c') (w' := W0.setRow g9 (agR xa2 xq2 xs2 xk2 d')) (by simp [Region.wanted]) (by simp [go_sem, execOp, a14]) (hK _ _ (.inr ⟨(updD_ne D 16 (by decide)).trans hA, fun j hj => (updD_ne D 16 (by omega)).trans (hB5 j hj), xa2, xq2, xs2, xk2, xv2, W0, (updV_ne X 16 _ (by decide)).trans k12, fun h => (updV_ne X 16 _ (by decide)).trans a14, fun _ => ⟨(updD_ne D 16 (by decide)).trans h4, updV_at X 16 _⟩, hbe, hmr, rfl⟩))
          exact True.intro
        · intro D X W hD hI
          rcases hI with ⟨hA, -, -⟩ | ⟨hA, hB5, sa2, qa2, sc2, qc2, xv2, W0, k12, k14, k16, hbe, hmr, rfl⟩
          case inl => rw [hD 15 (by decide)] at hA; cases hA
          have a16 : X 16 = .int .i64 c' := (k16 (hD 16 (by decide))).2
          have HB8 := Lib.hid hbe
          have hBy := HBx.out.later hbe
          have ho : Out (fun j => j = g9) W0 (W0.setRow g9 (agR sa2 qa2 sc2 qc2 d')) := out_row W0 g9 _ rfl
          have HM9 := Lib.hid (hmr.out ho (fun g cs hb e => by
            subst e
            rcases hb with hb | hb
            · exact hb.apart hBy (by decide) rfl
            · exact hb.apart hBy (by decide) rfl))
          have HBy9 := Lib.hid (blo_row hBy (agR sa2 qa2 sc2 qc2 d'))
          have HX9 := Lib.hid (ho.blo (HX7.out.later hbe) (fun e => (HX7.out.later hbe).apart hBy (by decide) e))
          have HP9 := Lib.hid (ho.blo (HP7.out.later hbe) (fun e => (HP7.out.later hbe).apart hBy (by decide) e))
          have HF9 : Hid (∃ av, Fo (W0.setRow g9 (agR sa2 qa2 sc2 qc2 d')) w4.heap.size (.slice fb fn fd) av m.fs fn) := by
            obtain ⟨av, hf⟩ := HF7.out
            exact ⟨av, (hf.later hbe).out ho (fun g hg _ => by rw [hg]; exact HG9.out)⟩
          have HI9 := Lib.hid (own_out (own_later HI7.out hbe) ho (fun g hg _ => by rw [hg]; exact HG9.out))
          have HZ9 := Lib.hid (ho.blo (HZ7.out.later hbe) (fun e => by have := HLt9.out; omega))
          have HB9 := Lib.hid (show Below w.heap.size w (W0.setRow g9 (agR sa2 qa2 sc2 qc2 d')) from (HB7.out.trans (hbe.mono HB7.out.size)).trans (ho.below (Nat.le_trans HB7.out.size hbe.size) (fun j _ e => by have := HLt9.out; omega)))
          have HD9 := Lib.hid ((HD7.out.later hbe).out ho (fun j hj e => by subst e; exact (HD7.out.later hbe).apart hBy (by decide) (by decide) (by decide) hj))
          clear hD hA hB5 k12 k14 k16 hmr hKB hLB hRL hTL HBl HWm HKb ho hBy hbe HB8 HM7 HX7 HP7 HF7 HI7 HZ7 HB7 HD7 HBx HMr HRdd HBk
          rw [a16]
          simp only [List.drop_succ_cons, List.drop_zero]
          generalize W0.setRow g9 (agR sa2 qa2 sc2 qc2 d') = w9 at *
          have HSm : Hid (Calls Tryd.prog 35 #[part m.e m.c m.i m.p m.x fb fn fd ib inn id, part m.e m.c m.i m.p m.x fa fn fc ia inn ic] w9 fun e w' => e = .returned (.bool true) ∧ Below w9.heap.size w9 w') := by
            obtain ⟨av, hf⟩ := HF9.out
            exact (same_any (w := w9) m m fb fn fd ib inn id fa fn fc ia inn ic (hf.fis HFn.out) (HE.out.part.fin.fis.later HB9.out) HFn.out HFn.out (by have := HQ.out.1; omega) (fun x hx => by have := HQ.out.2.2.2.2 x hx; omega) (Ints.own HI9.out) (HE.out.part.ins.ints.below HB9.out) HIn.out HIn.out (by have := HQ.out.2.1; omega)).mono fun e w' ⟨⟨b, h1, h2⟩, h3⟩ => ⟨by rw [h1, h2.2 rfl], h3⟩
          clear HF9 HI9
          have c0 := HX9.out.cell 0
          have c1 := HX9.out.cell 1
          have c2 := HX9.out.cell 2
          have c3 := HX9.out.cell 3
          have c4 := HX9.out.cell 4
          have c5 := HX9.out.cell 5
          have c6 := HX9.out.cell 6
          have c7 := HX9.out.cell 7
          have p0 := HP9.out.cell 0
          have p1 := HP9.out.cell 1
          have p2 := HP9.out.cell 2
          have p3 := HP9.out.cell 3
          have p4 := HP9.out.cell 4
          have p5 := HP9.out.cell 5
          have p6 := HP9.out.cell 6
          simp at c0 c1 c2 c3 c4 c5 c6 c7 p0 p1 p2 p3 p4 p5 p6
          have q1 : (c' != c') = false := by simp
          have q2 : (c' == c') = true := by simp
          have HR9 : Hid (∀ W, Below w9.heap.size w9 W → WtR w g9 n0 K L (i + 1) W) := fun W hb => by
            refine WtR.later ⟨⟨q1v, ?_⟩, ⟨sa2, qa2, sc2, qc2, ?_, ?_⟩, HZ9.out, HB9.out⟩ hb
            · rw [HSt2.out]; exact HD9.out
            · rw [HSt2.out]; exact HM9.out
            · rw [HSt2.out]; exact HBy9.out
          clear HM9 HBy9 HX9 HP9 HZ9 HB9 HD9
          go_wp2_with fail
          refine HSm.out.mono ?_
          rintro e w10 ⟨rfl, hb10⟩
          have HR10 := Lib.hid (HR9.out _ hb10)
          clear hb10 HSm HR9 c0 c1 c2 c3 c4 c5 c6 c7 p0 p1 p2 p3 p4 p5 p6
          go_wp2_with fail
          refine ⟨⟨i + 1, by omega, by omega, by simp, HR10.out⟩, ?_⟩
          simp [intOf]
          omega
    · have hmin : min n 12 = i := by omega
      have hgo1 : ¬ i < n ∨ (i < n ∧ ¬ i < 12) := by omega
      obtain ⟨⟨q, hq⟩, ⟨sa, qa, sc, qc, hm, hx⟩, hz, hb⟩ := HS.out
      have y0 := hx.cell 0
      have y1 := hx.cell 1
      have y2 := hx.cell 2
      have y3 := hx.cell 3
      have z0 := hz.cell 0
      have z1 := hz.cell 1
      have z2 := hz.cell 2
      have z3 := hz.cell 3
      have e0 : wr.frozen? ⟨w.heap.size, 0, none⟩ = false := hz.frozen 0
      have e1 : wr.frozen? ⟨w.heap.size, 1, none⟩ = false := hz.frozen 1
      have e2 : wr.frozen? ⟨w.heap.size, 2, none⟩ = false := hz.frozen 2
      have e3 : wr.frozen? ⟨w.heap.size, 3, none⟩ = false := hz.frozen 3
      simp [agR] at y0 y1 y2 y3 z0 z1 z2 z3
      have HQ := Lib.hid hq
      have HM := Lib.hid hm
      have HZ := Lib.hid hz
      have HB := Lib.hid hb
      have HMn := Lib.hid hmin
      clear hq hm hx hz hb HS hmin hgo
      obtain ⟨dd, hdd⟩ : ∃ dd, wtD n0 K i = dd := ⟨_, rfl⟩
      have HDd := Lib.hid hdd
      rw [hdd] at HQ HM y0 y1 y2 y3
      clear hdd
      rcases hgo1 with hg | ⟨hg, hg2⟩
      all_goals go_upto_region 17 with (fail)
      all_goals go_region
      all_goals go_wp2_with fail
      all_goals refine bodyPost_ret (v := .tuple #[.pointer (some ⟨L.bd, 0, none⟩), .agg #[.slice sa dd.n sc, .slice qa dd.Q.length qc, .int .i64 dd.steps, .int .i64 (lfD dd)], .bool true]) ?_ rfl (wrt_fin HQ.out HM.out HZ.out HB.out HMn.out HDd.out)
      all_goals simp [results, Tryd.results10, go_sem, z0, z1, z2, z3]
end
end Go.Proofs.YtlkgaefabahkoaaDoor
/-
  Partial segments: what stands once zeros are put, and the power went.
-/
namespace Go.Proofs.YtlkgaefabahkoaaDoor
open Go.RowKit

theorem sur_wt (n0 : Nat) (K : Nat → Pz) : ∀ i, Sur (wtD n0 K i) ∧ (wtD n0 K i).armed = false ∧ (wtD n0 K i).left = 0
  | 0 => ⟨Sur.new n0, rfl, rfl⟩
  | i + 1 => by
    obtain ⟨h1, h2, h3⟩ := sur_wt n0 K i
    show Sur (stepZ (wtD n0 K i) (K i)) ∧ (stepZ (wtD n0 K i) (K i)).armed = false ∧ (stepZ (wtD n0 K i) (K i)).left = 0
    unfold stepZ
    split
    · have := Sur.seg h1 h2 (K i).ad (K i).m (lsF (rnd (K i).dt) (rdN (K i).m))
      exact ⟨this.1, this.2.1, this.2.2.trans h3⟩
    · exact ⟨h1, h2, h3⟩
theorem PieceIn.later {w w' : World} {ad : Int} {m : Sm} {fa : Option Addr} {fn fc : Nat} {ia : Option Addr} {inn ic : Nat} {da : Option Addr} {dn dc : Nat} {dt : List Nat} (h : PieceIn w ad m fa fn fc ia inn ic da dn dc dt) (hb : Below w.heap.size w w') : PieceIn w' ad m fa fn fc ia inn ic da dn dc dt :=
  ⟨⟨⟨h.part.fin.fis.later hb, h.part.fin.leq, h.part.fin.lenm, h.part.fin.lb, h.part.fin.wf, h.part.fin.nil, fisN_later h.part.fin.nils h.part.fin.fis hb⟩, ⟨h.part.ins.ints.below hb, h.part.ins.leq, h.part.ins.lenm, h.part.ins.nil, h.part.ins.wf⟩, h.part.we, h.part.wc, h.part.wi, h.part.wp, h.part.wx⟩, h.data.below hb, h.len, h.nil, h.le, h.cap, h.wa⟩
theorem pzs_one {w : World} {g : Nat} {p : Pz} (hX : Blo w g PZT (pzA p)) (hP : PieceIn w p.ad p.m p.fa p.fn p.fc p.ia p.inn p.ic p.da p.dn p.dc p.dt) : Pzs w (some ⟨g, 0, none⟩) 1 (fun _ => p) :=
  ⟨fun i hi => ⟨g, 0, rfl, fun j u hj => by
    obtain rfl : i = 0 := by omega
    rw [show 0 + 0 * 9 + j = j by omega, hX.cell]
    exact hj⟩, fun _ _ => hP⟩
/-- What Clear leaves. -/
structure ClrS (d d2 : Dm) (k : Nat) : Prop where
  sur : Sur d2
  arm : d2.armed = false
  n : d2.n = d.n
  left : d2.left = d.left
  N : d2.N = setsB d.N k [zeroB, zeroB]
theorem clear_sur {d : Dm} (hs : Sur d) (ha : d.armed = false) (k : Nat) (hk : k + 2 ≤ d.n) : (clearD d (k : Int)).2 = 0 ∧ ClrS d (clearD d (k : Int)).1 k := by
  have hb : hasB d.n (k : Int) 2 = true := by simp [hasB]; omega
  obtain ⟨g1, g2, g3, g4⟩ := sureD_ok [zeroB, zeroB] (d := d) (k := k) ha (by simp; omega) (by simp [zeroB])
  unfold clearD
  rw [if_pos hb]
  unfold cleanD
  exact ⟨g1, Sur.sure hs.nf g1, g2, sureD_n _ _ _, g4, (sureD_N g1).1⟩
theorem clear_no (d : Dm) (k : Int) (hk : k < 0 ∨ (d.n : Int) - 2 < k) : clearD d k = (d, 22) := by
  have hb : hasB d.n k 2 = false := by simp [hasB]; omega
  unfold clearD
  rw [if_neg (by rw [hb]; simp)]
theorem ClrS.out {d d2 : Dm} {k : Nat} (h : ClrS d d2 k) (i : Nat) (h1 : i ≠ k) (h2 : i ≠ k + 1) : d2.N i = d.N i := by
  rw [h.N, setsB_out _ k _ i (by simp; omega)]
theorem ClrS.zero {d d2 : Dm} {k : Nat} (h : ClrS d d2 k) : d2.N k = zeroB ∧ d2.N (k + 1) = zeroB := by
  rw [h.N]
  exact ⟨setsB_in _ k _ 0 (by simp), setsB_in _ k _ 1 (by simp)⟩
end Go.Proofs.YtlkgaefabahkoaaDoor
/-
  Partial segments where the power goes: a Write that is cut off, and the crash behind it.
-/
namespace Go.Proofs.YtlkgaefabahkoaaDoor
open Go.RowKit

theorem write_vals {d : Dm} {k : Int} {l : List Nat} (hk : 0 ≤ k) : (writeD d k l).1.S = d.S ∧ ∀ p ∈ (writeD d k l).1.Q, p ∈ d.Q ∨ ((p.1 : Int) = k ∧ p.2 = l) := by
  unfold writeD
  split
  · exact ⟨rfl, fun p hp => .inl hp⟩
  · split
    · exact ⟨rfl, fun p hp => .inl hp⟩
    · refine ⟨rfl, fun p hp => ?_⟩
      rcases List.mem_append.1 (show p ∈ d.Q ++ [(k.toNat, l)] from hp) with h | h
      · exact .inl h
      · rw [List.mem_singleton] at h
        subst h
        exact .inr ⟨by show ((k.toNat : Nat) : Int) = k; omega, rfl⟩
theorem puts_vals : ∀ (ls : List (List Nat)) (d : Dm) (k : Int), 0 ≤ k → (putsD d k ls).1.S = d.S ∧ ∀ p ∈ (putsD d k ls).1.Q, p ∈ d.Q ∨ ∃ i, i < ls.length ∧ (p.1 : Int) = k + i ∧ p.2 = nthL ls i
  | [], d, k, _ => ⟨rfl, fun p hp => .inl hp⟩
  | l :: ls, d, k, hk => by
    have hw := write_vals (d := d) (l := l) hk
    rw [putsD_cons]
    by_cases hc : (writeD d k l).2 = 0
    · rw [if_pos hc]
      obtain ⟨h1, h2⟩ := puts_vals ls (writeD d k l).1 (k + 1) (by omega)
      refine ⟨h1.trans hw.1, fun p hp => ?_⟩
      rcases h2 p hp with h | ⟨i, hi, e1, e2⟩
      · rcases hw.2 p h with h | ⟨e1, e2⟩
        · exact .inl h
        · exact .inr ⟨0, by simp, by omega, e2⟩
      · exact .inr ⟨i + 1, by simpa using hi, by omega, e2⟩
    · rw [if_neg hc]
      refine ⟨hw.1, fun p hp => ?_⟩
      rcases hw.2 p hp with h | ⟨e1, e2⟩
      · exact .inl h
      · exact .inr ⟨0, by simp, by omega, e2⟩
/-- No write of the queue is of this block. -/
def Off (d : Dm) (i : Nat) : Prop := ∀ p ∈ d.Q, p.1 ≠ i
theorem puts_off {d : Dm} {i : Nat} (h : Off d i) (k : Int) (ls : List (List Nat)) (hk : 0 ≤ k) (hi : (i : Int) < k ∨ k + ls.length ≤ i) : (putsD d k ls).1.S i = d.S i ∧ Off (putsD d k ls).1 i := by
  obtain ⟨h1, h2⟩ := puts_vals ls d k hk
  refine ⟨by rw [h1], fun p hp e => ?_⟩
  rcases h2 p hp with h3 | ⟨j, hj, e1, _⟩
  · exact h p h3 e
  · subst e; omega
theorem bar_off {d : Dm} {i : Nat} (h : Off d i) : (barrD d).1.S i = d.S i ∧ Off (barrD d).1 i := by
  unfold barrD
  split
  · exact ⟨rfl, h⟩
  · exact ⟨flushQ_out d.S d.Q i h, fun p hp => by cases hp⟩
theorem sure_off {d : Dm} {i : Nat} (h : Off d i) (k : Int) (ls : List (List Nat)) (hk : 0 ≤ k) (hi : (i : Int) < k ∨ k + ls.length ≤ i) : (sureD d k ls).1.S i = d.S i ∧ Off (sureD d k ls).1 i := by
  have h1 := puts_off h k ls hk hi
  unfold sureD
  split
  · have h2 := bar_off h1.2
    exact ⟨h2.1.trans h1.1, h2.2⟩
  · exact h1
theorem crK_pred (P : List Nat → Prop) (S : Nat → List Nat) (Q : List (Nat × List Nat)) (keep : List Bool) (torn sec : Int) (i : Nat) (h0 : P (S i)) (h : ∀ p ∈ Q, p.1 = i → P p.2 ∧ ∀ cur, P cur → P (tearK 4 cur p.2 sec)) : ∀ k, k ≤ Q.length → P (crK S Q keep torn sec k i)
  | 0, _ => h0
  | k + 1, hk => by
    have ih := crK_pred P S Q keep torn sec i h0 h k (by omega)
    have hq : Q.getD k (0, []) = Q[k] := by rw [List.getD_eq_getElem?_getD, List.getElem?_eq_getElem (by omega)]; rfl
    have hm : Q[k] ∈ Q := List.getElem_mem (by omega)
    unfold crK
    rw [hq]
    by_cases e : i = Q[k].1
    · have hp := h _ hm e.symm
      split
      · rw [e, updB_at]; exact hp.1
      · split
        · rw [← e, updB_at]; exact hp.2 _ ih
        · exact ih
    · split
      · rw [updB_ne _ _ e]; exact ih
      · split
        · rw [updB_ne _ _ e]; exact ih
        · exact ih
section
variable {d : Dm} {F : Nat} {m : Sm} {ls : List (List Nat)}
theorem seg_off {i : Nat} (h : Off d i) (hx : 0 ≤ m.x ∨ segW d (F : Int) m ls = (d, 22) ∨ segW d (F : Int) m ls = (d, chkM m)) (h1 : i < F + 2 ∨ F + 2 + ls.length ≤ i) (h2 : (i : Int) < m.x ∨ m.x + 2 ≤ i) (h3 : i < F ∨ F + 2 ≤ i) :
    (segW d (F : Int) m ls).1.S i = d.S i ∧ Off (segW d (F : Int) m ls).1 i := by
  rcases hx with hx | hx | hx
  · have g1 := puts_off h ((F : Int) + 2) ls (by omega) (by omega)
    have g2 := sure_off g1.2 m.x [zeroB, zeroB] hx (by simp; omega)
    have g3 := sure_off g2.2 (F : Int) [(headM m ls).take 64, (headM m ls).drop 64] (by omega) (by simp; omega)
    unfold segW
    split
    · exact ⟨rfl, h⟩
    · split
      · exact ⟨rfl, h⟩
      · split
        · exact g1
        · split
          · exact ⟨g2.1.trans g1.1, g2.2⟩
          · exact ⟨g3.1.trans (g2.1.trans g1.1), g3.2⟩
  · rw [hx]; exact ⟨rfl, h⟩
  · rw [hx]; exact ⟨rfl, h⟩
/-- Where a Write may be refused, and where not. -/
theorem seg_code (d : Dm) (F : Int) (m : Sm) (ls : List (List Nat)) : (segW d F m ls).2 = 0 ∨ (segW d F m ls).2 = 102 ∨ (segW d F m ls).2 = 22 ∨ (segW d F m ls).2 = 27 := by
  have hw : ∀ (d : Dm) (k : Int) (l : List Nat), (writeD d k l).2 = 0 ∨ (writeD d k l).2 = 102 ∨ (writeD d k l).2 = 22 := fun d k l => by
    unfold writeD
    repeat' split
    all_goals simp
  have hp : ∀ (ls : List (List Nat)) (d : Dm) (k : Int), (putsD d k ls).2 = 0 ∨ (putsD d k ls).2 = 102 ∨ (putsD d k ls).2 = 22 := by
    intro ls
    induction ls with
    | nil => intro d k; exact .inl rfl
    | cons l ls ih =>
      intro d k
      rw [putsD_cons]
      split
      · exact ih _ _
      · exact hw _ _ _
  have hb : ∀ d : Dm, (barrD d).2 = 0 ∨ (barrD d).2 = 102 := fun d => by
    unfold barrD
    split <;> simp
  have hs : ∀ (ls : List (List Nat)) (d : Dm) (k : Int), (sureD d k ls).2 = 0 ∨ (sureD d k ls).2 = 102 ∨ (sureD d k ls).2 = 22 := fun ls d k => by
    unfold sureD
    split
    · rcases hb (putsD d k ls).1 with h | h
      · exact .inl h
      · exact .inr (.inl h)
    · exact hp _ _ _
  have aux : ∀ x : Int, x = 0 ∨ x = 102 ∨ x = 22 → x = 0 ∨ x = 102 ∨ x = 22 ∨ x = 27 := fun x h => by rcases h with h | h | h <;> simp [h]
  unfold segW
  split
  · rcases chk_code m with h | h | h <;> simp [h]
  · split
    · simp
    · split
      · exact aux _ (hp _ _ _)
      · split
        · exact aux _ (hs _ _ _)
        · exact aux _ (hs _ _ _)
theorem readC_zero {c : Dm} {F : Nat} (h0 : c.N F = zeroB) (h1 : c.N (F + 1) = zeroB) : readC c (F : Int) ≠ 0 := by
  unfold readC
  rw [Int.toNat_natCast]
  have e : rdL c F = zeroB ++ zeroB := by unfold rdL; rw [h0, h1]
  rw [e]
  split
  · decide
  · rw [if_pos okB_zero]; decide
theorem readC_form {c : Dm} {F : Nat} (h : okB (rdL c F) = false) : readC c (F : Int) = 100 := by
  unfold readC
  rw [Int.toNat_natCast]
  split
  · rfl
  · first | rfl | rw [if_pos h]
/-- The last step of a Write: its two blocks, over zeros that are sure. -/
theorem last_cut {d5 : Dm} (hs : Sur d5) (h0 : d5.N F = zeroB) (h1 : d5.N (F + 1) = zeroB) (H : List Nat) (hH : H.length = 128) (keep : List Bool) (torn sec : Int) :
    Mx64 (H.take 64) ((crashD (sureD d5 (F : Int) [H.take 64, H.drop 64]).1 keep torn sec).N F) ∧ Mx64 (H.drop 64) ((crashD (sureD d5 (F : Int) [H.take 64, H.drop 64]).1 keep torn sec).N (F + 1)) := by
  have hl1 : (H.take 64).length = 64 := by rw [List.length_take]; omega
  have hl2 : (H.drop 64).length = 64 := by rw [List.length_drop]; omega
  by_cases hc : (sureD d5 (F : Int) [H.take 64, H.drop 64]).2 = 0
  · have hS := Sur.sure hs.nf hc
    have hN := (sureD_N hc).1
    rw [hS.crash, hS.crash, hN]
    have e1 := setsB_in d5.N F [H.take 64, H.drop 64] 0 (by simp)
    have e2 := setsB_in d5.N F [H.take 64, H.drop 64] 1 (by simp)
    rw [Nat.add_zero] at e1
    rw [e1, e2]
    exact ⟨Mx64.full hl1, Mx64.full hl2⟩
  · have hA : (sureD d5 (F : Int) [H.take 64, H.drop 64]).1 = (putsD d5 (F : Int) [H.take 64, H.drop 64]).1 := by
      unfold sureD at hc ⊢
      by_cases hp : (putsD d5 (F : Int) [H.take 64, H.drop 64]).2 = 0
      · rw [if_pos hp] at hc ⊢
        unfold barrD at hc ⊢
        by_cases hd : deadB (putsD d5 (F : Int) [H.take 64, H.drop 64]).1 = true
        · rw [if_pos hd]
        · rw [if_neg hd] at hc; exact absurd rfl hc
      · rw [if_neg hp]
    rw [hA]
    obtain ⟨g1, g2⟩ := puts_vals [H.take 64, H.drop 64] d5 (F : Int) (by omega)
    have hv : ∀ p ∈ (putsD d5 (F : Int) [H.take 64, H.drop 64]).1.Q, (p.1 = F ∧ p.2 = H.take 64) ∨ (p.1 = F + 1 ∧ p.2 = H.drop 64) := fun p hp => by
      rcases g2 p hp with h | ⟨i, hi, e1, e2⟩
      · rw [hs.q] at h; cases h
      · match i, (show i < 2 by simpa using hi) with
        | 0, _ => exact .inl ⟨by omega, e2⟩
        | 1, _ => exact .inr ⟨by omega, e2⟩
    constructor
    · refine crK_pred (Mx64 (H.take 64)) _ _ keep torn sec F (by rw [g1, hs.s, h0]; exact Mx64.none _) (fun p hp e => ?_) _ (Nat.le_refl _)
      rcases hv p hp with ⟨e1, e2⟩ | ⟨e1, e2⟩
      · rw [e2]; exact ⟨Mx64.full hl1, fun cur hcur => hcur.tear⟩
      · omega
    · refine crK_pred (Mx64 (H.drop 64)) _ _ keep torn sec (F + 1) (by rw [g1, hs.s, h1]; exact Mx64.none _) (fun p hp e => ?_) _ (Nat.le_refl _)
      rcases hv p hp with ⟨e1, e2⟩ | ⟨e1, e2⟩
      · omega
      · rw [e2]; exact ⟨Mx64.full hl2, fun cur hcur => hcur.tear⟩
/-- Wherever the power goes: there is the whole partial segment, or none. -/
theorem seg_cut (hs : Sur d) (h0 : d.N F = zeroB) (h1 : d.N (F + 1) = zeroB) (hb : ∀ l ∈ ls, ∀ x ∈ l, x < 256) (keep : List Bool) (torn sec : Int)
    (hr : readC (crashD (segW d (F : Int) m ls).1 keep torn sec) (F : Int) = 0) : Back (crashD (segW d (F : Int) m ls).1 keep torn sec) F m ls := by
  have hOff : ∀ i, Off d i := fun i p hp => by rw [hs.q] at hp; cases hp
  have no : ∀ D : Dm, (∀ i, i = F ∨ i = F + 1 → D.S i = d.S i ∧ Off D i) → readC (crashD D keep torn sec) (F : Int) = 0 → False := fun D hD hr => by
    have a := hD F (.inl rfl)
    have b := hD (F + 1) (.inr rfl)
    refine readC_zero ?_ ?_ hr
    · rw [crash_out D keep torn sec F a.2, a.1, hs.s, h0]
    · rw [crash_out D keep torn sec (F + 1) b.2, b.1, hs.s, h1]
  by_cases k1 : chkM m = 0
  · by_cases k2 : wrB d.n (F : Int) m.x m.fs m.is ls = true
    · have hw := wrB_len k2
      have hx0 : 0 ≤ m.x := by omega
      have p1 := fun i (hi : i = F ∨ i = F + 1) => puts_off (hOff i) ((F : Int) + 2) ls (by omega) (by omega)
      by_cases k3 : (putsD d ((F : Int) + 2) ls).2 = 0
      · have p2 := fun i (hi : i = F ∨ i = F + 1) => sure_off (p1 i hi).2 m.x [zeroB, zeroB] hx0 (by simp; omega)
        by_cases k4 : (cleanD (putsD d ((F : Int) + 2) ls).1 m.x).2 = 0
        · have hseg : segW d (F : Int) m ls = sureD (cleanD (putsD d ((F : Int) + 2) ls).1 m.x).1 (F : Int) [(headM m ls).take 64, (headM m ls).drop 64] := by
            unfold segW
            rw [if_neg (fun q => q k1), if_neg (by rw [k2]; simp), if_neg (fun q => q k3), if_neg (fun q => q k4)]
          rw [hseg] at hr ⊢
          have hS5 : Sur (cleanD (putsD d ((F : Int) + 2) ls).1 m.x).1 := Sur.sure (Nf.puts ls _ hs.nf) k4
          obtain ⟨x0, hx⟩ : ∃ x0 : Nat, m.x = (x0 : Int) := ⟨m.x.toNat, by omega⟩
          have e : ((F : Int) + 2) = ((F + 2 : Nat) : Int) := by omega
          have hN5 : (cleanD (putsD d ((F : Int) + 2) ls).1 m.x).1.N = setsB (setsB d.N (F + 2) ls) x0 [zeroB, zeroB] := by
            rw [hx, e] at k4 ⊢
            rw [e] at k3
            unfold cleanD at k4 ⊢
            rw [(sureD_N k4).1, putsD_N ls d (F + 2) k3]
          have hn5 : (cleanD (putsD d ((F : Int) + 2) ls).1 m.x).1.n = d.n := by rw [cleanD_n, putsD_n]
          have z0 : (cleanD (putsD d ((F : Int) + 2) ls).1 m.x).1.N F = zeroB := by
            rw [hN5, setsB_out _ x0 _ F (by simp; omega), setsB_out _ (F + 2) _ F (by omega), h0]
          have z1 : (cleanD (putsD d ((F : Int) + 2) ls).1 m.x).1.N (F + 1) = zeroB := by
            rw [hN5, setsB_out _ x0 _ (F + 1) (by simp; omega), setsB_out _ (F + 2) _ (F + 1) (by omega), h1]
          have ha : ∀ i, i < ls.length → (cleanD (putsD d ((F : Int) + 2) ls).1 m.x).1.N (F + 2 + i) = nthL ls i := fun i hi => by
            rw [hN5, setsB_out _ x0 _ (F + 2 + i) (by simp; omega), setsB_in _ _ _ i hi]
          generalize (cleanD (putsD d ((F : Int) + 2) ls).1 m.x).1 = d5 at *
          have hH := headM_len m ls k1
          have hcut := last_cut hS5 z0 z1 (headM m ls) hH keep torn sec
          have hO5 : ∀ i, Off d5 i := fun i p hp => by rw [hS5.q] at hp; cases hp
          have hfr : ∀ i, F + 2 ≤ i → (crashD (sureD d5 (F : Int) [(headM m ls).take 64, (headM m ls).drop 64]).1 keep torn sec).N i = d5.N i := fun i hi => by
            have := sure_off (hO5 i) (F : Int) [(headM m ls).take 64, (headM m ls).drop 64] (by omega) (by simp; omega)
            rw [crash_out _ keep torn sec i this.2, this.1, hS5.s]
          have hcn : (crashD (sureD d5 (F : Int) [(headM m ls).take 64, (headM m ls).drop 64]).1 keep torn sec).n = d.n := by rw [crash_n, sureD_n, hn5]
          generalize crashD (sureD d5 (F : Int) [(headM m ls).take 64, (headM m ls).drop 64]).1 keep torn sec = c at *
          have hok : okB (rdL c F) = true := by
            cases ho : okB (rdL c F) with
            | true => rfl
            | false => rw [readC_form ho] at hr; cases hr
          have hmx : MxZ (headM m ls) (rdL c F) := mx_app hH hcut.1 hcut.2
          have heq := okB_mix hH hmx hok
          have hl1 : (c.N F).length = 64 := hcut.1.1
          have e1 : c.N F = (headM m ls).take 64 := by rw [← heq]; unfold rdL; rw [List.take_left' hl1]
          have e2 : c.N (F + 1) = (headM m ls).drop 64 := by rw [← heq]; unfold rdL; rw [List.drop_left' hl1]
          exact (show Here c F m ls from ⟨k1, by have := hw.2.2.2.2.2.1; omega, hb, by rw [hcn]; omega, e1, e2, fun i hi => by rw [hfr _ (by omega), ha i hi]⟩).back
        · exfalso
          have hseg : segW d (F : Int) m ls = cleanD (putsD d ((F : Int) + 2) ls).1 m.x := by
            unfold segW
            rw [if_neg (fun q => q k1), if_neg (by rw [k2]; simp), if_neg (fun q => q k3), if_pos k4]
          rw [hseg] at hr
          exact no _ (fun i hi => ⟨(p2 i hi).1.trans (p1 i hi).1, (p2 i hi).2⟩) hr
      · exfalso
        have hseg : segW d (F : Int) m ls = putsD d ((F : Int) + 2) ls := by
          unfold segW
          rw [if_neg (fun q => q k1), if_neg (by rw [k2]; simp), if_pos k3]
        rw [hseg] at hr
        exact no _ p1 hr
    · exfalso
      have hseg : segW d (F : Int) m ls = (d, 22) := by
        unfold segW
        rw [if_neg (fun q => q k1), if_pos (bool_no k2)]
      rw [hseg] at hr
      exact no d (fun i _ => ⟨rfl, hOff i⟩) hr
  · exfalso
    have hseg : segW d (F : Int) m ls = (d, chkM m) := by
      unfold segW
      rw [if_pos k1]
    rw [hseg] at hr
    exact no d (fun i _ => ⟨rfl, hOff i⟩) hr
/-- A Write that answers OK stands, whatever crash comes. -/
theorem seg_stands (hs : Sur d) (hb : ∀ l ∈ ls, ∀ x ∈ l, x < 256) (keep : List Bool) (torn sec : Int) (hc : (segW d (F : Int) m ls).2 = 0) : readC (crashD (segW d (F : Int) m ls).1 keep torn sec) (F : Int) = 0 := by
  have hH := segW_here hc hb
  have hS : Sur (segW d (F : Int) m ls).1 := by
    unfold segW at hc ⊢
    by_cases k1 : chkM m = 0
    · rw [if_neg (fun q => q k1)] at hc ⊢
      by_cases k2 : wrB d.n (F : Int) m.x m.fs m.is ls = true
      · rw [if_neg (by rw [k2]; simp)] at hc ⊢
        by_cases k3 : (putsD d ((F : Int) + 2) ls).2 = 0
        · rw [if_neg (fun q => q k3)] at hc ⊢
          by_cases k4 : (cleanD (putsD d ((F : Int) + 2) ls).1 m.x).2 = 0
          · rw [if_neg (fun q => q k4)] at hc ⊢
            exact Sur.sure (Sur.sure (Nf.puts ls _ hs.nf) k4).nf hc
          · rw [if_pos k4] at hc; exact absurd hc k4
        · rw [if_pos k3] at hc; exact absurd hc k3
      · rw [if_pos (bool_no k2)] at hc; cases hc
    · rw [if_pos k1] at hc; exact absurd hc k1
  have hN := fun i => hS.crash keep torn sec i
  have hn := crash_n (segW d (F : Int) m ls).1 keep torn sec
  generalize crashD (segW d (F : Int) m ls).1 keep torn sec = c at *
  exact (show Here c F m ls from ⟨hH.chk, hH.len, hb, by rw [hn]; exact hH.fits, by rw [hN]; exact hH.h1, by rw [hN]; exact hH.h2, fun i hi => by rw [hN]; exact hH.at_ i hi⟩).back.code
/-- What stood elsewhere is as it was. -/
theorem seg_else (hs : Sur d) (keep : List Bool) (torn sec : Int) {i : Nat} (hc : (segW d (F : Int) m ls).2 = 0 ∨ (segW d (F : Int) m ls).2 = 102)
    (h1 : i < F ∨ F + blks m.fs m.is ≤ i) (h2 : (i : Int) ≠ m.x) (h3 : (i : Int) ≠ m.x + 1) : (crashD (segW d (F : Int) m ls).1 keep torn sec).N i = d.N i := by
  have hO : Off d i := fun p hp => by rw [hs.q] at hp; cases hp
  by_cases k1 : chkM m = 0
  · by_cases k2 : wrB d.n (F : Int) m.x m.fs m.is ls = true
    · have hw := wrB_len k2
      have hl := hw.2.2.2.2.2.1
      have g := seg_off (F := F) (ls := ls) hO (.inl (show 0 ≤ m.x by omega)) (by omega) (by omega) (by omega)
      rw [crash_out _ keep torn sec i g.2, g.1, hs.s]
    · unfold segW at hc
      rw [if_neg (fun q => q k1), if_pos (bool_no k2)] at hc
      rcases hc with h | h <;> cases h
  · unfold segW at hc
    rw [if_pos k1] at hc
    rcases hc with h | h
    · exact absurd h k1
    · have h' : chkM m = 102 := h
      rcases chk_code m with q | q | q <;> rw [q] at h' <;> cases h'
end
end Go.Proofs.YtlkgaefabahkoaaDoor
/-
  The walk of SegClears.
-/
namespace Go.Proofs.YtlkgaefabahkoaaDoor
open Go.RowKit

/-- What stands once the disk is written. -/
structure ClW (w : World) (g6 : Nat) (sa qa : Option Addr) (sc qc : Nat) (d : Dm) (W : World) : Prop where
  box : Blo W g6 RDT (agR sa qa sc qc d)
  mr : Mr W sa qa sc qc d
  below : Below w.heap.size w W
theorem ClW.later {w W w' : World} {g6 : Nat} {sa qa : Option Addr} {sc qc : Nat} {d : Dm} (h : ClW w g6 sa qa sc qc d W) (hb : Below W.heap.size W w') : ClW w g6 sa qa sc qc d w' :=
  ⟨h.box.later hb, h.mr.later hb, h.below.trans (hb.mono h.below.size)⟩
theorem ClW.out {C : Nat} {w W w' : World} {g6 : Nat} {sa qa : Option Addr} {sc qc : Nat} {d d2 : Dm} {L : Dl} (h : ClW w g6 sa qa sc qc d W) (hD : Dk C W L d2) (hC : w.heap.size ≤ C) (ho : Out L.has W w') : ClW w g6 sa qa sc qc d w' := by
  refine ⟨ho.blo h.box (hD.apart h.box (by decide) (by decide) (by decide)), h.mr.out ho (fun g cs hb => ?_), h.below.trans (ho.below h.below.size (fun i _ hi => by have := (hD.has_lt hi).1; omega))⟩
  rcases hb with hb | hb
  · exact hD.apart hb (by decide) (by decide) (by decide)
  · exact hD.apart hb (by decide) (by decide) (by decide)
theorem bblk_later {w w' : World} {g : Nat} {l : List Nat} (h : BBlk w g l) (hb : Below w.heap.size w w') : BBlk w' g l := h.out (X := fun _ => False) (Out.of_below hb) (fun h => h)
section
variable {w : World}
set_option maxRecDepth 100000 in
set_option maxHeartbeats 8000000 in
theorem segClears_walk (ad : Int) (m : Sm) (fa : Option Addr) (fn fc : Nat) (ia : Option Addr) (inn ic : Nat) (da : Option Addr) (dn dc : Nat) (dt : List Nat) (at_ : Int) (w : World) (hL : Tab w ∧ 0 < w.heap.size) (hP : PieceIn w ad m fa fn fc ia inn ic da dn dc dt) (_ : (Lit.int .i64 at_).wf = true) :
    Calls Tryd.prog 7 #[.agg (pieceA ad m fa fn fc ia inn ic da dn dc), .int .i64 at_] w fun e w' => e = .returned (.bool true) ∧ Below w.heap.size w w' := by
  have HT := Lib.hid (show ∀ W, Below w.heap.size w W → Tab W ∧ 0 < W.heap.size from fun W hb => ⟨hL.1.below hb hL.2, by have := hb.size; have := hL.2; omega⟩)
  have HP := Lib.hid hP
  have hfn := hP.part.fin.leq
  have hin := hP.part.ins.leq
  have hb0 := sup_pc w (.cells (pieceA ad m fa fn fc ia inn ic da dn dc) PZT)
  have HB0 := Lib.hid hb0
  have HX0 := Lib.hid (blo_laid w PZT (pieceA ad m fa fn fc ia inn ic da dn dc))
  have HAw := Lib.hid (fun (W : World) (hb : Below w.heap.size w W) => awake_any W (HT.out W hb).1 (HT.out W hb).2)
  have HFw := Lib.hid (fun (W : World) (hb : Below w.heap.size w W) => few15_any (w := W) ad m.e m.c m.i m.p m.x m.fs m.is fa fn fc ia inn ic da dn dc (hP.part.fin.fis.later hb) hfn hin hP.part.fin.lenm hP.part.ins.lenm hP.le hP.part.fin.lb)
  obtain ⟨K, hK⟩ : ∃ K : Nat → Pz, K = fun _ => ⟨ad, m, fa, fn, fc, ia, inn, ic, da, dn, dc, dt⟩ := ⟨_, rfl⟩
  have HWn : Hid (∀ (W : World) (g : Nat), Below w.heap.size w W → Blo W g PZT (pieceA ad m fa fn fc ia inn ic da dn dc) → Calls Tryd.prog 10 #[.int .i64 120, .slice (some ⟨g, 0, none⟩) 1 1] W (WrtO 120 K 1 W)) := fun W g hb hX => by
    have hp : Pzs W (some ⟨g, 0, none⟩) 1 K := by
      subst hK
      exact pzs_one (p := ⟨ad, m, fa, fn, fc, ia, inn, ic, da, dn, dc, dt⟩) hX (HP.out.later hb)
    exact written_any 120 (by decide) (by decide) _ 1 1 K W (by decide) (HT.out W hb) hp
  have HD1 : Hid (Sur (wtD 120 K 1) ∧ (wtD 120 K 1).armed = false ∧ (wtD 120 K 1).left = 0) := sur_wt 120 K 1
  have HRm1 : Hid (Rm (wtD 120 K 1) 3) := (wtD_rm 120 K 1 (by decide)).mono (by decide)
  have HN1 : Hid ((wtD 120 K 1).n = 120) := wtD_n 120 K 1
  clear hL hP hb0 hfn hin hK
  unfold WrtO at HWn
  rw [show min 1 12 = 1 by rfl] at HWn
  generalize wtD 120 K 1 = d1 at *
  cases hfew : few15 m.fs m.is dn with
  | false =>
    rw [hfew] at HFw
    clear hfew
    go_enter Tryd.func7, Tryd.ntmps7
    go_wp2_with fail
    refine (HAw.out _ HB0.out).mono ?_
    rintro e w1 ⟨rfl, hb1⟩
    have HB1 := Lib.hid (HB0.out.trans (hb1.mono HB0.out.size))
    have HX1 := Lib.hid (HX0.out.later hb1)
    have c0 := HX1.out.cell 0
    have c1 := HX1.out.cell 1
    have c2 := HX1.out.cell 2
    have c3 := HX1.out.cell 3
    have c4 := HX1.out.cell 4
    have c5 := HX1.out.cell 5
    have c6 := HX1.out.cell 6
    have c7 := HX1.out.cell 7
    have c8 := HX1.out.cell 8
    simp at c0 c1 c2 c3 c4 c5 c6 c7 c8
    clear hb1 HX0 HB0
    go_wp2_with fail
    refine (HFw.out _ HB1.out).mono ?_
    rintro e w2 ⟨rfl, hb2⟩
    have HB2 := Lib.hid (HB1.out.trans (hb2.mono HB1.out.size))
    clear hb2 HX1 HB1 c0 c1 c2 c3 c4 c5 c6 c7 c8
    go_wp2_with fail
    refine (HAw.out _ HB2.out).mono ?_
    rintro e w3 ⟨rfl, hb3⟩
    have HB3 := Lib.hid (HB2.out.trans (hb3.mono HB2.out.size))
    clear hb3 HB2 HFw HAw HT HP
    go_wp2
    go_ret
    exact ⟨rfl, HB3.out⟩
  | true =>
    rw [hfew] at HFw
    clear hfew
    go_enter Tryd.func7, Tryd.ntmps7
    go_wp2_with fail
    refine (HAw.out _ HB0.out).mono ?_
    rintro e w1 ⟨rfl, hb1⟩
    have HB1 := Lib.hid (HB0.out.trans (hb1.mono HB0.out.size))
    have HX1 := Lib.hid (HX0.out.later hb1)
    have c0 := HX1.out.cell 0
    have c1 := HX1.out.cell 1
    have c2 := HX1.out.cell 2
    have c3 := HX1.out.cell 3
    have c4 := HX1.out.cell 4
    have c5 := HX1.out.cell 5
    have c6 := HX1.out.cell 6
    have c7 := HX1.out.cell 7
    have c8 := HX1.out.cell 8
    simp at c0 c1 c2 c3 c4 c5 c6 c7 c8
    clear hb1 HX0 HB0
    go_wp2_with fail
    refine (HFw.out _ HB1.out).mono ?_
    rintro e w2 ⟨rfl, hb2⟩
    have HB2 := Lib.hid (HB1.out.trans (hb2.mono HB1.out.size))
    have HX2 := Lib.hid (HX1.out.later hb2)
    clear hb2 HX1 HB1 c0 c1 c2 c3 c4 c5 c6 c7 c8 HFw HAw
    have c0 := HX2.out.cell 0
    have c1 := HX2.out.cell 1
    have c2 := HX2.out.cell 2
    have c3 := HX2.out.cell 3
    have c4 := HX2.out.cell 4
    have c5 := HX2.out.cell 5
    have c6 := HX2.out.cell 6
    have c7 := HX2.out.cell 7
    have c8 := HX2.out.cell 8
    simp at c0 c1 c2 c3 c4 c5 c6 c7 c8
    go_wp2_with fail
    have hb3 := sup_pc w2 (.cells (pieceA ad m fa fn fc ia inn ic da dn dc) PZT)
    have HB3 := Lib.hid (HB2.out.trans (hb3.mono HB2.out.size))
    have HX3 := Lib.hid (blo_laid w2 PZT (pieceA ad m fa fn fc ia inn ic da dn dc))
    clear hb3 HB2 HX2 c0 c1 c2 c3 c4 c5 c6 c7 c8
    refine (HWn.out _ _ HB3.out HX3.out).mono ?_
    rintro e w4 ⟨L, sa, qa, sc, qc, rfl, hD, hM, hb4⟩
    have hal := sup_pc w4 (.cells (agR sa qa sc qc d1) RDT)
    have HD5 := Lib.hid ((hD.deeper (show w.heap.size ≤ _ from HB3.out.size)).later hal)
    have HS5 := Lib.hid (show ClW w w4.heap.size sa qa sc qc d1 (w4.alloc (.cells (agR sa qa sc qc d1) RDT)) from ⟨blo_laid w4 RDT _, hM.later hal, (HB3.out.trans (hb4.mono HB3.out.size)).trans (hal.mono (Nat.le_trans HB3.out.size hb4.size))⟩)
    have HG6 : Hid (w.heap.size ≤ w4.heap.size) := Nat.le_trans HB3.out.size hb4.size
    clear hD hM hb4 hal HB3 HX3 HWn
    unfold agR
    unfold agR at HS5 HD5
    go_upto_region 6 with (fail)
    generalize w4.alloc (.cells #[.slice sa d1.n sc, .slice qa d1.Q.length qc, .int .i64 d1.steps, .int .i64 (lfD d1)] RDT) = w5 at *
    generalize w4.heap.size = g6 at *
    have HN5 := HN1.out
    have hcs : (at_ < 0 ∨ (¬ at_ < 0 ∧ at_ > 118)) ∨ ∃ k : Nat, at_ = (k : Int) ∧ k ≤ 118 := by
      by_cases h1 : at_ < 0
      · exact .inl (.inl h1)
      · by_cases h2 : at_ > 118
        · exact .inl (.inr ⟨h1, h2⟩)
        · exact .inr ⟨at_.toNat, by omega, by omega⟩
    rcases hcs with hbad | ⟨k, rfl, hk⟩
    · have hcl := clear_no d1 at_ (by rw [HN5]; omega)
      have HCl := Lib.hid (clear_any (w := w5) at_ HRm1.out HD5.out)
      rw [hcl] at HCl
      clear hcl HN5
      rcases hbad with hb | ⟨hb, hb'⟩
      all_goals go_wp2_with fail
      all_goals refine HCl.out.mono ?_
      all_goals rintro e w6 ⟨rfl, q6, hD6, hO6, -⟩
      all_goals have HS6 := Lib.hid (HS5.out.out HD5.out (Nat.le_refl _) hO6)
      all_goals have HTl := Lib.hid (tells_any sa qa sc qc hD6 HS6.out.mr)
      all_goals clear hD6 hO6 HCl HS5 HD5
      all_goals have y0 := HS6.out.box.cell 0
      all_goals have y1 := HS6.out.box.cell 1
      all_goals have y2 := HS6.out.box.cell 2
      all_goals have y3 := HS6.out.box.cell 3
      all_goals simp [agR] at y0 y1 y2 y3
      all_goals go_wp2_with fail
      all_goals refine HTl.out.mono ?_
      all_goals rintro e w7 ⟨rfl, hb7⟩
      all_goals have HB7 := Lib.hid (HS6.out.below.trans (hb7.mono HS6.out.below.size))
      all_goals clear hb7 HTl HS6 y0 y1 y2 y3
      all_goals go_wp2
      all_goals go_ret
      all_goals exact ⟨rfl, HB7.out⟩
    · have hcl := clear_sur HD1.out.1 HD1.out.2.1 k (by rw [HN5]; omega)
      have HCl := Lib.hid (clear_any (w := w5) (k : Int) HRm1.out HD5.out)
      rw [hcl.1] at HCl
      have HCs := Lib.hid hcl.2
      clear hcl
      generalize (clearD d1 (k : Int)).1 = d2 at *
      go_wp2_with fail
      refine HCl.out.mono ?_
      rintro e w6 ⟨rfl, q6, hD6, hO6, -⟩
      have HS6 := Lib.hid (HS5.out.out HD5.out (Nat.le_refl _) hO6)
      have HD6 := Lib.hid hD6
      clear hD6 hO6 HCl HS5 HD5
      have hk0 : ¬ ((k : Nat) : Int) < 0 := by omega
      have hk1 : ¬ ((k : Nat) : Int) > 118 := by omega
      go_wp2_with fail
      refine (crash_any HD6.out none [] 0 0 rfl (by decide) (Bools.nil _ _) (-1) 0).mono ?_
      rintro e w7 ⟨Lc, rfl, hD7, hb7⟩
      have HS7 := Lib.hid (HS6.out.later hb7)
      have HD7 := Lib.hid (hD7.deeper HS6.out.below.size)
      have HcN : Hid (∀ i, (crashD d2 [] (-1) 0).N i = d2.N i) := fun i => HCs.out.sur.crash [] (-1) 0 i
      have Hcn : Hid ((crashD d2 [] (-1) 0).n = 120) := (crash_n d2 [] (-1) 0).trans (HCs.out.n.trans HN1.out)
      clear hD7 hb7 HS6 HD6 hk0 hk1
      generalize crashD d2 [] (-1) 0 = c at *
      have HFm : Hid (readC c (k : Int) = 100) := readC_form (by unfold rdL; rw [HcN.out, HcN.out, HCs.out.zero.1, HCs.out.zero.2]; exact okB_zero)
      have HMr : Hid (∀ W i, i < 120 → Mr W sa qa sc qc d1 → Calls Tryd.prog 32 #[.agg #[.slice sa d1.n sc, .slice qa d1.Q.length qc, .int .i64 d1.steps, .int .i64 (lfD d1)], .int .i64 ((i : Nat) : Int)] W fun e w' => e = .returned (.string (strOf (d1.N i))) ∧ Below W.heap.size W w') := fun W i hi hm => by
        rw [hm.now i]
        exact rread_any sa qa d1.n sc d1.Q.length qc d1.steps (lfD d1) d1.S d1.Q i (by rw [HN1.out]; exact hi) W rfl hm.q hm.s (by rw [HD1.out.1.q]; decide)
      have HNo : Hid (∀ i, i ≠ k → i ≠ k + 1 → c.N i = d1.N i) := fun i h1 h2 => by rw [HcN.out, HCs.out.out i h1 h2]
      have HYe : Hid (∀ i, i = k ∨ i = k + 1 → c.N i = zeroB) := fun i hi => by
        rw [HcN.out]
        rcases hi with rfl | rfl
        · exact HCs.out.zero.1
        · exact HCs.out.zero.2
      clear HCs HcN HN5 HD1 HRm1 HN1
      go_wp2_with fail
      go_loopw [10] (fun t wr => ∃ i : Nat, i ≤ 120 ∧ t = .int .i64 ((i : Nat) : Int) ∧ ClW w g6 sa qa sc qc d1 wr ∧ Dk w.heap.size wr Lc c) (fun t _ => 120 - (intOf t).toNat)
      case atStart => exact ⟨0, by omega, rfl, HS7.out, HD7.out⟩
      case round =>
        clear HS7 HD7
        obtain ⟨i, hi, rfl, hS, hD⟩ := hrel
        have HS := Lib.hid hS
        have HD := Lib.hid hD
        clear hS hD
        by_cases hlt : i < 120
        · go_wp2_with fail
          refine (read_yes i (by rw [Hcn.out]; exact hlt) HD.out).mono ?_
          rintro e wa ⟨g, rfl, hbl, -, hba⟩
          have HSa := Lib.hid (HS.out.later hba)
          have HDa := Lib.hid (HD.out.later hba)
          have HBl := Lib.hid hbl
          clear hbl hba HS HD
          have y0 := HSa.out.box.cell 0
          have y1 := HSa.out.box.cell 1
          have y2 := HSa.out.box.cell 2
          have y3 := HSa.out.box.cell 3
          simp [agR] at y0 y1 y2 y3
          have HRr := Lib.hid (HMr.out wa i hlt HSa.out.mr)
          go_wp2_with fail
          refine HRr.out.mono ?_
          rintro e wb ⟨rfl, hbb⟩
          have HSb := Lib.hid (HSa.out.later hbb)
          have HDb := Lib.hid (HDa.out.later hbb)
          have HBb := Lib.hid (bblk_later HBl.out hbb)
          clear hbb HSa HDa HBl HRr y0 y1 y2 y3
          have hcv : ∀ W, BBlk W g (c.N i) → (convert 49 9 (.slice (some ⟨g, 0, none⟩) 64 64)).run Tryd.prog W = .ok (.string (strOf (c.N i))) W := fun W hb => run_str W 49 9 5 Tryd.underlying49 Tryd.underlying5 Tryd.underlying9 (c.N i) _ 64 64 hb.2.1.symm (bytes_blk hb)
          have hcv1 := hcv wb HBb.out
          have hcv2 := hcv (wb.alloc (.cells Z64 U8)) (bblk_later HBb.out (sup_pc _ _))
          have hz := conv64c wb
          have hmk := run_make64
          have HSc := Lib.hid (HSb.out.later (sup_pc wb (.cells Z64 U8)))
          have HDc := Lib.hid (HDb.out.later (sup_pc wb (.cells Z64 U8)))
          have e1 := HNo.out i
          have e2 := HYe.out i
          obtain ⟨l, hl⟩ : ∃ l, c.N i = l := ⟨_, rfl⟩
          rw [hl] at e1 e2 hcv1 hcv2
          clear hcv hl HBb
          have q0 : ((strOf l).toList == (strOf l).toList) = true := by simp
          have q1 : ((strOf l).toList != (strOf l).toList) = false := by simp
          by_cases hi1 : i = k
          · rw [← e2 (.inl hi1)] at hz
            have p1 : (((i : Nat) : Int) == ((k : Nat) : Int)) = true := by rw [beq_iff_eq]; omega
            have HI : Hid (i = k) := hi1
            clear hi1 e1 e2
            go_wp2_with fail
            go_roundw
            case rel => exact ⟨i + 1, by omega, by simp, HSc.out, HDc.out⟩
            case measure => simp [intOf]; omega
          · have p1 : (((i : Nat) : Int) == ((k : Nat) : Int)) = false := by rw [beq_eq_false_iff_ne]; omega
            by_cases hi2 : i = k + 1
            · rw [← e2 (.inr hi2)] at hz
              have p2 : (((i : Nat) : Int) == ((k : Nat) : Int) + 1) = true := by rw [beq_iff_eq]; omega
              have HI : Hid (i = k + 1) := hi2
              clear hi1 hi2 e1 e2
              go_wp2_with fail
              go_roundw
              case rel => exact ⟨i + 1, by omega, by simp, HSc.out, HDc.out⟩
              case measure => simp [intOf]; omega
            · have p2 : (((i : Nat) : Int) == ((k : Nat) : Int) + 1) = false := by rw [beq_eq_false_iff_ne]; omega
              have e3 := e1 hi1 hi2
              rw [← e3]
              clear hi1 hi2 e1 e2 e3
              go_wp2_with fail
              go_roundw
              case rel => exact ⟨i + 1, by omega, by simp, HSb.out, HDb.out⟩
              case measure => simp [intOf]; omega
        · obtain rfl : i = 120 := by omega
          have hT := HT.out _ HS.out.below
          have HRd := Lib.hid (segRead_any (w := wr) (k : Int) HD.out hT.1 hT.2)
          have HB := Lib.hid HS.out.below
          clear hT HS HD HMr
          go_wp2_with fail
          refine HRd.out.mono ?_
          rintro e wz ⟨hbz, hne, -⟩
          have h100 := HFm.out
          have he := hne (by rw [h100]; decide)
          rw [h100] at he
          subst he
          have HBz := Lib.hid (HB.out.trans (hbz.mono HB.out.size))
          clear hbz hne h100 HRd HFm HB
          go_wp2_with fail
          go_ret
          exact ⟨rfl, HBz.out.trans ((sup_pc _ _).mono HBz.out.size)⟩
end
end Go.Proofs.YtlkgaefabahkoaaDoor
