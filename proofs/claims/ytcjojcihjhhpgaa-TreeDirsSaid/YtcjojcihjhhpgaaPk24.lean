/-
  TrDo7 · TrMvM · TrMvL: these texts in one.
-/
import Derived.Test.YtcjojcihjhhpgaaPk23
import Derived.Test.YtcjojcihjhhpgaaPk18
import Derived.Test.YtcjojcihjhhpgaaPk20
import Derived.Test.YtcjojcihjhhpgaaPk07
import Derived.Test.YtcjojcihjhhpgaaPk09
/-
  Do of a write: what is handed in is turned behind the call.
-/
namespace Go.Proofs.Ytcjojcihjhhpgaa
open Go.RowKit

def InR (w0 w : World) (cnt : Nat) (T' : Tr) (bt : Nat) (N : Nat → Prop) (base : Nat) (a5 : Option Addr) (bn c5 : Nat) (v : Value) (wr : World) : Prop :=
  ∃ (t : Nat) (L : List Nat), v = .int .i64 (t : Int) ∧ t ≤ bn ∧ L.length = bn ∧ (∀ y ∈ L, y < 256) ∧ wr.ownsRow base U8 1 (.slice a5 bn c5) bn (cellsB L) ∧
    Lx w0 wr (cnt + 1) T' bt (fun g => N g ∨ (Value.slice a5 bn c5).ownBlock = some g) ∧ Out (XN w0 N) w wr
section
variable {w0 w : World} {cnt bt : Nat} {T : Tr} {N : Nat → Prop} {ba : Option Addr} {bn bc : Nat}
set_option maxRecDepth 100000 in
set_option maxHeartbeats 2000000 in
theorem do_7 (h : Lx w0 w cnt T bt N) (path old : ByteArray) (pos : Int) (b : List Nat) (hB : BytesIn w ba bn bc b) :
    Calls Try.prog 13 #[.iface TPT (.pointer (some ⟨bt, 0, none⟩)), .agg (opQ ba bn bc ⟨7, path, old, pos, b⟩)] w (DoO w0 w cnt T bt N ⟨7, path, old, pos, b⟩) := by
  obtain ⟨w1, hw1⟩ : ∃ w1, w.alloc (.cells (opQ ba bn bc ⟨7, path, old, pos, b⟩) OPT) = w1 := ⟨_, rfl⟩
  have hx1 : Blo w1 w.heap.size OPT (opQ ba bn bc ⟨7, path, old, pos, b⟩) := by rw [← hw1]; exact blo_laid w _ _
  have hb1 : Below w.heap.size w w1 := by rw [← hw1]; exact sup_pct w _
  have d0 : w1.cell? ⟨w.heap.size, 0, none⟩ = some (.int .i64 7) := hx1.cell 0
  obtain ⟨w2, hw2⟩ : ∃ w2, w1.alloc (.cells #[] U8) = w2 := ⟨_, rfl⟩
  have hb2 : Below w1.heap.size w1 w2 := by rw [← hw2]; exact sup_pct w1 _
  have hx2 := hx1.later hb2
  have d4 : w2.cell? ⟨w.heap.size, 4, none⟩ = some (.slice ba bn bc) := hx2.cell 4
  have HEm : Hid (w2.ownsRow w1.heap.size U8 1 (.slice (some ⟨w1.heap.size, 0, none⟩) 0 0) 0 []) := by rw [← hw2]; exact own_empty w1 w1.heap.size U8 1 (Nat.le_refl _)
  have HX2 := Lib.hid hx2
  have HB2 : Hid (Below w.heap.size w w2) := hb1.trans (hb2.mono hb1.size)
  have HG1 : Hid (w.heap.size ≤ w1.heap.size) := hb1.size
  have HNe : Hid (some w.heap.size ≠ Value.ownBlock (.slice (some ⟨w1.heap.size, 0, none⟩) 0 0)) := by
    intro e
    have e : some w.heap.size = some w1.heap.size := e
    have h1 : w1.heap.size = w.heap.size + 1 := by rw [← hw1]; simp
    have h2 := Option.some.inj e
    omega
  have HG2 : Hid (w1.heap.size ≤ w2.heap.size) := hb2.size
  have HLen : Hid ((cellsB b).length = bn * 1) := by show _ = _; rw [cellsB_len, Nat.mul_one]; exact hB.1.symm
  have HSrc : Hid (∀ ad, ba = some ad → ∀ j u, (cellsB b)[j]? = some u → w2.cell? (ad.add j) = some u) := fun ad ha j u hj => by
    have hlt : j < b.length := by
      have := (List.getElem?_eq_some_iff.1 hj).1
      rwa [cellsB_len] at this
    have hne : b ≠ [] := fun e => by rw [e] at hlt; simp at hlt
    obtain ⟨gd, od, e, hcd⟩ := hB.2.1.2.2 hne
    rw [ha] at e
    cases e
    rw [cellsB_get _ _ hlt] at hj
    cases hj
    rw [Addr.add_lit]
    exact cell_later HB2.out (hcd j hlt)
  have HBb := Lib.hid hB
  have hbn := hB.2.2.2.2
  have H := Lib.hid h
  have fm := fun W => fm_Write ⟨bt, 0, none⟩ W
  clear h hx1 hx2 hb1 hb2 hB
  go_enter Try.func13, Try.ntmps13
  go_wp2_with (at_builtin; refine wp_copy_in rfl (.tmp 57) (.tmp 59) BYT rfl w1.heap.size U8 (.int .u8 0) 1 1 Try.underlying31 info_u8t rfl (by decide) (.slice (some ⟨w1.heap.size, 0, none⟩) 0 0) rfl HEm.out ba bn bc (cellsB b) rfl HLen.out HSrc.out (CB1 _) HBb.out.2.2.1 (by omega) (by omega) HG2.out ?_; intro a5 c5 w3 hown hgrow; have HO3 := Lib.hid hown; have HB3 : Hid (Below w.heap.size w w3) := HB2.out.grown hgrow HB2.out.size (fun q hq => by cases hq; exact HG1.out); have d1 : w3.cell? ⟨w.heap.size, 1, none⟩ = some (.string path) := (HX2.out.grown hgrow HNe.out).cell 1; have d3 : w3.cell? ⟨w.heap.size, 3, none⟩ = some (.int .i64 pos) := (HX2.out.grown hgrow HNe.out).cell 3; clear hown hgrow)
  obtain ⟨hl3, hr3⟩ : (∀ g, (Value.slice a5 bn c5).ownBlock = some g → w1.heap.size ≤ g ∧ g < w3.heap.size) ∧ True := ⟨fun g q => HO3.out.lt g q, trivial⟩
  have HL3 := Lib.hid hl3
  have hby := HBb.out.2.1.1
  have HBo : Hid (Bytes w3 a5 b) := by
    obtain ⟨a9, c9, e9, -, h9, -⟩ := Bytes.own HO3.out hby
    cases e9
    exact h9
  have HN3 : Hid (Lx w0 w3 cnt T bt (fun g => N g ∨ (Value.slice a5 bn c5).ownBlock = some g)) := H.out.own (Out.of_below HB3.out) (fun g q => q.elim (fun q => ⟨.inl q, Nat.lt_of_lt_of_le (H.out.n g q).2 HB3.out.size⟩) (fun q => ⟨.inr (Nat.le_trans HG1.out (HL3.out g q).1), (HL3.out g q).2⟩))
  have HEq : Hid (doK T ⟨7, path, old, pos, b⟩ = eK (writeK T path pos b)) := rfl
  generalize hR : writeK T path pos b = R at HEq
  obtain ⟨T', z⟩ := R
  have HW := Lib.hid (HN3.out.write (c := c5) HBb.out.1 HBo.out (fun _ g o e => .inr (.inr (by rw [e]; rfl))) hR)
  clear hl3 hr3 hby hR d0 d4 hw1 hw2
  go_wp2_with fail
  refine HW.out.mono ?_
  rintro e w4 ⟨rfl, hx4, ho4⟩
  have HS4 : Hid (InR w0 w cnt T' bt N w1.heap.size a5 bn c5 (.int .i64 0) w4) := by
    refine ⟨0, b, rfl, Nat.zero_le _, HBb.out.1.symm, HBb.out.2.1.1, ho4.own HO3.out (fun g q x => x.2 (.inr q)), hx4, ?_⟩
    have h3 : Out (XN w0 N) w w3 := Out.of_below HB3.out
    exact h3.trans ho4 (fun g hg x => ⟨x.1, fun y => x.2 (.inl y)⟩)
  clear HW hx4 ho4 d1 d3
  go_wp2_with fail
  go_loopw [70] (fun v wr => InR w0 w cnt T' bt N w1.heap.size a5 bn c5 v wr) (fun v _ => bn - (intOf v).toNat)
  case atStart => exact HS4.out
  case round =>
    clear HS4
    obtain ⟨t, L, rfl, ht, hL, hLb, ho, hx, hO⟩ := hrel
    have HS := Lib.hid (And.intro hL (And.intro hLb (And.intro ho (And.intro hx hO))))
    have HT : Hid (t ≤ bn) := ht
    clear hL hLb hx hO
    by_cases htb : t < bn
    · have t1 : (t : Int) < (bn : Int) := by omega
      have t0 : (0 : Int) ≤ (t : Int) := by omega
      obtain ⟨g, cur, rfl, hcur, htk⟩ : ∃ g cur, a5 = some ⟨g, 0, none⟩ ∧ Blo wr g U8 cur ∧ cur.toList.take bn = cellsB L := by
        rcases ho.2 with ⟨q1, q2⟩ | ⟨g, c', cur, q1, q2, q3, q4, q5, q6, q7⟩
        · omega
        · cases q1
          refine ⟨g, cur, rfl, q3, ?_⟩
          rw [← q7, Nat.mul_one]
      have cX : wr.cell? ⟨g, t, none⟩ = some (.int .u8 (L.getD t 0 : Nat)) := by
        have h1 := ho.cellAt t (by omega)
        rw [cellsB_get _ _ (by have := HS.out.1; omega)] at h1
        exact h1
      have fX := hcur.frozen t
      obtain ⟨x, hx⟩ : ∃ x, L.getD t 0 = x := ⟨_, rfl⟩
      rw [hx] at cX
      have hx256 : x < 256 := by rw [← hx]; exact getD_byte HS.out.2.1 t
      obtain ⟨y, hy⟩ : ∃ y : Nat, y = (x + 1) % 256 := ⟨_, rfl⟩
      have ey : IntKind.u8.wrap ((x : Int) + 1) = (y : Int) := by rw [IntKind.wrap_u8]; omega
      have x0 : (0 : Int) ≤ (x : Int) := by omega
      have x1 : (x : Int) < 256 := by omega
      have HS9 : Hid (InR w0 w cnt T' bt N w1.heap.size (some ⟨g, 0, none⟩) bn c5 (.int .i64 ((t : Int) + 1)) (wr.setCell ⟨g, t, none⟩ (.int .u8 (y : Int)))) := by
        obtain ⟨k1, k2, k3, k4, k5⟩ := HS.out
        refine ⟨t + 1, L.set t y, by go_num, by omega, by rw [List.length_set]; exact k1, fun v hv => ?_, ?_, ?_, ?_⟩
        · rcases List.mem_or_eq_of_mem_set hv with q | q
          · exact k2 v q
          · subst q; omega
        · rw [← cellsB_set]
          exact own_put k3 t _
        · exact k4.own (out_put _ _ _ (.inr rfl)) (fun k q => ⟨.inl q, by rw [World.size_setCell]; exact (k4.n k q).2⟩)
        · exact k5.trans (out_put (X := fun k => k = g) wr ⟨g, t, none⟩ _ rfl) (fun k hk e => by
            have := HL3.out g rfl
            have := HG1.out
            omega)
      clear hcur htk hx hy ho hx256
      go_wp2_with fail
      exact ⟨HS9.out, by simp [intOf]; omega⟩
    · obtain rfl : t = bn := by have := HT.out; omega
      have t1 : ¬ (t : Int) < (t : Int) := by omega
      have HX9 : Hid (Lx w0 wr (cnt + 1) T' bt N ∧ Out (XN w0 N) w wr) := by
        obtain ⟨k1, k2, k3, k4, k5⟩ := HS.out
        exact ⟨k4.own (Out.refl _ _) (fun g q => ⟨.inl (.inl q), (k4.n g (.inl q)).2⟩), k5⟩
      go_wp2_with fail
      go_ret2
      unfold DoO
      rw [HEq.out]
      exact ⟨rfl, HX9.out⟩
theorem do_any (h : Lx w0 w cnt T bt N) (hc : cnt < 1000000) (x : OpQ) (hB : BytesIn w ba bn bc x.b) :
    Calls Try.prog 13 #[.iface TPT (.pointer (some ⟨bt, 0, none⟩)), .agg (opQ ba bn bc x)] w (DoO w0 w cnt T bt N x) := by
  by_cases h1 : x.k = 1
  · obtain ⟨k, path, old, pos, b⟩ := x
    obtain rfl : k = 1 := h1
    exact do_1 h hc path old pos b
  by_cases h2 : x.k = 2
  · obtain ⟨k, path, old, pos, b⟩ := x
    obtain rfl : k = 2 := h2
    exact do_2 h hc path old pos b
  by_cases h3 : x.k = 3
  · obtain ⟨k, path, old, pos, b⟩ := x
    obtain rfl : k = 3 := h3
    exact do_3 h hc path old pos b
  by_cases h4 : x.k = 4
  · obtain ⟨k, path, old, pos, b⟩ := x
    obtain rfl : k = 4 := h4
    exact do_4 h hc path old pos b
  by_cases h5 : x.k = 5
  · obtain ⟨k, path, old, pos, b⟩ := x
    obtain rfl : k = 5 := h5
    exact do_5 h hc path old pos b
  by_cases h6 : x.k = 6
  · obtain ⟨k, path, old, pos, b⟩ := x
    obtain rfl : k = 6 := h6
    exact do_6 h hc path old pos b
  by_cases h7 : x.k = 7
  · obtain ⟨k, path, old, pos, b⟩ := x
    obtain rfl : k = 7 := h7
    exact do_7 h path old pos b hB
  by_cases h8 : x.k = 8
  · obtain ⟨k, path, old, pos, b⟩ := x
    obtain rfl : k = 8 := h8
    exact do_8 h hc path old pos b
  exact do_no h x h1 h2 h3 h4 h5 h6 h7 h8
end
end Go.Proofs.Ytcjojcihjhhpgaa
/-
  What Rename leaves, in numbers.
-/
namespace Go.Proofs.Ytcjojcihjhhpgaa
open Go.RowKit

section
variable {T T' : Tr} {c d u x a : Nat} {s old : ByteArray}
theorem lead_bel : ∀ (l : List ByteArray) (a : Nat), T.K d = 2 → leadK T a l = (some d, 0) → Bel T a d ∧ T.K a = 2
  | [], a, hd, h => by rw [leadK_nil] at h; cases h; exact ⟨.refl, hd⟩
  | y :: r, a, hd, h => by
    by_cases hk : T.K a = 2
    · cases hy : T.E a y with
      | none => rw [leadK_none hk hy] at h; cases h
      | some b =>
        rw [leadK_go hk hy] at h
        obtain ⟨h1, h2⟩ := lead_bel r b hd h
        exact ⟨Bel.down hy h2 h1, hk⟩
    · rw [leadK_file hk] at h; cases h
/-- A way stays if its steps do. -/
theorem lead_keep (hd : T.K d = 2) (hd' : T'.K d = 2) (hs : ∀ a t j, T.K a = 2 → T.E a t = some j → T.K j = 2 → Bel T j d → T'.K a = 2 ∧ T'.E a t = some j) : ∀ (l : List ByteArray) (a : Nat), leadK T a l = (some d, 0) → leadK T' a l = (some d, 0)
  | [], a, h => by rw [leadK_nil] at h ⊢; exact h
  | y :: r, a, h => by
    by_cases hk : T.K a = 2
    · cases hy : T.E a y with
      | none => rw [leadK_none hk hy] at h; cases h
      | some b =>
        rw [leadK_go hk hy] at h
        obtain ⟨h1, h2⟩ := lead_bel r b hd h
        obtain ⟨h3, h4⟩ := hs a y b hk hy h2 h1
        rw [leadK_go h3 h4]
        exact lead_keep hd hd' hs r b h
    · rw [leadK_file hk] at h; cases h
theorem lead_last {t : ByteArray} : ∀ (l : List ByteArray) (a : Nat), leadK T a l = (some d, 0) → T.K d = 2 → leadK T a (l ++ [t]) = (match T.E d t with | some j => (some j, 0) | none => (none, 2))
  | [], a, h, hd => by
    rw [leadK_nil] at h
    cases h
    show leadK T d [t] = _
    cases q : T.E d t with
    | none => exact leadK_none hd q
    | some j => exact leadK_go hd q
  | y :: r, a, h, hd => by
    by_cases hk : T.K a = 2
    · cases hy : T.E a y with
      | none => rw [leadK_none hk hy] at h; cases h
      | some b =>
        rw [leadK_go hk hy] at h
        show leadK T a (y :: (r ++ [t])) = _
        rw [leadK_go hk hy]
        exact lead_last r b h hd
    · rw [leadK_file hk] at h; cases h
theorem bare_bel (hb : T.bare x) (h : Bel T x d) : d = x := by
  induction h with
  | refl => rfl
  | step _ q2 _ ih =>
    subst ih
    rw [hb] at q2
    cases q2
theorem lessK_E {a j : Nat} {t : ByteArray} (hb : ∀ x, T.E d s = some x → T.bare x) (hE : T.E a t = some j) (hn : ¬ (a = d ∧ t = s)) : (lessK T d s).E a t = some j := by
  unfold lessK
  cases hx : T.E d s with
  | none => exact hE
  | some x =>
    have hax : a ≠ x := fun e => by have := hb x hx t; rw [← e, hE] at this; cases this
    exact (dropK_keepE hax hn).trans hE
theorem lessK_K {a : Nat} (hn : ∀ x, T.E d s = some x → a ≠ x) : (lessK T d s).K a = T.K a := by
  unfold lessK
  cases hx : T.E d s with
  | none => rfl
  | some x => exact dropK_keepK (hn x hx)
theorem dropK_same {a : Nat} (h : a ≠ x) : (dropK T d s x).Lk a = T.Lk a ∧ (dropK T d s x).D a = T.D a := by
  unfold dropK cutN
  split
  · exact ⟨rfl, updN_ne _ _ h⟩
  · exact ⟨updN_ne _ _ h, rfl⟩
theorem lessK_same {a : Nat} (hn : ∀ x, T.E d s = some x → a ≠ x) : (lessK T d s).Lk a = T.Lk a ∧ (lessK T d s).D a = T.D a := by
  unfold lessK
  cases hx : T.E d s with
  | none => exact ⟨rfl, rfl⟩
  | some x => exact dropK_same (hn x hx)
theorem RnP.moveK_eq (hp : RnP T old s c d u) : moveK T old s c d = ((lessK T d (paN s)).ent d (paN s) (some c)).ent u (paN old) none := by
  unfold moveK
  rw [hp.hu]
  rfl
theorem RnP.apart (hp : RnP T old s c d u) : ¬ (u = d ∧ paN old = paN s) := fun e => by
  have := hp.eu
  rw [e.1, e.2] at this
  exact hp.ne this
/-- A step that is neither the old name's nor the new one's stays. -/
theorem RnP.step (hp : RnP T old s c d u) {a j : Nat} {t : ByteArray} (hE : T.E a t = some j) (h1 : ¬ (a = u ∧ t = paN old)) (h2 : ¬ (a = d ∧ t = paN s)) : (moveK T old s c d).E a t = some j ∧ (moveK T old s c d).K a = T.K a := by
  rw [hp.moveK_eq]
  refine ⟨?_, lessK_K fun x hx e => ?_⟩
  · rw [Tr.ent_ne _ h1, Tr.ent_ne _ h2]
    exact lessK_E hp.bare hE h2
  · have := hp.bare x hx t
    rw [← e, hE] at this
    cases this
theorem RnP.kx (hp : RnP T old s c d u) {a : Nat} {t : ByteArray} {j : Nat} (hE : T.E a t = some j) : (moveK T old s c d).K a = T.K a := by
  rw [hp.moveK_eq]
  refine lessK_K fun x hx e => ?_
  have := hp.bare x hx t
  rw [← e, hE] at this
  cases this
theorem RnP.kd2 (h : TrT T) (hp : RnP T old s c d u) : (moveK T old s c d).K d = 2 := by
  rw [hp.moveK_eq]
  exact (hp.less h).kd
/-- The way to the new name's directory stays. -/
theorem RnP.way_d (h : TrT T) (hp : RnP T old s c d u) : leadK (moveK T old s c d) 2 ((spL s).take ((spL s).length - 1)) = (some d, 0) := by
  refine lead_keep hp.kd (hp.kd2 h) (fun a t j hka hE hkj hb => ?_) _ _ (aboveK_ok hp.hd).1
  have h1 : ¬ (a = u ∧ t = paN old) := fun e => by
    obtain ⟨rfl, rfl⟩ := e
    rw [hp.eu] at hE
    cases hE
    exact hp.nb hkj hb
  have h2 : ¬ (a = d ∧ t = paN s) := fun e => by
    obtain ⟨rfl, rfl⟩ := e
    exact Bel.not_up h hE hkj hb
  obtain ⟨q1, q2⟩ := hp.step hE h1 h2
  exact ⟨q2.trans hka, q1⟩
/-- The way to the old name's directory stays. -/
theorem RnP.way_u (h : TrT T) (hp : RnP T old s c d u) : leadK (moveK T old s c d) 2 ((spL old).take ((spL old).length - 1)) = (some u, 0) := by
  refine lead_keep hp.ku ((hp.kx hp.eu).trans hp.ku) (fun a t j hka hE hkj hb => ?_) _ _ (aboveK_ok hp.hu).1
  have h1 : ¬ (a = u ∧ t = paN old) := fun e => by
    obtain ⟨rfl, rfl⟩ := e
    exact Bel.not_up h hE hkj hb
  have h2 : ¬ (a = d ∧ t = paN s) := fun e => by
    obtain ⟨rfl, rfl⟩ := e
    have hbr := hp.bare j hE
    have := bare_bel hbr hb
    have q := hbr (paN old)
    rw [← this, hp.eu] at q
    cases q
  obtain ⟨q1, q2⟩ := hp.step hE h1 h2
  exact ⟨q2.trans hka, q1⟩
theorem spL_split {s : ByteArray} (h : spL s ≠ []) : spL s = (spL s).take ((spL s).length - 1) ++ [paN s] := take_last h
theorem RnP.new (h : TrT T) (hp : RnP T old s c d u) (hs : spL s ≠ []) : leadK (moveK T old s c d) 2 (spL s) = (some c, 0) := by
  rw [spL_split hs, lead_last _ _ (hp.way_d h) (hp.kd2 h), hp.moveK_eq]
  rw [Tr.ent_ne _ (fun e => hp.apart ⟨e.1.symm, e.2.symm⟩), Tr.ent_at]
theorem RnP.gone (h : TrT T) (hp : RnP T old s c d u) (hs : spL old ≠ []) : leadK (moveK T old s c d) 2 (spL old) = (none, 2) := by
  rw [spL_split hs, lead_last _ _ (hp.way_u h) ((hp.kx hp.eu).trans hp.ku), hp.moveK_eq, Tr.ent_at]
theorem RnP.same (hp : RnP T old s c d u) : (moveK T old s c d).K c = T.K c ∧ (moveK T old s c d).Lk c = T.Lk c ∧ (moveK T old s c d).D c = T.D c := by
  rw [hp.moveK_eq]
  have hn : ∀ x, T.E d (paN s) = some x → c ≠ x := fun x hx e => hp.ne (by rw [hx, e])
  exact ⟨lessK_K hn, (lessK_same hn).1, (lessK_same hn).2⟩
theorem at_lead {z : Int} {wr : Nat → Int} (he : spE s = 0) (hl : leadK T 2 (spL s) = (some c, z)) (hd : ¬ (spD s = true ∧ T.K c ≠ 2)) : atK T s wr = (some c, wr c) := by
  unfold atK
  rw [if_neg (fun q => q he), findK_some hl]
  unfold orE
  rw [if_neg hd]
theorem stat_at (h : atK T s (wrAny T) = (some c, 0)) : statK T s = (statA T c, 0) := by
  unfold statK
  rw [h]
  rfl
theorem statA_same (hK : T'.K c = T.K c) (hL : T'.Lk c = T.Lk c) (hD : T'.D c = T.D c) : statA T' c = statA T c := by
  unfold statA
  rw [hK, hL, hD]
def rdC (T : Tr) (c : Nat) (a n : Int) : List Nat × Int := if T.K c = 2 then ([], 21) else if a < 0 ∨ n < 0 ∨ n > 4096 then ([], 22) else (((T.D c).drop a.toNat).take n.toNat, 0)
theorem read_lead {z : Int} (he : spE s = 0) (hl : leadK T 2 (spL s) = (some c, z)) (hd : ¬ (spD s = true ∧ T.K c ≠ 2)) (a n : Int) : readK T s a n = rdC T c a n := by
  unfold readK rdC
  rw [at_lead he hl hd]
  unfold wrFile
  by_cases hk : T.K c = 2
  · rw [if_pos hk, if_pos hk]; rfl
  · rw [if_neg hk, if_neg hk]
    rfl
theorem rdC_same (hK : T'.K c = T.K c) (hD : T'.D c = T.D c) (a n : Int) : rdC T' c a n = rdC T c a n := by
  unfold rdC
  rw [hK, hD]
/-- What the law sees of a Rename that was done. -/
structure MvF (T T' : Tr) (old s : ByteArray) (S : Value) (B : List Nat × Int) : Prop where
  mo : statK T old = (S, 0)
  mn : statK T' s = (S, 0)
  mb : readK T old 0 4096 = B
  mb' : readK T' s 0 4096 = B
  two : (statK T s = (S, 0) ∧ statK T' old = (S, 0)) ∨ ((statK T' old).2 ≠ 0 ∧ ((statK T s).2 ≠ 0 ∨ ∃ x : Nat, statK T s = (statA T x, 0) ∧ ∃ c : Nat, S = statA T c ∧ (x : Int) ≠ c))
theorem rename_facts (h : TrT T) (hr : renameK T old s = (T', 0)) : ∃ c B, MvF T T' old s (statA T c) B := by
  unfold renameK at hr
  by_cases hpo : paE old = 0
  · rw [if_neg (fun q => q hpo)] at hr
    by_cases hps : paE s = 0
    · rw [if_neg (fun q => q hps)] at hr
      obtain ⟨heo, hno⟩ := paE_zero hpo
      obtain ⟨hes, hns⟩ := paE_zero hps
      unfold rnR1 at hr
      obtain ⟨R, hR⟩ : ∃ R, findK T (spL old) (spD old) (wrAny T) = R := ⟨_, rfl⟩
      obtain ⟨ro, rz⟩ := R
      rw [hR] at hr
      by_cases hz : rz = 0
      · subst hz
        obtain ⟨c, rfl, hl, -⟩ := findK_ok h.wf hR
        rw [if_neg (fun q => q rfl)] at hr
        have hr : rnR2 T old s c (aboveK T (spL s)) = (T', 0) := hr
        unfold rnR2 at hr
        obtain ⟨R, hA⟩ : ∃ R, aboveK T (spL s) = R := ⟨_, rfl⟩
        obtain ⟨ro, rz⟩ := R
        rw [hA] at hr
        by_cases hz : rz = 0
        · subst hz
          rcases aboveK_cases h.wf h.root (spL s) with ⟨z, q, q0⟩ | ⟨i, q⟩ | ⟨d, -, hkd, q⟩
          · rw [hA] at q; exact absurd (congrArg Prod.snd q).symm q0
          · rw [hA] at q; exact absurd (show (0 : Int) = 20 from congrArg Prod.snd q) (by decide)
          · obtain rfl : ro = some d := by rw [hA] at q; exact congrArg Prod.fst q
            rw [if_neg (fun q => q rfl)] at hr
            have hr : rnR3 T old s c d = (T', 0) := hr
            unfold rnR3 at hr
            by_cases hz : rnE T c (T.E d (paN s)) (spL old) (spL s) (spD s) = 0
            · rw [if_neg (fun q => q hz)] at hr
              have hlo : ∃ z, leadK T 2 (spL old) = (some c, z) := findK_lead hR
              obtain ⟨z, hlo⟩ := hlo
              have hdo : ¬ (spD old = true ∧ T.K c ≠ 2) := fun e => by
                rw [findK_some hlo] at hR
                have := congrArg Prod.snd hR
                unfold orE at this
                rw [if_pos e] at this
                exact absurd (show (20 : Int) = 0 from this) (by decide)
              have hds : ¬ (spD s = true ∧ T.K c ≠ 2) := fun e => by
                unfold rnE at hz
                split at hz
                · exact absurd hz (by decide)
                · first | exact absurd hz (by decide) | (rw [if_pos e] at hz; exact absurd hz (by decide))
              have hwd := (aboveK_ok hA).1
              have hls := lead_last (t := paN s) _ _ hwd hkd
              rw [← spL_split hns] at hls
              by_cases hth : T.E d (paN s) = some c
              · rw [if_pos hth] at hr
                obtain rfl : T = T' := congrArg Prod.fst hr
                rw [hth] at hls
                have h1 := stat_at (at_lead (wr := wrAny T) heo hlo hdo)
                have h2 := stat_at (at_lead (wr := wrAny T) hes hls hds)
                exact ⟨c, _, h1, h2, read_lead heo hlo hdo 0 4096, read_lead hes hls hds 0 4096, .inl ⟨h2, h1⟩⟩
              · rw [if_neg hth] at hr
                split at hr
                · exact absurd (show (36 : Int) = 0 from congrArg Prod.snd hr) (by decide)
                · obtain rfl : moveK T old s c d = T' := congrArg Prod.fst hr
                  obtain ⟨u, hp⟩ := rnP_of h hpo hps hR hA hz hth
                  obtain ⟨k1, k2, k3⟩ := hp.same
                  have hls' := hp.new h hns
                  have hds' : ¬ (spD s = true ∧ (moveK T old s c d).K c ≠ 2) := by rw [k1]; exact hds
                  have hgo := hp.gone h hno
                  refine ⟨c, _, stat_at (at_lead (wr := wrAny T) heo hlo hdo), ?_, read_lead heo hlo hdo 0 4096, ?_, .inr ⟨?_, ?_⟩⟩
                  · rw [stat_at (at_lead (wr := wrAny _) hes hls' hds'), statA_same k1 k2 k3]
                  · rw [read_lead hes hls' hds', rdC_same k1 k3]
                  · unfold statK atK
                    rw [if_neg (fun q => q heo), findK_none hgo]
                    exact (by decide : (2 : Int) ≠ 0)
                  · cases hx : T.E d (paN s) with
                    | none =>
                      rw [hx] at hls
                      left
                      unfold statK atK
                      rw [if_neg (fun q => q hes), findK_none hls]
                      exact (by decide : (2 : Int) ≠ 0)
                    | some x =>
                      rw [hx] at hls
                      by_cases hdx : spD s = true ∧ T.K x ≠ 2
                      · left
                        unfold statK atK
                        rw [if_neg (fun q => q hes), findK_some hls]
                        unfold orE
                        rw [if_pos hdx]
                        exact (by decide : (20 : Int) ≠ 0)
                      · right
                        refine ⟨x, stat_at (at_lead (wr := wrAny T) hes hls hdx), c, rfl, fun e => hth ?_⟩
                        rw [hx]
                        congr 1
                        omega
            · rw [if_pos hz] at hr
              exact absurd (congrArg Prod.snd hr) hz
        · rw [if_pos hz] at hr
          exact absurd (congrArg Prod.snd hr) hz
      · rw [if_pos hz] at hr
        exact absurd (congrArg Prod.snd hr) hz
    · rw [if_pos hps] at hr
      exact absurd (congrArg Prod.snd hr) hps
  · rw [if_pos hpo] at hr
    exact absurd (congrArg Prod.snd hr) hpo
end
end Go.Proofs.Ytcjojcihjhhpgaa
/-
  The statement TreeMoves.
-/
namespace Go.Proofs.Ytcjojcihjhhpgaa
open Go.RowKit

def no1 : Nat → Prop := fun _ => False
/-- While the script runs. -/
def ScR (w : World) (bt : Nat) (v : Value) (wr : World) : Prop := ∃ (i cnt : Nat) (T : Tr), v = .int .i64 (i : Int) ∧ i ≤ 40 ∧ cnt ≤ i ∧ Lx w wr cnt T bt no1
theorem stat_form (T : Tr) (s : ByteArray) : ∃ a b c d z : Int, statK T s = (.agg #[.int .i64 a, .int .i64 b, .int .i64 c, .int .i64 d], z) := by
  unfold statK statR
  split
  · exact ⟨0, 0, 0, 0, _, rfl⟩
  · split
    · exact ⟨_, _, _, _, _, rfl⟩
    · exact ⟨0, 0, 0, 0, _, rfl⟩
theorem agg4_inj {a b c d a' b' c' d' : Int} (h : Value.agg #[.int .i64 a, .int .i64 b, .int .i64 c, .int .i64 d] = .agg #[.int .i64 a', .int .i64 b', .int .i64 c', .int .i64 d']) : a = a' ∧ b = b' ∧ c = c' ∧ d = d' := by
  simpa using h
theorem mv_nums {T T' : Tr} {old s : ByteArray} {c : Nat} {B : List Nat × Int} {s0 s1 s2 s3 fz x0 x1 x2 x3 gz y0 y1 y2 y3 kz : Int} (h : MvF T T' old s (statA T c) B) (hS : statK T old = (.agg #[.int .i64 s0, .int .i64 s1, .int .i64 s2, .int .i64 s3], fz))
    (hX : statK T s = (.agg #[.int .i64 x0, .int .i64 x1, .int .i64 x2, .int .i64 x3], gz)) (hY : statK T' old = (.agg #[.int .i64 y0, .int .i64 y1, .int .i64 y2, .int .i64 y3], kz)) :
    fz = 0 ∧ statK T' s = (.agg #[.int .i64 s0, .int .i64 s1, .int .i64 s2, .int .i64 s3], 0) ∧ ((gz = 0 ∧ x0 = s0) ↔ kz = 0) := by
  have e1 := hS.symm.trans h.mo
  have e2 : Value.agg #[.int .i64 s0, .int .i64 s1, .int .i64 s2, .int .i64 s3] = statA T c := congrArg Prod.fst e1
  have e3 : fz = 0 := congrArg Prod.snd e1
  refine ⟨e3, by rw [h.mn, e2], ?_⟩
  rcases h.two with ⟨q1, q2⟩ | ⟨q1, q2⟩
  · have k1 : gz = 0 := congrArg Prod.snd (hX.symm.trans q1)
    have k2 : kz = 0 := congrArg Prod.snd (hY.symm.trans q2)
    have k3 : Value.agg #[.int .i64 x0, .int .i64 x1, .int .i64 x2, .int .i64 x3] = statA T c := congrArg Prod.fst (hX.symm.trans q1)
    exact ⟨fun _ => k2, fun _ => ⟨k1, (agg4_inj (k3.trans e2.symm)).1⟩⟩
  · rw [hY] at q1
    have q1 : kz ≠ 0 := q1
    refine ⟨fun ⟨a1, a2⟩ => ?_, fun a => absurd a q1⟩
    exfalso
    rcases q2 with q2 | ⟨x, q2, c', q3, q4⟩
    · rw [hX] at q2
      exact q2 a1
    · have k1 : Value.agg #[.int .i64 x0, .int .i64 x1, .int .i64 x2, .int .i64 x3] = statA T x := congrArg Prod.fst (hX.symm.trans q2)
      have k2 : x0 = (x : Int) := by
        unfold statA at k1
        exact (agg4_inj k1).1
      have k3 : s0 = (c' : Int) := by
        rw [q3] at e2
        unfold statA at e2
        exact (agg4_inj e2).1
      omega
theorem Lx.read2 {w0 w : World} {cnt bt : Nat} {T : Tr} {N : Nat → Prop} {s : ByteArray} {a : Int} (h : Lx w0 w cnt T bt N) (n : Int) : Calls Try.prog 17 #[.pointer (some ⟨bt, 0, none⟩), .string s, .int .i64 a, .int .i64 n] w (RdO2 w (readK T s a n)) := by
  obtain ⟨p, rfl, hm, hx⟩ := h.m
  exact read_any2 hm s a n
theorem Lx.stat2 {w0 w : World} {cnt bt : Nat} {T : Tr} {N : Nat → Prop} {s : ByteArray} {S : Value} {z : Int} (h : Lx w0 w cnt T bt N) (hs : statK T s = (S, z)) : Calls Try.prog 15 #[.pointer (some ⟨bt, 0, none⟩), .string s] w fun e w' => e = .returned (.tuple #[S, .int .i64 z]) ∧ Below w.heap.size w w' := by
  have := h.stat (s := s)
  rw [hs] at this
  exact this
set_option maxRecDepth 100000 in
set_option maxHeartbeats 4000000 in
theorem treeMoves_any (oa : Option Addr) (ol oc : Nat) (F : Nat → OpQ) (old path : ByteArray) (w : World) (q : Int) (hq : QOps w oa ol F) (hq6 : IntKind.i64.wrap ((old.size : Int) + (path.size : Int)) = q) (h6 : ¬ 600 < q) :
    Calls Try.prog 4 #[.slice oa ol oc, .string old, .string path] w fun e w' => e = .returned (.bool true) ∧ Below w.heap.size w w' := by
  have HQ := Lib.hid hq
  clear hq
  go_enter Try.func4, Try.ntmps4
  go_wp2_with fail
  refine (awake_any w).mono ?_
  rintro e w1 ⟨rfl, hb1⟩
  have HB1 := Lib.hid hb1
  clear hb1
  go_wp2_with fail
  refine (new_lx HB1.out (n := 20) (by decide) (by decide)).mono ?_
  rintro e w2 ⟨bt, rfl, h2, -⟩
  have HS2 : Hid (ScR w bt (.int .i64 0) w2) := ⟨0, 0, _, rfl, by decide, by decide, h2⟩
  clear h2
  go_wp2_with fail
  go_loopw [9] (fun v wr => ScR w bt v wr) (fun v _ => 40 - (intOf v).toNat)
  case atStart => exact HS2.out
  case round =>
    clear HS2
    obtain ⟨i, cnt, T, rfl, hi, hc, hx⟩ := hrel
    have HX := Lib.hid hx
    have HC : Hid (cnt ≤ i ∧ i ≤ 40) := ⟨hc, hi⟩
    clear hx hc
    by_cases hlt : i < ol ∧ i < 40
    · obtain ⟨hl1, hl2⟩ := hlt
      obtain ⟨b, o, ba, bn, bc, rfl, hbi, hcs⟩ := HQ.out.2 i hl1
      have hbw := HX.out.b
      have e0 := cell_later hbw (hcs 0 _ rfl)
      have e1 := cell_later hbw (hcs 1 _ rfl)
      have e2 := cell_later hbw (hcs 2 _ rfl)
      have e3 := cell_later hbw (hcs 3 _ rfl)
      have e4 := cell_later hbw (hcs 4 _ rfl)
      rw [Nat.add_zero] at e0
      generalize F i = x at *
      have HBi := Lib.hid hbi
      have hi1 : (i : Int) < (ol : Int) := by omega
      have hi2 : (i : Int) < 40 := by omega
      have hi0 : (0 : Int) ≤ (i : Int) := by omega
      have HF : Hid (Calls Try.prog 12 #[.agg #[.int .i64 x.k, .string x.path, .string x.old, .int .i64 x.pos, .slice ba bn bc]] wr fun e w' => e = .returned (.bool (fitB x)) ∧ Below wr.heap.size wr w') := fits_any hbi.1 wr
      have HDo : Hid (∀ W, Below wr.heap.size wr W → Calls Try.prog 13 #[.iface TPT (.pointer (some ⟨bt, 0, none⟩)), .agg #[.int .i64 x.k, .string x.path, .string x.old, .int .i64 x.pos, .slice ba bn bc]] W (DoO w W cnt T bt no1 x)) := fun W hW =>
        do_any (HX.out.quiet hW) (by have := HC.out; omega) x ((hbi.below hbw).below hW)
      have HG : Hid (∀ W, Below wr.heap.size wr W → W.cell? ⟨b, o + i * 5, none⟩ = some (.int .i64 x.k) ∧ W.cell? ⟨b, o + i * 5 + 1, none⟩ = some (.string x.path) ∧ W.cell? ⟨b, o + i * 5 + 2, none⟩ = some (.string x.old) ∧ W.cell? ⟨b, o + i * 5 + 3, none⟩ = some (.int .i64 x.pos) ∧ W.cell? ⟨b, o + i * 5 + 4, none⟩ = some (.slice ba bn bc)) := fun W hW =>
        ⟨cell_later hW e0, cell_later hW e1, cell_later hW e2, cell_later hW e3, cell_later hW e4⟩
      clear hcs hbi hbw hl1 hl2
      go_wp2_with fail
      refine HF.out.mono ?_
      rintro e w4 ⟨rfl, hb4⟩
      have HB4 := Lib.hid hb4
      obtain ⟨e0, e1, e2, e3, e4⟩ := HG.out w4 hb4
      clear hb4
      cases hfit : fitB x with
      | true =>
        go_wp2_with fail
        refine (HDo.out w4 HB4.out).mono ?_
        intro e w5 hd
        obtain ⟨rfl, hx5, -⟩ : LxO w w4 cnt (doK T x).1 bt no1 (doK T x).2.1 (doK T x).2.2 e w5 := hd
        have HX5 := Lib.hid hx5
        clear hx5
        go_wp2_with fail
        exact ⟨⟨i + 1, cnt + 1, _, by go_num, by omega, by have := HC.out; omega, HX5.out⟩, by simp [intOf]; omega⟩
      | false =>
        go_wp2_with fail
        exact ⟨⟨i + 1, cnt, T, by go_num, by omega, by have := HC.out; omega, HX.out.quiet HB4.out⟩, by simp [intOf]; omega⟩
    · have hsp : ¬ (i : Int) < (ol : Int) ∨ ((i : Int) < (ol : Int) ∧ ¬ (i : Int) < 40) := by omega
      clear hlt
      obtain ⟨T', z, hR⟩ : ∃ T' z, renameK T old path = (T', z) := ⟨_, _, rfl⟩
      obtain ⟨s0, s1, s2, s3, fz, hS⟩ := stat_form T old
      obtain ⟨x0, x1, x2, x3, gz, hXs⟩ := stat_form T path
      obtain ⟨y0, y1, y2, y3, kz, hY⟩ := stat_form T' old
      have HNum : Hid (z = 0 → (fz = 0 ∧ statK T' path = (.agg #[.int .i64 s0, .int .i64 s1, .int .i64 s2, .int .i64 s3], 0) ∧ ((gz = 0 ∧ x0 = s0) ↔ kz = 0)) ∧ readK T' path 0 4096 = readK T old 0 4096) := fun hz => by
        obtain ⟨c, B, hmv⟩ := rename_facts HX.out.t (by rw [hR, hz])
        exact ⟨mv_nums hmv hS hXs hY, hmv.mb'.trans hmv.mb.symm⟩
      have HRn := Lib.hid hR
      have HYk := Lib.hid hY
      have HSt1 := Lib.hid (HX.out.stat2 hS)
      have HSt2 : Hid (∀ W, Below wr.heap.size wr W → Calls Try.prog 15 #[.pointer (some ⟨bt, 0, none⟩), .string path] W fun e w' => e = .returned (.tuple #[.agg #[.int .i64 x0, .int .i64 x1, .int .i64 x2, .int .i64 x3], .int .i64 gz]) ∧ Below W.heap.size W w') := fun W hW => (HX.out.quiet hW).stat2 hXs
      have HRd : Hid (∀ W, Below wr.heap.size wr W → Calls Try.prog 17 #[.pointer (some ⟨bt, 0, none⟩), .string old, .int .i64 0, .int .i64 4096] W (RdO2 W (readK T old 0 4096))) := fun W hW => (HX.out.quiet hW).read2 4096
      obtain ⟨B, hB⟩ : ∃ B, readK T old 0 4096 = B := ⟨_, rfl⟩
      rw [hB] at HRd HNum
      obtain ⟨Bl, Bz⟩ := B
      clear hR hS hXs hY hB
      rcases hsp with h1 | ⟨h1, h2⟩
      all_goals (
        go_wp2_with fail
        refine HSt1.out.mono ?_
        rintro e w4 ⟨rfl, hb4⟩
        obtain ⟨w5, hw5⟩ : ∃ w5, w4.alloc (.cells #[.int .i64 s0, .int .i64 s1, .int .i64 s2, .int .i64 s3] 39) = w5 := ⟨_, rfl⟩
        have hb5 : Below w4.heap.size w4 w5 := by rw [← hw5]; exact sup_pct w4 _
        have hb05 := hb4.trans (hb5.mono hb4.size)
        have hX5 : Blo w5 w4.heap.size 39 #[.int .i64 s0, .int .i64 s1, .int .i64 s2, .int .i64 s3] := by rw [← hw5]; exact blo_laid w4 _ _
        have HB5 := Lib.hid hb05
        have HX5 := Lib.hid hX5
        have HG4 : Hid (wr.heap.size ≤ w4.heap.size) := hb4.size
        clear hb4 hb5 hb05 hX5
        go_wp2_with fail
        refine (HSt2.out w5 HB5.out).mono ?_
        rintro e w6 ⟨rfl, hb6⟩
        obtain ⟨w7, hw7⟩ : ∃ w7, w6.alloc (.cells #[.int .i64 x0, .int .i64 x1, .int .i64 x2, .int .i64 x3] 39) = w7 := ⟨_, rfl⟩
        have hb7 : Below w6.heap.size w6 w7 := by rw [← hw7]; exact sup_pct w6 _
        have hb57 := hb6.trans (hb7.mono hb6.size)
        have hX7 : Blo w7 w6.heap.size 39 #[.int .i64 x0, .int .i64 x1, .int .i64 x2, .int .i64 x3] := by rw [← hw7]; exact blo_laid w6 _ _
        have HB7 := Lib.hid (HB5.out.trans (hb57.mono HB5.out.size))
        have HX7 := Lib.hid hX7
        have HX57 := Lib.hid (HX5.out.later hb57)
        have HG6 : Hid (wr.heap.size ≤ w6.heap.size) := Nat.le_trans HB5.out.size hb6.size
        clear hb6 hb7 hb57 hX7
        go_wp2_with fail
        refine (HRd.out w7 HB7.out).mono ?_
        rintro e w8 ⟨a8, n8, c8, rfl, hn8, hby8, -, hb8, hfr8⟩
        have HB8 := Lib.hid (HB7.out.trans (hb8.mono HB7.out.size))
        have HX8 := Lib.hid (HX57.out.later hb8)
        have HZ8 := Lib.hid (HX7.out.later hb8)
        have HBy8 := Lib.hid (And.intro hn8 (And.intro hby8 hfr8))
        have HG7 : Hid (wr.heap.size ≤ w7.heap.size) := HB7.out.size
        have HXr : Hid (Lx w w8 cnt T bt (fun g => wr.heap.size ≤ g ∧ g < w8.heap.size)) := HX.out.own (Out.of_below HB8.out) (fun g q => ⟨.inr q.1, q.2⟩)
        have HRen := Lib.hid (HXr.out.rename (by have := HC.out; omega) HRn.out)
        clear hn8 hby8 hb8 hfr8
        go_wp2_with fail
        refine HRen.out.mono ?_
        rintro e w9 ⟨rfl, hx9, ho9⟩
        have HL9 := Lib.hid hx9
        have HX9 : Hid (Blo w9 w4.heap.size 39 #[.int .i64 s0, .int .i64 s1, .int .i64 s2, .int .i64 s3]) := ho9.blo HX8.out (fun x => x.2 ⟨HG4.out, HX8.out.lt⟩)
        have HZ9 : Hid (Blo w9 w6.heap.size 39 #[.int .i64 x0, .int .i64 x1, .int .i64 x2, .int .i64 x3]) := ho9.blo HZ8.out (fun x => x.2 ⟨HG6.out, HZ8.out.lt⟩)
        have HBy9 : Hid (Bytes w9 a8 Bl) := bytes_out HBy8.out.2.1 (fun b o v hn hc => ho9.cell hc hn) (fun b o hl ha x => x.2 ⟨Nat.le_trans HG7.out (HBy8.out.2.2 b o ha), by
          obtain ⟨b', o', e', hlt'⟩ := bytes_blk0 HBy8.out.2.1 hl
          rw [ha] at e'
          cases e'
          exact hlt'⟩)
        clear hx9 ho9 HRen
        by_cases hz : z = 0
        · subst hz
          obtain ⟨⟨hfz, hSn, hV⟩, hRb⟩ := HNum.out rfl
          subst hfz
          have HV := Lib.hid hV
          have HSt3 := Lib.hid (HL9.out.stat2 hSn)
          have HRd2 : Hid (∀ W, Below w9.heap.size w9 W → Calls Try.prog 17 #[.pointer (some ⟨bt, 0, none⟩), .string path, .int .i64 0, .int .i64 4096] W (RdO2 W (Bl, Bz))) := fun W hW => by
            have := (HL9.out.quiet hW).read2 (s := path) (a := 0) 4096
            rw [hRb] at this
            exact this
          have HSt4 : Hid (∀ W, Below w9.heap.size w9 W → Calls Try.prog 15 #[.pointer (some ⟨bt, 0, none⟩), .string old] W fun e w' => e = .returned (.tuple #[.agg #[.int .i64 y0, .int .i64 y1, .int .i64 y2, .int .i64 y3], .int .i64 kz]) ∧ Below W.heap.size W w') := fun W hW => (HL9.out.quiet hW).stat2 HYk.out
          clear hSn hV hRb HNum
          go_wp2_with fail
          refine HSt3.out.mono ?_
          rintro e w10 ⟨rfl, hb10⟩
          obtain ⟨w11, hw11⟩ : ∃ w11, w10.alloc (.cells #[.int .i64 s0, .int .i64 s1, .int .i64 s2, .int .i64 s3] 39) = w11 := ⟨_, rfl⟩
          have hb11 : Below w10.heap.size w10 w11 := by rw [← hw11]; exact sup_pct w10 _
          have hX11 : Blo w11 w10.heap.size 39 #[.int .i64 s0, .int .i64 s1, .int .i64 s2, .int .i64 s3] := by rw [← hw11]; exact blo_laid w10 _ _
          have HB11 := Lib.hid (hb10.trans (hb11.mono hb10.size))
          have HX11 := Lib.hid hX11
          clear hb10 hb11 hX11
          go_wp2_with fail
          refine (HRd2.out w11 HB11.out).mono ?_
          rintro e w12 ⟨a12, n12, c12, rfl, hn12, hby12, -, hb12, -⟩
          have hB12 := HB11.out.trans (hb12.mono HB11.out.size)
          have HB12 := Lib.hid hB12
          have hA := HX11.out.later hb12
          have hC := HX9.out.later hB12
          have p0 : w12.cell? ⟨w10.heap.size, 0, none⟩ = some (.int .i64 s0) := hA.cell 0
          have p1 : w12.cell? ⟨w10.heap.size, 1, none⟩ = some (.int .i64 s1) := hA.cell 1
          have p2 : w12.cell? ⟨w10.heap.size, 2, none⟩ = some (.int .i64 s2) := hA.cell 2
          have p3 : w12.cell? ⟨w10.heap.size, 3, none⟩ = some (.int .i64 s3) := hA.cell 3
          have r0 : w12.cell? ⟨w4.heap.size, 0, none⟩ = some (.int .i64 s0) := hC.cell 0
          have r1 : w12.cell? ⟨w4.heap.size, 1, none⟩ = some (.int .i64 s1) := hC.cell 1
          have r2 : w12.cell? ⟨w4.heap.size, 2, none⟩ = some (.int .i64 s2) := hC.cell 2
          have r3 : w12.cell? ⟨w4.heap.size, 3, none⟩ = some (.int .i64 s3) := hC.cell 3
          have hc1 := run_str w12 31 9 5 Try.underlying31 Try.underlying5 Try.underlying9 Bl a12 n12 c12 hn12 hby12
          have hc2 := run_str w12 31 9 5 Try.underlying31 Try.underlying5 Try.underlying9 Bl a8 n8 c8 HBy8.out.1 (HBy9.out.below hB12)
          have HC12 := Lib.hid hC
          have HD12 := Lib.hid (HZ9.out.later hB12)
          generalize strOf Bl = sl at *
          clear hn12 hby12 hb12 hB12 hA hC
          go_wp2_with fail
          refine (HSt4.out w12 HB12.out).mono ?_
          rintro e w13 ⟨rfl, hb13⟩
          obtain ⟨w14, hw14⟩ : ∃ w14, w13.alloc (.cells #[.int .i64 y0, .int .i64 y1, .int .i64 y2, .int .i64 y3] 39) = w14 := ⟨_, rfl⟩
          have hb14 : Below w12.heap.size w12 w14 := by rw [← hw14]; exact hb13.alloc hb13.size _
          have q0 : w14.cell? ⟨w6.heap.size, 0, none⟩ = some (.int .i64 x0) := (HD12.out.later hb14).cell 0
          have v0 : w14.cell? ⟨w4.heap.size, 0, none⟩ = some (.int .i64 s0) := (HC12.out.later hb14).cell 0
          have HEnd := Lib.hid (HL9.out.quiet (HB12.out.trans (hb14.mono HB12.out.size))).b
          clear hb13 hb14 p0 p1 p2 p3 r0 r1 r2 r3 hc1 hc2
          by_cases hg : gz = 0
          · subst hg
            by_cases hxs : x0 = s0
            · subst hxs
              have hk : kz = 0 := HV.out.1 ⟨rfl, rfl⟩
              subst hk
              go_wp2_with fail
              go_ret
              exact ⟨rfl, HEnd.out⟩
            · have hk : kz ≠ 0 := fun e => hxs (HV.out.2 e).2
              have hxb : (x0 == s0) = false := beq_eq_false_iff_ne.2 hxs
              have hkb : (kz == 0) = false := beq_eq_false_iff_ne.2 hk
              have hkn : (kz != 0) = true := bne_iff_ne.2 hk
              clear hxs hk
              go_wp2_with fail
              go_ret
              exact ⟨rfl, HEnd.out⟩
          · have hk : kz ≠ 0 := fun e => hg (HV.out.2 e).1
            have hgb : (gz == 0) = false := beq_eq_false_iff_ne.2 hg
            have hkb : (kz == 0) = false := beq_eq_false_iff_ne.2 hk
            have hkn : (kz != 0) = true := bne_iff_ne.2 hk
            clear hg hk
            go_wp2_with fail
            go_ret
            exact ⟨rfl, HEnd.out⟩
        · have hzb : (z == 0) = false := beq_eq_false_iff_ne.2 hz
          have HEnd := Lib.hid HL9.out.b
          clear hz
          go_wp2_with fail
          go_ret
          exact ⟨rfl, HEnd.out⟩)
theorem treeMoves_walk (oa : Option Addr) (ol oc : Nat) (F : Nat → OpQ) (old path : ByteArray) (w : World) (hq : QOps w oa ol F) (_ : old.size ≤ maxLen) (_ : path.size ≤ maxLen) :
    Calls Try.prog 4 #[.slice oa ol oc, .string old, .string path] w fun e w' => e = .returned (.bool true) ∧ Below w.heap.size w w' := by
  obtain ⟨q, hq6⟩ : ∃ q, IntKind.i64.wrap ((old.size : Int) + (path.size : Int)) = q := ⟨_, rfl⟩
  by_cases h : 600 < q
  · clear hq
    go_enter Try.func4, Try.ntmps4
    go_wp2_with fail
    refine (awake_any w).mono ?_
    rintro e w1 ⟨rfl, hb1⟩
    have HB1 := Lib.hid hb1
    clear hb1
    go_wp2_with fail
    refine (awake_any w1).mono ?_
    rintro e w2 ⟨rfl, hb2⟩
    have HB2 := Lib.hid (HB1.out.trans (hb2.mono HB1.out.size))
    clear hb2
    go_wp2_with fail
    go_ret
    exact ⟨rfl, HB2.out⟩
  · exact treeMoves_any oa ol oc F old path w q hq hq6 h
end Go.Proofs.Ytcjojcihjhhpgaa
