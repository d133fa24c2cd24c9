/-
  TrRead · TrPutD · TrWrite: these texts in one.
-/
import Derived.Test.YtcjojcihjhhpgaaPk08
/-
  Read.
-/
namespace Go.Proofs.Ytcjojcihjhhpgaa
open Go.RowKit

def rdR (T : Tr) (R : Option Nat × Int) (at_ n : Int) : List Nat × Int := if R.2 ≠ 0 then ([], R.2) else if at_ < 0 ∨ n < 0 ∨ n > 4096 then ([], 22) else match R.1 with | some i => (((T.D i).drop at_.toNat).take n.toNat, 0) | none => ([], 0)
def readK (T : Tr) (s : ByteArray) (at_ n : Int) : List Nat × Int := rdR T (atK T s (wrFile T)) at_ n
def RdO (w : World) (R : List Nat × Int) (e : Ending) (w' : World) : Prop :=
  ∃ a m c, e = .returned (.tuple #[.slice a m c, .int .i64 R.2]) ∧ m = R.1.length ∧ Bytes w' a R.1 ∧ (a = none → m = 0 ∧ c = 0) ∧ Below w.heap.size w w'
/-- What is answered is new memory. -/
def RdO2 (w : World) (R : List Nat × Int) (e : Ending) (w' : World) : Prop :=
  ∃ a m c, e = .returned (.tuple #[.slice a m c, .int .i64 R.2]) ∧ m = R.1.length ∧ Bytes w' a R.1 ∧ (a = none → m = 0 ∧ c = 0) ∧ Below w.heap.size w w' ∧ ∀ g o, a = some ⟨g, o, none⟩ → w.heap.size ≤ g
theorem rdO_none {w w' : World} {z : Int} (hb : Below w.heap.size w w') : RdO2 w ([], z) (.returned (.tuple #[.slice none 0 0, .int .i64 z])) w' := ⟨none, 0, 0, rfl, rfl, Bytes.none _ _, fun _ => ⟨rfl, rfl⟩, hb, fun _ _ h => by cases h⟩
section
variable {w : World} {cnt : Nat} {T : Tr} {p : Pl}
set_option maxRecDepth 100000 in
set_option maxHeartbeats 4000000 in
theorem read_any2 (h : TrM w cnt T p) (s : ByteArray) (at_ n : Int) : Calls Try.prog 17 #[.pointer (some ⟨p.bt, 0, none⟩), .string s, .int .i64 at_, .int .i64 n] w (RdO2 w (readK T s at_ n)) := by
  have H := Lib.hid h
  have HAt := Lib.hid (at_file h (wr := wrFile T) (fun W i hW hi => file_any hW hi) s)
  have HQ : Hid (readK T s at_ n = rdR T (atK T s (wrFile T)) at_ n) := rfl
  have HOk : Hid (∀ ro, atK T s (wrFile T) = (ro, 0) → ∃ i, ro = some i ∧ T.live i ∧ wrFile T i = 0) := fun ro q => atK_ok h.wf q
  clear h
  generalize atK T s (wrFile T) = R at *
  obtain ⟨ro, rz⟩ := R
  by_cases hz : rz = 0
  · subst hz
    obtain ⟨i, rfl, hl, hwr⟩ := HOk.out ro rfl
    have HK := Lib.hid (file_kind H.out.wf hl hwr)
    have HL := Lib.hid hl
    have HZ : Hid (readK T s at_ n = if at_ < 0 ∨ n < 0 ∨ n > 4096 then ([], 22) else (((T.D i).drop at_.toNat).take n.toNat, 0)) := HQ.out
    have HAt : Hid (Calls Try.prog 34 #[.pointer (some ⟨p.bt, 0, none⟩), .string s, .func (.func 38) #[] #[]] w fun e w' => e = .returned (.tuple #[.pointer (some ⟨p.B i, 0, none⟩), .int .i64 0]) ∧ Below w.heap.size w w') := HAt.out
    clear HOk hl hwr HQ
    by_cases hbad : at_ < 0 ∨ n < 0 ∨ n > 4096
    · have HE : Hid (readK T s at_ n = ([], 22)) := HZ.out.trans (if_pos hbad)
      clear HZ
      go_enter Try.func17, Try.ntmps17
      go_wp2_with fail
      refine HAt.out.mono ?_
      rintro e w1 ⟨rfl, hb⟩
      have HB := Lib.hid hb
      clear hb
      by_cases h1 : at_ < 0
      · clear hbad
        go_wp2_with fail
        go_ret2
        rw [HE.out]
        exact rdO_none HB.out
      · by_cases h2 : n < 0
        · clear hbad
          go_wp2_with fail
          go_ret2
          rw [HE.out]
          exact rdO_none HB.out
        · have h3 : n > 4096 := by omega
          clear hbad
          go_wp2_with fail
          go_ret2
          rw [HE.out]
          exact rdO_none HB.out
    · have h1 : ¬ at_ < 0 := fun q => hbad (.inl q)
      have h2 : ¬ n < 0 := fun q => hbad (.inr (.inl q))
      have h3 : ¬ n > 4096 := fun q => hbad (.inr (.inr q))
      have HE : Hid (readK T s at_ n = (((T.D i).drop at_.toNat).take n.toNat, 0)) := HZ.out.trans (if_neg hbad)
      obtain ⟨x, rfl⟩ : ∃ k : Nat, at_ = (k : Int) := ⟨at_.toNat, by omega⟩
      obtain ⟨y, rfl⟩ : ∃ k : Nat, n = (k : Int) := ⟨n.toNat, by omega⟩
      rw [Int.toNat_natCast, Int.toNat_natCast] at HE
      clear HZ hbad
      go_enter Try.func17, Try.ntmps17
      go_wp2_with fail
      refine HAt.out.mono ?_
      rintro e w1 ⟨rfl, hb⟩
      have HB := Lib.hid hb
      have H1 := H.out.later hb
      have q4 := (H1.cells HL.out).2.2.2.2
      have HD := Lib.hid (H1.dat i HK.out)
      clear hb H1
      rcases HD.out with ⟨hv, hl⟩ | ⟨g, c, cur, hv, k1, k2, k3, k4⟩
      · rw [hv] at q4
        rw [hl] at HE
        have hx : (0 : Int) ≤ (x : Int) := by omega
        have hy : (0 : Int) ≤ (y : Int) := by omega
        clear hv hl
        go_upto_region 6 with (fail)
        go_region
        have m2 : min (y : Int) 0 = 0 := by omega
        go_wp2_with fail
        go_ret2
        rw [HE.out]
        have e : List.take y (List.drop x ([] : List Nat)) = [] := by simp
        rw [e]
        exact rdO_none HB.out.drew
      · rw [hv] at q4
        have hx : (0 : Int) ≤ (x : Int) := by omega
        have hy : (0 : Int) ≤ (y : Int) := by omega
        have HBt : Hid (Bytes w1 (some ⟨g, 0, none⟩) (T.D i)) := ⟨H.out.wf.by_ i, by have := H.out.wf.sz i; omega, fun _ => ⟨g, 0, rfl, fun j hj => by
          have e : (cellsB (T.D i))[j]? = some (.int .u8 ((T.D i).getD j 0 : Nat)) := cellsB_get _ _ hj
          rw [← k4, List.getElem?_take_of_lt hj, Array.getElem?_toList] at e
          rw [k3.cell, Nat.zero_add]
          exact e⟩⟩
        have HSz := Lib.hid (H.out.wf.sz i)
        clear hv k3 k4
        generalize T.D i = l at *
        obtain ⟨t, ht⟩ : ∃ t : Nat, t = min x l.length := ⟨_, rfl⟩
        have m1 : min (x : Int) ((l.length : Nat) : Int) = (t : Int) := by omega
        have t1 : t ≤ l.length := by omega
        have t2 : (t : Int) ≤ ((l.length : Nat) : Int) := by omega
        have t3 : (t : Int) ≤ (c : Int) := by omega
        have t0 : (0 : Int) ≤ (t : Int) := by omega
        have HT := Lib.hid ht
        clear ht
        generalize hq : l.length = q at *
        by_cases hct : c = t
        · have hqt : q = t := by omega
          have hxq : q ≤ x := by have := HT.out; omega
          have HEl : Hid (readK T s x y = ([], 0)) := by
            refine HE.out.trans ?_
            rw [List.drop_eq_nil_of_le (by omega), List.take_nil]
          have m2 : min (y : Int) 0 = 0 := by omega
          subst hqt
          have e0 : q - q = 0 := Nat.sub_self q
          go_upto_region 6 with (fail)
          go_region
          go_wp2_with (at_builtin; refine wp_append_bytes rfl (.const (.slice none 0 0)) (.tmp 49) BYT rfl w1.heap.size U8 Try.underlying31 info_u8t _ 0 [] rfl (World.ownsRow_nil _ _ U8 1) (fun _ h => by cases h) (some ⟨g, 0, none⟩) 0 0 [] rfl rfl (Bytes.none _ _) (fun h => by cases h) (by omega) (by simp) ?_; intro a5 c5 w5 ho5 hg5 hB5 hN5; have HO5 := Lib.hid ho5; have HB5 := Lib.hid (HB.out.drew.grown hg5 HB.out.size (fun q hq => by cases hq)); have HY5 := Lib.hid hB5; clear ho5 hg5 hB5 hN5)
          (try simp only [Exit.inBlock, Exit.then])
          go_ret2
          rw [HEl.out]
          refine ⟨a5, 0 + 0, c5, rfl, rfl, HY5.out, fun e => ?_, HB5.out, (fun g o e => by
            subst e
            rcases HO5.out.2 with ⟨q, -⟩ | ⟨g', cap, cur, q, hbs, -⟩
            · cases q
            · cases q; exact Nat.le_trans HB.out.size hbs)⟩
          subst e
          rcases HO5.out.2 with ⟨q, q2⟩ | ⟨g, cap, cur, q, -⟩
          · cases q; exact ⟨rfl, rfl⟩
          · cases q
        · have HLe : Hid (((l.drop x).take y).length = min y (q - t)) := by
            show _ = _
            rw [List.length_take, List.length_drop, hq]
            have := HT.out
            omega
          have HBy : Hid (Bytes w1.drew (some ⟨g, t, none⟩) ((l.drop x).take y)) := by
            obtain ⟨b1, b2, b3⟩ := HBt.out
            refine ⟨fun z hz => b1 z (List.mem_of_mem_drop (List.mem_of_mem_take hz)), by rw [HLe.out]; omega, fun hne => ⟨g, t, rfl, fun j hj => ?_⟩⟩
            rw [HLe.out] at hj
            have hxt : x = t := by have := HT.out; omega
            obtain ⟨b', o', e1, e2⟩ := b3 (fun e => by rw [e] at hq; simp at hq; omega)
            cases e1
            have e3 := e2 (t + j) (by omega)
            rw [Nat.zero_add] at e3
            have e4 : ((l.drop x).take y).getD j 0 = l.getD (t + j) 0 := by
              rw [List.getD_eq_getElem?_getD, List.getD_eq_getElem?_getD, List.getElem?_take_of_lt (by omega), List.getElem?_drop, hxt]
            rw [e4]
            exact e3
          generalize hl2 : (l.drop x).take y = l2 at *
          obtain ⟨u, hu⟩ : ∃ u : Nat, u = min y (q - t) := ⟨_, rfl⟩
          have HU1 : Hid (u = l2.length) := by show _ = _; rw [HLe.out]; exact hu
          have hr1 : q - t ≤ c - t := by omega
          have hs4 : q - t ≤ 38400 := by have := HSz.out; omega
          go_upto_region 6 with (fail)
          go_region
          generalize q - t = r at *
          generalize c - t = k at *
          have m2 : min (y : Int) (r : Int) = (u : Int) := by omega
          have u0 : (0 : Int) ≤ (u : Int) := by omega
          have u1 : (u : Int) ≤ (k : Int) := by omega
          have u4 : u ≤ 4096 := by omega
          clear hu
          go_wp2_with (at_builtin; refine wp_append_bytes rfl (.const (.slice none 0 0)) (.tmp 49) BYT rfl w1.heap.size U8 Try.underlying31 info_u8t _ 0 [] rfl (World.ownsRow_nil _ _ U8 1) (fun _ h => by cases h) (some ⟨g, t, none⟩) u k l2 rfl HU1.out HBy.out (fun h => by cases h) (by omega) (by simp) ?_; intro a5 c5 w5 ho5 hg5 hB5 hN5; have HO5 := Lib.hid ho5; have HB5 := Lib.hid (HB.out.drew.grown hg5 HB.out.size (fun q hq => by cases hq)); have HY5 := Lib.hid hB5; clear ho5 hg5 hB5 hN5)
          (try simp only [Exit.inBlock, Exit.then])
          go_ret2
          rw [HE.out]
          refine ⟨a5, _, c5, rfl, ?_, HY5.out, fun e => ?_, HB5.out, (fun g o e => by
            subst e
            rcases HO5.out.2 with ⟨q, -⟩ | ⟨g', cap, cur, q, hbs, -⟩
            · cases q
            · cases q; exact Nat.le_trans HB.out.size hbs)⟩
          · have := HU1.out
            show _ = l2.length
            omega
          · subst e
            rcases HO5.out.2 with ⟨q, q2⟩ | ⟨g, cap, cur, q, -⟩
            · injection q with q3 q4 q5
              exact ⟨by omega, q5⟩
            · cases q
  · have HE : Hid (readK T s at_ n = ([], rz)) := HQ.out.trans (if_pos hz)
    have hzb : (rz == 0) = false := beq_eq_false_iff_ne.2 hz
    clear hz HOk HQ
    go_enter Try.func17, Try.ntmps17
    go_wp2_with fail
    refine HAt.out.mono ?_
    rintro e w1 ⟨rfl, hb⟩
    have HB := Lib.hid hb
    clear hb
    go_wp2_with fail
    go_ret2
    rw [HE.out]
    exact rdO_none HB.out
theorem read_any (h : TrM w cnt T p) (s : ByteArray) (at_ n : Int) : Calls Try.prog 17 #[.pointer (some ⟨p.bt, 0, none⟩), .string s, .int .i64 at_, .int .i64 n] w (RdO w (readK T s at_ n)) :=
  (read_any2 h s at_ n).mono fun _ _ ⟨a, m, c, h1, h2, h3, h4, h5, _⟩ => ⟨a, m, c, h1, h2, h3, h4, h5⟩
end
end Go.Proofs.Ytcjojcihjhhpgaa
/-
  A file's bytes, changed where they lie.
-/
namespace Go.Proofs.Ytcjojcihjhhpgaa
open Go.RowKit

section
variable {w w1 : World} {cnt : Nat} {T : Tr} {p : Pl} {i : Nat} {l : List Nat}
theorem TrM.putDat (h : TrM w cnt T p) (hi : T.K i = 1) (ho : Out (fun g => (p.DV i).ownBlock = some g) w w1) (hd : DatO w1 (p.DV i) l) (hl : l.length ≤ 38400) (hb : ∀ y ∈ l, y < 256) : TrG w T p w1 cnt (T.dat i l) p := by
  have hil : T.live i := by unfold Tr.live; omega
  have hX : ∀ g t cs, Blo w g t cs → t ≠ U8 → ¬ (p.DV i).ownBlock = some g := fun g t cs hg ht e => by
    obtain ⟨cs', q⟩ := (h.dat i hi).blk e
    exact hg.apart q ht rfl
  have hM : ∀ j, T.K j = 2 → ¬ (p.DV i).ownBlock = some (p.MB j) := fun j hj e => by
    obtain ⟨cs', q⟩ := (h.dat i hi).blk e
    obtain ⟨ks, hs⟩ := h.map j hj
    exact hs.blo q rfl
  have hD : ∀ j, j ≠ i → (T.dat i l).D j = T.D j := fun j e => updN_ne _ _ e
  have hDi : (T.dat i l).D i = l := updN_at _ _ _
  refine ⟨⟨Tr.dat_wf h.wf hl hb, ho.blo h.tree (hX _ _ _ h.tree (by decide)), ho.blo h.row (hX _ _ _ h.row (by decide)), fun j hj => ?_, fun j hj => ?_, fun j hj => ?_, h.dir, h.injB, h.injM, h.injD⟩, ?_, fun g hg => .inl hg, rfl⟩
  · exact ho.blo (h.node j hj) (hX _ _ _ (h.node j hj) (by decide))
  · obtain ⟨ks, hs⟩ := h.map j hj
    exact ⟨ks, hs.out ho (hM j hj)⟩
  · have hj : T.K j = 1 := hj
    by_cases e : j = i
    · subst e
      rw [hDi]
      exact hd
    · rw [hD j e]
      exact (h.dat j hj).out ho (fun g hg x => h.injD i j hi hj (Ne.symm e) g x hg)
  · exact ho.mono fun g _ e => .inr (.inr ⟨i, hil, .inr (.inr ⟨hi, e⟩)⟩)
def wrL (l : List Nat) (at_ : Nat) (m : List Nat) : List Nat := l.take at_ ++ m ++ l.drop (at_ + m.length)
theorem wrL_len {l m : List Nat} {at_ : Nat} (h : at_ + m.length ≤ l.length) : (wrL l at_ m).length = l.length := by
  unfold wrL
  rw [List.length_append, List.length_append, List.length_take, List.length_drop]
  omega
theorem wrL_byte {l m : List Nat} {at_ : Nat} (h : ∀ y ∈ l, y < 256) (h2 : ∀ y ∈ m, y < 256) : ∀ y ∈ wrL l at_ m, y < 256 := by
  unfold wrL
  intro y hy
  rcases List.mem_append.1 hy with q | q
  · rcases List.mem_append.1 q with q | q
    · exact h y (List.mem_of_mem_take q)
    · exact h2 y q
  · exact h y (List.mem_of_mem_drop q)
theorem DatO.write {g at_ c : Nat} {m : List Nat} (h : DatO w (.slice (some ⟨g, 0, none⟩) l.length c) l) (ha : at_ + m.length ≤ l.length) : DatO (w.setCells g at_ (cellsB m)) (.slice (some ⟨g, 0, none⟩) l.length c) (wrL l at_ m) ∧ Out (fun k => k = g) w (w.setCells g at_ (cellsB m)) := by
  rcases h with ⟨q, -⟩ | ⟨g', c', cur, q, h1, h2, h3, h4⟩
  · cases q
  · cases q
    obtain ⟨cs', q1, q2, q3⟩ := blo_cells (cellsB m) at_ w cur h3
    refine ⟨.inr ⟨g, c, cs', by rw [wrL_len ha], by rw [wrL_len ha]; exact h1, by omega, q1, ?_⟩, out_cells _ _ _ rfl⟩
    rw [wrL_len ha]
    refine List.ext_getElem? fun j => ?_
    by_cases hj : j < l.length
    · have hcj : cur[j]? = (cellsB l)[j]? := by rw [← h4, List.getElem?_take_of_lt hj, Array.getElem?_toList]
      rw [List.getElem?_take_of_lt hj, Array.getElem?_toList, q3, cellsB_len]
      unfold wrL
      rw [cellsB_app, cellsB_app]
      have e1 : (cellsB (l.take at_)).length = at_ := by rw [cellsB_len, List.length_take]; omega
      by_cases hj1 : j < at_
      · rw [if_neg (by omega), List.append_assoc, List.getElem?_append_left (by omega), hcj]
        show (l.map _)[j]? = ((l.take at_).map _)[j]?
        rw [List.map_take, List.getElem?_take_of_lt hj1]
      · by_cases hj2 : j < at_ + m.length
        · rw [if_pos ⟨by omega, hj2, by omega⟩, List.append_assoc, List.getElem?_append_right (by omega), e1, List.getElem?_append_left (by rw [cellsB_len]; omega)]
        · rw [if_neg (by omega), List.getElem?_append_right (by rw [List.length_append, e1, cellsB_len]; omega), List.length_append, e1, cellsB_len, hcj]
          show (l.map _)[j]? = ((l.drop (at_ + m.length)).map _)[_]?
          rw [List.map_drop, List.getElem?_drop]
          congr 1
          omega
    · rw [List.getElem?_eq_none (by rw [List.length_take]; omega), List.getElem?_eq_none (by rw [cellsB_len, wrL_len ha]; omega)]
end
end Go.Proofs.Ytcjojcihjhhpgaa
/-
  Write.
-/
namespace Go.Proofs.Ytcjojcihjhhpgaa
open Go.RowKit

def wrR (T : Tr) (R : Option Nat × Int) (at_ : Int) (m : List Nat) : Tr × Int := if R.2 ≠ 0 then (T, R.2) else if at_ < 0 ∨ 4096 < m.length then (T, 22) else if at_ > 38400 - (m.length : Int) then (T, 27) else if m.length = 0 then (T, 0) else
  match R.1 with | some i => (T.dat i (wrL (rszL (T.D i) (max (T.D i).length (at_.toNat + m.length))) at_.toNat m), 0) | none => (T, 0)
def writeK (T : Tr) (s : ByteArray) (at_ : Int) (m : List Nat) : Tr × Int := wrR T (atK T s (wrFile T)) at_ m
theorem size_u8t : (Try.prog.info? U8).map (·.size) = some 1 := by kernel_rfl
theorem updN_updN {α : Type} (f : Nat → α) (i : Nat) (a b : α) : updN (updN f i a) i b = updN f i b := by
  funext j
  by_cases e : j = i
  · subst e; rw [updN_at, updN_at]
  · rw [updN_ne _ _ e, updN_ne _ _ e, updN_ne _ _ e]
theorem Tr.dat_dat (T : Tr) (i : Nat) (a b : List Nat) : (T.dat i a).dat i b = T.dat i b := by
  unfold Tr.dat
  show ({ T with D := updN (updN T.D i a) i b } : Tr) = _
  rw [updN_updN]
theorem CB1 (l : List Nat) : ∀ u ∈ cellsB l, u.oneCell' = true := by
  intro u hu
  simp [cellsB] at hu
  obtain ⟨x, -, rfl⟩ := hu
  rfl
section
variable {w : World} {cnt : Nat} {T : Tr} {p : Pl}
set_option maxRecDepth 100000 in
set_option maxHeartbeats 4000000 in
theorem write_any (h : TrM w cnt T p) (s : ByteArray) (at_ : Int) {a : Option Addr} {n c : Nat} {m : List Nat} (hn : n = m.length) (hm : Bytes w a m) (hx : m ≠ [] → ∀ g o, a = some ⟨g, o, none⟩ → ¬ XT T p g) :
    Calls Try.prog 21 #[.pointer (some ⟨p.bt, 0, none⟩), .string s, .int .i64 at_, .slice a n c] w (OpE w cnt T p (writeK T s at_ m)) := by
  have H := Lib.hid h
  have HAt := Lib.hid (at_file h (wr := wrFile T) (fun W i hW hi => file_any hW hi) s)
  have HQ : Hid (writeK T s at_ m = wrR T (atK T s (wrFile T)) at_ m) := rfl
  have HOk : Hid (∀ ro, atK T s (wrFile T) = (ro, 0) → ∃ i, ro = some i ∧ T.live i ∧ wrFile T i = 0) := fun ro q => atK_ok h.wf q
  have HN := Lib.hid hn
  have HM := Lib.hid hm
  have HX := Lib.hid hx
  clear h hn hm hx
  generalize atK T s (wrFile T) = R at *
  obtain ⟨ro, rz⟩ := R
  by_cases hz : rz = 0
  · subst hz
    obtain ⟨i, rfl, hl, hwr⟩ := HOk.out ro rfl
    have HK := Lib.hid (file_kind H.out.wf hl hwr)
    have HL := Lib.hid hl
    have HZ : Hid (writeK T s at_ m = if at_ < 0 ∨ 4096 < m.length then (T, 22) else if at_ > 38400 - (m.length : Int) then (T, 27) else if m.length = 0 then (T, 0) else (T.dat i (wrL (rszL (T.D i) (max (T.D i).length (at_.toNat + m.length))) at_.toNat m), 0)) := HQ.out
    rw [← HN.out] at HZ
    have HAt : Hid (Calls Try.prog 34 #[.pointer (some ⟨p.bt, 0, none⟩), .string s, .func (.func 38) #[] #[]] w fun e w' => e = .returned (.tuple #[.pointer (some ⟨p.B i, 0, none⟩), .int .i64 0]) ∧ Below w.heap.size w w') := HAt.out
    clear HOk hl hwr HQ
    go_enter Try.func21, Try.ntmps21
    go_wp2_with fail
    refine HAt.out.mono ?_
    rintro e w1 ⟨rfl, hb⟩
    have HB := Lib.hid hb
    clear hb
    by_cases h1 : at_ < 0
    · have HE : Hid (writeK T s at_ m = (T, 22)) := HZ.out.trans (if_pos (.inl h1))
      clear HZ
      go_wp2_with fail
      go_ret
      rw [HE.out]
      exact opE_same H.out HB.out _
    · by_cases h2 : 4096 < n
      · have HE : Hid (writeK T s at_ m = (T, 22)) := HZ.out.trans (if_pos (.inr h2))
        have h3 : (n : Int) > 4096 := by omega
        clear HZ
        go_wp2_with fail
        go_ret
        rw [HE.out]
        exact opE_same H.out HB.out _
      · have h3 : ¬ (n : Int) > 4096 := by omega
        have hbad : ¬ (at_ < 0 ∨ 4096 < n) := fun q => q.elim h1 h2
        have HZ2 : Hid (writeK T s at_ m = if at_ > 38400 - (n : Int) then (T, 27) else if n = 0 then (T, 0) else (T.dat i (wrL (rszL (T.D i) (max (T.D i).length (at_.toNat + n))) at_.toNat m), 0)) := HZ.out.trans (if_neg hbad)
        have e1 : IntKind.i64.wrap (38400 - (n : Int)) = 38400 - (n : Int) := IntWalk.i64_in _ (by omega)
        clear HZ hbad
        by_cases h4 : at_ > 38400 - (n : Int)
        · have HE : Hid (writeK T s at_ m = (T, 27)) := HZ2.out.trans (if_pos h4)
          clear HZ2
          go_wp2_with fail
          go_ret
          rw [HE.out]
          exact opE_same H.out HB.out _
        · have HZ3 : Hid (writeK T s at_ m = if n = 0 then (T, 0) else (T.dat i (wrL (rszL (T.D i) (max (T.D i).length (at_.toNat + n))) at_.toNat m), 0)) := HZ2.out.trans (if_neg h4)
          clear HZ2
          by_cases h5 : n = 0
          · have HE : Hid (writeK T s at_ m = (T, 0)) := HZ3.out.trans (if_pos h5)
            have h6 : (n : Int) = 0 := by omega
            clear HZ3
            go_wp2_with fail
            go_ret
            rw [HE.out]
            exact opE_same H.out HB.out _
          · have HE0 : Hid (writeK T s at_ m = (T.dat i (wrL (rszL (T.D i) (max (T.D i).length (at_.toNat + n))) at_.toNat m), 0)) := HZ3.out.trans (if_neg h5)
            obtain ⟨x, rfl⟩ : ∃ k : Nat, at_ = (k : Int) := ⟨at_.toNat, by omega⟩
            rw [Int.toNat_natCast] at HE0
            have h6 : ((n : Int) == 0) = false := beq_eq_false_iff_ne.2 (by omega)
            have h7 : ¬ (n : Int) = 0 := by omega
            have H1 := H.out.later HB.out
            have q4 := (H1.cells HL.out).2.2.2.2
            obtain ⟨a4, c4, hv4⟩ := H1.dv HL.out
            rw [if_pos HK.out] at hv4
            rw [hv4] at q4
            have hsz := H.out.wf.sz i
            have HRz0 : Hid (∀ S : Nat, S ≤ 38400 → Calls Try.prog 49 #[.pointer (some ⟨p.B i, 0, none⟩), .int .i64 (S : Int)] w1 (RzO w1 cnt T p i S)) := fun S hS => resize_any H1 HK.out hS
            clear HZ3 hv4 H1
            generalize hq : (T.D i).length = q at *
            obtain ⟨S, hS⟩ : ∃ S : Nat, S = max q (x + n) := ⟨_, rfl⟩
            have e2 : IntKind.i64.wrap ((x : Int) + (n : Int)) = (x : Int) + (n : Int) := IntWalk.i64_in _ (by omega)
            have m1 : max (q : Int) ((x : Int) + (n : Int)) = (S : Int) := by omega
            rw [← hS] at HE0
            have HRz := Lib.hid (HRz0.out S (by omega))
            have HS1 : Hid (x + n ≤ S ∧ S ≤ 38400 ∧ 0 < n) := ⟨by omega, by omega, by omega⟩
            clear hS HRz0 hq
            go_wp2_with fail
            refine HRz.out.mono ?_
            rintro e w2 ⟨rfl, v, hg⟩
            have hd2 : DatO w2 v (rszL (T.D i) S) := by
              have := hg.m.dat i HK.out
              have e3 : (p.dv i v).DV i = v := updN_at _ _ _
              have e4 : (T.dat i (rszL (T.D i) S)).D i = rszL (T.D i) S := updN_at _ _ _
              rwa [e3, e4] at this
            obtain ⟨g2, c2, cur, rfl, k1, k2, k3, k4⟩ : ∃ g c cur, v = .slice (some ⟨g, 0, none⟩) S c ∧ S ≤ c ∧ c ≤ cur.size ∧ Blo w2 g U8 cur ∧ cur.toList.take S = cellsB (rszL (T.D i) S) := by
              rcases hd2 with ⟨-, q2⟩ | ⟨g, c, cur, q1, q2, q3, q5, q6⟩
              · have := rszL_len (T.D i) S
                rw [q2] at this
                have := HS1.out
                simp at *
                omega
              · rw [rszL_len] at q1 q2 q6
                exact ⟨g, c, cur, q1, q2, q3, q5, q6⟩
            have hil : (T.dat i (rszL (T.D i) S)).live i := HL.out
            have r4 := (hg.m.cells hil).2.2.2.2
            have e3 : (p.dv i (.slice (some ⟨g2, 0, none⟩) S c2)).DV i = .slice (some ⟨g2, 0, none⟩) S c2 := updN_at _ _ _
            rw [e3] at r4
            have r4 : w2.cell? ⟨p.B i, 4, none⟩ = some (.slice (some ⟨g2, 0, none⟩) S c2) := r4
            have hne : m ≠ [] := fun e => by have := HN.out; have := HS1.out; rw [e] at *; simp at *; omega
            obtain ⟨gd, od, rfl, hcd⟩ := HM.out.2.2 hne
            have HSrc : Hid (∀ j u, (cellsB m)[j]? = some u → w2.cell? ((⟨gd, od, none⟩ : Addr).add j) = some u) := fun j u hu => by
              have hj : j < m.length := by
                have := (List.getElem?_eq_some_iff.1 hu).1
                rwa [cellsB_len] at this
              rw [cellsB_get _ _ hj] at hu
              cases hu
              rw [Addr.add_lit]
              exact hg.out.cell (cell_later HB.out (hcd j hj)) (HX.out hne gd od rfl)
            have HTh : Hid (w2.there g2 x (cellsB m).length) := fun j hj => by
              rw [cellsB_len, ← HN.out] at hj
              have hj2 : x + j < cur.size := by have := HS1.out; omega
              exact ⟨by rw [k3.cell, Array.getElem?_eq_getElem hj2]; rfl, k3.frozen _⟩
            have hwr := (DatO.write (l := rszL (T.D i) S) (at_ := x) (m := m) (c := c2) (g := g2) (by rw [rszL_len]; exact hd2) (by rw [rszL_len, ← HN.out]; exact HS1.out.1))
            rw [rszL_len] at hwr
            have hg3 := hg.m.putDat (i := i) HK.out (w1 := w2.setCells g2 x (cellsB m)) (l := wrL (rszL (T.D i) S) x m) (by rw [e3]; exact hwr.2.mono fun g _ e => by rw [e]; rfl) (by rw [e3]; exact hwr.1) (by rw [wrL_len (by rw [rszL_len, ← HN.out]; exact HS1.out.1), rszL_len]; exact HS1.out.2.1) (wrL_byte (rszL_byte (H.out.wf.by_ i)) HM.out.1)
            rw [Tr.dat_dat] at hg3
            have HG := Lib.hid (((hg.trans hg3).before HB.out).mono (Nat.le_succ cnt))
            have y0 : (0 : Int) ≤ (x : Int) := by omega
            have y1 : (x : Int) ≤ (S : Int) := by have := HS1.out; omega
            have y2 : (x : Int) ≤ (c2 : Int) := by omega
            have y3 : ¬ c2 = x := by have := HS1.out; omega
            have HLe : Hid ((cellsB m).length = Nat.min n (S - x) * 1) := by
              show _ = _
              rw [cellsB_len, ← HN.out]
              have := HS1.out
              have e : Nat.min n (S - x) = n := Nat.min_eq_left (by omega)
              rw [e]; omega
            clear hg hg3 hwr hd2 k1 k2 k3 k4 hcd e3 hil hne q4 m1
            generalize (p.dv i (.slice (some ⟨g2, 0, none⟩) S c2)) = p2 at *
            go_wp2_with (refine wpList_copy_many rfl (.tmp 52) (.tmp 53) BYT BYT rfl U8 1 Try.underlying31 size_u8t g2 x (S - x) (c2 - x) ⟨gd, od, none⟩ n c (by first | rfl | simp [go_sem]) (by first | rfl | simp [go_sem]) (cellsB m) HLe.out HSrc.out HTh.out (CB1 _) ?_)
            go_ret
            rw [HE0.out]
            exact ⟨rfl, _, HG.out⟩
  · have HE : Hid (writeK T s at_ m = (T, rz)) := HQ.out.trans (if_pos hz)
    have hzb : (rz == 0) = false := beq_eq_false_iff_ne.2 hz
    clear hz HOk HQ
    go_enter Try.func21, Try.ntmps21
    go_wp2_with fail
    refine HAt.out.mono ?_
    rintro e w1 ⟨rfl, hb⟩
    have HB := Lib.hid hb
    clear hb
    go_wp2_with fail
    go_ret
    rw [HE.out]
    exact opE_same H.out HB.out _
end
end Go.Proofs.Ytcjojcihjhhpgaa
