/-
  SgWlk · SgWkM · SgRwP · SgRws: these texts in one.
-/
import Derived.Test.YtlkgaefabahkoaaDoorPk11
import Derived.Test.YtlkgaefabahkoaaDoorPk13
import Derived.BigQuiet
/-
  Partial segments: within, Walk.
-/
namespace Go.Proofs.YtlkgaefabahkoaaDoor
open Go.RowKit

abbrev FDT := 38
def WinY (a0 : Nat) (m : Sm) (n : Nat) (w : World) (e : Ending) (w' : World) : Prop :=
  ∃ fa fc ia ic ba bc, e = .returned (.tuple #[.agg (fdc (a0 : Int) m fa fc ia ic ba n bc), .bool true]) ∧ PtO w' w.heap.size m fa fc ia ic ∧ Below w.heap.size w w'
section
variable {C base n : Nat} {w w' W : World} {L : Dl} {d : Dm}
set_option maxRecDepth 100000 in
set_option maxHeartbeats 4000000 in
theorem within_no (addr : Int) (B S I : Int) (hc : readC d addr ≠ 0) (h : Dk C w L d) (ht : Tab w) (hz : 0 < w.heap.size) :
    Calls Tryd.prog 66 #[.pointer (some ⟨L.bd, 0, none⟩), sup B S I, .int .i64 addr] w fun e w' => e = .returned (.tuple #[.agg zfd, .bool false]) ∧ Below w.heap.size w w' := by
  have hb1 : Below w.heap.size w ((w.alloc (.cells #[.int .i64 B, .int .i64 S, .int .i64 I] 70)).alloc (.cells zfd FDT)) := ((Below.refl _ _).alloc (Nat.le_refl _) _).alloc (by simp) _
  have hx := blo_laid (w.alloc (.cells #[.int .i64 B, .int .i64 S, .int .i64 I] 70)) FDT zfd
  rw [World.size_alloc] at hx
  have HR : Hid (Calls Tryd.prog 12 #[.pointer (some ⟨L.bd, 0, none⟩), .int .i64 addr] ((w.alloc (.cells #[.int .i64 B, .int .i64 S, .int .i64 I] 70)).alloc (.cells zfd FDT)) fun e w' => e = .returned (.tuple #[.agg zfd, .int .i64 (readC d addr)]) ∧ Below ((w.alloc (.cells #[.int .i64 B, .int .i64 S, .int .i64 I] 70)).alloc (.cells zfd FDT)).heap.size ((w.alloc (.cells #[.int .i64 B, .int .i64 S, .int .i64 I] 70)).alloc (.cells zfd FDT)) w') :=
    (segRead_any addr (h.later hb1) (ht.below hb1 hz) (by have := hb1.size; omega)).mono fun e w' hS => ⟨hS.2.1 hc, hS.1⟩
  have HB1 := Lib.hid hb1
  have HX1 := Lib.hid hx
  have hc1 : (readC d addr != 0) = true := by simpa using hc
  clear h ht hz hb1 hx hc
  generalize readC d addr = cc at *
  go_enter Tryd.func66, Tryd.ntmps66
  go_wp2_with fail
  refine HR.out.mono ?_
  rintro e w2 ⟨rfl, hb2⟩
  have hb3 := hb2.trans ((sup_pc w2 (.cells zfd FDT)).mono hb2.size)
  have HB2 := Lib.hid (HB1.out.trans (hb3.mono HB1.out.size))
  have HX2 := Lib.hid (HX1.out.later hb3)
  have hres := HX2.out
  clear hb2 hb3 HR HX1 HB1
  go_wp2_with (refine wpList_store_row rfl FDT (.tmp 6) (.tmp 19) rfl (w.heap.size + 1) zfd (by first | rfl | simp [go_sem]) (by first | rfl | simp [go_sem]) FDT _ hres (by kernel_rfl) rfl (by simp [Value.oneCell']) ?_)
  (try simp only [Exit.inBlock, Exit.then])
  exact bodyPost_ret (results_row_tmp (p := 6) (u := 7) (ty := FDT) rfl _ _ (w.heap.size + 1) FDT zfd _ (by simp) (blo_row HX2.out zfd) Tryd.underlying38 rfl (by kernel_rfl)) rfl ⟨rfl, below_setRow HB2.out (by omega) _⟩
set_option maxRecDepth 100000 in
set_option maxHeartbeats 4000000 in
theorem within_yes {a0 : Nat} {m : Sm} {ls : List (List Nat)} (B S I : Int) (hB : Back d a0 m ls) (hi : InSeg B S I (a0 : Int)) (hl : ((rdN m + 2 : Nat) : Int) ≤ S - ((a0 : Int) - 3) % S) (hsz : szF m.fs ≤ 1000000) (hil : m.is.length ≤ 1000000) (h : Dk C w L d) (ht : Tab w) (hz : 0 < w.heap.size) :
    Calls Tryd.prog 66 #[.pointer (some ⟨L.bd, 0, none⟩), sup B S I, .int .i64 (a0 : Int)] w (WinY a0 m ls.length w) := by
  obtain ⟨w1, hw1⟩ : ∃ w1, (w.alloc (.cells #[.int .i64 B, .int .i64 S, .int .i64 I] 70)).alloc (.cells zfd FDT) = w1 := ⟨_, rfl⟩
  have hb1 : Below w.heap.size w w1 := by rw [← hw1]; exact ((Below.refl _ _).alloc (Nat.le_refl _) _).alloc (by simp) _
  have hx : Blo w1 (w.heap.size + 1) FDT zfd := by
    have := blo_laid (w.alloc (.cells #[.int .i64 B, .int .i64 S, .int .i64 I] 70)) FDT zfd
    rw [World.size_alloc, hw1] at this
    exact this
  have hs1 : Blo w1 w.heap.size 70 #[.int .i64 B, .int .i64 S, .int .i64 I] := by rw [← hw1]; exact (blo_laid w _ _).alloc _
  have HR := Lib.hid (read_back hB (h.later hb1) (ht.below hb1 hz) (by have := hb1.size; omega))
  have HLf := Lib.hid (fun W => left_in B S I (a0 : Int) W hi)
  obtain ⟨lf, hlf⟩ : ∃ lf, S - ((a0 : Int) - 3) % S = lf := ⟨_, rfl⟩
  rw [hlf] at HLf hl
  have hmb := hB.many
  have hbk := fun (W : World) fa fc ia ic (hF : Fis W fa m.fs) => sblocks_any (w := W) m.e m.c m.i m.p m.x fa m.fs.length fc ia m.is.length ic hF rfl (by omega) (by omega)
  have e2 : 2 + m.is.length + blF m.fs = rdN m + 2 := by unfold rdN; omega
  rw [e2] at hbk
  have HBk := Lib.hid hbk
  have HW1 := Lib.hid hw1
  have HB1 := Lib.hid hb1
  have HX1 := Lib.hid hx
  have hlt1 : w.heap.size + 1 < w1.heap.size := hx.lt
  have HS1 := Lib.hid hs1
  have hl2 : ¬ lf < ((rdN m + 2 : Nat) : Int) := by omega
  clear h ht hz hb1 hx hs1 hB hi hl hlf hmb hbk e2 hsz hil hw1
  generalize rdN m + 2 = nb at *
  obtain ⟨n, hn⟩ : ∃ n, ls.length = n := ⟨_, rfl⟩
  have HNn := Lib.hid hn
  rw [hn]
  clear hn
  go_enter Tryd.func66, Tryd.ntmps66
  go_upto_region 1 with (fail)
  have hw1 := HW1.out
  simp only [zfd] at hw1
  rw [hw1]
  clear hw1
  go_wp2_with fail
  refine HR.out.mono ?_
  rintro e w2 ⟨fa, fc, ia, ic, ba, bc, G, he, hP2, -, hb2⟩
  rw [HNn.out] at he
  subst he
  go_upto_region 4 with (fail)
  have hb3 := hb2.trans ((sup_pc w2 (.cells (fdc (a0 : Int) m fa fc ia ic ba n bc) FDT)).mono hb2.size)
  have HB3 := Lib.hid (HB1.out.trans (hb3.mono HB1.out.size))
  have HX3 := Lib.hid (HX1.out.later hb3)
  have HS3 := Lib.hid (HS1.out.later hb3)
  have HF3 := Lib.hid (blo_laid w2 FDT (fdc (a0 : Int) m fa fc ia ic ba n bc))
  have HI3 := Lib.hid (hP2.later (sup_pc w2 (.cells (fdc (a0 : Int) m fa fc ia ic ba n bc) FDT)))
  clear hb2 hb3 hP2 HR HX1 HS1 HB1 HW1
  generalize w2.alloc (.cells (fdc (a0 : Int) m fa fc ia ic ba n bc) FDT) = w3 at *
  generalize w2.heap.size = g8 at *
  have c0 := HS3.out.cell 0
  have c1 := HS3.out.cell 1
  have c2 := HS3.out.cell 2
  simp at c0 c1 c2
  go_wp2_with fail
  refine (HLf.out w3).mono ?_
  rintro e w4 ⟨rfl, hb4⟩
  have HB4 := Lib.hid (HB3.out.trans (hb4.mono HB3.out.size))
  have HX4 := Lib.hid (HX3.out.later hb4)
  have HF4 := Lib.hid (HF3.out.later hb4)
  have HI4 := Lib.hid (HI3.out.later hb4)
  clear hb4 HB3 HX3 HS3 HF3 HI3 c0 c1 c2
  have c1 := HF4.out.cell 1
  have c2 := HF4.out.cell 2
  have c3 := HF4.out.cell 3
  have c4 := HF4.out.cell 4
  have c5 := HF4.out.cell 5
  have c6 := HF4.out.cell 6
  have c7 := HF4.out.cell 7
  simp [fdc] at c1 c2 c3 c4 c5 c6 c7
  go_wp2_with fail
  refine (HBk.out w4 fa fc ia ic HI4.out.fis).mono ?_
  rintro e w5 ⟨rfl, hb5⟩
  have HB5 := Lib.hid (HB4.out.trans (hb5.mono HB4.out.size))
  have HX5 := Lib.hid (HX4.out.later hb5)
  have HF5 := Lib.hid (HF4.out.later hb5)
  have HI5 := Lib.hid (HI4.out.later hb5)
  have hg1 := HF5.out
  have hg2 := HX5.out
  have hlt := HX5.out.lt
  have hlt2 := HF5.out.lt
  clear hb5 HB4 HX4 HF4 HI4 c1 c2 c3 c4 c5 c6 c7 HLf HBk
  go_wp2_with (first | (refine wpList_load_row rfl FDT (.tmp 8) rfl g8 rfl FDT (fdc (a0 : Int) m fa fc ia ic ba n bc) (0, 0) _ hg1 Tryd.underlying38 rfl (by kernel_rfl) ?_) | (refine wpList_store_row rfl FDT (.tmp 6) (.tmp 36) rfl (w.heap.size + 1) (fdc (a0 : Int) m fa fc ia ic ba n bc) (by first | rfl | simp [go_sem]) (by first | rfl | simp [go_sem]) FDT _ hg2 (by kernel_rfl) rfl (by simp [Value.oneCell']) ?_))
  (try simp only [Exit.inBlock, Exit.then])
  have ho : Out (fun j => j = w.heap.size + 1) w5 (w5.setRow (w.heap.size + 1) (fdc (a0 : Int) m fa fc ia ic ba n bc)) := out_row w5 (w.heap.size + 1) _ rfl
  refine bodyPost_ret (results_row_tmp (p := 6) (u := 7) (ty := FDT) rfl _ _ (w.heap.size + 1) FDT (fdc (a0 : Int) m fa fc ia ic ba n bc) _ (by simp [Act.put]) (blo_row HX5.out _) Tryd.underlying38 rfl (by kernel_rfl)) rfl ⟨fa, fc, ia, ic, ba, bc, rfl, (HI5.out.out ho (fun j e _ => by omega)).weak (by omega), below_setRow HB5.out (by omega) _⟩
end
end Go.Proofs.YtlkgaefabahkoaaDoor
/-
  Partial segments: Walk.
-/
namespace Go.Proofs.YtlkgaefabahkoaaDoor
open Go.RowKit

theorem info_fd : (Tryd.prog.info? FDT).map (fun i => (i.zero, i.size, i.bytes)) = some (some (.agg zfd), 9, 120) := by kernel_rfl
/-- Pieces that stand one behind the other in a segment. -/
structure Pcs (d : Dm) (B S I : Int) (seg : Int) (n : Nat) (A : Nat → Nat) (M : Nat → Sm) (LS : Nat → List (List Nat)) : Prop where
  good : 0 ≤ seg ∧ seg < nsegs B S I
  start : ((A 0 : Nat) : Int) = 3 + seg * S
  back : ∀ i, i < n → Back d (A i) (M i) (LS i)
  ins : ∀ i, i < n → InSeg B S I ((A i : Nat) : Int) ∧ ((rdN (M i) + 2 : Nat) : Int) ≤ S - (((A i : Nat) : Int) - 3) % S ∧ (((A i : Nat) : Int) - 3) / S = seg
  step : ∀ i, i < n → A (i + 1) = A i + rdN (M i) + 2
  stop : readC d ((A n : Nat) : Int) ≠ 0
  small : ∀ i, i < n → szF (M i).fs ≤ 1000000 ∧ (M i).is.length ≤ 1000000
  low : ∀ i, i ≤ n → A i ≤ 10000
/-- A row of what was found: each one's address and count. -/
def FdRow (w : World) (base : Nat) (v : Value) (n : Nat) (A : Nat → Nat) (M : Nat → Sm) : Prop :=
  ∃ xs, w.ownsRow base FDT 9 v n xs ∧ ∀ i, i < n → xs[i * 9]? = some (.int .i64 ((A i : Nat) : Int)) ∧ xs[i * 9 + 2]? = some (.int .i64 (M i).c)
structure WkR (w : World) (B S I : Int) (A : Nat → Nat) (M : Nat → Sm) (k : Nat) (v : Value) (wr : World) : Prop where
  row : FdRow wr w.heap.size v k A M
  box : Blo wr w.heap.size 70 #[.int .i64 B, .int .i64 S, .int .i64 I]
  below : Below w.heap.size w wr
def WalkO (w : World) (n : Nat) (A : Nat → Nat) (M : Nat → Sm) (e : Ending) (w' : World) : Prop := ∃ a c, e = .returned (.slice a n c) ∧ FdRow w' w.heap.size (.slice a n c) n A M ∧ Below w.heap.size w w'
section
variable {C base n : Nat} {w w' W : World} {L : Dl} {d : Dm}
theorem own_apart {b1 b2 s1 s2 n1 n2 : Nat} {e1 e2 : TypeId} {u v : Value} {xs ys : List Value} (h : w.ownsRow b1 e1 s1 u n1 xs) (hv : w.ownsRow b2 e2 s2 v n2 ys) (hne : e2 ≠ e1) (hg : w.grownBy w' v.ownBlock) : w'.ownsRow b1 e1 s1 u n1 xs := by
  refine World.ownsRow.kept h hg ?_
  cases hu : u.ownBlock with
  | none => exact .inl rfl
  | some g =>
    obtain ⟨_, _, cs, hb⟩ := oblo h hu
    exact .inr (hb.row_apart hv hne)
theorem PtO.grown {b2 s2 n2 : Nat} {e2 : TypeId} {v : Value} {ys : List Value} {m : Sm} {fa : Option Addr} {fc : Nat} {ia : Option Addr} {ic : Nat} (h : PtO w base m fa fc ia ic) (hv : w.ownsRow b2 e2 s2 v n2 ys) (h1 : e2 ≠ FN) (h2 : e2 ≠ IT) (hg : w.grownBy w' v.ownBlock) : PtO w' base m fa fc ia ic := by
  obtain ⟨⟨av, hF⟩, hI⟩ := h
  exact ⟨⟨av, own_apart hF.row hv h1 hg, fun i hi => own_apart (hF.its i hi) hv h2 hg⟩, own_apart hI hv h2 hg⟩
theorem FdRow.form {v : Value} {A : Nat → Nat} {M : Nat → Sm} (h : FdRow w base v n A M) : ∃ a c, v = .slice a n c := by
  obtain ⟨xs, h1, _⟩ := h
  obtain ⟨a, c, hv, _⟩ := own_slice h1
  exact ⟨a, c, hv⟩
theorem FdRow.later {v : Value} {A : Nat → Nat} {M : Nat → Sm} (h : FdRow w base v n A M) (hb : Below w.heap.size w w') : FdRow w' base v n A M := by
  obtain ⟨xs, h1, h2⟩ := h
  exact ⟨xs, own_later h1 hb, h2⟩
theorem FdRow.snoc {v' : Value} {A : Nat → Nat} {M : Nat → Sm} {xs : List Value} {fa : Option Addr} {fc : Nat} {ia : Option Addr} {ic : Nat} {ba : Option Addr} {nb bc : Nat} (hx : ∀ i, i < n → xs[i * 9]? = some (.int .i64 ((A i : Nat) : Int)) ∧ xs[i * 9 + 2]? = some (.int .i64 (M i).c)) (hl : xs.length = n * 9)
    (ho : w'.ownsRow base FDT 9 v' (n + 1) (xs ++ (fdc ((A n : Nat) : Int) (M n) fa fc ia ic ba nb bc).toList)) : FdRow w' base v' (n + 1) A M := by
  refine ⟨_, ho, fun i hi => ?_⟩
  by_cases e : i = n
  · subst e
    rw [List.getElem?_append_right (by omega), List.getElem?_append_right (by omega), hl, show i * 9 - i * 9 = 0 by omega, show i * 9 + 2 - i * 9 = 2 by omega]
    exact ⟨rfl, rfl⟩
  · have := hx i (by omega)
    rw [List.getElem?_append_left (by omega), List.getElem?_append_left (by omega)]
    exact this
set_option maxRecDepth 100000 in
set_option maxHeartbeats 8000000 in
theorem walk_any (B S I seg : Int) (A : Nat → Nat) (M : Nat → Sm) (LS : Nat → List (List Nat)) (hn : n ≤ 1000) (hp : Pcs d B S I seg n A M LS) (h : Dk C w L d) (ht : Tab w) (hz : 0 < w.heap.size) :
    Calls Tryd.prog 33 #[.pointer (some ⟨L.bd, 0, none⟩), sup B S I, .int .i64 seg] w (WalkO w n A M) := by
  have hb1 := sup_pc w (.cells #[.int .i64 B, .int .i64 S, .int .i64 I] 70)
  have hs1 := blo_laid w 70 #[.int .i64 B, .int .i64 S, .int .i64 I]
  have HFs := Lib.hid (fun W => first_ok B S I seg W hp.good.1 hp.good.2)
  have HT := Lib.hid (show ∀ W, Below w.heap.size w W → Tab W ∧ 0 < W.heap.size from fun W hb => ⟨ht.below hb hz, by have := hb.size; omega⟩)
  have H := Lib.hid h
  have HP := Lib.hid hp
  have HB1 := Lib.hid hb1
  have HS1 := Lib.hid hs1
  clear hb1 hs1 h ht hz hp
  rw [← HP.out.start] at HFs
  go_enter Tryd.func33, Tryd.ntmps33
  go_wp2_with fail
  refine (HFs.out _).mono ?_
  rintro e w2 ⟨rfl, hb2⟩
  have HR2 : Hid (WkR w B S I A M 0 (.slice none 0 0) w2) := ⟨⟨[], ⟨rfl, .inl ⟨rfl, rfl⟩⟩, fun i hi => by omega⟩, HS1.out.later hb2, HB1.out.trans (hb2.mono HB1.out.size)⟩
  have hlow0 := HP.out.low 0 (Nat.zero_le _)
  clear hb2 HS1 HB1 HFs
  go_wp2_with fail
  go_loopw [9, 10] (fun v t wr => ∃ k : Nat, k ≤ n ∧ t = .int .i64 ((A k : Nat) : Int) ∧ WkR w B S I A M k v wr) (fun _ t _ => 10001 - (intOf t).toNat)
  case atStart => exact ⟨0, Nat.zero_le _, rfl, HR2.out⟩
  case round =>
    clear HR2
    obtain ⟨k, hk, rfl, hR⟩ := hrel
    have hlowk := HP.out.low k hk
    have HR := Lib.hid hR
    obtain ⟨va, vc, rfl⟩ := hR.row.form
    have c0 := hR.box.cell 0
    have c1 := hR.box.cell 1
    have c2 := hR.box.cell 2
    simp at c0 c1 c2
    clear hR
    by_cases hlt : k < n
    · have HW := Lib.hid (within_yes B S I (HP.out.back k hlt) (HP.out.ins k hlt).1 (HP.out.ins k hlt).2.1 (HP.out.small k hlt).1 (HP.out.small k hlt).2 (H.out.later HR.out.below) (HT.out _ HR.out.below).1 (HT.out _ HR.out.below).2)
      have HOf := Lib.hid (fun W => of_in B S I ((A k : Nat) : Int) W (HP.out.ins k hlt).1)
      rw [(HP.out.ins k hlt).2.2] at HOf
      have HSt := Lib.hid (HP.out.step k hlt)
      have hlow1 := HP.out.low (k + 1) hlt
      have hmany := (HP.out.back k hlt).many
      have HBk : Hid (∀ (W : World) fa fc ia ic, Fis W fa (M k).fs → Calls Tryd.prog 25 #[part (M k).e (M k).c (M k).i (M k).p (M k).x fa (M k).fs.length fc ia (M k).is.length ic] W fun en w' => en = .returned (.int .i64 ((rdN (M k) + 2 : Nat) : Int)) ∧ Below W.heap.size W w') := fun W fa fc ia ic hF => by
        have := sblocks_any (w := W) (M k).e (M k).c (M k).i (M k).p (M k).x fa (M k).fs.length fc ia (M k).is.length ic hF rfl (by have := (HP.out.small k hlt).1; omega) (by have := (HP.out.small k hlt).2; omega)
        rwa [show 2 + (M k).is.length + blF (M k).fs = rdN (M k) + 2 by unfold rdN; omega] at this
      clear hmany
      go_wp2_with fail
      refine HW.out.mono ?_
      rintro e w3 ⟨fa, fc, ia, ic, ba, bc, rfl, hP3, hb3⟩
      obtain ⟨nb, hnb⟩ : ∃ nb, (LS k).length = nb := ⟨_, rfl⟩
      rw [hnb]
      clear hnb HW
      go_upto_region 7 with (fail)
      have hb4 := hb3.trans ((sup_pc w3 (.cells (fdc ((A k : Nat) : Int) (M k) fa fc ia ic ba nb bc) FDT)).mono hb3.size)
      have HB4 := Lib.hid (HR.out.below.trans (hb4.mono HR.out.below.size))
      have HX4 := Lib.hid (HR.out.box.later hb4)
      have HF4 := Lib.hid (blo_laid w3 FDT (fdc ((A k : Nat) : Int) (M k) fa fc ia ic ba nb bc))
      have HI4 := Lib.hid (hP3.later (sup_pc w3 (.cells (fdc ((A k : Nat) : Int) (M k) fa fc ia ic ba nb bc) FDT)))
      obtain ⟨xs, hrow, hxs⟩ := HR.out.row
      have HRow4 := Lib.hid (own_later hrow hb4)
      have HXs := Lib.hid hxs
      have HNe := Lib.hid (show some w3.heap.size ≠ (Value.slice va k vc).ownBlock from fun e => by
        have h1 := (own_lt hrow e.symm).2
        have h2 := hb3.size
        omega)
      clear hb3 hb4 hP3 HR c0 c1 c2 hrow hxs
      generalize w3.alloc (.cells (fdc ((A k : Nat) : Int) (M k) fa fc ia ic ba nb bc) FDT) = w4 at *
      generalize w3.heap.size = g11 at *
      have c0 := HX4.out.cell 0
      have c1 := HX4.out.cell 1
      have c2 := HX4.out.cell 2
      simp at c0 c1 c2
      go_wp2_with fail
      refine (HOf.out w4).mono ?_
      rintro e w5 ⟨rfl, hb5⟩
      have HB5 := Lib.hid (HB4.out.trans (hb5.mono HB4.out.size))
      have HX5 := Lib.hid (HX4.out.later hb5)
      have HF5 := Lib.hid (HF4.out.later hb5)
      have HI5 := Lib.hid (HI4.out.later hb5)
      have HRow5 := Lib.hid (own_later HRow4.out hb5)
      have hz5 : w.heap.size ≤ w5.heap.size := HB5.out.size
      clear hb5 HB4 HX4 HF4 HI4 HRow4 c0 c1 c2 HOf
      have d0 := HF5.out.cell 0
      have d1 := HF5.out.cell 1
      have d2 := HF5.out.cell 2
      have d3 := HF5.out.cell 3
      have d4 := HF5.out.cell 4
      have d5 := HF5.out.cell 5
      have d6 := HF5.out.cell 6
      have d7 := HF5.out.cell 7
      have d8 := HF5.out.cell 8
      simp at d0 d1 d2 d3 d4 d5 d6 d7 d8
      have hXl : xs.length = k * 9 := HRow5.out.1
      have HXl := Lib.hid hXl
      clear hXl
      have ho1 : ∀ u ∈ (fdc ((A k : Nat) : Int) (M k) fa fc ia ic ba nb bc).toList, u.oneCell' = true := by simp [fdc, Value.oneCell']
      have hszF : (fdc ((A k : Nat) : Int) (M k) fa fc ia ic ba nb bc).size = 9 := rfl
      have hw5 : w.heap.size ≤ (w5.alloc (.cells (fdc ((A k : Nat) : Int) (M k) fa fc ia ic ba nb bc) FDT)).heap.size := by rw [World.size_alloc]; omega
      go_wp2_with (at_builtin; go_loud (refine wp_append_rowO rfl (.tmp 51) (.tmp 53) 83 rfl w.heap.size FDT _ 9 120 Tryd.underlying83 info_fd (by kernel_rfl) (by decide) (by decide) (.slice va k vc) k _ rfl (own_later HRow5.out (sup_pc w5 _)) (some ⟨w5.heap.size, 0, none⟩) 1 1 (fdc ((A k : Nat) : Int) (M k) fa fc ia ic ba nb bc).toList rfl rfl (laid_srcO w5 FDT _ _ rfl) ho1 (fun e => by cases e) (by omega) (by omega) ?_; intro a6 c6 w6 hown hgrow hat; have HFR6 := Lib.hid (FdRow.snoc HXs.out HXl.out hown); have hb6 : Below w5.heap.size w5 (w5.alloc (.cells (fdc ((A k : Nat) : Int) (M k) fa fc ia ic ba nb bc) FDT)) := sup_pc w5 _; have HB6 := Lib.hid ((HB5.out.trans (hb6.mono HB5.out.size)).grown hgrow hw5 (fun b hb => (own_lt HRow5.out hb).1)); have HX6 := Lib.hid ((HX5.out.later hb6).grown hgrow ((HX5.out.later hb6).row_apart (own_later HRow5.out hb6) (by decide))); have HI6 := Lib.hid ((HI5.out.later hb6).grown (own_later HRow5.out hb6) (by decide) (by decide) hgrow); have HF6 := Lib.hid ((HF5.out.later hb6).grown hgrow HNe.out); clear hown hgrow hat hb6 d0 d1 d2 d3 d4 d5 d6 d7 d8; have d1 := HF6.out.cell 1; have d2 := HF6.out.cell 2; have d3 := HF6.out.cell 3; have d4 := HF6.out.cell 4; have d5 := HF6.out.cell 5; have d6 := HF6.out.cell 6; have d7 := HF6.out.cell 7; simp at d1 d2 d3 d4 d5 d6 d7))
      refine (HBk.out w6 fa fc ia ic HI6.out.fis).mono ?_
      rintro e w7 ⟨rfl, hb7⟩
      have HB7 := Lib.hid (HB6.out.trans (hb7.mono HB6.out.size))
      have HX7 := Lib.hid (HX6.out.later hb7)
      have HR7 : Hid (FdRow w7 w.heap.size (.slice a6 (k + 1) c6) (k + 1) A M) := Lib.hid (HFR6.out.later hb7)
      clear hb7 HB6 HX6 HF6 HI6 HFR6 d1 d2 d3 d4 d5 d6 d7
      have HAn := Lib.hid (show ((A k : Nat) : Int) + ((rdN (M k) + 2 : Nat) : Int) = ((A (k + 1) : Nat) : Int) by rw [HSt.out]; omega)
      have hlo1 : A k < A (k + 1) := by have := HSt.out; omega
      go_wp2_with fail
      have ew : wrap64 (((A k : Nat) : Int) + (((rdN (M k) : Nat) : Int) + 2)) = ((A (k + 1) : Nat) : Int) := by
        have h1 := HAn.out
        unfold wrap64
        omega
      rw [ew]
      refine ⟨⟨k + 1, hlt, rfl, HR7.out, HX7.out, HB7.out⟩, ?_⟩
      show 10001 - (((A (k + 1) : Nat) : Int)).toNat < 10001 - (((A k : Nat) : Int)).toNat
      omega
    · obtain rfl : k = n := by omega
      have HW := Lib.hid (within_no (A k : Int) B S I HP.out.stop (H.out.later HR.out.below) (HT.out _ HR.out.below).1 (HT.out _ HR.out.below).2)
      have HOf : Hid (∀ W : World, Calls Tryd.prog 29 #[.agg #[.int .i64 B, .int .i64 S, .int .i64 I], .int .i64 ((A k : Nat) : Int)] W fun e w' => (∃ x y z : Int, e = .returned (.tuple #[.int .i64 x, .int .i64 y, .int .i64 z])) ∧ Below W.heap.size W w') := fun W => by
        by_cases hi : InSeg B S I ((A k : Nat) : Int)
        · exact (of_in B S I _ W hi).mono fun e w' h => ⟨⟨_, _, _, h.1⟩, h.2⟩
        · exact (of_out B S I _ W hi).mono fun e w' h => ⟨⟨_, _, _, h.1⟩, h.2⟩
      go_wp2_with fail
      refine HW.out.mono ?_
      rintro e w3 ⟨rfl, hb3⟩
      go_upto_region 7 with (fail)
      have hb4 := hb3.trans ((sup_pc w3 (.cells zfd FDT)).mono hb3.size)
      have HB4 := Lib.hid (HR.out.below.trans (hb4.mono HR.out.below.size))
      have HX4 := Lib.hid (HR.out.box.later hb4)
      have HRow4 := Lib.hid (HR.out.row.later hb4)
      clear hb3 hb4 HR c0 c1 c2 HW
      generalize w3.alloc (.cells zfd FDT) = w4 at *
      have c0 := HX4.out.cell 0
      have c1 := HX4.out.cell 1
      have c2 := HX4.out.cell 2
      simp at c0 c1 c2
      go_wp2_with fail
      refine (HOf.out w4).mono ?_
      rintro e w5 ⟨⟨x, y, z, rfl⟩, hb5⟩
      have HB5 := Lib.hid (HB4.out.trans (hb5.mono HB4.out.size))
      have HRow5 := Lib.hid (HRow4.out.later hb5)
      clear hb5 HB4 HX4 HRow4 c0 c1 c2 HOf
      go_wp2_with fail
      exact bodyPost_ret (results_tmp rfl _ _ _) rfl ⟨_, _, rfl, HRow5.out, HB5.out⟩
end
end Go.Proofs.YtlkgaefabahkoaaDoor
/-
  Partial segments: the rows that the law writes, one behind the other.
-/
namespace Go.Proofs.YtlkgaefabahkoaaDoor
open Go.RowKit

def nnR (l : List Nat) (i : Nat) : Nat := l.getD i 0 % 6 + 1
def adR (l : List Nat) (s0 : Nat) : Nat → Nat
  | 0 => s0
  | i + 1 => adR l s0 i + nnR l i + 2
def isR (n : Nat) : List Int := (List.range n).map fun j => ((j : Nat) : Int) + 1
def mR (l : List Nat) (s0 i : Nat) : Sm := ⟨1, ((i : Nat) : Int), 0, 1, (((adR l s0 i + nnR l i + 2) % 190 : Nat) : Int), [], isR (nnR l i)⟩
def lsR (l : List Nat) (i : Nat) : List (List Nat) := lsF (rnd [i]) (nnR l i)
def dR (l : List Nat) (s0 : Nat) : Nat → Dm
  | 0 => newD 200
  | i + 1 => (segW (dR l s0 i) ((adR l s0 i : Nat) : Int) (mR l s0 i) (lsR l i)).1
theorem isR_len (n : Nat) : (isR n).length = n := by simp [isR]
theorem isR_succ (n : Nat) : isR (n + 1) = isR n ++ [((n : Nat) : Int) + 1] := by simp [isR, List.range_succ]
theorem nnR_bd (l : List Nat) (i : Nat) : 1 ≤ nnR l i ∧ nnR l i ≤ 6 := by unfold nnR; omega
theorem isR_ok (n : Nat) (hn : n ≤ 6) : (isR n).any badI = false := by
  have h : ∀ n, n ≤ 6 → (isR n).any badI = false := by decide +kernel
  exact h n hn
theorem mR_chk (l : List Nat) (s0 i : Nat) (hi : i < 20) : chkM (mR l s0 i) = 0 := by
  have hn := nnR_bd l i
  have hx : (adR l s0 i + nnR l i + 2) % 190 < 190 := Nat.mod_lt _ (by decide)
  unfold chkM chkC
  simp only [mR, isR_ok _ hn.2, isR_len]
  generalize (adR l s0 i + nnR l i + 2) % 190 = x at *
  have e1 : outB ((i : Nat) : Int) 0 65535 = false := by unfold outB; simp; omega
  have e2 : outB ((x : Nat) : Int) 0 4095 = false := by unfold outB; simp; omega
  rw [e1, e2]
  have e3 : ¬ 88 < 10 + nnR l i + szF [] := by simp [szF]; omega
  rw [if_neg (by decide), if_neg (by decide), if_neg (by decide), if_neg (by decide), if_neg (by decide), if_neg e3]
theorem lsR_len (l : List Nat) (i : Nat) : (lsR l i).length = nnR l i := lsF_length _ _
theorem lsR_byte (l : List Nat) (i : Nat) (hi : i < 20) : ∀ b ∈ lsR l i, ∀ x ∈ b, x < 256 := rnd_byte (by intro x hx; rcases List.mem_cons.1 hx with rfl | hx; omega; cases hx) _ (by have := nnR_bd l i; omega)
theorem byt_len (l : List Nat) : (byt l).length = 64 := by first | exact byt_length l | simp [byt]
/-- What stands on the disk once i of them are written. -/
structure RwI (l : List Nat) (kk i : Nat) : Prop where
  arm : (dR l (3 + 32 * kk) i).armed = false
  n : (dR l (3 + 32 * kk) i).n = 200
  rm : Rm (dR l (3 + 32 * kk) i) (400 - i * 20)
  top : adR l (3 + 32 * kk) i ≤ 3 + 32 * kk + 32
  low : 3 + 32 * kk ≤ adR l (3 + 32 * kk) i
  here : ∀ j, j < i → Here (dR l (3 + 32 * kk) i) (adR l (3 + 32 * kk) j) (mR l (3 + 32 * kk) j) (lsR l j)
  zero : ∀ j, adR l (3 + 32 * kk) i ≤ j → (dR l (3 + 32 * kk) i).N j = zeroB
theorem adR_mono (l : List Nat) (s0 : Nat) {i j : Nat} (h : i ≤ j) : adR l s0 i ≤ adR l s0 j := by
  induction j with
  | zero => have : i = 0 := by omega
            subst this; exact Nat.le_refl _
  | succ j ih =>
    by_cases e : i = j + 1
    · subst e; exact Nat.le_refl _
    · have := ih (by omega)
      show _ ≤ adR l s0 j + nnR l j + 2
      omega
theorem RwI.start (l : List Nat) (kk : Nat) : RwI l kk 0 :=
  ⟨rfl, rfl, rm_new 200 400 (by decide), by show 3 + 32 * kk ≤ _; omega, Nat.le_refl _, fun j hj => by omega, fun j _ => rfl⟩
theorem RwI.next {l : List Nat} {kk i : Nat} (h : RwI l kk i) (hi : i < 20) (hk : kk < 6) (hf : adR l (3 + 32 * kk) i + nnR l i + 2 ≤ 3 + 32 * kk + 32) :
    (segW (dR l (3 + 32 * kk) i) ((adR l (3 + 32 * kk) i : Nat) : Int) (mR l (3 + 32 * kk) i) (lsR l i)).2 = 0 ∧ RwI l kk (i + 1) := by
  obtain ⟨ha, hn, hr, ht, hl, hh, hz⟩ := h
  obtain ⟨s0, hs⟩ : ∃ s0, 3 + 32 * kk = s0 := ⟨_, rfl⟩
  rw [hs] at ha hn hr ht hl hh hz hf ⊢
  have hc := mR_chk l s0 i hi
  have hnn := nnR_bd l i
  have hx : (adR l s0 i + nnR l i + 2) % 190 = adR l s0 i + nnR l i + 2 ∨ ((adR l s0 i + nnR l i + 2) % 190 ≤ 5 ∧ 163 ≤ s0) := by omega
  have hw : wrB (dR l s0 i).n ((adR l s0 i : Nat) : Int) (mR l s0 i).x (mR l s0 i).fs (mR l s0 i).is (lsR l i) = true := by
    rw [hn]
    unfold wrB
    have e1 : blks (mR l s0 i).fs (mR l s0 i).is = nnR l i + 2 := by
      show 2 + (isR (nnR l i)).length + blF [] = _
      rw [isR_len]
      simp [blF]
      omega
    have e2 : (lsR l i).all (fun b => b.length == 64) = true := by
      rw [List.all_eq_true]
      intro b hb
      obtain ⟨q, _, rfl⟩ := List.mem_map.1 hb
      simp [rnd, byt_len]
    have e3 : (mR l s0 i).x = (((adR l s0 i + nnR l i + 2) % 190 : Nat) : Int) := rfl
    rw [e1, e2, e3, lsR_len]
    generalize (adR l s0 i + nnR l i + 2) % 190 = x at *
    simp only [hasB, Bool.and_eq_true, decide_eq_true_eq, Bool.or_eq_true]
    refine ⟨trivial, ⟨by omega, by omega, by omega⟩, ⟨by omega, by omega, by omega⟩, trivial, ?_⟩
    omega
  have hok := segW_ok ha hc hw
  refine ⟨hok.1, ?_⟩
  have hN := (segW_zero hok.1).2.2
  rw [Int.toNat_natCast] at hN
  have e3 : (mR l s0 i).x.toNat = (adR l s0 i + nnR l i + 2) % 190 := Int.toNat_natCast _
  rw [e3] at hN
  have hhl := headM_len (mR l s0 i) (lsR l i) hc
  have hlen := lsR_len l i
  have keep : ∀ j, (j < adR l s0 i ∨ adR l s0 i + nnR l i + 2 ≤ j) → (3 ≤ s0 ∧ s0 ≤ j) → (dR l s0 (i + 1)).N j = (dR l s0 i).N j ∨ ((dR l s0 (i + 1)).N j = zeroB ∧ adR l s0 i ≤ j) := by
    intro j hj hj0
    show (segW (dR l s0 i) ((adR l s0 i : Nat) : Int) (mR l s0 i) (lsR l i)).1.N j = _ ∨ _ = _ ∧ _
    have e : dR l s0 (i + 1) = (segW (dR l s0 i) ((adR l s0 i : Nat) : Int) (mR l s0 i) (lsR l i)).1 := rfl
    rw [e, hN, setsB_out _ (adR l s0 i) _ j (by simp; omega)]
    generalize (adR l s0 i + nnR l i + 2) % 190 = x at *
    by_cases hxj : x ≤ j ∧ j < x + 2
    · right
      refine ⟨?_, by omega⟩
      obtain ⟨q, rfl⟩ : ∃ q, j = x + q := ⟨j - x, by omega⟩
      rw [setsB_in _ _ _ q (by simp; omega)]
      match q, (show q < 2 by omega) with
      | 0, _ => rfl
      | 1, _ => rfl
    · left
      rw [setsB_out _ x _ j (by simp; omega), setsB_out _ _ _ j (by rw [hlen]; omega)]
  have hs3 : 3 ≤ s0 := by omega
  refine ⟨?_, ?_, ?_, ?_, ?_, ?_, ?_⟩ <;> rw [hs]
  · exact hok.2.1
  · exact (segW_n _ _ _ _).trans hn
  · exact Rm.seg (k := 400 - (i + 1) * 20) (hr.mono (by rw [hlen]; omega))
  · exact hf
  · show s0 ≤ adR l s0 i + nnR l i + 2
    omega
  · intro j hj
    by_cases e : j = i
    · subst e
      exact segW_here hok.1 (lsR_byte l j hi)
    · have hj' : j < i := by omega
      obtain ⟨a1, a2, a3, a4, a5, a6, a7⟩ := hh j hj'
      have m1 : adR l s0 (j + 1) ≤ adR l s0 i := adR_mono l s0 hj'
      have m2 : adR l s0 (j + 1) = adR l s0 j + nnR l j + 2 := rfl
      have m3 : adR l s0 0 ≤ adR l s0 j := adR_mono l s0 (Nat.zero_le j)
      have m4 : adR l s0 0 = s0 := rfl
      have hlj := lsR_len l j
      have kp : ∀ q, adR l s0 j ≤ q → q < adR l s0 (j + 1) → (dR l s0 (i + 1)).N q = (dR l s0 i).N q := fun q h1 h2 => by
        rcases keep q (.inl (by omega)) ⟨hs3, by omega⟩ with h | ⟨_, h⟩
        · exact h
        · omega
      refine ⟨a1, a2, a3, ?_, ?_, ?_, fun q hq => ?_⟩
      · have e : (dR l s0 (i + 1)).n = (dR l s0 i).n := segW_n _ _ _ _
        rw [e]; exact a4
      · rw [kp _ (by omega) (by omega)]; exact a5
      · rw [kp _ (by omega) (by omega)]; exact a6
      · rw [kp _ (by omega) (by omega)]; exact a7 q hq
  · intro j hj
    have hj2 : adR l s0 i + nnR l i + 2 ≤ j := hj
    rcases keep j (.inr hj2) ⟨hs3, by omega⟩ with h | ⟨h, _⟩
    · rw [h]; exact hz j (by omega)
    · exact h
theorem zero_no : okB (zeroB ++ zeroB) = false := by decide +kernel
theorem RwI.pcs {l : List Nat} {kk m : Nat} (h : RwI l kk m) (hm : m ≤ 20) (hk : kk < 6) :
    Pcs (dR l (3 + 32 * kk) m) 200 32 9 ((kk : Nat) : Int) m (adR l (3 + 32 * kk)) (mR l (3 + 32 * kk)) (lsR l) := by
  have hG : GoodG 200 32 9 := by unfold GoodG; decide
  have hns : nsegs 200 32 9 = 6 := by rw [nsegs_good hG]; decide
  have hrd : ∀ i, rdN (mR l (3 + 32 * kk) i) = nnR l i := fun i => by
    show (isR (nnR l i)).length + blF [] = _
    rw [isR_len]
    simp [blF]
  have hb : ∀ i, i < m → 3 + 32 * kk ≤ adR l (3 + 32 * kk) i ∧ adR l (3 + 32 * kk) i + nnR l i + 2 ≤ 3 + 32 * kk + 32 := fun i hi => by
    have h1 : adR l (3 + 32 * kk) (i + 1) ≤ adR l (3 + 32 * kk) m := adR_mono l _ hi
    have h2 : adR l (3 + 32 * kk) (i + 1) = adR l (3 + 32 * kk) i + nnR l i + 2 := rfl
    have h3 : adR l (3 + 32 * kk) 0 ≤ adR l (3 + 32 * kk) i := adR_mono l _ (Nat.zero_le i)
    have h4 : adR l (3 + 32 * kk) 0 = 3 + 32 * kk := rfl
    have := h.top
    omega
  refine ⟨?_, ?_, fun i hi => (h.here i hi).back, fun i hi => ?_, fun i _ => by rw [hrd]; rfl, ?_, fun i _ => ?_, fun i hi => ?_⟩
  · rw [hns]; omega
  · show ((3 + 32 * kk : Nat) : Int) = _
    omega
  · obtain ⟨h1, h2⟩ := hb i hi
    rw [hrd]
    have := nnR_bd l i
    unfold InSeg
    rw [hns]
    generalize adR l (3 + 32 * kk) i = a at *
    refine ⟨⟨by omega, by omega⟩, by omega, by omega⟩
  · have h1 := h.top
    have h2 := h.low
    unfold readC
    rw [Int.toNat_natCast]
    have e1 : hasB (dR l (3 + 32 * kk) m).n ((adR l (3 + 32 * kk) m : Nat) : Int) 2 = true := by rw [h.n]; simp [hasB]; omega
    have e2 : okB (rdL (dR l (3 + 32 * kk) m) (adR l (3 + 32 * kk) m)) = false := by
      unfold rdL
      rw [h.zero _ (Nat.le_refl _), h.zero _ (Nat.le_succ _)]
      exact zero_no
    rw [e1, e2, if_neg (by decide), if_pos rfl]
    decide
  · have := nnR_bd l i
    refine ⟨by simp [mR, szF], ?_⟩
    show (isR (nnR l i)).length ≤ _
    rw [isR_len]
    omega
  · have h1 := h.top
    have h2 : adR l (3 + 32 * kk) i ≤ adR l (3 + 32 * kk) m := adR_mono l _ hi
    omega
end Go.Proofs.YtlkgaefabahkoaaDoor
/-
  The walk of SegRows.
-/
namespace Go.Proofs.YtlkgaefabahkoaaDoor
open Go.RowKit

def whR (l : List Nat) (s0 n : Nat) : List Int := (List.range n).map fun j => ((adR l s0 j : Nat) : Int)
theorem whR_succ (l : List Nat) (s0 n : Nat) : whR l s0 (n + 1) = whR l s0 n ++ [((adR l s0 n : Nat) : Int)] := by simp [whR, List.range_succ]
theorem whR_len (l : List Nat) (s0 n : Nat) : (whR l s0 n).length = n := by simp [whR]
structure RwS (w : World) (bx : Nat) (l : List Nat) (s0 : Nat) (L : Dl) (i : Nat) (v : Value) (W : World) : Prop where
  dk : ∃ q, Dk w.heap.size W { L with qv := q } (dR l s0 i)
  box : Blo W bx 70 #[.int .i64 200, .int .i64 32, .int .i64 9]
  row : W.ownsRow w.heap.size IT 1 v i (cellsI (whR l s0 i))
  below : Below w.heap.size w W
theorem FdRow.reads {w : World} {base n : Nat} {a : Option Addr} {c : Nat} {A : Nat → Nat} {M : Nat → Sm} (h : FdRow w base (.slice a n c) n A M) : ∀ j, j < n → ∃ b o, a = some ⟨b, o, none⟩ ∧ w.cell? ⟨b, o + j * 9, none⟩ = some (.int .i64 ((A j : Nat) : Int)) ∧ w.cell? ⟨b, o + (j * 9 + 2), none⟩ = some (.int .i64 (M j).c) := fun j hj => by
  obtain ⟨xs, hx1, hx2⟩ := h
  obtain ⟨b3, o3, e1, e2⟩ := Rds.own hx1 (j * 9) _ (hx2 j hj).1
  obtain ⟨b4, o4, e3, e4⟩ := Rds.own hx1 (j * 9 + 2) _ (hx2 j hj).2
  rw [e1] at e3
  cases e3
  exact ⟨b3, o3, e1, e2, e4⟩
theorem rws_drewN {B : Nat} {a w : World} (h : Below B a w) (n : Nat) : Below B a (w.drewN n) := ⟨h.os, h.tape, h.output, h.size, h.block⟩
section
variable {w w' W : World} {L : Dl} {l : List Nat} {s0 i bx : Nat} {v : Value}
theorem RwS.later (h : RwS w bx l s0 L i v W) (hb : Below W.heap.size W w') : RwS w bx l s0 L i v w' := by
  obtain ⟨⟨q, hq⟩, h2, h3, h4⟩ := h
  exact ⟨⟨q, hq.later hb⟩, h2.later hb, own_later h3 hb, h4.trans (hb.mono h4.size)⟩
structure RwT (w : World) (bx : Nat) (l : List Nat) (s0 : Nat) (L : Dl) (i : Nat) (v : Value) (W : World) : Prop where
  dk : ∃ q, Dk w.heap.size W { L with qv := q } (dR l s0 (i + 1))
  box : Blo W bx 70 #[.int .i64 200, .int .i64 32, .int .i64 9]
  row : W.ownsRow w.heap.size IT 1 v i (cellsI (whR l s0 i))
  below : Below w.heap.size w W
theorem RwT.later (h : RwT w bx l s0 L i v W) (hb : Below W.heap.size W w') : RwT w bx l s0 L i v w' := by
  obtain ⟨⟨q, hq⟩, h2, h3, h4⟩ := h
  exact ⟨⟨q, hq.later hb⟩, h2.later hb, own_later h3 hb, h4.trans (hb.mono h4.size)⟩
theorem RwS.wrote {q : Value} {e : Ending} (h : RwS w bx l s0 L i v W) (hq : Dk w.heap.size W { L with qv := q } (dR l s0 i)) (hO : CodeO w.heap.size W { L with qv := q } (dR l s0 (i + 1)) 0 e w') : e = .returned (.int .i64 0) ∧ RwT w bx l s0 L i v w' := by
  obtain ⟨h1, q4, h2, h3, h4⟩ := hO
  obtain ⟨-, g2, g3, g4⟩ := h
  refine ⟨h1, ⟨q4, h2⟩, h3.blo g2 (hq.apart g2 (by decide) (by decide) (by decide)), h3.own g3 (fun g hg => ?_), g4.trans (h3.below g4.size (fun i _ hi => (hq.has_lt hi).1))⟩
  obtain ⟨_, _, cs, hc⟩ := oblo g3 hg
  exact hq.apart hc (by decide) (by decide) (by decide)
theorem RwT.snoc {v' : Value} (h : RwT w bx l s0 L i v W) (hg : W.grownBy w' v.ownBlock) (ho : w'.ownsRow w.heap.size IT 1 v' (i + 1) (cellsI (whR l s0 i) ++ [.int .i64 ((adR l s0 i : Nat) : Int)])) : RwS w bx l s0 L (i + 1) v' w' := by
  obtain ⟨⟨q, hq⟩, h2, h3, h4⟩ := h
  have hO : Out (fun g => v.ownBlock = some g) W w' := Out.of_grown hg (fun g e => e)
  refine ⟨⟨q, hq.out hO (fun j hj hx => ?_)⟩, hO.blo h2 (fun hx => ?_), ?_, h4.trans (hO.below h4.size (fun j _ hx => (oblo h3 hx).1))⟩
  · obtain ⟨_, _, cs, hc⟩ := oblo h3 hx
    exact hq.apart hc (by decide) (by decide) (by decide) hj
  · exact (h2.row_apart h3 (by decide)) hx.symm
  · rw [whR_succ, ← cellsI_append]; exact ho
set_option maxRecDepth 100000 in
set_option maxHeartbeats 8000000 in
theorem segRows_walk (a : Option Addr) (len cap : Nat) (zs : List Int) (k : Int) (w : World) (hL : Tab w ∧ 0 < w.heap.size) (hr : IsRow .u8 w a len cap zs) (_ : (Lit.int .i64 k).wf = true) :
    Calls Tryd.prog 8 #[.slice a len cap, .int .i64 k] w fun e w' => e = .returned (.bool true) ∧ Below w.heap.size w w' := by
  obtain ⟨l, hll, hY, -, -, -⟩ := hr.bytes
  obtain ⟨kk, hkk, ek⟩ := cut_mod k 5 (by decide)
  simp at ek
  have HT := Lib.hid (show ∀ W, Below w.heap.size w W → Tab W ∧ 0 < W.heap.size from fun W hb => ⟨hL.1.below hb hL.2, by have := hb.size; have := hL.2; omega⟩)
  have HY := Lib.hid (fun W (hb : Below w.heap.size w W) => hY.below hb)
  have HAw := Lib.hid (awake_any w hL.1 hL.2)
  have hns : nsegs 200 32 9 = 6 := by rw [nsegs_good (by unfold GoodG; decide)]; decide
  have HFs := Lib.hid (fun W => first_ok 200 32 9 ((kk : Nat) : Int) W (by omega) (by rw [hns]; omega))
  have es : (3 : Int) + ((kk : Nat) : Int) * 32 = ((3 + 32 * kk : Nat) : Int) := by omega
  rw [es] at HFs
  clear es hns hL hr hY
  go_enter Tryd.func8, Tryd.ntmps8
  go_wp2_with fail
  refine HAw.out.mono ?_
  rintro e w1 ⟨rfl, hb1⟩
  clear HAw
  go_wp2_with fail
  have hb2 := hb1.trans ((sup_pc w1 (.cells #[.int .i64 200, .int .i64 32, .int .i64 9] 70)).mono hb1.size)
  have HB2 := Lib.hid hb2
  have HX2 := Lib.hid (blo_laid w1 70 #[.int .i64 200, .int .i64 32, .int .i64 9])
  clear hb1 hb2
  generalize w1.alloc (.cells #[.int .i64 200, .int .i64 32, .int .i64 9] 70) = w2 at *
  generalize w1.heap.size = bx at *
  refine (new_any 200 w2 (by decide) (by decide)).mono ?_
  rintro e w3 ⟨L, rfl, hD, hb3⟩
  have HD3 := Lib.hid (hD.deeper HB2.out.size)
  have HX3 := Lib.hid (HX2.out.later hb3)
  have HB3 := Lib.hid (HB2.out.trans (hb3.mono HB2.out.size))
  clear hb3 hD HB2 HX2
  have c0 := HX3.out.cell 0
  have c1 := HX3.out.cell 1
  have c2 := HX3.out.cell 2
  simp at c0 c1 c2
  go_wp2_with fail
  rw [ek]
  refine (HFs.out w3).mono ?_
  rintro e w4 ⟨rfl, hb4⟩
  obtain ⟨s0, hs0⟩ : ∃ s0, 3 + 32 * kk = s0 := ⟨_, rfl⟩
  have HS4 : Hid (RwS w bx l s0 L 0 (.slice none 0 0) w4) := ⟨⟨L.qv, HD3.out.later hb4⟩, HX3.out.later hb4, ⟨rfl, .inl ⟨rfl, rfl⟩⟩, HB3.out.trans (hb4.mono HB3.out.size)⟩
  have HI4 : Hid (RwI l kk 0) := RwI.start l kk
  rw [hs0]
  have h0a : adR l s0 0 = s0 := rfl
  clear HFs HD3 HX3 HB3 hb4 c0 c1 c2 ek
  go_wp2_with fail
  go_loopw [8, 10, 11] (fun t v t2 wr => ∃ i : Nat, i ≤ 20 ∧ i ≤ l.length ∧ t = .int .i64 ((adR l s0 i : Nat) : Int) ∧ t2 = .int .i64 ((i : Nat) : Int) ∧ RwI l kk i ∧ RwS w bx l s0 L i v wr) (fun _ _ t2 _ => 20 - (intOf t2).toNat)
  case atStart => exact ⟨0, by omega, by omega, rfl, rfl, HI4.out, HS4.out⟩
  case round =>
    clear HI4 HS4
    obtain ⟨i, hi20, hil, rfl, rfl, hI, hS⟩ := hrel
    have HI := Lib.hid hI
    have HS := Lib.hid hS
    obtain ⟨va, vc, rfl, -⟩ := own_slice hS.row
    have htop := hI.top
    have hlow := hI.low
    rw [hs0] at htop hlow
    have hnn := nnR_bd l i
    clear hI hS
    by_cases hgo : (i < l.length ∧ i < 20) ∧ adR l s0 i + nnR l i + 2 ≤ s0 + 32
    · obtain ⟨⟨h1, h2⟩, h3⟩ := hgo
      obtain ⟨q, hq⟩ : ∃ q : Nat, l.getD i 0 = q := ⟨_, rfl⟩
      obtain ⟨b, o, rfl, hce⟩ : ∃ b o, a = some ⟨b, o, none⟩ ∧ wr.cell? ⟨b, o + i, none⟩ = some (.int .u8 ((q : Nat) : Int)) := by
        obtain ⟨b, o, e1, e2⟩ := (HY.out wr HS.out.below).2.2 (fun e => by rw [e] at h1; simp at h1)
        exact ⟨b, o, e1, by rw [← hq]; exact e2 i h1⟩
      obtain ⟨n, hnq⟩ : ∃ n : Nat, nnR l i = n := ⟨_, rfl⟩
      have hnq2 : q % 6 + 1 = n := by rw [← hnq, ← hq]; rfl
      have en : ((q : Nat) : Int) % 6 + 1 = ((n : Nat) : Int) := by omega
      rw [hnq] at hnn h3
      obtain ⟨A, hA⟩ : ∃ A : Nat, adR l s0 i = A := ⟨_, rfl⟩
      rw [hA] at htop hlow h3
      rw [hA]
      clear HY
      obtain ⟨x, hx⟩ : ∃ x : Nat, (A + n + 2) % 190 = x := ⟨_, rfl⟩
      have ex : (((A : Nat) : Int) + ((n : Nat) : Int) + 2) % 190 = ((x : Nat) : Int) := by omega
      obtain ⟨wo, rfl⟩ : ∃ wo, wo = wr := ⟨_, rfl⟩
      go_upto_region 19 with (fail)
      rw [show decide (((i : Nat) : Int) < 20) = true from decide_eq_true (by omega)]
      have HX6 := Lib.hid (blo_laid wo PT #[.int .i64 1, .int .i64 ((i : Nat) : Int), .int .i64 0, .int .i64 1, .int .i64 ((x : Nat) : Int), .slice none 0 0, .slice none 0 0])
      have HB6 := Lib.hid (sup_pc wo (.cells #[.int .i64 1, .int .i64 ((i : Nat) : Int), .int .i64 0, .int .i64 1, .int .i64 ((x : Nat) : Int), .slice none 0 0, .slice none 0 0] PT))
      clear hce ex en
      generalize wo.alloc (.cells #[.int .i64 1, .int .i64 ((i : Nat) : Int), .int .i64 0, .int .i64 1, .int .i64 ((x : Nat) : Int), .slice none 0 0, .slice none 0 0] PT) = y0 at *
      go_wp2_with fail
      go_loopw [14] (fun t wq => ∃ j : Nat, j ≤ n ∧ t = .int .i64 ((j : Nat) : Int) ∧ ∃ ja jc, Blo wq wo.heap.size PT #[.int .i64 1, .int .i64 ((i : Nat) : Int), .int .i64 0, .int .i64 1, .int .i64 ((x : Nat) : Int), .slice none 0 0, .slice ja j jc] ∧ wq.ownsRow (wo.heap.size + 1) IT 1 (.slice ja j jc) j (cellsI (isR j)) ∧ Below wo.heap.size wo wq) (fun t _ => n - (intOf t).toNat)
      case atStart => exact ⟨0, Nat.zero_le _, rfl, none, 0, HX6.out, ⟨by simp [isR, cellsI], .inl ⟨rfl, rfl⟩⟩, HB6.out⟩
      case round =>
        clear HX6 HB6
        obtain ⟨j, hj, rfl, ia, ic, hX, hO, hB⟩ := hrel
        by_cases hjl : j < n
        · have d6 := hX.cell 6
          simp at d6
          have HX := Lib.hid hX
          have HO := Lib.hid hO
          have HB := Lib.hid hB
          have HV := Lib.hid (isR_succ j)
          have HLw := Lib.hid (sup_pc wr (.cells #[.int .i64 ((j : Int) + 1)] IT))
          have hPw := hX.lt
          clear hX hO hB
          go_wp2_with (at_builtin; (refine wp_append_rowO rfl (.tmp 80) (.tmp 83) 34 rfl (wo.heap.size + 1) IT _ 1 8 Tryd.underlying34 info_it (by kernel_rfl) (by decide) (by decide) (.slice ia j ic) j _ rfl (own_later HO.out HLw.out) (some ⟨wr.heap.size, 0, none⟩) 1 1 [.int .i64 ((j : Int) + 1)] rfl rfl (laid_srcO wr IT _ _ rfl) (by simp [Value.oneCell']) (fun h => by cases h) (by omega) (by have := HX.out.lt; simp; omega) ?_; intro a5 c5 z3 hr3 hg3 _; have HR3 := Lib.hid hr3; have HX3 := Lib.hid ((HX.out.later HLw.out).grown hg3 ((HX.out.later HLw.out).row_apart (own_later HO.out HLw.out) (by decide))); have HB3 := Lib.hid (((HB.out.trans (HLw.out.mono HB.out.size))).grown hg3 (Nat.le_trans HB.out.size HLw.out.size) (fun q e => by have := (oblo (own_later HO.out HLw.out) e).1; omega)); have e6 := HX3.out.cell 6; have g6 := HX3.out.frozen 6; simp at e6; clear hr3 hg3))
          go_roundw
          case rel => exact ⟨j + 1, by omega, by simp, a5, c5, HX3.out.put 6 _, by rw [HV.out, ← cellsI_append]; exact own_far HR3.out (p := ⟨wo.heap.size, 6, none⟩) (HX3.out.row_apart HR3.out (by decide)) _, HB3.out.setCell (p := ⟨wo.heap.size, 6, none⟩) (Nat.le_refl _) _⟩
          case measure => simp [intOf]; omega
        · obtain rfl : n = j := by omega
          have HX := Lib.hid hX
          have HIi := Lib.hid (Ints.own hO)
          have HB := Lib.hid hB
          have HS7 := Lib.hid (HS.out.later hB)
          have d4 := hX.cell 4
          simp at d4
          have hxx : x = A + n + 2 ∨ (x ≤ 5 ∧ 163 ≤ A) := by omega
          have hno : ¬ (((x : Nat) : Int) < ((A : Nat) : Int) ∧ ((x : Nat) : Int) + 2 > 3 + 32 * ((kk : Nat) : Int)) := by omega
          clear hX hO hB HS
          have hst : ((x : Nat) : Int) < ((A : Nat) : Int) → ¬ ((x : Nat) : Int) + 2 > 3 + 32 * ((kk : Nat) : Int) := fun h1 h2 => hno ⟨h1, h2⟩
          obtain ⟨⟨q0, hq0⟩, -, -, -⟩ := HS7.out
          have HN := HI.out.next h2 (by omega) (by rw [hs0, hA, hnq]; exact h3)
          rw [hs0] at HN
          have hmR : mR l s0 i = ⟨1, ((i : Nat) : Int), 0, 1, ((x : Nat) : Int), [], isR n⟩ := by unfold mR; rw [hA, hnq, hx]
          have hlR : lsR l i = lsF (rnd [i]) n := by unfold lsR; rw [hnq]
          have hseg : segW (dR l s0 i) ((A : Nat) : Int) ⟨1, ((i : Nat) : Int), 0, 1, ((x : Nat) : Int), [], isR n⟩ (lsF (rnd [i]) n) = (dR l s0 (i + 1), 0) := by
            rw [← hmR, ← hlR, ← hA]
            exact Prod.ext rfl HN.1
          have HIn := Lib.hid HN.2
          have hAn : ((A : Nat) : Int) + (((n : Nat) : Int) + 2) = ((adR l s0 (i + 1) : Nat) : Int) := by
            show _ = ((adR l s0 i + nnR l i + 2 : Nat) : Int)
            rw [hA, hnq]
            omega
          have HX' := Lib.hid (show Blo wr wo.heap.size PT #[.int .i64 1, .int .i64 ((i : Nat) : Int), .int .i64 0, .int .i64 1, .int .i64 ((x : Nat) : Int), .slice none 0 0, .slice ia n ic] from HX.out)
          have hrm : Rm (dR l s0 i) (n + 6) := by
            have := HI.out.rm
            rw [hs0] at this
            exact this.mono (by omega)
          have hil := isR_len n
          have HWr : Hid (∀ W base ba bc G, Below wr.heap.size wr W → RowB W base (.slice ba n bc) n G (rnd [i]) → Calls Tryd.prog 17 #[.pointer (some ⟨L.bd, 0, none⟩), .int .i64 ((A : Nat) : Int), .agg #[.int .i64 1, .int .i64 ((i : Nat) : Int), .int .i64 0, .int .i64 1, .int .i64 ((x : Nat) : Int), .slice none 0 0, .slice ia n ic], .slice ba n bc] W fun e w' => e = .returned (.int .i64 0) ∧ RwT w bx l s0 L i (.slice va i vc) w' ∧ Blo w' wo.heap.size PT #[.int .i64 1, .int .i64 ((i : Nat) : Int), .int .i64 0, .int .i64 1, .int .i64 ((x : Nat) : Int), .slice none 0 0, .slice ia n ic]) := fun W base ba bc G hb hR => by
            have hS := HS7.out.later hb
            have := write_row (w := W) (n := n) (L := { L with qv := q0 }) ((A : Nat) : Int) ⟨1, ((i : Nat) : Int), 0, 1, ((x : Nat) : Int), [], isR n⟩ none 0 0 ia n ic (Fis.nil _ _) rfl (by simp [szF]) (HIi.out.below hb) hil.symm (by omega) (fun x hx => by cases hx) hR (by omega) (HT.out W hS.below).1 (HT.out W hS.below).2 hrm (hq0.later hb)
            rw [hseg] at this
            refine this.mono fun e w' hO => ⟨(hS.wrote (hq0.later hb) hO).1, (hS.wrote (hq0.later hb) hO).2, ?_⟩
            obtain ⟨_, _, _, h3, _⟩ := hO
            exact h3.blo (HX'.out.later hb) ((hq0.later hb).apart (HX'.out.later hb) (by decide) (by decide) (by decide))
          have HBl : Hid (∀ W, Below wr.heap.size wr W → Bytes W (some ⟨wr.heap.size, 0, none⟩) [i] → Calls Tryd.prog 23 #[.agg #[.int .i64 1, .int .i64 ((i : Nat) : Int), .int .i64 0, .int .i64 1, .int .i64 ((x : Nat) : Int), .slice none 0 0, .slice ia n ic], .slice (some ⟨wr.heap.size, 0, none⟩) 1 1] W (BlkO W n [i])) := fun W hb hY => blocks_any (w := W) 1 ((i : Nat) : Int) 0 1 ((x : Nat) : Int) [] (isR n) none 0 0 ia n ic (Fis.nil _ _) rfl hil.symm (by unfold blks; rw [hil]; simp [blF]; omega) (by omega) _ 1 1 [i] hY rfl (by decide) (fun e => by cases e) (by decide)
          have HK : Hid (∀ W, Blo W wo.heap.size PT #[.int .i64 1, .int .i64 ((i : Nat) : Int), .int .i64 0, .int .i64 1, .int .i64 ((x : Nat) : Int), .slice none 0 0, .slice ia n ic] → (W.cell? ⟨wo.heap.size, 0, none⟩ = some (.int .i64 1) ∧ W.cell? ⟨wo.heap.size, 1, none⟩ = some (.int .i64 ((i : Nat) : Int)) ∧ W.cell? ⟨wo.heap.size, 2, none⟩ = some (.int .i64 0) ∧ W.cell? ⟨wo.heap.size, 3, none⟩ = some (.int .i64 1) ∧ W.cell? ⟨wo.heap.size, 4, none⟩ = some (.int .i64 ((x : Nat) : Int)) ∧ W.cell? ⟨wo.heap.size, 5, none⟩ = some (.slice none 0 0) ∧ W.cell? ⟨wo.heap.size, 6, none⟩ = some (.slice ia n ic))) := fun W hX => ⟨hX.cell 0, hX.cell 1, hX.cell 2, hX.cell 3, hX.cell 4, hX.cell 5, hX.cell 6⟩
          have HKb := Lib.hid (fun W hb => HK.out W (HX'.out.later hb))
          have HK7 := Lib.hid (HKb.out (wr.alloc (.cells #[.int .u8 ((i : Nat) : Int)] U8)).drew ((sup_pc wr _).drew))
          have HK8 := Lib.hid (HKb.out (wr.alloc (.cells #[.int .u8 ((i : Nat) : Int)] U8)) (sup_pc wr _))
          have HY7 : Hid (Bytes (wr.alloc (.cells #[.int .u8 ((i : Nat) : Int)] U8)).drew (some ⟨wr.heap.size, 0, none⟩) [i]) := (bytes_one wr i (by omega)).below ((Below.refl _ _).drew)
          have h8 : IntKind.u8.wrap ((i : Nat) : Int) = ((i : Nat) : Int) := by
            unfold IntKind.wrap
            simp [IntKind.bits, IntKind.signed]
            omega
          clear hseg hmR hlR HN hil hrm q0 hq0 HX HIi HI HB hx hxx
          rcases Classical.em (((x : Nat) : Int) < ((A : Nat) : Int)) with hxA | hxA
          all_goals (try have hs2 := hst hxA)
          all_goals clear hst hno
          all_goals go_upto_region 25 with (fail)
          all_goals go_region_held (fun W => W.cell? ⟨wo.heap.size, 0, none⟩ = some (.int .i64 1) ∧ W.cell? ⟨wo.heap.size, 1, none⟩ = some (.int .i64 ((i : Nat) : Int)) ∧ W.cell? ⟨wo.heap.size, 2, none⟩ = some (.int .i64 0) ∧ W.cell? ⟨wo.heap.size, 3, none⟩ = some (.int .i64 1) ∧ W.cell? ⟨wo.heap.size, 4, none⟩ = some (.int .i64 ((x : Nat) : Int)) ∧ W.cell? ⟨wo.heap.size, 5, none⟩ = some (.slice none 0 0) ∧ W.cell? ⟨wo.heap.size, 6, none⟩ = some (.slice ia n ic))
            (first | exact HKb.out _ ((Below.refl _ _).drew) | exact HK7.out | exact HK8.out | exact HK.out _ HX3.out | exact HK.out _ HX4.out | fail)
            (first
              | (go_at_call 23; (with_reducible refine (HBl.out _ (by repeat (first | exact Below.refl _ _ | apply Below.drew | refine Below.alloc ?_ (by simp <;> omega) _)) HY7.out).mono ?_); rintro e w3 ⟨ba, bc, G, rfl, hR3, hb3⟩; have HR3 := Lib.hid hR3; have HB3 := Lib.hid (show Below wr.heap.size wr w3 from Below.trans (by repeat (first | exact Below.refl _ _ | apply Below.drew | refine Below.alloc ?_ (by simp <;> omega) _)) (hb3.mono (by simp <;> omega))); have HX3 := Lib.hid (HX'.out.later HB3.out); clear hR3 hb3)
              | (go_at_call 17; (with_reducible refine (HWr.out _ _ _ _ _ HB3.out HR3.out).mono ?_); rintro e w4 ⟨rfl, hT4, hX4⟩; have HT4 := Lib.hid hT4; have HX4 := Lib.hid hX4; clear hT4 hX4)
              | fail)
          all_goals rename_i hHeld
          all_goals clear hHeld HK HKb HK7 HK8 HBl HWr HR3 HB3 HX3 HX4 HY7 HX' HS7 HT
          all_goals have HL4 := Lib.hid (sup_pc w4 (.cells #[.int .i64 ((A : Nat) : Int)] IT))
          all_goals have HOw := Lib.hid (own_later HT4.out.row HL4.out)
          all_goals have hbz : w.heap.size ≤ (w4.alloc (.cells #[.int .i64 ((A : Nat) : Int)] IT)).heap.size := Nat.le_trans HT4.out.below.size HL4.out.size
          all_goals have ho1 : ∀ u ∈ [Value.int .i64 ((A : Nat) : Int)], u.oneCell' = true := by simp [Value.oneCell']
          all_goals have HSn : Hid (∀ a6 c6 w6, w6.ownsRow w.heap.size IT 1 (.slice a6 (i + 1) c6) (i + 1) (cellsI (whR l s0 i) ++ [.int .i64 ((A : Nat) : Int)]) → (w4.alloc (.cells #[.int .i64 ((A : Nat) : Int)] IT)).grownBy w6 (Value.slice va i vc).ownBlock → RwS w bx l s0 L (i + 1) (.slice a6 (i + 1) c6) w6) := fun a6 c6 w6 h1 h2 => (HT4.out.later HL4.out).snoc h2 (by rw [hA]; exact h1)
          all_goals go_wp2_with (at_builtin; (refine wp_append_rowO rfl (.tmp 110) (.tmp 112) 34 rfl w.heap.size IT _ 1 8 Tryd.underlying34 info_it (by kernel_rfl) (by decide) (by decide) (.slice va i vc) i _ rfl HOw.out (some ⟨w4.heap.size, 0, none⟩) 1 1 [.int .i64 ((A : Nat) : Int)] rfl rfl (laid_srcO w4 IT _ _ rfl) ho1 (fun h => by cases h) (by omega) hbz ?_; intro a6 c6 w6 hown hgrow _; have HS6 := Lib.hid (HSn.out a6 c6 w6 hown hgrow); clear hown hgrow))
          all_goals refine ⟨⟨i + 1, by omega, by omega, rfl, by simp, HIn.out, HS6.out⟩, ?_⟩
          all_goals simp [intOf]
          all_goals omega
    · have HW : Hid (∀ W, Below wr.heap.size wr W → Calls Tryd.prog 33 #[.pointer (some ⟨L.bd, 0, none⟩), .agg #[.int .i64 200, .int .i64 32, .int .i64 9], .int .i64 ((kk : Nat) : Int)] W (WalkO W i (adR l s0) (mR l s0))) := fun W hb => by
        have hp := HI.out.pcs hi20 (by omega)
        rw [hs0] at hp
        obtain ⟨⟨q, hq⟩, -, -, hbe⟩ := HS.out.later hb
        exact walk_any (L := { L with qv := q }) 200 32 9 ((kk : Nat) : Int) _ _ _ (by omega) hp hq (HT.out W hbe).1 (HT.out W hbe).2
      have c0 := HS.out.box.cell 0
      have c1 := HS.out.box.cell 1
      have c2 := HS.out.box.cell 2
      simp at c0 c1 c2
      have hcs : ¬ i < l.length ∨ (i < l.length ∧ ¬ i < 20) ∨ (i < l.length ∧ i < 20 ∧ ∃ q : Nat, l.getD i 0 = q ∧ ¬ adR l s0 i + q % 6 + 3 ≤ s0 + 32 ∧ ∃ b o, a = some ⟨b, o, none⟩ ∧ wr.cell? ⟨b, o + i, none⟩ = some (.int .u8 ((q : Nat) : Int))) := by
        by_cases h1 : i < l.length
        · by_cases h2 : i < 20
          · refine .inr (.inr ⟨h1, h2, _, rfl, fun hc => hgo ⟨⟨h1, h2⟩, by unfold nnR; omega⟩, ?_⟩)
            obtain ⟨b, o, e1, e2⟩ := (HY.out wr HS.out.below).2.2 (fun e => by rw [e] at h1; simp at h1)
            exact ⟨b, o, e1, e2 i h1⟩
          · exact .inr (.inl ⟨h1, h2⟩)
        · exact .inl h1
      clear HY hgo hnn hil
      rcases hcs with hc | ⟨h1, h2⟩ | ⟨h1, h2, q, hq, h3, b, o, rfl, hce⟩
      all_goals go_wp2_with fail
      all_goals refine (HW.out wr (Below.refl _ _)).mono ?_
      all_goals rintro e w5 ⟨a5, c5, rfl, hF5, hb5⟩
      all_goals have HB5 := Lib.hid (HS.out.below.trans (hb5.mono HS.out.below.size))
      all_goals have HA : Hid (∀ j, j < i → ∃ b2 o2, va = some ⟨b2, o2, none⟩ ∧ w5.cell? ⟨b2, o2 + j, none⟩ = some (.int .i64 ((adR l s0 j : Nat) : Int))) := fun j hj => Rds.own (own_later HS.out.row hb5) j _ (by simp [cellsI, whR, hj])
      all_goals have HFd : Hid (∀ j, j < i → ∃ b3 o3, a5 = some ⟨b3, o3, none⟩ ∧ w5.cell? ⟨b3, o3 + j * 9, none⟩ = some (.int .i64 ((adR l s0 j : Nat) : Int)) ∧ w5.cell? ⟨b3, o3 + (j * 9 + 2), none⟩ = some (.int .i64 ((j : Nat) : Int))) := hF5.reads
      all_goals clear hF5 hb5 HW HS HI HT c0 c1 c2
      all_goals go_wp2_with fail
      all_goals go_loopw [129] (fun t wx => ∃ j : Nat, j ≤ i ∧ t = .int .i64 ((j : Nat) : Int) ∧ Below w5.heap.size w5 wx) (fun t _ => 20 - (intOf t).toNat)
      all_goals (try exact ⟨0, Nat.zero_le _, rfl, Below.refl _ _⟩)
      all_goals obtain ⟨j, hj, rfl, hbx⟩ := hrel
      all_goals have HBx := Lib.hid hbx
      all_goals clear hbx
      all_goals by_cases hjl : j < i
      all_goals first
        | (have hjl2 : j < i := hjl; obtain ⟨b2, o2, rfl, f1⟩ := HA.out j hjl; obtain ⟨b3, o3, rfl, f2, f3⟩ := HFd.out j hjl; have h1x := cell_later HBx.out f1; have h2x := cell_later HBx.out f2; have h3x := cell_later HBx.out f3; have h3y := h3x; rw [show o3 + (j * 9 + 2) = o3 + j * 9 + 1 + 1 by omega] at h3y; have h3z := h3x; rw [show o3 + (j * 9 + 2) = o3 + j * 9 + 2 by omega] at h3z; clear f1 f2 f3; have q1 : (((adR l s0 j : Nat) : Int) != ((adR l s0 j : Nat) : Int)) = false := by simp
           have q2 : (((j : Nat) : Int) != ((j : Nat) : Int)) = false := by simp
           have i1 : (0 : Int) ≤ (j : Int) := by omega
           have i2 : (j : Int) < (i : Int) := by omega
           go_wp2_with fail
           go_quiet (fail)
           go_wp2_with fail
           go_roundw
           case rel => exact ⟨j + 1, by omega, by simp, rws_drewN HBx.out _⟩
           case measure => simp [intOf]; omega)
        | (have hjl2 : ¬ j < i := hjl; go_wp2_with fail; exact bodyPost_ret (results_tmp rfl _ _ _) rfl ⟨rfl, HB5.out.trans (HBx.out.mono HB5.out.size)⟩)
end
end Go.Proofs.YtlkgaefabahkoaaDoor
