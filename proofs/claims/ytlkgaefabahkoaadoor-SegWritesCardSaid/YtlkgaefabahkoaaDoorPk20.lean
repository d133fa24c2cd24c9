/-
  SgDWa · SgDRd · OwnAny: these texts in one.
-/
import Derived.Test.YtlkgaefabahkoaaDoorPk19
import Derived.Test.YtlkgaefabahkoaaDoorPk04
import Derived.Deep.Onto
/-
  Partial segments, the document's side: Write, whatever it is asked.
-/
namespace Go.Proofs.YtlkgaefabahkoaaDoor
open Go.RowKit

section
variable {w w' W : World} {d : Dm} {sa qa : Option Addr} {sc qc : Nat}
theorem mwrite_any (addr : Int) (m : Sm) (fa : Option Addr) (fn fc : Nat) (ia : Option Addr) (inn ic : Nat) (hF : Fis w fa m.fs) (hfn : fn = m.fs.length) (hs : szF m.fs ≤ 1000000) (hI : Ints w ia m.is) (hin : inn = m.is.length) (hi : inn ≤ 1000000) (hlb : ∀ x ∈ m.fs, ∀ n ∈ x.lb, -9223372036854775808 ≤ n ∧ n ≤ 9223372036854775807)
    (a : Option Addr) (n cap : Nat) (ls : List (List Nat)) (hn : n = ls.length) (hn2 : n ≤ 10000) (hR : Rds w a (cellsS (nthL ls) n)) (hby : ∀ l ∈ ls, ∀ x ∈ l, x < 256) (hrd : Rd d (n + 6)) (hm : Mr w sa qa sc qc d) :
    Calls Tryd.prog 18 #[.agg (agR sa qa sc qc d), .int .i64 addr, part m.e m.c m.i m.p m.x fa fn fc ia inn ic, .slice a n cap] w (MrO w (segW d addr m ls).1 (segW d addr m ls).2) := by
  by_cases hck : chkM m = 0
  · by_cases hwb : wrB d.n addr m.x m.fs m.is ls = true
    · exact mwrite_yes addr m fa fn fc ia inn ic hF hfn hs hI hin hi hlb a n cap ls hn hn2 hR hby hrd hm hck hwb
    · exact mwrite_bad addr m fa fn fc ia inn ic hF hfn hs hI hin hi hlb a n cap ls hn hn2 hR hby hrd hm (fun _ => wrB_no hwb)
  · exact mwrite_bad addr m fa fn fc ia inn ic hF hfn hs hI hin hi hlb a n cap ls hn hn2 hR hby hrd hm (fun h => absurd h hck)
end
end Go.Proofs.YtlkgaefabahkoaaDoor
/-
  Partial segments, the document's side: room behind a Write.
-/
namespace Go.Proofs.YtlkgaefabahkoaaDoor
open Go.RowKit

theorem Rd.sure {d : Dm} {k : Nat} (ls : List (List Nat)) (a : Int) (h : Rd d (ls.length + (k + 1))) (hb : ∀ l ∈ ls, ∀ x ∈ l, x < 256) : Rd (sureD d a ls).1 k := by
  have h1 := Rd.puts ls (k := k + 1) a h hb
  unfold sureD
  split
  · exact h1.barr
  · exact h1.mono (by omega)
theorem zero_two : ∀ l ∈ [zeroB, zeroB], ∀ x ∈ l, x < 256 := fun l hl => by
  rcases List.mem_cons.1 hl with rfl | hl
  · exact zeroB_byte
  · rcases List.mem_cons.1 hl with rfl | hl
    · exact zeroB_byte
    · cases hl
theorem head_two (m : Sm) (ls : List (List Nat)) : ∀ l ∈ [(headM m ls).take 64, (headM m ls).drop 64], ∀ x ∈ l, x < 256 := fun l hl x hx => by
  rcases List.mem_cons.1 hl with rfl | hl
  · exact encM_lt m _ x (List.mem_of_mem_take hx)
  · rcases List.mem_cons.1 hl with rfl | hl
    · exact encM_lt m _ x (List.mem_of_mem_drop hx)
    · cases hl
theorem Rd.seg {d : Dm} {addr : Int} {m : Sm} {ls : List (List Nat)} {k : Nat} (h : Rd d (ls.length + (k + 6))) (hb : ∀ l ∈ ls, ∀ x ∈ l, x < 256) : Rd (segW d addr m ls).1 k := by
  have h1 : Rd (putsD d (addr + 2) ls).1 (k + 6) := Rd.puts ls (addr + 2) h hb
  have h2 : Rd (cleanD (putsD d (addr + 2) ls).1 m.x).1 (k + 3) := Rd.sure [zeroB, zeroB] m.x (h1.mono (by simp; omega)) zero_two
  unfold segW
  split
  · exact h.mono (by omega)
  · split
    · exact h.mono (by omega)
    · split
      · exact h1.mono (by omega)
      · split
        · exact h2.mono (by omega)
        · exact Rd.sure _ addr (h2.mono (by simp; omega)) (head_two m ls)
theorem rd_new (n k : Nat) (h1 : 1 ≤ n) (h2 : n ≤ 4096) (h : k ≤ 100000) : Rd (newD n) k :=
  ⟨⟨⟨h1, h2⟩, fun p hp => (by cases hp), ⟨Int.le_refl 0, by show (0 : Int) ≤ _; omega⟩, ⟨by show (-1 : Int) ≤ 0; omega, by show (0 : Int) ≤ _; omega⟩⟩, Int.le_refl 0, by show (0 : Int) + k ≤ 1000000; omega, by show 0 + k ≤ 100000; omega⟩
end Go.Proofs.YtlkgaefabahkoaaDoor
/-
  marllaw06.Own copies a summary.
-/
namespace Go.Proofs.YtlkgaefabahkoaaDoor
open Go.RowKit

def boxP (x0 x1 x2 x3 x4 : Int) (fa : Option Addr) (fn fc : Nat) (u : Value) : Obj := .cells #[.int .i64 x0, .int .i64 x1, .int .i64 x2, .int .i64 x3, .int .i64 x4, .slice fa fn fc, u] PTY
structure OwR (w : World) (x0 x1 x2 x3 x4 : Int) (fa : Option Addr) (fn fc : Nat) (u : Value) (is : List Int) (fs : List Fi) (k : Nat) (v : Value) (wr : World) : Prop where
  top : Blo wr w.heap.size PTY #[.int .i64 x0, .int .i64 x1, .int .i64 x2, .int .i64 x3, .int .i64 x4, .slice fa fn fc, u]
  res : Blo wr (w.heap.size + 1) PTY #[.int .i64 0, .int .i64 0, .int .i64 0, .int .i64 0, .int .i64 0, .slice none 0 0, .slice none 0 0]
  ino : wr.ownsRow w.heap.size IT 1 u is.length (cellsI is)
  fo : ∃ av, Fo wr w.heap.size v av fs k
  below : Below w.heap.size w wr
theorem OwR.later {w : World} {x0 x1 x2 x3 x4 : Int} {fa : Option Addr} {fn fc : Nat} {u : Value} {is : List Int} {fs : List Fi} {k : Nat} {v : Value} {wr w' : World} (h : OwR w x0 x1 x2 x3 x4 fa fn fc u is fs k v wr) (hb : Below wr.heap.size wr w') : OwR w x0 x1 x2 x3 x4 fa fn fc u is fs k v w' := by
  obtain ⟨av, hf⟩ := h.fo
  exact ⟨h.top.later hb, h.res.later hb, own_later h.ino hb, ⟨av, hf.later hb⟩, h.below.trans (hb.mono h.below.size)⟩
theorem OwR.form {w : World} {x0 x1 x2 x3 x4 : Int} {fa : Option Addr} {fn fc : Nat} {u : Value} {is : List Int} {fs : List Fi} {k : Nat} {v : Value} {wr : World} (h : OwR w x0 x1 x2 x3 x4 fa fn fc u is fs k v wr) : ∃ ga gc, v = .slice ga k gc := by
  obtain ⟨av, hf⟩ := h.fo
  obtain ⟨ga, gc, e, -⟩ := own_slice hf.row
  exact ⟨ga, gc, e⟩
theorem OwR.next {w : World} {x0 x1 x2 x3 x4 : Int} {fa : Option Addr} {fn fc : Nat} {u : Value} {is : List Int} {fs : List Fi} {k : Nat} {v v' : Value} {wr w' : World} (h : OwR w x0 x1 x2 x3 x4 fa fn fc u is fs k v wr) (hg : wr.grownBy w' v.ownBlock) (hF : ∃ av', Fo w' w.heap.size v' av' fs (k + 1)) : OwR w x0 x1 x2 x3 x4 fa fn fc u is fs (k + 1) v' w' := by
  obtain ⟨av, f⟩ := h.fo
  refine ⟨h.top.grown hg (h.top.row_apart f.row (by decide)), h.res.grown hg (h.res.row_apart f.row (by decide)), ?_, hF, h.below.grown hg h.below.size (fun q e => (oblo f.row e).1)⟩
  exact (Out.of_grown (X := fun g => v.ownBlock = some g) hg (fun g e => e)).own h.ino (fun q e1 e2 => by
    obtain ⟨-, -, c1, hb1⟩ := oblo h.ino e1
    obtain ⟨-, -, c2, hb2⟩ := oblo f.row e2
    have h3 := hb1.symm.trans hb2
    cases h3)
theorem fi_one (a b : Int) (v : Value) (hv : v.oneCell' = true) : ∀ u ∈ [Value.int .i64 a, .int .i64 b, v], u.oneCell' = true := fun u hu => by
  rcases List.mem_cons.1 hu with e | hu
  · rw [e]; rfl
  · rcases List.mem_cons.1 hu with e | hu
    · rw [e]; rfl
    · rw [List.mem_singleton.1 hu]; exact hv
section
variable {w : World} {fs : List Fi} {is : List Int} (x0 x1 x2 x3 x4 : Int) (fa : Option Addr) (fn fc : Nat) (ia : Option Addr) (inn ic : Nat)
set_option maxRecDepth 100000 in
set_option maxHeartbeats 8000000 in
theorem own_new (hF : Fis w fa fs) (hI : Ints w ia is) (hn : fn = fs.length) (hin : inn = is.length) (hfn : fn ≤ 300000) (hi3 : inn ≤ 300000) (hfl : ∀ x ∈ fs, x.lb.length ≤ 300000) (hN1 : FisN w fa fs) (hN2 : ia = none → inn = 0 ∧ ic = 0) :
    Calls Tryd.prog 37 #[part x0 x1 x2 x3 x4 fa fn fc ia inn ic] w fun e w' => ∃ fb fd ib id, e = .returned (part x0 x1 x2 x3 x4 fb fn fd ib inn id) ∧ (∃ av, Fo w' w.heap.size (.slice fb fn fd) av fs fn) ∧ w'.ownsRow w.heap.size IT 1 (.slice ib inn id) inn (cellsI is) ∧ Below w.heap.size w w' := by
  have HF := Lib.hid hF
  have HI := Lib.hid hI
  have HN := Lib.hid hn
  have HIn := Lib.hid hin
  have HFl := Lib.hid hfl
  have HN1 := Lib.hid hN1
  have HN2 := Lib.hid hN2
  clear hF hI hn hin hfl hN1 hN2
  go_enter Tryd.func37, Tryd.ntmps37
  go_upto_region 1 with (fail)
  obtain ⟨wa, hwa⟩ : ∃ wa, w.alloc (.cells #[.int .i64 x0, .int .i64 x1, .int .i64 x2, .int .i64 x3, .int .i64 x4, .slice fa fn fc, .slice ia inn ic] PTY) = wa := ⟨_, rfl⟩
  have hba : Below w.heap.size w wa := hwa ▸ sup_pc _ _
  have hta : Blo wa w.heap.size PTY #[.int .i64 x0, .int .i64 x1, .int .i64 x2, .int .i64 x3, .int .i64 x4, .slice fa fn fc, .slice ia inn ic] := hwa ▸ blo_laid w PTY _
  have hsa : wa.heap.size = w.heap.size + 1 := by rw [← hwa]; simp
  obtain ⟨w1, hw1⟩ : ∃ w1, wa.alloc (.cells #[.int .i64 0, .int .i64 0, .int .i64 0, .int .i64 0, .int .i64 0, .slice none 0 0, .slice none 0 0] PTY) = w1 := ⟨_, rfl⟩
  have hb1 : Below wa.heap.size wa w1 := hw1 ▸ sup_pc _ _
  have hr1 : Blo w1 wa.heap.size PTY #[.int .i64 0, .int .i64 0, .int .i64 0, .int .i64 0, .int .i64 0, .slice none 0 0, .slice none 0 0] := hw1 ▸ blo_laid wa PTY _
  rw [hsa] at hr1
  have T1 := Lib.hid (hta.later hb1)
  have R1 := Lib.hid hr1
  have B1 := Lib.hid (hba.trans (hb1.mono hba.size))
  rw [hwa, hw1]
  clear hwa hw1 hba hta hsa hb1 hr1
  have t6 := (T1.out.later (sup_pc w1 (.cells #[] IT))).cell 6
  simp at t6
  have HO1 : Hid ((w1.alloc (.cells #[] IT)).ownsRow w.heap.size IT 1 (.slice (some ⟨w1.heap.size, 0, none⟩) 0 0) 0 []) := World.ownsRow_lit w1 #[] 0 B1.out.size (by decide) rfl
  have HI1 := Lib.hid ((HI.out.below B1.out).below (sup_pc w1 (.cells #[] IT)))
  have hz1 : w.heap.size ≤ (w1.alloc (.cells #[] IT)).heap.size := Nat.le_trans B1.out.size (sup_pc w1 (.cells #[] IT)).size
  go_upto_region 3 with (at_builtin; refine wp_append_rowO rfl (.tmp 6) (.tmp 8) 34 rfl w.heap.size IT _ 1 8 Tryd.underlying34 info_it (by kernel_rfl) (by decide) (by decide) (.slice (some ⟨w1.heap.size, 0, none⟩) 0 0) 0 [] rfl HO1.out ia inn ic (cellsI is) rfl (by simp [cellsI, HIn.out]) (ints_src HI1.out) (ints_one _) HN2.out (by omega) hz1 ?_; intro a' cap' w2 hown hgrow hat; have hb2 : Below w1.heap.size w1 w2 := (sup_pc w1 (.cells #[] IT)).grown hgrow (sup_pc w1 (.cells #[] IT)).size (fun q e => by cases e; exact Nat.le_refl _); have T2 := Lib.hid (T1.out.later hb2); have R2 := Lib.hid (R1.out.later hb2); have B2 := Lib.hid (B1.out.trans (hb2.mono B1.out.size)); have U2 := Lib.hid (show w2.ownsRow w.heap.size IT 1 (.slice a' inn cap') inn (cellsI is) from by simpa using hown); have y6 := T2.out.cell 6; have f6 := T2.out.frozen 6; simp at y6; clear hown hgrow hat hb2 T1 R1 B1 HO1 HI1 hz1 t6)
  have HW2 : Hid (OwR w x0 x1 x2 x3 x4 fa fn fc (.slice a' inn cap') is fs 0 (.slice none 0 0) (w2.setCell ⟨w.heap.size, 6, none⟩ (.slice a' inn cap'))) := ⟨by
      have := T2.out.put 6 (.slice a' inn cap')
      simpa using this, by
      have := R2.out
      exact (Below.heap_setCell w2 _ _ _ (by show w.heap.size + 1 ≠ w.heap.size; omega)).trans this, by
      have h3 : w2.ownsRow w.heap.size IT 1 (.slice a' inn cap') is.length (cellsI is) := HIn.out ▸ U2.out
      exact own_far h3 (T2.out.row_apart h3 (by decide)) _, ⟨_, fo_nil _ _ _⟩, B2.out.setCell (p := ⟨w.heap.size, 6, none⟩) (Nat.le_refl _) _⟩
  clear y6 f6 T2 R2 B2 U2
  generalize w2.setCell ⟨w.heap.size, 6, none⟩ (.slice a' inn cap') = w3 at *
  have t5 := HW2.out.top.cell 5
  simp at t5
  go_wp2_with fail
  clear t5
  go_loopw [3, 5, 14] (fun v _ t wr => ∃ k : Nat, k ≤ fn ∧ t = .int .i64 k ∧ OwR w x0 x1 x2 x3 x4 fa fn fc (.slice a' inn cap') is fs k v wr) (fun _ _ t _ => fn - (intOf t).toNat)
  case atStart => exact ⟨0, Nat.zero_le _, rfl, HW2.out⟩
  case round =>
    clear HW2
    obtain ⟨k, hk, rfl, hR⟩ := hrel
    obtain ⟨ga, gc, rfl⟩ := hR.form
    by_cases hlt : k < fn
    · have hkl : k < fs.length := by rw [← HN.out]; exact hlt
      obtain ⟨b, o, c, cp, rfl, q1, q2, q3, q4⟩ := HF.out.at hkl
      have hmem : fs.getD k fi0 ∈ fs := by rw [List.getD_eq_getElem?_getD, List.getElem?_eq_getElem hkl]; exact List.getElem_mem _
      have hl9 := HFl.out _ hmem
      have hno : c = none → (fs.getD k fi0).lb.length = 0 ∧ cp = 0 := fun e => by
        subst e
        exact HN1.out b o k _ _ hkl rfl q3
      have q1 := cell_later hR.below q1
      have q2 := cell_later hR.below q2
      have q3 := cell_later hR.below q3
      have q4 := q4.below hR.below
      obtain ⟨x, hx⟩ : ∃ x, fs.getD k fi0 = x := ⟨_, rfl⟩
      rw [hx] at q1 q2 q3 q4 hl9 hno
      obtain ⟨m, hm⟩ : ∃ m, x.lb.length = m := ⟨_, rfl⟩
      rw [hm] at q3 hl9 hno
      have HX := Lib.hid hx
      have HM := Lib.hid hm
      have HNo := Lib.hid hno
      obtain ⟨xi, hxi⟩ : ∃ xi, x.ino = xi := ⟨_, rfl⟩
      obtain ⟨xv, hxv⟩ : ∃ xv, x.ver = xv := ⟨_, rfl⟩
      obtain ⟨xl, hxl⟩ : ∃ xl, x.lb = xl := ⟨_, rfl⟩
      rw [hxi] at q1
      rw [hxv] at q2
      rw [hxl] at q4 hm
      have HXe : Hid (fs.getD k fi0 = ⟨xi, xv, xl⟩) := by
        show _ = _
        rw [hx, ← hxi, ← hxv, ← hxl]
      have hb2 := sup_pc wr (.cells #[.int .i64 xi, .int .i64 xv, .slice c m cp] FN)
      have HB2 := Lib.hid hb2
      have T2 := Lib.hid (blo_laid wr FN #[.int .i64 xi, .int .i64 xv, .slice c m cp])
      have S2 : Hid ((wr.alloc (.cells #[.int .i64 xi, .int .i64 xv, .slice c m cp] FN)).heap.size = wr.heap.size + 1) := by show _ = _; simp
      have HQ4 := Lib.hid (q4.below hb2)
      have HR := Lib.hid hR
      have HMl := Lib.hid hm
      have k0 : (0 : Int) ≤ (k : Int) := by omega
      have k1 : (k : Int) < (fn : Int) := by omega
      clear hkl hmem q4 hno hx hxi hxv hxl hb2 hR hm HM HX
      go_upto_region 6 with (fail)
      clear q1 q2 q3
      generalize wr.alloc (.cells #[.int .i64 xi, .int .i64 xv, .slice c m cp] FN) = w4 at *
      have t2 := (T2.out.later (sup_pc w4 (.cells #[] IT))).cell 2
      simp at t2
      have HO4 : Hid ((w4.alloc (.cells #[] IT)).ownsRow w.heap.size IT 1 (.slice (some ⟨w4.heap.size, 0, none⟩) 0 0) 0 []) := World.ownsRow_lit w4 #[] 0 (Nat.le_trans HR.out.below.size HB2.out.size) (by decide) rfl
      have HI4 := Lib.hid (HQ4.out.below (sup_pc w4 (.cells #[] IT)))
      have hz4 : w.heap.size ≤ (w4.alloc (.cells #[] IT)).heap.size := Nat.le_trans (Nat.le_trans HR.out.below.size HB2.out.size) (sup_pc w4 (.cells #[] IT)).size
      go_upto_region 7 with (at_builtin; refine wp_append_rowO rfl (.tmp 18) (.tmp 20) 34 rfl w.heap.size IT _ 1 8 Tryd.underlying34 info_it (by kernel_rfl) (by decide) (by decide) (.slice (some ⟨w4.heap.size, 0, none⟩) 0 0) 0 [] rfl HO4.out c m cp (cellsI xl) rfl (by simp [cellsI, HMl.out]) (ints_src HI4.out) (ints_one _) HNo.out (by omega) hz4 ?_; intro a2 cap2 w5 hown hgrow hat; have hb5 : Below w4.heap.size w4 w5 := (sup_pc w4 (.cells #[] IT)).grown hgrow (sup_pc w4 (.cells #[] IT)).size (fun q e => by cases e; exact Nat.le_refl _); have T5 := Lib.hid (T2.out.later hb5); have B5 := Lib.hid (HB2.out.trans (hb5.mono HB2.out.size)); have U5 := Lib.hid (show w5.ownsRow w.heap.size IT 1 (.slice a2 m cap2) m (cellsI xl) from by simpa using hown); have y2 := T5.out.cell 2; have f2 := T5.out.frozen 2; simp at y2; clear hown hgrow hat hb5 T2 HB2 HO4 HI4 HQ4 hz4 t2 S2)
      have h8 : Blo (w5.setCell ⟨wr.heap.size, 2, none⟩ (.slice a2 m cap2)) wr.heap.size FN #[.int .i64 xi, .int .i64 xv, .slice a2 m cap2] := by
        have := T5.out.put 2 (.slice a2 m cap2)
        simpa using this
      have T8 := Lib.hid h8
      clear h8
      have U8 := Lib.hid (own_far U5.out (T5.out.row_apart U5.out (by decide)) (p := ⟨wr.heap.size, 2, none⟩) (.slice a2 m cap2))
      have R8 := Lib.hid (HR.out.later (B5.out.setCell (p := ⟨wr.heap.size, 2, none⟩) (Nat.le_refl _) (.slice a2 m cap2)))
      clear y2 f2 T5 U5 B5 HR
      generalize w5.setCell ⟨wr.heap.size, 2, none⟩ (.slice a2 m cap2) = w8 at *
      have y0 := T8.out.cell 0
      have y1 := T8.out.cell 1
      have y2 := T8.out.cell 2
      simp at y0 y1 y2
      have hb9 := sup_pc w8 (.cells #[.int .i64 xi, .int .i64 xv, .slice a2 m cap2] FN)
      have R9 := Lib.hid (R8.out.later hb9)
      have U9 := Lib.hid (own_later U8.out hb9)
      obtain ⟨av, hF9⟩ := R9.out.fo
      have F9 := Lib.hid hF9
      have hz9 := R9.out.below.size
      clear hb9 hF9 R8 U8 T8
      go_wp2_with (at_builtin; refine wp_append_rowO rfl (.tmp 23) (.tmp 25) 33 rfl w.heap.size FN _ 3 40 Tryd.underlying33 info_fn (by kernel_rfl) (by decide) (by decide) (.slice ga k gc) k _ rfl F9.out.row (some ⟨w8.heap.size, 0, none⟩) 1 1 [.int .i64 xi, .int .i64 xv, .slice a2 m cap2] rfl rfl (laid_srcO w8 FN _ _ rfl) (fi_one _ _ _ rfl) (fun h => by cases h) (by omega) hz9 ?_; intro a3 cap3 w10 hown hgrow hat; have HW := Lib.hid (R9.out.next hgrow ⟨_, F9.out.next (by rw [HXe.out]; exact hown) hgrow (by rw [HXe.out, show (⟨xi, xv, xl⟩ : Fi).lb.length = m from HMl.out]; exact U9.out)⟩); clear hown hgrow hat R9 U9 F9 hz9 y0 y1 y2)
      go_roundw
      case rel => exact ⟨k + 1, by omega, by simp, HW.out⟩
      case measure => simp [intOf]; omega
    · have hkn : k = fn := by omega
      subst hkn
      have HR := Lib.hid hR
      have z5 := hR.top.cell 5
      have g5 := hR.top.frozen 5
      simp at z5
      have k1 : ¬ (k : Int) < (k : Int) := by omega
      clear hR
      go_upto_region 10 with (fail)
      clear z5 g5
      have h11 : Blo (wr.setCell ⟨w.heap.size, 5, none⟩ (.slice ga k gc)) w.heap.size PTY #[.int .i64 x0, .int .i64 x1, .int .i64 x2, .int .i64 x3, .int .i64 x4, .slice ga k gc, .slice a' inn cap'] := by
        have := HR.out.top.put 5 (.slice ga k gc)
        simpa using this
      have r11 : Blo (wr.setCell ⟨w.heap.size, 5, none⟩ (.slice ga k gc)) (w.heap.size + 1) PTY #[.int .i64 0, .int .i64 0, .int .i64 0, .int .i64 0, .int .i64 0, .slice none 0 0, .slice none 0 0] := (Below.heap_setCell wr _ _ _ (by show w.heap.size + 1 ≠ w.heap.size; omega)).trans HR.out.res
      have B11 := Lib.hid (HR.out.below.setCell (p := ⟨w.heap.size, 5, none⟩) (Nat.le_refl _) (.slice ga k gc))
      have F11 : Hid (∃ av, Fo (wr.setCell ⟨w.heap.size, 5, none⟩ (.slice ga k gc)) w.heap.size (.slice ga k gc) av fs k) := by
        obtain ⟨av, hf⟩ := HR.out.fo
        exact ⟨av, own_far hf.row (HR.out.top.row_apart hf.row (by decide)) _, fun i hi => own_far (hf.its i hi) (HR.out.top.row_apart (hf.its i hi) (by decide)) _⟩
      have I11 : Hid ((wr.setCell ⟨w.heap.size, 5, none⟩ (.slice ga k gc)).ownsRow w.heap.size IT 1 (.slice a' inn cap') inn (cellsI is)) := by
        have h3 := own_far HR.out.ino (HR.out.top.row_apart HR.out.ino (by decide)) (p := ⟨w.heap.size, 5, none⟩) (.slice ga k gc)
        rw [← HIn.out] at h3
        exact h3
      generalize wr.setCell ⟨w.heap.size, 5, none⟩ (.slice ga k gc) = w11 at *
      have H11 := Lib.hid h11
      have y0 := h11.cell 0
      have y1 := h11.cell 1
      have y2 := h11.cell 2
      have y3 := h11.cell 3
      have y4 := h11.cell 4
      have y5 := h11.cell 5
      have y6 := h11.cell 6
      have R11 := Lib.hid r11
      have z0 := r11.cell 0
      have z1 := r11.cell 1
      have z2 := r11.cell 2
      have z3 := r11.cell 3
      have z4 := r11.cell 4
      have z5 := r11.cell 5
      have z6 := r11.cell 6
      have f0 := r11.frozen 0
      have f1 := r11.frozen 1
      have f2 := r11.frozen 2
      have f3 := r11.frozen 3
      have f4 := r11.frozen 4
      have f5 := r11.frozen 5
      have f6 := r11.frozen 6
      simp at y0 y1 y2 y3 y4 y5 y6 z0 z1 z2 z3 z4 z5 z6
      clear HR h11 r11
      go_wp2
      clear y0 y1 y2 y3 y4 y5 y6 z0 z1 z2 z3 z4 z5 z6 f0 f1 f2 f3 f4 f5 f6
      obtain ⟨w12, hw12⟩ : ∃ w12, ((((((w11.setCell ⟨w.heap.size + 1, 0, none⟩ (.int .i64 x0)).setCell ⟨w.heap.size + 1, 1, none⟩ (.int .i64 x1)).setCell ⟨w.heap.size + 1, 2, none⟩ (.int .i64 x2)).setCell ⟨w.heap.size + 1, 3, none⟩ (.int .i64 x3)).setCell ⟨w.heap.size + 1, 4, none⟩ (.int .i64 x4)).setCell ⟨w.heap.size + 1, 5, none⟩ (.slice ga k gc)).setCell ⟨w.heap.size + 1, 6, none⟩ (.slice a' inn cap') = w12 := ⟨_, rfl⟩
      rw [hw12]
      have hr12 : Blo w12 (w.heap.size + 1) PTY #[.int .i64 x0, .int .i64 x1, .int .i64 x2, .int .i64 x3, .int .i64 x4, .slice ga k gc, .slice a' inn cap'] := by
        rw [← hw12]
        have := ((((((R11.out.put 0 (.int .i64 x0)).put 1 (.int .i64 x1)).put 2 (.int .i64 x2)).put 3 (.int .i64 x3)).put 4 (.int .i64 x4)).put 5 (.slice ga k gc)).put 6 (.slice a' inn cap')
        simpa using this
      have hO12 : Out (fun q => q = w.heap.size + 1) w11 w12 := by
        rw [← hw12]
        have P := fun (W : World) (i : Nat) (u : Value) => out_put (X := fun q => q = w.heap.size + 1) W ⟨w.heap.size + 1, i, none⟩ u rfl
        exact ((((((P _ 0 _).trans (P _ 1 _) (fun _ _ h => h)).trans (P _ 2 _) (fun _ _ h => h)).trans (P _ 3 _) (fun _ _ h => h)).trans (P _ 4 _) (fun _ _ h => h)).trans (P _ 5 _) (fun _ _ h => h)).trans (P _ 6 _) (fun _ _ h => h)
      have hB12 : Below w.heap.size w w12 := by
        rw [← hw12]
        have l1 : w.heap.size ≤ w.heap.size + 1 := Nat.le_succ _
        exact ((((((B11.out.setCell (p := ⟨w.heap.size + 1, 0, none⟩) l1 _).setCell (p := ⟨w.heap.size + 1, 1, none⟩) l1 _).setCell (p := ⟨w.heap.size + 1, 2, none⟩) l1 _).setCell (p := ⟨w.heap.size + 1, 3, none⟩) l1 _).setCell (p := ⟨w.heap.size + 1, 4, none⟩) l1 _).setCell (p := ⟨w.heap.size + 1, 5, none⟩) l1 _).setCell (p := ⟨w.heap.size + 1, 6, none⟩) l1 _
      have apart : ∀ {e : TypeId} {size n : Nat} {v : Value} {xs : List Value}, e ≠ PTY → w11.ownsRow w.heap.size e size v n xs → w12.ownsRow w.heap.size e size v n xs := fun hne h => hO12.own h (fun q e1 e2 => R11.out.row_apart h hne (by rw [e1, e2]))
      obtain ⟨av, hf⟩ := F11.out
      have hf2 : Fo w12 w.heap.size (.slice ga k gc) av fs k := ⟨apart (by decide) hf.row, fun i hi => apart (by decide) (hf.its i hi)⟩
      refine bodyPost_ret (v := part x0 x1 x2 x3 x4 ga k gc a' inn cap') ?_ rfl ⟨ga, gc, a', cap', rfl, ⟨av, hf2⟩, apart (by decide) I11.out, hB12⟩
      exact results_cell_row (p := 2) (ty := PTY) rfl _ w12 (w.heap.size + 1) PTY _ (0, 0) _ (by simp) hr12 Tryd.underlying36 rfl (by kernel_rfl)
theorem own_any (hF : Fis w fa fs) (hI : Ints w ia is) (hn : fn = fs.length) (hin : inn = is.length) (hfn : fn ≤ 300000) (hi3 : inn ≤ 300000) (hfl : ∀ x ∈ fs, x.lb.length ≤ 300000) (hN1 : FisN w fa fs) (hN2 : ia = none → inn = 0 ∧ ic = 0) :
    Calls Tryd.prog 37 #[part x0 x1 x2 x3 x4 fa fn fc ia inn ic] w fun e w' => ∃ fb fd ib id, e = .returned (part x0 x1 x2 x3 x4 fb fn fd ib inn id) ∧ Fis w' fb fs ∧ Ints w' ib is ∧ Below w.heap.size w w' :=
  (own_new x0 x1 x2 x3 x4 fa fn fc ia inn ic hF hI hn hin hfn hi3 hfl hN1 hN2).mono fun e w' h => by
    obtain ⟨fb, fd, ib, id, he, ⟨av, hf⟩, hi, hb⟩ := h
    exact ⟨fb, fd, ib, id, he, hf.fis hn, Ints.own hi, hb⟩
end
end Go.Proofs.YtlkgaefabahkoaaDoor
