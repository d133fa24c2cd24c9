/-
  A call of the script: Fits, Do.
-/
import Derived.Test.YtcjojcihjhhpgaaPk13
import Derived.Test.YtcjojcihjhhpgaaPk21
import Derived.Test.YtcjojcihjhhpgaaPk22
namespace Go.Proofs.Ytcjojcihjhhpgaa
open Go.RowKit

theorem Lx.rename {w0 w : World} {cnt bt : Nat} {T T' : Tr} {N : Nat → Prop} {s old : ByteArray} {z : Int} (h : Lx w0 w cnt T bt N) (hc : cnt < 1000000) (hr : renameK T old s = (T', z)) : Calls Try.prog 18 #[.pointer (some ⟨bt, 0, none⟩), .string old, .string s] w (LxE w0 w cnt T' bt N z) := by
  obtain ⟨p, rfl, hm, hx⟩ := h.m
  have hk := rename_keep h.t old s
  have hC := rename_any hm h.t hc old s
  rw [hr] at hk hC
  refine hC.mono ?_
  rintro e w' ⟨rfl, p', hg⟩
  exact ⟨rfl, h.go hx rfl hg hk⟩
theorem Lx.mono {w0 w : World} {cnt cnt' bt : Nat} {T : Tr} {N : Nat → Prop} (h : Lx w0 w cnt T bt N) (hc : cnt ≤ cnt') : Lx w0 w cnt' T bt N := by
  obtain ⟨p, hp, hm, hx⟩ := h.m
  exact ⟨h.b, h.t, h.n, p, hp, hm.mono hc, hx⟩
def fitB (x : OpQ) : Bool := decide (x.path.size ≤ 300) && decide (x.old.size ≤ 300) && decide (x.b.length ≤ 4200)
def eK (R : Tr × Int) : Tr × Int × Int := (R.1, 0, R.2)
noncomputable def doK (T : Tr) (x : OpQ) : Tr × Int × Int :=
  if x.k = 1 then createK T x.path else if x.k = 2 then mkdirK T x.path else if x.k = 3 then eK (linkK T x.old x.path) else if x.k = 4 then eK (unlinkK T x.path) else if x.k = 5 then eK (rmdirK T x.path) else
  if x.k = 6 then eK (renameK T x.old x.path) else if x.k = 7 then eK (writeK T x.path x.pos x.b) else if x.k = 8 then eK (truncK T x.path x.pos) else (T, 0, 0)
set_option maxRecDepth 100000 in
theorem fits_any {ba : Option Addr} {bn bc : Nat} {x : OpQ} (hb : bn = x.b.length) (w : World) : Calls Try.prog 12 #[.agg (opQ ba bn bc x)] w fun e w' => e = .returned (.bool (fitB x)) ∧ Below w.heap.size w w' := by
  obtain ⟨w1, hw1⟩ : ∃ w1, w.alloc (.cells (opQ ba bn bc x) OPT) = w1 := ⟨_, rfl⟩
  have hx1 : Blo w1 w.heap.size OPT (opQ ba bn bc x) := by rw [← hw1]; exact blo_laid w _ _
  have HB1 : Hid (Below w.heap.size w w1) := by rw [← hw1]; exact sup_pct w _
  have c1 : w1.cell? ⟨w.heap.size, 1, none⟩ = some (.string x.path) := hx1.cell 1
  have c2 : w1.cell? ⟨w.heap.size, 2, none⟩ = some (.string x.old) := hx1.cell 2
  have c4 : w1.cell? ⟨w.heap.size, 4, none⟩ = some (.slice ba bn bc) := hx1.cell 4
  have HE : Hid (fitB x = (decide (x.path.size ≤ 300) && decide (x.old.size ≤ 300) && decide (bn ≤ 4200))) := by rw [hb]; rfl
  clear hx1 hb
  by_cases h1 : x.path.size ≤ 300
  · rw [decide_eq_true h1] at HE
    have h1' : (x.path.size : Int) ≤ 300 := by omega
    by_cases h2 : x.old.size ≤ 300
    · rw [decide_eq_true h2] at HE
      have h2' : (x.old.size : Int) ≤ 300 := by omega
      by_cases h3 : bn ≤ 4200
      · rw [decide_eq_true h3] at HE
        have h3' : (bn : Int) ≤ 4200 := by omega
        clear h1 h2 h3
        go_enter Try.func12, Try.ntmps12
        go_wp2_with fail
        go_ret
        rw [HE.out]
        exact ⟨rfl, HB1.out⟩
      · rw [decide_eq_false h3] at HE
        have h3' : ¬ (bn : Int) ≤ 4200 := by omega
        clear h1 h2 h3
        go_enter Try.func12, Try.ntmps12
        go_wp2_with fail
        go_ret
        rw [HE.out]
        exact ⟨rfl, HB1.out⟩
    · rw [decide_eq_false h2] at HE
      have h2' : ¬ (x.old.size : Int) ≤ 300 := by omega
      clear h1 h2
      go_enter Try.func12, Try.ntmps12
      go_wp2_with fail
      go_ret
      rw [HE.out]
      exact ⟨rfl, HB1.out⟩
  · rw [decide_eq_false h1] at HE
    have h1' : ¬ (x.path.size : Int) ≤ 300 := by omega
    clear h1
    go_enter Try.func12, Try.ntmps12
    go_wp2_with fail
    go_ret
    rw [HE.out]
    exact ⟨rfl, HB1.out⟩
/-! Do -/
abbrev TPT := 24
theorem fm_Create (a : Addr) (w : World) : (method 268 TPT (.pointer (some a)) "Create").run Try.prog w = .ok (19, .pointer (some a)) w := by
  kernel_rfl
theorem fm_Mkdir (a : Addr) (w : World) : (method 268 TPT (.pointer (some a)) "Mkdir").run Try.prog w = .ok (28, .pointer (some a)) w := by
  kernel_rfl
theorem fm_Link (a : Addr) (w : World) : (method 268 TPT (.pointer (some a)) "Link").run Try.prog w = .ok (23, .pointer (some a)) w := by
  kernel_rfl
theorem fm_Unlink (a : Addr) (w : World) : (method 268 TPT (.pointer (some a)) "Unlink").run Try.prog w = .ok (24, .pointer (some a)) w := by
  kernel_rfl
theorem fm_Rmdir (a : Addr) (w : World) : (method 268 TPT (.pointer (some a)) "Rmdir").run Try.prog w = .ok (29, .pointer (some a)) w := by
  kernel_rfl
theorem fm_Rename (a : Addr) (w : World) : (method 268 TPT (.pointer (some a)) "Rename").run Try.prog w = .ok (18, .pointer (some a)) w := by
  kernel_rfl
theorem fm_Write (a : Addr) (w : World) : (method 268 TPT (.pointer (some a)) "Write").run Try.prog w = .ok (21, .pointer (some a)) w := by
  kernel_rfl
theorem fm_Truncate (a : Addr) (w : World) : (method 268 TPT (.pointer (some a)) "Truncate").run Try.prog w = .ok (20, .pointer (some a)) w := by
  kernel_rfl
def DoO (w0 w : World) (cnt : Nat) (T : Tr) (bt : Nat) (N : Nat → Prop) (x : OpQ) (e : Ending) (w' : World) : Prop := LxO w0 w cnt (doK T x).1 bt N (doK T x).2.1 (doK T x).2.2 e w'
section
variable {w0 w : World} {cnt bt : Nat} {T : Tr} {N : Nat → Prop} {ba : Option Addr} {bn bc : Nat}
set_option maxRecDepth 100000 in
set_option maxHeartbeats 1000000 in
theorem do_1 (h : Lx w0 w cnt T bt N) (hc : cnt < 1000000) (path old : ByteArray) (pos : Int) (b : List Nat) :
    Calls Try.prog 13 #[.iface TPT (.pointer (some ⟨bt, 0, none⟩)), .agg (opQ ba bn bc ⟨1, path, old, pos, b⟩)] w (DoO w0 w cnt T bt N ⟨1, path, old, pos, b⟩) := by
  obtain ⟨w1, hw1⟩ : ∃ w1, w.alloc (.cells (opQ ba bn bc ⟨1, path, old, pos, b⟩) OPT) = w1 := ⟨_, rfl⟩
  have hx1 : Blo w1 w.heap.size OPT (opQ ba bn bc ⟨1, path, old, pos, b⟩) := by rw [← hw1]; exact blo_laid w _ _
  have hb1 : Below w.heap.size w w1 := by rw [← hw1]; exact sup_pct w _
  have d0 : w1.cell? ⟨w.heap.size, 0, none⟩ = some (.int .i64 1) := hx1.cell 0
  have d1 : w1.cell? ⟨w.heap.size, 1, none⟩ = some (.string path) := hx1.cell 1
  have HE : Hid (doK T ⟨1, path, old, pos, b⟩ = createK T path) := rfl
  generalize hR : createK T path = R at HE
  obtain ⟨T', a, z⟩ := R
  have HC := Lib.hid ((h.quiet hb1).create hc hR)
  have HO : Hid (Out (XN w0 N) w w1) := Out.of_below hb1
  have fm := fun W => fm_Create ⟨bt, 0, none⟩ W
  clear h hx1 hb1 hR
  go_enter Try.func13, Try.ntmps13
  go_wp2_with fail
  refine HC.out.mono ?_
  rintro e w2 ⟨rfl, hx2, ho2⟩
  have HX2 := Lib.hid (And.intro hx2 (HO.out.trans ho2 (fun _ _ q => q)))
  clear hx2 ho2 d0 d1
  go_wp2_with fail
  go_ret2
  unfold DoO
  rw [HE.out]
  exact ⟨rfl, HX2.out⟩
set_option maxRecDepth 100000 in
set_option maxHeartbeats 1000000 in
theorem do_2 (h : Lx w0 w cnt T bt N) (hc : cnt < 1000000) (path old : ByteArray) (pos : Int) (b : List Nat) :
    Calls Try.prog 13 #[.iface TPT (.pointer (some ⟨bt, 0, none⟩)), .agg (opQ ba bn bc ⟨2, path, old, pos, b⟩)] w (DoO w0 w cnt T bt N ⟨2, path, old, pos, b⟩) := by
  obtain ⟨w1, hw1⟩ : ∃ w1, w.alloc (.cells (opQ ba bn bc ⟨2, path, old, pos, b⟩) OPT) = w1 := ⟨_, rfl⟩
  have hx1 : Blo w1 w.heap.size OPT (opQ ba bn bc ⟨2, path, old, pos, b⟩) := by rw [← hw1]; exact blo_laid w _ _
  have hb1 : Below w.heap.size w w1 := by rw [← hw1]; exact sup_pct w _
  have d0 : w1.cell? ⟨w.heap.size, 0, none⟩ = some (.int .i64 2) := hx1.cell 0
  have d1 : w1.cell? ⟨w.heap.size, 1, none⟩ = some (.string path) := hx1.cell 1
  have HE : Hid (doK T ⟨2, path, old, pos, b⟩ = mkdirK T path) := rfl
  generalize hR : mkdirK T path = R at HE
  obtain ⟨T', a, z⟩ := R
  have HC := Lib.hid ((h.quiet hb1).mkdir hc hR)
  have HO : Hid (Out (XN w0 N) w w1) := Out.of_below hb1
  have fm := fun W => fm_Mkdir ⟨bt, 0, none⟩ W
  clear h hx1 hb1 hR
  go_enter Try.func13, Try.ntmps13
  go_wp2_with fail
  refine HC.out.mono ?_
  rintro e w2 ⟨rfl, hx2, ho2⟩
  have HX2 := Lib.hid (And.intro hx2 (HO.out.trans ho2 (fun _ _ q => q)))
  clear hx2 ho2 d0 d1
  go_wp2_with fail
  go_ret2
  unfold DoO
  rw [HE.out]
  exact ⟨rfl, HX2.out⟩
set_option maxRecDepth 100000 in
set_option maxHeartbeats 1000000 in
theorem do_3 (h : Lx w0 w cnt T bt N) (hc : cnt < 1000000) (path old : ByteArray) (pos : Int) (b : List Nat) :
    Calls Try.prog 13 #[.iface TPT (.pointer (some ⟨bt, 0, none⟩)), .agg (opQ ba bn bc ⟨3, path, old, pos, b⟩)] w (DoO w0 w cnt T bt N ⟨3, path, old, pos, b⟩) := by
  obtain ⟨w1, hw1⟩ : ∃ w1, w.alloc (.cells (opQ ba bn bc ⟨3, path, old, pos, b⟩) OPT) = w1 := ⟨_, rfl⟩
  have hx1 : Blo w1 w.heap.size OPT (opQ ba bn bc ⟨3, path, old, pos, b⟩) := by rw [← hw1]; exact blo_laid w _ _
  have hb1 : Below w.heap.size w w1 := by rw [← hw1]; exact sup_pct w _
  have d0 : w1.cell? ⟨w.heap.size, 0, none⟩ = some (.int .i64 3) := hx1.cell 0
  have d1 : w1.cell? ⟨w.heap.size, 1, none⟩ = some (.string path) := hx1.cell 1
  have d2 : w1.cell? ⟨w.heap.size, 2, none⟩ = some (.string old) := hx1.cell 2
  have HE : Hid (doK T ⟨3, path, old, pos, b⟩ = eK (linkK T old path)) := rfl
  generalize hR : linkK T old path = R at HE
  obtain ⟨T', z⟩ := R
  have HC := Lib.hid ((h.quiet hb1).link hc hR)
  have HO : Hid (Out (XN w0 N) w w1) := Out.of_below hb1
  have fm := fun W => fm_Link ⟨bt, 0, none⟩ W
  clear h hx1 hb1 hR
  go_enter Try.func13, Try.ntmps13
  go_wp2_with fail
  refine HC.out.mono ?_
  rintro e w2 ⟨rfl, hx2, ho2⟩
  have HX2 := Lib.hid (And.intro hx2 (HO.out.trans ho2 (fun _ _ q => q)))
  clear hx2 ho2 d0 d1 d2
  go_wp2_with fail
  go_ret2
  unfold DoO
  rw [HE.out]
  exact ⟨rfl, HX2.out⟩
set_option maxRecDepth 100000 in
set_option maxHeartbeats 1000000 in
theorem do_4 (h : Lx w0 w cnt T bt N) (hc : cnt < 1000000) (path old : ByteArray) (pos : Int) (b : List Nat) :
    Calls Try.prog 13 #[.iface TPT (.pointer (some ⟨bt, 0, none⟩)), .agg (opQ ba bn bc ⟨4, path, old, pos, b⟩)] w (DoO w0 w cnt T bt N ⟨4, path, old, pos, b⟩) := by
  obtain ⟨w1, hw1⟩ : ∃ w1, w.alloc (.cells (opQ ba bn bc ⟨4, path, old, pos, b⟩) OPT) = w1 := ⟨_, rfl⟩
  have hx1 : Blo w1 w.heap.size OPT (opQ ba bn bc ⟨4, path, old, pos, b⟩) := by rw [← hw1]; exact blo_laid w _ _
  have hb1 : Below w.heap.size w w1 := by rw [← hw1]; exact sup_pct w _
  have d0 : w1.cell? ⟨w.heap.size, 0, none⟩ = some (.int .i64 4) := hx1.cell 0
  have d1 : w1.cell? ⟨w.heap.size, 1, none⟩ = some (.string path) := hx1.cell 1
  have HE : Hid (doK T ⟨4, path, old, pos, b⟩ = eK (unlinkK T path)) := rfl
  generalize hR : unlinkK T path = R at HE
  obtain ⟨T', z⟩ := R
  have HC := Lib.hid ((h.quiet hb1).unlink hR)
  have HO : Hid (Out (XN w0 N) w w1) := Out.of_below hb1
  have fm := fun W => fm_Unlink ⟨bt, 0, none⟩ W
  clear h hx1 hb1 hR
  go_enter Try.func13, Try.ntmps13
  go_wp2_with fail
  refine HC.out.mono ?_
  rintro e w2 ⟨rfl, hx2, ho2⟩
  have HX2 := Lib.hid (And.intro hx2 (HO.out.trans ho2 (fun _ _ q => q)))
  clear hx2 ho2 d0 d1
  go_wp2_with fail
  go_ret2
  unfold DoO
  rw [HE.out]
  exact ⟨rfl, HX2.out⟩
set_option maxRecDepth 100000 in
set_option maxHeartbeats 1000000 in
theorem do_5 (h : Lx w0 w cnt T bt N) (hc : cnt < 1000000) (path old : ByteArray) (pos : Int) (b : List Nat) :
    Calls Try.prog 13 #[.iface TPT (.pointer (some ⟨bt, 0, none⟩)), .agg (opQ ba bn bc ⟨5, path, old, pos, b⟩)] w (DoO w0 w cnt T bt N ⟨5, path, old, pos, b⟩) := by
  obtain ⟨w1, hw1⟩ : ∃ w1, w.alloc (.cells (opQ ba bn bc ⟨5, path, old, pos, b⟩) OPT) = w1 := ⟨_, rfl⟩
  have hx1 : Blo w1 w.heap.size OPT (opQ ba bn bc ⟨5, path, old, pos, b⟩) := by rw [← hw1]; exact blo_laid w _ _
  have hb1 : Below w.heap.size w w1 := by rw [← hw1]; exact sup_pct w _
  have d0 : w1.cell? ⟨w.heap.size, 0, none⟩ = some (.int .i64 5) := hx1.cell 0
  have d1 : w1.cell? ⟨w.heap.size, 1, none⟩ = some (.string path) := hx1.cell 1
  have HE : Hid (doK T ⟨5, path, old, pos, b⟩ = eK (rmdirK T path)) := rfl
  generalize hR : rmdirK T path = R at HE
  obtain ⟨T', z⟩ := R
  have HC := Lib.hid ((h.quiet hb1).rmdir hR)
  have HO : Hid (Out (XN w0 N) w w1) := Out.of_below hb1
  have fm := fun W => fm_Rmdir ⟨bt, 0, none⟩ W
  clear h hx1 hb1 hR
  go_enter Try.func13, Try.ntmps13
  go_wp2_with fail
  refine HC.out.mono ?_
  rintro e w2 ⟨rfl, hx2, ho2⟩
  have HX2 := Lib.hid (And.intro hx2 (HO.out.trans ho2 (fun _ _ q => q)))
  clear hx2 ho2 d0 d1
  go_wp2_with fail
  go_ret2
  unfold DoO
  rw [HE.out]
  exact ⟨rfl, HX2.out⟩
set_option maxRecDepth 100000 in
set_option maxHeartbeats 1000000 in
theorem do_6 (h : Lx w0 w cnt T bt N) (hc : cnt < 1000000) (path old : ByteArray) (pos : Int) (b : List Nat) :
    Calls Try.prog 13 #[.iface TPT (.pointer (some ⟨bt, 0, none⟩)), .agg (opQ ba bn bc ⟨6, path, old, pos, b⟩)] w (DoO w0 w cnt T bt N ⟨6, path, old, pos, b⟩) := by
  obtain ⟨w1, hw1⟩ : ∃ w1, w.alloc (.cells (opQ ba bn bc ⟨6, path, old, pos, b⟩) OPT) = w1 := ⟨_, rfl⟩
  have hx1 : Blo w1 w.heap.size OPT (opQ ba bn bc ⟨6, path, old, pos, b⟩) := by rw [← hw1]; exact blo_laid w _ _
  have hb1 : Below w.heap.size w w1 := by rw [← hw1]; exact sup_pct w _
  have d0 : w1.cell? ⟨w.heap.size, 0, none⟩ = some (.int .i64 6) := hx1.cell 0
  have d1 : w1.cell? ⟨w.heap.size, 1, none⟩ = some (.string path) := hx1.cell 1
  have d2 : w1.cell? ⟨w.heap.size, 2, none⟩ = some (.string old) := hx1.cell 2
  have HE : Hid (doK T ⟨6, path, old, pos, b⟩ = eK (renameK T old path)) := rfl
  generalize hR : renameK T old path = R at HE
  obtain ⟨T', z⟩ := R
  have HC := Lib.hid ((h.quiet hb1).rename hc hR)
  have HO : Hid (Out (XN w0 N) w w1) := Out.of_below hb1
  have fm := fun W => fm_Rename ⟨bt, 0, none⟩ W
  clear h hx1 hb1 hR
  go_enter Try.func13, Try.ntmps13
  go_wp2_with fail
  refine HC.out.mono ?_
  rintro e w2 ⟨rfl, hx2, ho2⟩
  have HX2 := Lib.hid (And.intro hx2 (HO.out.trans ho2 (fun _ _ q => q)))
  clear hx2 ho2 d0 d1 d2
  go_wp2_with fail
  go_ret2
  unfold DoO
  rw [HE.out]
  exact ⟨rfl, HX2.out⟩
set_option maxRecDepth 100000 in
set_option maxHeartbeats 1000000 in
theorem do_8 (h : Lx w0 w cnt T bt N) (hc : cnt < 1000000) (path old : ByteArray) (pos : Int) (b : List Nat) :
    Calls Try.prog 13 #[.iface TPT (.pointer (some ⟨bt, 0, none⟩)), .agg (opQ ba bn bc ⟨8, path, old, pos, b⟩)] w (DoO w0 w cnt T bt N ⟨8, path, old, pos, b⟩) := by
  obtain ⟨w1, hw1⟩ : ∃ w1, w.alloc (.cells (opQ ba bn bc ⟨8, path, old, pos, b⟩) OPT) = w1 := ⟨_, rfl⟩
  have hx1 : Blo w1 w.heap.size OPT (opQ ba bn bc ⟨8, path, old, pos, b⟩) := by rw [← hw1]; exact blo_laid w _ _
  have hb1 : Below w.heap.size w w1 := by rw [← hw1]; exact sup_pct w _
  have d0 : w1.cell? ⟨w.heap.size, 0, none⟩ = some (.int .i64 8) := hx1.cell 0
  have d1 : w1.cell? ⟨w.heap.size, 1, none⟩ = some (.string path) := hx1.cell 1
  have d3 : w1.cell? ⟨w.heap.size, 3, none⟩ = some (.int .i64 pos) := hx1.cell 3
  have HE : Hid (doK T ⟨8, path, old, pos, b⟩ = eK (truncK T path pos)) := rfl
  generalize hR : truncK T path pos = R at HE
  obtain ⟨T', z⟩ := R
  have HC := Lib.hid ((h.quiet hb1).trunc hR)
  have HO : Hid (Out (XN w0 N) w w1) := Out.of_below hb1
  have fm := fun W => fm_Truncate ⟨bt, 0, none⟩ W
  clear h hx1 hb1 hR
  go_enter Try.func13, Try.ntmps13
  go_wp2_with fail
  refine HC.out.mono ?_
  rintro e w2 ⟨rfl, hx2, ho2⟩
  have HX2 := Lib.hid (And.intro hx2 (HO.out.trans ho2 (fun _ _ q => q)))
  clear hx2 ho2 d0 d1 d3
  go_wp2_with fail
  go_ret2
  unfold DoO
  rw [HE.out]
  exact ⟨rfl, HX2.out⟩
set_option maxRecDepth 100000 in
set_option maxHeartbeats 1000000 in
theorem do_no (h : Lx w0 w cnt T bt N) (x : OpQ) (h1 : x.k ≠ 1) (h2 : x.k ≠ 2) (h3 : x.k ≠ 3) (h4 : x.k ≠ 4) (h5 : x.k ≠ 5) (h6 : x.k ≠ 6) (h7 : x.k ≠ 7) (h8 : x.k ≠ 8) :
    Calls Try.prog 13 #[.iface TPT (.pointer (some ⟨bt, 0, none⟩)), .agg (opQ ba bn bc x)] w (DoO w0 w cnt T bt N x) := by
  have HE : Hid (doK T x = (T, 0, 0)) := by
    show _ = _
    unfold doK
    rw [if_neg h1, if_neg h2, if_neg h3, if_neg h4, if_neg h5, if_neg h6, if_neg h7, if_neg h8]
  obtain ⟨k, path, old, pos, b⟩ := x
  obtain ⟨w1, hw1⟩ : ∃ w1, w.alloc (.cells (opQ ba bn bc ⟨k, path, old, pos, b⟩) OPT) = w1 := ⟨_, rfl⟩
  have hx1 : Blo w1 w.heap.size OPT (opQ ba bn bc ⟨k, path, old, pos, b⟩) := by rw [← hw1]; exact blo_laid w _ _
  have hb1 : Below w.heap.size w w1 := by rw [← hw1]; exact sup_pct w _
  have d0 : w1.cell? ⟨w.heap.size, 0, none⟩ = some (.int .i64 k) := hx1.cell 0
  have HX := Lib.hid (And.intro ((h.quiet hb1).mono (Nat.le_succ cnt)) (show Out (XN w0 N) w w1 from Out.of_below hb1))
  have e1 : (k == 1) = false := beq_eq_false_iff_ne.2 h1
  have e2 : (k == 2) = false := beq_eq_false_iff_ne.2 h2
  have e3 : (k == 3) = false := beq_eq_false_iff_ne.2 h3
  have e4 : (k == 4) = false := beq_eq_false_iff_ne.2 h4
  have e5 : (k == 5) = false := beq_eq_false_iff_ne.2 h5
  have e6 : (k == 6) = false := beq_eq_false_iff_ne.2 h6
  have e7 : (k == 7) = false := beq_eq_false_iff_ne.2 h7
  have e8 : (k == 8) = false := beq_eq_false_iff_ne.2 h8
  clear h hx1 hb1 h1 h2 h3 h4 h5 h6 h7 h8
  go_enter Try.func13, Try.ntmps13
  go_wp2_with fail
  go_ret2
  unfold DoO
  rw [HE.out]
  exact ⟨rfl, HX.out⟩
end
end Go.Proofs.Ytcjojcihjhhpgaa
