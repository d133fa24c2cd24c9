/-
  SwChunk · SwWords · SwEncM · EqB: these texts in one.
-/
import Derived.RangeFuncNested
import Derived.RangeFuncBound
import Derived.RangeFuncCalls
import Derived.RangeFuncLeaves
import Derived.Shelf.Abstract
import Derived.Shelf.RegionOpen
import Derived.WalkKit
import Derived.OwnWalkIn
import Derived.TacticsInMore
import Derived.LoopNIn
import Derived.LoopIn
import Derived.Test.YtlkgaefabahkoaaDoorPk02
import Derived.Test.YtlkgaefabahkoaaDoorPk00
import Derived.Test.YtlkgaefabahkoaaDoorRows
/-
  slices.Chunk over a slice of bytes that is so many whole chunks long: its closure's contract as an iterator.
-/
namespace Go.Proofs.YtlkgaefabahkoaaDoor
open Go.RowKit

attribute [local go_sem] Oper.semAt_some

/-- Two blocks of cells stay: what the iterator reads between two rounds. -/
def Kc (B : Nat) (W W' : World) : Prop := W'.heap[B]? = W.heap[B]? ∧ W'.heap[B + 1]? = W.heap[B + 1]?
theorem Kc.trans {B : Nat} {x y z : World} (h : Kc B x y) (k : Kc B y z) : Kc B x z := ⟨k.1.trans h.1, k.2.trans h.2⟩
theorem Kc.refl (B : Nat) (w : World) : Kc B w w := ⟨rfl, rfl⟩
theorem Kc.put {B s : Nat} (hs : B + 1 < s) (W : World) (l : Nat) (o o' : Obj) (h1 : s ≤ l) (_ : W.heap[l]? = some o) (_ : o.isCells = false) (_ : o.isWalk = false) : Kc B W (W.putObj l o') :=
  ⟨World.putObj_heap_other (by omega), World.putObj_heap_other (by omega)⟩
theorem chunk_any (a : Option Addr) (len cap : Nat) (L : Nat) (hL : 0 < L) (w : World) :
    Calls Tryd.prog 80 #[.slice a len cap, .int .i64 L] w fun e w' => e = .returned (.func (.func 98) #[] #[.pointer (some ⟨w.heap.size, 0, none⟩), .pointer (some ⟨w.heap.size + 1, 0, none⟩)]) ∧ w' = (w.alloc (.cells #[.slice a len cap] 49)).alloc (.cells #[.int .i64 L] 3) := by
  go_enter Tryd.func80, Tryd.ntmps80
  go_wp2
  go_ret
  exact ⟨rfl, rfl⟩
theorem size_u8c (w : World) : (Go.sizeOf U8).run Tryd.prog w = .ok 1 w := by kernel_rfl
theorem chunk_from (b o n cap lo : Nat) (hlo : lo < n) (hn : n ≤ cap) (hc : n ≤ 1000000) (W : World) :
    (Instr.slice 49 (.slice (some ⟨b, o, none⟩) n cap) (some (.int .i64 (lo : Int))) none none).run Tryd.prog W = .ok (.slice (some ⟨b, o + lo, none⟩) (n - lo) (cap - lo)) W := by
  have ht' : Tryd.prog.underlying 49 = some (.slice (Tryd.prog.elem 49)) := by simp [Program.elem, Tryd.underlying49]
  have he : Tryd.prog.elem 49 = 5 := by simp [Program.elem, Tryd.underlying49]
  have e2 : ¬ cap = lo := by omega
  rw [run_slice_l W 49 _ _ _ ht' .i64 _ (by omega) (by omega), he, size_u8c]
  simp [Result.andThen, sliced, Addr.add_lit, e2]
theorem chunk_cut (b o n cap lo hi : Nat) (hlo : lo < hi) (hhi : hi ≤ n) (hn : n ≤ cap) (hc : n ≤ 1000000) (W : World) :
    (Instr.slice 49 (.slice (some ⟨b, o, none⟩) n cap) (some (.int .i64 (lo : Int))) (some (.int .i64 (hi : Int))) (some (.int .i64 (hi : Int)))).run Tryd.prog W = .ok (.slice (some ⟨b, o + lo, none⟩) (hi - lo) (hi - lo)) W := by
  have ht' : Tryd.prog.underlying 49 = some (.slice (Tryd.prog.elem 49)) := by simp [Program.elem, Tryd.underlying49]
  have he : Tryd.prog.elem 49 = 5 := by simp [Program.elem, Tryd.underlying49]
  have e2 : ¬ hi = lo := by omega
  have e3 : ¬ hi - lo = 0 := by omega
  rw [run_slice_lhm W 49 _ _ _ ht' .i64 .i64 .i64 _ _ _ (by omega) (by omega) (by omega) (by omega), he, size_u8c]
  simp [Result.andThen, sliced, Addr.add_lit, e3]
  omega
set_option maxRecDepth 100000 in
set_option maxHeartbeats 4000000 in
theorem chunk1_in (F : Fence) (n : Nat) (hF : F.fn 98) (hro : F.round = none) (hn : 1 ≤ n) (l Bs b off L N len cap : Nat) (hlen : len = L * N) (hL : 0 < L) (hcap : len ≤ cap) (hl9 : len ≤ 1000000) (J Jx : List Nat → World → Prop) (hJd : ∀ pre W, J pre W → J pre W.drew)
    (hY : ∀ pre x W, J pre W → pre.length < N → x < N → YieldAt F (n - 1) Tryd.prog l #[.slice (some ⟨b, off + L * x, none⟩) L L] W fun e W' =>
      (e = .returned (.bool true) ∧ J (pre ++ [x]) W' ∧ Kc Bs W W') ∨ (e = .returned (.bool false) ∧ Jx (pre ++ [x]) W'))
    (W : World) (hB1 : Blo W Bs 49 #[.slice (some ⟨b, off, none⟩) len cap]) (hB2 : Blo W (Bs + 1) 3 #[.int .i64 L]) (h0 : J [] W) :
    CallsIn F n Tryd.prog 98 #[.func (.yield l) #[] #[], .pointer (some ⟨Bs, 0, none⟩), .pointer (some ⟨Bs + 1, 0, none⟩)] W fun e W' => (∃ v, e = .returned v) ∧
      ((∃ ys, ys = List.range N ∧ J ys W') ∨ (∃ pre, (∃ k, k ≤ N ∧ pre = List.range k) ∧ Jx pre W')) := by
  refine callsIn_of_wp Tryd.func98 rfl hF ?_ hro
  simp only [Tryd.ntmps98, List.size_toArray, List.length_cons, List.length_nil, Nat.reduceAdd, Nat.reduceSub, Array.replicate_succ, Array.replicate_zero, List.push_toArray, List.append_toArray, List.nil_append, List.cons_append]
  gi_wp2
  gi_loopw [4, 5] (fun i _ wr => ∃ k : Nat, k ≤ N ∧ i = .int .i64 ((L * k : Nat) : Int) ∧ J (List.range k) wr ∧ Kc Bs W wr)
    (fun i _ _ => len - (intOf i).toNat)
  case atStart => exact ⟨0, Nat.zero_le _, rfl, h0, Kc.refl _ _⟩
  case round =>
    obtain ⟨k, hk, rfl, hJs, hkc⟩ := hrel
    have hc1 : wr.cell? ⟨Bs, 0, none⟩ = some (.slice (some ⟨b, off, none⟩) len cap) := (World.cell?_of_block (a := ⟨Bs, 0, none⟩) hkc.1).trans (by rw [hB1.cell]; rfl)
    have hc2 : wr.cell? ⟨Bs + 1, 0, none⟩ = some (.int .i64 L) := (World.cell?_of_block (a := ⟨Bs + 1, 0, none⟩) hkc.2).trans (by rw [hB2.cell]; rfl)
    have HK := Lib.hid hkc
    by_cases hlt : k < N
    · obtain ⟨fn, tmps, assign, body, hy, hR⟩ := hY _ k wr.drew (hJd _ _ hJs) (by rw [List.length_range]; exact hlt) hlt
      have hm : L * k + L ≤ len := by
        rw [hlen, ← Nat.mul_succ]
        exact Nat.mul_le_mul_left _ hlt
      have HM : Hid (L * k + L = L * (k + 1)) := by show _ = _; rw [Nat.mul_succ]
      clear hlen hY hJs hkc
      generalize hq : L * k = q at *
      have hs1 := fun W => chunk_from b off len cap q (by omega) hcap hl9 W
      have hs2 := fun W => chunk_cut b off len cap q (q + L) (by omega) hm hcap hl9 W
      rw [Nat.add_sub_cancel_left] at hs2
      have hmin : (len - q < L) = False := eq_false (by omega)
      have hmin2 : ((len : Int) - (q : Int) < (L : Int)) = False := eq_false (by omega)
      gi_wp2
      gi_region
      all_goals
        gi_wp2
        refine hR.mono ?_
        rintro e W3 (⟨rfl, hJ3, hk3⟩ | ⟨rfl, hJx3⟩)
        · have HK3 := Lib.hid (HK.out.trans (show Kc Bs wr W3 from hk3))
          have hc3 : W3.cell? ⟨Bs + 1, 0, none⟩ = some (.int .i64 L) := (World.cell?_of_block (a := ⟨Bs + 1, 0, none⟩) hk3.2).trans hc2
          gi_wp2
          go_roundw
          case rel => exact ⟨k + 1, by omega, by rw [← HM.out]; simp, by rw [List.range_succ]; exact hJ3, HK3.out⟩
          case measure => simp [intOf]; omega
        · gi_wp2
          refine bodyPost_ret (results_none rfl _ _ _) rfl ?_
          exact ⟨⟨_, rfl⟩, .inr ⟨_, ⟨k + 1, by omega, by rw [List.range_succ]⟩, hJx3⟩⟩
    · obtain rfl : k = N := by omega
      subst hlen
      gi_wp2
      go_end0
      exact ⟨⟨_, rfl⟩, .inl ⟨_, rfl, hJs⟩⟩
theorem chunk_stops (n : Nat) (hn : 1 ≤ n) (Bs b off L N len cap : Nat) (hlen : len = L * N) (hL : 0 < L) (hcap : len ≤ cap) (hl9 : len ≤ 1000000) (w : World) (hB1 : Blo w Bs 49 #[.slice (some ⟨b, off, none⟩) len cap]) (hB2 : Blo w (Bs + 1) 3 #[.int .i64 L]) :
    SeqStopsK Fence.wide n Tryd.prog 98 #[.pointer (some ⟨Bs, 0, none⟩), .pointer (some ⟨Bs + 1, 0, none⟩)] (fun x : Fin N => #[Value.slice (some ⟨b, off + L * x.val, none⟩) L L]) (Kc Bs) (fun ys => ys.map (·.val) = List.range N) (fun _ => True) N w := fun l J Jx W hW hJ _ hY h0 => by
  refine (chunk1_in Fence.wide n trivial rfl hn l Bs b off L N len cap hlen hL hcap hl9 (fun pre W => ∃ ys : List (Fin N), ys.map (·.val) = pre ∧ J ys W) (fun _ W => ∃ ys : List (Fin N), Jx ys W)
    (fun pre W ⟨ys, e, h⟩ => ⟨ys, e, hJ ys W _ none h ⟨rfl, rfl, rfl, Nat.le_refl _, fun _ _ _ => rfl⟩ (fun r e => by cases e)⟩)
    (fun pre x W1 ⟨ys, e, h⟩ hlen hx => ?_) W (hB1.below hW hB1.lt) (hB2.below hW hB2.lt) ⟨[], rfl, h0⟩).mono ?_
  · refine (hY ys ⟨x, hx⟩ W1 h (by rw [← e, List.length_map] at hlen; exact hlen)).mono ?_
    rintro e2 W2 (⟨rfl, h2, h3⟩ | ⟨rfl, h2⟩)
    · exact .inl ⟨rfl, ⟨ys ++ [⟨x, hx⟩], by rw [List.map_append, e]; rfl, h2⟩, h3⟩
    · exact .inr ⟨rfl, _, h2⟩
  · rintro e2 W2 ⟨hv, ⟨ys, rfl, zs, e, h⟩ | ⟨pre, _, zs, h⟩⟩
    · exact ⟨hv, .inl ⟨zs, e, h⟩⟩
    · exact ⟨hv, .inr ⟨zs, trivial, h⟩⟩
end Go.Proofs.YtlkgaefabahkoaaDoor
/-
  summary.words: a good summary's words, with zeros behind.
-/
namespace Go.Proofs.YtlkgaefabahkoaaDoor
open Go.RowKit

theorem number_int {w : World} (k : Nat) (v : Int) (g c n : Nat) (xs : List Nat) (hF : Fil w g c xs) (hn : n = xs.length) (hr : n + k ≤ c) (hk8 : k ≤ 8) (hc9 : c ≤ 1000000) (h0 : 0 ≤ v) (hv : v < 4611686018427387904) :
    Calls Tryd.prog 82 #[.slice (some ⟨g, 0, none⟩) n c, .int .i64 k, .int .i64 v] w fun e w' => e = .returned (.slice (some ⟨g, 0, none⟩) (n + k) c) ∧ Fil w' g c (xs ++ num k v.toNat) ∧ w.grownBy w' (some g) := by
  obtain ⟨u, rfl⟩ : ∃ u : Nat, v = u := ⟨v.toNat, by omega⟩
  exact number_fil k u g c n xs hF hn hr hk8 hc9 (by omega)
/-- What stands behind each of the calls. -/
structure Wr (w : World) (cs : Array Value) (xs : List Nat) (wr : World) : Prop where
  top : Blo wr w.heap.size 36 cs
  fil : Fil wr (w.heap.size + 1) 88 xs
  below : Below w.heap.size w wr
section
variable {w wr w' : World} {cs : Array Value} {xs ys : List Nat}
theorem Wr.later (h : Wr w cs xs wr) (hb : Below wr.heap.size wr w') : Wr w cs xs w' := ⟨h.top.later hb, h.fil.later hb, h.below.trans (hb.mono h.below.size)⟩
theorem Wr.put (h : Wr w cs xs wr) (hf : Fil w' (w.heap.size + 1) 88 ys) (hg : wr.grownBy w' (some (w.heap.size + 1))) : Wr w cs ys w' :=
  ⟨h.top.grown hg (by simp), hf, h.below.grown hg h.below.size (fun k e => by cases e; omega)⟩
end
def head10 (m : Sm) (s : Nat) : List Nat := num 1 m.i.toNat ++ num 1 m.p.toNat ++ num 2 m.x.toNat ++ num 1 m.fs.length ++ num 1 m.is.length ++ num 4 s
theorem head10_len (m : Sm) (s : Nat) : (head10 m s).length = 10 := by simp only [head10, List.length_append, num_len]
theorem wds_head (m : Sm) (s : Nat) : wds m s = head10 m s ++ m.fs.flatMap wF ++ m.is.flatMap wI := rfl
theorem flat_snoc {α : Type} (g : α → List Nat) (l : List α) (d : α) (k : Nat) (h : k < l.length) : (l.take (k + 1)).flatMap g = (l.take k).flatMap g ++ g (l.getD k d) := by
  rw [take_snocF l d k h]; simp
theorem make88 : ∀ W : World, (Instr.makeSlice 49 (.int .i64 0) (.int .i64 88)).run Tryd.prog W = .ok (.slice (some ⟨W.heap.size, 0, none⟩) 0 88) (W.alloc (.cells (cellsB (zpad 88 [])).toArray U8)) := fun _ => by kernel_rfl
theorem size_u8s (w : World) : (Go.sizeOf U8).run Tryd.prog w = .ok 1 w := by kernel_rfl
theorem cut_88 (g n : Nat) (W : World) : (Instr.slice 49 (.slice (some ⟨g, 0, none⟩) n 88) none (some (.int .i64 88)) none).run Tryd.prog W = .ok (.slice (some ⟨g, 0, none⟩) 88 88) W := by
  have ht' : Tryd.prog.underlying 49 = some (.slice (Tryd.prog.elem 49)) := by simp [Program.elem, Tryd.underlying49]
  have he : Tryd.prog.elem 49 = 5 := by simp [Program.elem, Tryd.underlying49]
  have := run_slice_h W 49 (some ⟨g, 0, none⟩) n 88 ht' .i64 88 (by omega) (by omega)
  rw [this, he, size_u8s]
  simp [Result.andThen, sliced, Addr.add]
theorem szF_mem {l : List Fi} {k : Nat} (h : k < l.length) : szF (l.take k) + (4 + 2 * (l.getD k fi0).lb.length) ≤ szF l := by
  have := szF_take l (k + 1)
  rw [take_snocF l fi0 k h, szF_snoc] at this
  exact this
set_option maxHeartbeats 4000000 in
theorem words_any {w : World} (m : Sm) (s : Nat) (fa : Option Addr) (fn fc : Nat) (ia : Option Addr) (inn ic : Nat) (hg : Good m) (hF : Fis w fa m.fs) (hn : fn = m.fs.length) (hI : Ints w ia m.is) (hin : inn = m.is.length) (hs : s < 4294967296) :
    Calls Tryd.prog 81 #[part m.e m.c m.i m.p m.x fa fn fc ia inn ic, .int .u32 s] w fun e w' => ∃ g, e = .returned (.slice (some ⟨g, 0, none⟩) 88 88) ∧ w.heap.size ≤ g ∧ Fil w' g 88 (wds m s) ∧ Below w.heap.size w w' := by
  have HF := Lib.hid hF
  have HI := Lib.hid hI
  have HN := Lib.hid hn
  have HIN := Lib.hid hin
  have HG := Lib.hid hg
  have hfn : fn ≤ 22 := by have := len_szF m.fs; have := hg.size; omega
  have hinn : inn ≤ 78 := by have := hg.size; omega
  have hm88 := make88
  have hg1 := hg.i; have hg2 := hg.p; have hg3 := hg.x
  have b1 : 0 ≤ m.i := hg1.1
  have b2 : m.i < 64 := by omega
  have b3 : 1 ≤ m.p := hg2.1
  have b4 : m.p ≤ 64 := hg2.2
  have b5 : 0 ≤ m.x := hg3.1
  have b6 : m.x ≤ 4095 := hg3.2
  have hs' : (s : Int) < 4294967296 := by omega
  have H0 := Lib.hid (show Wr w #[.int .i64 m.e, .int .i64 m.c, .int .i64 m.i, .int .i64 m.p, .int .i64 m.x, .slice fa fn fc, .slice ia inn ic] [] ((w.alloc (.cells #[.int .i64 m.e, .int .i64 m.c, .int .i64 m.i, .int .i64 m.p, .int .i64 m.x, .slice fa fn fc, .slice ia inn ic] 36)).alloc (.cells (cellsB (zpad 88 [])).toArray U8)) from
    ⟨(blo_laid w _ _).later (sup_pc _ _), ⟨by decide, (fun x hx => by cases hx), by have := blo_laid (w.alloc (.cells #[.int .i64 m.e, .int .i64 m.c, .int .i64 m.i, .int .i64 m.p, .int .i64 m.x, .slice fa fn fc, .slice ia inn ic] 36)) U8 (cellsB (zpad 88 [])).toArray; rwa [World.size_alloc] at this⟩, (sup_pc w _).trans ((sup_pc _ _).mono (by simp))⟩)
  clear hF hI hn hin hg hg1 hg2 hg3
  go_enter Tryd.func81, Tryd.ntmps81
  go_wp2_with fail
  refine (number_int 1 m.i (w.heap.size + 1) 88 0 [] H0.out.fil (by simp [num_len]) (by omega) (by omega) (by omega) (by omega) (by omega)).mono ?_
  rintro e w1 ⟨rfl, hf, hgr⟩
  have H1 : Hid (Wr w #[.int .i64 m.e, .int .i64 m.c, .int .i64 m.i, .int .i64 m.p, .int .i64 m.x, .slice fa fn fc, .slice ia inn ic] ([] ++ num 1 m.i.toNat) w1) := H0.out.put hf hgr
  clear hf hgr H0
  have c1 := H1.out.top.cell 3
  simp at c1
  go_wp2_with fail
  refine (number_int 1 m.p (w.heap.size + 1) 88 1 ([] ++ num 1 m.i.toNat) H1.out.fil (by simp [num_len]) (by omega) (by omega) (by omega) (by omega) (by omega)).mono ?_
  rintro e w2 ⟨rfl, hf, hgr⟩
  have H2 : Hid (Wr w #[.int .i64 m.e, .int .i64 m.c, .int .i64 m.i, .int .i64 m.p, .int .i64 m.x, .slice fa fn fc, .slice ia inn ic] (([] ++ num 1 m.i.toNat) ++ num 1 m.p.toNat) w2) := H1.out.put hf hgr
  clear hf hgr H1
  have c2 := H2.out.top.cell 4
  simp at c2
  clear c1
  go_wp2_with fail
  refine (number_int 2 m.x (w.heap.size + 1) 88 2 (([] ++ num 1 m.i.toNat) ++ num 1 m.p.toNat) H2.out.fil (by simp [num_len]) (by omega) (by omega) (by omega) (by omega) (by omega)).mono ?_
  rintro e w3 ⟨rfl, hf, hgr⟩
  have H3 : Hid (Wr w #[.int .i64 m.e, .int .i64 m.c, .int .i64 m.i, .int .i64 m.p, .int .i64 m.x, .slice fa fn fc, .slice ia inn ic] ((([] ++ num 1 m.i.toNat) ++ num 1 m.p.toNat) ++ num 2 m.x.toNat) w3) := H2.out.put hf hgr
  clear hf hgr H2
  have c3 := H3.out.top.cell 5
  simp at c3
  clear c2
  go_wp2_with fail
  refine (number_int 1 (fn : Int) (w.heap.size + 1) 88 4 ((([] ++ num 1 m.i.toNat) ++ num 1 m.p.toNat) ++ num 2 m.x.toNat) H3.out.fil (by simp [num_len]) (by omega) (by omega) (by omega) (by omega) (by omega)).mono ?_
  rintro e w4 ⟨rfl, hf, hgr⟩
  have H4 : Hid (Wr w #[.int .i64 m.e, .int .i64 m.c, .int .i64 m.i, .int .i64 m.p, .int .i64 m.x, .slice fa fn fc, .slice ia inn ic] (((([] ++ num 1 m.i.toNat) ++ num 1 m.p.toNat) ++ num 2 m.x.toNat) ++ num 1 fn) w4) := H3.out.put hf hgr
  clear hf hgr H3
  have c4 := H4.out.top.cell 6
  simp at c4
  clear c3
  go_wp2_with fail
  refine (number_int 1 (inn : Int) (w.heap.size + 1) 88 5 (((([] ++ num 1 m.i.toNat) ++ num 1 m.p.toNat) ++ num 2 m.x.toNat) ++ num 1 fn) H4.out.fil (by simp [num_len]) (by omega) (by omega) (by omega) (by omega) (by omega)).mono ?_
  rintro e w5 ⟨rfl, hf, hgr⟩
  have H5 : Hid (Wr w #[.int .i64 m.e, .int .i64 m.c, .int .i64 m.i, .int .i64 m.p, .int .i64 m.x, .slice fa fn fc, .slice ia inn ic] ((((([] ++ num 1 m.i.toNat) ++ num 1 m.p.toNat) ++ num 2 m.x.toNat) ++ num 1 fn) ++ num 1 inn) w5) := H4.out.put hf hgr
  clear hf hgr H4
  have c5 := H5.out.top.cell 6
  simp at c5
  clear c4
  go_wp2_with fail
  refine (number_int 4 (s : Int) (w.heap.size + 1) 88 6 ((((([] ++ num 1 m.i.toNat) ++ num 1 m.p.toNat) ++ num 2 m.x.toNat) ++ num 1 fn) ++ num 1 inn) H5.out.fil (by simp [num_len]) (by omega) (by omega) (by omega) (by omega) (by omega)).mono ?_
  rintro e w6 ⟨rfl, hf, hgr⟩
  have H6 : Hid (Wr w #[.int .i64 m.e, .int .i64 m.c, .int .i64 m.i, .int .i64 m.p, .int .i64 m.x, .slice fa fn fc, .slice ia inn ic] (((((([] ++ num 1 m.i.toNat) ++ num 1 m.p.toNat) ++ num 2 m.x.toNat) ++ num 1 fn) ++ num 1 inn) ++ num 4 s) w6) := H5.out.put hf hgr
  clear hf hgr H5
  clear c5
  have d5 := H6.out.top.cell 5
  have d6 := H6.out.top.cell 6
  simp at d5 d6
  go_wp2_with fail
  have HR0 : Hid (Wr w #[.int .i64 m.e, .int .i64 m.c, .int .i64 m.i, .int .i64 m.p, .int .i64 m.x, .slice fa fn fc, .slice ia inn ic] (head10 m s ++ (m.fs.take 0).flatMap wF) w6) := by
    have : head10 m s ++ (m.fs.take 0).flatMap wF = (((((([] ++ num 1 m.i.toNat) ++ num 1 m.p.toNat) ++ num 2 m.x.toNat) ++ num 1 fn) ++ num 1 inn) ++ num 4 s) := by
      unfold head10
      rw [← HN.out, ← HIN.out]
      simp
    show Wr _ _ _ _
    rw [this]
    exact H6.out
  clear H6
  go_loopw [5, 7, 9, 42] (fun sl _ _ t wr => ∃ k : Nat, k ≤ fn ∧ t = .int .i64 k ∧ sl = .slice (some ⟨w.heap.size + 1, 0, none⟩) (10 + szF (m.fs.take k)) 88 ∧ Wr w #[.int .i64 m.e, .int .i64 m.c, .int .i64 m.i, .int .i64 m.p, .int .i64 m.x, .slice fa fn fc, .slice ia inn ic] (head10 m s ++ (m.fs.take k).flatMap wF) wr) (fun _ _ _ t _ => fn - (intOf t).toNat)
  case atStart => exact ⟨0, Nat.zero_le _, rfl, rfl, HR0.out⟩
  case round =>
    clear HR0 d5 d6
    obtain ⟨k, hk, rfl, rfl, hR⟩ := hrel
    have HR := Lib.hid hR
    clear hR
    by_cases hlt : k < fn
    · have hkl : k < m.fs.length := by rw [← HN.out]; exact hlt
      obtain ⟨b, o, cc, cp, rfl, q1, q2, q3, q4⟩ := HF.out.at hkl
      have r1 := cell_later HR.out.below q1
      have r2 := cell_later HR.out.below q2
      have r3 := cell_later HR.out.below q3
      have HGD := Lib.hid (goodF_of (HG.out.fs (m.fs.getD k fi0) (by rw [List.getD_eq_getElem?_getD, List.getElem?_eq_getElem hkl]; exact List.getElem_mem hkl)))
      have HQ := Lib.hid q4
      have hsz := szF_mem hkl
      have HE : Hid (head10 m s ++ (m.fs.take (k + 1)).flatMap wF = (head10 m s ++ (m.fs.take k).flatMap wF) ++ wF (m.fs.getD k fi0)) := by show _ = _; rw [flat_snoc wF m.fs fi0 k hkl, List.append_assoc]
      have HE2 : Hid (szF (m.fs.take (k + 1)) = szF (m.fs.take k) + (4 + 2 * (m.fs.getD k fi0).lb.length)) := by show _ = _; rw [take_snocF m.fs fi0 k hkl, szF_snoc]
      have HXL : Hid ((head10 m s ++ (m.fs.take k).flatMap wF).length = 10 + szF (m.fs.take k)) := by show _ = _; rw [List.length_append, head10_len, flat_szF]
      have hgs := HG.out.size
      have hub : szF (m.fs.take k) + (4 + 2 * (m.fs.getD k fi0).lb.length) ≤ 78 := by omega
      clear q1 q2 q3 q4 hsz hgs
      generalize szF (m.fs.take k) = M at *
      generalize head10 m s ++ (m.fs.take k).flatMap wF = X at *
      generalize m.fs.getD k fi0 = f at *
      obtain ⟨i, v, lb⟩ := f
      have u1 : 0 ≤ i := HGD.out.1.1
      have u2 : i < 256 := HGD.out.1.2.1
      have u3 : 0 ≤ v := HGD.out.1.2.2.1
      have u4 : v < 65536 := HGD.out.1.2.2.2.1
      obtain ⟨nl, hnl⟩ : ∃ nl, lb.length = nl := ⟨_, rfl⟩
      simp only [hnl] at hub r3 HE2
      simp only at r1 r2
      have HNL := Lib.hid hnl
      clear hnl
      have HS0 := Lib.hid (HR.out.later (sup_pc wr (.cells #[.int .i64 i, .int .i64 v, .slice cc nl cp] FN)))
      have HX0 := Lib.hid (blo_laid wr FN #[.int .i64 i, .int .i64 v, .slice cc nl cp])
      have HGT : Hid (wr.heap.size ≠ w.heap.size + 1) := by have := HR.out.fil.blo.lt; show _ ≠ _; omega
      clear HR
      go_wp2_with fail
      refine (number_int 1 i (w.heap.size + 1) 88 (10 + M) X HS0.out.fil HXL.out.symm (by omega) (by omega) (by omega) (by omega) (by omega)).mono ?_
      rintro e x1 ⟨rfl, hf, hgr⟩
      have HS1 := Lib.hid (HS0.out.put hf hgr)
      have HX1 := Lib.hid (HX0.out.grown hgr (by simpa using HGT.out))
      clear hf hgr HS0 HX0 r1 r2 r3
      have s1 := HX1.out.cell 1
      simp at s1
      go_wp2_with fail
      refine (number_int 2 v (w.heap.size + 1) 88 (10 + M + 1) (X ++ num 1 i.toNat) HS1.out.fil (by simp only [List.length_append, num_len, HXL.out]) (by omega) (by omega) (by omega) (by omega) (by omega)).mono ?_
      rintro e x2 ⟨rfl, hf, hgr⟩
      have HS2 := Lib.hid (HS1.out.put hf hgr)
      have HX2 := Lib.hid (HX1.out.grown hgr (by simpa using HGT.out))
      clear hf hgr HS1 HX1 s1
      have s2 := HX2.out.cell 2
      simp at s2
      go_wp2_with fail
      refine (number_int 1 (nl : Int) (w.heap.size + 1) 88 (10 + M + 1 + 2) (X ++ num 1 i.toNat ++ num 2 v.toNat) HS2.out.fil (by simp only [List.length_append, num_len, HXL.out]) (by omega) (by omega) (by omega) (by omega) (by omega)).mono ?_
      rintro e x3 ⟨rfl, hf, hgr⟩
      have HS3 := Lib.hid (HS2.out.put hf hgr)
      have HX3 := Lib.hid (HX2.out.grown hgr (by simpa using HGT.out))
      clear hf hgr HS2 HX2 s2
      have s3 := HX3.out.cell 2
      simp at s3
      go_wp2_with fail
      go_loopw [5, 9, 62] (fun sl _ t wr => ∃ j : Nat, j ≤ nl ∧ t = .int .i64 j ∧ sl = .slice (some ⟨w.heap.size + 1, 0, none⟩) (10 + M + 1 + 2 + 1 + 2 * j) 88 ∧ Wr w #[.int .i64 m.e, .int .i64 m.c, .int .i64 m.i, .int .i64 m.p, .int .i64 m.x, .slice (some ⟨b, o, none⟩) fn fc, .slice ia inn ic] (X ++ num 1 i.toNat ++ num 2 v.toNat ++ num 1 nl ++ (lb.take j).flatMap wL) wr) (fun _ _ t _ => nl - (intOf t).toNat)
      case atStart => exact ⟨0, Nat.zero_le _, rfl, rfl, by simpa using HS3.out⟩
      case round =>
        clear HS3 HX3 s3
        obtain ⟨j, hj, rfl, rfl, hR⟩ := hrel
        have HR := Lib.hid hR
        clear hR
        by_cases hjl : j < nl
        · have hjl' : j < lb.length := by rw [HNL.out]; exact hjl
          obtain ⟨b2, o2, rfl, hc⟩ := (HQ.out.below HR.out.below) (fun e => by rw [e] at hjl'; cases hjl')
          have t1 := hc j hjl'
          have hb2 := HGD.out.1.2.2.2.2.2 (lb.getD j 0) (by rw [List.getD_eq_getElem?_getD, List.getElem?_eq_getElem hjl']; exact List.getElem_mem hjl')
          have HEj : Hid (X ++ num 1 i.toNat ++ num 2 v.toNat ++ num 1 nl ++ (lb.take (j + 1)).flatMap wL = X ++ num 1 i.toNat ++ num 2 v.toNat ++ num 1 nl ++ (lb.take j).flatMap wL ++ wL (lb.getD j 0)) := by show _ = _; rw [flat_snoc wL lb 0 j hjl', ← List.append_assoc]
          have HYL : Hid ((X ++ num 1 i.toNat ++ num 2 v.toNat ++ num 1 nl ++ (lb.take j).flatMap wL).length = 10 + M + 1 + 2 + 1 + 2 * j) := by
            show _ = _
            simp only [List.length_append, num_len, HXL.out, flat_len wL 2 wL_len, List.length_take, HNL.out]
            omega
          clear hc
          generalize X ++ num 1 i.toNat ++ num 2 v.toNat ++ num 1 nl ++ (lb.take j).flatMap wL = Y at *
          have HWL : Hid (∀ n, wL n = num 2 (n + 1000).toNat) := fun n => rfl
          generalize lb.getD j 0 = z at *
          go_wp2_with fail
          refine (number_int 2 (z + 1000) (w.heap.size + 1) 88 (10 + M + 1 + 2 + 1 + 2 * j) Y HR.out.fil HYL.out.symm (by omega) (by omega) (by omega) (by omega) (by omega)).mono ?_
          rintro e y1 ⟨rfl, hf, hgr⟩
          have HY1 := Lib.hid (HR.out.put hf hgr)
          clear hf hgr HR t1
          go_wp2_with fail
          go_roundw
          case rel => exact ⟨j + 1, by omega, by simp, rfl, by rw [HEj.out]; exact HY1.out⟩
          case measure => simp [intOf]; omega
        · obtain rfl : j = nl := by omega
          have HR2 : Hid (Wr w #[.int .i64 m.e, .int .i64 m.c, .int .i64 m.i, .int .i64 m.p, .int .i64 m.x, .slice (some ⟨b, o, none⟩) fn fc, .slice ia inn ic] (head10 m s ++ (m.fs.take (k + 1)).flatMap wF) wr) := by
            show Wr _ _ _ _
            rw [HE.out]
            have hx := HR.out
            rw [List.take_of_length_le (by rw [HNL.out]; exact Nat.le_refl _)] at hx
            simp only [List.append_assoc] at hx
            unfold wF
            simp only [List.append_assoc, HNL.out]
            exact hx
          clear HR
          go_wp2_with fail
          go_roundw
          case rel => exact ⟨k + 1, by omega, by simp, by rw [HE2.out]; congr 1; omega, HR2.out⟩
          case measure => simp [intOf]; omega
    · have hkn : m.fs.take k = m.fs := by rw [List.take_of_length_le]; have := HN.out; omega
      have hgs := HG.out.size
      have HR2 : Hid (Wr w #[.int .i64 m.e, .int .i64 m.c, .int .i64 m.i, .int .i64 m.p, .int .i64 m.x, .slice fa fn fc, .slice ia inn ic] (head10 m s ++ m.fs.flatMap wF) wr) := by
        have := HR.out
        rw [hkn] at this
        exact this
      simp only [hkn]
      have e6 := HR2.out.top.cell 6
      simp at e6
      have HSL : Hid ((head10 m s ++ m.fs.flatMap wF).length = 10 + szF m.fs) := by show _ = _; rw [List.length_append, head10_len, flat_szF]
      have hSb : szF m.fs + inn ≤ 78 := by have := HIN.out; omega
      clear HR hkn hgs
      generalize szF m.fs = S at *
      go_wp2_with fail
      go_loopw [5, 11, 75] (fun sl _ t wr => ∃ j : Nat, j ≤ inn ∧ t = .int .i64 j ∧ sl = .slice (some ⟨w.heap.size + 1, 0, none⟩) (10 + S + j) 88 ∧ Wr w #[.int .i64 m.e, .int .i64 m.c, .int .i64 m.i, .int .i64 m.p, .int .i64 m.x, .slice fa fn fc, .slice ia inn ic] (head10 m s ++ m.fs.flatMap wF ++ (m.is.take j).flatMap wI) wr) (fun _ _ t _ => inn - (intOf t).toNat)
      case atStart => exact ⟨0, Nat.zero_le _, rfl, rfl, by simpa using HR2.out⟩
      case round =>
        clear HR2 e6
        obtain ⟨j, hj, rfl, rfl, hR⟩ := hrel
        have HR := Lib.hid hR
        clear hR
        by_cases hjl : j < inn
        · have hjl' : j < m.is.length := by rw [← HIN.out]; exact hjl
          obtain ⟨b2, o2, rfl, hc⟩ := (HI.out.below HR.out.below) (fun e => by rw [e] at hjl'; cases hjl')
          have t1 := hc j hjl'
          have hb2 := out_yes (HG.out.is (m.is.getD j 0) (by rw [List.getD_eq_getElem?_getD, List.getElem?_eq_getElem hjl']; exact List.getElem_mem hjl'))
          have HEj : Hid (head10 m s ++ m.fs.flatMap wF ++ (m.is.take (j + 1)).flatMap wI = head10 m s ++ m.fs.flatMap wF ++ (m.is.take j).flatMap wI ++ wI (m.is.getD j 0)) := by show _ = _; rw [flat_snoc wI m.is 0 j hjl', ← List.append_assoc]
          have HYL : Hid ((head10 m s ++ m.fs.flatMap wF ++ (m.is.take j).flatMap wI).length = 10 + S + j) := by
            show _ = _
            rw [List.length_append, HSL.out, flat_len wI 1 wI_len, List.length_take, ← HIN.out]
            omega
          clear hc
          generalize head10 m s ++ m.fs.flatMap wF ++ (m.is.take j).flatMap wI = Y at *
          generalize m.is.getD j 0 = z at *
          go_wp2_with fail
          refine (number_int 1 z (w.heap.size + 1) 88 (10 + S + j) Y HR.out.fil HYL.out.symm (by omega) (by omega) (by omega) (by omega) (by omega)).mono ?_
          rintro e y1 ⟨rfl, hf, hgr⟩
          have HY1 := Lib.hid (HR.out.put hf hgr)
          clear hf hgr HR t1
          go_wp2_with fail
          go_roundw
          case rel => exact ⟨j + 1, by omega, by simp, rfl, by rw [HEj.out]; exact HY1.out⟩
          case measure => simp [intOf]; omega
        · obtain rfl : j = inn := by omega
          have HR3 : Hid (Fil wr (w.heap.size + 1) 88 (wds m s) ∧ Below w.heap.size w wr) := by
            have hx := HR.out
            rw [List.take_of_length_le (by rw [← HIN.out]; exact Nat.le_refl _)] at hx
            exact ⟨by rw [wds_head]; exact hx.fil, hx.below⟩
          have hcut := fun W => cut_88 (w.heap.size + 1) (10 + S + j) W
          clear HR
          go_wp2
          go_ret
          exact ⟨_, rfl, by omega, HR3.out.1, HR3.out.2⟩
end Go.Proofs.YtlkgaefabahkoaaDoor
/-
  What lies in memory while summary.Encode goes over the chunks.
-/
namespace Go.Proofs.YtlkgaefabahkoaaDoor
open Go.RowKit

def accM (e c : Int) (w ys : List Nat) : List Nat := (List.range ys.length).flatMap fun k => num 2 e.toNat ++ num 2 c.toNat ++ num 1 k ++ (w.drop (11 * ys.getD k 0)).take 11
theorem accM_snoc (e c : Int) (w ys : List Nat) (x : Nat) : accM e c w (ys ++ [x]) = accM e c w ys ++ num 2 e.toNat ++ num 2 c.toNat ++ num 1 ys.length ++ (w.drop (11 * x)).take 11 := by
  unfold accM
  rw [List.length_append, List.length_singleton, List.range_succ, List.flatMap_append, List.flatMap_singleton]
  have e1 : (ys ++ [x]).getD ys.length 0 = x := by simp [List.getD_eq_getElem?_getD]
  rw [e1]
  simp only [← List.append_assoc]
  congr 4
  refine congrArg List.flatten (List.map_congr_left fun k hk => ?_)
  have : k < ys.length := List.mem_range.1 hk
  have e2 : (ys ++ [x]).getD k 0 = ys.getD k 0 := by simp [List.getD_eq_getElem?_getD, List.getElem?_append_left this]
  rw [e2]
theorem accM_range (e c : Int) (w : List Nat) (n : Nat) : accM e c w (List.range n) = secs e c w n := by
  unfold accM secs
  rw [List.length_range]
  refine congrArg List.flatten (List.map_congr_left fun k hk => ?_)
  have : k < n := List.mem_range.1 hk
  have e2 : (List.range n).getD k 0 = k := by simp [List.getD_eq_getElem?_getD, this]
  rw [e2]
  rfl
theorem accM_len (e c : Int) {w : List Nat} (hw : w.length = 88) (ys : List (Fin 8)) : (accM e c w (ys.map (·.val))).length = 16 * ys.length := by
  have : ∀ n, n ≤ ys.length → (accM e c w ((ys.take n).map (·.val))).length = 16 * n := by
    intro n
    induction n with
    | zero => intro _; rfl
    | succ n ih =>
      intro hn
      rw [List.take_add_one, List.getElem?_eq_getElem (by omega)]
      rw [Option.toList_some, List.map_append, List.map_singleton, accM_snoc]
      simp only [List.length_append, num_len, ih (by omega), List.length_take, List.length_drop, hw]
      have := (ys[n]).2
      omega
  have := this ys.length (Nat.le_refl _)
  rwa [List.take_of_length_le (Nat.le_refl _)] at this
/-- The part, the row of the answer, the box of its slice, the place, the words. -/
structure Er (w : World) (cs : Array Value) (g : Nat) (bv pv : Value) (xs : List Nat) (bw : Nat) (ws : List Nat) (wr : World) : Prop where
  top : Blo wr w.heap.size 36 cs
  fil : Fil wr g 128 xs
  bx : Blo wr (g + 1) 49 #[bv]
  pl : Blo wr (g + 2) 3 #[pv]
  wd : Fil wr bw 88 ws
  below : Below w.heap.size w wr
  l1 : w.heap.size < g
  l2 : g + 2 < bw
section
variable {w wr w' : World} {cs : Array Value} {g bw : Nat} {bv pv : Value} {xs ys ws : List Nat}
theorem Er.later (h : Er w cs g bv pv xs bw ws wr) (hb : Below wr.heap.size wr w') : Er w cs g bv pv xs bw ws w' :=
  ⟨h.top.later hb, h.fil.later hb, h.bx.later hb, h.pl.later hb, h.wd.later hb, h.below.trans (hb.mono h.below.size), h.l1, h.l2⟩
theorem Er.fill (h : Er w cs g bv pv xs bw ws wr) (hf : Fil w' g 128 ys) (hg : wr.grownBy w' (some g)) : Er w cs g bv pv ys bw ws w' := by
  have h1 := h.l1
  have h2 := h.l2
  have n1 : ∀ k, k ≠ g → some k ≠ some g := fun k hk e => hk (by cases e; rfl)
  exact ⟨h.top.grown hg (n1 _ (by omega)), hf, h.bx.grown hg (n1 _ (by omega)), h.pl.grown hg (n1 _ (by omega)), h.wd.grown hg (n1 _ (by omega)), h.below.grown hg h.below.size (fun k e => by cases e; omega), h1, h2⟩
theorem Er.box (h : Er w cs g bv pv xs bw ws wr) (u : Value) : Er w cs g u pv xs bw ws (wr.setCell ⟨g + 1, 0, none⟩ u) := by
  have h1 := h.l1
  have h2 := h.l2
  exact ⟨h.top.far (by show _ ≠ g + 1; omega) u, ⟨h.fil.len, h.fil.lt, h.fil.blo.far (by show _ ≠ g + 1; omega) u⟩, h.bx.put 0 u, h.pl.far (by show _ ≠ g + 1; omega) u, ⟨h.wd.len, h.wd.lt, h.wd.blo.far (by show _ ≠ g + 1; omega) u⟩, h.below.setCell (p := ⟨g + 1, 0, none⟩) (by show _ ≤ g + 1; omega) u, h1, h2⟩
theorem Er.plc (h : Er w cs g bv pv xs bw ws wr) (u : Value) : Er w cs g bv u xs bw ws (wr.setCell ⟨g + 2, 0, none⟩ u) := by
  have h1 := h.l1
  have h2 := h.l2
  exact ⟨h.top.far (by show _ ≠ g + 2; omega) u, ⟨h.fil.len, h.fil.lt, h.fil.blo.far (by show _ ≠ g + 2; omega) u⟩, h.bx.far (by show _ ≠ g + 2; omega) u, h.pl.put 0 u, ⟨h.wd.len, h.wd.lt, h.wd.blo.far (by show _ ≠ g + 2; omega) u⟩, h.below.setCell (p := ⟨g + 2, 0, none⟩) (by show _ ≤ g + 2; omega) u, h1, h2⟩
end
theorem blo_own {s : Nat} {t : TypeId} {cs : Array Value} {A B : World} {row : Option Nat} (h : Blo A s t cs) (hg : A.grownBy B row) (hr : ∀ r, row = some r → ∃ o : Obj, A.heap[r]? = some o ∧ o.isCells = false) : Blo B s t cs :=
  (grownBy_keeps_cells hg hr h rfl).trans h
theorem fil_own {s c : Nat} {xs : List Nat} {A B : World} {row : Option Nat} (h : Fil A s c xs) (hg : A.grownBy B row) (hr : ∀ r, row = some r → ∃ o : Obj, A.heap[r]? = some o ∧ o.isCells = false) : Fil B s c xs :=
  ⟨h.len, h.lt, blo_own h.blo hg hr⟩
theorem er_own {w A B : World} {cs : Array Value} {g bw s : Nat} {bv pv : Value} {xs ws : List Nat} {row : Option Nat} (hB : w.heap.size ≤ s) (h : Er w cs g bv pv xs bw ws A) (hg : A.grownBy B row) (hr : ∀ r, row = some r → s ≤ r ∧ ∃ o : Obj, A.heap[r]? = some o ∧ o.isCells = false) : Er w cs g bv pv xs bw ws B :=
  have hr' := fun r e => (hr r e).2
  ⟨blo_own h.top hg hr', fil_own h.fil hg hr', blo_own h.bx hg hr', blo_own h.pl hg hr', fil_own h.wd hg hr', h.below.grown hg h.below.size (fun k e => Nat.le_trans hB (hr k e).1), h.l1, h.l2⟩
theorem fil_part {w : World} {g c : Nat} {xs : List Nat} (h : Fil w g c xs) (hc : c ≤ 1000000) (o n : Nat) (hon : o + n ≤ c) : Bytes w (some ⟨g, o, none⟩) (((zpad c xs).drop o).take n) := by
  have hl := zpad_len h.len
  refine ⟨fun x hx => zpad_lt h.lt x (List.mem_of_mem_drop (List.mem_of_mem_take hx)), by simp only [List.length_take]; omega, fun _ => ⟨g, o, rfl, fun i hi => ?_⟩⟩
  simp only [List.length_take, List.length_drop] at hi
  rw [h.blo.cell, ← Array.getElem?_toList]
  have := cellsB_get (zpad c xs) (o + i) (by omega)
  show (cellsB (zpad c xs))[o + i]? = _
  rw [this]
  simp [List.getD_eq_getElem?_getD, List.getElem?_take_of_lt (show i < n by omega)]
/-- What a step of a round keeps: all that is no cells; the iterator's two blocks. -/
def Kr (B : Nat) (W W' : World) : Prop := KeepsOthers W W' ∧ Kc B W W'
theorem Kr.refl (B : Nat) (W : World) : Kr B W W := ⟨KeepsOthers.refl _, Kc.refl _ _⟩
theorem Kr.trans {B : Nat} {x y z : World} (h : Kr B x y) (k : Kr B y z) : Kr B x z := ⟨h.1.trans k.1, h.2.trans k.2⟩
theorem Kr.fill {B g c : Nat} {xs : List Nat} {W W' : World} (hB : g < B) (hl : B + 1 < W.heap.size) (hf : Fil W g c xs) (hg : W.grownBy W' (some g)) : Kr B W W' :=
  ⟨KeepsOthers.of_grownBy hg (fun j o e ho => by cases e; have := hf.blo; unfold Blo at this; rw [this] at ho; cases ho; rfl), hg.block _ (by omega) (by simp; omega), hg.block _ hl (by simp; omega)⟩
theorem Kr.set {B k : Nat} (hB : k < B) (W : World) (u : Value) : Kr B W (W.setCell ⟨k, 0, none⟩ u) :=
  ⟨KeepsOthers.setCell _ _ _, Below.heap_setCell W _ u _ (by show _ ≠ k; omega), Below.heap_setCell W _ u _ (by show _ ≠ k; omega)⟩
theorem wpListIn_append_fil {F : Fence} {fn : Nat} {P : Program} {w : World} {ops : Array Oper} {rest : List Oper} {o : Oper} {act : Act} {Q : Exit → Act → World → Prop} (hgd : o.guard = none) (s x : Operand) (t : TypeId)
    (ho : o.op = .call { callee := .builtin .append, args := #[s, x], argTypes := #[t, t] })
    (ht : P.underlying t = some (.slice U8)) (hi : (P.info? U8).map (fun i => (i.zero, i.size, i.bytes)) = some (some (.int .u8 0), 1, 1))
    (g c n : Nat) (xs : List Nat) (hs : act.eval s = .slice (some ⟨g, 0, none⟩) n c) (hn : n = xs.length) (hF : Fil w g c xs)
    (a : Option Addr) (m cap : Nat) (l : List Nat) (hx : act.eval x = .slice a m cap) (hm : m = l.length) (hl : Bytes w a l) (hne : l ≠ []) (hroom : n + m ≤ c)
    (h : ∀ w', Fil w' g c (xs ++ l) → w.grownBy w' (some g) → wpListIn F fn P ops Q rest (act.put o.dst (.slice (some ⟨g, 0, none⟩) (n + m) c)) w') : wpListIn F fn P ops Q (o :: rest) act w := by
  refine wpListIn_plain hgd fun K hK => ?_
  obtain ⟨W', hrun, hF', hg'⟩ := run_append_fil (P := P) o.type t ht hi g c n xs hn hF a m cap l hm hl hne hroom
  unfold Oper.wpIn
  refine ⟨?_, ?_⟩
  · simp [Oper.about, ho, resolve, Target.leads, Sem.run_pure]
  · rw [Oper.semAt_plain F _ _ (by rw [ho]; intro c hc'; cases hc')]
    simp [execOp, ho, resolve, invoke, builtin, hs, hx, hrun, Result.andThen]
    exact hK _ _ (h W' hF' hg')
end Go.Proofs.YtlkgaefabahkoaaDoor
/-
  The walks of bytes.Equal.
-/
namespace Go.Proofs.YtlkgaefabahkoaaDoor
open Go.RowKit

set_option maxHeartbeats 400000 in
theorem equal_same (l : List Nat) (n : Nat) (hn : n = l.length) (a1 a2 : Option Addr) (c1 c2 : Nat) (w : World) (h1 : Bytes w a1 l) (h2 : Bytes w a2 l) :
    Calls Tryd.prog 69 #[.slice a1 n c1, .slice a2 n c2] w fun e w' => e = .returned (.bool true) ∧ w = w' := by
  have s1 := run_str w 49 9 5 Tryd.underlying49 Tryd.underlying5 Tryd.underlying9 l a1 n c1 hn h1
  have s2 := run_str w 49 9 5 Tryd.underlying49 Tryd.underlying5 Tryd.underlying9 l a2 n c2 hn h2
  clear h1 h2 hn
  go_enter Tryd.func69, Tryd.ntmps69
  go_wp2
  go_ret
  exact ⟨rfl, rfl⟩
set_option maxHeartbeats 400000 in
theorem equal_ne (l m : List Nat) (n k : Nat) (hn : n = l.length) (hk : k = m.length) (hne : l ≠ m) (a1 a2 : Option Addr) (c1 c2 : Nat) (w : World) (h1 : Bytes w a1 l) (h2 : Bytes w a2 m) :
    Calls Tryd.prog 69 #[.slice a1 n c1, .slice a2 k c2] w fun e w' => e = .returned (.bool false) ∧ w = w' := by
  have s1 := run_str w 49 9 5 Tryd.underlying49 Tryd.underlying5 Tryd.underlying9 l a1 n c1 hn h1
  have s2 := run_str w 49 9 5 Tryd.underlying49 Tryd.underlying5 Tryd.underlying9 m a2 k c2 hk h2
  have hs := str_ne h1.1 h2.1 hne
  clear h1 h2 hn hk hne
  generalize strOf l = x at *
  generalize strOf m = y at *
  go_enter Tryd.func69, Tryd.ntmps69
  go_wp2
  go_ret
  exact ⟨by simp [hs], rfl⟩
end Go.Proofs.YtlkgaefabahkoaaDoor
