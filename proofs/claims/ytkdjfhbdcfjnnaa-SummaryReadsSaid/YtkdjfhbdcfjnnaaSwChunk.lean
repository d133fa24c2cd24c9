/-
  slices.Chunk over a slice of bytes that is so many whole chunks long: its closure's contract as an iterator.
-/
import Derived.RangeFuncNested
import Derived.RangeFuncBound
import Derived.RangeFuncCalls
import Derived.RangeFuncLeaves
import Derived.Shelf.Abstract
import Derived.Shelf.RegionOpen
import Derived.WalkKit
import Derived.OwnWalkIn
import Derived.TacticsInMore
import Derived.LoopNIn
import Derived.LoopIn
import Derived.Test.YtkdjfhbdcfjnnaaSwFil
namespace Go.Proofs.Ytkdjfhbdcfjnnaa
open Go.RowKit

attribute [local go_sem] Oper.semAt_some

/-- Two blocks of cells stay: what the iterator reads between two rounds. -/
def Kc (B : Nat) (W W' : World) : Prop := W'.heap[B]? = W.heap[B]? ∧ W'.heap[B + 1]? = W.heap[B + 1]?
theorem Kc.trans {B : Nat} {x y z : World} (h : Kc B x y) (k : Kc B y z) : Kc B x z := ⟨k.1.trans h.1, k.2.trans h.2⟩
theorem Kc.refl (B : Nat) (w : World) : Kc B w w := ⟨rfl, rfl⟩
theorem Kc.put {B s : Nat} (hs : B + 1 < s) (W : World) (l : Nat) (o o' : Obj) (h1 : s ≤ l) (_ : W.heap[l]? = some o) (_ : o.isCells = false) (_ : o.isWalk = false) : Kc B W (W.putObj l o') :=
  ⟨World.putObj_heap_other (by omega), World.putObj_heap_other (by omega)⟩
theorem chunk_any (a : Option Addr) (len cap : Nat) (L : Nat) (hL : 0 < L) (w : World) :
    Calls Try.prog 23 #[.slice a len cap, .int .i64 L] w fun e w' => e = .returned (.func (.func 39) #[] #[.pointer (some ⟨w.heap.size, 0, none⟩), .pointer (some ⟨w.heap.size + 1, 0, none⟩)]) ∧ w' = (w.alloc (.cells #[.slice a len cap] 30)).alloc (.cells #[.int .i64 L] 3) := by
  go_enter Try.func23, Try.ntmps23
  go_wp2
  go_ret
  exact ⟨rfl, rfl⟩
theorem size_u8 (w : World) : (Go.sizeOf U8).run Try.prog w = .ok 1 w := by kernel_rfl
theorem chunk_from (b o n cap lo : Nat) (hlo : lo < n) (hn : n ≤ cap) (hc : n ≤ 1000000) (W : World) :
    (Instr.slice 30 (.slice (some ⟨b, o, none⟩) n cap) (some (.int .i64 (lo : Int))) none none).run Try.prog W = .ok (.slice (some ⟨b, o + lo, none⟩) (n - lo) (cap - lo)) W := by
  have ht' : Try.prog.underlying 30 = some (.slice (Try.prog.elem 30)) := by simp [Program.elem, Try.underlying30]
  have he : Try.prog.elem 30 = 5 := by simp [Program.elem, Try.underlying30]
  have e2 : ¬ cap = lo := by omega
  rw [run_slice_l W 30 _ _ _ ht' .i64 _ (by omega) (by omega), he, size_u8]
  simp [Result.andThen, sliced, Addr.add_lit, e2]
theorem chunk_cut (b o n cap lo hi : Nat) (hlo : lo < hi) (hhi : hi ≤ n) (hn : n ≤ cap) (hc : n ≤ 1000000) (W : World) :
    (Instr.slice 30 (.slice (some ⟨b, o, none⟩) n cap) (some (.int .i64 (lo : Int))) (some (.int .i64 (hi : Int))) (some (.int .i64 (hi : Int)))).run Try.prog W = .ok (.slice (some ⟨b, o + lo, none⟩) (hi - lo) (hi - lo)) W := by
  have ht' : Try.prog.underlying 30 = some (.slice (Try.prog.elem 30)) := by simp [Program.elem, Try.underlying30]
  have he : Try.prog.elem 30 = 5 := by simp [Program.elem, Try.underlying30]
  have e2 : ¬ hi = lo := by omega
  have e3 : ¬ hi - lo = 0 := by omega
  rw [run_slice_lhm W 30 _ _ _ ht' .i64 .i64 .i64 _ _ _ (by omega) (by omega) (by omega) (by omega), he, size_u8]
  simp [Result.andThen, sliced, Addr.add_lit, e3]
  omega
set_option maxRecDepth 100000 in
set_option maxHeartbeats 4000000 in
theorem chunk1_in (F : Fence) (n : Nat) (hF : F.fn 39) (hro : F.round = none) (hn : 1 ≤ n) (l Bs b off L N len cap : Nat) (hlen : len = L * N) (hL : 0 < L) (hcap : len ≤ cap) (hl9 : len ≤ 1000000) (J Jx : List Nat → World → Prop) (hJd : ∀ pre W, J pre W → J pre W.drew)
    (hY : ∀ pre x W, J pre W → pre.length < N → x < N → YieldAt F (n - 1) Try.prog l #[.slice (some ⟨b, off + L * x, none⟩) L L] W fun e W' =>
      (e = .returned (.bool true) ∧ J (pre ++ [x]) W' ∧ Kc Bs W W') ∨ (e = .returned (.bool false) ∧ Jx (pre ++ [x]) W'))
    (W : World) (hB1 : Blo W Bs 30 #[.slice (some ⟨b, off, none⟩) len cap]) (hB2 : Blo W (Bs + 1) 3 #[.int .i64 L]) (h0 : J [] W) :
    CallsIn F n Try.prog 39 #[.func (.yield l) #[] #[], .pointer (some ⟨Bs, 0, none⟩), .pointer (some ⟨Bs + 1, 0, none⟩)] W fun e W' => (∃ v, e = .returned v) ∧
      ((∃ ys, ys = List.range N ∧ J ys W') ∨ (∃ pre, (∃ k, k ≤ N ∧ pre = List.range k) ∧ Jx pre W')) := by
  refine callsIn_of_wp Try.func39 rfl hF ?_ hro
  simp only [Try.ntmps39, List.size_toArray, List.length_cons, List.length_nil, Nat.reduceAdd, Nat.reduceSub, Array.replicate_succ, Array.replicate_zero, List.push_toArray, List.append_toArray, List.nil_append, List.cons_append]
  gi_wp2
  gi_loopw [4, 5] (fun i _ wr => ∃ k : Nat, k ≤ N ∧ i = .int .i64 ((L * k : Nat) : Int) ∧ J (List.range k) wr ∧ Kc Bs W wr)
    (fun i _ _ => len - (intOf i).toNat)
  case atStart => exact ⟨0, Nat.zero_le _, rfl, h0, Kc.refl _ _⟩
  case round =>
    obtain ⟨k, hk, rfl, hJs, hkc⟩ := hrel
    have hc1 : wr.cell? ⟨Bs, 0, none⟩ = some (.slice (some ⟨b, off, none⟩) len cap) := (World.cell?_of_block (a := ⟨Bs, 0, none⟩) hkc.1).trans (by rw [hB1.cell]; rfl)
    have hc2 : wr.cell? ⟨Bs + 1, 0, none⟩ = some (.int .i64 L) := (World.cell?_of_block (a := ⟨Bs + 1, 0, none⟩) hkc.2).trans (by rw [hB2.cell]; rfl)
    have HK := Lib.hid hkc
    by_cases hlt : k < N
    · obtain ⟨fn, tmps, assign, body, hy, hR⟩ := hY _ k wr.drew (hJd _ _ hJs) (by rw [List.length_range]; exact hlt) hlt
      have hm : L * k + L ≤ len := by
        rw [hlen, ← Nat.mul_succ]
        exact Nat.mul_le_mul_left _ hlt
      have HM : Hid (L * k + L = L * (k + 1)) := by show _ = _; rw [Nat.mul_succ]
      clear hlen hY hJs hkc
      generalize hq : L * k = q at *
      have hs1 := fun W => chunk_from b off len cap q (by omega) hcap hl9 W
      have hs2 := fun W => chunk_cut b off len cap q (q + L) (by omega) hm hcap hl9 W
      rw [Nat.add_sub_cancel_left] at hs2
      have hmin : (len - q < L) = False := eq_false (by omega)
      have hmin2 : ((len : Int) - (q : Int) < (L : Int)) = False := eq_false (by omega)
      gi_wp2
      gi_region
      all_goals
        gi_wp2
        refine hR.mono ?_
        rintro e W3 (⟨rfl, hJ3, hk3⟩ | ⟨rfl, hJx3⟩)
        · have HK3 := Lib.hid (HK.out.trans (show Kc Bs wr W3 from hk3))
          have hc3 : W3.cell? ⟨Bs + 1, 0, none⟩ = some (.int .i64 L) := (World.cell?_of_block (a := ⟨Bs + 1, 0, none⟩) hk3.2).trans hc2
          gi_wp2
          go_roundw
          case rel => exact ⟨k + 1, by omega, by rw [← HM.out]; simp, by rw [List.range_succ]; exact hJ3, HK3.out⟩
          case measure => simp [intOf]; omega
        · gi_wp2
          refine bodyPost_ret (results_none rfl _ _ _) rfl ?_
          exact ⟨⟨_, rfl⟩, .inr ⟨_, ⟨k + 1, by omega, by rw [List.range_succ]⟩, hJx3⟩⟩
    · obtain rfl : k = N := by omega
      subst hlen
      gi_wp2
      go_end0
      exact ⟨⟨_, rfl⟩, .inl ⟨_, rfl, hJs⟩⟩
theorem chunk_stops (n : Nat) (hn : 1 ≤ n) (Bs b off L N len cap : Nat) (hlen : len = L * N) (hL : 0 < L) (hcap : len ≤ cap) (hl9 : len ≤ 1000000) (w : World) (hB1 : Blo w Bs 30 #[.slice (some ⟨b, off, none⟩) len cap]) (hB2 : Blo w (Bs + 1) 3 #[.int .i64 L]) :
    SeqStopsK Fence.wide n Try.prog 39 #[.pointer (some ⟨Bs, 0, none⟩), .pointer (some ⟨Bs + 1, 0, none⟩)] (fun x : Fin N => #[Value.slice (some ⟨b, off + L * x.val, none⟩) L L]) (Kc Bs) (fun ys => ys.map (·.val) = List.range N) (fun _ => True) N w := fun l J Jx W hW hJ _ hY h0 => by
  refine (chunk1_in Fence.wide n trivial rfl hn l Bs b off L N len cap hlen hL hcap hl9 (fun pre W => ∃ ys : List (Fin N), ys.map (·.val) = pre ∧ J ys W) (fun _ W => ∃ ys : List (Fin N), Jx ys W)
    (fun pre W ⟨ys, e, h⟩ => ⟨ys, e, hJ ys W _ none h ⟨rfl, rfl, rfl, Nat.le_refl _, fun _ _ _ => rfl⟩ (fun r e => by cases e)⟩)
    (fun pre x W1 ⟨ys, e, h⟩ hlen hx => ?_) W (hB1.below hW hB1.lt) (hB2.below hW hB2.lt) ⟨[], rfl, h0⟩).mono ?_
  · refine (hY ys ⟨x, hx⟩ W1 h (by rw [← e, List.length_map] at hlen; exact hlen)).mono ?_
    rintro e2 W2 (⟨rfl, h2, h3⟩ | ⟨rfl, h2⟩)
    · exact .inl ⟨rfl, ⟨ys ++ [⟨x, hx⟩], by rw [List.map_append, e]; rfl, h2⟩, h3⟩
    · exact .inr ⟨rfl, _, h2⟩
  · rintro e2 W2 ⟨hv, ⟨ys, rfl, zs, e, h⟩ | ⟨pre, _, zs, h⟩⟩
    · exact ⟨hv, .inl ⟨zs, e, h⟩⟩
    · exact ⟨hv, .inr ⟨zs, trivial, h⟩⟩
end Go.Proofs.Ytkdjfhbdcfjnnaa
