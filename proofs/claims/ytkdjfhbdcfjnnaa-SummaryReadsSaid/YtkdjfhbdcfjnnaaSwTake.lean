/-
  summary.reader.take: numbers from bytes, one behind the other; what isn't there is zero.
-/
import Derived.Test.YtkdjfhbdcfjnnaaSwFil
import Derived.Deep.DeepCutAuto
import Derived.BigRegion
import Derived.RangeFuncOwn
namespace Go.Proofs.Ytkdjfhbdcfjnnaa
open Go.RowKit

abbrev TRD := 80
def val (l : List Nat) : Nat := l.foldr (fun b v => b + 256 * v) 0
theorem val_nil : val [] = 0 := rfl
theorem val_lt : ∀ l : List Nat, (∀ x ∈ l, x < 256) → val l < 256 ^ l.length
  | [], _ => by decide
  | b :: l, h => by
    have h1 := val_lt l (fun x hx => h x (List.mem_cons_of_mem _ hx))
    have h2 := h b (List.mem_cons_self ..)
    show b + 256 * val l < 256 ^ (l.length + 1)
    rw [Nat.pow_succ]
    omega
theorem val_snoc : ∀ (l : List Nat) (x : Nat), val (l ++ [x]) = val l + x * 256 ^ l.length
  | [], x => by simp [val]
  | b :: l, x => by
    have := val_snoc l x
    show b + 256 * val (l ++ [x]) = b + 256 * val l + x * 256 ^ (l.length + 1)
    rw [this, Nat.pow_succ, Nat.mul_add, ← Nat.mul_assoc, ← Nat.mul_assoc]
    have : 256 * x * 256 ^ l.length = x * 256 ^ l.length * 256 := by rw [Nat.mul_comm 256 x, Nat.mul_assoc, Nat.mul_comm 256, ← Nat.mul_assoc]
    omega
structure RdS (w : World) (R : Nat) (a : Option Addr) (n cap : Nat) (l : List Nat) : Prop where
  blo : Blo w R TRD #[.slice a n cap]
  len : n = l.length
  le : n ≤ cap
  lt : n ≤ 1000
  bytes : Bytes w a l
  nil : a = none → l = [] ∧ cap = 0
theorem Bytes.aside {w w' : World} {a : Option Addr} {l : List Nat} {R : Nat} {t : TypeId} {v : Value} (h : Bytes w a l) (hB : Blo w R t #[v]) (hv : ∀ k n, v ≠ .int k n) (hg : w.grownBy w' (some R)) : Bytes w' a l :=
  ⟨h.1, h.2.1, fun hl => by
    obtain ⟨b, o, ha, hc⟩ := h.2.2 hl
    refine ⟨b, o, ha, fun i hi => ?_⟩
    have hne : b ≠ R := fun e => by
      subst e
      have h1 := hc i hi
      rw [hB.cell] at h1
      have : o + i = 0 := by
        rcases Nat.eq_zero_or_pos (o + i) with h | h
        · exact h
        · rw [Array.getElem?_eq_none (by simp; omega)] at h1; cases h1
      rw [this] at h1
      exact hv _ _ (Option.some.inj h1)
    have hlt : b < w.heap.size := by
      obtain ⟨o', ho', _⟩ := cells_of_cell (hc i hi)
      exact (Array.getElem?_eq_some_iff.1 ho').1
    exact (World.cell?_of_block (a := ⟨b, o + i, Option.none⟩) (hg.block b hlt (by simpa using hne))).trans (hc i hi)⟩
theorem size_u8t (w : World) : (Go.sizeOf U8).run Try.prog w = .ok 1 w := by kernel_rfl
theorem or_i64_nat (a b : Nat) (ha : a < 4611686018427387904) (hb : b < 4611686018427387904) : bits .or .i64 (a : Int) (b : Int) = ((a ||| b : Nat) : Int) := by
  have hx : a ||| b < 2 ^ 62 := Nat.or_lt_two_pow (by omega) (by omega)
  have h1 : (BitVec.ofInt 64 (a : Int)).toNat = a := by
    rw [BitVec.ofInt_natCast, BitVec.toNat_ofNat]; exact Nat.mod_eq_of_lt (by omega)
  have h2 : (BitVec.ofInt 64 (b : Int)).toNat = b := by
    rw [BitVec.ofInt_natCast, BitVec.toNat_ofNat]; exact Nat.mod_eq_of_lt (by omega)
  show IntKind.i64.wrap ((BitVec.ofInt 64 (a : Int) ||| BitVec.ofInt 64 (b : Int)).toNat : Int) = _
  rw [BitVec.toNat_or, h1, h2, IntKind.wrap_i64]
  omega
theorem or_step (u z j : Nat) (hu : u < 256 ^ j) (hz : z < 256) (hj : j ≤ 3) : bits .or .i64 (u : Int) (wrap64 ((z : Int) * 2 ^ (8 * j))) = ((u + z * 256 ^ j : Nat) : Int) := by
  have e : (256 : Nat) ^ j = 2 ^ (8 * j) := by rw [Nat.pow_mul]
  have hp : (256 : Nat) ^ j ≤ 256 ^ 3 := Nat.pow_le_pow_right (by decide) hj
  have hzp : z * 256 ^ j ≤ 255 * 256 ^ 3 := Nat.mul_le_mul (by omega) hp
  have hc : (z : Int) * 2 ^ (8 * j) = ((z * 256 ^ j : Nat) : Int) := by rw [e, Int.natCast_mul, Int.natCast_pow]; rfl
  have hw : wrap64 ((z : Int) * 2 ^ (8 * j)) = ((z * 256 ^ j : Nat) : Int) := by
    rw [hc]; unfold wrap64; omega
  rw [hw, or_i64_nat _ _ (by omega) (by omega)]
  congr 1
  rw [e] at hu ⊢
  rw [Nat.or_comm, ← Nat.shiftLeft_eq, ← Nat.shiftLeft_add_eq_or_of_lt hu, Nat.add_comm]
theorem slice_tail2 {P : Program} (T e : TypeId) (ht : P.underlying T = some (.slice e)) (hz : ∀ w, (Go.sizeOf e).run P w = .ok 1 w) {a : Option Addr} {l : List Nat} {n cap : Nat} (hn : n = l.length)
    (ha : a = none → l = [] ∧ cap = 0) (hc : n ≤ cap) (h9 : n ≤ 1000) (k : Nat) (hk : k ≤ n) :
    ∃ a', (∀ W, (Instr.slice T (.slice a n cap) (some (.int .i64 (k : Int))) none none).run P W = .ok (.slice a' (n - k) (cap - k)) W) ∧ (∀ w : World, Bytes w a l → Bytes w a' (l.drop k)) ∧ (a' = none → l.drop k = [] ∧ cap - k = 0) := by
  have ht' : P.underlying T = some (.slice (P.elem T)) := by simp [Program.elem, ht]
  have he : P.elem T = e := by simp [Program.elem, ht]
  refine ⟨if cap = k then a else a.map (·.add (k * 1)), fun W => ?_, fun w h => ?_, ?_⟩
  · rw [run_slice_l W T _ _ _ ht' .i64 _ (by omega) (by omega), he, hz]
    simp [Result.andThen, sliced]
  · refine ⟨fun x hx => h.1 x (List.mem_of_mem_drop hx), by have := h.2.1; simp; omega, fun hne => ?_⟩
    have hlen : k < l.length := by
      rcases Nat.lt_or_ge k l.length with hh | hh
      · exact hh
      · exact absurd (List.drop_eq_nil_of_le hh) hne
    have hl : l ≠ [] := fun e => by subst e; simp at hlen
    obtain ⟨b, o, rfl, hcell⟩ := h.2.2 hl
    rw [if_neg (by omega)]
    refine ⟨b, o + k, by simp [Addr.add_lit], fun i hi => ?_⟩
    simp only [List.length_drop] at hi
    rw [Nat.add_assoc, hcell (k + i) (by omega), List.getD_eq_getElem?_getD, List.getD_eq_getElem?_getD, List.getElem?_drop]
  · intro hn'
    cases a with
    | none => obtain ⟨rfl, h0⟩ := ha rfl; exact ⟨by simp, by omega⟩
    | some x => split at hn' <;> simp at hn'
theorem rds_cut {w : World} {R n cap : Nat} {a : Option Addr} {l : List Nat} (h : RdS w R a n cap l) (a' : Option Addr) (n' cap' j : Nat) (hj : j ≤ n) (hn' : n' = n - j) (hy : Bytes w a' (l.drop j)) (hnl : a' = none → l.drop j = [] ∧ cap - j = 0) (hc' : cap' = cap - j := by rfl) :
    RdS (w.setCell ⟨R, 0, none⟩ (.slice a' n' cap')).drew R a' n' cap' (l.drop j) ∧ w.grownBy (w.setCell ⟨R, 0, none⟩ (.slice a' n' cap')).drew (some R) := by
  subst hn' hc'
  have hg : w.grownBy (w.setCell ⟨R, 0, none⟩ (.slice a' (n - j) (cap - j))).drew (some R) := by
    have := grown_put w ⟨R, 0, none⟩ (.slice a' (n - j) (cap - j))
    exact ⟨this.os, this.tape, this.output, this.size, this.block⟩
  refine ⟨⟨(h.blo.put 0 (.slice a' (n - j) (cap - j))).drew, ?_, ?_, ?_, hy.aside h.blo (fun k m => by simp) hg, hnl⟩, hg⟩
  · rw [List.length_drop, h.len]
  · have := h.le; omega
  · have := h.lt; omega
set_option maxHeartbeats 4000000 in
theorem take_any {w : World} (k R : Nat) (a : Option Addr) (n cap : Nat) (l : List Nat) (h : RdS w R a n cap l) (hk : k ≤ 4) :
    Calls Try.prog 44 #[.pointer (some ⟨R, 0, none⟩), .int .i64 k] w fun e w' => ∃ a' n' cap', e = .returned (.int .i64 (val (l.take k) : Nat)) ∧ RdS w' R a' n' cap' (l.drop k) ∧ w.grownBy w' (some R) ∧ ∀ W, Bytes W a l → Bytes W a' (l.drop k) := by
  have HR := Lib.hid h
  have c0 := h.blo.cell 0
  have f0 := h.blo.frozen 0
  have hn := h.lt
  simp at c0
  clear h
  rcases Nat.lt_or_ge n k with hc | hc
  · have hmin : ((n : Int) < (k : Int)) = True := eq_true (by omega)
    have hmin2 : (n < k) = True := eq_true (by omega)
    go_enter Try.func44, Try.ntmps44
    go_wp2_with fail
    go_loopw [5, 6, 14] (fun v _ t wr => ∃ j : Nat, j ≤ n ∧ t = .int .i64 j ∧ v = .int .i64 (val (l.take j) : Nat) ∧ wr = w) (fun _ _ t _ => n - (intOf t).toNat)
    case atStart => exact ⟨0, Nat.zero_le _, rfl, rfl, rfl⟩
    case round =>
      obtain ⟨j, hj, rfl, rfl, rfl⟩ := hrel
      by_cases hjl : j < n
      · have hjl' : j < l.length := by have := HR.out.len; omega
        obtain ⟨b, o, rfl, hc⟩ := HR.out.bytes.2.2 (fun e => by rw [e] at hjl'; cases hjl')
        have t1 := hc j hjl'
        have hb8 : l.getD j 0 < 256 := getD_byte HR.out.bytes.1 j
        have hv8 : val (l.take j) < 256 ^ j := by
          have := val_lt (l.take j) (fun x hx => HR.out.bytes.1 x (List.mem_of_mem_take hx))
          rwa [List.length_take, Nat.min_eq_left (by omega)] at this
        have HV : Hid (val (l.take (j + 1)) = val (l.take j) + l.getD j 0 * 256 ^ j) := by
          show _ = _
          rw [take_snocF l 0 j hjl', val_snoc, List.length_take, Nat.min_eq_left (by omega)]
        clear hc
        generalize val (l.take j) = u at *
        generalize l.getD j 0 = z at *
        have HO := Lib.hid (or_step u z j hv8 hb8 (by omega))
        go_wp2_with fail
        go_roundw
        case rel => exact ⟨j + 1, by omega, by simp, by rw [HV.out]; exact congrArg _ HO.out, trivial⟩
        case measure => simp [intOf]; omega
      · obtain rfl : j = n := by omega
        obtain ⟨a', hsl, hby, hnl⟩ := slice_tail2 30 5 Try.underlying30 size_u8t HR.out.len HR.out.nil HR.out.le hn j (by omega)
        have HY := Lib.hid hby
        have HNl := Lib.hid hnl
        have HTk : Hid (l.take j = l.take k ∧ l.drop j = l.drop k) := by
          have hx := HR.out.len
          constructor
          · exact (List.take_of_length_le (by omega)).trans (List.take_of_length_le (by omega)).symm
          · exact (List.drop_of_length_le (by omega)).trans (List.drop_of_length_le (by omega)).symm
        clear hby hnl hjl
        go_wp2_with fail
        have HS := Lib.hid (rds_cut HR.out a' (0) (cap - j) j (by omega) (by omega) (HY.out _ HR.out.bytes) HNl.out)
        go_region
        go_wp2
        go_ret
        exact ⟨a', _, _, (by rw [HTk.out.1]; rfl), by rw [← HTk.out.2]; exact HS.out.1, HS.out.2, by rw [← HTk.out.2]; exact HY.out⟩
  · have hmin : ((n : Int) < (k : Int)) = False := eq_false (by omega)
    have hmin2 : (n < k) = False := eq_false (by omega)
    go_enter Try.func44, Try.ntmps44
    go_wp2_with fail
    go_loopw [5, 6, 14] (fun v _ t wr => ∃ j : Nat, j ≤ k ∧ t = .int .i64 j ∧ v = .int .i64 (val (l.take j) : Nat) ∧ wr = w) (fun _ _ t _ => k - (intOf t).toNat)
    case atStart => exact ⟨0, Nat.zero_le _, rfl, rfl, rfl⟩
    case round =>
      obtain ⟨j, hj, rfl, rfl, rfl⟩ := hrel
      by_cases hjl : j < k
      · have hjl' : j < l.length := by have := HR.out.len; omega
        obtain ⟨b, o, rfl, hc⟩ := HR.out.bytes.2.2 (fun e => by rw [e] at hjl'; cases hjl')
        have t1 := hc j hjl'
        have hb8 : l.getD j 0 < 256 := getD_byte HR.out.bytes.1 j
        have hv8 : val (l.take j) < 256 ^ j := by
          have := val_lt (l.take j) (fun x hx => HR.out.bytes.1 x (List.mem_of_mem_take hx))
          rwa [List.length_take, Nat.min_eq_left (by omega)] at this
        have HV : Hid (val (l.take (j + 1)) = val (l.take j) + l.getD j 0 * 256 ^ j) := by
          show _ = _
          rw [take_snocF l 0 j hjl', val_snoc, List.length_take, Nat.min_eq_left (by omega)]
        clear hc
        generalize val (l.take j) = u at *
        generalize l.getD j 0 = z at *
        have HO := Lib.hid (or_step u z j hv8 hb8 (by omega))
        go_wp2_with fail
        go_roundw
        case rel => exact ⟨j + 1, by omega, by simp, by rw [HV.out]; exact congrArg _ HO.out, trivial⟩
        case measure => simp [intOf]; omega
      · obtain rfl : j = k := by omega
        obtain ⟨a', hsl, hby, hnl⟩ := slice_tail2 30 5 Try.underlying30 size_u8t HR.out.len HR.out.nil HR.out.le hn j (by omega)
        have HY := Lib.hid hby
        have HNl := Lib.hid hnl
        have HTk : Hid (l.take j = l.take j ∧ l.drop j = l.drop j) := by
          have hx := HR.out.len
          constructor
          · rfl
          · rfl
        clear hby hnl hjl
        go_wp2_with fail
        have HS := Lib.hid (rds_cut HR.out a' (n - j) (cap - j) j (by omega) (by omega) (HY.out _ HR.out.bytes) HNl.out)
        go_region
        go_wp2
        go_ret
        exact ⟨a', _, _, rfl, HS.out.1, HS.out.2, HY.out⟩
end Go.Proofs.Ytkdjfhbdcfjnnaa
