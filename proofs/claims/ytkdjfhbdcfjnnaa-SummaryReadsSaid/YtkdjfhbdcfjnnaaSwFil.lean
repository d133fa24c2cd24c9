/-
  A row of bytes that was made with room: what was put, then zeros; 'append' into it; summary.number.
-/
import Derived.Test.YtkdjfhbdcfjnnaaSwMath
import Derived.Test.YtkdjfhbdcfjnnaaOut
import Derived.Laws.AppendOwn
namespace Go.Proofs.Ytkdjfhbdcfjnnaa
open Go.RowKit

abbrev U8 := 5
/-- A row of bytes of room c that begins with xs; zeros behind. -/
structure Fil (w : World) (g c : Nat) (xs : List Nat) : Prop where
  len : xs.length ≤ c
  lt : ∀ x ∈ xs, x < 256
  blo : Blo w g U8 (cellsB (zpad c xs)).toArray
section
variable {w w' : World} {g c : Nat} {xs : List Nat}
theorem Fil.later (h : Fil w g c xs) (hb : Below w.heap.size w w') : Fil w' g c xs := ⟨h.len, h.lt, h.blo.later hb⟩
theorem Fil.grown {row : Option Nat} (h : Fil w g c xs) (hb : w.grownBy w' row) (hg : some g ≠ row) : Fil w' g c xs := ⟨h.len, h.lt, h.blo.grown hb hg⟩
theorem Fil.bytes (h : Fil w g c xs) (hc : c ≤ 1000000) : Bytes w (some ⟨g, 0, none⟩) (zpad c xs) := by
  have hl := zpad_len h.len
  refine ⟨zpad_lt h.lt, by omega, fun _ => ⟨g, 0, rfl, fun i hi => ?_⟩⟩
  rw [Nat.zero_add, h.blo.cell, ← Array.getElem?_toList]
  exact cellsB_get _ _ hi
end
theorem zpad_app {c : Nat} {xs l : List Nat} (h : xs.length + l.length ≤ c) : (zpad c xs).take xs.length ++ l ++ (zpad c xs).drop (xs.length + l.length) = zpad c (xs ++ l) := by
  unfold zpad
  rw [List.take_left' rfl, ← List.drop_drop, List.drop_left' rfl, List.drop_replicate, List.length_append]
  rw [show c - xs.length - l.length = c - (xs.length + l.length) by omega]
theorem run_append_fil {P : Program} {w : World} (ty t : TypeId)
    (ht : P.underlying t = some (.slice U8)) (hi : (P.info? U8).map (fun i => (i.zero, i.size, i.bytes)) = some (some (.int .u8 0), 1, 1))
    (g c n : Nat) (xs : List Nat) (hn : n = xs.length) (hF : Fil w g c xs)
    (a : Option Addr) (m cap : Nat) (l : List Nat) (hm : m = l.length) (hl : Bytes w a l) (hne : l ≠ []) (hroom : n + m ≤ c) :
    ∃ w', (Builtin.append_ #[t, t] ty #[.slice (some ⟨g, 0, none⟩) n c, .slice a m cap]).run P w = .ok (.slice (some ⟨g, 0, none⟩) (n + m) c) w' ∧ Fil w' g c (xs ++ l) ∧ w.grownBy w' (some g) := by
  obtain ⟨i, hi0, hz, hs1, hb1⟩ := info_parts hi
  subst hn hm
  obtain ⟨b, off, rfl, hc⟩ := hl.2.2 hne
  have hzl := zpad_len hF.len
  have hrun := run_append_room (P := P) w t ty U8 i ht hi0 g xs.length c (cellsB (zpad c xs)).toArray hF.blo ⟨b, off, none⟩ l.length cap (cellsB l) (by rw [cellsB_length, hs1, Nat.mul_one])
    (fun j u hj => by
      have hjl : j < l.length := by
        rcases Nat.lt_or_ge j l.length with h | h
        · exact h
        · rw [List.getElem?_eq_none (by rw [cellsB_length]; exact h)] at hj; cases hj
      rw [cellsB_get l j hjl] at hj
      cases hj
      rw [Addr.add_lit]; exact hc j hjl)
    (fun u hu => by
      simp only [cellsB, List.mem_map] at hu
      obtain ⟨_, _, rfl⟩ := hu
      rfl) hroom (by rw [hs1, Nat.mul_one, cellsB_length]; simp only [List.size_toArray, cellsB_length]; omega)
  rw [hs1, Nat.mul_one, cellsB_length] at hrun
  have e1 : (List.take xs.length (cellsB (zpad c xs)).toArray.toList ++ cellsB l ++ List.drop (xs.length + l.length) (cellsB (zpad c xs)).toArray.toList).toArray = (cellsB (zpad c (xs ++ l))).toArray := by
    rw [← zpad_app hroom]
    simp [cellsB, List.map_append, List.map_take, List.map_drop]
  rw [e1] at hrun
  refine ⟨_, hrun, ⟨by rw [List.length_append]; exact hroom, app_lt hF.lt hl.1, ?_⟩, ?_⟩
  · have := hF.blo.lt
    unfold Blo World.setRow
    have hb := hF.blo
    unfold Blo at hb
    simp [Array.getElem?_modify, hb]
  · refine ⟨rfl, rfl, rfl, by simp [World.setRow], fun k _ hne => ?_⟩
    have : k ≠ g := fun e => hne (by rw [e])
    simp [World.setRow, Array.getElem?_modify, Ne.symm this]
theorem wp_append_fil {P : Program} {w : World} {ops : Array Oper} {rest : List Oper} {o : Oper} {act : Act} {Q : Exit → Act → World → Prop} (hgd : o.guard = none) (s x : Operand) (t : TypeId)
    (ho : o.op = .call { callee := .builtin .append, args := #[s, x], argTypes := #[t, t] })
    (ht : P.underlying t = some (.slice U8)) (hi : (P.info? U8).map (fun i => (i.zero, i.size, i.bytes)) = some (some (.int .u8 0), 1, 1))
    (g c n : Nat) (xs : List Nat) (hs : act.eval s = .slice (some ⟨g, 0, none⟩) n c) (hn : n = xs.length) (hF : Fil w g c xs)
    (a : Option Addr) (m cap : Nat) (l : List Nat) (hx : act.eval x = .slice a m cap) (hm : m = l.length) (hl : Bytes w a l) (hne : l ≠ []) (hroom : n + m ≤ c)
    (h : ∀ w', Fil w' g c (xs ++ l) → w.grownBy w' (some g) → wpList P ops Q rest (act.put o.dst (.slice (some ⟨g, 0, none⟩) (n + m) c)) w') : wpList P ops Q (o :: rest) act w := by
  refine wpList_plain hgd fun K hK => ?_
  obtain ⟨W', hrun, hF', hg'⟩ := run_append_fil (P := P) o.type t ht hi g c n xs hn hF a m cap l hm hl hne hroom
  unfold Oper.wp
  simp [execOp, ho, resolve, invoke, builtin, hs, hx, hrun, Result.andThen]
  exact hK _ _ (h W' hF' hg')
theorem info_u8 : (Try.prog.info? U8).map (fun i => (i.zero, i.size, i.bytes)) = some (some (.int .u8 0), 1, 1) := by kernel_rfl
def FilR (w : World) (g c : Nat) (xs : List Nat) (wr : World) : Prop := Fil wr g c xs ∧ w.grownBy wr (some g)
theorem grown_trans {w w1 w2 : World} {g : Nat} (h1 : w.grownBy w1 (some g)) (h2 : w1.grownBy w2 (some g)) : w.grownBy w2 (some g) :=
  ⟨h2.os.trans h1.os, h2.tape.trans h1.tape, h2.output.trans h1.output, Nat.le_trans h1.size h2.size, fun k hk hne => (h2.block k (Nat.lt_of_lt_of_le hk h1.size) hne).trans (h1.block k hk hne)⟩
theorem grown_same (w : World) (g : Option Nat) : w.grownBy w g := ⟨rfl, rfl, rfl, Nat.le_refl _, fun _ _ _ => rfl⟩
theorem grown_alloc {w w1 : World} {g : Option Nat} (h : w.grownBy w1 g) (o : Obj) : w.grownBy (w1.alloc o) g :=
  ⟨h.os, h.tape, h.output, by have := h.size; simp; omega, fun k hk hne => (Below.heap_alloc w1 o k (Nat.lt_of_lt_of_le hk h.size)).trans (h.block k hk hne)⟩
set_option maxHeartbeats 4000000 in
theorem number_fil {w : World} (k v g c n : Nat) (xs : List Nat) (hF : Fil w g c xs) (hn : n = xs.length) (hr : n + k ≤ c) (hk8 : k ≤ 8) (hc9 : c ≤ 1000000) (hv : v < 4611686018427387904) :
    Calls Try.prog 25 #[.slice (some ⟨g, 0, none⟩) n c, .int .i64 k, .int .i64 v] w fun e w' => e = .returned (.slice (some ⟨g, 0, none⟩) (n + k) c) ∧ Fil w' g c (xs ++ num k v) ∧ w.grownBy w' (some g) := by
  have HR := Lib.hid (show FilR w g c xs w from ⟨hF, grown_same _ _⟩)
  have HN := Lib.hid hn
  clear hF hn
  go_enter Try.func25, Try.ntmps25
  go_wp2_with fail
  go_loopw [0, 7, 9] (fun s _ t wr => ∃ j : Nat, j ≤ k ∧ t = .int .i64 j ∧ s = .slice (some ⟨g, 0, none⟩) (n + j) c ∧ FilR w g c (xs ++ num j v) wr) (fun _ _ t _ => k - (intOf t).toNat)
  case atStart => exact ⟨0, Nat.zero_le _, rfl, rfl, by simpa [num] using HR.out⟩
  case round =>
    clear HR
    obtain ⟨j, hj, rfl, rfl, hR⟩ := hrel
    have HR := Lib.hid hR
    clear hR
    by_cases hlt : j < k
    · have HC : Hid (∀ i, i < [v / 256 ^ j % 256].length → (#[Value.int .u8 (↑v / 2 ^ (8 * j) % 256)] : Array Value)[i]? = some (.int .u8 (([v / 256 ^ j % 256].getD i 0 : Nat) : Int))) := fun i hi => by
        have hi0 : i = 0 := by simpa using hi
        subst hi0
        have e1 : (((v / 256 ^ j % 256 : Nat)) : Int) = (v : Int) / 2 ^ (8 * j) % 256 := by
          rw [show (256 : Nat) ^ j = 2 ^ (8 * j) by rw [Nat.pow_mul]]
          rw [Int.natCast_emod, Int.natCast_ediv, Int.natCast_pow]
          rfl
        show some _ = some _
        rw [← e1]
        rfl
      have HG := Lib.hid (grown_alloc HR.out.2 (.cells #[.int .u8 (↑v / 2 ^ (8 * j) % 256)] U8))
      have HL := Lib.hid (sup_pc wr (.cells #[.int .u8 (↑v / 2 ^ (8 * j) % 256)] U8))
      go_wp2_with (at_builtin; refine wp_append_fil rfl (.tmp 12) (.tmp 18) 30 rfl Try.underlying30 info_u8 g c (n + j) (xs ++ num j v) rfl (by rw [List.length_append, num_len, HN.out]) (HR.out.1.later HL.out) (some ⟨wr.heap.size, 0, none⟩) 1 1 [v / 256 ^ j % 256] rfl rfl (Bytes.laid wr [v / 256 ^ j % 256] _ _ _ (fun x hx => by rw [List.mem_singleton.1 hx]; exact Nat.mod_lt _ (by decide)) (by simp) HC.out) (by simp) (by omega) ?_; intro w2 hF2 hg2; have HF2 := Lib.hid hF2; have HG2 := Lib.hid (grown_trans HG.out hg2); clear hF2 hg2)
      go_roundw
      case rel => exact ⟨j + 1, by omega, by simp, rfl, by rw [num_succ, ← List.append_assoc]; exact ⟨HF2.out, HG2.out⟩⟩
      case measure => simp [intOf]; omega
    · obtain rfl : j = k := by omega
      go_wp2
      go_ret
      exact ⟨rfl, HR.out.1, HR.out.2⟩
end Go.Proofs.Ytkdjfhbdcfjnnaa
