/-
  The document's Decode of 128 bytes: what its loops keep.
-/
import Derived.Test.YtkdjfhbdcfjnnaaSwRDm
import Derived.Test.YtkdjfhbdcfjnnaaSwDec
import Derived.Test.YtkdjfhbdcfjnnaaSwREnc
import Derived.BigRegion
import Derived.Deep.CutBlock
import Derived.Deep.DeepCutAuto
namespace Go.Proofs.Ytkdjfhbdcfjnnaa
open Go.RowKit

theorem size_u8d (w : World) : (Go.sizeOf U8).run Try.prog w = .ok 1 w := by kernel_rfl
theorem cut_eleven (b o cap k : Nat) (hk : k < 8) (hcap : 128 ≤ cap) (W : World) :
    (Instr.slice 30 (.slice (some ⟨b, o, none⟩) 128 cap) (some (.int .i64 (16 * (k : Int) + 5))) (some (.int .i64 (16 * (k : Int) + 16))) none).run Try.prog W = .ok (.slice (some ⟨b, o + (16 * k + 5), none⟩) 11 (cap - (16 * k + 5))) W := by
  have ht' : Try.prog.underlying 30 = some (.slice (Try.prog.elem 30)) := by simp [Program.elem, Try.underlying30]
  have he : Try.prog.elem 30 = 5 := by simp [Program.elem, Try.underlying30]
  rw [run_slice_lh W 30 _ _ _ ht' .i64 .i64 _ _ (by omega) (by omega) (by omega), he, size_u8d]
  have e1 : (16 * (k : Int) + 5).toNat = 16 * k + 5 := by omega
  have e2 : (16 * (k : Int) + 16).toNat = 16 * k + 16 := by omega
  have e3 : ¬ (cap - (16 * k + 5) = 0) := by omega
  have e4 : 16 * k + 16 - (16 * k + 5) = 11 := by omega
  simp [Result.andThen, sliced, Addr.add_lit, e1, e2, e3, e4]
  omega
theorem gat_lt' {l : List Nat} (h : ∀ x ∈ l, x < 256) (n : Nat) : ∀ x ∈ gat l n, x < 256 := gat_lt h n
def GaR (w : World) (P : Nat) (e c : Int) (l : List Nat) (v t : Value) (wr : World) : Prop :=
  ∃ (k : Nat) (a : Option Addr) (cp : Nat), k ≤ 8 ∧ t = .int .i64 k ∧ v = .slice a (11 * k) cp ∧ wr.ownsRow (P + 1) U8 1 (.slice a (11 * k) cp) (11 * k) (cellsB (gat l k)) ∧ Blo wr w.heap.size 25 zP7 ∧ Blo wr P 25 #[.int .i64 e, .int .i64 c, .int .i64 0, .int .i64 0, .int .i64 0, .slice none 0 0, .slice none 0 0] ∧ Below w.heap.size w wr ∧ P + 1 ≤ wr.heap.size
theorem Dr.at_ {w wr : World} {W : List Nat} {e c i p x : Int} {P : Nat} {fv iv : Value} {wa : Option Addr} {wc : Nat} (h : Dr w W e c i p x P fv iv (.slice wa 88 wc) wr) (hW : ∀ y ∈ W, y < 256) (hl : W.length = 88) (k : Nat) (hk : k ≤ 1000) :
    Calls Try.prog 38 #[.slice wa 88 wc, .int .i64 k] wr fun e w' => e = .returned (.int .i64 (at' W k : Nat)) ∧ wr = w' := by
  obtain ⟨g, rfl, _, hy⟩ := own_bytes h.row hW hl (by decide)
  exact at_any _ 88 wc W k hl.symm hy (by decide) (by omega)
theorem Dr.atZ {w wr : World} {W : List Nat} {e c i p x : Int} {P : Nat} {fv iv : Value} {wa : Option Addr} {wc : Nat} (h : Dr w W e c i p x P fv iv (.slice wa 88 wc) wr) (hW : ∀ y ∈ W, y < 256) (hl : W.length = 88) (z : Int) (k : Nat) (hz : z = (k : Int)) (hk : k ≤ 1000) :
    Calls Try.prog 38 #[.slice wa 88 wc, .int .i64 z] wr fun e w' => e = .returned (.int .i64 (at' W k : Nat)) ∧ wr = w' := by
  subst hz
  exact h.at_ hW hl k hk
theorem filesD_get (w : List Nat) {n k : Nat} (h : k < n) : (filesD w n).getD k fi0 = fiD w (posD w k) := by simp [filesD, List.getD_eq_getElem?_getD, h]
theorem flo_fs {l l' : List Fi} {av : Nat → Value} {k : Nat} (h : ∀ i, i < k → l.getD i fi0 = l'.getD i fi0) : flo l av k = flo l' av k := by
  induction k with
  | zero => rfl
  | succ k ih => rw [flo_succ, flo_succ, ih (fun i hi => h i (by omega)), h k (by omega)]
theorem Fo.congr {w : World} {base k : Nat} {v : Value} {av : Nat → Value} {l l' : List Fi} (h : Fo w base v av l k) (he : ∀ i, i < k → l.getD i fi0 = l'.getD i fi0) : Fo w base v av l' k := by
  refine ⟨by rw [← flo_fs he]; exact h.row, fun i hi => ?_⟩
  rw [← he i hi]
  exact h.its i hi
def D2R (w : World) (W : List Nat) (P : Nat) (e c i p x : Int) (wv : Value) (nf : Nat) (v t : Value) (wr : World) : Prop :=
  ∃ (k : Nat) (fa : Option Addr) (fc : Nat) (av : Nat → Value), k ≤ nf ∧ t = .int .i64 k ∧ v = .int .i64 (posD W k : Nat) ∧ (∀ i, i < k → posD W i < 88) ∧ posD W k ≤ 200 ∧
    Dr w W e c i p x P (.slice fa k fc) (.slice none 0 0) wv wr ∧ Fo wr (P + 1) (.slice fa k fc) av (filesD W nf) k ∧ SepAv av k ∧ P < wr.heap.size
def D2E (w : World) (W : List Nat) (P : Nat) (e c i p x : Int) (wv : Value) (nf : Nat) (v : Value) (wr : World) : Prop :=
  ∃ (k : Nat) (fa : Option Addr) (fc : Nat) (av : Nat → Value), k ≤ nf ∧ v = .int .i64 (posD W k : Nat) ∧ (∀ i, i < k → posD W i < 88) ∧ (k = nf ∨ 88 ≤ posD W k) ∧ posD W k ≤ 200 ∧
    Dr w W e c i p x P (.slice fa k fc) (.slice none 0 0) wv wr ∧ Fo wr (P + 1) (.slice fa k fc) av (filesD W nf) k ∧ SepAv av k ∧ P < wr.heap.size
def D3R (w : World) (W : List Nat) (P : Nat) (e c i p x : Int) (wv fv : Value) (nf k : Nat) (av : Nat → Value) (FB : Nat) (a0 a1 : Int) (o nl : Nat) (v t : Value) (wr : World) : Prop :=
  ∃ (j : Nat) (la : Option Addr) (lc : Nat), j ≤ nl ∧ t = .int .i64 j ∧ v = .int .i64 (o + 4 + 2 * j : Nat) ∧ (j = 0 ∨ o + 4 + 2 * j < 90) ∧
    Dr w W e c i p x P fv (.slice none 0 0) wv wr ∧ Blo wr FB FN #[.int .i64 a0, .int .i64 a1, .slice la j lc] ∧ wr.ownsRow (FB + 1) IT 1 (.slice la j lc) j (cellsI (lbAt W (o + 4) j)) ∧ Fo wr (P + 1) fv av (filesD W nf) k ∧ FB < wr.heap.size
def D3E (w : World) (W : List Nat) (P : Nat) (e c i p x : Int) (wv fv : Value) (nf k : Nat) (av : Nat → Value) (FB : Nat) (a0 a1 : Int) (o nl : Nat) (v : Value) (wr : World) : Prop :=
  ∃ (j : Nat) (la : Option Addr) (lc : Nat), j = cntD (o + 4) nl ∧ v = .int .i64 (o + 4 + 2 * j : Nat) ∧ o + 4 + 2 * j ≤ 200 ∧
    Dr w W e c i p x P fv (.slice none 0 0) wv wr ∧ Blo wr FB FN #[.int .i64 a0, .int .i64 a1, .slice la j lc] ∧ wr.ownsRow (FB + 1) IT 1 (.slice la j lc) j (cellsI (lbAt W (o + 4) j)) ∧ Fo wr (P + 1) fv av (filesD W nf) k ∧ FB < wr.heap.size
def D4R (w : World) (W : List Nat) (P : Nat) (e c i p x : Int) (wv fv : Value) (nf k : Nat) (av : Nat → Value) (SB o ni : Nat) (v t : Value) (wr : World) : Prop :=
  ∃ (j : Nat) (ia : Option Addr) (ic : Nat), j ≤ ni ∧ t = .int .i64 j ∧ v = .int .i64 (o + j : Nat) ∧ (∀ i, i < j → o + i < 88) ∧
    Dr w W e c i p x P fv (.slice ia j ic) wv wr ∧ wr.ownsRow SB IT 1 (.slice ia j ic) j (cellsI (inosM W o j)) ∧ Fo wr (P + 1) fv av (filesD W nf) k ∧ SB ≤ wr.heap.size
def D4E (w : World) (W : List Nat) (P : Nat) (e c i p x : Int) (wv fv : Value) (nf k : Nat) (av : Nat → Value) (SB o ni : Nat) (wr : World) : Prop :=
  ∃ (j : Nat) (ia : Option Addr) (ic : Nat), j ≤ ni ∧ (∀ i, i < j → o + i < 88) ∧ (j = ni ∨ 88 ≤ o + j) ∧
    Dr w W e c i p x P fv (.slice ia j ic) wv wr ∧ wr.ownsRow SB IT 1 (.slice ia j ic) j (cellsI (inosM W o j)) ∧ Fo wr (P + 1) fv av (filesD W nf) k ∧ SB ≤ wr.heap.size
def blkC (n : Nat) : Code → Option Code
  | .block m c => if m = n then some (.block m c) else blkC n c
  | .loop c => blkC n c
  | .seq a b => match blkC n a with
    | some c => some c
    | none => blkC n b
  | .cond _ a b => match blkC n a with
    | some c => some c
    | none => blkC n b
  | _ => none
noncomputable def rdBlk (n : Nat) : Code := ((Try.f22.body.bind (blkC n)).getD .skip)
end Go.Proofs.Ytkdjfhbdcfjnnaa
