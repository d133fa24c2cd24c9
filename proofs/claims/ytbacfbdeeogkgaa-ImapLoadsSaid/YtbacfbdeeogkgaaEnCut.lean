/-
  Parts of a slice of bytes at a reckoned place.
-/
import Derived.Test.YtbacfbdeeogkgaaEnPut
namespace Go.Proofs.Ytbacfbdeeogkgaa
open Go.RowKit

theorem size_u8x (w : World) : (Go.sizeOf 5).run Try.prog w = .ok 1 w := by kernel_rfl
theorem cut_from (b o n cap lo o' n' c' : Nat) (v : Int) (hv : v = (lo : Int)) (hlo : lo < n) (hn : n ≤ cap) (hc : n ≤ 1000000) (ho : o' = o + lo) (hn' : n' = n - lo) (hc' : c' = cap - lo) (W : World) :
    (Instr.slice 24 (.slice (some ⟨b, o, none⟩) n cap) (some (.int .i64 v)) none none).run Try.prog W = .ok (.slice (some ⟨b, o', none⟩) n' c') W := by
  have ht' : Try.prog.underlying 24 = some (.slice (Try.prog.elem 24)) := by simp [Program.elem, Try.underlying24]
  have he : Try.prog.elem 24 = 5 := by simp [Program.elem, Try.underlying24]
  have e2 : ¬ cap = lo := by omega
  subst ho hn' hc' hv
  rw [run_slice_l W 24 _ _ _ ht' .i64 _ (by omega) (by omega), he, size_u8x]
  simp [Result.andThen, sliced, Addr.add_lit, e2]
/-- 'x[:hi]'. -/
theorem cut_upto (b o n cap hi : Nat) (v : Int) (hv : v = (hi : Int)) (hhi : hi ≤ n) (hn : n ≤ cap) (hpos : 0 < cap) (hc : n ≤ 1000000) (W : World) :
    (Instr.slice 24 (.slice (some ⟨b, o, none⟩) n cap) none (some (.int .i64 v)) none).run Try.prog W = .ok (.slice (some ⟨b, o, none⟩) hi cap) W := by
  have ht' : Try.prog.underlying 24 = some (.slice (Try.prog.elem 24)) := by simp [Program.elem, Try.underlying24]
  have he : Try.prog.elem 24 = 5 := by simp [Program.elem, Try.underlying24]
  have e2 : ¬ cap = 0 := by omega
  subst hv
  rw [run_slice_h W 24 _ _ _ ht' .i64 _ (by omega) (by omega), he, size_u8x]
  simp [Result.andThen, sliced, Addr.add, e2]
end Go.Proofs.Ytbacfbdeeogkgaa
