/-
  What a law about one cache keeps; the cache's calls for it.
-/
import Derived.Test.YtdnkeplmjimjcaaChAwk
namespace Go.Proofs.Ytdnkeplmjimjcaa
open Go.RowKit

/-- What a law about one cache keeps: the cache, and boxes of keys. -/
structure LwS (w : World) (bc bm : Nat) (r : Int) (N T : Nat) (L : List Bk) (K : List (Nat × Int × Int)) (W : World) : Prop where
  ca : CA W bc bm w.heap.size r N T L
  ky : ∀ q, q ∈ K → Blo W q.1 KT #[.int .i64 q.2.1, .int .i64 q.2.2]
  below : Below w.heap.size w W
section
variable {w W W' : World} {bc bm : Nat} {r : Int} {N T N' T' : Nat} {L L' : List Bk} {K : List (Nat × Int × Int)}
theorem LwS.later (h : LwS w bc bm r N T L K W) (hb : Below W.heap.size W W') : LwS w bc bm r N T L K W' :=
  ⟨h.ca.later hb, fun q hq => (h.ky q hq).later hb, h.below.trans (hb.mono h.below.size)⟩
theorem xc_key {base g : Nat} {cs : Array Value} (hC : CA W bc bm base r N T L) (h : Blo W g KT cs) : ¬ XC W bc bm base g := by
  obtain ⟨n, f, ks, uses, v, hK, -, hB⟩ := hC.len
  rintro ⟨-, e | e | ⟨t, cs, q1, q2⟩⟩
  · exact h.apart hB (by decide) e
  · exact hK.blo h e.symm
  · unfold Blo at h q1
    rw [q1] at h
    cases h
    rcases q2 with e | e
    · exact absurd e (by decide)
    · exact absurd e (by decide)
theorem LwS.call (h : LwS w bc bm r N T L K W) (hC : CA W' bc bm w.heap.size r N' T' L') (ho : Out (XC W bc bm w.heap.size) W W') : LwS w bc bm r N' T' L' K W' :=
  ⟨hC, fun q hq => ho.blo (h.ky q hq) (xc_key h.ca (h.ky q hq)), h.below.trans (outC_below ho h.below.size)⟩
theorem LwS.cells (h : LwS w bc bm r N T L K W) {g : Nat} {a b : Int} (hq : (g, a, b) ∈ K) : W.cell? ⟨g, 0, none⟩ = some (.int .i64 a) ∧ W.cell? ⟨g, 1, none⟩ = some (.int .i64 b) := ⟨(h.ky _ hq).cell 0, (h.ky _ hq).cell 1⟩
theorem LwS.key (h : LwS w bc bm r N T L K W) {g : Nat} {a b : Int} (hb : Blo W g KT #[.int .i64 a, .int .i64 b]) : LwS w bc bm r N T L ((g, a, b) :: K) W :=
  ⟨h.ca, fun q hq => by
    rcases List.mem_cons.1 hq with e | e
    · rw [e]; exact hb
    · exact h.ky q e, h.below⟩
theorem LwS.few2 (h : LwS w bc bm r N T L K W) : LwS w bc bm r N T L K W := h
theorem LwS.few (h : LwS w bc bm r N T L K W) : LwS w bc bm r N T L [] W := ⟨h.ca, fun q hq => (by cases hq), h.below⟩
/-- A Put of bytes that were just made. -/
theorem LwS.put (h : LwS w bc bm r N T L K W) {a b : Int} (hw : wfK (a, b)) {g : Nat} {l : List Nat} (hg : BBlk W g l) (d : Bool) (hT : T ≤ 4000000000000000000) (hN : N < 1000000) {c : Int} (e : putK r L (a, b) l d = (L', c)) :
    Calls Try.prog 23 #[.pointer (some ⟨bc, 0, none⟩), .agg #[.int .i64 a, .int .i64 b], .slice (some ⟨g, 0, none⟩) 64 64, .bool d] W fun e w' => e = .returned (.int .i64 c) ∧ LwS w bc bm r (N + 1) (T + 1) L' K w' := by
  have := put_any (p := (a, b)) (sc := 64) (d := d) h.ca hw (h.ca.din hg) (n := 64) hg.2.1.symm (by decide) (by omega) (by omega)
  rw [e] at this
  exact this.mono fun e w' q => ⟨q.1, h.call q.2.1 q.2.2⟩
end
section
variable {w W W' : World} {bc bm : Nat} {r : Int} {N T N' T' : Nat} {L L' : List Bk} {K : List (Nat × Int × Int)}
theorem LwS.mono (h : LwS w bc bm r N T L K W) (h1 : N ≤ N') (h2 : T ≤ T') : LwS w bc bm r N' T' L K W := ⟨h.ca.mono h1 h2, h.ky, h.below⟩
theorem LwS.pin (h : LwS w bc bm r N T L K W) {a b : Int} (hw : wfK (a, b)) (hT : T ≤ 4000000000000000000) {c : Int} (e : doK L 4 (a, b) = (L', c)) :
    Calls Try.prog 24 #[.pointer (some ⟨bc, 0, none⟩), .agg #[.int .i64 a, .int .i64 b]] W fun e w' => e = .returned (.int .i64 c) ∧ LwS w bc bm r N (T + 1) L' K w' := by
  have := pinc_any (p := (a, b)) h.ca hw (by omega)
  rw [e] at this
  exact this.mono fun e w' q => ⟨q.1, h.call q.2.1 q.2.2⟩
theorem LwS.unpin (h : LwS w bc bm r N T L K W) {a b : Int} (hw : wfK (a, b)) (hT : T ≤ 4000000000000000000) {c : Int} (e : doK L 5 (a, b) = (L', c)) :
    Calls Try.prog 25 #[.pointer (some ⟨bc, 0, none⟩), .agg #[.int .i64 a, .int .i64 b]] W fun e w' => e = .returned (.int .i64 c) ∧ LwS w bc bm r N (T + 1) L' K w' := by
  have := unpinc_any (p := (a, b)) h.ca hw (by omega)
  rw [e] at this
  exact this.mono fun e w' q => ⟨q.1, h.call q.2.1 q.2.2⟩
theorem LwS.clean (h : LwS w bc bm r N T L K W) {a b : Int} (hw : wfK (a, b)) {c : Int} (e : doK L 3 (a, b) = (L', c)) :
    Calls Try.prog 26 #[.pointer (some ⟨bc, 0, none⟩), .agg #[.int .i64 a, .int .i64 b]] W fun e w' => e = .returned (.int .i64 c) ∧ LwS w bc bm r N (T + 1) L' K w' := by
  have := clean_any (p := (a, b)) h.ca hw
  rw [e] at this
  exact this.mono fun e w' q => ⟨q.1, h.call q.2.1 q.2.2⟩
theorem LwS.get_some (h : LwS w bc bm r N T L K W) {a b : Int} (hw : wfK (a, b)) (hT : T ≤ 4000000000000000000) {d : Nat → Nat} (e : getK L (a, b) = (L', some d)) :
    Calls Try.prog 22 #[.pointer (some ⟨bc, 0, none⟩), .agg #[.int .i64 a, .int .i64 b]] W fun e w' => ∃ g c, e = .returned (.tuple #[.slice (some ⟨g, 0, none⟩) 64 c, .bool true]) ∧ LwS w bc bm r N (T + 1) L' K w' ∧ w'.ownsRow W.heap.size U8 1 (.slice (some ⟨g, 0, none⟩) 64 c) 64 (cellsB (dtL d)) := by
  have := get_any (p := (a, b)) h.ca hw (by omega)
  refine this.mono fun e' w' ⟨q1, q2, q3⟩ => ?_
  rw [e] at q1 q3
  obtain ⟨q, -⟩ | ⟨d', g, c, q, q4, q5⟩ := q3
  · cases q
  · cases q
    exact ⟨g, c, q4, h.call q1 q2, q5⟩
theorem LwS.get_none (h : LwS w bc bm r N T L K W) {a b : Int} (hw : wfK (a, b)) (hT : T ≤ 4000000000000000000) (e : getK L (a, b) = (L', none)) :
    Calls Try.prog 22 #[.pointer (some ⟨bc, 0, none⟩), .agg #[.int .i64 a, .int .i64 b]] W fun e w' => e = .returned (.tuple #[.slice none 0 0, .bool false]) ∧ LwS w bc bm r N (T + 1) L' K w' := by
  have := get_any (p := (a, b)) h.ca hw (by omega)
  refine this.mono fun e' w' ⟨q1, q2, q3⟩ => ?_
  rw [e] at q1 q3
  obtain ⟨-, q⟩ | ⟨d', g, c, q, q4, q5⟩ := q3
  · exact ⟨q, h.call q1 q2⟩
  · cases q
theorem LwS.len (h : LwS w bc bm r N T L K W) {n : Nat} (e : L.length = n) :
    Calls Try.prog 16 #[.pointer (some ⟨bc, 0, none⟩)] W fun e w' => e = .returned (.int .i64 (n : Nat)) ∧ W = w' := by
  rw [← e]
  exact len_any h.ca
theorem bytes_nil (W : World) : Calls Try.prog 12 #[.slice none 0 0] W (BytO W (byt [])) := bytes_any none 0 0 [] W rfl (by decide) (Bytes.none _ _)
end
end Go.Proofs.Ytdnkeplmjimjcaa
