/-
  Order: the keys of the map, ahead of their sorting.
-/
import Derived.Test.YtdnkeplmjimjcaaChByt
import Derived.Test.YtdnkeplmjimjcaaKRan
import Derived.OwnWalk
namespace Go.Proofs.Ytdnkeplmjimjcaa
open Go.RowKit

abbrev KSL := 48
abbrev PC := 24
def flatP (ps : List (Int × Int)) : List Value := ps.flatMap fun p => [.int .i64 p.1, .int .i64 p.2]
theorem flatP_len (ps : List (Int × Int)) : (flatP ps).length = ps.length * 2 := by
  induction ps with
  | nil => rfl
  | cons p ps ih => simp only [flatP, List.flatMap_cons, List.length_append, List.length_cons, List.length_nil] at *; omega
theorem flatP_app (ps qs : List (Int × Int)) : flatP (ps ++ qs) = flatP ps ++ flatP qs := by simp [flatP]
theorem flatP_one (ps : List (Int × Int)) : ∀ u ∈ flatP ps, u.oneCell' = true := fun u hu => by
  unfold flatP at hu
  simp at hu
  obtain ⟨a, b, -, h | h⟩ := hu <;> rw [h] <;> rfl
theorem info_kt : (Try.prog.info? KT).map (fun i => (i.zero, i.size, i.bytes)) = some (some (.agg #[.int .i64 0, .int .i64 0]), 2, 16) := by kernel_rfl
section
variable {w w' W : World} {bc bm base b : Nat} {room uses : Int} {N T : Nat} {x : Sx} {L : List Bk}
theorem KR.blo {g r n cnt : Nat} {f : Int × Int → Option Nat} {done : List (Int × Int)} (h : KR w g r n f done cnt) {g' : Nat} {t : TypeId} {cs : Array Value} (hb : Blo w g' t cs) : r ≠ g' := by
  obtain ⟨D, left, ⟨es, clock, since, seen, c0, _, _, _, _, hr, _⟩, _⟩ := h
  rintro rfl
  unfold Blo at hb
  rw [hr] at hb
  cases hb
structure OrS (w : World) (bc bm base : Nat) (room : Int) (N T : Nat) (x : Sx) (r : Nat) (v : Value) (done : List (Int × Int)) (cnt : Nat) (wr : World) : Prop where
  own : wr.ownsRow (w.heap.size + 1) KT 2 v done.length (flatP done)
  kr : KR wr bm r x.n x.f done cnt
  cs : CS wr bc bm base room N T x
  box : Blo wr w.heap.size PC #[.pointer (some ⟨bc, 0, none⟩)]
  below : Below w.heap.size w wr
  lt : done.length ≤ 4096
  rl : w.heap.size + 1 ≤ r
def OrR (w : World) (bc bm base : Nat) (room : Int) (N T : Nat) (x : Sx) (r : Nat) (v : Value) (wr : World) : Prop :=
  ∃ (done : List (Int × Int)) (cnt : Nat), OrS w bc bm base room N T x r v done cnt wr
theorem xcs_key {g : Nat} {cs : Array Value} (hC : CS W bc bm base room N T x) (h : Blo W g KT cs) : ¬ XC W bc bm base g := by
  rintro ⟨-, e | e | ⟨t, cs, q1, q2⟩⟩
  · exact h.apart hC.cb (by decide) e
  · exact hC.km.blo h e.symm
  · unfold Blo at h q1
    rw [q1] at h
    cases h
    rcases q2 with e | e
    · exact absurd e (by decide)
    · exact absurd e (by decide)
theorem nodup_len : ∀ (l m : List (Int × Int)), l.Nodup → (∀ x ∈ l, x ∈ m) → l.length ≤ m.length
  | [], _, _, _ => Nat.zero_le _
  | a :: l, m, hn, hs => by
    have h1 := List.nodup_cons.1 hn
    have h2 := nodup_len l (m.erase a) h1.2 (fun x hx => (List.mem_erase_of_ne (fun e => h1.1 (by rw [← e]; exact hx))).2 (hs x (List.mem_cons_of_mem _ hx)))
    have h3 := List.length_erase_of_mem (hs a List.mem_cons_self)
    have h4 := List.length_pos_of_mem (hs a List.mem_cons_self)
    simp only [List.length_cons]
    omega
theorem CS.few (hC : CS w bc bm base room N T x) {r n cnt : Nat} {done : List (Int × Int)} (hK : KR W bm r n x.f done cnt) : done.length ≤ 4096 := by
  obtain ⟨D, left, _, _, _, h4, h5⟩ := hK
  obtain ⟨D', _, _, _, hk, _⟩ := hC.km
  have := nodup_len done x.ks h4 (fun p hp => (hk p).2 (h5 p hp))
  have := hC.ps.len
  have := hC.ps.rm
  omega
theorem KR.ne {g r n cnt : Nat} {f : Int × Int → Option Nat} {done : List (Int × Int)} (h : KR w g r n f done cnt) : r ≠ g := by
  obtain ⟨D, left, q, _⟩ := h
  exact q.ne
theorem own_blo {base' : Nat} {e : TypeId} {sz n : Nat} {v : Value} {xs : List Value} (h : w.ownsRow base' e sz v n xs) {g : Nat} (hg : v.ownBlock = some g) : base' ≤ g ∧ ∃ cs, Blo w g e cs := by
  rcases h.2 with ⟨q, _⟩ | ⟨g', cap, cur, q, hb, hc, _⟩
  · rw [q] at hg; cases hg
  · rw [q] at hg
    obtain rfl : g' = g := by simpa [Value.ownBlock] using hg
    exact ⟨hb, cur, hc⟩
/-- Past a step of the range. -/
theorem OrS.step {r : Nat} {v : Value} {done : List (Int × Int)} {cnt : Nat} {wr : World} (h : OrS w bc bm base room N T x r v done cnt wr) {cnt' : Nat} {p : Int × Int} (hg : wr.grownBy w' (some r)) (hk : KR w' bm r x.n x.f (done ++ [p]) cnt') :
    w'.ownsRow (w.heap.size + 1) KT 2 v done.length (flatP done) ∧ CS w' bc bm base room N T x ∧ Blo w' w.heap.size PC #[.pointer (some ⟨bc, 0, none⟩)] ∧ Below w.heap.size w w' := by
  have ho : Out (fun g => g = r) wr w' := Out.of_grown hg (fun g e => by cases e; rfl)
  refine ⟨ho.own h.own (fun g hg e => ?_), h.cs.out ho (fun g hg e => ?_), ho.blo h.box (fun e => ?_), h.below.trans (ho.below h.below.size (fun g _ e => by have := h.rl; omega))⟩
  · obtain ⟨-, cs, hb⟩ := own_blo h.own hg
    exact h.kr.blo hb e.symm
  · rcases hg.2 with q | q | ⟨t, cs, q, _⟩
    · exact h.kr.blo h.cs.cb (by rw [← e, q])
    · exact h.kr.ne (by rw [← e, q])
    · exact h.kr.blo q e.symm
  · exact h.kr.blo h.box e.symm
/-- Past the append. -/
theorem OrS.app {r : Nat} {v v' : Value} {done : List (Int × Int)} {w6 w7 : World} {cnt' : Nat} {p : Int × Int} (h1 : w6.ownsRow (w.heap.size + 1) KT 2 v done.length (flatP done)) (h2 : CS w6 bc bm base room N T x) (h3 : Blo w6 w.heap.size PC #[.pointer (some ⟨bc, 0, none⟩)]) (h4 : Below w.heap.size w w6) (hk : KR w6 bm r x.n x.f (done ++ [p]) cnt') (hr : w.heap.size + 1 ≤ r)
    (hown : w7.ownsRow (w.heap.size + 1) KT 2 v' (done.length + 1) (flatP done ++ flatP [p])) (hg : w6.grownBy w7 v.ownBlock) : OrS w bc bm base room N T x r v' (done ++ [p]) cnt' w7 := by
  have ho : Out (fun g => v.ownBlock = some g) w6 w7 := Out.of_grown hg (fun g e => e)
  have hx : ∀ g, v.ownBlock = some g → w.heap.size + 1 ≤ g ∧ ∃ cs, Blo w6 g KT cs := fun g e => own_blo h1 e
  refine ⟨?_, hk.kept hg (fun e => ?_) (fun e => ?_), h2.out ho (fun g hg e => ?_), ho.blo h3 (fun e => ?_), h4.trans (ho.below h4.size (fun g _ e => by have := (hx g e).1; omega)), h2.few hk, hr⟩
  · rw [List.length_append, flatP_app]
    exact hown
  · obtain ⟨-, cs, hb⟩ := hx bm e.symm
    exact h2.km.blo hb rfl
  · obtain ⟨-, cs, hb⟩ := hx r e.symm
    exact hk.blo hb rfl
  · obtain ⟨-, cs, hb⟩ := hx g e
    exact (xcs_key h2 hb) hg
  · have := (hx _ e).1
    omega
end
end Go.Proofs.Ytdnkeplmjimjcaa
