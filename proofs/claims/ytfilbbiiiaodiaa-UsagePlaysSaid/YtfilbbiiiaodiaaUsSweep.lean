/-
  The walk of a table's Sweep.
-/
import Derived.Test.YtfilbbiiiaodiaaUsAny
namespace Go.Proofs.Ytfilbbiiiaodiaa
open Go.RowKit

theorem info_int : (Try.prog.info? 3).map (fun i => (i.zero, i.size, i.bytes)) = some (some (.int .i64 0), 1, 8) := by kernel_rfl
/-- Would a Release of this segment do it? -/
def swOk (F : List Int) (k : Nat) : Prop := F.getD (k * 3 + 1) 0 = 1 ∧ F.getD (k * 3) 0 = 0
instance (F : List Int) (k : Nat) : Decidable (swOk F k) := by unfold swOk; infer_instance
/-- The table behind a Sweep of the first k; which were released. -/
def swF (F : List Int) : Nat → List Int
  | 0 => F
  | k + 1 => if swOk F k then rel (swF F k) k else swF F k
def swL (F : List Int) : Nat → List Int
  | 0 => []
  | k + 1 => if swOk F k then swL F k ++ [(k : Int)] else swL F k
theorem rel_other (L : List Int) (k i : Nat) (h1 : k * 3 + 1 ≠ i) (h2 : k * 3 + 2 ≠ i) : (rel L k).getD i 0 = L.getD i 0 := by
  simp only [rel, List.getD_eq_getElem?_getD, List.getElem?_set, if_neg h1, if_neg h2]
theorem swF_at (F : List Int) : ∀ k i, k * 3 ≤ i → (swF F k).getD i 0 = F.getD i 0
  | 0, _, _ => rfl
  | k + 1, i, h => by
    show (if swOk F k then rel (swF F k) k else swF F k).getD i 0 = _
    split
    · rw [rel_other _ _ _ (by omega) (by omega)]
      exact swF_at F k i (by omega)
    · exact swF_at F k i (by omega)
theorem swL_len (F : List Int) : ∀ k, (swL F k).length ≤ k
  | 0 => Nat.le_refl _
  | k + 1 => by
    have := swL_len F k
    show (if swOk F k then swL F k ++ [(k : Int)] else swL F k).length ≤ _
    split
    · simp; omega
    · omega
theorem own_ne {w : World} {base b n : Nat} {e : TypeId} {v : Value} {xs : List Value} (h : w.ownsRow base e 1 v n xs) (hb : b < base) : some b ≠ v.ownBlock := fun e' => by
  have := (h.lt b e'.symm).1
  omega
theorem Tb.grown {w w' : World} {bt g : Nat} {T I : TypeId} {n : Nat} {size hand : Int} {F : List Int} {row : Option Nat} (h : Tb w bt g T I n size hand F) (hb : w.grownBy w' row) (h1 : some bt ≠ row) (h2 : some g ≠ row) : Tb w' bt g T I n size hand F :=
  ⟨h.top.grown hb h1, h.segs.grown hb h2, h.len, h.apart⟩
section
variable {w : World} {bt g n B : Nat} {size hand : Int} {F : List Int}
def WRel (B : Nat) (w : World) (bt g n : Nat) (size hand : Int) (F : List Int) (v i : Value) (wr : World) : Prop :=
  ∃ (k : Nat) (a : Option Addr) (cap : Nat), k ≤ n ∧ i = .int .i64 k ∧ v = .slice a (swL F k).length cap ∧ wr.ownsRow w.heap.size 3 1 (.slice a (swL F k).length cap) (swL F k).length (cellsI (swL F k)) ∧ Tb wr bt g TB IN n size hand (swF F k) ∧ Below B w wr ∧ Fr2 bt g w wr
def SwOut (B : Nat) (w : World) (bt g n : Nat) (size hand : Int) (F : List Int) (e : Ending) (w' : World) : Prop :=
  ∃ a cap, e = .returned (.slice a (swL F n).length cap) ∧ w'.ownsRow w.heap.size 3 1 (.slice a (swL F n).length cap) (swL F n).length (cellsI (swL F n)) ∧ Tb w' bt g TB IN n size hand (swF F n) ∧ Below B w w' ∧ Fr2 bt g w w'
set_option maxHeartbeats 2000000 in
theorem sweep_any (h : Tb w bt g TB IN n size hand F) (hn : n ≤ 512) (hB : B ≤ g) (hB' : B ≤ w.heap.size) (hst : ∀ j, j < n → F.getD (j * 3 + 1) 0 = 0 ∨ F.getD (j * 3 + 1) 0 = 1 ∨ F.getD (j * 3 + 1) 0 = 2) :
    Calls Try.prog 18 #[.pointer (some ⟨bt, 0, none⟩)] w (SwOut B w bt g n size hand F) := by
  have H := Lib.hid h
  have HS := Lib.hid hst
  have hgt := h.segs.lt
  have hbt := h.top.lt
  have t0 := h.top.cell 0
  simp at t0
  clear h hst
  go_enter Try.func18, Try.ntmps18
  go_wp2_with fail
  clear t0
  go_loopw [3, 10] (fun v i wr => WRel B w bt g n size hand F v i wr) (fun _ i _ => n - (intOf i).toNat)
  case atStart => exact ⟨0, none, 0, by omega, rfl, rfl, World.ownsRow_nil _ _ _ _, H.out, Below.refl _ _, fun _ _ _ _ _ hx => hx⟩
  case round =>
    obtain ⟨k, a, cap, hk, rfl, rfl, ho, ht, hb, hf⟩ := hrel
    have HFr := Lib.hid hf
    have HO := Lib.hid ho
    have HT := Lib.hid ht
    have HB := Lib.hid hb
    have hsz := hb.size
    have hll := swL_len F k
    clear ho ht hb hf
    by_cases hlt : k < n
    · by_cases hok : swOk F k
      · have HR := Lib.hid (rel_with _ 0 hlt (with_rel _ 0 HT.out hlt hn (release_done HT.out hlt (by rw [swF_at F k _ (by omega)]; exact hok.1) (by rw [swF_at F k _ (by omega)]; exact hok.2))))
        have HF : Hid (swF F (k + 1) = rel (swF F k) k) := by show (if swOk F k then _ else _) = _; rw [if_pos hok]
        have HL : Hid (swL F (k + 1) = swL F k ++ [(k : Int)]) := by show (if swOk F k then _ else _) = _; rw [if_pos hok]
        clear hok
        go_wp2_with fail
        refine HR.out.mono ?_
        rintro e w5 ⟨rfl, hw5⟩
        have HT5 : Hid (Tb w5 bt g TB IN n size hand (rel (swF F k) k)) := by show Tb _ _ _ _ _ _ _ _ _; rw [hw5]; exact (HT.out.put (k * 3 + 1) 0).put (k * 3 + 2) 0
        have HO5 : Hid (w5.ownsRow w.heap.size 3 1 (.slice a (swL F k).length cap) (swL F k).length (cellsI (swL F k))) := by show World.ownsRow _ _ _ _ _ _ _; rw [hw5]; exact own_far (p := ⟨g, k * 3 + 2, none⟩) (own_far (p := ⟨g, k * 3 + 1, none⟩) HO.out (own_ne HO.out hgt) _) (own_ne HO.out hgt) _
        have HB5 : Hid (Below B w w5) := by show Below _ _ _; rw [hw5]; exact (HB.out.setCell (p := ⟨g, k * 3 + 1, none⟩) hB _).setCell (p := ⟨g, k * 3 + 2, none⟩) hB _
        have HFr5 : Hid (Fr2 bt g w w5) := by show Fr2 _ _ _ _; rw [hw5]; exact fun b t cs hb hb2 hx => ((HFr.out b t cs hb hb2 hx).far (p := ⟨g, k * 3 + 1, none⟩) hb _).far (p := ⟨g, k * 3 + 2, none⟩) hb _
        have hsz5 : w.heap.size ≤ w5.heap.size := HB5.out.size
        clear hw5 HR
        go_wp2_with (at_builtin; refine wp_append_int rfl (.tmp 17) (.tmp 19) 40 rfl w.heap.size 3 Try.underlying40 info_int _ (swL F k).length (swL F k) rfl (HO5.out.alloc _) _ (k : Int) rfl (by simp) (by omega) (by simp; omega) ?_; intro g2 cap2 w6 hown hgrow hat hlt1; have HO6 := Lib.hid hown; have HB6 : Hid (Below B w w6) := ((HB5.out.alloc (by omega) _).grown hgrow (by simp; omega) (fun q hq => Nat.le_trans hB' (HO5.out.lt q hq).1)); have HT6 : Hid (Tb w6 bt g TB IN n size hand (rel (swF F k) k)) := (HT5.out.later (sup_us w5 _)).grown hgrow (own_ne HO5.out hbt) (own_ne HO5.out hgt); have HFr6 : Hid (Fr2 bt g w w6) := (by show Fr2 _ _ _ _; exact fun b t cs hb hb2 hx => ((HFr5.out b t cs hb hb2 hx).alloc _).grown hgrow (own_ne HO5.out hx.lt)); clear hown hgrow hat)
        go_roundw
        case rel =>
          refine ⟨k + 1, some ⟨g2, 0, none⟩, cap2, by omega, by simp, ?_, ?_, ?_, HB6.out, HFr6.out⟩
          · rw [HL.out]; simp
          · rw [HL.out]; simpa using HO6.out
          · rw [HF.out]; exact HT6.out
        case measure => simp [intOf]; omega
      · have HF : Hid (swF F (k + 1) = swF F k) := by show (if swOk F k then _ else _) = _; rw [if_neg hok]
        have HL : Hid (swL F (k + 1) = swL F k) := by show (if swOk F k then _ else _) = _; rw [if_neg hok]
        have hR : ∃ c : Int, c ≠ 0 ∧ Calls Try.prog 17 #[.pointer (some ⟨bt, 0, none⟩), .int .i64 k] wr fun e w' => e = .returned (.int .i64 c) ∧ wr = w' := by
          have q1 := swF_at F k (k * 3 + 1) (by omega)
          have q2 := swF_at F k (k * 3) (by omega)
          rcases HS.out k hlt with h0 | h0 | h0
          · exact ⟨103, by decide, rel_stale HT.out hlt hn (by rw [q1]; exact h0)⟩
          · exact ⟨16, by decide, rel_live HT.out hlt hn (by rw [q1]; exact h0) (by rw [q2]; exact fun e => hok ⟨h0, e⟩)⟩
          · exact ⟨16, by decide, rel_busy HT.out hlt hn (by rw [q1]; exact h0)⟩
        obtain ⟨c, hc, hcall⟩ := hR
        have HC := Lib.hid hcall
        have hcc : (c == 0) = false := by simpa using hc
        clear hok hc hcall
        go_wp2_with fail
        refine HC.out.mono ?_
        rintro e w5 ⟨rfl, rfl⟩
        go_wp2_with fail
        go_roundw
        case rel => exact ⟨k + 1, a, cap, by omega, by simp, by rw [HL.out], by rw [HL.out]; exact HO.out, by rw [HF.out]; exact HT.out, HB.out, HFr.out⟩
        case measure => simp [intOf]; omega
    · obtain rfl : k = n := by omega
      clear hlt
      go_wp2
      go_ret
      exact ⟨a, cap, rfl, HO.out, HT.out, HB.out, HFr.out⟩
end
end Go.Proofs.Ytfilbbiiiaodiaa
