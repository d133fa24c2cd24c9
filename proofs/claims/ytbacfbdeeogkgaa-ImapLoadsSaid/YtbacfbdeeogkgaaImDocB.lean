/-
  The document's blocks of its inode map.
-/
import Derived.Test.YtbacfbdeeogkgaaImDoc
namespace Go.Proofs.Ytbacfbdeeogkgaa
open Go.RowKit Go.Maps

abbrev STR := 9
theorem info_str : (Try.prog.info? STR).map (fun i => (i.zero, i.size, i.bytes)) = some (some (.string ByteArray.empty), 1, 16) := by kernel_rfl
def blk (F : Nat → Int) (n kk j : Nat) : Int := if 8 * kk + j < n then F (8 * kk + j) else 0
def txtK (A V : Nat → Int) (n kk : Nat) : ByteArray := strOf (encK (blk A n kk) (blk V n kk) 8)
def cellsK (A V : Nat → Int) (n q : Nat) : List Value := (List.range q).map fun kk => .string (txtK A V n kk)
theorem cellsK_succ (A V : Nat → Int) (n q : Nat) : cellsK A V n (q + 1) = cellsK A V n q ++ [.string (txtK A V n q)] := by
  unfold cellsK; rw [List.range_succ, List.map_append]; rfl
theorem cellsK_len (A V : Nat → Int) (n q : Nat) : (cellsK A V n q).length = q := by simp [cellsK]
theorem blk_good {A V : Nat → Int} {n : Nat} (hg : ∀ i, i < n → GoodM (A i) (V i)) (kk : Nat) : AllG (blk A n kk) (blk V n kk) 8 := fun i _ => by
  unfold blk
  by_cases h : 8 * kk + i < n
  · rw [if_pos h, if_pos h]; exact hg _ h
  · rw [if_neg h, if_neg h]; unfold GoodM; decide
theorem cut_blk (F G : Nat → Int) (n kk k : Nat) (h : k = 8 ∨ 8 * kk + k = n) : cells16 (cutF (blk F n kk) k) (cutF (blk G n kk) k) = cells16 (blk F n kk) (blk G n kk) :=
  cells16_ext fun i hi => by
    have e : ∀ X : Nat → Int, cutF (blk X n kk) k i = blk X n kk i := fun X => by
      unfold cutF
      by_cases hk : i < k
      · rw [if_pos hk]
      · rw [if_neg hk]
        unfold blk
        rw [if_neg (by omega)]
    exact ⟨e F, e G⟩
theorem own_base {W : World} {b b' : Nat} {e : TypeId} {size n : Nat} {v : Value} {xs : List Value} (h : W.ownsRow b' e size v n xs) (hb : b ≤ b') : W.ownsRow b e size v n xs :=
  ⟨h.1, h.2.imp id (fun ⟨g, cap, cur, h1, h2, h3⟩ => ⟨g, cap, cur, h1, Nat.le_trans hb h2, h3⟩)⟩
theorem Rm.grown {w w' : World} {g n : Nat} {A V : Nat → Int} {B H : Nat → Bool} {b : Option Nat} (h : Rm w g n A V B H) (hg : w.grownBy w' b) (hb : some g ≠ b) : Rm w' g n A V B H := by
  obtain ⟨cs, h1, h2⟩ := h.sl
  exact ⟨cs, h1.grown hg hb, h2⟩
structure BkS (w : World) (g n : Nat) (A V : Nat → Int) (B H : Nat → Bool) (kk : Nat) (v : Value) (W : World) : Prop where
  row : W.ownsRow (w.heap.size + 1) STR 1 v kk (cellsK A V n kk)
  rm : Rm W g n A V B H
  bx : Blo W w.heap.size RMP #[.slice (some ⟨g, 0, none⟩) n n]
  b : Below w.heap.size w W
theorem BkS.later {w W W' : World} {g n kk : Nat} {A V : Nat → Int} {B H : Nat → Bool} {v : Value} (h : BkS w g n A V B H kk v W) (hb : Below W.heap.size W W') : BkS w g n A V B H kk v W' :=
  ⟨own_later h.row hb, h.rm.later hb, h.bx.later hb, h.b.trans (hb.mono h.b.size)⟩
theorem BkS.far {w W : World} {g n kk : Nat} {A V : Nat → Int} {B H : Nat → Bool} {v : Value} (h : BkS w g n A V B H kk v W) (p : Addr) (h1 : some p.block ≠ v.ownBlock) (h2 : g ≠ p.block) (h3 : w.heap.size < p.block) (u : Value) : BkS w g n A V B H kk v (W.setCell p u) :=
  ⟨own_far h.row h1 u, h.rm.far h2 u, h.bx.far (by omega) u, h.b.setCell (by omega) u⟩
def BkR (w : World) (g n : Nat) (A V : Nat → Int) (B H : Nat → Bool) (v t : Value) (W : World) : Prop := ∃ kk : Nat, kk ≤ (n + 7) / 8 ∧ t = .int .i64 (8 * (kk : Int)) ∧ BkS w g n A V B H kk v W
def BiR (w : World) (g n : Nat) (A V : Nat → Int) (B H : Nat → Bool) (kk g5 : Nat) (v t : Value) (W : World) : Prop :=
  ∃ k : Nat, k ≤ 8 ∧ 8 * kk + k ≤ n ∧ t = .int .i64 k ∧ Blo W g5 R8T (cells16 (cutF (blk A n kk) k) (cutF (blk V n kk) k)) ∧ BkS w g n A V B H kk v W
set_option maxRecDepth 100000 in
set_option maxHeartbeats 8000000 in
theorem rblocks_any (g n : Nat) (A V : Nat → Int) (B H : Nat → Bool) (w : World) (hn : n ≤ 200) (hr : Rm w g n A V B H) (hg : ∀ i, i < n → GoodM (A i) (V i)) :
    Calls Try.prog 22 #[rmv g n] w fun e w' => ∃ a c, e = .returned (.slice a ((n + 7) / 8) c) ∧ w'.ownsRow w.heap.size STR 1 (.slice a ((n + 7) / 8) c) ((n + 7) / 8) (cellsK A V n ((n + 7) / 8)) ∧ Below w.heap.size w w' := by
  have hal := sup_im w (.cells #[.slice (some ⟨g, 0, none⟩) n n] RMP)
  have HS0 : Hid (BkR w g n A V B H (.slice none 0 0) (.int .i64 0) (w.alloc (.cells #[.slice (some ⟨g, 0, none⟩) n n] RMP))) := ⟨0, Nat.zero_le _, rfl, ⟨⟨rfl, .inl ⟨rfl, rfl⟩⟩, hr.later hal, blo_laid w RMP _, hal⟩⟩
  have HGl : Hid (g < w.heap.size) := hr.lt
  have HN := Lib.hid hn
  have HGd := Lib.hid (blk_good hg)
  clear hal hr hg hn
  go_enter Try.func22, Try.ntmps22
  go_wp2_with fail
  go_loopw [3, 4] (fun v t wr => BkR w g n A V B H v t wr) (fun _ t _ => n + 8 - (intOf t).toNat)
  case atStart => exact HS0.out
  case round =>
    clear HS0
    obtain ⟨kk, hk, rfl, hs⟩ := hrel
    obtain ⟨a0, c0, rfl, -⟩ := own_slice hs.row
    have HS := Lib.hid hs
    have HK := Lib.hid hk
    have k0 : (0 : Int) ≤ (kk : Int) := by omega
    have k25 : (kk : Int) < 26 := by have := HN.out; omega
    have b0 := hs.bx.cell 0
    simp at b0
    clear hs hk
    by_cases hlt : 8 * kk < n
    · have k1 : 8 * (kk : Int) < (n : Int) := by omega
      have HKn := Lib.hid hlt
      clear hlt
      go_upto_region 6 with fail
      have HA5 : Hid (some wr.heap.size ≠ (Value.slice a0 kk c0).ownBlock ∧ g ≠ wr.heap.size ∧ w.heap.size < wr.heap.size) := by
        have h1 := HS.out.bx.lt
        have h2 := HS.out.rm.lt
        exact ⟨fun e => by have := (HS.out.row.lt _ e.symm).2; omega, by omega, h1⟩
      have hst : BiR w g n A V B H kk wr.heap.size (.slice a0 kk c0) (.int .i64 0) (wr.alloc (.cells #[.int .i64 0, .int .i64 0, .int .i64 0, .int .i64 0, .int .i64 0, .int .i64 0, .int .i64 0, .int .i64 0, .int .i64 0, .int .i64 0, .int .i64 0, .int .i64 0, .int .i64 0, .int .i64 0, .int .i64 0, .int .i64 0] R8T)) :=
        ⟨0, by decide, by have := HKn.out; omega, rfl, by rw [cut16_none]; exact blo_laid wr R8T z16, HS.out.later (sup_im wr (.cells z16 R8T))⟩
      have HSt := Lib.hid hst
      clear hst b0 HS
      generalize wr.alloc (.cells #[.int .i64 0, .int .i64 0, .int .i64 0, .int .i64 0, .int .i64 0, .int .i64 0, .int .i64 0, .int .i64 0, .int .i64 0, .int .i64 0, .int .i64 0, .int .i64 0, .int .i64 0, .int .i64 0, .int .i64 0, .int .i64 0] R8T) = w5 at *
      generalize wr.heap.size = g5 at *
      go_wp2_with fail
      go_loopw [6] (fun t wq => BiR w g n A V B H kk g5 (.slice a0 kk c0) t wq) (fun t _ => 8 - (intOf t).toNat)
      case atStart => exact HSt.out
      case round =>
        clear HSt
        obtain ⟨k, hk8, hkn, rfl, hm, hs⟩ := hrel
        have HS := Lib.hid hs
        have HMm := Lib.hid hm
        have HK8 := Lib.hid hk8
        have HKk := Lib.hid hkn
        have j0 : (0 : Int) ≤ (k : Int) := by omega
        have b0 := hs.bx.cell 0
        simp at b0
        clear hs hm hk8 hkn
        by_cases hin : k < 8 ∧ 8 * kk + k < n
        · have j1 : (k : Int) < 8 := by omega
          obtain ⟨p, hp⟩ : ∃ p : Nat, p = 8 * kk + k := ⟨_, rfl⟩
          have hpe : 8 * (kk : Int) + (k : Int) = (p : Int) := by omega
          have p0 : (0 : Int) ≤ (p : Int) := by omega
          have p1 : (p : Int) < (n : Int) := by omega
          have hpn : p < n := by omega
          obtain ⟨c0, c1, -, -⟩ := HS.out.rm.cell hpn
          have f0 := HMm.out.frozen (k * 2)
          have f1 := HMm.out.frozen (k * 2 + 1)
          obtain ⟨d0, d1⟩ := cells16_at (cutF (blk A n kk) k) (cutF (blk V n kk) k) k hin.1
          rw [← HMm.out.cell] at d0 d1
          have HIn := Lib.hid hin
          have n200 : (n : Int) ≤ 200 := by have := HN.out; omega
          have hput := cut16_put (blk A n kk) (blk V n kk) k hin.1
          have ea : blk A n kk k = A p := by unfold blk; rw [if_pos (by omega), hp]
          have ev : blk V n kk k = V p := by unfold blk; rw [if_pos (by omega), hp]
          rw [ea, ev] at hput
          have HPut := Lib.hid hput
          have HPp := Lib.hid hp
          clear hin hput ea ev hp hpn
          generalize A p = ap at *
          generalize V p = vp at *
          go_upto_region 9 with fail
          go_region
          go_wp2_with fail
          go_roundw
          case rel =>
            refine ⟨k + 1, HIn.out.1, by have := HIn.out.2; omega, by simp, ?_, ?_⟩
            · rw [← HPut.out]
              exact (HMm.out.put _ _).put _ _
            · exact ((HS.out.far ⟨g5, k * 2, none⟩ HA5.out.1 HA5.out.2.1 HA5.out.2.2 _).far ⟨g5, k * 2 + 1, none⟩ HA5.out.1 HA5.out.2.1 HA5.out.2.2 _).later (Below.refl _ _).drew
          case measure => simp [intOf]; have := HIn.out.1; omega
        · have hend : k = 8 ∨ 8 * kk + k = n := by have := HK8.out; have := HKk.out; omega
          have hm2 := HMm.out
          rw [cut_blk A V n kk k hend] at hm2
          have HM2 := Lib.hid hm2
          have HAll := Lib.hid (HGd.out kk)
          have HRb : Hid (∀ W, Calls Try.prog 42 #[.agg (cells16 (blk A n kk) (blk V n kk))] W fun e w' => e = .returned (.tuple #[.string (txtK A V n kk), .int .i64 0]) ∧ Below W.heap.size W w') := fun W =>
            (rmapBlock_any (blk A n kk) (blk V n kk) W).mono fun e w' ⟨h1, h2⟩ => by
              rcases h1 with ⟨_, rfl⟩ | ⟨hno, _⟩
              · exact ⟨rfl, h2⟩
              · exact absurd HAll.out hno
          have hui2 := Try.underlying64
          have HII := Lib.hid (info_r8 (blk A n kk) (blk V n kk))
          have HSu := Lib.hid (cellsK_succ A V n kk)
          have n200 : (n : Int) ≤ 200 := by have := HN.out; omega
          clear hm2 HMm HAll HGd
          generalize cells16 (blk A n kk) (blk V n kk) = CS at *
          generalize txtK A V n kk = tx at *
          have hguard : ((k : Int) < 8 ∧ ¬ 8 * (kk : Int) + (k : Int) < (n : Int)) ∨ ¬ (k : Int) < 8 := by
            rcases hend with e | e <;> omega
          clear hend hin
          rcases hguard with ⟨j1, j2⟩ | j1
          · go_wp2_with (refine wpList_load_row rfl R8T (.tmp 5) rfl g5 rfl R8T CS (0, 0) _ HM2.out hui2 rfl HII.out ?_)
            refine (HRb.out _).mono ?_
            rintro e w6 ⟨rfl, hb6⟩
            have HS6 := Lib.hid (HS.out.later hb6)
            have HS7 := Lib.hid (HS6.out.later (sup_im w6 (.cells #[.string tx] STR)))
            have HE7 := Lib.hid (blo_laid w6 STR #[.string tx])
            clear hb6 HS
            go_wp2_with (at_builtin; refine wp_append_row rfl (.tmp 53) (.tmp 55) 61 rfl (w.heap.size + 1) STR (.string ByteArray.empty) 1 16 Try.underlying61 info_str rfl (by decide) (by decide) (.slice a0 kk c0) kk (cellsK A V n kk) rfl HS7.out.row (some ⟨w6.heap.size, 0, none⟩) 1 1 [.string tx] rfl rfl (fun ad e j u hj => by cases e; rw [Addr.add_lit]; show World.cell? _ ⟨w6.heap.size, 0 + j, none⟩ = _; rw [Nat.zero_add, HE7.out.cell]; simpa using hj) (fun u hu => by simp at hu; subst hu; rfl) (fun e => by cases e) (by have := HK.out; have := HN.out; omega) (Nat.lt_of_lt_of_le HS6.out.bx.lt (by simp)) ?_; intro a8 c8 w8 ho8 hg8; rw [← HSu.out] at ho8; have HO8 := Lib.hid ho8; have HG8 := Lib.hid hg8; clear ho8 hg8)
            refine ⟨⟨kk + 1, by have := HKn.out; omega, by rw [show 8 * ((kk + 1 : Nat) : Int) = 8 * (kk : Int) + 8 by omega], HO8.out, HS7.out.rm.grown HG8.out (fun e => ?_), HS7.out.bx.grown HG8.out (fun e => ?_), HS7.out.b.grown HG8.out HS7.out.b.size (fun q hq => ?_)⟩, ?_⟩
            · have := (HS7.out.row.lt _ e.symm).1; have := HGl.out; omega
            · have := (HS7.out.row.lt _ e.symm).1; omega
            · have := (HS7.out.row.lt _ hq).1; omega
            · simp [intOf]; have := HKn.out; omega
          · go_wp2_with (refine wpList_load_row rfl R8T (.tmp 5) rfl g5 rfl R8T CS (0, 0) _ HM2.out hui2 rfl HII.out ?_)
            refine (HRb.out _).mono ?_
            rintro e w6 ⟨rfl, hb6⟩
            have HS6 := Lib.hid (HS.out.later hb6)
            have HS7 := Lib.hid (HS6.out.later (sup_im w6 (.cells #[.string tx] STR)))
            have HE7 := Lib.hid (blo_laid w6 STR #[.string tx])
            clear hb6 HS
            go_wp2_with (at_builtin; refine wp_append_row rfl (.tmp 53) (.tmp 55) 61 rfl (w.heap.size + 1) STR (.string ByteArray.empty) 1 16 Try.underlying61 info_str rfl (by decide) (by decide) (.slice a0 kk c0) kk (cellsK A V n kk) rfl HS7.out.row (some ⟨w6.heap.size, 0, none⟩) 1 1 [.string tx] rfl rfl (fun ad e j u hj => by cases e; rw [Addr.add_lit]; show World.cell? _ ⟨w6.heap.size, 0 + j, none⟩ = _; rw [Nat.zero_add, HE7.out.cell]; simpa using hj) (fun u hu => by simp at hu; subst hu; rfl) (fun e => by cases e) (by have := HK.out; have := HN.out; omega) (Nat.lt_of_lt_of_le HS6.out.bx.lt (by simp)) ?_; intro a8 c8 w8 ho8 hg8; rw [← HSu.out] at ho8; have HO8 := Lib.hid ho8; have HG8 := Lib.hid hg8; clear ho8 hg8)
            refine ⟨⟨kk + 1, by have := HKn.out; omega, by rw [show 8 * ((kk + 1 : Nat) : Int) = 8 * (kk : Int) + 8 by omega], HO8.out, HS7.out.rm.grown HG8.out (fun e => ?_), HS7.out.bx.grown HG8.out (fun e => ?_), HS7.out.b.grown HG8.out HS7.out.b.size (fun q hq => ?_)⟩, ?_⟩
            · have := (HS7.out.row.lt _ e.symm).1; have := HGl.out; omega
            · have := (HS7.out.row.lt _ e.symm).1; omega
            · have := (HS7.out.row.lt _ hq).1; omega
            · simp [intOf]; have := HKn.out; omega
    · have k1 : ¬ 8 * (kk : Int) < (n : Int) := by omega
      have hq : kk = (n + 7) / 8 := by have := HK.out; omega
      have HQ := Lib.hid hq
      clear hlt hq
      go_wp2
      go_ret
      rw [← HQ.out]
      exact ⟨a0, c0, rfl, own_base HS.out.row (Nat.le_succ _), HS.out.b⟩
end Go.Proofs.Ytbacfbdeeogkgaa
