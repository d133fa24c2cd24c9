/-
  The walk of InodeReads: of any bytes just an inode's block is read, and written so again.
-/
import Derived.Test.YtfkobamemehkdaaDoorInRefDec
import Derived.Test.YtfkobamemehkdaaDoorCopied
namespace Go.Proofs.YtfkobamemehkdaaDoor
open Go.RowKit

set_option maxHeartbeats 400000 in
theorem inDecode_len (n : Nat) (hn : n ≠ 64) (a : Option Addr) (cap : Nat) (w : World) :
    Calls Tryd.prog 14 #[.slice a n cap] w fun e w' => e = .returned (.tuple #[.agg zino, .int .i64 100]) ∧ Below w.heap.size w w' := by
  have hn' : ¬ ((n : Int) = 64) := by omega
  go_enter Tryd.func14, Tryd.ntmps14
  go_wp2_with fail
  refine bodyPost_ret (v := .tuple #[.agg zino, .int .i64 100]) ?_ rfl ⟨rfl, ?_⟩
  · simp [results, Tryd.results14, go_sem]
  · exact (sup_below w _)
set_option maxHeartbeats 400000 in
theorem refDecode_len (n : Nat) (hn : n ≠ 64) (a : Option Addr) (cap : Nat) (w : World) :
    Calls Tryd.prog 16 #[.slice a n cap] w fun e w' => e = .returned (.tuple #[.agg zino, .int .i64 100]) ∧ Below w.heap.size w w' := by
  have hn' : ¬ ((n : Int) = 64) := by omega
  go_enter Tryd.func16, Tryd.ntmps16
  go_wp2_with fail
  refine bodyPost_ret (v := .tuple #[.agg zino, .int .i64 100]) ?_ rfl ⟨rfl, ?_⟩
  · simp [results, Tryd.results16, go_sem]
  · exact (sup_below w _)
set_option maxHeartbeats 1000000 in
theorem refDecode_badsum (l : List Nat) (hl : 64 = l.length) (a : Option Addr) (cap : Nat) (hc : 64 ≤ cap) (w : World) (h : Bytes w a l) (ha : a = none → l = [] ∧ cap = 0) (hs : sealN (l.take 60) ≠ l) :
    Calls Tryd.prog 16 #[.slice a 64 cap] w fun e w' => e = .returned (.tuple #[.agg zino, .int .i64 101]) ∧ Below w.heap.size w w' := by
  have H := Lib.hid h
  have HA := Lib.hid ha
  have HS := Lib.hid hs
  have HL := Lib.hid hl
  clear h ha hs hl
  go_enter Tryd.func16, Tryd.ntmps16
  go_wp2_with fail
  have HB0 : Hid (Below w.heap.size w (w.alloc (.cells zino 25))) := sup_below w _
  have HG0 := Lib.hid (blo_laid w 25 zino)
  refine (refOpen_bad l 64 60 HL.out rfl (by decide) a cap hc _ (H.out.below HB0.out) HA.out HS.out).mono ?_
  rintro e w1 ⟨rfl, hb1⟩
  have HB1 : Hid (Below w.heap.size w w1) := HB0.out.trans (hb1.mono (by simp))
  have HG1 := Lib.hid (HG0.out.later hb1)
  clear hb1 HG0 HB0
  have HI : Hid ((Tryd.prog.info? 25).map (·.size) = some zino.size) := infoIno
  have hui := Tryd.underlying25
  go_wp2_with (refine wpList_store_row rfl 25 (.tmp 2) (.tmp 20) rfl w.heap.size zino rfl rfl 25 _ HG1.out HI.out rfl zino_one ?_)
  have hrow : (w1.setRow w.heap.size zino).heap[w.heap.size]? = some (.cells zino 25 (0, 0)) := setRow_heap w1 w.heap.size _ _ _ _ HG1.out
  refine bodyPost_ret (v := .tuple #[.agg zino, .int .i64 101]) ?_ rfl ⟨rfl, ?_⟩
  · simp [results, Tryd.results16, asAddr, run_loadVar_row _ _ 25 25 zino (0, 0) _ hrow hui rfl HI.out]
  · exact below_setRow HB1.out (Nat.le_refl _) _
theorem neq_ino (a b c d s p0 p1 p2 p3 p4 p5 p6 p7 p8 : Nat) (hf : FitI a b c d s p0 p1 p2 p3 p4 p5 p6 p7 p8) (W : World) : (binOp .neq 25 (.agg (ino a b c d s p0 p1 p2 p3 p4 p5 p6 p7 p8)) (.agg (ino a b c d s p0 p1 p2 p3 p4 p5 p6 p7 p8))).run Tryd.prog W = .ok (.bool false) W := by
  obtain ⟨r, h1, h2⟩ := eql_ino a b c d s a b c d s p0 p1 p2 p3 p4 p5 p6 p7 p8 p0 p1 p2 p3 p4 p5 p6 p7 p8 hf hf W
  have hr : r = true := h2.2 (by simp)
  subst hr
  rw [run_eql_struct] at h1
  rw [run_neq_struct]
  cases hq : (Op.equalIn 10000 25 (.agg (ino a b c d s p0 p1 p2 p3 p4 p5 p6 p7 p8)) (.agg (ino a b c d s p0 p1 p2 p3 p4 p5 p6 p7 p8))).run Tryd.prog W with
  | ok b' w' =>
    rw [hq] at h1
    simp [Result.andThen] at h1
    simp [Result.andThen, h1]
  | halt x w' =>
    rw [hq] at h1
    simp [Result.andThen] at h1
/-- Both Decodes answer these numbers, of these bytes. -/
structure Dec2 (l : List Nat) (n : Nat) (a b c d s p0 p1 p2 p3 p4 p5 p6 p7 p8 k : Nat) : Prop where
  fit : FitI a b c d s p0 p1 p2 p3 p4 p5 p6 p7 p8
  is : k ≠ 0 ∨ (k = 0 ∧ GoodI a b c d s ∧ sealN (inoN a b c d s p0 p1 p2 p3 p4 p5 p6 p7 p8) = l)
  own : ∀ (adr : Option Addr) (cap : Nat), n ≤ cap → ∀ W, Tab W → 0 < W.heap.size → Bytes W adr l → (adr = none → l = [] ∧ cap = 0) → Calls Tryd.prog 14 #[.slice adr n cap] W fun e w' => e = .returned (.tuple #[.agg (ino a b c d s p0 p1 p2 p3 p4 p5 p6 p7 p8), .int .i64 k]) ∧ Below W.heap.size W w'
  ref : ∀ (adr : Option Addr) (cap : Nat), n ≤ cap → ∀ W, Bytes W adr l → (adr = none → l = [] ∧ cap = 0) → Calls Tryd.prog 16 #[.slice adr n cap] W fun e w' => e = .returned (.tuple #[.agg (ino a b c d s p0 p1 p2 p3 p4 p5 p6 p7 p8), .int .i64 k]) ∧ Below W.heap.size W w'
theorem dec2_of (l : List Nat) (n : Nat) (hn : n = l.length) (h8 : ∀ x ∈ l, x < 256) : ∃ a b c d s p0 p1 p2 p3 p4 p5 p6 p7 p8 k, Dec2 l n a b c d s p0 p1 p2 p3 p4 p5 p6 p7 p8 k := by
  have hz : FitI (0 : Nat) (0 : Nat) (0 : Nat) (0 : Nat) (0 : Nat) 0 0 0 0 0 0 0 0 0 := by unfold FitI; decide
  by_cases h1 : n = 64
  · subst h1
    by_cases h2 : sealN (l.take 60) = l
    · have hlen : (l.take 60).length = 60 := by simp; omega
      have h8' : ∀ x ∈ l.take 60, x < 256 := fun x hx => h8 x (List.mem_of_mem_take hx)
      have hne : l ≠ [] := fun e => by rw [e] at hn; exact absurd hn (by decide)
      have han : ∀ (adr : Option Addr) (cap : Nat), (adr = none → l = [] ∧ cap = 0) → adr ≠ none := fun adr cap h e => hne (h e).1
      by_cases hy : GoodI (b2 (l.take 60) 0) (b2 (l.take 60) 2) ((l.take 60).getD 4 0) ((l.take 60).getD 5 0) (b4 (l.take 60) 6) ∧ inoN (b2 (l.take 60) 0) (b2 (l.take 60) 2) ((l.take 60).getD 4 0) ((l.take 60).getD 5 0) (b4 (l.take 60) 6) (ptI (l.take 60) 0) (ptI (l.take 60) 1) (ptI (l.take 60) 2) (ptI (l.take 60) 3) (ptI (l.take 60) 4) (ptI (l.take 60) 5) (ptI (l.take 60) 6) (ptI (l.take 60) 7) (ptI (l.take 60) 8) = l.take 60
      · have hR : DecR (l.take 60) (.tuple #[.agg (ino (b2 (l.take 60) 0) (b2 (l.take 60) 2) ((l.take 60).getD 4 0) ((l.take 60).getD 5 0) (b4 (l.take 60) 6) (ptI (l.take 60) 0) (ptI (l.take 60) 1) (ptI (l.take 60) 2) (ptI (l.take 60) 3) (ptI (l.take 60) 4) (ptI (l.take 60) 5) (ptI (l.take 60) 6) (ptI (l.take 60) 7) (ptI (l.take 60) 8)), .int .i64 0]) := .inl ⟨hy.1, hy.2, rfl⟩
        refine ⟨b2 (l.take 60) 0, b2 (l.take 60) 2, (l.take 60).getD 4 0, (l.take 60).getD 5 0, b4 (l.take 60) 6, ptI (l.take 60) 0, ptI (l.take 60) 1, ptI (l.take 60) 2, ptI (l.take 60) 3, ptI (l.take 60) 4, ptI (l.take 60) 5, ptI (l.take 60) 6, ptI (l.take 60) 7, ptI (l.take 60) 8, 0, ⟨?_, .inr ⟨rfl, hy.1, by rw [hy.2]; exact h2⟩, ?_, ?_⟩⟩
        · have hg := hy.1
          have t0 := b4_lt h8' (10 + 0 * 4)
          have t1 := b4_lt h8' (10 + 1 * 4)
          have t2 := b4_lt h8' (10 + 2 * 4)
          have t3 := b4_lt h8' (10 + 3 * 4)
          have t4 := b4_lt h8' (10 + 4 * 4)
          have t5 := b4_lt h8' (10 + 5 * 4)
          have t6 := b4_lt h8' (10 + 6 * 4)
          have t7 := b4_lt h8' (10 + 7 * 4)
          have t8 := b4_lt h8' (10 + 8 * 4)
          unfold GoodI at hg
          unfold FitI ptI
          omega
        · intro adr cap hc W ht hz' hb ha
          exact inDecode_sealed (l.take 60) hlen adr cap hc W ht hz' (by rw [h2]; exact hb) (han adr cap ha) _ hR
        · intro adr cap hc W hb ha
          exact refDecode_sealed (l.take 60) hlen adr cap hc W (by rw [h2]; exact hb) (han adr cap ha) _ hR
      · have hR : DecR (l.take 60) (.tuple #[.agg zino, .int .i64 100]) := .inr ⟨hy, rfl⟩
        refine ⟨0, 0, 0, 0, 0, 0, 0, 0, 0, 0, 0, 0, 0, 0, 100, ⟨hz, .inl (by decide), ?_, ?_⟩⟩
        · intro adr cap hc W ht hz' hb ha
          exact inDecode_sealed (l.take 60) hlen adr cap hc W ht hz' (by rw [h2]; exact hb) (han adr cap ha) _ hR
        · intro adr cap hc W hb ha
          exact refDecode_sealed (l.take 60) hlen adr cap hc W (by rw [h2]; exact hb) (han adr cap ha) _ hR
    · refine ⟨0, 0, 0, 0, 0, 0, 0, 0, 0, 0, 0, 0, 0, 0, 101, ⟨hz, .inl (by decide), ?_, ?_⟩⟩
      · intro adr cap hc W ht hz' hb ha
        exact inDecode_badsum l hn adr cap hc W ht hz' hb ha h2
      · intro adr cap hc W hb ha
        exact refDecode_badsum l hn adr cap hc W hb ha h2
  · refine ⟨0, 0, 0, 0, 0, 0, 0, 0, 0, 0, 0, 0, 0, 0, 100, ⟨hz, .inl (by decide), ?_, ?_⟩⟩
    · intro adr cap hc W ht hz' hb ha
      exact inDecode_len n h1 adr cap W
    · intro adr cap hc W hb ha
      exact refDecode_len n h1 adr cap W
set_option maxRecDepth 100000 in
set_option maxHeartbeats 4000000 in
theorem inodeReads_small (l : List Nat) (n : Nat) (hn : n = l.length) (hs : n ≤ 1000) (adr : Option Addr) (cap : Nat) (hc : n ≤ cap) (w : World) (ht : Tab w) (hz : 0 < w.heap.size) (h : Bytes w adr l) (ha : adr = none → l = [] ∧ cap = 0) :
    Calls Tryd.prog 4 #[.slice adr n cap] w fun e w' => e = .returned (.bool true) ∧ Below w.heap.size w w' := by
  obtain ⟨a, b, c, d, s, p0, p1, p2, p3, p4, p5, p6, p7, p8, k, hd2⟩ := dec2_of l n hn h.1
  have HD2 := Lib.hid hd2
  have HT := Lib.hid ht
  have H := Lib.hid h
  have HA := Lib.hid ha
  have HN := Lib.hid hn
  have HAw := Lib.hid (awake_any w ht hz)
  have HSE : Hid (∀ W, (binOp .neq 25 (.agg (ino a b c d s p0 p1 p2 p3 p4 p5 p6 p7 p8)) (.agg (ino a b c d s p0 p1 p2 p3 p4 p5 p6 p7 p8))).run Tryd.prog W = .ok (.bool false) W) := fun W => neq_ino a b c d s p0 p1 p2 p3 p4 p5 p6 p7 p8 hd2.fit W
  clear ht h ha hn hd2
  go_enter Tryd.func4, Tryd.ntmps4
  go_wp2_with fail
  refine HAw.out.mono ?_
  rintro e w1 ⟨rfl, hb1⟩
  have HB1 := Lib.hid hb1
  have H1 := Lib.hid (H.out.below hb1)
  have hz1 : 0 < w1.heap.size := by have := hb1.size; omega
  clear hb1
  go_wp2_with (at_builtin; refine wp_append_bytes rfl (.tmp 18) (.tmp 19) 27 rfl w1.heap.size 5 Tryd.underlying27 info_u8 _ 0 [] rfl (World.ownsRow_lit w1 #[] 0 (Nat.le_refl _) (by unfold maxLen; omega) rfl) (by simp) adr n cap l rfl HN.out (H1.out.below ((Below.refl _ _).alloc (Nat.le_refl _) _)) HA.out (by omega) (by simp) ?_; intro a' cap' w2 hown hgr hB hn; have HCp := Lib.hid (copied_of HB1.out HN.out hown _ hgr (fun k hk => by cases hk; exact Nat.le_refl _) hB); clear hown hgr hB hn)
  refine (HD2.out.own a' cap' HCp.out.cap _ (HT.out.below HCp.out.below hz) (by have := HCp.out.below.size; omega) HCp.out.bytes HCp.out.nil).mono ?_
  rintro e w3 ⟨rfl, hb3⟩
  have HB3 : Hid (Below w.heap.size w w3) := HCp.out.below.trans (hb3.mono HCp.out.below.size)
  have HB4 : Hid (Below w.heap.size w (w3.alloc (.cells (ino a b c d s p0 p1 p2 p3 p4 p5 p6 p7 p8) 25))) := HB3.out.alloc HB3.out.size _
  have K2 := Lib.hid ((HCp.out.bytes.below hb3).below (sup_below w3 (.cells (ino a b c d s p0 p1 p2 p3 p4 p5 p6 p7 p8) 25)))
  have G4 := Lib.hid (blo_laid w3 25 (ino a b c d s p0 p1 p2 p3 p4 p5 p6 p7 p8))
  clear hb3 HB1 H1 HB3
  go_wp2_with fail
  refine (HD2.out.ref adr cap hc _ (H.out.below HB4.out) HA.out).mono ?_
  rintro e w5 ⟨rfl, hb5⟩
  have K3 := Lib.hid ((K2.out.below hb5).below (sup_below w5 (.cells (ino a b c d s p0 p1 p2 p3 p4 p5 p6 p7 p8) 25)))
  have G5 := Lib.hid ((G4.out.later hb5).alloc (.cells (ino a b c d s p0 p1 p2 p3 p4 p5 p6 p7 p8) 25))
  have G6 := Lib.hid (blo_laid w5 25 (ino a b c d s p0 p1 p2 p3 p4 p5 p6 p7 p8))
  have HB5 : Hid (Below w.heap.size w w5) := HB4.out.trans (hb5.mono HB4.out.size)
  have HB6 : Hid (Below w.heap.size w (w5.alloc (.cells (ino a b c d s p0 p1 p2 p3 p4 p5 p6 p7 p8) 25))) := HB5.out.alloc HB5.out.size _
  have c0 : (w5.alloc (.cells (ino a b c d s p0 p1 p2 p3 p4 p5 p6 p7 p8) 25)).cell? ⟨w3.heap.size, 0, none⟩ = some (.int .i64 a) := by simpa using G5.out.cell 0
  have c1 : (w5.alloc (.cells (ino a b c d s p0 p1 p2 p3 p4 p5 p6 p7 p8) 25)).cell? ⟨w3.heap.size, 1, none⟩ = some (.int .i64 b) := by simpa using G5.out.cell 1
  have c2 : (w5.alloc (.cells (ino a b c d s p0 p1 p2 p3 p4 p5 p6 p7 p8) 25)).cell? ⟨w3.heap.size, 2, none⟩ = some (.int .i64 c) := by simpa using G5.out.cell 2
  have c3 : (w5.alloc (.cells (ino a b c d s p0 p1 p2 p3 p4 p5 p6 p7 p8) 25)).cell? ⟨w3.heap.size, 3, none⟩ = some (.int .i64 d) := by simpa using G5.out.cell 3
  have c4 : (w5.alloc (.cells (ino a b c d s p0 p1 p2 p3 p4 p5 p6 p7 p8) 25)).cell? ⟨w3.heap.size, 4, none⟩ = some (.int .i64 s) := by simpa using G5.out.cell 4
  have c5 : (w5.alloc (.cells (ino a b c d s p0 p1 p2 p3 p4 p5 p6 p7 p8) 25)).cell? ⟨w3.heap.size, 5, none⟩ = some (.int .u32 p0) := by simpa using G5.out.cell 5
  have c6 : (w5.alloc (.cells (ino a b c d s p0 p1 p2 p3 p4 p5 p6 p7 p8) 25)).cell? ⟨w3.heap.size, 6, none⟩ = some (.int .u32 p1) := by simpa using G5.out.cell 6
  have c7 : (w5.alloc (.cells (ino a b c d s p0 p1 p2 p3 p4 p5 p6 p7 p8) 25)).cell? ⟨w3.heap.size, 7, none⟩ = some (.int .u32 p2) := by simpa using G5.out.cell 7
  have c8 : (w5.alloc (.cells (ino a b c d s p0 p1 p2 p3 p4 p5 p6 p7 p8) 25)).cell? ⟨w3.heap.size, 8, none⟩ = some (.int .u32 p3) := by simpa using G5.out.cell 8
  have c9 : (w5.alloc (.cells (ino a b c d s p0 p1 p2 p3 p4 p5 p6 p7 p8) 25)).cell? ⟨w3.heap.size, 9, none⟩ = some (.int .u32 p4) := by simpa using G5.out.cell 9
  have c10 : (w5.alloc (.cells (ino a b c d s p0 p1 p2 p3 p4 p5 p6 p7 p8) 25)).cell? ⟨w3.heap.size, 10, none⟩ = some (.int .u32 p5) := by simpa using G5.out.cell 10
  have c11 : (w5.alloc (.cells (ino a b c d s p0 p1 p2 p3 p4 p5 p6 p7 p8) 25)).cell? ⟨w3.heap.size, 11, none⟩ = some (.int .u32 p6) := by simpa using G5.out.cell 11
  have c12 : (w5.alloc (.cells (ino a b c d s p0 p1 p2 p3 p4 p5 p6 p7 p8) 25)).cell? ⟨w3.heap.size, 12, none⟩ = some (.int .u32 p7) := by simpa using G5.out.cell 12
  have c13 : (w5.alloc (.cells (ino a b c d s p0 p1 p2 p3 p4 p5 p6 p7 p8) 25)).cell? ⟨w3.heap.size, 13, none⟩ = some (.int .u32 p8) := by simpa using G5.out.cell 13
  have hse := HSE.out
  have hcc : ((k : Int) != (k : Int)) = false := by simp
  have s1 := run_str (w5.alloc (.cells (ino a b c d s p0 p1 p2 p3 p4 p5 p6 p7 p8) 25)) 27 9 5 Tryd.underlying27 Tryd.underlying5 Tryd.underlying9  l _ n cap HN.out (H.out.below HB6.out)
  have s2 := run_str (w5.alloc (.cells (ino a b c d s p0 p1 p2 p3 p4 p5 p6 p7 p8) 25)) 27 9 5 Tryd.underlying27 Tryd.underlying5 Tryd.underlying9  l _ n cap' HN.out K3.out
  clear hb5 K2 G4 HB4 HB5
  rcases HD2.out.is with hc0 | ⟨hc0, hg, hsl⟩
  · have hcn : ((k : Int) != 0) = true := by simpa using (by omega : ¬ (k : Int) = 0)
    clear hc0
    go_wp2_with fail
    go_ret
    exact ⟨rfl, HB6.out⟩
  · subst hc0
    have hft := HD2.out.fit
    unfold FitI at hft
    obtain ⟨_, _, _, _, _, q0, q1, q2, q3, q4, q5, q6, q7, q8⟩ := hft
    have HEn := Lib.hid (fun W h1 h2 => encode_good a b c d s p0 p1 p2 p3 p4 p5 p6 p7 p8 W h1 h2 hg q0 q1 q2 q3 q4 q5 q6 q7 q8)
    have HSe := Lib.hid hsl
    have HM8 : Hid (∀ x ∈ sealN (inoN a b c d s p0 p1 p2 p3 p4 p5 p6 p7 p8), x < 256) := sealN_lt (inoN_lt _ _ _ _ _ _ _ _ _ _ _ _ _ _)
    have HM : Hid (64 = (sealN (inoN a b c d s p0 p1 p2 p3 p4 p5 p6 p7 p8)).length) := by show _ = _; rw [len4, inoN_length]
    clear hg hsl q0 q1 q2 q3 q4 q5 q6 q7 q8
    generalize inoN a b c d s p0 p1 p2 p3 p4 p5 p6 p7 p8 = M at *
    go_wp2_with fail
    refine (HEn.out _ (HT.out.below HB6.out hz) (by have := HB6.out.size; omega)).mono ?_
    rintro e w8 ⟨g, rfl, hr8, hg8, hb8⟩
    have HB8 : Hid (Below w.heap.size w w8) := HB6.out.trans (hb8.mono HB6.out.size)
    have hy := hr8.bytes HM8.out (by rw [← HM.out]; decide)
    rw [HSe.out] at hy
    have h64 : 64 = l.length := by rw [← HSe.out]; exact HM.out
    have s3 := run_str w8 27 9 5 Tryd.underlying27 Tryd.underlying5 Tryd.underlying9  l _ 64 64 h64 hy
    have s4 := run_str w8 27 9 5 Tryd.underlying27 Tryd.underlying5 Tryd.underlying9  l _ n cap HN.out (H.out.below HB8.out)
    clear hr8 hg8 hb8 hy h64 c0 c1 c2 c3 c4 c5 c6 c7 c8 c9 c10 c11 c12 c13
    go_wp2_with fail
    go_ret
    exact ⟨by first | rfl | simp, HB8.out⟩
theorem inodeReads_big (n : Nat) (hs : 1000 < n) (hm : n ≤ 9223372036854775807) (adr : Option Addr) (cap : Nat) (w : World) (ht : Tab w) (hz : 0 < w.heap.size) :
    Calls Tryd.prog 4 #[.slice adr n cap] w fun e w' => e = .returned (.bool true) ∧ Below w.heap.size w w' := by
  have HAw := Lib.hid (fun W hb => awake_any W (ht.below hb hz) (Nat.lt_of_lt_of_le hz (Below.size hb)))
  clear ht
  go_enter Tryd.func4, Tryd.ntmps4
  go_wp2_with fail
  refine (HAw.out _ (Below.refl _ _)).mono ?_
  rintro e w1 ⟨rfl, hb1⟩
  have HB1 := Lib.hid hb1
  clear hb1
  go_wp2_with fail
  refine (HAw.out _ HB1.out).mono ?_
  rintro e w2 ⟨rfl, hb2⟩
  have HB2 : Hid (Below w.heap.size w w2) := HB1.out.trans (hb2.mono HB1.out.size)
  clear hb2
  go_wp2_with fail
  go_ret
  exact ⟨rfl, HB2.out⟩
theorem inodeReads_walk (a : Option Addr) (len cap : Nat) (zs : List Int) (w : World) (hL : Tab w ∧ 0 < w.heap.size) (h : IsRow .u8 w a len cap zs) :
    Calls Tryd.prog 4 #[.slice a len cap] w fun e w' => e = .returned (.bool true) ∧ Below w.heap.size w w' := by
  obtain ⟨l, hn, hb, ha, hm, hc⟩ := h.bytes
  by_cases hs : len ≤ 1000
  · exact inodeReads_small l len hn hs a cap hc w hL.1 hL.2 hb ha
  · exact inodeReads_big len (by omega) hm a cap w hL.1 hL.2
end Go.Proofs.YtfkobamemehkdaaDoor
