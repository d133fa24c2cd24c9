/-
  New, Len, Get.
-/
import Derived.Test.YtdnkeplmjimjcaaChDo
import Derived.Test.YtdnkeplmjimjcaaCopyIn
import Derived.Lib.SliceRun
namespace Go.Proofs.Ytdnkeplmjimjcaa
open Go.RowKit

abbrev U8 := 5
abbrev BYS := 35
def dtL (d : Nat → Nat) : List Nat := (List.range 64).map d
theorem dtL_len (d : Nat → Nat) : (dtL d).length = 64 := by simp [dtL]
theorem dtL_cells (d : Nat → Nat) (j : Nat) (u : Value) (h : (cellsB (dtL d))[j]? = some u) : j < 64 ∧ u = .int .u8 ((d j : Nat) : Int) := by
  have hj : j < 64 := by
    have := (List.getElem?_eq_some_iff.1 h).1
    rw [cellsB_length, dtL_len] at this
    exact this
  refine ⟨hj, ?_⟩
  rw [cellsB_get _ _ (by rw [dtL_len]; exact hj)] at h
  cases h
  simp [dtL, List.getD_eq_getElem?_getD, hj]
theorem info_u8c : (Try.prog.info? U8).map (fun i => (i.zero, i.size, i.bytes)) = some (some (.int .u8 0), 1, 1) := by kernel_rfl
theorem cellsB_oneC (l : List Nat) : ∀ u ∈ cellsB l, u.oneCell' = true := fun u hu => by
  unfold cellsB at hu
  obtain ⟨x, _, rfl⟩ := List.mem_map.1 hu
  rfl
section
variable {w w' : World} {bc bm base b : Nat} {room uses : Int} {N T T' : Nat} {x : Sx} {a : Int} {s : Bf} {v : Value} {p : Int × Int} {L L' : List Bk}
theorem CA.len (h : CA w bc bm base room N T L) : ∃ n f ks uses v, KM w bm n f ks ∧ ks.length = L.length ∧ CB w bc bm room uses v := by
  obtain ⟨x, hC, rfl⟩ := h
  exact ⟨_, _, _, _, _, hC.km, by rw [hC.ps.len]; simp [lstK], hC.cb⟩
set_option maxHeartbeats 4000000 in
theorem len_any (h : CA w bc bm base room N T L) : Calls Try.prog 16 #[.pointer (some ⟨bc, 0, none⟩)] w fun e w' => e = .returned (.int .i64 (L.length : Nat)) ∧ w = w' := by
  obtain ⟨n, f, ks, uses, v, hK, hl, hC⟩ := h.len
  have k1 := hK.len 3
  rw [hl] at k1
  obtain ⟨-, c1, -, -⟩ := hC.cell
  clear hK hl hC h
  generalize L.length = z at *
  go_enter Try.func16, Try.ntmps16
  go_wp2_with fail
  go_ret
  exact ⟨rfl, rfl⟩
/-- A new cache. -/
structure NewC (w : World) (bc bm : Nat) (room : Int) : Prop where
  cb : CB w bc bm room 0 (.slice none 0 0)
  km : KM w bm 0 (fun _ => none) []
theorem NewC.out {X : Nat → Prop} (h : NewC w bc bm room) (ho : Out X w w') (h1 : ¬ X bc) (h2 : ¬ X bm) : NewC w' bc bm room := ⟨h.cb.out ho h1, h.km.out ho h2⟩
theorem NewC.ca (h : NewC w bc bm room) (h1 : 1 ≤ room) (h2 : room ≤ 4096) (h3 : base ≤ bc) (h4 : base ≤ bm) : CA w bc bm base room 0 0 [] :=
  ⟨⟨.slice none 0 0, 0, fun _ => 0, fun _ => ⟨0, 0, fun _ => 0, false, 0, 0⟩, 0, [], [], fun _ => none, 0⟩, ⟨h.cb, h.km, ⟨World.ownsRow_nil _ _ _ _, fun i hi => absurd hi (Nat.not_lt_zero _)⟩, fun j _ hj => absurd hj (Nat.not_lt_zero _), fun c hc => by simp at hc, fun c hc => by simp at hc, fun i hi => absurd hi (Nat.not_lt_zero _), ⟨List.Pairwise.nil, fun c hc => by simp at hc, fun c hc => by simp at hc, fun p b => by simp, rfl, fun c hc => by simp at hc, ⟨h1, h2, by simp; omega⟩, ⟨by simp, by simp⟩, Nat.le_refl _⟩, ⟨h3, h4, fun c hc => by simp at hc⟩⟩, rfl⟩
set_option maxHeartbeats 4000000 in
theorem new_any (h1 : 1 ≤ room) (h2 : room ≤ 4096) (w : World) : Calls Try.prog 9 #[.int .i64 room] w fun e w' => e = .returned (.tuple #[.pointer (some ⟨w.heap.size + 1, 0, none⟩), .int .i64 0]) ∧ NewC w' (w.heap.size + 1) w.heap.size room ∧ Below w.heap.size w w' := by
  have HE : Hid (NewC ((w.alloc (.map #[] 0)).alloc (.cells #[.int .i64 room, .map (some w.heap.size), .slice none 0 0, .int .i64 0] CT)) (w.heap.size + 1) w.heap.size room ∧ Below w.heap.size w ((w.alloc (.map #[] 0)).alloc (.cells #[.int .i64 room, .map (some w.heap.size), .slice none 0 0, .int .i64 0] CT))) := by
    have hs : (w.alloc (.map #[] 0)).heap.size = w.heap.size + 1 := by simp
    refine ⟨⟨?_, (KM.made w).later (sup_pc9 _ _)⟩, (sup_pc9 w _).alloc (by simp) _⟩
    have := blo_laid (w.alloc (.map #[] 0)) CT #[.int .i64 room, .map (some w.heap.size), .slice none 0 0, .int .i64 0]
    rw [hs] at this
    exact this
  have hmm : (Instr.makeMap KMT none).run Try.prog w = .ok (.map (some w.heap.size)) (w.alloc (.map #[] 0)) := rfl
  have g1 : ¬ room < 1 := by omega
  have g2 : ¬ room > 4096 := by omega
  go_enter Try.func9, Try.ntmps9
  go_wp2_with fail
  go_ret2
  exact ⟨rfl, HE.out⟩
theorem new_bad (h : room < 1 ∨ 4096 < room) (w : World) : Calls Try.prog 9 #[.int .i64 room] w fun e w' => e = .returned (.tuple #[.pointer none, .int .i64 22]) ∧ w = w' := by
  by_cases h1 : room < 1
  · go_enter Try.func9, Try.ntmps9
    go_wp2_with fail
    go_ret2
    exact ⟨rfl, rfl⟩
  · have h2 : room > 4096 := by omega
    go_enter Try.func9, Try.ntmps9
    go_wp2_with fail
    go_ret2
    exact ⟨rfl, rfl⟩
/-- slices.Clone of a buffer's bytes. -/
theorem clone_any (hB : BufO w b s a) : Calls Try.prog 37 #[.slice (some ⟨b, 2, none⟩) 64 64] w fun e w' => ∃ a' cap', e = .returned (.slice a' 64 cap') ∧ w'.ownsRow w.heap.size U8 1 (.slice a' 64 cap') 64 (cellsB (dtL s.data)) ∧ Below w.heap.size w w' := by
  obtain ⟨cs, hb, hc⟩ := hB
  have HSrc : Hid (∀ ad, some (⟨b, 2, none⟩ : Addr) = some ad → ∀ j u, (cellsB (dtL s.data))[j]? = some u → (w.alloc (.cells #[] U8)).cell? (ad.add j) = some u) := fun ad e j u hj => by
    cases e
    obtain ⟨h1, rfl⟩ := dtL_cells _ _ _ hj
    rw [Addr.add_lit, (hb.alloc _).cell]
    exact hc.dat j h1
  have HLen : Hid ((cellsB (dtL s.data)).length = 64 * 1) := by show _ = 64 * 1; rw [cellsB_length, dtL_len]
  have qN : ∀ (w : World) (a : Option Addr) (n c : Nat), (binOp .eql BYS (.slice a n c) (.slice none 0 0)).run Try.prog w = .ok (.bool a.isNone) w := fun w a n c => Lib.run_eql_slice_nil w _ _ a n c 0 0 Try.underlying35
  have HAl := Lib.hid (sup_pc9 w (.cells #[] U8))
  clear hb hc
  generalize dtL s.data = l at *
  go_enter Try.func37, Try.ntmps37
  go_wp2_with (at_builtin; refine wp_copy_in rfl (.tmp 5) (.tmp 6) BYS rfl w.heap.size U8 (.int .u8 0) 1 1 Try.underlying35 info_u8c rfl (by decide) (.slice (some ⟨w.heap.size, 0, none⟩) 0 0) rfl (own_empty w w.heap.size U8 1 (Nat.le_refl _)) (some ⟨b, 2, none⟩) 64 64 (cellsB l) rfl HLen.out HSrc.out (cellsB_oneC _) (fun h => by cases h) (by omega) (by omega) (by simp) ?_; intro a5 c5 w3 hown hgrow; have HO3 := Lib.hid hown; have HB3 : Hid (Below w.heap.size w w3) := HAl.out.grown hgrow HAl.out.size (fun q hq => by simp [Value.ownBlock] at hq; omega); clear hown hgrow)
  go_ret
  exact ⟨a5, c5, rfl, HO3.out, HB3.out⟩
/-- A buffer is used. -/
theorem use_ls (hC : CS w bc bm base room N T x) (hb : b ∈ x.bs) (hT : T ≤ 4000000000000000000) :
    Calls Try.prog 35 #[.pointer (some ⟨bc, 0, none⟩), .pointer (some ⟨b, 0, none⟩)] w fun e w' => e = .returned (.tuple #[]) ∧ ∃ a x', LS w' bc bm base room N (T + 1) x' b a ∧ b ∈ x'.bs ∧ lstK x'.S x'.bs = woK (lstK x.S x.bs) (keyB (x.S b)) ++ [bk (x.S b)] ∧ (x'.S b).data = (x.S b).data ∧ Out (XC w bc bm base) w w' := by
  obtain ⟨a, hB, hL⟩ := hC.loose hb
  have hu := hC.ps.us
  have hN := hC.ps.nodup
  refine (use_any hC.cb hB hu.1 (by omega)).mono ?_
  rintro e w' ⟨rfl, hCB, hB', ho⟩
  refine ⟨rfl, a, _, hL w' { x.S b with used := x.uses + 1 } (x.uses + 1) (x.bs.erase b ++ [b]) (T + 1) hB' hCB ho (hC.ps.use hb rfl rfl rfl (Nat.le_refl _)) (fun c => ?_), ?_, ?_, ?_, ho.mono fun g _ h => xc_b hB hC.low.1 (hC.low.2.2 b hb) h⟩
  · rw [List.mem_append, hN.mem_erase_iff, List.mem_singleton]
    by_cases e : c = b
    · rw [e]; simp [hb]
    · simp [e]
  · show b ∈ x.bs.erase b ++ [b]
    simp
  · exact lst_use hC.ps hb _
  · show (upn x.S b _ b).data = _
    rw [upn_at]
/-- The blocks behind Get, and what is answered. -/
def getK (L : List Bk) (p : Int × Int) : List Bk × Option (Nat → Nat) :=
  match findK L p with
  | none => (L, none)
  | some s => (woK L p ++ [s], some s.data)
def GeO (w : World) (bc bm base : Nat) (room : Int) (N T : Nat) (L : List Bk) (p : Int × Int) (e : Ending) (w' : World) : Prop :=
  CA w' bc bm base room N T (getK L p).1 ∧ Out (XC w bc bm base) w w' ∧
    ((getK L p).2 = none ∧ e = .returned (.tuple #[.slice none 0 0, .bool false]) ∨
      ∃ d g cap', (getK L p).2 = some d ∧ e = .returned (.tuple #[.slice (some ⟨g, 0, none⟩) 64 cap', .bool true]) ∧ w'.ownsRow w.heap.size U8 1 (.slice (some ⟨g, 0, none⟩) 64 cap') 64 (cellsB (dtL d)))
set_option maxRecDepth 100000 in
set_option maxHeartbeats 4000000 in
theorem get_any (h : CA w bc bm base room N T L) (hp : wfK p) (hT : T ≤ 4000000000000000000) :
    Calls Try.prog 22 #[.pointer (some ⟨bc, 0, none⟩), keyV p] w (GeO w bc bm base room N (T + 1) L p) := by
  obtain ⟨ki, kl⟩ := p
  cases hf : findK L (ki, kl) with
  | none =>
    have e : getK L (ki, kl) = (L, none) := by unfold getK; rw [hf]
    have HE : Hid (∀ w', Below w.heap.size w w' → GeO w bc bm base room N (T + 1) L (ki, kl) (.returned (.tuple #[.slice none 0 0, .bool false])) w') := fun w' hb => by
      unfold GeO
      rw [e]
      exact ⟨(h.later hb).mono (Nat.le_refl _) (by omega), Out.of_below hb, .inl ⟨rfl, rfl⟩⟩
    obtain ⟨x, hC, rfl⟩ := h
    rw [find_lst hC.ps] at hf
    have hf : x.f (ki, kl) = none := by simpa using hf
    obtain ⟨-, d1, -, -⟩ := hC.cb.cell
    obtain ⟨w1, hw1⟩ : ∃ w1, w1 = w.alloc (.cells #[.int .i64 ki, .int .i64 kl] KT) := ⟨_, rfl⟩
    have HB1 : Hid (Below w.heap.size w w1) := by rw [hw1]; exact sup_pc9 w _
    have hX : Blo w1 w.heap.size KT #[.int .i64 ki, .int .i64 kl] := by rw [hw1]; exact blo_laid w _ _
    have c0 : ∀ y : Kept w1, y.at_.cell? ⟨w.heap.size, 0, none⟩ = some (.int .i64 ki) := fun y => cell_later y.below (Blo.cell hX 0)
    have c1 : ∀ y : Kept w1, y.at_.cell? ⟨w.heap.size, 1, none⟩ = some (.int .i64 kl) := fun y => cell_later y.below (Blo.cell hX 1)
    have c2 : ∀ y : Kept w1, y.at_.cell? ⟨bc, 1, none⟩ = some (.map (some bm)) := fun y => cell_later y.below (cell_later HB1.out d1)
    have k1 : ∀ y : Kept w1, (Instr.lookup KMT (.map (some bm)) (.agg #[.int .i64 ki, .int .i64 kl]) true).run Try.prog y.at_ = .ok (.tuple #[.pointer none, .bool false]) y.at_ := fun y => by
      have := (hC.km.later (HB1.out.trans (y.below.mono HB1.out.size))).look_ok hp
      rw [hf] at this
      exact this
    clear hC hp hf hX d1 e
    unfold keyV
    go_enter Try.func22, Try.ntmps22
    go_upto_region 1 with (fail)
    rw [← hw1]
    clear hw1
    obtain ⟨g0, hg0⟩ : ∃ g0, w.heap.size = g0 := ⟨_, rfl⟩
    rw [hg0] at c0 c1 ⊢
    refine wp_region_kept (by kernel_rfl) (by kernel_rfl) ?_
    repeat (go_big_quiet_step (fail))
    refine wpQuiet_nil ?_
    rintro W2 ⟨w2, rfl⟩
    have HE2 := Lib.hid (HE.out _ (HB1.out.trans (w2.below.mono HB1.out.size)))
    clear c0 c1 c2 k1 HE
    go_wp2_with fail
    go_ret2
    exact HE2.out
  | some s =>
    obtain ⟨x, b, hC, rfl, hq, rfl, hb, hpb⟩ := do_some h hf
    have e : getK (lstK x.S x.bs) (ki, kl) = (woK (lstK x.S x.bs) (keyB (x.S b)) ++ [bk (x.S b)], some (x.S b).data) := by unfold getK; rw [hf, hpb]; rfl
    obtain ⟨-, d1, -, -⟩ := hC.cb.cell
    obtain ⟨w1, hw1⟩ : ∃ w1, w1 = w.alloc (.cells #[.int .i64 ki, .int .i64 kl] KT) := ⟨_, rfl⟩
    have HB1 : Hid (Below w.heap.size w w1) := by rw [hw1]; exact sup_pc9 w _
    have hX : Blo w1 w.heap.size KT #[.int .i64 ki, .int .i64 kl] := by rw [hw1]; exact blo_laid w _ _
    have c0 : ∀ y : Kept w1, y.at_.cell? ⟨w.heap.size, 0, none⟩ = some (.int .i64 ki) := fun y => cell_later y.below (Blo.cell hX 0)
    have c1 : ∀ y : Kept w1, y.at_.cell? ⟨w.heap.size, 1, none⟩ = some (.int .i64 kl) := fun y => cell_later y.below (Blo.cell hX 1)
    have c2 : ∀ y : Kept w1, y.at_.cell? ⟨bc, 1, none⟩ = some (.map (some bm)) := fun y => cell_later y.below (cell_later HB1.out d1)
    have k1 : ∀ y : Kept w1, (Instr.lookup KMT (.map (some bm)) (.agg #[.int .i64 ki, .int .i64 kl]) true).run Try.prog y.at_ = .ok (.tuple #[.pointer (some ⟨b, 0, none⟩), .bool true]) y.at_ := fun y => by
      have := (hC.km.later (HB1.out.trans (y.below.mono HB1.out.size))).look_ok hp
      rw [hq] at this
      exact this
    have HC := Lib.hid hC
    have HI := Lib.hid hb
    have HEq := Lib.hid e
    clear hC hp hf hX d1 e hq hb hpb h
    unfold keyV
    go_enter Try.func22, Try.ntmps22
    go_upto_region 1 with (fail)
    rw [← hw1]
    clear hw1
    obtain ⟨g0, hg0⟩ : ∃ g0, w.heap.size = g0 := ⟨_, rfl⟩
    rw [hg0] at c0 c1 ⊢
    refine wp_region_kept (by kernel_rfl) (by kernel_rfl) ?_
    repeat (go_big_quiet_step (fail))
    refine wpQuiet_nil ?_
    rintro W2 ⟨w2, rfl⟩
    have HB2 := Lib.hid (HB1.out.trans (w2.below.mono HB1.out.size))
    have HC2 := Lib.hid (HC.out.later HB2.out)
    clear c0 c1 c2 k1 HC
    go_wp2_with fail
    refine (use_ls HC2.out HI.out hT).mono ?_
    rintro e w3 ⟨rfl, a, x', hL, hin, hlst, hdat, ho⟩
    have HO := Lib.hid (outC_trans (Out.of_below HB2.out) ho)
    have HPl := Lib.hid (place_any hL hL.blt)
    have HIn := Lib.hid hin
    have HLs := Lib.hid hlst
    have HDt := Lib.hid hdat
    clear hL ho hin hlst hdat HC2
    go_wp2_with fail
    refine HPl.out.mono ?_
    rintro e w4 ⟨rfl, v', m', h', hC, ho⟩
    have HO4 := Lib.hid (outC_trans HO.out ho)
    have HC4 := Lib.hid hC
    obtain ⟨a4, hB4⟩ := hC.buf (show b ∈ Sx.bs _ from HIn.out)
    have HCl := Lib.hid (clone_any hB4)
    clear HPl hC ho HO HB2 hB4
    go_wp2_with fail
    refine HCl.out.mono ?_
    rintro e w5 ⟨a', cap', rfl, hown, hb⟩
    have HE : Hid (GeO w bc bm base room N (T + 1) (lstK x.S x.bs) (ki, kl) (.returned (.tuple #[.slice a' 64 cap', .bool true])) w5) := by
      unfold GeO
      rw [HEq.out]
      obtain ⟨g, rfl⟩ : ∃ g, a' = some ⟨g, 0, none⟩ := by
        rcases hown.2 with ⟨q, _⟩ | ⟨g, c, cur, q, _⟩
        · cases q
        · cases q; exact ⟨g, rfl⟩
      refine ⟨⟨_, HC4.out.later hb, HLs.out.symm⟩, outC_trans HO4.out (Out.of_below hb), .inr ⟨_, g, cap', rfl, rfl, ?_⟩⟩
      have := hown
      rw [show dtL (x'.S b).data = dtL (x.S b).data by rw [HDt.out]] at this
      refine ⟨this.1, ?_⟩
      rcases this.2 with q | ⟨g', c, cur, q, q2, q3⟩
      · exact .inl q
      · exact .inr ⟨g', c, cur, q, Nat.le_trans HO4.out.size q2, q3⟩
    clear HCl hown hb HC4 HO4 HLs HDt HEq HIn
    go_wp2_with fail
    go_ret2
    exact HE.out
end
end Go.Proofs.Ytdnkeplmjimjcaa
