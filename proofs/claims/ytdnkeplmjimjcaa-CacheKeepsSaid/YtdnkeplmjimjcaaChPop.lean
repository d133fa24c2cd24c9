/-
  The heap's methods: Swap of one place, Pop, Push.
-/
import Derived.Test.YtdnkeplmjimjcaaChGo
import Derived.Test.YtdnkeplmjimjcaaFlApp
namespace Go.Proofs.Ytdnkeplmjimjcaa
open Go.RowKit

/-- The cache's own block. -/
def CB (w : World) (bc bm : Nat) (room uses : Int) (v : Value) : Prop := Blo w bc CT #[.int .i64 room, .map (some bm), v, .int .i64 uses]
def upn {α : Type} (h : Nat → α) (m : Nat) (b : α) : Nat → α := fun k => if k = m then b else h k
theorem upn_at {α : Type} (h : Nat → α) (m : Nat) (b : α) : upn h m b m = b := if_pos rfl
theorem upn_ne {α : Type} (h : Nat → α) {m k : Nat} (b : α) (e : k ≠ m) : upn h m b k = h k := if_neg e
theorem sup_pc9 (w : World) (o : Obj) : Below w.heap.size w (w.alloc o) := (Below.refl _ _).alloc (Nat.le_refl _) _
theorem info_pb : (Try.prog.info? PB).map (fun i => (i.zero, i.size, i.bytes)) = some (some (.pointer none), 1, 8) := by kernel_rfl
section
variable {w w' : World} {base m n cap gr i j C bc bm b : Nat} {h : Nat → Nat} {S : Nat → Bf} {room uses : Int} {v : Value} {a : Int}
theorem CB.cell (hC : CB w bc bm room uses v) : w.cell? ⟨bc, 0, none⟩ = some (.int .i64 room) ∧ w.cell? ⟨bc, 1, none⟩ = some (.map (some bm)) ∧ w.cell? ⟨bc, 2, none⟩ = some v ∧ w.cell? ⟨bc, 3, none⟩ = some (.int .i64 uses) := ⟨Blo.cell hC 0, Blo.cell hC 1, Blo.cell hC 2, Blo.cell hC 3⟩
theorem CB.out {X : Nat → Prop} (hC : CB w bc bm room uses v) (ho : Out X w w') (hx : ¬ X bc) : CB w' bc bm room uses v := ho.blo hC hx
theorem CB.later (hC : CB w bc bm room uses v) (hb : Below w.heap.size w w') : CB w' bc bm room uses v := Blo.later hC hb
theorem sw_self (h : Nat → Nat) (i : Nat) : sw h i i = h := by
  funext k
  unfold sw
  by_cases e : k = i
  · rw [if_pos e, e]
  · rw [if_neg e, if_neg e]
set_option maxHeartbeats 4000000 in
theorem gswap_self (hG : GS w base (.slice (some ⟨gr, 0, none⟩) m cap) m h S) (hi : i < m) (hm : m ≤ 4096) :
    Calls Try.prog 89 #[.slice (some ⟨gr, 0, none⟩) m cap, .int .i64 i, .int .i64 i] w fun e w' => e = .returned (.tuple #[]) ∧ GS w' base (.slice (some ⟨gr, 0, none⟩) m cap) m h S ∧ Out (XG (.slice (some ⟨gr, 0, none⟩) m cap) m h) w w' := by
  have r1 := hG.rowcell hi
  have f1 := hG.rowfrozen i
  have i1 : (0 : Int) ≤ (i : Int) := by omega
  have i2 : (i : Int) < (m : Int) := by omega
  have HG := Lib.hid hG
  clear hG
  go_enter Try.func89, Try.ntmps89
  go_wp2_with fail
  go_region
  have HF0 : Hid (∀ k, k < m → BufO (((w.setCell ⟨gr, i, none⟩ (.pointer (some ⟨h i, 0, none⟩))).setCell ⟨gr, i, none⟩ (.pointer (some ⟨h i, 0, none⟩))).drew) (h k) (S (h k)) ((k : Nat) : Int)) := fun k hk => (((HG.out.buf k hk).far (p := ⟨gr, i, none⟩) (HG.out.gr_ne hk) _).far (p := ⟨gr, i, none⟩) (HG.out.gr_ne hk) _).drew
  have HR0 : Hid ((((w.setCell ⟨gr, i, none⟩ (.pointer (some ⟨h i, 0, none⟩))).setCell ⟨gr, i, none⟩ (.pointer (some ⟨h i, 0, none⟩))).drew).ownsRow base PB 1 (.slice (some ⟨gr, 0, none⟩) m cap) m (ptrs h m)) := by
    have := ((HG.out.row.stored i (.pointer (some ⟨h i, 0, none⟩))).1.stored i (.pointer (some ⟨h i, 0, none⟩))).1
    rw [ptrs_sw h hi hi, sw_self] at this
    exact own_later this ((Below.refl _ _).drew)
  have HO0 : Hid (Out (XG (.slice (some ⟨gr, 0, none⟩) m cap) m h) w (((w.setCell ⟨gr, i, none⟩ (.pointer (some ⟨h i, 0, none⟩))).setCell ⟨gr, i, none⟩ (.pointer (some ⟨h i, 0, none⟩))).drew)) := (((Out.refl _ w).put (p := ⟨gr, i, none⟩) (.inl rfl) _).put (p := ⟨gr, i, none⟩) (.inl rfl) _).drawn
  generalize ((w.setCell ⟨gr, i, none⟩ (.pointer (some ⟨h i, 0, none⟩))).setCell ⟨gr, i, none⟩ (.pointer (some ⟨h i, 0, none⟩))).drew = w1 at *
  clear r1 f1
  have r1 : w1.cell? ⟨gr, i, none⟩ = some (.pointer (some ⟨h i, 0, none⟩)) := by rw [HR0.out.cellAt i (by simp; exact hi), ptrs_get _ hi]
  obtain ⟨-, -, -, -, -, u1⟩ := (HF0.out i hi).cells
  have f1 := (HF0.out i hi).frozen 69
  have HE : Hid (GS (((w1.setCell ⟨h i, 69, none⟩ (.int .i64 i)).setCell ⟨h i, 69, none⟩ (.int .i64 i)).drew) base (.slice (some ⟨gr, 0, none⟩) m cap) m h S ∧ Out (XG (.slice (some ⟨gr, 0, none⟩) m cap) m h) w (((w1.setCell ⟨h i, 69, none⟩ (.int .i64 i)).setCell ⟨h i, 69, none⟩ (.int .i64 i)).drew)) := by
    refine ⟨⟨own_later ((own_far (own_far HR0.out (p := ⟨h i, 69, none⟩) ?_ _) (p := ⟨h i, 69, none⟩) ?_ _)) ((Below.refl _ _).drew), fun k hk => ?_⟩, ((HO0.out.put (p := ⟨h i, 69, none⟩) (.inr ⟨i, hi, rfl⟩) _).put (p := ⟨h i, 69, none⟩) (.inr ⟨i, hi, rfl⟩) _).drawn⟩
    · intro e; exact HG.out.gr_ne hi (by simpa [Value.ownBlock] using e)
    · intro e; exact HG.out.gr_ne hi (by simpa [Value.ownBlock] using e)
    · by_cases e : k = i
      · subst e
        exact (((HF0.out k hk).put_at _).put_at _).drew
      · exact (((HF0.out k hk).far (p := ⟨h i, 69, none⟩) (fun q => e (HG.out.inj hk hi q)) _).far (p := ⟨h i, 69, none⟩) (fun q => e (HG.out.inj hk hi q)) _).drew
  generalize hhi : h i = a at *
  clear HF0 HR0 HO0 HG hhi
  go_wp2_with fail
  go_region
  go_wp2_with fail
  go_end0
  exact ⟨rfl, HE.out⟩
/-- What a heap's Push and Pop may change: the cache's block beside. -/
def XB (bc : Nat) (v : Value) (m : Nat) (h : Nat → Nat) (g : Nat) : Prop := g = bc ∨ XG v m h g
theorem row_cut (hr : w.ownsRow base PB 1 (.slice (some ⟨gr, 0, none⟩) (n + 1) cap) (n + 1) (ptrs h (n + 1))) : (w.setCell ⟨gr, n, none⟩ (.pointer none)).ownsRow base PB 1 (.slice (some ⟨gr, 0, none⟩) n cap) n (ptrs h n) := by
  obtain ⟨q1, ⟨q2, _⟩ | ⟨g', cap', cur, hv, a1, a2, a3, a4, a5, a6⟩⟩ := hr
  · cases q2
  · cases hv
    refine ⟨by simp [ptrs], .inr ⟨gr, cap, cur.setIfInBounds n (.pointer none), rfl, a1, heap_setCell_same w gr n cur PB _ a2, by omega, a4, by simpa using a5, ?_⟩⟩
    rw [Array.toList_setIfInBounds]
    have e : cur.toList.take (n * 1) = ptrs h n := by
      have h2 := congrArg (List.take n) a6
      rw [List.take_take, show min n ((n + 1) * 1) = n * 1 by omega] at h2
      rw [h2, ptrs_succ, List.take_append_of_le_length (by rw [ptrs_len]; omega), List.take_of_length_le (by rw [ptrs_len]; omega)]
    rw [← e, List.take_set]
    apply List.set_eq_of_length_le
    rw [List.length_take]
    omega
set_option maxHeartbeats 4000000 in
theorem gpop_any (hC : CB w bc bm room uses (.slice (some ⟨gr, 0, none⟩) m cap)) (hG : GS w base (.slice (some ⟨gr, 0, none⟩) m cap) m h S) (hmn : n + 1 = m) (hm : m ≤ 4096) :
    Calls Try.prog 90 #[.pointer (some ⟨bc, 2, none⟩)] w fun e w' => e = .returned (.iface PB (.pointer (some ⟨h n, 0, none⟩))) ∧ CB w' bc bm room uses (.slice (some ⟨gr, 0, none⟩) n cap) ∧ GS w' base (.slice (some ⟨gr, 0, none⟩) n cap) n h S ∧ BufO w' (h n) (S (h n)) (-1) ∧ Out (XB bc (.slice (some ⟨gr, 0, none⟩) m cap) m h) w w' := by
  subst hmn
  have r1 := hG.rowcell (show n < n + 1 by omega)
  have f1 := hG.rowfrozen n
  obtain ⟨-, -, c2, -⟩ := hC.cell
  have f2 := Blo.frozen hC 2
  have hle : n + 1 ≤ cap := by
    obtain ⟨a, c, e, hc⟩ := own_slice hG.row
    cases e
    exact hc
  have hgb : gr ≠ bc := by
    rcases hG.row.2 with ⟨e, _⟩ | ⟨g, cap', cur, hv, _, hb, _⟩
    · cases e
    · cases hv
      exact fun e => Blo.apart (show Blo w gr PB cur from hb) hC (by decide) e
  have hnb : h n ≠ bc := (hG.buf n (by omega)).apart hC (by decide)
  have hng : h n ≠ gr := hG.gr_ne (by omega)
  obtain ⟨-, -, -, -, -, u1⟩ := (hG.buf n (by omega)).cells
  have f3 := (hG.buf n (by omega)).frozen 69
  have hcm : (n : Int) ≤ (cap : Int) := by omega
  have HE : Hid (CB (((w.setCell ⟨gr, n, none⟩ (.pointer none)).setCell ⟨bc, 2, none⟩ (.slice (some ⟨gr, 0, none⟩) n cap)).setCell ⟨h n, 69, none⟩ (.int .i64 (-1))) bc bm room uses (.slice (some ⟨gr, 0, none⟩) n cap) ∧ GS (((w.setCell ⟨gr, n, none⟩ (.pointer none)).setCell ⟨bc, 2, none⟩ (.slice (some ⟨gr, 0, none⟩) n cap)).setCell ⟨h n, 69, none⟩ (.int .i64 (-1))) base (.slice (some ⟨gr, 0, none⟩) n cap) n h S ∧ BufO (((w.setCell ⟨gr, n, none⟩ (.pointer none)).setCell ⟨bc, 2, none⟩ (.slice (some ⟨gr, 0, none⟩) n cap)).setCell ⟨h n, 69, none⟩ (.int .i64 (-1))) (h n) (S (h n)) (-1) ∧ Out (XB bc (.slice (some ⟨gr, 0, none⟩) (n + 1) cap) (n + 1) h) w (((w.setCell ⟨gr, n, none⟩ (.pointer none)).setCell ⟨bc, 2, none⟩ (.slice (some ⟨gr, 0, none⟩) n cap)).setCell ⟨h n, 69, none⟩ (.int .i64 (-1)))) := by
    refine ⟨?_, ⟨?_, fun k hk => ?_⟩, ?_, ?_⟩
    · have h1 : CB (w.setCell ⟨gr, n, none⟩ (.pointer none)) bc bm room uses (.slice (some ⟨gr, 0, none⟩) (n + 1) cap) := Blo.far hC (p := ⟨gr, n, none⟩) (fun e => hgb e.symm) _
      exact Blo.far (Blo.put h1 2 (.slice (some ⟨gr, 0, none⟩) n cap)) (p := ⟨h n, 69, none⟩) (fun e => hnb e.symm) _
    · refine own_far (own_far (row_cut hG.row) (p := ⟨bc, 2, none⟩) ?_ _) (p := ⟨h n, 69, none⟩) ?_ _
      · intro e; exact hgb (by simpa [Value.ownBlock] using e.symm)
      · intro e; exact hng (by simpa [Value.ownBlock] using e)
    · exact (((hG.buf k (by omega)).far (p := ⟨gr, n, none⟩) (hG.gr_ne (by omega)) _).far (p := ⟨bc, 2, none⟩) ((hG.buf k (by omega)).apart hC (by decide)) _).far (p := ⟨h n, 69, none⟩) (fun e => by have := hG.inj (by omega) (by omega) e; omega) _
    · exact (((hG.buf n (by omega)).far (p := ⟨gr, n, none⟩) hng _).far (p := ⟨bc, 2, none⟩) hnb _).put_at _
    · exact (((Out.refl _ w).put (p := ⟨gr, n, none⟩) (.inr (.inl rfl)) _).put (p := ⟨bc, 2, none⟩) (.inl rfl) _).put (p := ⟨h n, 69, none⟩) (.inr (.inr ⟨n, by omega, rfl⟩)) _
  have i1 : (0 : Int) ≤ (n : Int) := by omega
  have e1 : ((n + 1 : Nat) : Int) - 1 = (n : Int) := by omega
  have hgb2 : bc ≠ gr := fun e => hgb e.symm
  clear hC hG
  generalize h n = hn at *
  go_enter Try.func90, Try.ntmps90
  go_wp2_with fail
  go_ret
  exact ⟨rfl, HE.out⟩
theorem run_assert_pb (v : Value) (W : World) : (Instr.typeAssert (.iface PB v) 20 PB false).run Try.prog W = .ok v W := by
  simp [Instr.typeAssert, run_underlying Try.underlying80, go_sem, Result.andThen]
/-- What Push may change. -/
def XP (bc b : Nat) (v : Value) (g : Nat) : Prop := g = bc ∨ g = b ∨ v.ownBlock = some g
theorem blo_own {t e : TypeId} {base size n : Nat} {cs : Array Value} {v : Value} {xs : List Value} {g : Nat} (hr : w.ownsRow base e size v n xs) (hB : Blo w g t cs) (ht : t ≠ e) : v.ownBlock ≠ some g := by
  rcases hr.2 with ⟨rfl, _⟩ | ⟨g', cap', cur, rfl, _, hb, _⟩
  · intro e; cases e
  · intro q
    cases q
    exact Blo.apart (show Blo w g' e cur from hb) hB (fun e => ht e.symm) rfl
set_option maxHeartbeats 4000000 in
theorem gpush_any (hC : CB w bc bm room uses v) (hG : GS w base v m h S) (hB : BufO w b (S b) a) (hfr : ∀ i, i < m → h i ≠ b) (hm : m ≤ 4096) (hbase : base ≤ w.heap.size) (hbb : base ≤ bc) :
    Calls Try.prog 91 #[.pointer (some ⟨bc, 2, none⟩), .iface PB (.pointer (some ⟨b, 0, none⟩))] w fun e w' => e = .returned (.tuple #[]) ∧ ∃ a' cap', CB w' bc bm room uses (.slice a' (m + 1) cap') ∧ GS w' base (.slice a' (m + 1) cap') (m + 1) (upn h m b) S ∧ Out (XP bc b v) w w' ∧ ((Value.slice a' (m + 1) cap').ownBlock = v.ownBlock ∨ ∃ g, (Value.slice a' (m + 1) cap').ownBlock = some g ∧ w.heap.size ≤ g) := by
  obtain ⟨-, -, c2, -⟩ := hC.cell
  obtain ⟨-, -, -, -, -, u1⟩ := hB.cells
  have f1 := hB.frozen 69
  have hnb : b ≠ bc := hB.apart hC (by decide)
  obtain ⟨va, vc, rfl, -⟩ := own_slice hG.row
  have has := run_assert_pb
  -- behind the store of its place
  have HC1 : Hid (CB (w.setCell ⟨b, 69, none⟩ (.int .i64 ((m : Nat) : Int))) bc bm room uses (.slice va m vc)) := Blo.far hC (p := ⟨b, 69, none⟩) (fun e => hnb e.symm) _
  have hvb : (Value.slice va m vc).ownBlock ≠ some b := by
    obtain ⟨cs, hb, -⟩ := hB
    exact blo_own hG.row hb (by decide)
  have HG1 : Hid (GS (w.setCell ⟨b, 69, none⟩ (.int .i64 ((m : Nat) : Int))) base (.slice va m vc) m h S) := ⟨own_far hG.row (p := ⟨b, 69, none⟩) (fun e => hvb e.symm) _, fun k hk => (hG.buf k hk).far (p := ⟨b, 69, none⟩) (hfr k hk) _⟩
  have HB1 : Hid (BufO (w.setCell ⟨b, 69, none⟩ (.int .i64 ((m : Nat) : Int))) b (S b) ((m : Nat) : Int)) := hB.put_at _
  have HO1 : Hid (Out (XP bc b (.slice va m vc)) w (w.setCell ⟨b, 69, none⟩ (.int .i64 ((m : Nat) : Int)))) := (Out.refl _ w).put (p := ⟨b, 69, none⟩) (.inr (.inl rfl)) _
  have HZ : Hid (w.heap.size = (w.setCell ⟨b, 69, none⟩ (.int .i64 ((m : Nat) : Int))).heap.size) := by show _ = _; simp
  have HFr := Lib.hid hfr
  clear hC hG hB hvb hfr
  go_enter Try.func91, Try.ntmps91
  go_upto_region 2 with (fail)
  generalize w.setCell ⟨b, 69, none⟩ (.int .i64 ((m : Nat) : Int)) = w1 at *
  clear c2 u1 f1
  obtain ⟨-, -, c2, -⟩ := HC1.out.cell
  have hb1 : base ≤ w1.heap.size := by rw [← HZ.out]; exact hbase
  have HEnd : Hid (∀ a6 c6 w6, w6.ownsRow base PB 1 (.slice a6 (m + 1) c6) (m + 1) (ptrs h m ++ [.pointer (some ⟨b, 0, none⟩)]) → (w1.alloc (.cells #[.pointer (some ⟨b, 0, none⟩)] PB)).grownBy w6 (Value.slice va m vc).ownBlock → ((Value.slice a6 (m + 1) c6).ownBlock = (Value.slice va m vc).ownBlock ∨ (Value.slice a6 (m + 1) c6).ownBlock = some (w1.alloc (.cells #[.pointer (some ⟨b, 0, none⟩)] PB)).heap.size) →
      CB w6 bc bm room uses (.slice va m vc) ∧ CB (w6.setCell ⟨bc, 2, none⟩ (.slice a6 (m + 1) c6)) bc bm room uses (.slice a6 (m + 1) c6) ∧ GS (w6.setCell ⟨bc, 2, none⟩ (.slice a6 (m + 1) c6)) base (.slice a6 (m + 1) c6) (m + 1) (upn h m b) S ∧ Out (XP bc b (.slice va m vc)) w (w6.setCell ⟨bc, 2, none⟩ (.slice a6 (m + 1) c6)) ∧ ((Value.slice a6 (m + 1) c6).ownBlock = (Value.slice va m vc).ownBlock ∨ ∃ g, (Value.slice a6 (m + 1) c6).ownBlock = some g ∧ w.heap.size ≤ g)) := fun a6 c6 w6 hown hgrow hat => by
    have hal := sup_pc9 w1 (.cells #[.pointer (some ⟨b, 0, none⟩)] PB)
    have ho : Out (fun g => (Value.slice va m vc).ownBlock = some g) (w1.alloc (.cells #[.pointer (some ⟨b, 0, none⟩)] PB)) w6 := Out.of_grown hgrow (fun g e => e)
    have hrow := own_later HG1.out.row hal
    have hcb6 : CB w6 bc bm room uses (.slice va m vc) := (HC1.out.later hal).out ho (blo_own hrow (HC1.out.later hal) (by decide))
    have ex : ptrs h m ++ [.pointer (some ⟨b, 0, none⟩)] = ptrs (upn h m b) (m + 1) := by
      rw [ptrs_succ, upn_at]
      congr 1
      exact ptrs_congr (fun i hi => (upn_ne h b (by omega)).symm)
    rw [ex] at hown
    have hne : ∀ cs, Blo w6 bc CT cs → (Value.slice a6 (m + 1) c6).ownBlock ≠ some bc := fun cs hb => blo_own hown hb (by decide)
    have hb6 : ∀ g s x, BufO w1 g s x → BufO w6 g s x := fun g s x hb => by
      obtain ⟨cs, h1, h2⟩ := hb.later hal
      exact ⟨cs, ho.blo h1 (blo_own hrow h1 (by decide)), h2⟩
    refine ⟨hcb6, Blo.put hcb6 2 _, ⟨own_far hown (p := ⟨bc, 2, none⟩) (fun e => hne _ hcb6 e.symm) _, fun k hk => ?_⟩, ?_, ?_⟩
    · by_cases e : k = m
      · subst e
        rw [upn_at]
        exact (hb6 _ _ _ HB1.out).far (p := ⟨bc, 2, none⟩) hnb _
      · rw [upn_ne h b e]
        have := hb6 _ _ _ (HG1.out.buf k (by omega))
        exact this.far (p := ⟨bc, 2, none⟩) (this.apart hcb6 (by decide)) _
    · refine Out.put ?_ (p := ⟨bc, 2, none⟩) (.inl rfl) _
      refine HO1.out.trans ((Out.of_below hal : Out (XP bc b (.slice va m vc)) w1 _).trans ho (fun i _ e => .inr (.inr e))) (fun i _ e => e)
    · rcases hat with e | e
      · exact .inl e
      · exact .inr ⟨_, e, by have := HZ.out; simp; omega⟩
  go_wp2_with (at_builtin; (refine wp_append_rowO rfl (.tmp 17) (.tmp 19) 67 rfl base PB (.pointer none) 1 8 Try.underlying67 info_pb (by kernel_rfl) (by decide) (by decide) (.slice va m vc) m _ rfl (own_later HG1.out.row (sup_pc9 w1 _)) (some ⟨w1.heap.size, 0, none⟩) 1 1 [.pointer (some ⟨b, 0, none⟩)] rfl rfl (laid_srcO w1 PB _ _ rfl) (by simp [Value.oneCell']) (fun h => by cases h) (by omega) (by simp; omega) ?_; intro a6 c6 w6 hown hgrow hat; have HE6 := Lib.hid (HEnd.out a6 c6 w6 hown hgrow hat).2; have hcb6 := (HEnd.out a6 c6 w6 hown hgrow hat).1; have k6 := hcb6.cell.2.2.1; have g6 := Blo.frozen hcb6 2; clear hown hgrow hat hcb6))
  go_end0
  exact ⟨rfl, _, _, HE6.out⟩
end
end Go.Proofs.Ytdnkeplmjimjcaa
