/-
  The document's disk held against the program's: Tells.
-/
import Derived.Test.YtmkhliabmodbdaaDrNew
import Derived.Test.YtmkhliabmodbdaaDkBytes
import Derived.Test.YtmkhliabmodbdaaIntsEq
import Derived.Test.YtmkhliabmodbdaaQuiet
import Derived.Deep.RegionHeld3
namespace Go.Proofs.Ytmkhliabmodbdaa
open Go.RowKit

def lfD (d : Dm) : Int := if d.armed = true then d.left else -1
def agR (sa qa : Option Addr) (sc qc : Nat) (d : Dm) : Array Value := #[.slice sa d.n sc, .slice qa d.Q.length qc, .int .i64 d.steps, .int .i64 (lfD d)]
/-- The document's disk, in memory. -/
structure Mr (w : World) (sa qa : Option Addr) (sc qc : Nat) (d : Dm) : Prop where
  s : Rds w sa (cellsS d.S d.n)
  q : Rds w qa (cells2 d.Q)
  sn : sa = none → d.n = 0 ∧ sc = 0
  qn : qa = none → d.Q.length = 0 ∧ qc = 0
  st : ∀ ad, sa = some ad → ∃ cs, Blo w ad.block STR cs
  qt : ∀ ad, qa = some ad → ∃ cs, Blo w ad.block RWT cs
  now : ∀ i, d.N i = flushQ d.S d.Q i
  pos : 0 ≤ d.left
theorem Rds.out {X : Nat → Prop} {w w' : World} {a : Option Addr} {xs : List Value} (h : Rds w a xs) (ho : Out X w w') (hx : ∀ ad, a = some ad → ¬ X ad.block) : Rds w' a xs := fun j u hj => by
  obtain ⟨b, o, ha, hc⟩ := h j u hj
  exact ⟨b, o, ha, ho.cell hc (show ¬ X b from hx ⟨b, o, none⟩ ha)⟩
theorem Mr.out {X : Nat → Prop} {w w' : World} {sa qa : Option Addr} {sc qc : Nat} {d : Dm} (h : Mr w sa qa sc qc d) (ho : Out X w w') (hx : ∀ g cs, Blo w g STR cs ∨ Blo w g RWT cs → ¬ X g) : Mr w' sa qa sc qc d :=
  ⟨h.s.out ho (fun ad e => by obtain ⟨cs, hb⟩ := h.st ad e; exact hx _ _ (.inl hb)), h.q.out ho (fun ad e => by obtain ⟨cs, hb⟩ := h.qt ad e; exact hx _ _ (.inr hb)), h.sn, h.qn,
   fun ad e => by obtain ⟨cs, hb⟩ := h.st ad e; exact ⟨cs, ho.blo hb (hx _ _ (.inl hb))⟩, fun ad e => by obtain ⟨cs, hb⟩ := h.qt ad e; exact ⟨cs, ho.blo hb (hx _ _ (.inr hb))⟩, h.now, h.pos⟩
theorem Tx.typed {w : World} {g n : Nat} {F : Nat → List Nat} (h : Tx w g n F) : ∀ ad, some (⟨g, 0, none⟩ : Addr) = some ad → ∃ cs, Blo w ad.block STR cs := fun ad e => by
  cases e; obtain ⟨cs, h1, _⟩ := h; exact ⟨cs, h1⟩
theorem own_typed {w : World} {base n cap size : Nat} {e : TypeId} {a : Option Addr} {xs : List Value} (h : w.ownsRow base e size (.slice a n cap) n xs) : ∀ ad, a = some ad → ∃ cs, Blo w ad.block e cs := fun ad ha => by
  rcases id h.2 with ⟨h1, _⟩ | ⟨g, c, cur, h1, _, h3, _⟩
  · cases h1; cases ha
  · cases h1; cases ha; exact ⟨cur, h3⟩
theorem Mr.later {w w' : World} {sa qa : Option Addr} {sc qc : Nat} {d : Dm} (h : Mr w sa qa sc qc d) (hb : Below w.heap.size w w') : Mr w' sa qa sc qc d :=
  h.out (X := fun _ => False) (Out.of_below hb) (fun _ _ _ h => h)
def ats (Q : List (Nat × List Nat)) : List Int := Q.map fun p => (p.1 : Int)
theorem ats_length (Q : List (Nat × List Nat)) : (ats Q).length = Q.length := by simp [ats]
theorem ats_snoc (Q : List (Nat × List Nat)) (k : Nat) (h : k < Q.length) : ats (Q.take k) ++ [(Q[k].1 : Int)] = ats (Q.take (k + 1)) := by
  rw [take_snoc' Q k h, ats, ats, List.map_append]; rfl
def TeR (w : World) (d : Dm) (bx : Array Value) (t v : Value) (wr : World) : Prop :=
  ∃ k : Nat, k ≤ d.Q.length ∧ t = .int .i64 k ∧ wr.ownsRow (w.heap.size + 1) 3 1 v k (cellsI (ats (d.Q.take k))) ∧ Blo wr w.heap.size RDT bx ∧ Below w.heap.size w wr
def Te2 (w : World) (d : Dm) (bx : Array Value) (t : Value) (wr : World) : Prop :=
  ∃ k : Nat, k ≤ d.n ∧ t = .int .i64 k ∧ Blo wr w.heap.size RDT bx ∧ Below w.heap.size w wr
theorem info_int' : (Try.prog.info? 3).map (fun i => (i.zero, i.size, i.bytes)) = some (some (.int .i64 0), 1, 8) := by kernel_rfl
theorem ints_true (l : List Int) (a b : Option Addr) (n c d : Nat) (w : World) (hl : n = l.length) (hn : n < 1000000000) (ha : Ints w a l) (hb : Ints w b l) :
    Calls Try.prog 47 #[.slice a n c, .slice b n d] w fun e w' => e = .returned (.bool true) ∧ Below w.heap.size w w' := by
  have h := ints_same l l a b n c d w hl hl hn ha hb
  rw [decide_eq_true rfl] at h
  exact h
theorem ints_blo {w : World} {g : Nat} {l : List Int} (h : Blo w g 3 (cellsI l).toArray) : Ints w (some ⟨g, 0, none⟩) l := fun _ =>
  ⟨g, 0, rfl, fun i hi => by rw [Nat.zero_add, h.cell, List.getElem?_toArray, cellsI_get l i hi]⟩
theorem bytes_blk {w : World} {g : Nat} {l : List Nat} (h : BBlk w g l) : Bytes w (some ⟨g, 0, none⟩) l :=
  ⟨h.2.2, by rw [h.2.1]; decide, fun _ => ⟨g, 0, rfl, fun i hi => by rw [Nat.zero_add, h.1.cell, List.getElem?_toArray, cellsB_get _ _ hi]⟩⟩
set_option maxRecDepth 100000 in
set_option maxHeartbeats 4000000 in
theorem tells_any {C : Nat} {w : World} {L : Dl} {d : Dm} (sa qa : Option Addr) (sc qc : Nat) (h : Dk C w L d) (hm : Mr w sa qa sc qc d) :
    Calls Try.prog 28 #[.pointer (some ⟨L.bd, 0, none⟩), .agg (agR sa qa sc qc d)] w fun e w' => e = .returned (.bool true) ∧ Below w.heap.size w w' := by
  have H := Lib.hid h
  have HM := Lib.hid hm
  have hn1 := h.few.1
  have hn2 := h.few.2
  have hqn := h.len
  have HX := Lib.hid (blo_laid w RDT (agR sa qa sc qc d))
  have hb1 : Below w.heap.size w (w.alloc (.cells (agR sa qa sc qc d) RDT)) := (Below.refl _ _).alloc (Nat.le_refl _) _
  have HSt : Hid (TeR w d (agR sa qa sc qc d) (.int .i64 0) (.slice none 0 0) (w.alloc (.cells (agR sa qa sc qc d) RDT))) :=
    ⟨0, Nat.zero_le _, rfl, ⟨rfl, .inl ⟨rfl, rfl⟩⟩, HX.out, hb1⟩
  clear h hm hb1
  show Calls Try.prog 28 #[.pointer (some ⟨L.bd, 0, none⟩), .agg #[.slice sa d.n sc, .slice qa d.Q.length qc, .int .i64 d.steps, .int .i64 (lfD d)]] w _
  go_enter Try.func28, Try.ntmps28
  go_wp2_with fail
  go_loopw [13, 5] (fun t v wr => TeR w d (agR sa qa sc qc d) t v wr) (fun t _ _ => d.Q.length - (intOf t).toNat)
  case atStart => exact HSt.out
  case round =>
    clear HSt HX
    obtain ⟨k, hk, rfl, hO, hX, hB⟩ := hrel
    have HO := Lib.hid hO
    have HX := Lib.hid hX
    have HB := Lib.hid hB
    clear hO hX hB
    have k0 : (0 : Int) ≤ (k : Int) := by omega
    have kb : (k : Int) ≤ 1000000 := by omega
    have x1 := HX.out.cell 1
    simp [agR] at x1
    by_cases hlt : k < d.Q.length
    · have k1 : (k : Int) < (d.Q.length : Int) := by omega
      have HKq : Hid (k < d.Q.length) := hlt
      obtain ⟨qb, qo, hqa, c0⟩ := (HM.out.later HB.out).q (k * 2) _ (cells2_at d.Q k hlt).1
      subst hqa
      have HL : Hid ((ats (d.Q.take k)).length = k) := by show (ats (d.Q.take k)).length = k; rw [ats_length, List.length_take]; omega
      have HN := Lib.hid (ats_snoc d.Q k hlt)
      generalize d.Q[k].1 = q1 at *
      obtain ⟨va, vc, rfl, hvc⟩ := own_slice HO.out
      go_wp2_with (at_builtin; refine wp_append_int rfl (.tmp 16) (.tmp 23) 70 rfl (w.heap.size + 1) 3 Try.underlying70 info_int' (.slice va k vc) k (ats (d.Q.take k)) rfl (own_later HO.out ((Below.refl _ _).alloc (Nat.le_refl _) _)) wr.heap.size (q1 : Int) rfl ((blo_laid wr 3 #[.int .i64 (q1 : Int)]).cell 0) (by omega) (by have := HB.out.size; have := HX.out.lt; simp; omega) ?_; intro g5 c5 w5 hown hgrow hg5 hlt5; have hal : Below wr.heap.size wr (wr.alloc (.cells #[.int .i64 (q1 : Int)] 3)) := (Below.refl _ _).alloc (Nat.le_refl _) _; rw [HN.out] at hown; have HO5 := Lib.hid hown; have HX5 := Lib.hid ((HX.out.later hal).grown hgrow ((HX.out.later hal).row_apart (own_later HO.out hal) (by decide))); have HB5 := Lib.hid ((HB.out.trans (hal.mono HB.out.size)).grown hgrow (Nat.le_trans HB.out.size hal.size) (fun q hq => by have := (own_lt (own_later HO.out hal) hq).1; omega)); clear hown hgrow hg5 hlt5 hal)
      go_roundw
      case rel => exact ⟨k + 1, HKq.out, by simp, HO5.out, HX5.out, HB5.out⟩
      case measure => simp [intOf]; omega
    · have hke : k = d.Q.length := by omega
      subst hke
      have k1 : ¬ (d.Q.length : Int) < (d.Q.length : Int) := by omega
      obtain ⟨va, vc, rfl, hvc⟩ := own_slice HO.out
      have HO2 : Hid (wr.ownsRow (w.heap.size + 1) 3 1 (.slice va d.Q.length vc) d.Q.length (cellsI (ats d.Q))) := by
        have h := HO.out
        rw [List.take_length] at h
        exact h
      have HD := Lib.hid (H.out.later HB.out)
      have KP : Hid (∀ W, Below wr.heap.size wr W → W.cell? ⟨w.heap.size, 0, none⟩ = some (.slice sa d.n sc) ∧ W.cell? ⟨w.heap.size, 2, none⟩ = some (.int .i64 d.steps)) := fun W hb =>
        ⟨by simpa [agR] using (HX.out.later hb).cell 0, by simpa [agR] using (HX.out.later hb).cell 2⟩
      have b0 : ((d.n : Int) != (d.n : Int)) = false := by simp
      have b1 : (d.steps != d.steps) = false := by simp
      have HQn : Hid (d.Q.length = (ats d.Q).length) := (ats_length d.Q).symm
      clear HO x1
      go_wp2_with fail
      go_region_held3 (fun W => W.cell? ⟨w.heap.size, 0, none⟩ = some (.slice sa d.n sc) ∧ W.cell? ⟨w.heap.size, 2, none⟩ = some (.int .i64 d.steps)) ((first | exact KP.out _ ((Below.refl _ _).drew) | exact HKS.out | exact HKS3.out | fail)) ((first
        | (go_at_call 36; (with_reducible refine (size_any (HD.out.later ((Below.refl _ _).drew))).mono ?_); rintro e w' ⟨rfl, rfl⟩)
        | (go_at_call 46; (with_reducible refine (steps_any (HD.out.later ((Below.refl _ _).drew))).mono ?_); rintro e w' ⟨rfl, rfl⟩)
        | (go_at_call 48; (with_reducible refine (queue_any (HD.out.later ((Below.refl _ _).drew))).mono ?_); rintro e w2 ⟨g2, rfl, hq2, hg2, hb2⟩; have HB2 : Hid (Below wr.heap.size wr w2) := ((Below.refl _ _).drew).trans hb2; have HKS := Lib.hid (KP.out _ HB2.out); have HQ2 : Hid (Ints w2 (some ⟨g2, 0, none⟩) (ats d.Q)) := ints_blo hq2; have HV2 := Lib.hid (Ints.own (own_later HO2.out HB2.out)); clear hq2 hg2 hb2)
        | (go_at_call 47; (with_reducible refine (ints_true (ats d.Q) _ _ _ _ _ _ HQn.out (by omega) HQ2.out HV2.out).mono ?_); rintro e w3 ⟨rfl, hb3⟩; have HB3 : Hid (Below wr.heap.size wr w3) := HB2.out.trans (hb3.mono HB2.out.size); have HKS3 := Lib.hid (KP.out _ HB3.out); clear hb3)))
      have HX9 := Lib.hid (HX.out.later HB3.out)
      have HB9 := Lib.hid (HB.out.trans (HB3.out.mono HB.out.size))
      have x0 := HX9.out.cell 0
      simp [agR] at x0
      clear HKS HKS3 HB2 HB3 HQ2 HV2 KP HO2 HX HB HD b0 b1 HQn k0 kb k1 hlt hvc
      go_wp2_with fail
      have HSt : Hid (Te2 w d (agR sa qa sc qc d) (.int .i64 0) w3) := ⟨0, Nat.zero_le _, rfl, HX9.out, HB9.out⟩
      clear HX9 HB9 x0
      go_loopw [49] (fun t wr => Te2 w d (agR sa qa sc qc d) t wr) (fun t _ => d.n - (intOf t).toNat)
      case atStart => exact HSt.out
      case round =>
        clear HSt
        obtain ⟨i, hi, rfl, hX, hB⟩ := hrel
        have HX := Lib.hid hX
        have HB := Lib.hid hB
        clear hX hB
        have i0 : (0 : Int) ≤ (i : Int) := by omega
        have ib : (i : Int) ≤ 1000000 := by omega
        by_cases hlt : i < d.n
        · have i1 : (i : Int) < (d.n : Int) := by omega
          have HIn : Hid (i < d.n) := hlt
          go_wp2_with fail
          refine (read_yes i HIn.out (H.out.later HB.out)).mono ?_
          rintro e w4 ⟨g, rfl, hr, hg, hb⟩
          have HR := Lib.hid hr
          have HX4 := Lib.hid (HX.out.later hb)
          have HB4 := Lib.hid (HB.out.trans (hb.mono HB.out.size))
          have HM4 := Lib.hid (HM.out.later HB4.out)
          clear hr hg hb HX HB
          have c0 : ∀ x : Kept w4, x.at_.cell? ⟨w.heap.size, 0, none⟩ = some (.slice sa d.n sc) := fun x => by simpa [agR] using (HX4.out.later x.below).cell 0
          have c1 : ∀ x : Kept w4, x.at_.cell? ⟨w.heap.size, 1, none⟩ = some (.slice qa d.Q.length qc) := fun x => by simpa [agR] using (HX4.out.later x.below).cell 1
          have c2 : ∀ x : Kept w4, x.at_.cell? ⟨w.heap.size, 2, none⟩ = some (.int .i64 d.steps) := fun x => by simpa [agR] using (HX4.out.later x.below).cell 2
          have c3 : ∀ x : Kept w4, x.at_.cell? ⟨w.heap.size, 3, none⟩ = some (.int .i64 (lfD d)) := fun x => by simpa [agR] using (HX4.out.later x.below).cell 3
          have HC := Lib.hid (fun x : Kept w4 => rread_any sa qa d.n sc d.Q.length qc d.steps (lfD d) d.S d.Q i HIn.out x.at_ rfl (HM4.out.later x.below).q (HM4.out.later x.below).s hqn)
          have hcv : ∀ x : Kept w4, (convert 36 9 (.slice (some ⟨g, 0, none⟩) 64 64)).run Try.prog x.at_ = .ok (.string (strOf (d.N i))) x.at_ := fun x =>
            run_str x.at_ 36 9 U8 Try.underlying36 Try.underlying5 Try.underlying9 (d.N i) _ 64 64 HR.out.2.1.symm (bytes_blk (HR.out.out (X := fun _ => False) (Out.of_below x.below) (fun h => h)))
          rw [← HM.out.now i] at HC
          generalize d.N i = X at *
          have hs1 : ((strOf X).toList == (strOf X).toList) = true := by simp
          have hs2 : ((strOf X).toList != (strOf X).toList) = false := by simp
          go_wp2_with fail
          refine wp_region_kept (by kernel_rfl) (by kernel_rfl) ?_
          repeat (go_big_quiet_step ((go_at_call 45; exact kept_call _ (HC.out _))))
          refine wpQuiet_nil ?_
          rintro W ⟨wx, rfl⟩
          have HX5 := Lib.hid (HX4.out.later wx.below)
          have HB5 := Lib.hid (HB4.out.trans (wx.below.mono HB4.out.size))
          clear c0 c1 c2 c3 HC hcv hs1 hs2 HR HM4
          go_wp2_with fail
          go_roundw
          case rel => exact ⟨i + 1, HIn.out, by simp, HX5.out, HB5.out⟩
          case measure => simp [intOf]; omega
        · have i1 : ¬ (i : Int) < (d.n : Int) := by omega
          go_wp2
          go_ret
          exact ⟨rfl, HB.out⟩
end Go.Proofs.Ytmkhliabmodbdaa
