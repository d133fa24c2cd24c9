/-
  The calls of a table at any number, told by the numbers alone.
-/
import Derived.Test.YtfilbbiiiaodiaaUsTouch
import Derived.Test.YtfilbbiiiaodiaaUsOLive
namespace Go.Proofs.Ytfilbbiiiaodiaa
open Go.RowKit

structure USt (bt g n : Nat) (size hand : Int) (F : List Int) (w : World) : Prop where
  tb : Tb w bt g TB IN n size hand F
  lv : Lives F n size
  stt : ∀ j, j < n → st F j = 0 ∨ st F j = 1 ∨ st F j = 2
  hd : -1 ≤ hand ∧ hand < n
/-- What a call answers, and what it leaves. -/
def CO (B : Nat) (w : World) (bt g n : Nat) (size : Int) (v : Value) (hand : Int) (F : List Int) (e : Ending) (w' : World) : Prop :=
  e = .returned v ∧ USt bt g n size hand F w' ∧ Below B w w' ∧ Fr2 bt g w w'
theorem fr2_of_below {bt g : Nat} {w w' : World} (h : Below w.heap.size w w') : Fr2 bt g w w' := fun _ _ _ _ _ hx => hx.later h
theorem Fr2.trans {bt g : Nat} {w w1 w2 : World} (h : Fr2 bt g w w1) (h' : Fr2 bt g w1 w2) : Fr2 bt g w w2 := fun b t cs h1 h2 hx => h' b t cs h1 h2 (h b t cs h1 h2 hx)
def addS (n : Nat) (size : Int) (F : List Int) (x v : Int) : Int × List Int :=
  if 0 ≤ x ∧ x < n ∧ -(F.getD (x.toNat * 3) 0) ≤ v ∧ v ≤ size - F.getD (x.toNat * 3) 0 then (0, F.set (x.toNat * 3) (F.getD (x.toNat * 3) 0 + v)) else (22, F)
def touchS (n : Nat) (F : List Int) (x v : Int) : Int × List Int :=
  if 0 ≤ x ∧ x < n ∧ 0 ≤ v then (0, F.set (x.toNat * 3 + 2) (max (F.getD (x.toNat * 3 + 2) 0) v)) else (22, F)
def useS (n : Nat) (F : List Int) (x : Int) : Int × List Int :=
  if 0 ≤ x ∧ x < n then (if st F x.toNat = 0 then (0, F.set (x.toNat * 3 + 1) 1) else (103, F)) else (22, F)
def relS (n : Nat) (F : List Int) (x : Int) : Int × List Int :=
  if 0 ≤ x ∧ x < n then (if st F x.toNat = 0 then (103, F) else if st F x.toNat = 1 ∧ F.getD (x.toNat * 3) 0 = 0 then (0, rel F x.toNat) else (16, F)) else (22, F)
def seizS (n : Nat) (hand : Int) (F : List Int) (x : Int) : Int × Int × List Int :=
  if 0 ≤ x ∧ x < n then (0, x, seiz F n x.toNat) else (22, hand, F)
noncomputable def takeR (F : List Int) (n : Nat) (hand : Int) : Option Nat := Classical.choose (takeIs_ex F n hand)
theorem takeR_is (F : List Int) (n : Nat) (hand : Int) : TakeIs F n hand (takeR F n hand) := Classical.choose_spec (takeIs_ex F n hand)
noncomputable def takeS (n : Nat) (hand : Int) (F : List Int) : Int × Int × Int × List Int :=
  match takeR F n hand with
  | some s => (s, 0, s, seiz F n s)
  | none => (0, 28, hand, F)
theorem nth_on (n : Nat) (hand : Int) (i : Nat) (hi : i < n) : ∃ j, j < n ∧ nth n hand j = i := by
  have hn : (0 : Int) < (n : Int) := by omega
  have h1 := Int.emod_nonneg ((i : Int) - hand - 1) (show (n : Int) ≠ 0 by omega)
  have h2 := Int.emod_lt_of_pos ((i : Int) - hand - 1) hn
  refine ⟨(((i : Int) - hand - 1) % (n : Int)).toNat, by omega, ?_⟩
  unfold nth
  rw [Int.toNat_of_nonneg h1, Int.add_emod_emod, show hand + 1 + ((i : Int) - hand - 1) = (i : Int) by omega, Int.emod_eq_of_lt (by omega) (by omega)]
  simp
section
variable {w wr w' : World} {bt g n B : Nat} {size hand : Int} {F : List Int}
theorem USt.later (h : USt bt g n size hand F w) (hb : Below w.heap.size w w') : USt bt g n size hand F w' := ⟨h.tb.later hb, h.lv, h.stt, h.hd⟩
theorem USt.fr2 {bt' g' : Nat} (h : USt bt g n size hand F w) (hf : Fr2 bt' g' w w') (h1 : bt ≠ g') (h2 : bt ≠ bt') (h3 : g ≠ g') (h4 : g ≠ bt') : USt bt g n size hand F w' :=
  ⟨⟨hf _ _ _ h1 h2 h.tb.top, hf _ _ _ h3 h4 h.tb.segs, h.tb.len, h.tb.apart⟩, h.lv, h.stt, h.hd⟩
theorem USt.lt (h : USt bt g n size hand F w) : bt < w.heap.size ∧ g < w.heap.size := ⟨h.tb.top.lt, h.tb.segs.lt⟩
theorem stay {c : Int} {v : Value} (h : USt bt g n size hand F w) (hb : Below w.heap.size w w') (hB : B ≤ w.heap.size) : CO B w bt g n size v hand F (.returned v) w' :=
  ⟨rfl, h.later hb, hb.mono hB, fr2_of_below hb⟩
theorem add_c (x v : Int) (h : USt bt g n size hand F w) (hn : n ≤ 512) (hz : 1 ≤ size ∧ size ≤ 64) (hB : B ≤ g) :
    Calls Try.prog 13 #[.pointer (some ⟨bt, 0, none⟩), .int .i64 x, .int .i64 v] w (CO B w bt g n size (.int .i64 (addS n size F x v).1) hand (addS n size F x v).2) := by
  have hgl := h.lt.2
  have hF := h.tb.len
  have hb0 : Below w.heap.size w ((w.alloc (.cells #[.pointer (some ⟨bt, 0, none⟩)] 24)).alloc (.cells #[.int .i64 v] 3)) := ((Below.refl _ _).alloc (Nat.le_refl _) _).alloc (by simp) _
  unfold addS
  by_cases hx : 0 ≤ x ∧ x < n
  · obtain ⟨s, rfl⟩ : ∃ s : Nat, x = (s : Int) := ⟨x.toNat, by omega⟩
    have hs : s < n := by omega
    have hl := h.lv s hs
    simp only [Int.toNat_natCast]
    by_cases hv : -(F.getD (s * 3) 0) ≤ v ∧ v ≤ size - F.getD (s * 3) 0
    · rw [if_pos ⟨hx.1, hx.2, hv.1, hv.2⟩]
      refine (add_yes (B := B) v _ h.tb hs hn rfl hl hz hv (by omega) hB).mono ?_
      rintro e w' ⟨rfl, ht, hb, hf⟩
      exact ⟨rfl, ⟨ht, h.lv.add s (by omega) _ (by omega) (by omega), fun j hj => by rw [st_live _ _ _ _ (by omega)]; exact h.stt j hj, h.hd⟩, hb, fun b t cs h1 _ hx => hf b t cs h1 hx⟩
    · rw [if_neg fun q => hv ⟨q.2.2.1, q.2.2.2⟩]
      refine (add_no (B := w.heap.size) v _ h.tb hs hn rfl hl hz hv (Nat.le_refl _)).mono ?_
      rintro e w' ⟨rfl, ht, hb⟩
      exact stay (c := 0) h hb (by omega)
  · rw [if_neg fun q => hx ⟨q.1, q.2.1⟩]
    refine (add_with (fun w' => w' = (w.alloc (.cells #[.pointer (some ⟨bt, 0, none⟩)] 24)).alloc (.cells #[.int .i64 v] 3)) 22 x v ((with_out x _ (h.tb.later hb0) hn (by omega)).mono fun e w' ⟨h1, h2⟩ => ⟨h1, h2.symm⟩)).mono ?_
    rintro e w' ⟨rfl, rfl⟩
    exact stay (c := 0) h hb0 (by omega)
theorem touch_c (x v : Int) (h : USt bt g n size hand F w) (hn : n ≤ 512) (hB : B ≤ g) :
    Calls Try.prog 23 #[.pointer (some ⟨bt, 0, none⟩), .int .i64 x, .int .i64 v] w (CO B w bt g n size (.int .i64 (touchS n F x v).1) hand (touchS n F x v).2) := by
  have hgl := h.lt.2
  have hF := h.tb.len
  have hb0 : Below w.heap.size w (w.alloc (.cells #[.int .i64 v] 3)) := (Below.refl _ _).alloc (Nat.le_refl _) _
  have hbx := blo_laid w 3 #[.int .i64 v]
  unfold touchS
  by_cases hx : 0 ≤ x ∧ x < n
  · obtain ⟨s, rfl⟩ : ∃ s : Nat, x = (s : Int) := ⟨x.toNat, by omega⟩
    have hs : s < n := by omega
    simp only [Int.toNat_natCast]
    by_cases hv : 0 ≤ v
    · rw [if_pos ⟨hx.1, hx.2, hv⟩]
      refine (touch_step _ 0 s v (with_touch _ 0 _ (h.tb.later hb0) hs hn (touch_body (B := B) v _ (h.tb.later hb0) hs rfl hv hB _ hbx))).mono ?_
      rintro e w' ⟨rfl, ht, hb, hf⟩
      refine ⟨rfl, ⟨ht, h.lv.same fun j _ => ?_, fun j hj => ?_, h.hd⟩, (hb0.mono (by omega)).trans hb, fun b t cs h1 _ hx => hf b t cs h1 (hx.alloc _)⟩
      · rw [getD_set _ _ _ _ (by omega), if_neg (by omega)]
      · have : st (F.set (s * 3 + 2) (max (F.getD (s * 3 + 2) 0) v)) j = st F j := by
          unfold st
          rw [getD_set _ _ _ _ (by omega), if_neg (by omega)]
        rw [this]
        exact h.stt j hj
    · rw [if_neg fun q => hv q.2.2]
      refine (touch_step _ 22 s v (with_touch _ 22 _ (h.tb.later hb0) hs hn ((touch_neg v (by omega) _ hbx)))).mono ?_
      rintro e w' ⟨rfl, rfl⟩
      exact stay (c := 0) h hb0 (by omega)
  · rw [if_neg fun q => hx ⟨q.1, q.2.1⟩]
    refine (touch_step (fun w' => w' = w.alloc (.cells #[.int .i64 v] 3)) 22 x v ((with_out x _ (h.tb.later hb0) hn (by omega)).mono fun e w' ⟨h1, h2⟩ => ⟨h1, h2.symm⟩)).mono ?_
    rintro e w' ⟨rfl, rfl⟩
    exact stay (c := 0) h hb0 (by omega)
theorem use_c (x : Int) (h : USt bt g n size hand F w) (hn : n ≤ 512) (hB : B ≤ g) :
    Calls Try.prog 16 #[.pointer (some ⟨bt, 0, none⟩), .int .i64 x] w (CO B w bt g n size (.int .i64 (useS n F x).1) hand (useS n F x).2) := by
  have hgl := h.lt.2
  have hF := h.tb.len
  unfold useS
  by_cases hx : 0 ≤ x ∧ x < n
  · rw [if_pos hx]
    obtain ⟨s, rfl⟩ : ∃ s : Nat, x = (s : Int) := ⟨x.toNat, by omega⟩
    have hs : s < n := by omega
    simp only [Int.toNat_natCast]
    by_cases h0 : st F s = 0
    · rw [if_pos h0]
      refine (use_yes (B := B) h.tb hs hn h0 hB).mono ?_
      rintro e w' ⟨rfl, ht, hb, hf⟩
      exact ⟨rfl, ⟨ht, h.lv.use s (by omega) 1, fun j hj => by
        rw [st_use _ _ _ _ (by omega)]
        split
        · exact .inr (.inl rfl)
        · exact h.stt j hj, h.hd⟩, hb, hf⟩
    · rw [if_neg h0]
      refine (use_no h.tb hs hn h0).mono ?_
      rintro e w' ⟨rfl, rfl⟩
      exact stay (c := 0) h (Below.refl _ _) (by omega)
  · rw [if_neg hx]
    refine (use_with (fun w' => w' = w) 22 x ((with_out x _ h.tb hn (by omega)).mono fun e w' ⟨h1, h2⟩ => ⟨h1, h2.symm⟩)).mono ?_
    rintro e w' ⟨rfl, rfl⟩
    exact stay (c := 0) h (Below.refl _ _) (by omega)
theorem rel_c (x : Int) (h : USt bt g n size hand F w) (hn : n ≤ 512) (hB : B ≤ g) :
    Calls Try.prog 17 #[.pointer (some ⟨bt, 0, none⟩), .int .i64 x] w (CO B w bt g n size (.int .i64 (relS n F x).1) hand (relS n F x).2) := by
  have hgl := h.lt.2
  have hF := h.tb.len
  unfold relS
  by_cases hx : 0 ≤ x ∧ x < n
  · rw [if_pos hx]
    obtain ⟨s, rfl⟩ : ∃ s : Nat, x = (s : Int) := ⟨x.toNat, by omega⟩
    have hs : s < n := by omega
    simp only [Int.toNat_natCast]
    rcases h.stt s hs with h0 | h0 | h0
    · rw [if_pos h0]
      refine (rel_stale h.tb hs hn h0).mono ?_
      rintro e w' ⟨rfl, rfl⟩
      exact stay (c := 0) h (Below.refl _ _) (by omega)
    · rw [if_neg (by omega)]
      by_cases hl : F.getD (s * 3) 0 = 0
      · rw [if_pos ⟨h0, hl⟩]
        refine (rel_fr (B := B) h.tb hs hn h0 hl hB).mono ?_
        rintro e w' ⟨rfl, ht, hb, hf⟩
        exact ⟨rfl, ⟨ht, h.lv.rel s, fun j hj => by
          rw [st_rel _ _ _ (by omega)]
          split
          · exact .inl rfl
          · exact h.stt j hj, h.hd⟩, hb, hf⟩
      · rw [if_neg fun q => hl q.2]
        refine (rel_live h.tb hs hn h0 hl).mono ?_
        rintro e w' ⟨rfl, rfl⟩
        exact stay (c := 0) h (Below.refl _ _) (by omega)
    · rw [if_neg (by omega), if_neg (by omega)]
      refine (rel_busy h.tb hs hn h0).mono ?_
      rintro e w' ⟨rfl, rfl⟩
      exact stay (c := 0) h (Below.refl _ _) (by omega)
  · rw [if_neg hx]
    refine (rel_out x h.tb hn (by omega)).mono ?_
    rintro e w' ⟨rfl, rfl⟩
    exact stay (c := 0) h (Below.refl _ _) (by omega)
theorem seiz_stt (h : USt bt g n size hand F w) (s : Nat) (hs : s < n) : ∀ j, j < n → st (seiz F n s) j = 0 ∨ st (seiz F n s) j = 1 ∨ st (seiz F n s) j = 2 := fun j hj => by
  rw [st_seiz _ _ _ _ hs hj h.tb.len]
  split
  · exact .inr (.inr rfl)
  · split
    · exact .inr (.inl rfl)
    · exact h.stt j hj
theorem seize_c (x : Int) (h : USt bt g n size hand F w) (hn : n ≤ 512) (hB : B ≤ g) (hB' : B ≤ bt) :
    Calls Try.prog 30 #[.pointer (some ⟨bt, 0, none⟩), .int .i64 x] w (CO B w bt g n size (.int .i64 (seizS n hand F x).1) (seizS n hand F x).2.1 (seizS n hand F x).2.2) := by
  have hgl := h.lt.2
  have hF := h.tb.len
  have hb0 : Below w.heap.size w ((w.alloc (.cells #[.pointer (some ⟨bt, 0, none⟩)] 24)).alloc (.cells #[.int .i64 x] 3)) := ((Below.refl _ _).alloc (Nat.le_refl _) _).alloc (by simp) _
  unfold seizS
  by_cases hx : 0 ≤ x ∧ x < n
  · rw [if_pos hx]
    obtain ⟨s, rfl⟩ : ∃ s : Nat, x = (s : Int) := ⟨x.toNat, by omega⟩
    have hs : s < n := by omega
    simp only [Int.toNat_natCast]
    refine (seize_any (B := B) h.tb hs hn hB hB').mono ?_
    rintro e w' ⟨rfl, ht, hb, hf⟩
    exact ⟨rfl, ⟨ht, h.lv.seiz n s (by omega), seiz_stt h s hs, by omega⟩, hb, hf⟩
  · rw [if_neg hx]
    refine (seize_with (fun w' => w' = (w.alloc (.cells #[.pointer (some ⟨bt, 0, none⟩)] 24)).alloc (.cells #[.int .i64 x] 3)) 22 x ((with_out x _ (h.tb.later hb0) hn (by omega)).mono fun e w' ⟨h1, h2⟩ => ⟨h1, h2.symm⟩)).mono ?_
    rintro e w' ⟨rfl, rfl⟩
    exact stay (c := 0) h hb0 (by omega)
theorem take_c (h : USt bt g n size hand F w) (h1 : 1 ≤ n) (hn : n ≤ 512) (hB : B ≤ g) (hB' : B ≤ bt) :
    Calls Try.prog 14 #[.pointer (some ⟨bt, 0, none⟩)] w (CO B w bt g n size (.tuple #[.int .i64 (takeS n hand F).1, .int .i64 (takeS n hand F).2.1]) (takeS n hand F).2.2.1 (takeS n hand F).2.2.2) := by
  have hgl := h.lt.2
  have hF := h.tb.len
  have hh := h.hd
  have hr := takeR_is F n hand
  unfold takeS
  generalize takeR F n hand = r at *
  rcases hr with ⟨k, hk, rfl, h0, hpre⟩ | ⟨rfl, hall⟩
  · obtain ⟨hs, hq⟩ := nth_lt n hand k (by omega)
    refine (take_at (B := B) k h.tb hn hB hB' ⟨hh.1, by omega⟩ hk hq hs h0 (fun j hj q hjq => ?_)).mono ?_
    · obtain ⟨_, e⟩ := nth_lt n hand j (by omega)
      obtain rfl : q = nth n hand j := by omega
      exact hpre j hj
    · rintro e w' ⟨rfl, ht, hb, hf⟩
      exact ⟨rfl, ⟨ht, h.lv.seiz n _ (by omega), seiz_stt h _ hs, by dsimp only; omega⟩, hb, hf⟩
  · refine (take_full h.tb h1 hn ⟨hh.1, by omega⟩ fun i hi => ?_).mono ?_
    · obtain ⟨j, hj, rfl⟩ := nth_on n hand i hi
      exact hall j hj
    · rintro e w' ⟨rfl, rfl⟩
      exact stay (c := 0) h (Below.refl _ _) (by omega)
end
end Go.Proofs.Ytfilbbiiiaodiaa
