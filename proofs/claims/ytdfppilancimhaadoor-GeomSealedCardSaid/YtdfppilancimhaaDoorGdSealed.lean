/-
  The walk of GeomSealed: a block with one byte changed is no geometry's.
-/
import Derived.Test.YtdfppilancimhaaDoorGdDecode
namespace Go.Proofs.YtdfppilancimhaaDoor
open Go.RowKit

theorem crc_set_ne (l : List Nat) (k v : Nat) (hk : k < l.length) (hv : v < 256) (h8 : ∀ x ∈ l, x < 256) (hne : v ≠ l.getD k 0) : crc (l.set k v) ≠ crc l := by
  have hl : l = l.take k ++ l.getD k 0 :: l.drop (k + 1) := by
    rw [List.getD_eq_getElem?_getD, List.getElem?_eq_getElem hk]
    simp
  have ht : l.set k v = l.take k ++ v :: l.drop (k + 1) := by rw [List.set_eq_take_append_cons_drop, if_pos hk]
  have hy := getD_byte h8 k
  generalize l.getD k 0 = y at *
  have hu : v = y ^^^ (y ^^^ v) := by rw [← Nat.xor_assoc, Nat.xor_self, Nat.zero_xor]
  have hu0 : y ^^^ v ≠ 0 := fun e => hne (xor_zero_eq e).symm
  have hu8 : y ^^^ v < 256 := Nat.xor_lt_two_pow (n := 8) hy hv
  have key : crcFold 4294967295 (l.take k ++ (y ^^^ (y ^^^ v)) :: l.drop (k + 1)) = crcFold 4294967295 (l.take k ++ y :: l.drop (k + 1)) ^^^ bitN (8 * (l.length - (k + 1)) + 8) (y ^^^ v) := by
    rw [crcFold_append, crcFold_append]
    generalize crcFold 4294967295 (l.take k) = A
    show crcFold (byteStep A (y ^^^ (y ^^^ v))) _ = crcFold (byteStep A y) _ ^^^ _
    have e : byteStep A (y ^^^ (y ^^^ v)) = byteStep A y ^^^ bitN 8 (y ^^^ v) := by
      have := byteStep_xor A 0 y (y ^^^ v)
      rw [Nat.xor_zero] at this
      rw [this]
      unfold byteStep
      rw [Nat.zero_xor]
    rw [e, crcFold_off, bitN_add, List.length_drop]
  rw [← hu, ← ht, ← hl] at key
  unfold crc
  rw [key]
  intro e
  have e2 := xor_cancel e
  have e3 := congrArg (crcFold 4294967295 l ^^^ ·) e2
  simp only [← Nat.xor_assoc, Nat.xor_self, Nat.zero_xor] at e3
  exact bitN_ne_zero _ _ (by omega) hu0 e3
theorem le4_inj {a b : Nat} (ha : a < 4294967296) (hb : b < 4294967296) (h : le4 a = le4 b) : a = b := by
  simp only [le4, List.cons.injEq, and_true] at h
  omega
theorem sealed_set (body : List Nat) (hb : body.length = 60) (h8 : ∀ x ∈ body, x < 256) (k v : Nat) (hk : k < 64) (hv : v < 256) (hne : v ≠ (sealN body).getD k 0) :
    sealN (((sealN body).set k v).take 60) ≠ (sealN body).set k v := by
  intro e
  by_cases h : k < 60
  · have e1 : (sealN body).set k v = body.set k v ++ le4 (crc body) := by unfold sealN; rw [List.set_append_left _ _ (by omega)]
    have e2 : ((sealN body).set k v).take 60 = body.set k v := by rw [e1, List.take_append_of_le_length (by simp; omega), List.take_of_length_le (by simp; omega)]
    have e3 : (sealN body).getD k 0 = body.getD k 0 := by
      unfold sealN
      rw [List.getD_eq_getElem?_getD, List.getD_eq_getElem?_getD, List.getElem?_append_left (by omega)]
    rw [e3] at hne
    rw [e2, e1] at e
    have e4 := List.append_cancel_left (show body.set k v ++ le4 (crc (body.set k v)) = body.set k v ++ le4 (crc body) from e)
    have h8' : ∀ x ∈ body.set k v, x < 256 := fun x hx => by
      rcases List.mem_or_eq_of_mem_set hx with h1 | h1
      · exact h8 x h1
      · omega
    exact crc_set_ne body k v (by omega) hv h8 hne (le4_inj (crc_lt _ h8') (crc_lt _ h8) e4)
  · have e2 : ((sealN body).set k v).take 60 = body := by
      rw [List.take_set_of_le (by omega)]
      unfold sealN
      rw [List.take_append_of_le_length (by omega), List.take_of_length_le (by omega)]
    rw [e2] at e
    have e3 := congrArg (fun l => l.getD k 0) e
    rw [List.getD_eq_getElem?_getD (l := (sealN body).set k v), List.getElem?_set_self (by rw [len4, hb]; exact hk)] at e3
    exact hne e3.symm
theorem cut64 (x : Int) : ∃ k : Nat, k < 64 ∧ wrap64 ((IntKind.u64.wrap x).tmod 64) = (k : Int) := by
  obtain ⟨k, hk, e⟩ := cut_mod x 63 (by omega)
  exact ⟨k, by omega, e⟩
theorem geomSealed_bad (b s i at0 : Int) (by0 : Nat) (w : World) (h : ¬ Good b s i) :
    Calls Tryd.prog 5 #[.agg #[.int .i64 b, .int .i64 s, .int .i64 i], .int .i64 at0, .int .u8 by0] w fun e w' => e = .returned (.bool true) ∧ Below w.heap.size w w' := by
  have HB := Lib.hid (sup_below w)
  have HC0 := Lib.hid (cells3_laid w b s i 23)
  have HG := Lib.hid h
  clear h
  go_enter Tryd.func5, Tryd.ntmps5
  go_wp2_with fail
  refine (awake_any _).mono ?_
  rintro e w1 ⟨rfl, hb1⟩
  have HB1 : Hid (Below w.heap.size w w1) := (HB.out _).trans (hb1.mono (by simp))
  have HC1 := Lib.hid (HC0.out.below hb1 (by simp))
  clear hb1
  obtain ⟨c0, c1, c2⟩ := HC1.out
  go_wp2_with fail
  refine (encode_bad b s i _ HG.out).mono ?_
  rintro e w2 ⟨rfl, hb2⟩
  have HB2 : Hid (Below w.heap.size w w2) := HB1.out.trans (hb2.mono HB1.out.size)
  clear hb2
  go_wp2
  go_ret
  exact ⟨rfl, HB2.out⟩
set_option maxHeartbeats 1000000 in
theorem geomSealed_good (B S I : Nat) (at0 : Int) (by0 : Nat) (hby : by0 < 256) (w : World) (ht : Tab w) (hz : 0 < w.heap.size) (h : Good B S I) :
    Calls Tryd.prog 5 #[.agg #[.int .i64 B, .int .i64 S, .int .i64 I], .int .i64 at0, .int .u8 by0] w fun e w' => e = .returned (.bool true) ∧ Below w.heap.size w w' := by
  have HB := Lib.hid (sup_below w)
  have HC0 := Lib.hid (cells3_laid w B S I 23)
  have HF0 := Lib.hid (heap_alloc_new w (.cells #[.int .i64 B, .int .i64 S, .int .i64 I] 23))
  have HG := Lib.hid h
  have HT := Lib.hid ht
  have HY := Lib.hid hby
  obtain ⟨k, hk, hke⟩ := cut64 at0
  have HLn : Hid ((sealN (bodyN B S I)).length = 64) := by show _ = _; rw [len4, bodyN_length]
  have HTk : Hid ((sealN (bodyN B S I)).take 60 = bodyN B S I) := by
    show _ = _
    unfold sealN
    rw [List.take_append_of_le_length (by rw [bodyN_length]; decide), List.take_of_length_le (by rw [bodyN_length]; decide)]
  have HLt : Hid (∀ x ∈ sealN (bodyN B S I), x < 256) := sealN_lt (bodyN_lt B S I)
  have HSet : Hid (by0 ≠ (sealN (bodyN B S I)).getD k 0 → sealN (((sealN (bodyN B S I)).set k by0).take 60) ≠ (sealN (bodyN B S I)).set k by0) := fun hne => sealed_set _ (bodyN_length B S I) (bodyN_lt B S I) k by0 hk hby hne
  have KD : Hid (∀ a cap, 64 ≤ cap → ∀ W, Tab W → 0 < W.heap.size → Bytes W a (sealN (bodyN B S I)) → a ≠ none → Calls Tryd.prog 16 #[.slice a 64 cap] W fun e w' => e = .returned (.tuple #[.agg #[.int .i64 B, .int .i64 S, .int .i64 I], .int .i64 0]) ∧ Below W.heap.size W w') := fun a cap hc W h1 h2 h3 h4 => decode_good B S I h a cap hc W h1 h2 h3 h4
  have KE : Hid (∀ W, Tab W → 0 < W.heap.size → Calls Tryd.prog 9 #[.agg #[.int .i64 B, .int .i64 S, .int .i64 I]] W (EncL W (bodyN B S I))) := fun W h1 h2 => encode_good B S I W h1 h2 h
  clear h ht hby
  generalize bodyN B S I = L at *
  have HW := HLt.out
  go_enter Tryd.func5, Tryd.ntmps5
  go_wp2_with fail
  refine (awake_any _).mono ?_
  rintro e w1 ⟨rfl, hb1⟩
  have HB1 : Hid (Below w.heap.size w w1) := (HB.out _).trans (hb1.mono (by simp))
  have HC1 := Lib.hid (HC0.out.below hb1 (by simp))
  clear hb1 HW
  obtain ⟨c0, c1, c2⟩ := HC1.out
  go_wp2_with fail
  refine (KE.out _ (HT.out.below HB1.out hz) (by have := HB1.out.size; omega)).mono ?_
  rintro e w2 ⟨g, rfl, hr2, hg2, hb2⟩
  have HB2 : Hid (Below w.heap.size w w2) := HB1.out.trans (hb2.mono HB1.out.size)
  have HC2 := Lib.hid (HC1.out.later hb2)
  have HR2 := Lib.hid hr2
  have hcell := hr2.cell k (by rw [HLn.out]; exact hk)
  have hfrz := hr2.frozen k
  have hX3 : Below w1.heap.size w1 (w2.setCell ⟨g, k, none⟩ (.int .u8 by0)) := hb2.setCell hg2 _
  have HC3 := Lib.hid (HC1.out.later hX3)
  have HB3 : Hid (Below w.heap.size w (w2.setCell ⟨g, k, none⟩ (.int .u8 by0))) := HB1.out.trans (hX3.mono HB1.out.size)
  have HR3 := Lib.hid (hr2.set k by0)
  clear hb2 hr2 c0 c1 c2 hg2 hX3
  generalize hv : (sealN L).getD k 0 = v at hcell HSet
  obtain ⟨c0, c1, c2⟩ := HC2.out
  by_cases he : by0 = v
  · subst he
    have hset : (sealN L).set k by0 = sealN L := by
      rw [← hv, List.getD_eq_getElem?_getD, List.getElem?_eq_getElem (by rw [HLn.out]; exact hk)]
      simp
    rw [hset] at HR3
    have HY3 : Hid (Bytes (w2.setCell ⟨g, k, none⟩ (.int .u8 by0)) (some ⟨g, 0, none⟩) (sealN L)) := HR3.out.bytes HLt.out (by rw [HLn.out]; decide)
    clear hset hv HSet
    go_wp2_with fail
    refine (KD.out (some ⟨g, 0, none⟩) 64 (Nat.le_refl _) _ (HT.out.below HB3.out hz) (by have := HB3.out.size; omega) HY3.out (fun e => by cases e)).mono ?_
    rintro e w4 ⟨rfl, hb4⟩
    have HB4 : Hid (Below w.heap.size w w4) := HB3.out.trans (hb4.mono HB3.out.size)
    have HC4 := Lib.hid (HC3.out.later hb4)
    clear c0 c1 c2
    obtain ⟨c0, c1, c2⟩ := HC4.out.later ((Below.refl _ _).alloc (Nat.le_refl _) (.cells #[.int .i64 B, .int .i64 S, .int .i64 I] 23))
    clear hb4
    go_wp2
    go_ret
    exact ⟨rfl, HB4.out.alloc HB4.out.size _⟩
  · have HL8 : Hid (∀ x ∈ (sealN L).set k by0, x < 256) := fun x hx => by
      rcases List.mem_or_eq_of_mem_set hx with h1 | h1
      · exact HLt.out x h1
      · have := HY.out; omega
    have HLs : Hid (64 = ((sealN L).set k by0).length) := by show _ = _; rw [List.length_set, HLn.out]
    have HY3 : Hid (Bytes (w2.setCell ⟨g, k, none⟩ (.int .u8 by0)) (some ⟨g, 0, none⟩) ((sealN L).set k by0)) := HR3.out.bytes HL8.out (by rw [← HLs.out]; decide)
    have HNe := Lib.hid (HSet.out he)
    have hne : ((by0 : Int) == (v : Int)) = false := by simpa using fun e => he (by omega)
    clear hv HSet
    go_wp2_with fail
    refine (decode_badsum _ HLs.out (some ⟨g, 0, none⟩) 64 (Nat.le_refl _) _ (HT.out.below HB3.out hz) (by have := HB3.out.size; omega) HY3.out (fun e => by cases e) HNe.out).mono ?_
    rintro e w4 ⟨rfl, hb4⟩
    have HB4 : Hid (Below w.heap.size w w4) := HB3.out.trans (hb4.mono HB3.out.size)
    have HC4 := Lib.hid (HC3.out.later hb4)
    clear hb4 c0 c1 c2
    obtain ⟨c0, c1, c2⟩ := HC4.out
    go_wp2
    go_ret
    exact ⟨rfl, HB4.out.alloc HB4.out.size _⟩
theorem geomSealed_walk (b s i : Int) (a1 : Int) (a2 : Int) (w : World) (hL : Tab w ∧ 0 < w.heap.size) (_ : (Lit.int .i64 b).wf = true) (_ : (Lit.int .i64 s).wf = true) (_ : (Lit.int .i64 i).wf = true) (_ : (Lit.int .i64 a1).wf = true) (h2 : (Lit.int .u8 a2).wf = true) :
    Calls Tryd.prog 5 #[.agg #[.int .i64 b, .int .i64 s, .int .i64 i], .int .i64 a1, .int .u8 a2] w fun e w' => e = .returned (.bool true) ∧ Below w.heap.size w w' := by
  have hb := bounds_u8 h2
  obtain ⟨y, rfl⟩ := Int.eq_ofNat_of_zero_le hb.1
  have hy : y < 256 := by omega
  by_cases h : Good b s i
  · obtain ⟨B, rfl⟩ := Int.eq_ofNat_of_zero_le (show 0 ≤ b by have := h.1; omega)
    obtain ⟨S, rfl⟩ := Int.eq_ofNat_of_zero_le (show 0 ≤ s by have := h.2.2.1; omega)
    obtain ⟨I, rfl⟩ := Int.eq_ofNat_of_zero_le (show 0 ≤ i by have := h.2.2.2.2.1; omega)
    exact geomSealed_good B S I a1 y hy w hL.1 hL.2 h
  · exact geomSealed_bad b s i a1 y w h
end Go.Proofs.YtdfppilancimhaaDoor
