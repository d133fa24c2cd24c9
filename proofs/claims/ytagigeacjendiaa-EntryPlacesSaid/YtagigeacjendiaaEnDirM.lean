/-
  Directory entries in numbers: written and read back.
-/
import Derived.Test.YtagigeacjendiaaEnReadD
namespace Go.Proofs.Ytagigeacjendiaa
open Go.RowKit

theorem nm_no0 {x : ByteArray} (h : nmE x = 0) : ∀ c ∈ x.data.toList, c ≠ 0 := by
  have h14 : ¬ 14 < x.size := fun h4 => by rw [nmE_long h4] at h; exact absurd h (by decide)
  cases hb : badB x
  · intro c hc e
    subst e
    have key : ∀ (l : List UInt8), (0 : UInt8) ∈ l → 0 ≤ Lib.indexAny l [0, 47] := by
      intro l
      induction l with
      | nil => intro h; cases h
      | cons c l ih =>
        intro h
        unfold Lib.indexAny
        split
        · decide
        · rename_i hn
          rcases List.mem_cons.1 h with h1 | h1
          · rw [← h1] at hn; exact absurd (by decide) hn
          · have := ih h1
            split
            · rename_i he; simp at he; omega
            · omega
    have h0 := key _ hc
    unfold badB Lib.containsAny at hb
    exact absurd h0 (of_decide_eq_false hb)
  · rw [nmE_bad h14 hb] at h; exact absurd h (by decide)
theorem good_no0 {i : Int} {n : ByteArray} (h : GoodD i n) : ∀ x ∈ nb n, x ≠ 0 := by
  intro x hx e
  obtain ⟨c, hc, rfl⟩ := List.mem_map.1 hx
  have hc0 : c = 0 := UInt8.toNat_inj.1 e
  rcases h with ⟨_, rfl⟩ | ⟨_, _, h3⟩
  · cases hc
  · exact nm_no0 h3 c hc hc0
theorem iz_cons (x : Nat) (l : List Nat) (hx : x < 256) : iz (x :: l) = if x = 0 then 0 else if iz l = -1 then -1 else iz l + 1 := by
  unfold iz Lib.bytesOf
  simp only [List.map_cons, Lib.indexByte]
  have e : (UInt8.ofNat ((x : Int)).toNat == 0) = decide (x = 0) := by
    rw [Int.toNat_natCast, Bool.eq_iff_iff, beq_iff_eq, decide_eq_true_eq]
    constructor
    · intro h
      have := congrArg UInt8.toNat h
      simp only [UInt8.toNat_ofNat'] at this
      have h2 : x % 256 = 0 := this
      omega
    · intro h; rw [h]; rfl
  rw [e]
  by_cases h : x = 0
  · simp [h]
  · simp [h]
theorem preZ_pad (m : List Nat) (j : Nat) (hb : ∀ x ∈ m, x < 256) (h : ∀ x ∈ m, x ≠ 0) : preZ (m ++ List.replicate j 0) = m.length := by
  have key : ∀ m : List Nat, (∀ x ∈ m, x < 256) → (∀ x ∈ m, x ≠ 0) → iz (m ++ List.replicate j 0) = if j = 0 then -1 else (m.length : Int) := by
    intro m
    induction m with
    | nil =>
      intro _ _
      cases j with
      | zero => rfl
      | succ j => rw [List.nil_append, List.replicate_succ, iz_cons _ _ (by decide), if_pos rfl]; rfl
    | cons x m ih =>
      intro hb h
      rw [List.cons_append, iz_cons _ _ (hb x List.mem_cons_self), if_neg (h x List.mem_cons_self), ih (fun y hy => hb y (List.mem_cons_of_mem _ hy)) (fun y hy => h y (List.mem_cons_of_mem _ hy))]
      split
      · rfl
      · rw [if_neg (by omega)]; simp
  unfold preZ
  rw [key m hb h]
  by_cases hj : j = 0
  · subst hj; simp
  · rw [if_neg hj, if_pos (by omega)]; simp
theorem strOf_nb (n : ByteArray) : strOf (nb n) = n := by
  refine str_extE ?_
  rw [strOf_toList]
  unfold nb
  rw [List.map_map]
  conv => rhs; rw [← List.map_id n.data.toList]
  refine List.map_congr_left fun c _ => ?_
  simp
theorem encDK_split (I : Nat → Int) (N : Nat → ByteArray) (k : Nat) (hk : k < 4) : ∃ rest, encDK I N 4 = encDK I N k ++ (encD (I k).toNat (N k) ++ rest) := by
  have : k = 0 ∨ k = 1 ∨ k = 2 ∨ k = 3 := by omega
  rcases this with rfl | rfl | rfl | rfl
  · exact ⟨encD (I 1).toNat (N 1) ++ (encD (I 2).toNat (N 2) ++ encD (I 3).toNat (N 3)), by simp [encDK]⟩
  · exact ⟨encD (I 2).toNat (N 2) ++ encD (I 3).toNat (N 3), by simp [encDK]⟩
  · exact ⟨encD (I 3).toNat (N 3), by simp [encDK]⟩
  · exact ⟨[], by simp [encDK]⟩
theorem sub14_enc (I : Nat → Int) (N : Nat → ByteArray) (k : Nat) (hk : k < 4) (h : AllGD I N 4) : sub14 (encDK I N 4) k = nb (N k) ++ List.replicate (14 - (N k).size) 0 := by
  obtain ⟨rest, hr⟩ := encDK_split I N k hk
  have hl := encDK_len I N k (fun i hi => h i (by omega))
  have h14 := (good_size (h k hk)).2.2
  unfold sub14
  rw [hr, List.drop_append, List.drop_eq_nil_of_le (by omega), List.nil_append, hl, show k * 16 + 2 - k * 16 = 2 by omega]
  show ((([(I k).toNat % 256, (I k).toNat / 256 % 256] ++ (nb (N k) ++ List.replicate (14 - (N k).size) 0)) ++ rest).drop 2).take 14 = _
  have hn : (nb (N k) ++ List.replicate (14 - (N k).size) 0).length = 14 := by rw [List.length_append, nb_len, List.length_replicate]; omega
  simp only [List.cons_append, List.nil_append, List.drop_succ_cons, List.drop_zero]
  rw [List.take_append_of_le_length (by omega), List.take_of_length_le (by omega)]
theorem rdI_enc (I : Nat → Int) (N : Nat → ByteArray) (k : Nat) (hk : k < 4) (h : AllGD I N 4) : rdI (encDK I N 4) k = I k := by
  obtain ⟨rest, hr⟩ := encDK_split I N k hk
  have hl := encDK_len I N k (fun i hi => h i (by omega))
  obtain ⟨g1, g2, _⟩ := good_size (h k hk)
  have e0 : (encDK I N 4).getD (k * 16) 0 = (I k).toNat % 256 := by
    rw [hr, List.getD_eq_getElem?_getD, List.getElem?_append_right (by omega), hl, Nat.sub_self]; rfl
  have e1 : (encDK I N 4).getD (k * 16 + 1) 0 = (I k).toNat / 256 % 256 := by
    rw [hr, List.getD_eq_getElem?_getD, List.getElem?_append_right (by omega), hl, Nat.add_sub_cancel_left]; rfl
  unfold rdI b2
  rw [e0, e1]
  omega
theorem rdN_enc (I : Nat → Int) (N : Nat → ByteArray) (k : Nat) (hk : k < 4) (h : AllGD I N 4) : rdN (encDK I N 4) k = N k := by
  unfold rdN
  rw [sub14_enc I N k hk h, preZ_pad _ _ (nb_byte _) (good_no0 (h k hk)), List.take_left, strOf_nb]
theorem encDK_congr {I I' : Nat → Int} {N N' : Nat → ByteArray} : ∀ k, (∀ i, i < k → I i = I' i ∧ N i = N' i) → encDK I N k = encDK I' N' k
  | 0, _ => rfl
  | k + 1, h => by rw [encDK, encDK, encDK_congr k (fun i hi => h i (by omega)), (h k (by omega)).1, (h k (by omega)).2]
theorem allGD_congr {I I' : Nat → Int} {N N' : Nat → ByteArray} (h : ∀ i, i < 4 → I i = I' i ∧ N i = N' i) (hg : AllGD I' N' 4) : AllGD I N 4 := fun i hi => by
  rw [(h i hi).1, (h i hi).2]; exact hg i hi
theorem cells8_congr {I I' : Nat → Int} {N N' : Nat → ByteArray} (h : ∀ i, i < 4 → I i = I' i ∧ N i = N' i) : cells8 I N = cells8 I' N' := by
  unfold cells8
  rw [(h 0 (by decide)).1, (h 0 (by decide)).2, (h 1 (by decide)).1, (h 1 (by decide)).2, (h 2 (by decide)).1, (h 2 (by decide)).2, (h 3 (by decide)).1, (h 3 (by decide)).2]
theorem okD_enc {I : Nat → Int} {N : Nat → ByteArray} (h : AllGD I N 4) : OkD (encDK I N 4) ∧ cells8 (rdI (encDK I N 4)) (rdN (encDK I N 4)) = cells8 I N := by
  have hc : ∀ i, i < 4 → rdI (encDK I N 4) i = I i ∧ rdN (encDK I N 4) i = N i := fun i hi => ⟨rdI_enc I N i hi h, rdN_enc I N i hi h⟩
  exact ⟨⟨allGD_congr hc h, encDK_congr 4 hc⟩, cells8_congr hc⟩
/-! The document's reading: zeros at the end taken away. -/
def trZ (l : List Nat) : Nat → Nat
  | 0 => 0
  | n + 1 => if l.getD n 0 = 0 then trZ l n else n + 1
theorem trZ_le (l : List Nat) : ∀ n, trZ l n ≤ n
  | 0 => Nat.le_refl _
  | n + 1 => by rw [trZ]; split; have := trZ_le l n; omega; omega
theorem trZ_pad (m : List Nat) (j : Nat) (h : ∀ x ∈ m, x ≠ 0) : ∀ i, i ≤ j → trZ (m ++ List.replicate j 0) (m.length + i) = m.length
  | 0, _ => by
    rw [Nat.add_zero]
    rcases List.eq_nil_or_concat m with rfl | ⟨r, c, rfl⟩
    · rfl
    · rw [List.concat_eq_append] at h ⊢
      have hc : c ≠ 0 := h c (by simp)
      rw [List.length_append, List.length_singleton, trZ, if_neg]
      rw [List.getD_eq_getElem?_getD, List.append_assoc, List.getElem?_append_right (Nat.le_refl _), Nat.sub_self]
      simpa using hc
  | i + 1, hi => by
    rw [← Nat.add_assoc, trZ, if_pos, trZ_pad m j h i (by omega)]
    rw [List.getD_eq_getElem?_getD, List.getElem?_append_right (by omega), Nat.add_sub_cancel_left, List.getElem?_replicate, if_pos (by omega)]; rfl
def rdM (l : List Nat) (k : Nat) : ByteArray := strOf ((sub14 l k).take (trZ (sub14 l k) 14))
theorem rdM_enc (I : Nat → Int) (N : Nat → ByteArray) (k : Nat) (hk : k < 4) (h : AllGD I N 4) : rdM (encDK I N 4) k = N k := by
  have h14 := (good_size (h k hk)).2.2
  unfold rdM
  rw [sub14_enc I N k hk h]
  have e := trZ_pad (nb (N k)) (14 - (N k).size) (good_no0 (h k hk)) (14 - (N k).size) (Nat.le_refl _)
  rw [nb_len, show (N k).size + (14 - (N k).size) = 14 by omega] at e
  rw [e, ← nb_len, List.take_left, strOf_nb]
def OkRD (l : List Nat) : Prop := AllGD (rdI l) (rdM l) 4 ∧ encDK (rdI l) (rdM l) 4 = l
theorem okR_D (l : List Nat) : (OkRD l ↔ OkD l) ∧ (OkD l → cells8 (rdI l) (rdM l) = cells8 (rdI l) (rdN l)) := by
  have h1 : OkRD l → ∀ i, i < 4 → rdI l i = rdI l i ∧ rdN l i = rdM l i := fun ⟨ha, hb⟩ i hi => ⟨rfl, by
    have := rdN_enc (rdI l) (rdM l) i hi ha
    rw [hb] at this; exact this⟩
  have h2 : OkD l → ∀ i, i < 4 → rdI l i = rdI l i ∧ rdM l i = rdN l i := fun ⟨ha, hb⟩ i hi => ⟨rfl, by
    have := rdM_enc (rdI l) (rdN l) i hi ha
    rw [hb] at this; exact this⟩
  refine ⟨⟨fun h => ?_, fun h => ?_⟩, fun h => cells8_congr (h2 h)⟩
  · exact ⟨allGD_congr (h1 h) h.1, by rw [encDK_congr 4 (h1 h)]; exact h.2⟩
  · exact ⟨allGD_congr (h2 h) h.1, by rw [encDK_congr 4 (h2 h)]; exact h.2⟩
end Go.Proofs.Ytagigeacjendiaa
