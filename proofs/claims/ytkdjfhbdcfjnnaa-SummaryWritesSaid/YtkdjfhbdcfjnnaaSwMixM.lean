/-
  Blocks that have some sectors of one summary and some of another, in numbers; what a law's walk wants of Own and Encode.
-/
import Derived.Test.YtkdjfhbdcfjnnaaSwIn
import Derived.Test.YtkdjfhbdcfjnnaaOwnAny
namespace Go.Proofs.Ytkdjfhbdcfjnnaa
open Go.RowKit

def mixM (wh : Int) (A B : List Nat) (n : Nat) : List Nat := (List.range n).flatMap fun i => if wh / 2 ^ i % 2 = 1 then (A.drop (16 * i)).take 16 else (B.drop (16 * i)).take 16
theorem mixM_succ (wh : Int) (A B : List Nat) (n : Nat) : mixM wh A B (n + 1) = mixM wh A B n ++ if wh / 2 ^ n % 2 = 1 then (A.drop (16 * n)).take 16 else (B.drop (16 * n)).take 16 := by simp [mixM, List.range_succ]
theorem mixM_len {wh : Int} {A B : List Nat} (hA : A.length = 128) (hB : B.length = 128) : ∀ n, n ≤ 8 → (mixM wh A B n).length = 16 * n
  | 0, _ => rfl
  | n + 1, h => by
    rw [mixM_succ, List.length_append, mixM_len hA hB n (by omega)]
    split <;> rw [List.length_take, List.length_drop] <;> omega
theorem mixM_at {wh : Int} {A B : List Nat} (hA : A.length = 128) (hB : B.length = 128) (k : Nat) : ∀ n, n ≤ 8 → k < n → ((mixM wh A B n).drop (16 * k)).take 16 = if wh / 2 ^ k % 2 = 1 then (A.drop (16 * k)).take 16 else (B.drop (16 * k)).take 16
  | 0, _, h => by omega
  | n + 1, hn, hk => by
    have hl := mixM_len (wh := wh) hA hB n (by omega)
    rw [mixM_succ]
    by_cases hkn : k = n
    · subst hkn
      rw [List.drop_append_of_le_length (by omega), List.drop_of_length_le (by omega), List.nil_append, List.take_of_length_le]
      split <;> rw [List.length_take, List.length_drop] <;> omega
    · rw [List.drop_append_of_le_length (by omega), List.take_append_of_le_length (by rw [List.length_drop]; omega)]
      exact mixM_at hA hB k n (by omega) (by omega)
theorem chunks16 (A : List Nat) : ∀ n, ((List.range n).flatMap fun i => (A.drop (16 * i)).take 16) = A.take (16 * n)
  | 0 => rfl
  | n + 1 => by
    rw [List.range_succ, List.flatMap_append, chunks16 A n, List.flatMap_singleton, ← List.take_add, Nat.mul_succ]
theorem mixM_0 (A B : List Nat) (hB : B.length = 128) : mixM 0 A B 8 = B := by
  have : mixM 0 A B 8 = ((List.range 8).flatMap fun i => (B.drop (16 * i)).take 16) := by
    unfold mixM
    refine congrArg List.flatten (List.map_congr_left fun i _ => ?_)
    rw [Int.zero_ediv]
    rfl
  rw [this, chunks16, List.take_of_length_le (by omega)]
theorem mixM_255 (A B : List Nat) (hA : A.length = 128) : mixM 255 A B 8 = A := by
  have : mixM 255 A B 8 = ((List.range 8).flatMap fun i => (A.drop (16 * i)).take 16) := by
    unfold mixM
    refine congrArg List.flatten (List.map_congr_left fun i hi => ?_)
    have hi8 := List.mem_range.1 hi
    have : (255 : Int) / 2 ^ i % 2 = 1 := by
      match i, hi8 with
      | 0, _ => decide
      | 1, _ => decide
      | 2, _ => decide
      | 3, _ => decide
      | 4, _ => decide
      | 5, _ => decide
      | 6, _ => decide
      | 7, _ => decide
    rw [if_pos this]
  rw [this, chunks16, List.take_of_length_le (by omega)]
theorem some_bit (wh : Int) (h0 : 0 ≤ wh) (h1 : wh < 256) (hz : wh ≠ 0) : ∃ i, i < 8 ∧ wh / 2 ^ i % 2 = 1 := by
  by_cases b0 : wh / 2 ^ 0 % 2 = 1
  · exact ⟨0, by omega, b0⟩
  by_cases b1 : wh / 2 ^ 1 % 2 = 1
  · exact ⟨1, by omega, b1⟩
  by_cases b2 : wh / 2 ^ 2 % 2 = 1
  · exact ⟨2, by omega, b2⟩
  by_cases b3 : wh / 2 ^ 3 % 2 = 1
  · exact ⟨3, by omega, b3⟩
  by_cases b4 : wh / 2 ^ 4 % 2 = 1
  · exact ⟨4, by omega, b4⟩
  by_cases b5 : wh / 2 ^ 5 % 2 = 1
  · exact ⟨5, by omega, b5⟩
  by_cases b6 : wh / 2 ^ 6 % 2 = 1
  · exact ⟨6, by omega, b6⟩
  by_cases b7 : wh / 2 ^ 7 % 2 = 1
  · exact ⟨7, by omega, b7⟩
  simp only [Int.reducePow] at b0 b1 b2 b3 b4 b5 b6 b7
  omega
theorem no_bit (wh : Int) (h0 : 0 ≤ wh) (h1 : wh < 256) (hz : wh ≠ 255) : ∃ i, i < 8 ∧ ¬ wh / 2 ^ i % 2 = 1 := by
  obtain ⟨n, rfl⟩ : ∃ n : Nat, wh = n := ⟨wh.toNat, by omega⟩
  have key : ∀ k : Fin 256, k.val ≠ 255 → ∃ i : Fin 8, ¬ k.val / 2 ^ i.val % 2 = 1 := by decide +kernel
  obtain ⟨i, hi⟩ := key ⟨n, by omega⟩ (fun e => hz (by simp only at e; omega))
  refine ⟨i.val, i.2, fun h => hi ?_⟩
  have e : ((n : Int) / 2 ^ i.val % 2) = ((n / 2 ^ i.val % 2 : Nat) : Int) := by rw [Int.natCast_emod, Int.natCast_ediv, Int.natCast_pow]; rfl
  rw [e] at h
  simp only
  omega
theorem enc_sec (m : Sm) (s : Nat) (h : Good m) {k : Nat} (hk : k < 8) : ((encM m s).drop (16 * k)).take 16 = secM m.e m.c (zpad 88 (wds m s)) k :=
  secs_at m.e m.c (zpad_len (by rw [wds_len]; have := h.size; omega)) k 8 (Nat.le_refl _) hk
theorem sec_inj {e c e' c' : Int} {w w' : List Nat} {k : Nat} (he : 0 ≤ e ∧ e ≤ 65535) (hc : 0 ≤ c ∧ c ≤ 65535) (he' : 0 ≤ e' ∧ e' ≤ 65535) (hc' : 0 ≤ c' ∧ c' ≤ 65535) (h : secM e c w k = secM e' c' w' k) : e = e' ∧ c = c' := by
  have h1 := sec_head e c w k [] he hc
  have h2 := sec_head e' c' w' k [] he' hc'
  rw [h] at h1
  exact ⟨h1.1.symm.trans h2.1, h1.2.symm.trans h2.2⟩
theorem mix_ok (wh : Int) (h0 : 0 ≤ wh) (h1 : wh < 256) (m q : Sm) (hm : chkM m = 0) (hq : chkM q = 0) (s t : Nat) (hs : s < 4294967296) (ht : t < 4294967296) (hne : ¬ (m.e = q.e ∧ m.c = q.c)) : okB (mixM wh (encM m s) (encM q t) 8) = decide (wh = 0 ∨ wh = 255) := by
  have gm := good_of hm
  have gq := good_of hq
  have lA := encM_len m s gm
  have lB := encM_len q t gq
  by_cases hz : wh = 0
  · subst hz
    rw [mixM_0 _ _ lB, ok_enc q t hq ht]
    rfl
  by_cases hz2 : wh = 255
  · subst hz2
    rw [mixM_255 _ _ lA, ok_enc m s hm hs]
    rfl
  rw [decide_eq_false (by omega)]
  cases hok : okB (mixM wh (encM m s) (encM q t) 8) with
  | false => rfl
  | true =>
    exfalso
    unfold okB at hok
    simp only [Bool.and_eq_true, decide_eq_true_eq] at hok
    obtain ⟨-, hck, hen⟩ := hok
    have gz := good_of hck
    obtain ⟨i, hi, bi⟩ := some_bit wh h0 h1 hz
    obtain ⟨j, hj, bj⟩ := no_bit wh h0 h1 hz2
    have e1 := mixM_at (wh := wh) lA lB i 8 (Nat.le_refl _) hi
    have e2 := mixM_at (wh := wh) lA lB j 8 (Nat.le_refl _) hj
    rw [if_pos bi, ← hen, enc_sec _ _ gz hi, enc_sec _ _ gm hi] at e1
    rw [if_neg bj, ← hen, enc_sec _ _ gz hj, enc_sec _ _ gq hj] at e2
    have a1 := sec_inj gz.e gz.c gm.e gm.c e1
    have a2 := sec_inj gz.e gz.c gq.e gq.c e2
    exact hne ⟨a1.1.symm.trans a2.1, a1.2.symm.trans a2.2⟩
theorem and_one8 (x : Int) (k : Nat) (h0 : 0 ≤ x) (h1 : x < 256) : bits .and .u8 (x / 2 ^ k) 1 = x / 2 ^ k % 2 := by
  obtain ⟨n, rfl⟩ : ∃ n : Nat, x = n := ⟨x.toNat, by omega⟩
  have e : ((n : Int) / 2 ^ k) = ((n / 2 ^ k : Nat) : Int) := by rw [Int.natCast_ediv, Int.natCast_pow]; rfl
  rw [e]
  have hle : n / 2 ^ k ≤ n := Nat.div_le_self _ _
  generalize n / 2 ^ k = y at *
  have h2 : (BitVec.ofInt 8 (y : Int)).toNat = y := by rw [BitVec.ofInt_natCast, BitVec.toNat_ofNat]; exact Nat.mod_eq_of_lt (by omega)
  show IntKind.u8.wrap ((BitVec.ofInt 8 (y : Int) &&& BitVec.ofInt 8 1).toNat : Int) = _
  rw [BitVec.toNat_and, h2, show (BitVec.ofInt 8 1).toNat = 1 by decide, Nat.and_one_is_mod, IntKind.wrap_u8]
  omega
theorem szF_eq (l : List Fi) : szF l = 4 * l.length + 2 * blF l := by
  induction l with
  | nil => rfl
  | cons a l ih => simp only [szF, blF, List.map_cons, List.sum_cons, List.length_cons] at ih ⊢; omega
theorem few6_yes {m : Sm} (h : few6 m = true) : m.fs.length ≤ 40 ∧ m.is.length ≤ 150 ∧ blF m.fs ≤ 150 := by
  have := of_decide_eq_true h
  omega
theorem lb_le {l : List Fi} : ∀ x ∈ l, x.lb.length ≤ blF l := fun x hx => by
  induction l with
  | nil => cases hx
  | cons a l ih =>
    simp only [blF, List.map_cons, List.sum_cons] at ih ⊢
    rcases List.mem_cons.1 hx with rfl | h
    · omega
    · have := ih h; omega
theorem FisN.later {w w' : World} {a : Option Addr} {l : List Fi} (h : FisN w a l) (hF : Fis w a l) (hb : Below w.heap.size w w') : FisN w' a l := fun b o i n c hi ha hc => by
  obtain ⟨b', o', c', cp, ha', _, _, h3, _⟩ := hF.at hi
  rw [ha] at ha'
  cases ha'
  have h4 := cell_later hb h3
  rw [h4] at hc
  injection hc with hc
  injection hc with e1 e2 e3
  subst e1 e2 e3
  exact h b o i _ _ hi ha h3
/-- What is told of a summary that is known, in whatever world behind. -/
structure PartK (w : World) (m : Sm) (fa : Option Addr) (fn fc : Nat) (ia : Option Addr) (inn ic : Nat) : Prop where
  fis : Fis w fa m.fs
  ints : Ints w ia m.is
  fnq : fn = m.fs.length
  inq : inn = m.is.length
  fnil : FisN w fa m.fs
  inil : ia = none → inn = 0 ∧ ic = 0
  few : few6 m = true
  lbm : ∀ x ∈ m.fs, ∀ n ∈ x.lb, -9223372036854775808 ≤ n
section
variable {w : World} {m : Sm} {fa : Option Addr} {fn fc : Nat} {ia : Option Addr} {inn ic : Nat}
theorem PartIn.k (h : PartIn w m fa fn fc ia inn ic) (hf : few6 m = true) : PartK w m fa fn fc ia inn ic :=
  ⟨h.fin.fis, h.ins.ints, h.fin.leq, h.ins.leq, h.fin.nils, h.ins.nil, hf, fun x hx n hn => (Go.bounds_i64 ((h.fin.wf x hx).2.2 n hn)).1⟩
theorem PartK.later {w' : World} (h : PartK w m fa fn fc ia inn ic) (hb : Below w.heap.size w w') : PartK w' m fa fn fc ia inn ic :=
  ⟨h.fis.later hb, h.ints.below hb, h.fnq, h.inq, h.fnil.later h.fis hb, h.inil, h.few, h.lbm⟩
theorem PartK.own (h : PartK w m fa fn fc ia inn ic) : Calls Try.prog 11 #[part m.e m.c m.i m.p m.x fa fn fc ia inn ic] w fun e w' => ∃ fb fd ib id, e = .returned (part m.e m.c m.i m.p m.x fb fn fd ib inn id) ∧ Fis w' fb m.fs ∧ Ints w' ib m.is ∧ Below w.heap.size w w' := by
  obtain ⟨h1, h2, h3⟩ := few6_yes h.few
  have hl := h.fnq
  have hi := h.inq
  exact own_any m.e m.c m.i m.p m.x fa fn fc ia inn ic h.fis h.ints h.fnq h.inq (by omega) (by omega) (fun x hx => by have := lb_le x hx; omega) h.fnil h.inil
theorem encode_any (s : Nat) (hs : s < 4294967296) (hf : few6 m = true) (hlb : ∀ x ∈ m.fs, ∀ n ∈ x.lb, -9223372036854775808 ≤ n) (hF : Fis w fa m.fs) (hI : Ints w ia m.is) (hn : fn = m.fs.length) (hin : inn = m.is.length) :
    Calls Try.prog 12 #[part m.e m.c m.i m.p m.x fa fn fc ia inn ic, .int .u32 s] w fun e w' => ∃ a n c, e = .returned (.tuple #[.slice a n c, .int .i64 (chkM m)]) ∧ (chkM m = 0 → ∃ g, a = some ⟨g, 0, none⟩ ∧ n = 128 ∧ c = 128 ∧ w.heap.size ≤ g ∧ Fil w' g 128 (encM m s)) ∧ Below w.heap.size w w' := by
  obtain ⟨h1, h2, h3⟩ := few6_yes hf
  have hsz := szF_eq m.fs
  by_cases hk : chkM m = 0
  · refine (encode_good m s fa fn fc ia inn ic hk hF hn hI hin hs).mono ?_
    rintro e w' ⟨g, rfl, h4, h5, h6⟩
    exact ⟨_, _, _, by rw [hk], fun _ => ⟨g, rfl, rfl, rfl, h4, h5⟩, h6⟩
  · refine (encode_bad m s fa fn fc ia inn ic hk hF hn hI hin (by omega) (by omega) hlb).mono ?_
    rintro e w' ⟨rfl, h6⟩
    exact ⟨_, _, _, rfl, fun h => absurd h hk, h6⟩
end
end Go.Proofs.Ytkdjfhbdcfjnnaa
