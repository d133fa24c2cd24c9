/-
  Join of the document.
-/
import Derived.Test.YtkgkjjkefifpaaaNaJoin
import Derived.Test.YtkgkjjkefifpaaaNaRefS
namespace Go.Proofs.Ytkgkjjkefifpaaa
open Go.RowKit

/-- The first names' path, with nothing for none. -/
def jf (l : List ByteArray) : List UInt8 := (l.map fun x => (47 : UInt8) :: x.data.toList).flatten
theorem jf_snoc (l : List ByteArray) (x : ByteArray) : jf (l ++ [x]) = jf l ++ 47 :: x.data.toList := by simp [jf]
theorem jf_len (l : List ByteArray) (h : ∀ x ∈ l, x.size ≤ 14) : (jf l).length ≤ l.length * 15 := by
  induction l with
  | nil => simp [jf]
  | cons x l ih =>
    have h1 := ih (fun y hy => h y (List.mem_cons_of_mem _ hy))
    have h2 := h x List.mem_cons_self
    rw [Lib.size_eq] at h2
    unfold jf at h1 ⊢
    rw [List.map_cons, List.flatten_cons, List.length_append, List.length_cons, List.length_cons]
    omega
theorem jl_jf {l : List ByteArray} (h : l ≠ []) : jl l = jf l := by unfold jl jf; rw [if_neg h]
theorem jf_nil {l : List ByteArray} : jf l = [] ↔ l = [] := by
  cases l with
  | nil => simp [jf]
  | cons x r => simp [jf]
def RjR (w : World) (l : List ByteArray) (n : Nat) (v4 v9 : Value) (W : World) : Prop := ∃ k : Nat, v9 = .int .i64 k ∧ k ≤ n ∧ v4 = .string (ba (jf (l.take k))) ∧ chkL (l.take k) = 0 ∧ Below w.heap.size w W
set_option maxRecDepth 100000 in
set_option maxHeartbeats 4000000 in
theorem refJoin_any (l : List ByteArray) (a : Option Addr) (n c : Nat) (w : World) (hl : n = l.length) (hn : n ≤ 1000) (ha : Strs w a l) : Calls Try.prog 16 #[.slice a n c] w (JoO w l) := by
  have HL := Lib.hid hl
  have HA := Lib.hid ha
  have HB := Lib.hid (Below.refl w.heap.size w)
  have HE1 : Hid (chkL l = 0 → 255 < (joS l).size → JoO w l = fun e w' => e = .returned (.tuple #[.string ⟨#[]⟩, .int .i64 36]) ∧ Below w.heap.size w w') := fun hz h => by
    unfold JoO; rw [joE_long hz h, joR_bad (by rw [joE_long hz h]; decide)]
  have HE2 : Hid (chkL l = 0 → ¬ 255 < (joS l).size → JoO w l = fun e w' => e = .returned (.tuple #[.string (joS l), .int .i64 0]) ∧ Below w.heap.size w w') := fun hz h => by
    unfold JoO; rw [joE_ok hz h, joR_ok (joE_ok hz h)]
  have HE3 : Hid (chkL l ≠ 0 → JoO w l = fun e w' => e = .returned (.tuple #[.string ⟨#[]⟩, .int .i64 (chkL l)]) ∧ Below w.heap.size w w') := fun hz => by
    unfold JoO; rw [joR_bad (by rw [joE_chk hz]; exact hz), joE_chk hz]
  clear hl ha
  go_enter Try.func16, Try.ntmps16
  go_wp2_with fail
  go_loopw [4, 5, 6, 9] (fun v4 _ _ v9 wr => RjR w l n v4 v9 wr) (fun _ _ _ v9 _ => n - (intOf v9).toNat)
  case atStart => exact ⟨0, rfl, by omega, rfl, rfl, HB.out⟩
  case round =>
    obtain ⟨k, rfl, hk, rfl, hck, hbw⟩ := hrel
    have HC := Lib.hid hck
    have HW := Lib.hid hbw
    clear hck hbw
    by_cases hlt : k < n
    · obtain ⟨b1, o1, rfl, h1⟩ := (HA.out.below HW.out) (by intro e; have := HL.out; rw [e] at this; simp at this; omega)
      have x1 := h1 k (by have := HL.out; omega)
      obtain ⟨q1, q2⟩ := chkL_at (by have := HL.out; omega) HC.out
      have HQ1 := Lib.hid q1
      have HQ2 := Lib.hid q2
      have e1 : l.take (k + 1) = l.take k ++ [l.getD k ⟨#[]⟩] := by
        rw [List.take_add_one, List.getD_eq_getElem?_getD, List.getElem?_eq_getElem (by have := HL.out; omega)]; rfl
      have HJ : Hid (ba (jf (l.take (k + 1))) = ba (jf (l.take k)) ++ ⟨#[47]⟩ ++ l.getD k ⟨#[]⟩) := by
        show _ = _
        rw [e1, jf_snoc]
        refine str_ext ?_
        rw [ba_data]
        simp
      have hjl := jf_len (l.take k) (fun x hx => nmE_size (chkL_all.1 HC.out x hx))
      rw [List.length_take] at hjl
      have hsz : (ba (jf (l.take k))).size ≤ 20000 := by rw [ba_size]; have := HL.out; omega
      have HN := Lib.hid (refName_any (l.getD k ⟨#[]⟩))
      have HSz : Hid (nmE (l.getD k ⟨#[]⟩) = 0 → (l.getD k ⟨#[]⟩).size ≤ 14) := fun h => nmE_size h
      clear h1 q1 q2 e1 hjl
      generalize l.getD k ⟨#[]⟩ = x at *
      generalize ba (jf (l.take k)) = j1 at *
      have z0 : (0 : Int) ≤ (k : Int) := by omega
      have z1 : (k : Int) < (n : Int) := by omega
      by_cases hx : nmE x = 0
      · have hx14 := HSz.out hx
        have hs1 : j1.size + 1 ≤ 9223372036854775807 := by omega
        have hs2 : j1.size + 1 + x.size ≤ 9223372036854775807 := by omega
        rw [hx] at HN HQ1
        clear hx HQ2 HSz
        go_wp2_with fail
        refine (HN.out _).mono ?_
        rintro e w1 ⟨rfl, rfl⟩
        go_wp2_with fail
        exact ⟨⟨k + 1, by go_num, by omega, by rw [HJ.out], HQ1.out, HW.out⟩, by simp [intOf]; omega⟩
      · have HE := Lib.hid (HQ2.out hx)
        have HZ := Lib.hid hx
        have h4 : (nmE x == 0) = false := beq_eq_false_iff_ne.2 hx
        have HX : Hid (JoO w l = fun e w' => e = .returned (.tuple #[.string ⟨#[]⟩, .int .i64 (nmE x)]) ∧ Below w.heap.size w w') := by
          have := HE3.out (by rw [HE.out]; exact hx)
          rwa [HE.out] at this
        clear HQ1 HQ2 hx HSz HE1 HE2 HE3 HE
        generalize nmE x = z at *
        go_wp2_with fail
        refine (HN.out _).mono ?_
        rintro e w1 ⟨rfl, rfl⟩
        go_wp2_with fail
        refine bodyPost_ret (v := .tuple #[.string ⟨#[]⟩, .int .i64 z]) (by simp [results, Try.results16, go_sem]) rfl ?_
        rw [HX.out]
        exact ⟨rfl, HW.out⟩
    · obtain rfl : k = n := by omega
      have HT : Hid (l.take k = l) := List.take_of_length_le (by have := HL.out; omega)
      rw [HT.out] at HC ⊢
      clear HT
      by_cases hnil : l = []
      · have HX := Lib.hid (HE2.out HC.out (by rw [hnil]; decide))
        have hj : ba (jf l) = ⟨#[]⟩ := by rw [hnil]; rfl
        have hj2 : joS l = ⟨#[47]⟩ := by rw [hnil]; rfl
        rw [hj2] at HX
        rw [hj]
        clear hnil HE1 HE2 HE3 HC hj hj2 HL HA
        go_wp2_with fail
        refine bodyPost_ret (v := .tuple #[.string ⟨#[47]⟩, .int .i64 0]) (by simp [results, Try.results16, go_sem]) rfl ?_
        rw [HX.out]
        exact ⟨rfl, HW.out⟩
      · have hj : ba (jf l) = joS l := by unfold joS; rw [jl_jf hnil]
        have hne : (joS l).size ≠ 0 := by
          rw [← hj, ba_size]
          exact fun e => hnil (jf_nil.1 (List.eq_nil_of_length_eq_zero e))
        rw [hj]
        have HH : Hid (255 < (joS l).size → JoO w l = fun e w' => e = .returned (.tuple #[.string ⟨#[]⟩, .int .i64 36]) ∧ Below w.heap.size w w') := HE1.out HC.out
        have HG : Hid (¬ 255 < (joS l).size → JoO w l = fun e w' => e = .returned (.tuple #[.string (joS l), .int .i64 0]) ∧ Below w.heap.size w w') := HE2.out HC.out
        clear hnil HE1 HE2 HE3 HC hj HL HA
        generalize joS l = jj at *
        obtain ⟨m0', m0⟩ := toList_empty hne
        clear hne
        by_cases hlong : 255 < jj.size
        · have hl : (255 : Int) < (jj.size : Int) := by omega
          have HX := Lib.hid (HH.out hlong)
          clear HH HG hlong
          go_wp2_with fail
          refine bodyPost_ret (v := .tuple #[.string ⟨#[]⟩, .int .i64 36]) (by simp [results, Try.results16, go_sem]) rfl ?_
          rw [HX.out]
          exact ⟨rfl, HW.out⟩
        · have hl : ¬ (255 : Int) < (jj.size : Int) := by omega
          have HX := Lib.hid (HG.out hlong)
          clear HH HG hlong
          go_wp2_with fail
          refine bodyPost_ret (v := .tuple #[.string jj, .int .i64 0]) (by simp [results, Try.results16, go_sem]) rfl ?_
          rw [HX.out]
          exact ⟨rfl, HW.out⟩
end Go.Proofs.Ytkgkjjkefifpaaa
