/-
  The document's block of four directory entries.
-/
import Derived.Test.YtagigeacjendiaaEnRefC
namespace Go.Proofs.Ytagigeacjendiaa
open Go.RowKit

theorem strOf_app (l m : List Nat) : strOf l ++ strOf m = strOf (l ++ m) := by
  refine str_extE ?_
  rw [strOf_toList, List.map_append]
  simp [strOf_toList]
def RdbO (w : World) (I : Nat → Int) (N : Nat → ByteArray) (e : Ending) (w' : World) : Prop :=
  (AllGD I N 4 ∧ e = .returned (.tuple #[.string (strOf (encDK I N 4)), .int .i64 0]) ∨ ¬ AllGD I N 4 ∧ e = .returned (.tuple #[.string ⟨#[]⟩, .int .i64 22])) ∧ Below w.heap.size w w'
def RdbL (w : World) (I : Nat → Int) (N : Nat → ByteArray) (s t : Value) (W : World) : Prop :=
  ∃ k : Nat, k ≤ 4 ∧ t = .int .i64 k ∧ s = .string (strOf (encDK I N k)) ∧ AllGD I N k ∧ Blo W w.heap.size R4T (cells8 I N) ∧ Below w.heap.size w W
def strLen : Value → Nat
  | .string t => t.size
  | _ => 0
def PadL (M : List Nat) (n : Nat) (w : World) (s : Value) (W : World) : Prop := ∃ j : Nat, j ≤ n ∧ s = .string (strOf (M ++ List.replicate j 0)) ∧ w = W
set_option maxRecDepth 100000 in
set_option maxHeartbeats 8000000 in
theorem rdirBlock_any (I : Nat → Int) (N : Nat → ByteArray) (w : World) : Calls Try.prog 15 #[.agg (cells8 I N)] w (RdbO w I N) := by
  have hst : RdbL w I N (.string ⟨#[]⟩) (.int .i64 0) (w.alloc (.cells (cells8 I N) R4T)) :=
    ⟨0, by decide, rfl, rfl, fun i hi => by omega, blo_laid w R4T _, (Below.refl _ _).alloc (Nat.le_refl _) _⟩
  have HSt := Lib.hid hst
  clear hst
  have HAt := Lib.hid (cells8_at I N)
  generalize hcs : cells8 I N = CS at *
  have HCS := Lib.hid hcs
  clear hcs
  go_enter Try.func15, Try.ntmps15
  go_wp2_with fail
  go_loopw [4, 5, 6] (fun s t _ wr => RdbL w I N s t wr) (fun _ t _ _ => 4 - (intOf t).toNat)
  case atStart => exact HSt.out
  case round =>
    clear HSt
    obtain ⟨k, hk, rfl, rfl, hg, h1, hB⟩ := hrel
    have k0 : (0 : Int) ≤ (k : Int) := by omega
    by_cases hlt : k < 4
    · have k1 : (k : Int) < 4 := by omega
      have HKn : Hid (k < 4) := hlt
      have HB := Lib.hid hB
      have H1 := Lib.hid h1
      have HG := Lib.hid hg
      obtain ⟨d0, d1⟩ := HAt.out k hlt
      rw [HCS.out] at h1
      rw [← h1.cell] at d0 d1
      have hal := sup_en wr (.cells #[.int .i64 (I k), .string (N k)] RDE)
      have H12 := Lib.hid (H1.out.later hal)
      have HB2 := Lib.hid (HB.out.trans (hal.mono HB.out.size))
      have HE := Lib.hid (blo_laid wr RDE #[.int .i64 (I k), .string (N k)])
      have HNo : Hid (¬ GoodD (I k) (N k) → ¬ AllGD I N 4) := fun h h2 => h (h2 k hlt)
      have HYes : Hid (GoodD (I k) (N k) → AllGD I N (k + 1)) := fun h i hi => by
        by_cases e : i = k
        · rw [e]; exact h
        · exact HG.out i (by omega)
      have HEn : Hid (encDK I N (k + 1) = encDK I N k ++ encD (I k).toNat (N k)) := rfl
      have HEl : Hid ((encDK I N k).length = k * 16) := encDK_len I N k hg
      clear hk hB h1 hg hlt hal
      have HSz : Hid ((strOf (encDK I N k)).size = k * 16) := by show _ = _; rw [strOf_len]; exact HEl.out
      generalize hik : I k = ik at *
      generalize hnk : N k = nk at *
      generalize hse : strOf (encDK I N k) = se at *
      have HSe := Lib.hid hse
      have HIk := Lib.hid hik
      have HNk := Lib.hid hnk
      clear hik hnk hse
      by_cases hA : ik = 0 ∧ nk = ⟨#[]⟩
      · obtain ⟨rfl, rfl⟩ := hA
        have HY := Lib.hid (HYes.out (.inl ⟨rfl, rfl⟩))
        clear HNo HYes
        have HN14 : Hid ((⟨#[]⟩ : ByteArray).size ≤ 14) := Lib.hid (by decide)
        have hb2 : Bytes ((wr.alloc (.cells #[.int .i64 0, .string ⟨#[]⟩] RDE)).alloc (.cells #[.int .u8 0, .int .u8 0] U8)) (some ⟨wr.heap.size + 1, 0, none⟩) [0, 0] := by
          have h := Bytes.laid (wr.alloc (.cells #[.int .i64 0, .string ⟨#[]⟩] RDE)) [0, 0] #[.int .u8 0, .int .u8 0] U8 (0, 0) (by intro x hx; simp at hx; omega) (by simp) (fun i hi => by
            match i, hi with
            | 0, _ => rfl
            | 1, _ => rfl
            | i + 2, hi => simp at hi; omega)
          rw [show (wr.alloc (.cells #[.int .i64 0, .string ⟨#[]⟩] RDE)).heap.size = wr.heap.size + 1 by simp] at h
          exact h
        have hcv := text_of hb2 2 2 rfl
        have hs2 : (strOf [0, 0]).size = 2 := by rw [strOf_len]; rfl
        have HBl := Lib.hid (HB2.out.trans ((sup_en (wr.alloc (.cells #[.int .i64 0, .string ⟨#[]⟩] RDE)) (.cells #[.int .u8 0, .int .u8 0] U8)).mono HB2.out.size))
        have HBk := Lib.hid (H12.out.alloc (.cells #[.int .u8 0, .int .u8 0] U8))
        have hkz : se.size = k * 16 := HSz.out
        have q1 : se.size + (strOf [0, 0]).size ≤ 9223372036854775807 := by have := HKn.out; omega
        have HM : Hid (se ++ strOf [0, 0] ++ ⟨#[]⟩ = strOf (encDK I N k ++ ([0, 0] ++ nb ⟨#[]⟩))) := by
          show _ = _
          rw [← strOf_app, ← strOf_app, strOf_nb, HSe.out]
          refine str_extE ?_
          simp
        have HML : Hid ((encDK I N k ++ ([0, 0] ++ nb ⟨#[]⟩)).length = k * 16 + 2 + (⟨#[]⟩ : ByteArray).size) := by
          show _ = _
          rw [List.length_append, List.length_append, nb_len, HEl.out]; simp; omega
        have HFin : Hid (encDK I N k ++ ([0, 0] ++ nb ⟨#[]⟩) ++ List.replicate (14 - (⟨#[]⟩ : ByteArray).size) 0 = encDK I N (k + 1)) := by
          show _ = _
          rw [HEn.out]
          have e1 : (0 : Nat) % 256 = 0 := by omega
          have e2 : (0 : Nat) / 256 % 256 = 0 := by omega
          have e3 : (0 : Int).toNat = 0 := by omega
          unfold encD
          first | rw [e3, e1, e2, List.append_assoc, List.append_assoc] | (rw [List.append_assoc, List.append_assoc]; rfl)
        clear hkz hb2 HSz
        go_wp2_with fail
        generalize hMM : encDK I N k ++ _ = M at HM HML HFin
        clear hMM
        go_loopw [4] (fun s wr' => PadL M (14 - (⟨#[]⟩ : ByteArray).size) _ s wr') (fun s _ => 16 * k + 16 - strLen s)
        case atStart => exact ⟨0, Nat.zero_le _, by rw [List.replicate_zero, List.append_nil, ← HM.out], rfl⟩
        case round =>
          obtain ⟨j, hj, rfl, rfl⟩ := hrel
          have hts : (strOf (M ++ List.replicate j 0)).size = k * 16 + 2 + (⟨#[]⟩ : ByteArray).size + j := by rw [strOf_len, List.length_append, List.length_replicate, HML.out]
          have hn14' : (⟨#[]⟩ : ByteArray).size ≤ 14 := HN14.out
          by_cases hjl : j < 14 - (⟨#[]⟩ : ByteArray).size
          · have y1 : ((strOf (M ++ List.replicate j 0)).size : Int) < 16 * (k : Int) + 16 := by omega
            have y2 : (strOf (M ++ List.replicate j 0)).size + 1 ≤ 9223372036854775807 := by have := HKn.out; omega
            have HNxt : Hid (strOf (M ++ List.replicate j 0) ++ ⟨#[0]⟩ = strOf (M ++ List.replicate (j + 1) 0)) := by
              show _ = _
              rw [List.replicate_succ', ← List.append_assoc, ← strOf_app (M ++ List.replicate j 0) [0]]; rfl
            have HTz := Lib.hid hts
            have HJ : Hid (j < 14 - (⟨#[]⟩ : ByteArray).size) := hjl
            clear hts hjl hj hn14'
            generalize strOf (M ++ List.replicate j 0) = t at *
            go_wp2_with fail
            exact ⟨⟨j + 1, HJ.out, by rw [HNxt.out], rfl⟩, by
              show 16 * k + 16 - (t ++ (⟨#[0]⟩ : ByteArray)).size < 16 * k + 16 - t.size
              have e1 : (t ++ (⟨#[0]⟩ : ByteArray)).size = t.size + 1 := by rw [ByteArray.size_append]; rfl
              have e2 := HTz.out
              have e3 := HJ.out
              omega⟩
          · have hje : j = 14 - (⟨#[]⟩ : ByteArray).size := by omega
            have y1 : ¬ ((strOf (M ++ List.replicate j 0)).size : Int) < 16 * (k : Int) + 16 := by omega
            have HFn : Hid (strOf (M ++ List.replicate j 0) = strOf (encDK I N (k + 1))) := by show _ = _; rw [hje, HFin.out]
            clear hts hjl hj hn14' hje
            generalize strOf (M ++ List.replicate j 0) = t at *
            go_wp2_with fail
            go_roundw
            case rel => exact ⟨k + 1, HKn.out, by go_num, by rw [HFn.out], HY.out, HBk.out, HBl.out⟩
            case measure => simp [intOf]; have := HKn.out; omega
      · by_cases h1 : ik < 1
        · have HNn := Lib.hid (HNo.out (fun h => h.elim hA (fun h => by omega)))
          have hge : (ik == 0 && nk.toList == []) = false := by
            rw [Bool.and_eq_false_iff]
            by_cases h0 : ik = 0
            · exact .inr (bne_of (l := []) (fun e => hA ⟨h0, e⟩))
            · exact .inl (beq_eq_false_iff_ne.2 h0)
          clear HNo HYes
          by_cases h0 : ik = 0
          · have hn0 : ¬ nk = ⟨#[]⟩ := fun e => hA ⟨h0, e⟩
            have m0 : ¬ nk.toList = [] := fun e => absurd (bne_of (l := []) hn0) (by rw [e]; decide)
            have m0' : nk.toList.isEmpty = false := by cases h : nk.toList with | nil => exact absurd h m0 | cons _ _ => rfl
            subst h0
            clear hA hn0 hge
            go_wp2_with fail
            exact bodyPost_ret (v := .tuple #[.string ⟨#[]⟩, .int .i64 22]) (by simp [results, Try.results15, go_sem]) rfl ⟨.inr ⟨HNn.out, rfl⟩, HB2.out⟩
          · have hz : (ik == 0) = false := beq_eq_false_iff_ne.2 h0
            clear hA hge h0
            go_wp2_with fail
            exact bodyPost_ret (v := .tuple #[.string ⟨#[]⟩, .int .i64 22]) (by simp [results, Try.results15, go_sem]) rfl ⟨.inr ⟨HNn.out, rfl⟩, HB2.out⟩
        · have hz : (ik == 0) = false := beq_eq_false_iff_ne.2 (by omega)
          by_cases h2 : 200 < ik
          · have HNn := Lib.hid (HNo.out (fun h => h.elim hA (fun h => by omega)))
            clear HNo HYes hA
            go_wp2_with fail
            exact bodyPost_ret (v := .tuple #[.string ⟨#[]⟩, .int .i64 22]) (by simp [results, Try.results15, go_sem]) rfl ⟨.inr ⟨HNn.out, rfl⟩, HB2.out⟩
          · by_cases h3 : nmE nk = 0
            · have HGd0 : GoodD ik nk := .inr ⟨by omega, by omega, h3⟩
              have HGd := Lib.hid HGd0
              have HY := Lib.hid (HYes.out HGd0)
              clear HGd0
              have HNm := Lib.hid (refName_any nk)
              rw [h3] at HNm
              obtain ⟨a, rfl⟩ : ∃ a : Nat, ik = (a : Int) := ⟨ik.toNat, by omega⟩
              clear HNo HYes hA h3
              go_wp2_with fail
              refine (HNm.out _).mono ?_
              rintro e w2 ⟨rfl, rfl⟩
              have hn14 : nk.size ≤ 14 := (good_size (i := (a : Int)) (n := nk) HGd.out).2.2
              have HN14 := Lib.hid hn14
              have hb2 : Bytes ((wr.alloc (.cells #[.int .i64 (a : Int), .string nk] RDE)).alloc (.cells #[.int .u8 (a : Nat), .int .u8 0] U8)) (some ⟨wr.heap.size + 1, 0, none⟩) [a, 0] := by
                have h := Bytes.laid (wr.alloc (.cells #[.int .i64 (a : Int), .string nk] RDE)) [a, 0] #[.int .u8 (a : Nat), .int .u8 0] U8 (0, 0) (by intro x hx; simp at hx; omega) (by simp) (fun i hi => by
                  match i, hi with
                  | 0, _ => rfl
                  | 1, _ => rfl
                  | i + 2, hi => simp at hi; omega)
                rw [show (wr.alloc (.cells #[.int .i64 (a : Int), .string nk] RDE)).heap.size = wr.heap.size + 1 by simp] at h
                exact h
              have hcv := text_of hb2 2 2 rfl
              have hs2 : (strOf [a, 0]).size = 2 := by rw [strOf_len]; rfl
              have HBl := Lib.hid (HB2.out.trans ((sup_en (wr.alloc (.cells #[.int .i64 (a : Int), .string nk] RDE)) (.cells #[.int .u8 (a : Nat), .int .u8 0] U8)).mono HB2.out.size))
              have HBk := Lib.hid (H12.out.alloc (.cells #[.int .u8 (a : Nat), .int .u8 0] U8))
              have hkz : se.size = k * 16 := HSz.out
              have q1 : se.size + (strOf [a, 0]).size ≤ 9223372036854775807 := by have := HKn.out; omega
              have HM : Hid (se ++ strOf [a, 0] ++ nk = strOf (encDK I N k ++ ([a, 0] ++ nb nk))) := by
                show _ = _
                rw [← strOf_app, ← strOf_app, strOf_nb, HSe.out]
                refine str_extE ?_
                simp
              have HML : Hid ((encDK I N k ++ ([a, 0] ++ nb nk)).length = k * 16 + 2 + (nk : ByteArray).size) := by
                show _ = _
                rw [List.length_append, List.length_append, nb_len, HEl.out]; simp; omega
              have HFin : Hid (encDK I N k ++ ([a, 0] ++ nb nk) ++ List.replicate (14 - (nk : ByteArray).size) 0 = encDK I N (k + 1)) := by
                show _ = _
                rw [HEn.out]
                have e1 : (a : Nat) % 256 = a := by omega
                have e2 : (a : Nat) / 256 % 256 = 0 := by omega
                have e3 : ((a : Int) : Int).toNat = a := by omega
                unfold encD
                first | rw [e3, e1, e2, List.append_assoc, List.append_assoc] | (rw [List.append_assoc, List.append_assoc]; rfl)
              have q2 : se.size + (strOf [a, 0]).size + nk.size ≤ 9223372036854775807 := by have := HKn.out; omega
              clear hkz hb2 HSz
              go_wp2_with fail
              generalize hMM : encDK I N k ++ _ = M at HM HML HFin
              clear hMM
              go_loopw [4] (fun s wr' => PadL M (14 - (nk : ByteArray).size) _ s wr') (fun s _ => 16 * k + 16 - strLen s)
              case atStart => exact ⟨0, Nat.zero_le _, by rw [List.replicate_zero, List.append_nil, ← HM.out], rfl⟩
              case round =>
                obtain ⟨j, hj, rfl, rfl⟩ := hrel
                have hts : (strOf (M ++ List.replicate j 0)).size = k * 16 + 2 + (nk : ByteArray).size + j := by rw [strOf_len, List.length_append, List.length_replicate, HML.out]
                have hn14' : (nk : ByteArray).size ≤ 14 := HN14.out
                by_cases hjl : j < 14 - (nk : ByteArray).size
                · have y1 : ((strOf (M ++ List.replicate j 0)).size : Int) < 16 * (k : Int) + 16 := by omega
                  have y2 : (strOf (M ++ List.replicate j 0)).size + 1 ≤ 9223372036854775807 := by have := HKn.out; omega
                  have HNxt : Hid (strOf (M ++ List.replicate j 0) ++ ⟨#[0]⟩ = strOf (M ++ List.replicate (j + 1) 0)) := by
                    show _ = _
                    rw [List.replicate_succ', ← List.append_assoc, ← strOf_app (M ++ List.replicate j 0) [0]]; rfl
                  have HTz := Lib.hid hts
                  have HJ : Hid (j < 14 - (nk : ByteArray).size) := hjl
                  clear hts hjl hj hn14'
                  generalize strOf (M ++ List.replicate j 0) = t at *
                  go_wp2_with fail
                  exact ⟨⟨j + 1, HJ.out, by rw [HNxt.out], rfl⟩, by
                    show 16 * k + 16 - (t ++ (⟨#[0]⟩ : ByteArray)).size < 16 * k + 16 - t.size
                    have e1 : (t ++ (⟨#[0]⟩ : ByteArray)).size = t.size + 1 := by rw [ByteArray.size_append]; rfl
                    have e2 := HTz.out
                    have e3 := HJ.out
                    omega⟩
                · have hje : j = 14 - (nk : ByteArray).size := by omega
                  have y1 : ¬ ((strOf (M ++ List.replicate j 0)).size : Int) < 16 * (k : Int) + 16 := by omega
                  have HFn : Hid (strOf (M ++ List.replicate j 0) = strOf (encDK I N (k + 1))) := by show _ = _; rw [hje, HFin.out]
                  clear hts hjl hj hn14' hje
                  generalize strOf (M ++ List.replicate j 0) = t at *
                  go_wp2_with fail
                  go_roundw
                  case rel => exact ⟨k + 1, HKn.out, by go_num, by rw [HFn.out], HY.out, HBk.out, HBl.out⟩
                  case measure => simp [intOf]; have := HKn.out; omega
            · have HNn := Lib.hid (HNo.out (fun h => h.elim hA (fun h => h3 h.2.2)))
              have h4 : (nmE nk == 0) = false := beq_eq_false_iff_ne.2 h3
              have HNm := Lib.hid (refName_any nk)
              clear HNo HYes hA h3
              generalize nmE nk = z at *
              go_wp2_with fail
              refine (HNm.out _).mono ?_
              rintro e w2 ⟨rfl, rfl⟩
              go_wp2_with fail
              exact bodyPost_ret (v := .tuple #[.string ⟨#[]⟩, .int .i64 22]) (by simp [results, Try.results15, go_sem]) rfl ⟨.inr ⟨HNn.out, rfl⟩, HB2.out⟩
    · have k1 : ¬ (k : Int) < 4 := by omega
      obtain rfl : k = 4 := by omega
      have HB := Lib.hid hB
      have HG := Lib.hid hg
      clear hB hg h1
      generalize htx : strOf (encDK I N 4) = tx at *
      have HTx := Lib.hid htx
      clear htx
      go_wp2
      exact bodyPost_ret (v := .tuple #[.string tx, .int .i64 0]) (by simp [results, Try.results15, go_sem]) rfl ⟨.inl ⟨HG.out, by rw [HTx.out]⟩, HB.out⟩
end Go.Proofs.Ytagigeacjendiaa
