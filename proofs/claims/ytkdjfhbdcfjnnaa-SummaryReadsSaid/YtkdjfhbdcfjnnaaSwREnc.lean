/-
  The document's Encode of a good summary.
-/
import Derived.Test.YtkdjfhbdcfjnnaaSwRPut
import Derived.Test.YtkdjfhbdcfjnnaaSwWords
namespace Go.Proofs.Ytkdjfhbdcfjnnaa
open Go.RowKit

theorem rep_one (W0 : List Nat) (q : Nat) : W0 ++ List.replicate (q + 1) 0 = (W0 ++ List.replicate q 0) ++ num 1 (0 : Int).toNat := by
  rw [List.replicate_succ', ← List.append_assoc]; rfl
theorem secs_app (e c k : Nat) (WW : List Nat) : secs (e : Int) (c : Int) WW (k + 1) = (((secs (e : Int) (c : Int) WW k ++ num 2 (e : Int).toNat) ++ num 2 (c : Int).toNat) ++ num 1 (k : Int).toNat) ++ (WW.drop (11 * k)).take 11 := by
  rw [secs_succ]
  unfold secM
  simp only [← List.append_assoc, Int.toNat_natCast]
theorem cut_11 (g k cap : Nat) (hk : k < 8) (hc : 88 ≤ cap) (W : World) :
    (Instr.slice 30 (.slice (some ⟨g, 0, none⟩) 88 cap) (some (.int .i64 (11 * (k : Int)))) (some (.int .i64 (11 * (k : Int) + 11))) none).run Try.prog W = .ok (.slice (some ⟨g, 11 * k, none⟩) 11 (cap - 11 * k)) W := by
  have ht' : Try.prog.underlying 30 = some (.slice (Try.prog.elem 30)) := by simp [Program.elem, Try.underlying30]
  have he : Try.prog.elem 30 = 5 := by simp [Program.elem, Try.underlying30]
  rw [run_slice_lh W 30 _ _ _ ht' .i64 .i64 _ _ (by omega) (by omega) (by omega), he, size_u8f]
  have e1 : (11 * (k : Int)).toNat = 11 * k := by omega
  have e2 : (11 * (k : Int) + 11).toNat = 11 * k + 11 := by omega
  have e3 : ¬ (cap - 11 * k = 0) := by omega
  simp [Result.andThen, sliced, Addr.add_lit, e1, e2, e3]
  omega
theorem bytes_part11 {W : World} {g : Nat} {WW : List Nat} (h : Bytes W (some ⟨g, 0, none⟩) WW) (hl : WW.length = 88) (k : Nat) (hk : k < 8) : Bytes W (some ⟨g, 11 * k, none⟩) ((WW.drop (11 * k)).take 11) := by
  obtain ⟨b, o, ha, hc⟩ := h.2.2 (fun e => by rw [e] at hl; cases hl)
  cases ha
  refine ⟨fun x hx => h.1 x (List.mem_of_mem_drop (List.mem_of_mem_take hx)), by simp only [List.length_take]; omega, fun _ => ⟨g, 11 * k, rfl, fun i hi => ?_⟩⟩
  simp only [List.length_take, List.length_drop] at hi
  have := hc (11 * k + i) (by omega)
  rw [Nat.zero_add] at this
  rw [this]
  simp [List.getD_eq_getElem?_getD, List.getElem?_take_of_lt (show i < 11 by omega)]
def REnc (w : World) (b : List Nat) (e : Ending) (w' : World) : Prop := ∃ a' cap', e = .returned (.slice a' 128 cap') ∧ Bytes w' a' b ∧ Below w.heap.size w w'
def lenV : Value → Nat
  | .slice _ n _ => n
  | _ => 0
theorem own_bytes {W : World} {base n cap : Nat} {a : Option Addr} {xs : List Nat} (h : W.ownsRow base U8 1 (.slice a n cap) n (cellsB xs)) (hl : ∀ x ∈ xs, x < 256) (hn : xs.length = n) (h0 : 0 < n) (h9 : n ≤ 1000000 := by omega) : ∃ g, a = some ⟨g, 0, none⟩ ∧ n ≤ cap ∧ Bytes W (some ⟨g, 0, none⟩) xs := by
  rcases id h.2 with ⟨h1, h2⟩ | ⟨g, c, cur, h1, _, _, h4, _⟩
  · omega
  · cases h1
    refine ⟨g, rfl, h4, hl, by omega, fun _ => ⟨g, 0, rfl, fun i hi => ?_⟩⟩
    rw [Nat.zero_add, h.cellAt i (by omega), cellsB_get xs i hi]

set_option maxRecDepth 20000 in
set_option maxHeartbeats 8000000 in
theorem rencode_raw {w : World} (e c i p x s : Nat) (l : List Fi) (is : List Int) (fa : Option Addr) (fn fc : Nat) (ia : Option Addr) (inn ic : Nat) (hg : Good ⟨e, c, i, p, x, l, is⟩) (hF : Fis w fa l) (hn : fn = l.length) (hI : Ints w ia is) (hin : inn = is.length) (hs : s < 4294967296) :
    Calls Try.prog 21 #[part e c i p x fa fn fc ia inn ic, .int .u32 s] w (REnc w (encM ⟨e, c, i, p, x, l, is⟩ s)) := by
  have hsup := sup_pc w (.cells #[.int .i64 (e : Int), .int .i64 (c : Int), .int .i64 (i : Int), .int .i64 (p : Int), .int .i64 (x : Int), .slice fa fn fc, .slice ia inn ic] 25)
  have HB := Lib.hid hsup
  have HX := Lib.hid (blo_laid w 25 #[.int .i64 (e : Int), .int .i64 (c : Int), .int .i64 (i : Int), .int .i64 (p : Int), .int .i64 (x : Int), .slice fa fn fc, .slice ia inn ic])
  have HF := Lib.hid (hF.later hsup)
  have HI := Lib.hid (hI.below hsup)
  have HN := Lib.hid hn
  have HIN := Lib.hid hin
  have HG := Lib.hid hg
  have hsz := hg.size
  have hfn : fn ≤ 22 := by have := len_szF l; simp at hsz; omega
  have hinn : inn ≤ 78 := by simp at hsz; omega
  have b1 : e ≤ 65535 := by have := hg.e; simp at this; omega
  have b2 : c ≤ 65535 := by have := hg.c; simp at this; omega
  have b3 : i < 64 ∧ p ≤ 64 := by have := hg.i; have := hg.p; simp at *; omega
  have b4 : i < 64 := b3.1
  have b5 : p ≤ 64 := b3.2
  have b6 : x ≤ 4095 := by have := hg.x; simp at this; omega
  clear hF hI hn hin hsup hg hsz b3
  go_enter Try.func21, Try.ntmps21
  go_wp2_with fail

  have HO0 : Hid (OwB (w.alloc (.cells #[.int .i64 (e : Int), .int .i64 (c : Int), .int .i64 (i : Int), .int .i64 (p : Int), .int .i64 (x : Int), .slice fa fn fc, .slice ia inn ic] 25)) (w.heap.size + 1) (some ⟨w.heap.size + 1, 0, none⟩) 2 2 (num 1 i ++ num 1 p) ((w.alloc (.cells #[.int .i64 (e : Int), .int .i64 (c : Int), .int .i64 (i : Int), .int .i64 (p : Int), .int .i64 (x : Int), .slice fa fn fc, .slice ia inn ic] 25)).alloc (.cells #[.int .u8 (i : Int), .int .u8 (p : Int)] U8))) := by
    have e1 : num 1 i ++ num 1 p = [i, p] := by rw [num_1, num_1, Nat.mod_eq_of_lt (by omega), Nat.mod_eq_of_lt (by omega)]; rfl
    have := OwB.laid (w0 := w.alloc (.cells #[.int .i64 (e : Int), .int .i64 (c : Int), .int .i64 (i : Int), .int .i64 (p : Int), .int .i64 (x : Int), .slice fa fn fc, .slice ia inn ic] 25)) [i, p] #[.int .u8 (i : Int), .int .u8 (p : Int)] rfl (fun y hy => by simp at hy; omega) (by simp)
    rw [World.size_alloc] at this
    show OwB _ _ _ _ _ _ _
    rw [e1]; exact this
  generalize (w.alloc (.cells #[.int .i64 (e : Int), .int .i64 (c : Int), .int .i64 (i : Int), .int .i64 (p : Int), .int .i64 (x : Int), .slice fa fn fc, .slice ia inn ic] 25)) = w0 at *
  refine (two_any x _ (by omega)).mono ?_
  rintro en w1 ⟨g1, rfl, hy1, -, -, hb1⟩
  have HO1 := Lib.hid (HO0.out.later hb1)
  have HY1 := Lib.hid hy1
  clear hy1 hb1 HO0
  have HC3 : Hid (∀ q, q < (num 1 fn ++ num 1 inn).length → (#[Value.int .u8 (fn : Int), .int .u8 (inn : Int)] : Array Value)[q]? = some (.int .u8 (((num 1 fn ++ num 1 inn).getD q 0 : Nat) : Int))) := by
    have e1 : num 1 fn ++ num 1 inn = [fn, inn] := by rw [num_1, num_1, Nat.mod_eq_of_lt (by omega), Nat.mod_eq_of_lt (by omega)]; rfl
    show ∀ q, _
    rw [e1]
    intro q hq
    match q, hq with
    | 0, _ => rfl
    | 1, _ => rfl
  go_wp2_with (first | (at_builtin; refine wp_put rfl (.tmp 19) (.tmp 22) rfl _ (2) 2 _ rfl HO1.out _ 2 4 (num 2 x) rfl (by simp [num_len]) HY1.out (fun h => by cases h) (by omega) ?_; intro a2 c2 w2 ho2 hg2; have HO2 := Lib.hid ho2; have d5 : w2.cell? ⟨w.heap.size, 5, none⟩ = some (.slice fa fn fc) := (HX.out.later ho2.below).cell 5; have d6 : w2.cell? ⟨w.heap.size, 6, none⟩ = some (.slice ia inn ic) := (HX.out.later ho2.below).cell 6; clear ho2 hg2) | (at_builtin; refine wp_put rfl (.tmp 24) (.tmp 33) rfl _ (4) c2 _ rfl (HO2.out.later (sup_pc w2 _)) (some ⟨w2.heap.size, 0, none⟩) 2 2 (num 1 fn ++ num 1 inn) rfl (by simp [num_len]) (Bytes.laid w2 _ _ _ _ (app_lt (num_lt _ _) (num_lt _ _)) (by simp [num_len]) HC3.out) (fun h => by cases h) (by omega) ?_; intro a3 c3 w3 ho3 hg3; have HO3 := Lib.hid ho3; clear ho3 hg3) | fail)
  refine (four_b s _ hs).mono ?_
  rintro en w4 ⟨g4, rfl, hy4, hb4⟩
  have HO4 := Lib.hid (HO3.out.later hb4)
  have HY4 := Lib.hid hy4
  clear hy4 hb4 d5 d6 HO1 HY1 HO2 HC3
  go_wp2_with (first | (at_builtin; refine wp_put rfl (.tmp 35) (.tmp 38) rfl _ (6) c3 _ rfl HO4.out _ 4 4 (num 4 s) rfl (by simp [num_len]) HY4.out (fun h => by cases h) (by omega) ?_; intro a5 c5 w5 ho5 hg5; have HO5 := Lib.hid ho5; have d5 : w5.cell? ⟨w.heap.size, 5, none⟩ = some (.slice fa fn fc) := (HX.out.later ho5.below).cell 5; clear ho5 hg5) | fail)
  obtain ⟨H, hH⟩ : ∃ H, (((num 1 i ++ num 1 p) ++ num 2 x) ++ (num 1 fn ++ num 1 inn)) ++ num 4 s = H := ⟨_, rfl⟩
  rw [hH] at HO5
  have HH := Lib.hid hH
  clear hH HO3 HO4 HY4 d5
  go_loopw [5, 43] (fun v t wr => ∃ (k : Nat) (a : Option Addr) (n cap : Nat), k ≤ fn ∧ t = .int .i64 k ∧ v = .slice a n cap ∧ n = 10 + szF (l.take k) ∧ OwB w0 (w.heap.size + 1) a n cap (H ++ (l.take k).flatMap wF) wr) (fun _ t _ => fn - (intOf t).toNat)
  case atStart => exact ⟨0, a5, 10, c5, Nat.zero_le _, rfl, rfl, rfl, by simpa using HO5.out⟩
  case round =>
    clear HO5
    obtain ⟨k, a, n, cap, hk, rfl, rfl, hnn, hO⟩ := hrel
    have HO := Lib.hid hO
    have hle := szF_take l k
    have hszl : 10 + is.length + szF l ≤ 88 := HG.out.size
    have hn88 : n ≤ 88 := by omega
    have HNn := Lib.hid hnn
    have d5 : wr.cell? ⟨w.heap.size, 5, none⟩ = some (.slice fa fn fc) := (HX.out.later hO.below).cell 5
    clear hO hle hnn
    by_cases hlt : k < fn
    · have hkl : k < l.length := by rw [← HN.out]; exact hlt
      obtain ⟨b, o, cc, cp, rfl, q1, q2, q3, q4⟩ := HF.out.at hkl
      have q1 := cell_later HO.out.below q1
      have q2 := cell_later HO.out.below q2
      have q3 := cell_later HO.out.below q3
      have hmm := szF_mem hkl
      have hmem : l.getD k fi0 ∈ l := by rw [List.getD_eq_getElem?_getD, List.getElem?_eq_getElem hkl]; exact List.getElem_mem _
      have hbf := HG.out.fs _ hmem
      have hfl := flat_snoc wF l fi0 k hkl
      have hsn : szF (l.take (k + 1)) = szF (l.take k) + (4 + 2 * (l.getD k fi0).lb.length) := by rw [take_snocF l fi0 k hkl, szF_snoc]
      have hwf : wF (l.getD k fi0) = num 1 (l.getD k fi0).ino.toNat ++ num 2 (l.getD k fi0).ver.toNat ++ num 1 (l.getD k fi0).lb.length ++ (l.getD k fi0).lb.flatMap wL := rfl
      unfold badF at hbf
      simp only [Bool.or_eq_false_iff] at hbf
      obtain ⟨⟨⟨f1, f2⟩, f3⟩, f4⟩ := hbf
      obtain ⟨f1, f1'⟩ := out_yes f1
      obtain ⟨f2, f2'⟩ := out_yes f2
      obtain ⟨f3, f3'⟩ := out_yes f3
      rw [hwf] at hfl
      have HQ := Lib.hid q4
      generalize (l.getD k fi0).ino = v1 at *
      generalize (l.getD k fi0).ver = v2 at *
      generalize (l.getD k fi0).lb = ys at *
      obtain ⟨m, hm⟩ : ∃ m, ys.length = m := ⟨_, rfl⟩
      rw [hm] at q3 hmm hfl hsn f3 f3'
      have HM := Lib.hid hm
      have HFl := Lib.hid hfl
      have HSn := Lib.hid hsn
      have HF4 := Lib.hid f4
      have hn88' : n + (4 + 2 * m) ≤ 88 := by have := HNn.out; omega
      have HFb := Lib.hid (blo_laid wr FN #[.int .i64 v1, .int .i64 v2, .slice cc m cp])
      have HO1 := Lib.hid (HO.out.later (sup_pc wr (.cells #[.int .i64 v1, .int .i64 v2, .slice cc m cp] FN)))
      have k0 : (0 : Int) ≤ (k : Int) := by omega
      have k1 : (k : Int) < (fn : Int) := by omega
      have m30 : m ≤ 30 := by omega
      clear hkl hmem hmm hwf hm hfl hsn f4 q4 HO hszl

      have HY2 : Hid (Bytes ((wr.alloc (.cells #[.int .i64 v1, .int .i64 v2, .slice cc m cp] FN)).alloc (.cells #[.int .u8 v1] U8)) (some ⟨wr.heap.size + 1, 0, none⟩) (num 1 v1.toNat)) := by
        have := bytes_one (wr.alloc (.cells #[.int .i64 v1, .int .i64 v2, .slice cc m cp] FN)) v1 (by omega) (by omega)
        rw [World.size_alloc] at this
        exact this
      have HO2 := Lib.hid (HO1.out.later (sup_pc _ (.cells #[.int .u8 v1] U8)))
      have HFb2 := Lib.hid (HFb.out.later (sup_pc _ (.cells #[.int .u8 v1] U8)))
      clear HO1 HFb
      go_wp2_with (first | (at_builtin; refine wp_put rfl (.tmp 51) (.tmp 55) rfl _ (n) cap _ rfl HO2.out _ 1 1 (num 1 v1.toNat) rfl (by simp [num_len]) HY2.out (fun h => by cases h) (by omega) ?_; intro a6 c6 w6 ho6 hg6; have HO6 := Lib.hid ho6; have HFb6 := Lib.hid (HO2.out.far HFb2.out hg6 (by decide)); have z6 : w6.cell? ⟨wr.heap.size, 1, none⟩ = some (.int .i64 v2) := HFb6.out.cell 1; clear ho6 hg6) | fail)
      refine (two_int v2 _ (by omega) (by omega)).mono ?_
      rintro en w7 ⟨g7, rfl, hy7, hb7⟩
      have HO7 := Lib.hid (HO6.out.later hb7)
      have HY7 := Lib.hid hy7
      have HFb7 := Lib.hid (HFb6.out.later hb7)
      clear hy7 hb7 z6 HO6 HFb6 HO2 HY2 HFb2
      go_wp2_with (first | (at_builtin; refine wp_put rfl (.tmp 57) (.tmp 60) rfl _ (n + 1) c6 _ rfl HO7.out _ 2 4 (num 2 v2.toNat) rfl (by simp [num_len]) HY7.out (fun h => by cases h) (by omega) ?_; intro a8 c8 w8 ho8 hg8; have HO8 := Lib.hid ho8; have HFb8 := Lib.hid (HO7.out.far HFb7.out hg8 (by decide)); have z8 : w8.cell? ⟨wr.heap.size, 2, none⟩ = some (.slice cc m cp) := HFb8.out.cell 2; have HFb8a := Lib.hid (HFb8.out.later (sup_pc w8 (.cells #[.int .u8 (m : Int)] U8))); have HO8a := Lib.hid (HO8.out.later (sup_pc w8 (.cells #[.int .u8 (m : Int)] U8))); have HY8a := Lib.hid (bytes_one w8 (m : Int) (by omega) (by omega)); clear ho8 hg8) | (at_builtin; refine wp_put rfl (.tmp 62) (.tmp 67) rfl _ (n + 1 + 2) c8 _ rfl HO8a.out _ 1 1 (num 1 (m : Int).toNat) rfl (by simp [num_len]) HY8a.out (fun h => by cases h) (by omega) ?_; intro a9 c9 w9 ho9 hg9; have HO9 := Lib.hid ho9; have HFb9 := Lib.hid (HO8a.out.far HFb8a.out hg9 (by decide)); have z9 : w9.cell? ⟨wr.heap.size, 2, none⟩ = some (.slice cc m cp) := HFb9.out.cell 2; clear ho9 hg9) | fail)
      have HXX := Lib.hid (show ((((H ++ (l.take k).flatMap wF) ++ num 1 v1.toNat) ++ num 2 v2.toNat) ++ num 1 (m : Int).toNat) ++ ys.flatMap wL = H ++ (l.take (k + 1)).flatMap wF by rw [HFl.out, Int.toNat_natCast]; simp only [List.append_assoc])
      obtain ⟨X, hX⟩ : ∃ X, (((H ++ (l.take k).flatMap wF) ++ num 1 v1.toNat) ++ num 2 v2.toNat) ++ num 1 (m : Int).toNat = X := ⟨_, rfl⟩
      rw [hX] at HO9 HXX
      have HIs : Hid (∀ y ∈ ys, -1000 ≤ y ∧ y < 600) := fun y hy => by
        have := List.any_eq_false.1 HF4.out y hy
        simp only [Bool.not_eq_true', Bool.not_eq_false] at this
        have := isB_range this
        omega
      generalize wr.heap.size = gf at *
      clear HFl hX HF4 HO7 HY7 HFb7 HFb8 HFb8a HO8a HY8a HO8 d5 q1 q2 q3 z8 z9
      go_loopw [5, 72] (fun v t wx => ∃ (j : Nat) (a' : Option Addr) (n' cap' : Nat), j ≤ m ∧ t = .int .i64 j ∧ v = .slice a' n' cap' ∧ n' = n + 4 + 2 * j ∧ OwB w0 (w.heap.size + 1) a' n' cap' (X ++ (ys.take j).flatMap wL) wx ∧ Blo wx gf FN #[.int .i64 v1, .int .i64 v2, .slice cc m cp]) (fun _ t _ => m - (intOf t).toNat)
      case atStart => exact ⟨0, a9, n + 1 + 2 + 1, c9, Nat.zero_le _, rfl, rfl, by omega, by simpa using HO9.out, HFb9.out⟩
      case round =>
        clear HO9 HFb9
        obtain ⟨j, a', n', cap', hj, rfl, rfl, hn', hO', hFb'⟩ := hrel
        have HO' := Lib.hid hO'
        have HFb' := Lib.hid hFb'
        have HN' := Lib.hid hn'
        have hnb : n' ≤ n + 4 + 2 * m := by omega
        have z2 : World.cell? _ ⟨gf, 2, none⟩ = some (.slice cc m cp) := hFb'.cell 2
        clear hO' hFb' hn'
        by_cases hlj : j < m
        · have hjl : j < ys.length := by rw [HM.out]; exact hlj
          obtain ⟨eb, eo, rfl, he⟩ := HQ.out (fun h => by rw [h] at hjl; cases hjl)
          have e0 := cell_later HO'.out.below (he j hjl)
          have hyk := flat_snoc wL ys 0 j hjl
          have hym : ys.getD j 0 ∈ ys := by rw [List.getD_eq_getElem?_getD, List.getElem?_eq_getElem hjl]; exact List.getElem_mem _
          have hyb := HIs.out _ hym
          generalize ys.getD j 0 = y at *
          have HYk := Lib.hid hyk
          obtain ⟨y0, y1⟩ := hyb
          have j0 : (0 : Int) ≤ (j : Int) := by omega
          have j1 : (j : Int) < (m : Int) := by omega
          clear hjl he hyk hym
          go_wp2_with fail
          refine (two_int (y + 1000) _ (by omega) (by omega)).mono ?_
          rintro en wb ⟨gb, rfl, hyb, hbb⟩
          have HOb := Lib.hid (HO'.out.later hbb)
          have HYb := Lib.hid hyb
          have HFbb := Lib.hid (HFb'.out.later hbb)
          clear hyb hbb e0 z2 HO' HFb'
          go_wp2_with (first | (at_builtin; refine wp_put rfl (.tmp 75) (.tmp 82) rfl _ (n') cap' _ rfl HOb.out _ 2 4 (num 2 (y + 1000).toNat) rfl (by simp [num_len]) HYb.out (fun h => by cases h) (by omega) ?_; intro a12 c12 w12 ho12 hg12; have HO12 := Lib.hid ho12; have HFb12 := Lib.hid (HOb.out.far HFbb.out hg12 (by decide)); clear ho12 hg12) | fail)
          go_roundw
          case rel => exact ⟨j + 1, a12, n' + 2, c12, by omega, by simp, rfl, by have := HN'.out; omega, by rw [HYk.out, ← List.append_assoc]; exact HO12.out, HFb12.out⟩
          case measure => simp [intOf]; omega
        · have hkn : ys.take j = ys := by rw [List.take_of_length_le]; have := HM.out; omega
          have hjm : j = m := by omega
          have HE : Hid (OwB w0 (w.heap.size + 1) a' n' cap' (H ++ (l.take (k + 1)).flatMap wF) wr) := by
            show OwB _ _ _ _ _ _ _
            rw [← HXX.out]
            have := HO'.out
            rw [hkn] at this
            exact this
          have HNN : Hid (n' = 10 + szF (l.take (k + 1))) := by
            show _ = _
            rw [HSn.out]
            have := HNn.out
            have := HN'.out
            omega
          have j1 : ¬ (j : Int) < (m : Int) := by omega
          clear hkn hjm HO' HN'
          go_wp2_with fail
          go_roundw
          case rel => exact ⟨k + 1, a', n', cap', by omega, by simp, rfl, HNN.out, HE.out⟩
          case measure => simp [intOf]; omega
    · have hkn : l.take k = l := by rw [List.take_of_length_le]; have := HN.out; omega
      rw [hkn] at HO HNn
      have k1 : ¬ (k : Int) < (fn : Int) := by omega
      have d6 : wr.cell? ⟨w.heap.size, 6, none⟩ = some (.slice ia inn ic) := (HX.out.later HO.out.below).cell 6
      obtain ⟨X, hX⟩ : ∃ X, H ++ l.flatMap wF = X := ⟨_, rfl⟩
      rw [hX] at HO
      have HXX := Lib.hid hX
      have hni : n + inn ≤ 88 := by have := HNn.out; have := HIN.out; omega
      clear hkn hX
      go_wp2_with fail
      clear d5 d6
      go_loopw [5, 89] (fun v t wx => ∃ (j : Nat) (a' : Option Addr) (n' cap' : Nat), j ≤ inn ∧ t = .int .i64 j ∧ v = .slice a' n' cap' ∧ n' = n + j ∧ OwB w0 (w.heap.size + 1) a' n' cap' (X ++ (is.take j).flatMap wI) wx) (fun _ t _ => inn - (intOf t).toNat)
      case atStart => exact ⟨0, a, n, cap, Nat.zero_le _, rfl, rfl, by omega, by simpa using HO.out⟩
      case round =>
        clear HO
        obtain ⟨j, a', n', cap', hj, rfl, rfl, hn', hO'⟩ := hrel
        have HO' := Lib.hid hO'
        have HN' := Lib.hid hn'
        have hnb : n' ≤ 88 := by omega
        have d6 : wr.cell? ⟨w.heap.size, 6, none⟩ = some (.slice ia inn ic) := (HX.out.later hO'.below).cell 6
        clear hO' hn'
        by_cases hlj : j < inn
        · have hjl : j < is.length := by rw [← HIN.out]; exact hlj
          obtain ⟨eb, eo, rfl, he⟩ := HI.out (fun h => by rw [h] at hjl; cases hjl)
          have e0 := cell_later HO'.out.below (he j hjl)
          have hyk := flat_snoc wI is 0 j hjl
          have hym : is.getD j 0 ∈ is := by rw [List.getD_eq_getElem?_getD, List.getElem?_eq_getElem hjl]; exact List.getElem_mem _
          have hyb := out_yes (HG.out.is _ hym)
          generalize is.getD j 0 = y at *
          have HYk := Lib.hid hyk
          obtain ⟨y0, y1⟩ := hyb
          have j0 : (0 : Int) ≤ (j : Int) := by omega
          have j1 : (j : Int) < (inn : Int) := by omega
          have HOb := Lib.hid (HO'.out.later (sup_pc wr (.cells #[.int .u8 y] U8)))
          have HYb := Lib.hid (bytes_one wr y (by omega) (by omega))
          have hn89 : n' + 1 ≤ 1000000 := by omega
          clear hjl he hyk hym
          go_wp2_with (first | (at_builtin; refine wp_put rfl (.tmp 92) (.tmp 99) rfl _ (n') cap' _ rfl HOb.out _ 1 1 (num 1 y.toNat) rfl (by simp [num_len]) HYb.out (fun h => by cases h) (by omega) ?_; intro a14 c14 w14 ho14 hg14; have HO14 := Lib.hid ho14; clear ho14 hg14) | fail)
          go_roundw
          case rel => exact ⟨j + 1, a14, n' + 1, c14, by omega, by simp, rfl, by have := HN'.out; omega, by rw [HYk.out, ← List.append_assoc]; exact HO14.out⟩
          case measure => simp [intOf]; omega
        · have hkn : is.take j = is := by rw [List.take_of_length_le]; have := HIN.out; omega
          have hjm : j = inn := by omega
          have HE : Hid (OwB w0 (w.heap.size + 1) a' n' cap' (wds ⟨e, c, i, p, x, l, is⟩ s) wr) := by
            show OwB _ _ _ _ _ _ _
            have := HO'.out
            rw [hkn, ← HXX.out, ← HH.out] at this
            have e1 : wds ⟨e, c, i, p, x, l, is⟩ s = ((((num 1 i ++ num 1 p) ++ num 2 x) ++ (num 1 fn ++ num 1 inn)) ++ num 4 s) ++ l.flatMap wF ++ is.flatMap wI := by
              unfold wds
              simp only [Int.toNat_natCast, ← HN.out, ← HIN.out, List.append_assoc]
            rw [e1]; exact this
          have j1 : ¬ (j : Int) < (inn : Int) := by omega
          clear hkn hjm HO' HN' HNn HXX HH d6
          have HEnc : Hid (encM ⟨e, c, i, p, x, l, is⟩ s = secs (e : Int) (c : Int) (zpad 88 (wds ⟨e, c, i, p, x, l, is⟩ s)) 8) := rfl
          generalize wds ⟨e, c, i, p, x, l, is⟩ s = W0 at *
          have HWl : Hid (W0.length = n') := by
            have := HE.out.own.1
            rw [cellsB_length] at this
            show _ = _
            omega
          go_wp2_with fail
          go_loopw [5] (fun v wx => ∃ (q : Nat) (a2 : Option Addr) (n2 cap2 : Nat), v = .slice a2 n2 cap2 ∧ n2 = n' + q ∧ n2 ≤ 88 ∧ OwB w0 (w.heap.size + 1) a2 n2 cap2 (W0 ++ List.replicate q 0) wx) (fun v _ => 88 - lenV v)
          case atStart => exact ⟨0, a', n', cap', rfl, rfl, hnb, by simpa using HE.out⟩
          case round =>
            clear HE
            obtain ⟨q, a2, n2, cap2, rfl, hn2, h88, hO2⟩ := hrel
            have HO2 := Lib.hid hO2
            have HN2 := Lib.hid hn2
            clear hO2 hn2
            by_cases hl8 : n2 < 88
            · have j2 : (n2 : Int) < 88 := by omega
              have HOb := Lib.hid (HO2.out.later (sup_pc wr (.cells #[.int .u8 0] U8)))
              have HYb := Lib.hid (bytes_one wr 0 (by omega) (by omega))
              have hn89 : n2 + 1 ≤ 1000000 := by omega
              go_wp2_with (first | (at_builtin; refine wp_put rfl (.tmp 105) (.tmp 106) rfl _ (n2) cap2 _ rfl HOb.out _ 1 1 (num 1 (0 : Int).toNat) rfl (by simp [num_len]) HYb.out (fun h => by cases h) (by omega) ?_; intro a16 c16 w16 ho16 hg16; have HO16 := Lib.hid ho16; clear ho16 hg16) | fail)
              go_roundw
              case rel => exact ⟨q + 1, a16, n2 + 1, c16, rfl, by have := HN2.out; omega, by omega, by rw [rep_one]; exact HO16.out⟩
              case measure => simp [lenV]; omega
            · obtain rfl : n2 = 88 := by omega
              have j2 : ¬ ((88 : Nat) : Int) < 88 := by omega
              obtain ⟨WW, hWW⟩ : ∃ WW, zpad 88 W0 = WW := ⟨_, rfl⟩
              have hO := HO2.out
              have e1 : W0 ++ List.replicate q 0 = WW := by rw [← hWW]; unfold zpad; congr 2; have := HN2.out; have := HWl.out; omega
              rw [e1] at hO
              rw [hWW] at HEnc
              have hlen : WW.length = 88 := by have := hO.own.1; rw [cellsB_length] at this; omega
              obtain ⟨g, hga, hcc, hBW⟩ := own_bytes hO.own hO.lt hlen (by decide)
              subst hga
              have HBW := Lib.hid hBW
              have HXz := Lib.hid (HX.out.later hO.below)
              have HBz := Lib.hid (HB.out.trans (hO.below.mono HB.out.size))
              have HLen := Lib.hid hlen
              clear hO e1 hWW hlen hBW HO2 HN2 HWl HX HB HG HF HI HN HIN hl8
              go_wp2_with fail
              generalize hwz : wr = wz at *
              clear hwz
              go_loopw [10, 11] (fun v t wx => ∃ (k : Nat) (a3 : Option Addr) (n3 cap3 : Nat), k ≤ 8 ∧ t = .int .i64 k ∧ v = .slice a3 n3 cap3 ∧ n3 = 16 * k ∧ OwB wz wz.heap.size a3 n3 cap3 (secs (e : Int) (c : Int) WW k) wx) (fun _ t _ => 8 - (intOf t).toNat)
              case atStart => exact ⟨0, none, 0, 0, Nat.zero_le _, rfl, rfl, rfl, ⟨World.ownsRow_nil _ _ _ _, (fun x hx => by cases hx), Below.refl _ _, Nat.le_refl _, Nat.le_refl _⟩⟩
              case round =>
                obtain ⟨k, a3, n3, cap3, hk, rfl, rfl, hn3, hO3⟩ := hrel
                have HO3 := Lib.hid hO3
                have HN3 := Lib.hid hn3
                by_cases hl8 : k < 8
                · have z0 : World.cell? _ ⟨w.heap.size, 0, none⟩ = some (.int .i64 (e : Int)) := (HXz.out.later hO3.below).cell 0
                  have hcut := fun W => cut_11 g k cap2 hl8 hcc W
                  have hn128 : n3 ≤ 112 := by omega
                  have j2 : (k : Int) < 8 := by omega
                  have j3 : (0 : Int) ≤ (k : Int) := by omega
                  clear hO3 hn3
                  go_wp2_with fail
                  refine (two_int (e : Int) _ (by omega) (by omega)).mono ?_
                  rintro en wb ⟨gb, rfl, hyb, hbb⟩
                  have HOb := Lib.hid (HO3.out.later hbb)
                  have HYb := Lib.hid hyb
                  clear hyb hbb z0 HO3
                  go_wp2_with (first | ((at_builtin; refine wp_put rfl (.tmp 112) (.tmp 115) rfl _ (n3) cap3 _ rfl HOb.out _ 2 4 (num 2 (e : Int).toNat) rfl (by simp [num_len]) HYb.out (fun h => by cases h) (by omega) ?_; intro a21 c21 w21 ho21 hg21; have HO21 := Lib.hid ho21; have z1 : w21.cell? ⟨w.heap.size, 1, none⟩ = some (.int .i64 (c : Int)) := (HXz.out.later ho21.below).cell 1; clear ho21 hg21)) | fail)
                  refine (two_int (c : Int) _ (by omega) (by omega)).mono ?_
                  rintro en wb2 ⟨gb2, rfl, hyb, hbb⟩
                  have HOc := Lib.hid (HO21.out.later hbb)
                  have HYc := Lib.hid hyb
                  clear hyb hbb z1 HO21 HOb HYb
                  go_wp2_with (first | ((at_builtin; refine wp_put rfl (.tmp 117) (.tmp 120) rfl _ (n3 + 2) c21 _ rfl HOc.out _ 2 4 (num 2 (c : Int).toNat) rfl (by simp [num_len]) HYc.out (fun h => by cases h) (by omega) ?_; intro a22 c22 w22 ho22 hg22; have HO22 := Lib.hid ho22; have HOd := Lib.hid (HO22.out.later (sup_pc w22 (.cells #[.int .u8 (k : Int)] U8))); have HYd := Lib.hid (bytes_one w22 (k : Int) (by omega) (by omega)); clear ho22 hg22)) | ((at_builtin; refine wp_put rfl (.tmp 122) (.tmp 125) rfl _ (n3 + 2 + 2) c22 _ rfl HOd.out _ 1 1 (num 1 (k : Int).toNat) rfl (by simp [num_len]) HYd.out (fun h => by cases h) (by omega) ?_; intro a23 c23 w23 ho23 hg23; have HO23 := Lib.hid ho23; have HYe := Lib.hid (bytes_part11 (HBW.out.below ho23.below) HLen.out k (by omega)); clear ho23 hg23)) | ((at_builtin; refine wp_put rfl (.tmp 127) (.tmp 134) rfl _ (n3 + 2 + 2 + 1) c23 _ rfl HO23.out (some ⟨g, 11 * k, none⟩) 11 (cap2 - 11 * k) ((WW.drop (11 * k)).take 11) rfl (by simp [HLen.out]; omega) HYe.out (fun h => by cases h) (by omega) ?_; intro a24 c24 w24 ho24 hg24; have HO24 := Lib.hid ho24; clear ho24 hg24)) | fail)
                  go_roundw
                  case rel => exact ⟨k + 1, a24, n3 + 2 + 2 + 1 + 11, c24, by omega, by simp, rfl, by have := HN3.out; omega, by rw [secs_app]; exact HO24.out⟩
                  case measure => simp [intOf]; omega
                · obtain rfl : k = 8 := by omega
                  obtain rfl : n3 = 128 := by omega
                  have j2 : ¬ ((8 : Nat) : Int) < 8 := by omega
                  have hl := hO3.own.1
                  rw [cellsB_length] at hl
                  obtain ⟨g3, hg3, -, hB3⟩ := own_bytes hO3.own hO3.lt (by omega) (by decide)
                  subst hg3
                  have HB3 := Lib.hid hB3
                  have HE := Lib.hid (HBz.out.trans (hO3.below.mono HBz.out.size))
                  clear hO3 hn3 hl hB3 HO3 HN3 hl8
                  go_wp2
                  go_ret
                  exact ⟨_, _, rfl, by (rw [HEnc.out]; exact HB3.out), HE.out⟩
end Go.Proofs.Ytkdjfhbdcfjnnaa
