/-
  SwRPut · SwREnc · SwRDf · LaterInv · LaterKit · SwRDt · SgDWr · SgDWy: these texts in one.
-/
import Derived.Test.YtlkgaefabahkoaaDoorPk18
import Derived.Test.YtlkgaefabahkoaaDoorPk03
import Derived.Test.YtlkgaefabahkoaaDoorPk06
import Derived.BigRegion
import Derived.Deep.CutBlock
import Derived.Deep.DeepCutAuto
import Derived.Laws.Rows
import Derived.Test.YtlkgaefabahkoaaDoorPk01
import Derived.BigQuiet
import Derived.Test.YtlkgaefabahkoaaDoorPk17
/-
  A row of bytes that grows by appends, wherever it lies: what stands behind each of them.
-/
namespace Go.Proofs.YtlkgaefabahkoaaDoor
open Go.RowKit

structure OwB (w0 : World) (base : Nat) (a : Option Addr) (n cap : Nat) (xs : List Nat) (wr : World) : Prop where
  own : wr.ownsRow base U8 1 (.slice a n cap) n (cellsB xs)
  lt : ∀ x ∈ xs, x < 256
  below : Below w0.heap.size w0 wr
  low : w0.heap.size ≤ base
  size : base ≤ wr.heap.size
theorem OwB.later {w0 wr w' : World} {base n cap : Nat} {a : Option Addr} {xs : List Nat} (h : OwB w0 base a n cap xs wr) (hb : Below wr.heap.size wr w') : OwB w0 base a n cap xs w' :=
  ⟨own_later h.own hb, h.lt, h.below.trans (hb.mono h.below.size), h.low, Nat.le_trans h.size hb.size⟩
theorem OwB.laid {w0 : World} (l : List Nat) (C : Array Value) (hC : C = (cellsB l).toArray) (hl : ∀ x ∈ l, x < 256) (hm : l.length ≤ 1000) : OwB w0 w0.heap.size (some ⟨w0.heap.size, 0, none⟩) l.length l.length l (w0.alloc (.cells C U8)) := by
  subst hC
  have hb := blo_laid w0 U8 (cellsB l).toArray
  unfold Blo at hb
  exact ⟨⟨by simp [cellsB_length], .inr ⟨w0.heap.size, l.length, (cellsB l).toArray, rfl, Nat.le_refl _, hb, (by simp), (by unfold maxLen; omega), by simp [cellsB_length], by rw [Nat.mul_one]; exact List.take_of_length_le (Nat.le_of_eq (cellsB_length l))⟩⟩, hl, sup_pc _ _, Nat.le_refl _, by simp⟩
theorem OwB.far {w0 wr w' : World} {base n cap s : Nat} {a : Option Addr} {xs : List Nat} {t : TypeId} {cs : Array Value} (h : OwB w0 base a n cap xs wr) (hB : Blo wr s t cs) (hg : wr.grownBy w' (Value.slice a n cap).ownBlock) (hne : U8 ≠ t) : Blo w' s t cs :=
  hB.grown hg (hB.row_apart h.own hne)
theorem wp_put {w : World} {ops : Array Oper} {rest : List Oper} {o : Oper} {act : Act} {Q : Exit → Act → World → Prop} (hgd : o.guard = none) (s x : Operand)
    (ho : o.op = .call { callee := .builtin .append, args := #[s, x], argTypes := #[49, 49] })
    {w0 : World} {base : Nat} (a0 : Option Addr) (n c0 : Nat) (xs : List Nat) (hs : act.eval s = .slice a0 n c0) (hO : OwB w0 base a0 n c0 xs w)
    (a : Option Addr) (m cap : Nat) (l : List Nat) (hx : act.eval x = .slice a m cap) (hm : m = l.length) (hl : Bytes w a l) (ha : a = none → l = [] ∧ cap = 0) (hroom : n + m ≤ 1000000)
    (h : ∀ a' cap' w', OwB w0 base a' (n + m) cap' (xs ++ l) w' → w.grownBy w' (Value.slice a0 n c0).ownBlock → wpList Tryd.prog ops Q rest (act.put o.dst (.slice a' (n + m) cap')) w') : wpList Tryd.prog ops Q (o :: rest) act w := by
  refine wp_append_bytes hgd s x 49 ho base U8 Tryd.underlying49 info_u8f _ n xs hs hO.own hO.lt a m cap l hx hm hl ha (by omega) hO.size ?_
  intro a' cap' w' hown hg _ _
  refine h a' cap' w' ⟨hown, app_lt hO.lt hl.1, hO.below.grown hg hO.below.size (fun k hk => Nat.le_trans hO.low (hO.own.lt k hk).1), hO.low, Nat.le_trans hO.size hg.size⟩ hg
theorem four_b (n : Nat) (w : World) (hn : n < 4294967296) :
    Calls Tryd.prog 89 #[.int .i64 n] w fun e w' => ∃ g, e = .returned (.slice (some ⟨g, 0, none⟩) 4 4) ∧ Bytes w' (some ⟨g, 0, none⟩) (num 4 n) ∧ Below w.heap.size w w' := by
  refine (four_any n w hn).mono ?_
  rintro e w' ⟨rfl, rfl⟩
  exact ⟨w.heap.size, rfl, Bytes.laid w (num 4 n) _ _ _ (num_lt _ _) (by simp [num_len]) (fun q hq => by rw [← Array.getElem?_toList]; exact cellsB_get _ _ hq), sup_pc _ _⟩
theorem two_int (v : Int) (w : World) (h0 : 0 ≤ v) (hn : v < 4294967296) :
    Calls Tryd.prog 88 #[.int .i64 v] w fun e w' => ∃ g, e = .returned (.slice (some ⟨g, 0, none⟩) 2 4) ∧ Bytes w' (some ⟨g, 0, none⟩) (num 2 v.toNat) ∧ Below w.heap.size w w' := by
  obtain ⟨u, rfl⟩ : ∃ u : Nat, v = u := ⟨v.toNat, by omega⟩
  refine (two_any u w (by omega)).mono ?_
  rintro e w' ⟨g, h1, h2, -, -, h5⟩
  exact ⟨g, h1, h2, h5⟩
/-- A row of one byte that was just laid. -/
theorem bytes_oner (w : World) (v : Int) (h0 : 0 ≤ v) (h1 : v < 256) : Bytes (w.alloc (.cells #[.int .u8 v] U8)) (some ⟨w.heap.size, 0, none⟩) (num 1 v.toNat) := by
  obtain ⟨u, rfl⟩ : ∃ u : Nat, v = u := ⟨v.toNat, by omega⟩
  refine Bytes.laid w _ _ _ _ (num_lt _ _) (by simp [num_len]) (fun q hq => ?_)
  rw [num_len] at hq
  obtain rfl : q = 0 := by omega
  rw [Int.toNat_natCast, num_1, Nat.mod_eq_of_lt (by omega)]
  rfl
end Go.Proofs.YtlkgaefabahkoaaDoor
/-
  The document's Encode of a good summary.
-/
namespace Go.Proofs.YtlkgaefabahkoaaDoor
open Go.RowKit

theorem rep_one (W0 : List Nat) (q : Nat) : W0 ++ List.replicate (q + 1) 0 = (W0 ++ List.replicate q 0) ++ num 1 (0 : Int).toNat := by
  rw [List.replicate_succ', ← List.append_assoc]; rfl
theorem secs_app (e c k : Nat) (WW : List Nat) : secs (e : Int) (c : Int) WW (k + 1) = (((secs (e : Int) (c : Int) WW k ++ num 2 (e : Int).toNat) ++ num 2 (c : Int).toNat) ++ num 1 (k : Int).toNat) ++ (WW.drop (11 * k)).take 11 := by
  rw [secs_succ]
  unfold secM
  simp only [← List.append_assoc, Int.toNat_natCast]
theorem cut_11 (g k cap : Nat) (hk : k < 8) (hc : 88 ≤ cap) (W : World) :
    (Instr.slice 49 (.slice (some ⟨g, 0, none⟩) 88 cap) (some (.int .i64 (11 * (k : Int)))) (some (.int .i64 (11 * (k : Int) + 11))) none).run Tryd.prog W = .ok (.slice (some ⟨g, 11 * k, none⟩) 11 (cap - 11 * k)) W := by
  have ht' : Tryd.prog.underlying 49 = some (.slice (Tryd.prog.elem 49)) := by simp [Program.elem, Tryd.underlying49]
  have he : Tryd.prog.elem 49 = 5 := by simp [Program.elem, Tryd.underlying49]
  rw [run_slice_lh W 49 _ _ _ ht' .i64 .i64 _ _ (by omega) (by omega) (by omega), he, size_u8f]
  have e1 : (11 * (k : Int)).toNat = 11 * k := by omega
  have e2 : (11 * (k : Int) + 11).toNat = 11 * k + 11 := by omega
  have e3 : ¬ (cap - 11 * k = 0) := by omega
  simp [Result.andThen, sliced, Addr.add_lit, e1, e2, e3]
  omega
theorem bytes_part11 {W : World} {g : Nat} {WW : List Nat} (h : Bytes W (some ⟨g, 0, none⟩) WW) (hl : WW.length = 88) (k : Nat) (hk : k < 8) : Bytes W (some ⟨g, 11 * k, none⟩) ((WW.drop (11 * k)).take 11) := by
  obtain ⟨b, o, ha, hc⟩ := h.2.2 (fun e => by rw [e] at hl; cases hl)
  cases ha
  refine ⟨fun x hx => h.1 x (List.mem_of_mem_drop (List.mem_of_mem_take hx)), by simp only [List.length_take]; omega, fun _ => ⟨g, 11 * k, rfl, fun i hi => ?_⟩⟩
  simp only [List.length_take, List.length_drop] at hi
  have := hc (11 * k + i) (by omega)
  rw [Nat.zero_add] at this
  rw [this]
  simp [List.getD_eq_getElem?_getD, List.getElem?_take_of_lt (show i < 11 by omega)]
def REnc (w : World) (b : List Nat) (e : Ending) (w' : World) : Prop := ∃ a' cap', e = .returned (.slice a' 128 cap') ∧ Bytes w' a' b ∧ Below w.heap.size w w'
def lenV : Value → Nat
  | .slice _ n _ => n
  | _ => 0
theorem own_bytes {W : World} {base n cap : Nat} {a : Option Addr} {xs : List Nat} (h : W.ownsRow base U8 1 (.slice a n cap) n (cellsB xs)) (hl : ∀ x ∈ xs, x < 256) (hn : xs.length = n) (h0 : 0 < n) (h9 : n ≤ 1000000 := by omega) : ∃ g, a = some ⟨g, 0, none⟩ ∧ n ≤ cap ∧ Bytes W (some ⟨g, 0, none⟩) xs := by
  rcases id h.2 with ⟨h1, h2⟩ | ⟨g, c, cur, h1, _, _, h4, _⟩
  · omega
  · cases h1
    refine ⟨g, rfl, h4, hl, by omega, fun _ => ⟨g, 0, rfl, fun i hi => ?_⟩⟩
    rw [Nat.zero_add, h.cellAt i (by omega), cellsB_get xs i hi]

set_option maxRecDepth 20000 in
set_option maxHeartbeats 8000000 in
theorem rencode_raw {w : World} (e c i p x s : Nat) (l : List Fi) (is : List Int) (fa : Option Addr) (fn fc : Nat) (ia : Option Addr) (inn ic : Nat) (hg : Good ⟨e, c, i, p, x, l, is⟩) (hF : Fis w fa l) (hn : fn = l.length) (hI : Ints w ia is) (hin : inn = is.length) (hs : s < 4294967296) :
    Calls Tryd.prog 57 #[part e c i p x fa fn fc ia inn ic, .int .u32 s] w (REnc w (encM ⟨e, c, i, p, x, l, is⟩ s)) := by
  have hsup := sup_pc w (.cells #[.int .i64 (e : Int), .int .i64 (c : Int), .int .i64 (i : Int), .int .i64 (p : Int), .int .i64 (x : Int), .slice fa fn fc, .slice ia inn ic] 36)
  have HB := Lib.hid hsup
  have HX := Lib.hid (blo_laid w 36 #[.int .i64 (e : Int), .int .i64 (c : Int), .int .i64 (i : Int), .int .i64 (p : Int), .int .i64 (x : Int), .slice fa fn fc, .slice ia inn ic])
  have HF := Lib.hid (hF.later hsup)
  have HI := Lib.hid (hI.below hsup)
  have HN := Lib.hid hn
  have HIN := Lib.hid hin
  have HG := Lib.hid hg
  have hsz := hg.size
  have hfn : fn ≤ 22 := by have := len_szF l; simp at hsz; omega
  have hinn : inn ≤ 78 := by simp at hsz; omega
  have b1 : e ≤ 65535 := by have := hg.e; simp at this; omega
  have b2 : c ≤ 65535 := by have := hg.c; simp at this; omega
  have b3 : i < 64 ∧ p ≤ 64 := by have := hg.i; have := hg.p; simp at *; omega
  have b4 : i < 64 := b3.1
  have b5 : p ≤ 64 := b3.2
  have b6 : x ≤ 4095 := by have := hg.x; simp at this; omega
  clear hF hI hn hin hsup hg hsz b3
  go_enter Tryd.func57, Tryd.ntmps57
  go_wp2_with fail

  have HO0 : Hid (OwB (w.alloc (.cells #[.int .i64 (e : Int), .int .i64 (c : Int), .int .i64 (i : Int), .int .i64 (p : Int), .int .i64 (x : Int), .slice fa fn fc, .slice ia inn ic] 36)) (w.heap.size + 1) (some ⟨w.heap.size + 1, 0, none⟩) 2 2 (num 1 i ++ num 1 p) ((w.alloc (.cells #[.int .i64 (e : Int), .int .i64 (c : Int), .int .i64 (i : Int), .int .i64 (p : Int), .int .i64 (x : Int), .slice fa fn fc, .slice ia inn ic] 36)).alloc (.cells #[.int .u8 (i : Int), .int .u8 (p : Int)] U8))) := by
    have e1 : num 1 i ++ num 1 p = [i, p] := by rw [num_1, num_1, Nat.mod_eq_of_lt (by omega), Nat.mod_eq_of_lt (by omega)]; rfl
    have := OwB.laid (w0 := w.alloc (.cells #[.int .i64 (e : Int), .int .i64 (c : Int), .int .i64 (i : Int), .int .i64 (p : Int), .int .i64 (x : Int), .slice fa fn fc, .slice ia inn ic] 36)) [i, p] #[.int .u8 (i : Int), .int .u8 (p : Int)] rfl (fun y hy => by simp at hy; omega) (by simp)
    rw [World.size_alloc] at this
    show OwB _ _ _ _ _ _ _
    rw [e1]; exact this
  generalize (w.alloc (.cells #[.int .i64 (e : Int), .int .i64 (c : Int), .int .i64 (i : Int), .int .i64 (p : Int), .int .i64 (x : Int), .slice fa fn fc, .slice ia inn ic] 36)) = w0 at *
  refine (two_any x _ (by omega)).mono ?_
  rintro en w1 ⟨g1, rfl, hy1, -, -, hb1⟩
  have HO1 := Lib.hid (HO0.out.later hb1)
  have HY1 := Lib.hid hy1
  clear hy1 hb1 HO0
  have HC3 : Hid (∀ q, q < (num 1 fn ++ num 1 inn).length → (#[Value.int .u8 (fn : Int), .int .u8 (inn : Int)] : Array Value)[q]? = some (.int .u8 (((num 1 fn ++ num 1 inn).getD q 0 : Nat) : Int))) := by
    have e1 : num 1 fn ++ num 1 inn = [fn, inn] := by rw [num_1, num_1, Nat.mod_eq_of_lt (by omega), Nat.mod_eq_of_lt (by omega)]; rfl
    show ∀ q, _
    rw [e1]
    intro q hq
    match q, hq with
    | 0, _ => rfl
    | 1, _ => rfl
  go_wp2_with (first | (at_builtin; refine wp_put rfl (.tmp 19) (.tmp 22) rfl _ (2) 2 _ rfl HO1.out _ 2 4 (num 2 x) rfl (by simp [num_len]) HY1.out (fun h => by cases h) (by omega) ?_; intro a2 c2 w2 ho2 hg2; have HO2 := Lib.hid ho2; have d5 : w2.cell? ⟨w.heap.size, 5, none⟩ = some (.slice fa fn fc) := (HX.out.later ho2.below).cell 5; have d6 : w2.cell? ⟨w.heap.size, 6, none⟩ = some (.slice ia inn ic) := (HX.out.later ho2.below).cell 6; clear ho2 hg2) | (at_builtin; refine wp_put rfl (.tmp 24) (.tmp 33) rfl _ (4) c2 _ rfl (HO2.out.later (sup_pc w2 _)) (some ⟨w2.heap.size, 0, none⟩) 2 2 (num 1 fn ++ num 1 inn) rfl (by simp [num_len]) (Bytes.laid w2 _ _ _ _ (app_lt (num_lt _ _) (num_lt _ _)) (by simp [num_len]) HC3.out) (fun h => by cases h) (by omega) ?_; intro a3 c3 w3 ho3 hg3; have HO3 := Lib.hid ho3; clear ho3 hg3) | fail)
  refine (four_b s _ hs).mono ?_
  rintro en w4 ⟨g4, rfl, hy4, hb4⟩
  have HO4 := Lib.hid (HO3.out.later hb4)
  have HY4 := Lib.hid hy4
  clear hy4 hb4 d5 d6 HO1 HY1 HO2 HC3
  go_wp2_with (first | (at_builtin; refine wp_put rfl (.tmp 35) (.tmp 38) rfl _ (6) c3 _ rfl HO4.out _ 4 4 (num 4 s) rfl (by simp [num_len]) HY4.out (fun h => by cases h) (by omega) ?_; intro a5 c5 w5 ho5 hg5; have HO5 := Lib.hid ho5; have d5 : w5.cell? ⟨w.heap.size, 5, none⟩ = some (.slice fa fn fc) := (HX.out.later ho5.below).cell 5; clear ho5 hg5) | fail)
  obtain ⟨H, hH⟩ : ∃ H, (((num 1 i ++ num 1 p) ++ num 2 x) ++ (num 1 fn ++ num 1 inn)) ++ num 4 s = H := ⟨_, rfl⟩
  rw [hH] at HO5
  have HH := Lib.hid hH
  clear hH HO3 HO4 HY4 d5
  go_loopw [5, 43] (fun v t wr => ∃ (k : Nat) (a : Option Addr) (n cap : Nat), k ≤ fn ∧ t = .int .i64 k ∧ v = .slice a n cap ∧ n = 10 + szF (l.take k) ∧ OwB w0 (w.heap.size + 1) a n cap (H ++ (l.take k).flatMap wF) wr) (fun _ t _ => fn - (intOf t).toNat)
  case atStart => exact ⟨0, a5, 10, c5, Nat.zero_le _, rfl, rfl, rfl, by simpa using HO5.out⟩
  case round =>
    clear HO5
    obtain ⟨k, a, n, cap, hk, rfl, rfl, hnn, hO⟩ := hrel
    have HO := Lib.hid hO
    have hle := szF_take l k
    have hszl : 10 + is.length + szF l ≤ 88 := HG.out.size
    have hn88 : n ≤ 88 := by omega
    have HNn := Lib.hid hnn
    have d5 : wr.cell? ⟨w.heap.size, 5, none⟩ = some (.slice fa fn fc) := (HX.out.later hO.below).cell 5
    clear hO hle hnn
    by_cases hlt : k < fn
    · have hkl : k < l.length := by rw [← HN.out]; exact hlt
      obtain ⟨b, o, cc, cp, rfl, q1, q2, q3, q4⟩ := HF.out.at hkl
      have q1 := cell_later HO.out.below q1
      have q2 := cell_later HO.out.below q2
      have q3 := cell_later HO.out.below q3
      have hmm := szF_mem hkl
      have hmem : l.getD k fi0 ∈ l := by rw [List.getD_eq_getElem?_getD, List.getElem?_eq_getElem hkl]; exact List.getElem_mem _
      have hbf := HG.out.fs _ hmem
      have hfl := flat_snoc wF l fi0 k hkl
      have hsn : szF (l.take (k + 1)) = szF (l.take k) + (4 + 2 * (l.getD k fi0).lb.length) := by rw [take_snocF l fi0 k hkl, szF_snoc]
      have hwf : wF (l.getD k fi0) = num 1 (l.getD k fi0).ino.toNat ++ num 2 (l.getD k fi0).ver.toNat ++ num 1 (l.getD k fi0).lb.length ++ (l.getD k fi0).lb.flatMap wL := rfl
      unfold badF at hbf
      simp only [Bool.or_eq_false_iff] at hbf
      obtain ⟨⟨⟨f1, f2⟩, f3⟩, f4⟩ := hbf
      obtain ⟨f1, f1'⟩ := out_yes f1
      obtain ⟨f2, f2'⟩ := out_yes f2
      obtain ⟨f3, f3'⟩ := out_yes f3
      rw [hwf] at hfl
      have HQ := Lib.hid q4
      generalize (l.getD k fi0).ino = v1 at *
      generalize (l.getD k fi0).ver = v2 at *
      generalize (l.getD k fi0).lb = ys at *
      obtain ⟨m, hm⟩ : ∃ m, ys.length = m := ⟨_, rfl⟩
      rw [hm] at q3 hmm hfl hsn f3 f3'
      have HM := Lib.hid hm
      have HFl := Lib.hid hfl
      have HSn := Lib.hid hsn
      have HF4 := Lib.hid f4
      have hn88' : n + (4 + 2 * m) ≤ 88 := by have := HNn.out; omega
      have HFb := Lib.hid (blo_laid wr FN #[.int .i64 v1, .int .i64 v2, .slice cc m cp])
      have HO1 := Lib.hid (HO.out.later (sup_pc wr (.cells #[.int .i64 v1, .int .i64 v2, .slice cc m cp] FN)))
      have k0 : (0 : Int) ≤ (k : Int) := by omega
      have k1 : (k : Int) < (fn : Int) := by omega
      have m30 : m ≤ 30 := by omega
      clear hkl hmem hmm hwf hm hfl hsn f4 q4 HO hszl

      have HY2 : Hid (Bytes ((wr.alloc (.cells #[.int .i64 v1, .int .i64 v2, .slice cc m cp] FN)).alloc (.cells #[.int .u8 v1] U8)) (some ⟨wr.heap.size + 1, 0, none⟩) (num 1 v1.toNat)) := by
        have := bytes_oner (wr.alloc (.cells #[.int .i64 v1, .int .i64 v2, .slice cc m cp] FN)) v1 (by omega) (by omega)
        rw [World.size_alloc] at this
        exact this
      have HO2 := Lib.hid (HO1.out.later (sup_pc _ (.cells #[.int .u8 v1] U8)))
      have HFb2 := Lib.hid (HFb.out.later (sup_pc _ (.cells #[.int .u8 v1] U8)))
      clear HO1 HFb
      go_wp2_with (first | (at_builtin; refine wp_put rfl (.tmp 51) (.tmp 55) rfl _ (n) cap _ rfl HO2.out _ 1 1 (num 1 v1.toNat) rfl (by simp [num_len]) HY2.out (fun h => by cases h) (by omega) ?_; intro a6 c6 w6 ho6 hg6; have HO6 := Lib.hid ho6; have HFb6 := Lib.hid (HO2.out.far HFb2.out hg6 (by decide)); have z6 : w6.cell? ⟨wr.heap.size, 1, none⟩ = some (.int .i64 v2) := HFb6.out.cell 1; clear ho6 hg6) | fail)
      refine (two_int v2 _ (by omega) (by omega)).mono ?_
      rintro en w7 ⟨g7, rfl, hy7, hb7⟩
      have HO7 := Lib.hid (HO6.out.later hb7)
      have HY7 := Lib.hid hy7
      have HFb7 := Lib.hid (HFb6.out.later hb7)
      clear hy7 hb7 z6 HO6 HFb6 HO2 HY2 HFb2
      go_wp2_with (first | (at_builtin; refine wp_put rfl (.tmp 57) (.tmp 60) rfl _ (n + 1) c6 _ rfl HO7.out _ 2 4 (num 2 v2.toNat) rfl (by simp [num_len]) HY7.out (fun h => by cases h) (by omega) ?_; intro a8 c8 w8 ho8 hg8; have HO8 := Lib.hid ho8; have HFb8 := Lib.hid (HO7.out.far HFb7.out hg8 (by decide)); have z8 : w8.cell? ⟨wr.heap.size, 2, none⟩ = some (.slice cc m cp) := HFb8.out.cell 2; have HFb8a := Lib.hid (HFb8.out.later (sup_pc w8 (.cells #[.int .u8 (m : Int)] U8))); have HO8a := Lib.hid (HO8.out.later (sup_pc w8 (.cells #[.int .u8 (m : Int)] U8))); have HY8a := Lib.hid (bytes_oner w8 (m : Int) (by omega) (by omega)); clear ho8 hg8) | (at_builtin; refine wp_put rfl (.tmp 62) (.tmp 67) rfl _ (n + 1 + 2) c8 _ rfl HO8a.out _ 1 1 (num 1 (m : Int).toNat) rfl (by simp [num_len]) HY8a.out (fun h => by cases h) (by omega) ?_; intro a9 c9 w9 ho9 hg9; have HO9 := Lib.hid ho9; have HFb9 := Lib.hid (HO8a.out.far HFb8a.out hg9 (by decide)); have z9 : w9.cell? ⟨wr.heap.size, 2, none⟩ = some (.slice cc m cp) := HFb9.out.cell 2; clear ho9 hg9) | fail)
      have HXX := Lib.hid (show ((((H ++ (l.take k).flatMap wF) ++ num 1 v1.toNat) ++ num 2 v2.toNat) ++ num 1 (m : Int).toNat) ++ ys.flatMap wL = H ++ (l.take (k + 1)).flatMap wF by rw [HFl.out, Int.toNat_natCast]; simp only [List.append_assoc])
      obtain ⟨X, hX⟩ : ∃ X, (((H ++ (l.take k).flatMap wF) ++ num 1 v1.toNat) ++ num 2 v2.toNat) ++ num 1 (m : Int).toNat = X := ⟨_, rfl⟩
      rw [hX] at HO9 HXX
      have HIs : Hid (∀ y ∈ ys, -1000 ≤ y ∧ y < 600) := fun y hy => by
        have := List.any_eq_false.1 HF4.out y hy
        simp only [Bool.not_eq_true', Bool.not_eq_false] at this
        have := isB_range this
        omega
      generalize wr.heap.size = gf at *
      clear HFl hX HF4 HO7 HY7 HFb7 HFb8 HFb8a HO8a HY8a HO8 d5 q1 q2 q3 z8 z9
      go_loopw [5, 72] (fun v t wx => ∃ (j : Nat) (a' : Option Addr) (n' cap' : Nat), j ≤ m ∧ t = .int .i64 j ∧ v = .slice a' n' cap' ∧ n' = n + 4 + 2 * j ∧ OwB w0 (w.heap.size + 1) a' n' cap' (X ++ (ys.take j).flatMap wL) wx ∧ Blo wx gf FN #[.int .i64 v1, .int .i64 v2, .slice cc m cp]) (fun _ t _ => m - (intOf t).toNat)
      case atStart => exact ⟨0, a9, n + 1 + 2 + 1, c9, Nat.zero_le _, rfl, rfl, by omega, by simpa using HO9.out, HFb9.out⟩
      case round =>
        clear HO9 HFb9
        obtain ⟨j, a', n', cap', hj, rfl, rfl, hn', hO', hFb'⟩ := hrel
        have HO' := Lib.hid hO'
        have HFb' := Lib.hid hFb'
        have HN' := Lib.hid hn'
        have hnb : n' ≤ n + 4 + 2 * m := by omega
        have z2 : World.cell? _ ⟨gf, 2, none⟩ = some (.slice cc m cp) := hFb'.cell 2
        clear hO' hFb' hn'
        by_cases hlj : j < m
        · have hjl : j < ys.length := by rw [HM.out]; exact hlj
          obtain ⟨eb, eo, rfl, he⟩ := HQ.out (fun h => by rw [h] at hjl; cases hjl)
          have e0 := cell_later HO'.out.below (he j hjl)
          have hyk := flat_snoc wL ys 0 j hjl
          have hym : ys.getD j 0 ∈ ys := by rw [List.getD_eq_getElem?_getD, List.getElem?_eq_getElem hjl]; exact List.getElem_mem _
          have hyb := HIs.out _ hym
          generalize ys.getD j 0 = y at *
          have HYk := Lib.hid hyk
          obtain ⟨y0, y1⟩ := hyb
          have j0 : (0 : Int) ≤ (j : Int) := by omega
          have j1 : (j : Int) < (m : Int) := by omega
          clear hjl he hyk hym
          go_wp2_with fail
          refine (two_int (y + 1000) _ (by omega) (by omega)).mono ?_
          rintro en wb ⟨gb, rfl, hyb, hbb⟩
          have HOb := Lib.hid (HO'.out.later hbb)
          have HYb := Lib.hid hyb
          have HFbb := Lib.hid (HFb'.out.later hbb)
          clear hyb hbb e0 z2 HO' HFb'
          go_wp2_with (first | (at_builtin; refine wp_put rfl (.tmp 75) (.tmp 82) rfl _ (n') cap' _ rfl HOb.out _ 2 4 (num 2 (y + 1000).toNat) rfl (by simp [num_len]) HYb.out (fun h => by cases h) (by omega) ?_; intro a12 c12 w12 ho12 hg12; have HO12 := Lib.hid ho12; have HFb12 := Lib.hid (HOb.out.far HFbb.out hg12 (by decide)); clear ho12 hg12) | fail)
          go_roundw
          case rel => exact ⟨j + 1, a12, n' + 2, c12, by omega, by simp, rfl, by have := HN'.out; omega, by rw [HYk.out, ← List.append_assoc]; exact HO12.out, HFb12.out⟩
          case measure => simp [intOf]; omega
        · have hkn : ys.take j = ys := by rw [List.take_of_length_le]; have := HM.out; omega
          have hjm : j = m := by omega
          have HE : Hid (OwB w0 (w.heap.size + 1) a' n' cap' (H ++ (l.take (k + 1)).flatMap wF) wr) := by
            show OwB _ _ _ _ _ _ _
            rw [← HXX.out]
            have := HO'.out
            rw [hkn] at this
            exact this
          have HNN : Hid (n' = 10 + szF (l.take (k + 1))) := by
            show _ = _
            rw [HSn.out]
            have := HNn.out
            have := HN'.out
            omega
          have j1 : ¬ (j : Int) < (m : Int) := by omega
          clear hkn hjm HO' HN'
          go_wp2_with fail
          go_roundw
          case rel => exact ⟨k + 1, a', n', cap', by omega, by simp, rfl, HNN.out, HE.out⟩
          case measure => simp [intOf]; omega
    · have hkn : l.take k = l := by rw [List.take_of_length_le]; have := HN.out; omega
      rw [hkn] at HO HNn
      have k1 : ¬ (k : Int) < (fn : Int) := by omega
      have d6 : wr.cell? ⟨w.heap.size, 6, none⟩ = some (.slice ia inn ic) := (HX.out.later HO.out.below).cell 6
      obtain ⟨X, hX⟩ : ∃ X, H ++ l.flatMap wF = X := ⟨_, rfl⟩
      rw [hX] at HO
      have HXX := Lib.hid hX
      have hni : n + inn ≤ 88 := by have := HNn.out; have := HIN.out; omega
      clear hkn hX
      go_wp2_with fail
      clear d5 d6
      go_loopw [5, 89] (fun v t wx => ∃ (j : Nat) (a' : Option Addr) (n' cap' : Nat), j ≤ inn ∧ t = .int .i64 j ∧ v = .slice a' n' cap' ∧ n' = n + j ∧ OwB w0 (w.heap.size + 1) a' n' cap' (X ++ (is.take j).flatMap wI) wx) (fun _ t _ => inn - (intOf t).toNat)
      case atStart => exact ⟨0, a, n, cap, Nat.zero_le _, rfl, rfl, by omega, by simpa using HO.out⟩
      case round =>
        clear HO
        obtain ⟨j, a', n', cap', hj, rfl, rfl, hn', hO'⟩ := hrel
        have HO' := Lib.hid hO'
        have HN' := Lib.hid hn'
        have hnb : n' ≤ 88 := by omega
        have d6 : wr.cell? ⟨w.heap.size, 6, none⟩ = some (.slice ia inn ic) := (HX.out.later hO'.below).cell 6
        clear hO' hn'
        by_cases hlj : j < inn
        · have hjl : j < is.length := by rw [← HIN.out]; exact hlj
          obtain ⟨eb, eo, rfl, he⟩ := HI.out (fun h => by rw [h] at hjl; cases hjl)
          have e0 := cell_later HO'.out.below (he j hjl)
          have hyk := flat_snoc wI is 0 j hjl
          have hym : is.getD j 0 ∈ is := by rw [List.getD_eq_getElem?_getD, List.getElem?_eq_getElem hjl]; exact List.getElem_mem _
          have hyb := out_yes (HG.out.is _ hym)
          generalize is.getD j 0 = y at *
          have HYk := Lib.hid hyk
          obtain ⟨y0, y1⟩ := hyb
          have j0 : (0 : Int) ≤ (j : Int) := by omega
          have j1 : (j : Int) < (inn : Int) := by omega
          have HOb := Lib.hid (HO'.out.later (sup_pc wr (.cells #[.int .u8 y] U8)))
          have HYb := Lib.hid (bytes_oner wr y (by omega) (by omega))
          have hn89 : n' + 1 ≤ 1000000 := by omega
          clear hjl he hyk hym
          go_wp2_with (first | (at_builtin; refine wp_put rfl (.tmp 92) (.tmp 99) rfl _ (n') cap' _ rfl HOb.out _ 1 1 (num 1 y.toNat) rfl (by simp [num_len]) HYb.out (fun h => by cases h) (by omega) ?_; intro a14 c14 w14 ho14 hg14; have HO14 := Lib.hid ho14; clear ho14 hg14) | fail)
          go_roundw
          case rel => exact ⟨j + 1, a14, n' + 1, c14, by omega, by simp, rfl, by have := HN'.out; omega, by rw [HYk.out, ← List.append_assoc]; exact HO14.out⟩
          case measure => simp [intOf]; omega
        · have hkn : is.take j = is := by rw [List.take_of_length_le]; have := HIN.out; omega
          have hjm : j = inn := by omega
          have HE : Hid (OwB w0 (w.heap.size + 1) a' n' cap' (wds ⟨e, c, i, p, x, l, is⟩ s) wr) := by
            show OwB _ _ _ _ _ _ _
            have := HO'.out
            rw [hkn, ← HXX.out, ← HH.out] at this
            have e1 : wds ⟨e, c, i, p, x, l, is⟩ s = ((((num 1 i ++ num 1 p) ++ num 2 x) ++ (num 1 fn ++ num 1 inn)) ++ num 4 s) ++ l.flatMap wF ++ is.flatMap wI := by
              unfold wds
              simp only [Int.toNat_natCast, ← HN.out, ← HIN.out, List.append_assoc]
            rw [e1]; exact this
          have j1 : ¬ (j : Int) < (inn : Int) := by omega
          clear hkn hjm HO' HN' HNn HXX HH d6
          have HEnc : Hid (encM ⟨e, c, i, p, x, l, is⟩ s = secs (e : Int) (c : Int) (zpad 88 (wds ⟨e, c, i, p, x, l, is⟩ s)) 8) := rfl
          generalize wds ⟨e, c, i, p, x, l, is⟩ s = W0 at *
          have HWl : Hid (W0.length = n') := by
            have := HE.out.own.1
            rw [cellsB_length] at this
            show _ = _
            omega
          go_wp2_with fail
          go_loopw [5] (fun v wx => ∃ (q : Nat) (a2 : Option Addr) (n2 cap2 : Nat), v = .slice a2 n2 cap2 ∧ n2 = n' + q ∧ n2 ≤ 88 ∧ OwB w0 (w.heap.size + 1) a2 n2 cap2 (W0 ++ List.replicate q 0) wx) (fun v _ => 88 - lenV v)
          case atStart => exact ⟨0, a', n', cap', rfl, rfl, hnb, by simpa using HE.out⟩
          case round =>
            clear HE
            obtain ⟨q, a2, n2, cap2, rfl, hn2, h88, hO2⟩ := hrel
            have HO2 := Lib.hid hO2
            have HN2 := Lib.hid hn2
            clear hO2 hn2
            by_cases hl8 : n2 < 88
            · have j2 : (n2 : Int) < 88 := by omega
              have HOb := Lib.hid (HO2.out.later (sup_pc wr (.cells #[.int .u8 0] U8)))
              have HYb := Lib.hid (bytes_oner wr 0 (by omega) (by omega))
              have hn89 : n2 + 1 ≤ 1000000 := by omega
              go_wp2_with (first | (at_builtin; refine wp_put rfl (.tmp 105) (.tmp 106) rfl _ (n2) cap2 _ rfl HOb.out _ 1 1 (num 1 (0 : Int).toNat) rfl (by simp [num_len]) HYb.out (fun h => by cases h) (by omega) ?_; intro a16 c16 w16 ho16 hg16; have HO16 := Lib.hid ho16; clear ho16 hg16) | fail)
              go_roundw
              case rel => exact ⟨q + 1, a16, n2 + 1, c16, rfl, by have := HN2.out; omega, by omega, by rw [rep_one]; exact HO16.out⟩
              case measure => simp [lenV]; omega
            · obtain rfl : n2 = 88 := by omega
              have j2 : ¬ ((88 : Nat) : Int) < 88 := by omega
              obtain ⟨WW, hWW⟩ : ∃ WW, zpad 88 W0 = WW := ⟨_, rfl⟩
              have hO := HO2.out
              have e1 : W0 ++ List.replicate q 0 = WW := by rw [← hWW]; unfold zpad; congr 2; have := HN2.out; have := HWl.out; omega
              rw [e1] at hO
              rw [hWW] at HEnc
              have hlen : WW.length = 88 := by have := hO.own.1; rw [cellsB_length] at this; omega
              obtain ⟨g, hga, hcc, hBW⟩ := own_bytes hO.own hO.lt hlen (by decide)
              subst hga
              have HBW := Lib.hid hBW
              have HXz := Lib.hid (HX.out.later hO.below)
              have HBz := Lib.hid (HB.out.trans (hO.below.mono HB.out.size))
              have HLen := Lib.hid hlen
              clear hO e1 hWW hlen hBW HO2 HN2 HWl HX HB HG HF HI HN HIN hl8
              go_wp2_with fail
              generalize hwz : wr = wz at *
              clear hwz
              go_loopw [10, 11] (fun v t wx => ∃ (k : Nat) (a3 : Option Addr) (n3 cap3 : Nat), k ≤ 8 ∧ t = .int .i64 k ∧ v = .slice a3 n3 cap3 ∧ n3 = 16 * k ∧ OwB wz wz.heap.size a3 n3 cap3 (secs (e : Int) (c : Int) WW k) wx) (fun _ t _ => 8 - (intOf t).toNat)
              case atStart => exact ⟨0, none, 0, 0, Nat.zero_le _, rfl, rfl, rfl, ⟨World.ownsRow_nil _ _ _ _, (fun x hx => by cases hx), Below.refl _ _, Nat.le_refl _, Nat.le_refl _⟩⟩
              case round =>
                obtain ⟨k, a3, n3, cap3, hk, rfl, rfl, hn3, hO3⟩ := hrel
                have HO3 := Lib.hid hO3
                have HN3 := Lib.hid hn3
                by_cases hl8 : k < 8
                · have z0 : World.cell? _ ⟨w.heap.size, 0, none⟩ = some (.int .i64 (e : Int)) := (HXz.out.later hO3.below).cell 0
                  have hcut := fun W => cut_11 g k cap2 hl8 hcc W
                  have hn128 : n3 ≤ 112 := by omega
                  have j2 : (k : Int) < 8 := by omega
                  have j3 : (0 : Int) ≤ (k : Int) := by omega
                  clear hO3 hn3
                  go_wp2_with fail
                  refine (two_int (e : Int) _ (by omega) (by omega)).mono ?_
                  rintro en wb ⟨gb, rfl, hyb, hbb⟩
                  have HOb := Lib.hid (HO3.out.later hbb)
                  have HYb := Lib.hid hyb
                  clear hyb hbb z0 HO3
                  go_wp2_with (first | ((at_builtin; refine wp_put rfl (.tmp 112) (.tmp 115) rfl _ (n3) cap3 _ rfl HOb.out _ 2 4 (num 2 (e : Int).toNat) rfl (by simp [num_len]) HYb.out (fun h => by cases h) (by omega) ?_; intro a21 c21 w21 ho21 hg21; have HO21 := Lib.hid ho21; have z1 : w21.cell? ⟨w.heap.size, 1, none⟩ = some (.int .i64 (c : Int)) := (HXz.out.later ho21.below).cell 1; clear ho21 hg21)) | fail)
                  refine (two_int (c : Int) _ (by omega) (by omega)).mono ?_
                  rintro en wb2 ⟨gb2, rfl, hyb, hbb⟩
                  have HOc := Lib.hid (HO21.out.later hbb)
                  have HYc := Lib.hid hyb
                  clear hyb hbb z1 HO21 HOb HYb
                  go_wp2_with (first | ((at_builtin; refine wp_put rfl (.tmp 117) (.tmp 120) rfl _ (n3 + 2) c21 _ rfl HOc.out _ 2 4 (num 2 (c : Int).toNat) rfl (by simp [num_len]) HYc.out (fun h => by cases h) (by omega) ?_; intro a22 c22 w22 ho22 hg22; have HO22 := Lib.hid ho22; have HOd := Lib.hid (HO22.out.later (sup_pc w22 (.cells #[.int .u8 (k : Int)] U8))); have HYd := Lib.hid (bytes_oner w22 (k : Int) (by omega) (by omega)); clear ho22 hg22)) | ((at_builtin; refine wp_put rfl (.tmp 122) (.tmp 125) rfl _ (n3 + 2 + 2) c22 _ rfl HOd.out _ 1 1 (num 1 (k : Int).toNat) rfl (by simp [num_len]) HYd.out (fun h => by cases h) (by omega) ?_; intro a23 c23 w23 ho23 hg23; have HO23 := Lib.hid ho23; have HYe := Lib.hid (bytes_part11 (HBW.out.below ho23.below) HLen.out k (by omega)); clear ho23 hg23)) | ((at_builtin; refine wp_put rfl (.tmp 127) (.tmp 134) rfl _ (n3 + 2 + 2 + 1) c23 _ rfl HO23.out (some ⟨g, 11 * k, none⟩) 11 (cap2 - 11 * k) ((WW.drop (11 * k)).take 11) rfl (by simp [HLen.out]; omega) HYe.out (fun h => by cases h) (by omega) ?_; intro a24 c24 w24 ho24 hg24; have HO24 := Lib.hid ho24; clear ho24 hg24)) | fail)
                  go_roundw
                  case rel => exact ⟨k + 1, a24, n3 + 2 + 2 + 1 + 11, c24, by omega, by simp, rfl, by have := HN3.out; omega, by rw [secs_app]; exact HO24.out⟩
                  case measure => simp [intOf]; omega
                · obtain rfl : k = 8 := by omega
                  obtain rfl : n3 = 128 := by omega
                  have j2 : ¬ ((8 : Nat) : Int) < 8 := by omega
                  have hl := hO3.own.1
                  rw [cellsB_length] at hl
                  obtain ⟨g3, hg3, -, hB3⟩ := own_bytes hO3.own hO3.lt (by omega) (by decide)
                  subst hg3
                  have HB3 := Lib.hid hB3
                  have HE := Lib.hid (HBz.out.trans (hO3.below.mono HBz.out.size))
                  clear hO3 hn3 hl hB3 HO3 HN3 hl8
                  go_wp2
                  go_ret
                  exact ⟨_, _, rfl, by (rw [HEnc.out]; exact HB3.out), HE.out⟩
end Go.Proofs.YtlkgaefabahkoaaDoor
/-
  The document's Decode of 128 bytes: what its loops keep.
-/
namespace Go.Proofs.YtlkgaefabahkoaaDoor
open Go.RowKit

theorem size_u8dr (w : World) : (Go.sizeOf U8).run Tryd.prog w = .ok 1 w := by kernel_rfl
theorem cut_eleven (b o cap k : Nat) (hk : k < 8) (hcap : 128 ≤ cap) (W : World) :
    (Instr.slice 49 (.slice (some ⟨b, o, none⟩) 128 cap) (some (.int .i64 (16 * (k : Int) + 5))) (some (.int .i64 (16 * (k : Int) + 16))) none).run Tryd.prog W = .ok (.slice (some ⟨b, o + (16 * k + 5), none⟩) 11 (cap - (16 * k + 5))) W := by
  have ht' : Tryd.prog.underlying 49 = some (.slice (Tryd.prog.elem 49)) := by simp [Program.elem, Tryd.underlying49]
  have he : Tryd.prog.elem 49 = 5 := by simp [Program.elem, Tryd.underlying49]
  rw [run_slice_lh W 49 _ _ _ ht' .i64 .i64 _ _ (by omega) (by omega) (by omega), he, size_u8dr]
  have e1 : (16 * (k : Int) + 5).toNat = 16 * k + 5 := by omega
  have e2 : (16 * (k : Int) + 16).toNat = 16 * k + 16 := by omega
  have e3 : ¬ (cap - (16 * k + 5) = 0) := by omega
  have e4 : 16 * k + 16 - (16 * k + 5) = 11 := by omega
  simp [Result.andThen, sliced, Addr.add_lit, e1, e2, e3, e4]
  omega
theorem gat_lt' {l : List Nat} (h : ∀ x ∈ l, x < 256) (n : Nat) : ∀ x ∈ gat l n, x < 256 := gat_lt h n
def GaR (w : World) (P : Nat) (e c : Int) (l : List Nat) (v t : Value) (wr : World) : Prop :=
  ∃ (k : Nat) (a : Option Addr) (cp : Nat), k ≤ 8 ∧ t = .int .i64 k ∧ v = .slice a (11 * k) cp ∧ wr.ownsRow (P + 1) U8 1 (.slice a (11 * k) cp) (11 * k) (cellsB (gat l k)) ∧ Blo wr w.heap.size 36 zP7 ∧ Blo wr P 36 #[.int .i64 e, .int .i64 c, .int .i64 0, .int .i64 0, .int .i64 0, .slice none 0 0, .slice none 0 0] ∧ Below w.heap.size w wr ∧ P + 1 ≤ wr.heap.size
theorem Dr.at_ {w wr : World} {W : List Nat} {e c i p x : Int} {P : Nat} {fv iv : Value} {wa : Option Addr} {wc : Nat} (h : Dr w W e c i p x P fv iv (.slice wa 88 wc) wr) (hW : ∀ y ∈ W, y < 256) (hl : W.length = 88) (k : Nat) (hk : k ≤ 1000) :
    Calls Tryd.prog 72 #[.slice wa 88 wc, .int .i64 k] wr fun e w' => e = .returned (.int .i64 (at' W k : Nat)) ∧ wr = w' := by
  obtain ⟨g, rfl, _, hy⟩ := own_bytes h.row hW hl (by decide)
  exact at_any _ 88 wc W k hl.symm hy (by decide) (by omega)
theorem Dr.atZ {w wr : World} {W : List Nat} {e c i p x : Int} {P : Nat} {fv iv : Value} {wa : Option Addr} {wc : Nat} (h : Dr w W e c i p x P fv iv (.slice wa 88 wc) wr) (hW : ∀ y ∈ W, y < 256) (hl : W.length = 88) (z : Int) (k : Nat) (hz : z = (k : Int)) (hk : k ≤ 1000) :
    Calls Tryd.prog 72 #[.slice wa 88 wc, .int .i64 z] wr fun e w' => e = .returned (.int .i64 (at' W k : Nat)) ∧ wr = w' := by
  subst hz
  exact h.at_ hW hl k hk
theorem filesD_get (w : List Nat) {n k : Nat} (h : k < n) : (filesD w n).getD k fi0 = fiD w (posD w k) := by simp [filesD, List.getD_eq_getElem?_getD, h]
theorem flo_fs {l l' : List Fi} {av : Nat → Value} {k : Nat} (h : ∀ i, i < k → l.getD i fi0 = l'.getD i fi0) : flo l av k = flo l' av k := by
  induction k with
  | zero => rfl
  | succ k ih => rw [flo_succ, flo_succ, ih (fun i hi => h i (by omega)), h k (by omega)]
theorem Fo.congr {w : World} {base k : Nat} {v : Value} {av : Nat → Value} {l l' : List Fi} (h : Fo w base v av l k) (he : ∀ i, i < k → l.getD i fi0 = l'.getD i fi0) : Fo w base v av l' k := by
  refine ⟨by rw [← flo_fs he]; exact h.row, fun i hi => ?_⟩
  rw [← he i hi]
  exact h.its i hi
def D2R (w : World) (W : List Nat) (P : Nat) (e c i p x : Int) (wv : Value) (nf : Nat) (v t : Value) (wr : World) : Prop :=
  ∃ (k : Nat) (fa : Option Addr) (fc : Nat) (av : Nat → Value), k ≤ nf ∧ t = .int .i64 k ∧ v = .int .i64 (posD W k : Nat) ∧ (∀ i, i < k → posD W i < 88) ∧ posD W k ≤ 200 ∧
    Dr w W e c i p x P (.slice fa k fc) (.slice none 0 0) wv wr ∧ Fo wr (P + 1) (.slice fa k fc) av (filesD W nf) k ∧ SepAv av k ∧ P < wr.heap.size
def D2E (w : World) (W : List Nat) (P : Nat) (e c i p x : Int) (wv : Value) (nf : Nat) (v : Value) (wr : World) : Prop :=
  ∃ (k : Nat) (fa : Option Addr) (fc : Nat) (av : Nat → Value), k ≤ nf ∧ v = .int .i64 (posD W k : Nat) ∧ (∀ i, i < k → posD W i < 88) ∧ (k = nf ∨ 88 ≤ posD W k) ∧ posD W k ≤ 200 ∧
    Dr w W e c i p x P (.slice fa k fc) (.slice none 0 0) wv wr ∧ Fo wr (P + 1) (.slice fa k fc) av (filesD W nf) k ∧ SepAv av k ∧ P < wr.heap.size
def D3R (w : World) (W : List Nat) (P : Nat) (e c i p x : Int) (wv fv : Value) (nf k : Nat) (av : Nat → Value) (FB : Nat) (a0 a1 : Int) (o nl : Nat) (v t : Value) (wr : World) : Prop :=
  ∃ (j : Nat) (la : Option Addr) (lc : Nat), j ≤ nl ∧ t = .int .i64 j ∧ v = .int .i64 (o + 4 + 2 * j : Nat) ∧ (j = 0 ∨ o + 4 + 2 * j < 90) ∧
    Dr w W e c i p x P fv (.slice none 0 0) wv wr ∧ Blo wr FB FN #[.int .i64 a0, .int .i64 a1, .slice la j lc] ∧ wr.ownsRow (FB + 1) IT 1 (.slice la j lc) j (cellsI (lbAt W (o + 4) j)) ∧ Fo wr (P + 1) fv av (filesD W nf) k ∧ FB < wr.heap.size
def D3E (w : World) (W : List Nat) (P : Nat) (e c i p x : Int) (wv fv : Value) (nf k : Nat) (av : Nat → Value) (FB : Nat) (a0 a1 : Int) (o nl : Nat) (v : Value) (wr : World) : Prop :=
  ∃ (j : Nat) (la : Option Addr) (lc : Nat), j = cntD (o + 4) nl ∧ v = .int .i64 (o + 4 + 2 * j : Nat) ∧ o + 4 + 2 * j ≤ 200 ∧
    Dr w W e c i p x P fv (.slice none 0 0) wv wr ∧ Blo wr FB FN #[.int .i64 a0, .int .i64 a1, .slice la j lc] ∧ wr.ownsRow (FB + 1) IT 1 (.slice la j lc) j (cellsI (lbAt W (o + 4) j)) ∧ Fo wr (P + 1) fv av (filesD W nf) k ∧ FB < wr.heap.size
def D4R (w : World) (W : List Nat) (P : Nat) (e c i p x : Int) (wv fv : Value) (nf k : Nat) (av : Nat → Value) (SB o ni : Nat) (v t : Value) (wr : World) : Prop :=
  ∃ (j : Nat) (ia : Option Addr) (ic : Nat), j ≤ ni ∧ t = .int .i64 j ∧ v = .int .i64 (o + j : Nat) ∧ (∀ i, i < j → o + i < 88) ∧
    Dr w W e c i p x P fv (.slice ia j ic) wv wr ∧ wr.ownsRow SB IT 1 (.slice ia j ic) j (cellsI (inosM W o j)) ∧ Fo wr (P + 1) fv av (filesD W nf) k ∧ SB ≤ wr.heap.size
def D4E (w : World) (W : List Nat) (P : Nat) (e c i p x : Int) (wv fv : Value) (nf k : Nat) (av : Nat → Value) (SB o ni : Nat) (wr : World) : Prop :=
  ∃ (j : Nat) (ia : Option Addr) (ic : Nat), j ≤ ni ∧ (∀ i, i < j → o + i < 88) ∧ (j = ni ∨ 88 ≤ o + j) ∧
    Dr w W e c i p x P fv (.slice ia j ic) wv wr ∧ wr.ownsRow SB IT 1 (.slice ia j ic) j (cellsI (inosM W o j)) ∧ Fo wr (P + 1) fv av (filesD W nf) k ∧ SB ≤ wr.heap.size
def blkC (n : Nat) : Code → Option Code
  | .block m c => if m = n then some (.block m c) else blkC n c
  | .loop c => blkC n c
  | .seq a b => match blkC n a with
    | some c => some c
    | none => blkC n b
  | .cond _ a b => match blkC n a with
    | some c => some c
    | none => blkC n b
  | _ => none
noncomputable def rdBlk (n : Nat) : Code := ((Tryd.f44.body.bind (blkC n)).getD .skip)
end Go.Proofs.YtlkgaefabahkoaaDoor
/-
  A drawn region whose operations only make new memory: which slot holds what, told by facts that outlive new memory.
-/
namespace Go.Proofs.YtlkgaefabahkoaaDoor
open Go.RowKit

abbrev ObjL := Value → World → Prop
def LaterP (p : ObjL) : Prop := ∀ v W W', Below W.heap.size W W' → p v W → p v W'
structure GL (R : List (Nat × ObjL)) (T : List (Nat × Value)) (w : World) (D : Nat → Bool) (X : Nat → Value) (W : World) : Prop where
  b : Below w.heap.size w W
  rows : ∀ x ∈ R, D x.1 = true → x.2 (X x.1) W
  dt : DetO T D X
def keysL (R : List (Nat × ObjL)) : Prop := ∀ x ∈ R, ∀ y ∈ R, x.1 = y.1 → x = y
section
variable {R : List (Nat × ObjL)} {T : List (Nat × Value)} {w W W' : World} {D : Nat → Bool} {X : Nat → Value}
theorem GL.start (hw : Below w.heap.size w W) : GL R T w (fun _ => false) X W := ⟨hw, fun _ _ h => (by cases h), fun _ _ h => (by cases h)⟩
theorem GL.tell (h : GL R T w D X W) (hs : ∀ x ∈ R, LaterP x.2) (i : Nat) (v : Value) (hb : Below W.heap.size W W') (hR : ∀ x ∈ R, x.1 ≠ i) (hv : ∀ x ∈ T, x.1 = i → x.2 = v) : GL R T w (updD D i) (updV X i v) W' :=
  ⟨h.b.trans (hb.mono h.b.size), fun x hx hd => by
    rw [updD_ne D i (hR x hx)] at hd
    rw [updV_ne X i v (hR x hx)]
    exact hs x hx _ _ _ hb (h.rows x hx hd), h.dt.set i v hv⟩
theorem GL.fresh (h : GL R T w D X W) (hk : keysL R) (hs : ∀ x ∈ R, LaterP x.2) (i : Nat) (v : Value) (z : ObjL) (hz : (i, z) ∈ R) (hb : Below W.heap.size W W') (ho : z v W') (hT : ∀ x ∈ T, x.1 ≠ i) : GL R T w (updD D i) (updV X i v) W' :=
  ⟨h.b.trans (hb.mono h.b.size), fun x hx hd => by
    by_cases e : x.1 = i
    · have := hk x hx _ hz e
      subst this
      rw [updV_at]; exact ho
    · rw [updD_ne D i e] at hd
      rw [updV_ne X i v e]
      exact hs x hx _ _ _ hb (h.rows x hx hd), fun x hx hd => by
    rw [updV_ne X i v (hT x hx)]
    rw [updD_ne D i (hT x hx)] at hd
    exact h.dt x hx hd⟩
end
end Go.Proofs.YtlkgaefabahkoaaDoor
/-
  A whole struct loaded in a drawn region whose operations only make new memory.
-/
namespace Go.Proofs.YtlkgaefabahkoaaDoor
open Go.RowKit
section
variable {P : Program} {ops : Array Oper} {Q : Exit → Act → World → Prop} {o : Oper} {a : Act} {w : World} {K : Act → World → Prop} {E : Prop}
theorem stepO_load_row (hw : Region.wanted o (yielded ops a.tmps) = true) (ty : TypeId) (x : Operand) (ho : o.op = .load ty x)
    (g : Nat) (hx : a.eval x = .pointer (some ⟨g, 0, none⟩)) (t : TypeId) (cs : Array Value) (fr : Nat × Nat) (d : TypeDesc) (hg : w.heap[g]? = some (.cells cs t fr))
    (hu : P.underlying ty = some d) (hd : (match d with | .struct _ | .array _ _ => true | _ => false) = true) (hi : (P.info? ty).map (·.size) = some cs.size)
    (hk : K (a.put o.dst (.agg cs)) w) : if Region.wanted o (yielded ops a.tmps) = true then Oper.wp P o a w K Q else E := by
  refine stepO_run (v := .agg cs) (w' := w) hw ?_ hk
  unfold execOp
  simp only [ho, hx, Instr.loadAt, Instr.sureAddr, Sem.run_bind, Sem.run_pure, Result.andThen_ok, run_loadVar_row w g t ty cs fr d hg hu hd hi]
end
end Go.Proofs.YtlkgaefabahkoaaDoor
/-
  The document's Decode: its end: is what was read a summary, and are the bytes its blocks?
-/
namespace Go.Proofs.YtlkgaefabahkoaaDoor
open Go.RowKit

section
variable {w : World} {m : Sm} {fa : Option Addr} {fn fc : Nat} {ia : Option Addr} {inn ic : Nat}
theorem rencode_good (s : Nat) (hs : s < 4294967296) (hk : chkM m = 0) (hF : Fis w fa m.fs) (hI : Ints w ia m.is) (hn : fn = m.fs.length) (hin : inn = m.is.length) :
    Calls Tryd.prog 57 #[part m.e m.c m.i m.p m.x fa fn fc ia inn ic, .int .u32 s] w (REnc w (encM m s)) := by
  have hg := good_of hk
  obtain ⟨e, c, i, p, x, l, is⟩ := m
  have g1 := hg.e; have g2 := hg.c; have g3 := hg.i; have g4 := hg.p; have g5 := hg.x
  simp only at g1 g2 g3 g4 g5
  obtain ⟨e', rfl⟩ : ∃ u : Nat, e = u := ⟨e.toNat, by omega⟩
  obtain ⟨c', rfl⟩ : ∃ u : Nat, c = u := ⟨c.toNat, by omega⟩
  obtain ⟨i', rfl⟩ : ∃ u : Nat, i = u := ⟨i.toNat, by omega⟩
  obtain ⟨p', rfl⟩ : ∃ u : Nat, p = u := ⟨p.toNat, by omega⟩
  obtain ⟨x', rfl⟩ : ∃ u : Nat, x = u := ⟨x.toNat, by omega⟩
  exact rencode_raw e' c' i' p' x' s l is fa fn fc ia inn ic hg hF hn hI hin hs
end
def PBD (l : List Nat) : ObjL := fun v W => ∃ xa xc, v = .slice xa 128 xc ∧ Bytes W xa l
theorem later_pbd (l : List Nat) : LaterP (PBD l) := fun v W W' hb h => by
  obtain ⟨xa, xc, rfl, hy⟩ := h
  exact ⟨xa, xc, rfl, hy.below hb⟩
theorem cntD_le (o n : Nat) : cntD o n ≤ 45 := by unfold cntD; omega
theorem szF_filesD (w : List Nat) (n : Nat) : szF (filesD w n) ≤ n * 100 := by
  induction n with
  | zero => exact Nat.le_refl _
  | succ n ih =>
    have e : filesD w (n + 1) = filesD w n ++ [fiD w (posD w n)] := by simp [filesD, List.range_succ]
    rw [e, szF_snoc]
    have h1 : (fiD w (posD w n)).lb.length = cntD (posD w n + 4) (at' w (posD w n + 3)) := lbAt_len _ _ _
    have h2 := cntD_le (posD w n + 4) (at' w (posD w n + 3))
    omega
theorem lb_filesD (w : List Nat) (hw : ∀ i, at' w i < 256) (n : Nat) : ∀ x ∈ filesD w n, ∀ k ∈ x.lb, -9223372036854775808 ≤ k ∧ k ≤ 9223372036854775807 := fun x hx k hk => by
  obtain ⟨j, _, rfl⟩ := List.mem_map.1 hx
  obtain ⟨i, _, rfl⟩ := List.mem_map.1 (show k ∈ lbAt w (posD w j + 4) (cntD (posD w j + 4) (at' w (posD w j + 3))) from hk)
  have h1 := hw (posD w j + 4 + 2 * i)
  have h2 := hw (posD w j + 4 + 2 * i + 1)
  unfold v2
  omega
theorem filesD_len (w : List Nat) (n : Nat) : (filesD w n).length = n := by simp [filesD]
/-- What stands when all is read. -/
structure RDo (w : World) (l : List Nat) (m : Sm) (s : Nat) (fn inn : Nat) (av : Nat → Value) (SB : Nat) : Prop where
  fe : m = decM l
  se : s = sumM (gat l 8)
  fl : fn = m.fs.length
  il : inn = m.is.length
  lt : ∀ i g, i < fn → (av i).ownBlock = some g → g < SB
  sep : SepAv av fn
  le : w.heap.size ≤ SB
theorem RDo.fin {w w' : World} {l : List Nat} {m : Sm} {s fn inn : Nat} {av : Nat → Value} {SB fc ic : Nat} {fa ia : Option Addr} {e : Ending} (h : okB l = true → RDo w l m s fn inn av SB) (hok : okB l = true)
    (he : e = .returned (.tuple #[.agg #[.int .i64 m.e, .int .i64 m.c, .int .i64 m.i, .int .i64 m.p, .int .i64 m.x, .slice fa fn fc, .slice ia inn ic], .int .u32 (s : Nat), .int .i64 0]))
    (hF : Fo w' w.heap.size (.slice fa fn fc) av m.fs fn) (hO : w'.ownsRow SB IT 1 (.slice ia inn ic) inn (cellsI m.is)) : ∃ fa fc ia ic av SB, DecY w l (gat l 8) e w' fa fc ia ic av SB := by
  obtain ⟨h1, h2, h3, h4, h5, h6, h7⟩ := h hok
  subst h1
  subst h2
  have e1 : fn = at' (gat l 8) 4 := by rw [h3]; exact filesM_len _ _
  have e2 : inn = at' (gat l 8) 5 := by rw [h4]; exact inosM_len _ _ _
  subst e1
  subst e2
  exact ⟨fa, fc, ia, ic, av, SB, he, hF, hO, h5, h6, h7⟩
def stC (n : Nat) : Code → Bool
  | .region m _ _ => m == n
  | .seq a _ => stC n a
  | _ => false
def tlC (n : Nat) : Code → Option Code
  | .seq a b => match tlC n b with
    | some c => some c
    | none => match stC n a with
      | true => some (.seq a b)
      | false => none
  | _ => none
noncomputable def rdTail : Code := ((Tryd.f44.body.bind (tlC 31)).getD .skip)
set_option maxRecDepth 1000000 in
set_option maxHeartbeats 16000000 in
theorem dec_tail {w : World} {l : List Nat} {m : Sm} {s fn inn SB : Nat} {av : Nat → Value} (hE : okB l = true → RDo w l m s fn inn av SB) (hok : okB l = true ↔ (chkM m = 0 ∧ encM m s = l)) (hs : s < 4294967296) (hfl : fn = m.fs.length) (hil : inn = m.is.length) (hsw : w.heap.size < SB)
    (hsz : szF m.fs ≤ 1000000000) (hi9 : inn ≤ 1000000000) (hlb : ∀ x ∈ m.fs, ∀ n ∈ x.lb, -9223372036854775808 ≤ n ∧ n ≤ 9223372036854775807)
    (ob oo cap : Nat) (hl : l.length = 128) (hY : Bytes w (some ⟨ob, oo, none⟩) l) (fa : Option Addr) (fc : Nat) (ia : Option Addr) (ic : Nat) {wv : Value} {W : List Nat} {P : Nat} {wy : World}
    (hP : Dr w W m.e m.c m.i m.p m.x P (.slice fa fn fc) (.slice ia inn ic) wv wy) (hF : Fo wy (P + 1) (.slice fa fn fc) av m.fs fn) (hO : wy.ownsRow SB IT 1 (.slice ia inn ic) inn (cellsI m.is))
    (s1 s3 s4 s6 s7 s9 s10 s11 s12 s13 s14 s15 s16 s17 s18 s19 s20 s21 s22 s23 s24 s25 s26 s27 s28 s29 s30 s31 s32 s33 s34 s35 s36 s37 s38 s39 s40 s41 s42 s43 s44 s45 s46 s47 s48 s49 s50 s51 s52 s53 s54 s55 s56 s57 s58 s59 s60 s61 s62 s63 s64 s65 s66 s67 s68 s69 s70 s71 s72 s73 s74 s75 s76 s77 s78 s79 s80 s81 s82 s83 s84 s85 s86 s87 s88 s89 s90 s91 s92 s93 s94 s95 s96 s97 s98 s99 s100 s101 s102 s103 s104 s105 s106 s107 s108 s109 s110 s111 s112 s113 s114 s115 s116 s117 s118 s119 s120 s121 s122 s123 s124 s125 s126 s127 s128 s129 s130 s131 s132 s133 s134 s135 s136 s137 s138 s139 s140 s141 s142 s143 s144 s145 s146 s147 s148 s149 s150 s151 s152 s153 s154 s155 s156 s157 s158 s159 s160 s161 s162 s163 s164 s165 s166 s167 s168 s169 s170 s171 s172 s173 s174 s175 s176 s177 s178 s179 s180 s181 : Value) :
    Code.wp Tryd.prog rdTail (bodyPost Tryd.prog Tryd.f44 (fun e w' => DecO l w e w')) ⟨#[.slice (some ⟨ob, oo, none⟩) 128 cap, s1, .pointer (some ⟨w.heap.size, 0, none⟩), s3, s4, .pointer (some ⟨P, 0, none⟩), s6, s7, .int .u32 (s : Int), s9, s10, s11, s12, s13, s14, s15, s16, s17, s18, s19, s20, s21, s22, s23, s24, s25, s26, s27, s28, s29, s30, s31, s32, s33, s34, s35, s36, s37, s38, s39, s40, s41, s42, s43, s44, s45, s46, s47, s48, s49, s50, s51, s52, s53, s54, s55, s56, s57, s58, s59, s60, s61, s62, s63, s64, s65, s66, s67, s68, s69, s70, s71, s72, s73, s74, s75, s76, s77, s78, s79, s80, s81, s82, s83, s84, s85, s86, s87, s88, s89, s90, s91, s92, s93, s94, s95, s96, s97, s98, s99, s100, s101, s102, s103, s104, s105, s106, s107, s108, s109, s110, s111, s112, s113, s114, s115, s116, s117, s118, s119, s120, s121, s122, s123, s124, s125, s126, s127, s128, s129, s130, s131, s132, s133, s134, s135, s136, s137, s138, s139, s140, s141, s142, s143, s144, s145, s146, s147, s148, s149, s150, s151, s152, s153, s154, s155, s156, s157, s158, s159, s160, s161, s162, s163, s164, s165, s166, s167, s168, s169, s170, s171, s172, s173, s174, s175, s176, s177, s178, s179, s180, s181], []⟩ wy := by
  have hlo := hP.lo
  have HB8 := Lib.hid hP.below
  have HR8 := Lib.hid hP.res
  have HP8 := Lib.hid hP.pt
  have HF8 := Lib.hid hF
  have HO8 := Lib.hid hO
  have HEnd := Lib.hid hE
  have HL := Lib.hid hl
  have hfis := hF.fis hfl
  have hints := Ints.own hO
  have HYy := Lib.hid (hY.below hP.below)
  have HCk : Hid (∀ W', Below wy.heap.size wy W' → Calls Tryd.prog 54 #[part m.e m.c m.i m.p m.x fa fn fc ia inn ic] W' fun en w' => en = .returned (.int .i64 (chkM m)) ∧ Below W'.heap.size W' w') := fun W' hb => rcheck_any m.e m.c m.i m.p m.x m.fs m.is fa fn fc ia inn ic (hfis.later hb) hfl hsz (hints.below hb) hil hi9 hlb
  have HEn : Hid (chkM m = 0 → ∀ W', Below wy.heap.size wy W' → Calls Tryd.prog 57 #[part m.e m.c m.i m.p m.x fa fn fc ia inn ic, .int .u32 s] W' (REnc W' (encM m s))) := fun hk W' hb => rencode_good s hs hk (hfis.later hb) (hints.below hb) hfl hil
  have hel : chkM m = 0 → (encM m s).length = 128 := fun hk => encM_len m s (good_of hk)
  have HEl := Lib.hid hel
  have HCw : Hid (∀ W', Below wy.heap.size wy W' → (convert 49 9 (.slice (some ⟨ob, oo, none⟩) 128 cap)).run Tryd.prog W' = .ok (.string (strOf l)) W') := fun W' hb => run_str W' 49 9 5 Tryd.underlying49 Tryd.underlying5 Tryd.underlying9 _ _ 128 cap hl.symm (HYy.out.below hb)
  have hlt1 := hY.1
  clear hP hF hO hE hfis hints hsz hi9 hlb hl hY hel hfl hil
  conv => arg 2; whnf
  by_cases hk : chkM m = 0
  · have HEn := Lib.hid (HEn.out hk)
    have HCv : Hid (∀ (W' : World) (a : Option Addr) (cp : Nat), Bytes W' a (encM m s) → (convert 49 9 (.slice a 128 cp)).run Tryd.prog W' = .ok (.string (strOf (encM m s))) W') := fun W' a cp h => run_str W' 49 9 5 Tryd.underlying49 Tryd.underlying5 Tryd.underlying9 _ _ 128 cp (HEl.out hk).symm h
    rw [hk] at HCk
    by_cases heq : encM m s = l
    · have HOk : Hid (okB l = true) := hok.2 ⟨hk, heq⟩
      have e1 : ((strOf (encM m s)).toList == (strOf l).toList) = true := by rw [heq]; simp
      clear hok heq hk
      go_wp2_with fail
      obtain ⟨RL, hRL⟩ : ∃ RL : List (Nat × ObjL), RL = [(6, PBD (encM m s))] := ⟨_, rfl⟩
      obtain ⟨TL, hTL⟩ : ∃ TL : List (Nat × Value), TL = [(0, .agg #[.int .i64 m.e, .int .i64 m.c, .int .i64 m.i, .int .i64 m.p, .int .i64 m.x, .slice fa fn fc, .slice ia inn ic]), (1, .int .i64 0), (2, .bool false), (3, .bool false), (4, .agg #[.int .i64 m.e, .int .i64 m.c, .int .i64 m.i, .int .i64 m.p, .int .i64 m.x, .slice fa fn fc, .slice ia inn ic]), (5, .int .u32 (s : Int)), (7, .string (strOf (encM m s))), (8, .slice (some ⟨ob, oo, none⟩) 128 cap), (9, .string (strOf l)), (10, .bool false), (11, .bool false)] := ⟨_, rfl⟩
      have hKB : keysL RL := by intro x hx y hy e; simp only [hRL, List.mem_cons, List.not_mem_nil, or_false] at hx hy; rcases hx with rfl <;> rcases hy with rfl <;> first | rfl | (exfalso; simp at e; done) | fail
      have hLB : ∀ x ∈ RL, LaterP x.2 := by intro x hx; simp only [hRL, List.mem_cons, List.not_mem_nil, or_false] at hx; rcases hx with rfl; exact later_pbd _
      refine wp_region_inv (n := 12) [(0, 167), (1, 168), (2, 169), (3, 170), (4, 171), (5, 172), (6, 173), (7, 174), (8, 175), (9, 176), (10, 177), (11, 178)] (GL RL TL wy) (by kernel_rfl) (by kernel_rfl) (by kernel_rfl) (fun X => by simp only [putL, Act.put, List.setIfInBounds_toArray, List.set_cons_zero, List.set_cons_succ]; rfl) (fun X => GL.start (Below.refl _ _).drew) ?_ ?_
      · show StepsI _ _ _ _ _ 0 [_, _, _, _, _, _, _, _, _, _, _, _]
        refine ⟨fun D X W hD hd hI K hK => ?_, ?_⟩
        · exact stepO_load_row (by simp [Region.wanted]) 36 (.tmp 5) rfl P rfl 36 #[.int .i64 m.e, .int .i64 m.c, .int .i64 m.i, .int .i64 m.p, .int .i64 m.x, .slice fa fn fc, .slice ia inn ic] (0, 0) _ (HP8.out.later hI.b) Tryd.underlying36 rfl (by kernel_rfl) (hK _ _ (hI.tell hLB 0 _ (Below.refl _ _) (by simp [hRL]) (by simp [hTL])))
        refine ⟨fun D X W hD hd hI K hK => ?_, ?_⟩
        · have a0 := hI.dt (0, .agg #[.int .i64 m.e, .int .i64 m.c, .int .i64 m.i, .int .i64 m.p, .int .i64 m.x, .slice fa fn fc, .slice ia inn ic]) (by simp [hTL]) (hd ⟨0, .data⟩ (by simp) rfl)
          refine stepO_call (f := 54) (args := #[.agg #[.int .i64 m.e, .int .i64 m.c, .int .i64 m.i, .int .i64 m.p, .int .i64 m.x, .slice fa fn fc, .slice ia inn ic]]) (by simp [Region.wanted]) (by simp [go_sem, execOp, a0]) (HCk.out W hI.b) (fun e W' hr => ⟨_, hr.1, hK _ _ ?_⟩)
          exact hI.tell hLB 1 _ hr.2 (by simp [hRL]) (by simp [hTL])
        refine ⟨fun D X W hD hd hI K hK => ?_, ?_⟩
        · have a1 := hI.dt (1, .int .i64 0) (by simp [hTL]) (hd ⟨1, .data⟩ (by simp) rfl)
          exact stepO_run (v := .bool false) (w' := W) (by simp [Region.wanted]) (by simp [go_sem, execOp, a1]) (hK _ _ (hI.tell hLB 2 _ (Below.refl _ _) (by simp [hRL]) (by simp [hTL])))
        refine ⟨fun D X W hD hd hI K hK => ?_, ?_⟩
        · have a2 := hI.dt (2, .bool false) (by simp [hTL]) (hd ⟨2, .data⟩ (by simp) rfl)
          exact stepO_run (v := .bool false) (w' := W) (by simp [Region.wanted]) (by simp [go_sem, execOp, a2]) (hK _ _ (hI.tell hLB 3 _ (Below.refl _ _) (by simp [hRL]) (by simp [hTL])))
        refine ⟨fun D X W hD hd hI K hK => ?_, ?_⟩
        · have a3 := hI.dt (3, .bool false) (by simp [hTL]) (hd ⟨3, .guard⟩ (by simp) rfl)
          exact stepO_load_row (by simp [Region.wanted, yielded, a3]) 36 (.tmp 5) rfl P rfl 36 #[.int .i64 m.e, .int .i64 m.c, .int .i64 m.i, .int .i64 m.p, .int .i64 m.x, .slice fa fn fc, .slice ia inn ic] (0, 0) _ (HP8.out.later hI.b) Tryd.underlying36 rfl (by kernel_rfl) (hK _ _ (hI.tell hLB 4 _ (Below.refl _ _) (by simp [hRL]) (by simp [hTL])))
        refine ⟨fun D X W hD hd hI K hK => ?_, ?_⟩
        · have a3 := hI.dt (3, .bool false) (by simp [hTL]) (hd ⟨3, .guard⟩ (by simp) rfl)
          exact stepO_run (v := .int .u32 (s : Int)) (w' := W) (by simp [Region.wanted, yielded, a3]) (by simp [go_sem, execOp, a3]) (hK _ _ (hI.tell hLB 5 _ (Below.refl _ _) (by simp [hRL]) (by simp [hTL])))
        refine ⟨fun D X W hD hd hI K hK => ?_, ?_⟩
        · have a3 := hI.dt (3, .bool false) (by simp [hTL]) (hd ⟨3, .chain⟩ (by simp) rfl)
          have a4 := hI.dt (4, .agg #[.int .i64 m.e, .int .i64 m.c, .int .i64 m.i, .int .i64 m.p, .int .i64 m.x, .slice fa fn fc, .slice ia inn ic]) (by simp [hTL]) (hd ⟨4, .data⟩ (by simp) rfl)
          have a5 := hI.dt (5, .int .u32 (s : Int)) (by simp [hTL]) (hd ⟨5, .data⟩ (by simp) rfl)
          refine stepO_call (f := 57) (args := #[.agg #[.int .i64 m.e, .int .i64 m.c, .int .i64 m.i, .int .i64 m.p, .int .i64 m.x, .slice fa fn fc, .slice ia inn ic], .int .u32 (s : Int)]) (by simp [Region.wanted, yielded, a3]) (by simp [go_sem, execOp, a3, a4, a5]) (HEn.out W hI.b) (fun e W' hr => ?_)
          obtain ⟨xa, xc, he, hy, hb⟩ := hr
          exact ⟨_, he, hK _ _ (hI.fresh hKB hLB 6 _ (PBD (encM m s)) (by simp [hRL]) hb ⟨xa, xc, rfl, hy⟩ (by simp [hTL]))⟩
        refine ⟨fun D X W hD hd hI K hK => ?_, ?_⟩
        · have a3 := hI.dt (3, .bool false) (by simp [hTL]) (hd ⟨3, .guard⟩ (by simp) rfl)
          have r6 := hI.rows (6, PBD (encM m s)) (by simp [hRL]) (hd ⟨6, .data⟩ (by simp) rfl)
          obtain ⟨xa, xc, hx, hy⟩ := r6
          have hx2 : X 6 = _ := hx
          have hcv := HCv.out W xa xc hy
          exact stepO_run (v := .string (strOf (encM m s))) (w' := W) (by simp [Region.wanted, yielded, a3]) (by simp [go_sem, execOp, hx2, hcv]) (hK _ _ (hI.tell hLB 7 _ (Below.refl _ _) (by simp [hRL]) (by simp [hTL])))
        refine ⟨fun D X W hD hd hI K hK => ?_, ?_⟩
        · have a3 := hI.dt (3, .bool false) (by simp [hTL]) (hd ⟨3, .guard⟩ (by simp) rfl)
          exact stepO_run (v := .slice (some ⟨ob, oo, none⟩) 128 cap) (w' := W) (by simp [Region.wanted, yielded, a3]) (by simp [go_sem, execOp, a3]) (hK _ _ (hI.tell hLB 8 _ (Below.refl _ _) (by simp [hRL]) (by simp [hTL])))
        refine ⟨fun D X W hD hd hI K hK => ?_, ?_⟩
        · have a3 := hI.dt (3, .bool false) (by simp [hTL]) (hd ⟨3, .guard⟩ (by simp) rfl)
          have a8 := hI.dt (8, .slice (some ⟨ob, oo, none⟩) 128 cap) (by simp [hTL]) (hd ⟨8, .data⟩ (by simp) rfl)
          have hcv := HCw.out W hI.b
          exact stepO_run (v := .string (strOf l)) (w' := W) (by simp [Region.wanted, yielded, a3]) (by simp [go_sem, execOp, a3, a8, hcv]) (hK _ _ (hI.tell hLB 9 _ (Below.refl _ _) (by simp [hRL]) (by simp [hTL])))
        refine ⟨fun D X W hD hd hI K hK => ?_, ?_⟩
        · have a3 := hI.dt (3, .bool false) (by simp [hTL]) (hd ⟨3, .guard⟩ (by simp) rfl)
          have a7 := hI.dt (7, .string (strOf (encM m s))) (by simp [hTL]) (hd ⟨7, .data⟩ (by simp) rfl)
          have a9 := hI.dt (9, .string (strOf l)) (by simp [hTL]) (hd ⟨9, .data⟩ (by simp) rfl)
          exact stepO_run (v := .bool false) (w' := W) (by simp [Region.wanted, yielded, a3]) (by simp [go_sem, execOp, a3, a7, a9, e1]) (hK _ _ (hI.tell hLB 10 _ (Below.refl _ _) (by simp [hRL]) (by simp [hTL])))
        refine ⟨fun D X W hD hd hI K hK => ?_, ?_⟩
        · have a3 := hI.dt (3, .bool false) (by simp [hTL]) (hd ⟨3, .data⟩ (by simp) rfl)
          have a10 := hI.dt (10, .bool false) (by simp [hTL]) (hd ⟨10, .data⟩ (by simp) rfl)
          exact stepO_run (v := .bool false) (w' := W) (by simp [Region.wanted]) (by simp [go_sem, execOp, a3, a10]) (hK _ _ (hI.tell hLB 11 _ (Below.refl _ _) (by simp [hRL]) (by simp [hTL])))
        exact True.intro
      · intro D X W hD hI
        have a11 := hI.dt (11, .bool false) (by simp [hTL]) (hD 11 (by decide))
        have a11b : X 11 = .bool false := a11
        have HBx := Lib.hid (HB8.out.trans (hI.b.mono HB8.out.size))
        have HRx := Lib.hid (HR8.out.later hI.b)
        have HPx := Lib.hid (HP8.out.later hI.b)
        have HFx := Lib.hid (HF8.out.later hI.b)
        have HOx := Lib.hid (own_later HO8.out hI.b)
        clear hI hD a11 hKB hLB hRL hTL HCk HP8 HR8 HF8 HO8 HB8
        rw [a11b]
        simp only [List.drop_succ_cons, List.drop_zero]
        have hres := HRx.out
        go_wp2_with (first | (refine wpList_load_row rfl 36 (.tmp 5) rfl P rfl 36 #[.int .i64 m.e, .int .i64 m.c, .int .i64 m.i, .int .i64 m.p, .int .i64 m.x, .slice fa fn fc, .slice ia inn ic] (0, 0) _ HPx.out Tryd.underlying36 rfl (by kernel_rfl) ?_) | (refine wpList_store_row rfl 36 (.tmp 2) (.tmp 180) rfl w.heap.size (#[.int .i64 m.e, .int .i64 m.c, .int .i64 m.i, .int .i64 m.p, .int .i64 m.x, .slice fa fn fc, .slice ia inn ic]) (by first | rfl | simp [go_sem]) (by first | rfl | simp [go_sem]) 36 _ hres (by kernel_rfl) rfl (by simp [Value.oneCell']) ?_))
        (try simp only [Exit.inBlock, Exit.then])
        have hout : Out (fun g => g = w.heap.size) W (W.setRow w.heap.size #[.int .i64 m.e, .int .i64 m.c, .int .i64 m.i, .int .i64 m.p, .int .i64 m.x, .slice fa fn fc, .slice ia inn ic]) := out_row W w.heap.size _ rfl
        refine bodyPost_ret (results_row_tmp2 (p := 2) (u := 3) (v := 4) (ty := 36) rfl _ _ w.heap.size 36 #[.int .i64 m.e, .int .i64 m.c, .int .i64 m.i, .int .i64 m.p, .int .i64 m.x, .slice fa fn fc, .slice ia inn ic] _ (by simp) (blo_row HRx.out #[.int .i64 m.e, .int .i64 m.c, .int .i64 m.i, .int .i64 m.p, .int .i64 m.x, .slice fa fn fc, .slice ia inn ic]) Tryd.underlying36 rfl (by kernel_rfl)) rfl ⟨below_setRow HBx.out (Nat.le_refl _) _, fun h => (by rw [HOk.out] at h; cases h), fun _ => ?_⟩
        exact RDo.fin HEnd.out HOk.out rfl ((HFx.out.out hout (fun g e _ => by omega)).weak (by omega)) (own_out HOx.out hout (fun g e _ => by omega))
    · have HOk : Hid (okB l = false) := by
        show _ = _
        cases h : okB l with
        | false => rfl
        | true => exact absurd (hok.1 h).2 heq
      have e1 : ((strOf (encM m s)).toList == (strOf l).toList) = false := str_ne (encM_lt m s) hlt1 heq
      clear hok heq hk
      go_wp2_with fail
      obtain ⟨RL, hRL⟩ : ∃ RL : List (Nat × ObjL), RL = [(6, PBD (encM m s))] := ⟨_, rfl⟩
      obtain ⟨TL, hTL⟩ : ∃ TL : List (Nat × Value), TL = [(0, .agg #[.int .i64 m.e, .int .i64 m.c, .int .i64 m.i, .int .i64 m.p, .int .i64 m.x, .slice fa fn fc, .slice ia inn ic]), (1, .int .i64 0), (2, .bool false), (3, .bool false), (4, .agg #[.int .i64 m.e, .int .i64 m.c, .int .i64 m.i, .int .i64 m.p, .int .i64 m.x, .slice fa fn fc, .slice ia inn ic]), (5, .int .u32 (s : Int)), (7, .string (strOf (encM m s))), (8, .slice (some ⟨ob, oo, none⟩) 128 cap), (9, .string (strOf l)), (10, .bool true), (11, .bool true)] := ⟨_, rfl⟩
      have hKB : keysL RL := by intro x hx y hy e; simp only [hRL, List.mem_cons, List.not_mem_nil, or_false] at hx hy; rcases hx with rfl <;> rcases hy with rfl <;> first | rfl | (exfalso; simp at e; done) | fail
      have hLB : ∀ x ∈ RL, LaterP x.2 := by intro x hx; simp only [hRL, List.mem_cons, List.not_mem_nil, or_false] at hx; rcases hx with rfl; exact later_pbd _
      refine wp_region_inv (n := 12) [(0, 167), (1, 168), (2, 169), (3, 170), (4, 171), (5, 172), (6, 173), (7, 174), (8, 175), (9, 176), (10, 177), (11, 178)] (GL RL TL wy) (by kernel_rfl) (by kernel_rfl) (by kernel_rfl) (fun X => by simp only [putL, Act.put, List.setIfInBounds_toArray, List.set_cons_zero, List.set_cons_succ]; rfl) (fun X => GL.start (Below.refl _ _).drew) ?_ ?_
      · show StepsI _ _ _ _ _ 0 [_, _, _, _, _, _, _, _, _, _, _, _]
        refine ⟨fun D X W hD hd hI K hK => ?_, ?_⟩
        · exact stepO_load_row (by simp [Region.wanted]) 36 (.tmp 5) rfl P rfl 36 #[.int .i64 m.e, .int .i64 m.c, .int .i64 m.i, .int .i64 m.p, .int .i64 m.x, .slice fa fn fc, .slice ia inn ic] (0, 0) _ (HP8.out.later hI.b) Tryd.underlying36 rfl (by kernel_rfl) (hK _ _ (hI.tell hLB 0 _ (Below.refl _ _) (by simp [hRL]) (by simp [hTL])))
        refine ⟨fun D X W hD hd hI K hK => ?_, ?_⟩
        · have a0 := hI.dt (0, .agg #[.int .i64 m.e, .int .i64 m.c, .int .i64 m.i, .int .i64 m.p, .int .i64 m.x, .slice fa fn fc, .slice ia inn ic]) (by simp [hTL]) (hd ⟨0, .data⟩ (by simp) rfl)
          refine stepO_call (f := 54) (args := #[.agg #[.int .i64 m.e, .int .i64 m.c, .int .i64 m.i, .int .i64 m.p, .int .i64 m.x, .slice fa fn fc, .slice ia inn ic]]) (by simp [Region.wanted]) (by simp [go_sem, execOp, a0]) (HCk.out W hI.b) (fun e W' hr => ⟨_, hr.1, hK _ _ ?_⟩)
          exact hI.tell hLB 1 _ hr.2 (by simp [hRL]) (by simp [hTL])
        refine ⟨fun D X W hD hd hI K hK => ?_, ?_⟩
        · have a1 := hI.dt (1, .int .i64 0) (by simp [hTL]) (hd ⟨1, .data⟩ (by simp) rfl)
          exact stepO_run (v := .bool false) (w' := W) (by simp [Region.wanted]) (by simp [go_sem, execOp, a1]) (hK _ _ (hI.tell hLB 2 _ (Below.refl _ _) (by simp [hRL]) (by simp [hTL])))
        refine ⟨fun D X W hD hd hI K hK => ?_, ?_⟩
        · have a2 := hI.dt (2, .bool false) (by simp [hTL]) (hd ⟨2, .data⟩ (by simp) rfl)
          exact stepO_run (v := .bool false) (w' := W) (by simp [Region.wanted]) (by simp [go_sem, execOp, a2]) (hK _ _ (hI.tell hLB 3 _ (Below.refl _ _) (by simp [hRL]) (by simp [hTL])))
        refine ⟨fun D X W hD hd hI K hK => ?_, ?_⟩
        · have a3 := hI.dt (3, .bool false) (by simp [hTL]) (hd ⟨3, .guard⟩ (by simp) rfl)
          exact stepO_load_row (by simp [Region.wanted, yielded, a3]) 36 (.tmp 5) rfl P rfl 36 #[.int .i64 m.e, .int .i64 m.c, .int .i64 m.i, .int .i64 m.p, .int .i64 m.x, .slice fa fn fc, .slice ia inn ic] (0, 0) _ (HP8.out.later hI.b) Tryd.underlying36 rfl (by kernel_rfl) (hK _ _ (hI.tell hLB 4 _ (Below.refl _ _) (by simp [hRL]) (by simp [hTL])))
        refine ⟨fun D X W hD hd hI K hK => ?_, ?_⟩
        · have a3 := hI.dt (3, .bool false) (by simp [hTL]) (hd ⟨3, .guard⟩ (by simp) rfl)
          exact stepO_run (v := .int .u32 (s : Int)) (w' := W) (by simp [Region.wanted, yielded, a3]) (by simp [go_sem, execOp, a3]) (hK _ _ (hI.tell hLB 5 _ (Below.refl _ _) (by simp [hRL]) (by simp [hTL])))
        refine ⟨fun D X W hD hd hI K hK => ?_, ?_⟩
        · have a3 := hI.dt (3, .bool false) (by simp [hTL]) (hd ⟨3, .chain⟩ (by simp) rfl)
          have a4 := hI.dt (4, .agg #[.int .i64 m.e, .int .i64 m.c, .int .i64 m.i, .int .i64 m.p, .int .i64 m.x, .slice fa fn fc, .slice ia inn ic]) (by simp [hTL]) (hd ⟨4, .data⟩ (by simp) rfl)
          have a5 := hI.dt (5, .int .u32 (s : Int)) (by simp [hTL]) (hd ⟨5, .data⟩ (by simp) rfl)
          refine stepO_call (f := 57) (args := #[.agg #[.int .i64 m.e, .int .i64 m.c, .int .i64 m.i, .int .i64 m.p, .int .i64 m.x, .slice fa fn fc, .slice ia inn ic], .int .u32 (s : Int)]) (by simp [Region.wanted, yielded, a3]) (by simp [go_sem, execOp, a3, a4, a5]) (HEn.out W hI.b) (fun e W' hr => ?_)
          obtain ⟨xa, xc, he, hy, hb⟩ := hr
          exact ⟨_, he, hK _ _ (hI.fresh hKB hLB 6 _ (PBD (encM m s)) (by simp [hRL]) hb ⟨xa, xc, rfl, hy⟩ (by simp [hTL]))⟩
        refine ⟨fun D X W hD hd hI K hK => ?_, ?_⟩
        · have a3 := hI.dt (3, .bool false) (by simp [hTL]) (hd ⟨3, .guard⟩ (by simp) rfl)
          have r6 := hI.rows (6, PBD (encM m s)) (by simp [hRL]) (hd ⟨6, .data⟩ (by simp) rfl)
          obtain ⟨xa, xc, hx, hy⟩ := r6
          have hx2 : X 6 = _ := hx
          have hcv := HCv.out W xa xc hy
          exact stepO_run (v := .string (strOf (encM m s))) (w' := W) (by simp [Region.wanted, yielded, a3]) (by simp [go_sem, execOp, hx2, hcv]) (hK _ _ (hI.tell hLB 7 _ (Below.refl _ _) (by simp [hRL]) (by simp [hTL])))
        refine ⟨fun D X W hD hd hI K hK => ?_, ?_⟩
        · have a3 := hI.dt (3, .bool false) (by simp [hTL]) (hd ⟨3, .guard⟩ (by simp) rfl)
          exact stepO_run (v := .slice (some ⟨ob, oo, none⟩) 128 cap) (w' := W) (by simp [Region.wanted, yielded, a3]) (by simp [go_sem, execOp, a3]) (hK _ _ (hI.tell hLB 8 _ (Below.refl _ _) (by simp [hRL]) (by simp [hTL])))
        refine ⟨fun D X W hD hd hI K hK => ?_, ?_⟩
        · have a3 := hI.dt (3, .bool false) (by simp [hTL]) (hd ⟨3, .guard⟩ (by simp) rfl)
          have a8 := hI.dt (8, .slice (some ⟨ob, oo, none⟩) 128 cap) (by simp [hTL]) (hd ⟨8, .data⟩ (by simp) rfl)
          have hcv := HCw.out W hI.b
          exact stepO_run (v := .string (strOf l)) (w' := W) (by simp [Region.wanted, yielded, a3]) (by simp [go_sem, execOp, a3, a8, hcv]) (hK _ _ (hI.tell hLB 9 _ (Below.refl _ _) (by simp [hRL]) (by simp [hTL])))
        refine ⟨fun D X W hD hd hI K hK => ?_, ?_⟩
        · have a3 := hI.dt (3, .bool false) (by simp [hTL]) (hd ⟨3, .guard⟩ (by simp) rfl)
          have a7 := hI.dt (7, .string (strOf (encM m s))) (by simp [hTL]) (hd ⟨7, .data⟩ (by simp) rfl)
          have a9 := hI.dt (9, .string (strOf l)) (by simp [hTL]) (hd ⟨9, .data⟩ (by simp) rfl)
          exact stepO_run (v := .bool true) (w' := W) (by simp [Region.wanted, yielded, a3]) (by simp [go_sem, execOp, a3, a7, a9, e1]) (hK _ _ (hI.tell hLB 10 _ (Below.refl _ _) (by simp [hRL]) (by simp [hTL])))
        refine ⟨fun D X W hD hd hI K hK => ?_, ?_⟩
        · have a3 := hI.dt (3, .bool false) (by simp [hTL]) (hd ⟨3, .data⟩ (by simp) rfl)
          have a10 := hI.dt (10, .bool true) (by simp [hTL]) (hd ⟨10, .data⟩ (by simp) rfl)
          exact stepO_run (v := .bool true) (w' := W) (by simp [Region.wanted]) (by simp [go_sem, execOp, a3, a10]) (hK _ _ (hI.tell hLB 11 _ (Below.refl _ _) (by simp [hRL]) (by simp [hTL])))
        exact True.intro
      · intro D X W hD hI
        have a11 := hI.dt (11, .bool true) (by simp [hTL]) (hD 11 (by decide))
        have a11b : X 11 = .bool true := a11
        have HBx := Lib.hid (HB8.out.trans (hI.b.mono HB8.out.size))
        have HRx := Lib.hid (HR8.out.later hI.b)
        have HPx := Lib.hid (HP8.out.later hI.b)
        have HFx := Lib.hid (HF8.out.later hI.b)
        have HOx := Lib.hid (own_later HO8.out hI.b)
        clear hI hD a11 hKB hLB hRL hTL HCk HP8 HR8 HF8 HO8 HB8
        rw [a11b]
        simp only [List.drop_succ_cons, List.drop_zero]
        have hres := HRx.out
        go_wp2_with (refine wpList_store_row rfl 36 (.tmp 2) (.tmp 179) rfl w.heap.size (#[.int .i64 0, .int .i64 0, .int .i64 0, .int .i64 0, .int .i64 0, .slice none 0 0, .slice none 0 0]) (by first | rfl | simp [go_sem]) (by first | rfl | simp [go_sem]) 36 _ hres (by kernel_rfl) rfl (by simp [Value.oneCell']) ?_)
        (try simp only [Exit.inBlock, Exit.then])
        refine bodyPost_ret (results_row_tmp2 (p := 2) (u := 3) (v := 4) (ty := 36) rfl _ _ w.heap.size 36 #[.int .i64 0, .int .i64 0, .int .i64 0, .int .i64 0, .int .i64 0, .slice none 0 0, .slice none 0 0] _ (by simp) (blo_row HRx.out #[.int .i64 0, .int .i64 0, .int .i64 0, .int .i64 0, .int .i64 0, .slice none 0 0, .slice none 0 0]) Tryd.underlying36 rfl (by kernel_rfl)) rfl ⟨below_setRow HBx.out (Nat.le_refl _) _, fun _ => rfl, fun h => by rw [HOk.out] at h; cases h⟩
  · have HOk : Hid (okB l = false) := by
      show _ = _
      cases h : okB l with
      | false => rfl
      | true => exact absurd (hok.1 h).1 hk
    obtain ⟨z, hzz⟩ : ∃ z, chkM m = z := ⟨_, rfl⟩
    rw [hzz] at HCk hk
    have hz : (z != 0) = true := by simp [hk]
    have hz2 : (z == 0) = false := by simp [hk]
    clear hok hk hzz
    go_wp2_with fail
    obtain ⟨RL, hRL⟩ : ∃ RL : List (Nat × ObjL), RL = [] := ⟨_, rfl⟩
    obtain ⟨TL, hTL⟩ : ∃ TL : List (Nat × Value), TL = [(0, .agg #[.int .i64 m.e, .int .i64 m.c, .int .i64 m.i, .int .i64 m.p, .int .i64 m.x, .slice fa fn fc, .slice ia inn ic]), (1, .int .i64 z), (2, .bool true), (3, .bool true), (4, undef), (5, undef), (6, undef), (7, undef), (8, undef), (9, undef), (10, undef), (11, .bool true)] := ⟨_, rfl⟩
    have hKB : keysL RL := by intro x hx; simp [hRL] at hx
    have hLB : ∀ x ∈ RL, LaterP x.2 := by intro x hx; simp [hRL] at hx
    refine wp_region_inv (n := 12) [(0, 167), (1, 168), (2, 169), (3, 170), (4, 171), (5, 172), (6, 173), (7, 174), (8, 175), (9, 176), (10, 177), (11, 178)] (GL RL TL wy) (by kernel_rfl) (by kernel_rfl) (by kernel_rfl) (fun X => by simp only [putL, Act.put, List.setIfInBounds_toArray, List.set_cons_zero, List.set_cons_succ]; rfl) (fun X => GL.start (Below.refl _ _).drew) ?_ ?_
    · show StepsI _ _ _ _ _ 0 [_, _, _, _, _, _, _, _, _, _, _, _]
      refine ⟨fun D X W hD hd hI K hK => ?_, ?_⟩
      · exact stepO_load_row (by simp [Region.wanted]) 36 (.tmp 5) rfl P rfl 36 #[.int .i64 m.e, .int .i64 m.c, .int .i64 m.i, .int .i64 m.p, .int .i64 m.x, .slice fa fn fc, .slice ia inn ic] (0, 0) _ (HP8.out.later hI.b) Tryd.underlying36 rfl (by kernel_rfl) (hK _ _ (hI.tell hLB 0 _ (Below.refl _ _) (by simp [hRL]) (by simp [hTL])))
      refine ⟨fun D X W hD hd hI K hK => ?_, ?_⟩
      · have a0 := hI.dt (0, .agg #[.int .i64 m.e, .int .i64 m.c, .int .i64 m.i, .int .i64 m.p, .int .i64 m.x, .slice fa fn fc, .slice ia inn ic]) (by simp [hTL]) (hd ⟨0, .data⟩ (by simp) rfl)
        refine stepO_call (f := 54) (args := #[.agg #[.int .i64 m.e, .int .i64 m.c, .int .i64 m.i, .int .i64 m.p, .int .i64 m.x, .slice fa fn fc, .slice ia inn ic]]) (by simp [Region.wanted]) (by simp [go_sem, execOp, a0]) (HCk.out W hI.b) (fun e W' hr => ⟨_, hr.1, hK _ _ ?_⟩)
        exact hI.tell hLB 1 _ hr.2 (by simp [hRL]) (by simp [hTL])
      refine ⟨fun D X W hD hd hI K hK => ?_, ?_⟩
      · have a1 := hI.dt (1, .int .i64 z) (by simp [hTL]) (hd ⟨1, .data⟩ (by simp) rfl)
        exact stepO_run (v := .bool true) (w' := W) (by simp [Region.wanted]) (by simp [go_sem, execOp, a1, hz]) (hK _ _ (hI.tell hLB 2 _ (Below.refl _ _) (by simp [hRL]) (by simp [hTL])))
      refine ⟨fun D X W hD hd hI K hK => ?_, ?_⟩
      · have a2 := hI.dt (2, .bool true) (by simp [hTL]) (hd ⟨2, .data⟩ (by simp) rfl)
        exact stepO_run (v := .bool true) (w' := W) (by simp [Region.wanted]) (by simp [go_sem, execOp, a2]) (hK _ _ (hI.tell hLB 3 _ (Below.refl _ _) (by simp [hRL]) (by simp [hTL])))
      refine ⟨fun D X W hD hd hI K hK => ?_, ?_⟩
      · have a3 := hI.dt (3, .bool true) (by simp [hTL]) (hd ⟨3, .guard⟩ (by simp) rfl)
        rw [if_neg (by simp [Region.wanted, yielded, a3])]
        exact hK _ _ (hI.tell hLB 4 _ (Below.refl _ _) (by simp [hRL]) (by simp [hTL]))
      refine ⟨fun D X W hD hd hI K hK => ?_, ?_⟩
      · have a3 := hI.dt (3, .bool true) (by simp [hTL]) (hd ⟨3, .guard⟩ (by simp) rfl)
        rw [if_neg (by simp [Region.wanted, yielded, a3])]
        exact hK _ _ (hI.tell hLB 5 _ (Below.refl _ _) (by simp [hRL]) (by simp [hTL]))
      refine ⟨fun D X W hD hd hI K hK => ?_, ?_⟩
      · have a3 := hI.dt (3, .bool true) (by simp [hTL]) (hd ⟨3, .chain⟩ (by simp) rfl)
        have a4 := hI.dt (4, undef) (by simp [hTL]) (hd ⟨4, .data⟩ (by simp) rfl)
        have a5 := hI.dt (5, undef) (by simp [hTL]) (hd ⟨5, .data⟩ (by simp) rfl)
        rw [if_neg (by simp [Region.wanted, yielded, a3])]
        exact hK _ _ (hI.tell hLB 6 _ (Below.refl _ _) (by simp [hRL]) (by simp [hTL]))
      refine ⟨fun D X W hD hd hI K hK => ?_, ?_⟩
      · have a3 := hI.dt (3, .bool true) (by simp [hTL]) (hd ⟨3, .guard⟩ (by simp) rfl)
        have a6 := hI.dt (6, undef) (by simp [hTL]) (hd ⟨6, .data⟩ (by simp) rfl)
        rw [if_neg (by simp [Region.wanted, yielded, a3])]
        exact hK _ _ (hI.tell hLB 7 _ (Below.refl _ _) (by simp [hRL]) (by simp [hTL]))
      refine ⟨fun D X W hD hd hI K hK => ?_, ?_⟩
      · have a3 := hI.dt (3, .bool true) (by simp [hTL]) (hd ⟨3, .guard⟩ (by simp) rfl)
        rw [if_neg (by simp [Region.wanted, yielded, a3])]
        exact hK _ _ (hI.tell hLB 8 _ (Below.refl _ _) (by simp [hRL]) (by simp [hTL]))
      refine ⟨fun D X W hD hd hI K hK => ?_, ?_⟩
      · have a3 := hI.dt (3, .bool true) (by simp [hTL]) (hd ⟨3, .guard⟩ (by simp) rfl)
        have a8 := hI.dt (8, undef) (by simp [hTL]) (hd ⟨8, .data⟩ (by simp) rfl)
        rw [if_neg (by simp [Region.wanted, yielded, a3])]
        exact hK _ _ (hI.tell hLB 9 _ (Below.refl _ _) (by simp [hRL]) (by simp [hTL]))
      refine ⟨fun D X W hD hd hI K hK => ?_, ?_⟩
      · have a3 := hI.dt (3, .bool true) (by simp [hTL]) (hd ⟨3, .guard⟩ (by simp) rfl)
        have a7 := hI.dt (7, undef) (by simp [hTL]) (hd ⟨7, .data⟩ (by simp) rfl)
        have a9 := hI.dt (9, undef) (by simp [hTL]) (hd ⟨9, .data⟩ (by simp) rfl)
        rw [if_neg (by simp [Region.wanted, yielded, a3])]
        exact hK _ _ (hI.tell hLB 10 _ (Below.refl _ _) (by simp [hRL]) (by simp [hTL]))
      refine ⟨fun D X W hD hd hI K hK => ?_, ?_⟩
      · have a3 := hI.dt (3, .bool true) (by simp [hTL]) (hd ⟨3, .data⟩ (by simp) rfl)
        have a10 := hI.dt (10, undef) (by simp [hTL]) (hd ⟨10, .data⟩ (by simp) rfl)
        exact stepO_run (v := .bool true) (w' := W) (by simp [Region.wanted]) (by simp [go_sem, execOp, a3, a10]) (hK _ _ (hI.tell hLB 11 _ (Below.refl _ _) (by simp [hRL]) (by simp [hTL])))
      exact True.intro
    · intro D X W hD hI
      have a11 := hI.dt (11, .bool true) (by simp [hTL]) (hD 11 (by decide))
      have a11b : X 11 = .bool true := a11
      have HBx := Lib.hid (HB8.out.trans (hI.b.mono HB8.out.size))
      have HRx := Lib.hid (HR8.out.later hI.b)
      have HPx := Lib.hid (HP8.out.later hI.b)
      have HFx := Lib.hid (HF8.out.later hI.b)
      have HOx := Lib.hid (own_later HO8.out hI.b)
      clear hI hD a11 hKB hLB hRL hTL HCk HP8 HR8 HF8 HO8 HB8
      rw [a11b]
      simp only [List.drop_succ_cons, List.drop_zero]
      have hres := HRx.out
      go_wp2_with (refine wpList_store_row rfl 36 (.tmp 2) (.tmp 179) rfl w.heap.size (#[.int .i64 0, .int .i64 0, .int .i64 0, .int .i64 0, .int .i64 0, .slice none 0 0, .slice none 0 0]) (by first | rfl | simp [go_sem]) (by first | rfl | simp [go_sem]) 36 _ hres (by kernel_rfl) rfl (by simp [Value.oneCell']) ?_)
      (try simp only [Exit.inBlock, Exit.then])
      refine bodyPost_ret (results_row_tmp2 (p := 2) (u := 3) (v := 4) (ty := 36) rfl _ _ w.heap.size 36 #[.int .i64 0, .int .i64 0, .int .i64 0, .int .i64 0, .int .i64 0, .slice none 0 0, .slice none 0 0] _ (by simp) (blo_row HRx.out #[.int .i64 0, .int .i64 0, .int .i64 0, .int .i64 0, .int .i64 0, .slice none 0 0, .slice none 0 0]) Tryd.underlying36 rfl (by kernel_rfl)) rfl ⟨below_setRow HBx.out (Nat.le_refl _) _, fun _ => rfl, fun h => by rw [HOk.out] at h; cases h⟩
end Go.Proofs.YtlkgaefabahkoaaDoor
/-
  Partial segments, the document's side: Write.
-/
namespace Go.Proofs.YtlkgaefabahkoaaDoor
open Go.RowKit

/-- The document's disk and a summary in boxes, and what is answered in a third. -/
structure WdR (w : World) (sa qa : Option Addr) (sc qc : Nat) (d : Dm) (pv : Array Value) (wr : World) : Prop where
  mr : Mr wr sa qa sc qc d
  box : Blo wr w.heap.size RDT (agR sa qa sc qc d)
  par : Blo wr (w.heap.size + 1) PT pv
  res : Blo wr (w.heap.size + 2) RDT zdk
  below : Below w.heap.size w wr
section
variable {w w' W : World} {d : Dm} {sa qa : Option Addr} {sc qc : Nat} {pv : Array Value}
theorem WdR.later (h : WdR w sa qa sc qc d pv W) (hb : Below W.heap.size W w') : WdR w sa qa sc qc d pv w' :=
  ⟨h.mr.later hb, h.box.later hb, h.par.later hb, h.res.later hb, h.below.trans (hb.mono h.below.size)⟩
theorem WdR.put {sa2 qa2 : Option Addr} {sc2 qc2 : Nat} {d2 : Dm} (h : WdR w sa qa sc qc d pv W) (hm : Mr W sa2 qa2 sc2 qc2 d2) : WdR w sa2 qa2 sc2 qc2 d2 pv (W.setRow w.heap.size (agR sa2 qa2 sc2 qc2 d2)) :=
  have ho := out_row (X := fun j => j = w.heap.size) W w.heap.size (agR sa2 qa2 sc2 qc2 d2) rfl
  ⟨hm.row h.box, blo_row h.box _, ho.blo h.par (by omega), ho.blo h.res (by omega), below_setRow h.below (Nat.le_refl _) _⟩
theorem WdR.out (h : WdR w sa qa sc qc d pv W) (c : Int) : MrO w d c (.returned (.tuple #[.agg (agR sa qa sc qc d), .int .i64 c])) (W.setRow (w.heap.size + 2) (agR sa qa sc qc d)) :=
  ⟨sa, qa, sc, qc, rfl, h.mr.row h.res, below_setRow h.below (by omega) _⟩
theorem WdR.start (hm : Mr w sa qa sc qc d) (pv : Array Value) : WdR w sa qa sc qc d pv (((w.alloc (.cells (agR sa qa sc qc d) RDT)).alloc (.cells pv PT)).alloc (.cells zdk RDT)) := by
  have hb : Below w.heap.size w (((w.alloc (.cells (agR sa qa sc qc d) RDT)).alloc (.cells pv PT)).alloc (.cells zdk RDT)) := (((Below.refl _ _).alloc (Nat.le_refl _) _).alloc (by simp) _).alloc (by simp; omega) _
  have hp := blo_laid (w.alloc (.cells (agR sa qa sc qc d) RDT)) PT pv
  rw [World.size_alloc] at hp
  have hz := blo_laid ((w.alloc (.cells (agR sa qa sc qc d) RDT)).alloc (.cells pv PT)) RDT zdk
  rw [World.size_alloc, World.size_alloc] at hz
  exact ⟨hm.later hb, ((blo_laid w RDT (agR sa qa sc qc d)).alloc _).alloc _, hp.alloc _, hz, hb⟩
theorem wrB_no {n : Nat} {addr x : Int} {fs : List Fi} {is : List Int} {ls : List (List Nat)} (h : ¬ wrB n addr x fs is ls = true) : wrB n addr x fs is ls = false := by
  cases hb : wrB n addr x fs is ls with
  | true => exact absurd hb h
  | false => rfl
set_option maxRecDepth 100000 in
set_option maxHeartbeats 16000000 in
theorem mwrite_bad (addr : Int) (m : Sm) (fa : Option Addr) (fn fc : Nat) (ia : Option Addr) (inn ic : Nat) (hF : Fis w fa m.fs) (hfn : fn = m.fs.length) (hs : szF m.fs ≤ 1000000) (hI : Ints w ia m.is) (hin : inn = m.is.length) (hi : inn ≤ 1000000) (hlb : ∀ x ∈ m.fs, ∀ n ∈ x.lb, -9223372036854775808 ≤ n ∧ n ≤ 9223372036854775807)
    (a : Option Addr) (n cap : Nat) (ls : List (List Nat)) (hn : n = ls.length) (hn2 : n ≤ 10000) (hR : Rds w a (cellsS (nthL ls) n)) (hby : ∀ l ∈ ls, ∀ x ∈ l, x < 256) (hrd : Rd d (n + 6)) (hm : Mr w sa qa sc qc d) (hno : chkM m = 0 → wrB d.n addr m.x m.fs m.is ls = false) :
    Calls Tryd.prog 18 #[.agg (agR sa qa sc qc d), .int .i64 addr, part m.e m.c m.i m.p m.x fa fn fc ia inn ic, .slice a n cap] w (MrO w (segW d addr m ls).1 (segW d addr m ls).2) := by
  have HSt := Lib.hid (WdR.start hm #[.int .i64 m.e, .int .i64 m.c, .int .i64 m.i, .int .i64 m.p, .int .i64 m.x, .slice fa fn fc, .slice ia inn ic])
  obtain ⟨w1, hw1⟩ : ∃ w1, ((w.alloc (.cells (agR sa qa sc qc d) RDT)).alloc (.cells #[.int .i64 m.e, .int .i64 m.c, .int .i64 m.i, .int .i64 m.p, .int .i64 m.x, .slice fa fn fc, .slice ia inn ic] PT)).alloc (.cells zdk RDT) = w1 := ⟨_, rfl⟩
  rw [hw1] at HSt
  have HF := Lib.hid hF
  have HI := Lib.hid hI
  have HRd := Lib.hid hrd
  have HR := Lib.hid hR
  have HBy := Lib.hid hby
  have HN := Lib.hid hn
  have hfew := hrd.dn.few
  have HCk := Lib.hid (rcheck_any (w := w1) m.e m.c m.i m.p m.x m.fs m.is fa fn fc ia inn ic (hF.later HSt.out.below) hfn (by omega) (hI.below HSt.out.below) hin (by omega) hlb)
  have HBk := Lib.hid (fun (W : World) (hb : Below w.heap.size w W) => rblocks_any (w := W) m.e m.c m.i m.p m.x fa fn fc ia inn ic (hF.later hb) hfn (by omega) (show inn ≤ 1000000000 by omega))
  have HFn := Lib.hid hfn
  have HIn := Lib.hid hin
  have HLb := Lib.hid hlb
  have hbl := blF_szF m.fs
  clear hF hI hrd hR hby hn hm hfn hin hlb
  unfold agR at hw1 ⊢
  have y0 := HSt.out.box.cell 0
  simp [agR] at y0
  have p0 := HSt.out.par.cell 0
  have p1 := HSt.out.par.cell 1
  have p2 := HSt.out.par.cell 2
  have p3 := HSt.out.par.cell 3
  have p4 := HSt.out.par.cell 4
  have p5 := HSt.out.par.cell 5
  have p6 := HSt.out.par.cell 6
  simp at p0 p1 p2 p3 p4 p5 p6
  by_cases hck : chkM m = 0
  · have HCk0 : Hid (Calls Tryd.prog 54 #[part m.e m.c m.i m.p m.x fa fn fc ia inn ic] w1 fun en w' => en = .returned (.int .i64 0) ∧ Below w1.heap.size w1 w') := HCk.out.mono fun e w' h => ⟨by rw [← hck]; exact h.1, h.2⟩
    have HX0 : Hid (0 ≤ m.x ∧ m.x ≤ 4095) := ⟨(good_of hck).x.1, (good_of hck).x.2⟩
    have hwb := hno hck
    have HSx : Hid (segW d addr m ls = (d, 22)) := by
      show segW d addr m ls = _
      unfold segW
      rw [if_neg (fun h => h hck), if_pos hwb]
    have HWb := Lib.hid hwb
    clear hwb
    have hbk : 2 + inn + blF m.fs = blks m.fs m.is := by unfold blks; rw [HIn.out]
    rw [hbk] at HBk
    clear HCk hck hbk
    obtain ⟨bk, hbk⟩ : ∃ bk, blks m.fs m.is = bk := ⟨_, rfl⟩
    have hbk2 : bk ≤ 2000002 ∧ 2 ≤ bk := by
      rw [← hbk]
      unfold blks
      rw [← HIn.out]
      omega
    rw [hbk] at HBk
    go_enter Tryd.func18, Tryd.ntmps18
    go_wp2_with fail
    refine HCk0.out.mono ?_
    rintro e w2 ⟨rfl, hb2⟩
    have HS2 := Lib.hid (HSt.out.later hb2)
    clear hb2 HSt HCk0 hw1 y0 p0 p1 p2 p3 p4 p5 p6
    have y0 := HS2.out.box.cell 0
    simp [agR] at y0
    have p0 := HS2.out.par.cell 0
    have p1 := HS2.out.par.cell 1
    have p2 := HS2.out.par.cell 2
    have p3 := HS2.out.par.cell 3
    have p4 := HS2.out.par.cell 4
    have p5 := HS2.out.par.cell 5
    have p6 := HS2.out.par.cell 6
    simp at p0 p1 p2 p3 p4 p5 p6
    go_wp2_with fail
    refine (HBk.out w2 HS2.out.below).mono ?_
    rintro e w3 ⟨rfl, hb3⟩
    have HS3 := Lib.hid (HS2.out.later hb3)
    clear hb3 HS2 HBk y0 p0 p1 p2 p3 p4 p5 p6
    have y0 := HS3.out.box.cell 0
    simp [agR] at y0
    have p4 := HS3.out.par.cell 4
    simp at p4
    by_cases hbad : (n : Int) ≠ (bk : Int) - 2 ∨ addr < 0 ∨ (d.n : Int) - (bk : Int) < addr ∨ (d.n : Int) - 2 < m.x
    · have hcs : ((n : Int) != (bk : Int) - 2) = true ∨ (((n : Int) != (bk : Int) - 2) = false ∧ addr < 0) ∨ (((n : Int) != (bk : Int) - 2) = false ∧ ¬ addr < 0 ∧ (d.n : Int) - (bk : Int) < addr) ∨ (((n : Int) != (bk : Int) - 2) = false ∧ ¬ addr < 0 ∧ ¬ (d.n : Int) - (bk : Int) < addr ∧ (d.n : Int) - 2 < m.x) := by
        by_cases h1 : (n : Int) = (bk : Int) - 2
        · have e1 : ((n : Int) != (bk : Int) - 2) = false := by simp [h1]
          by_cases h2 : addr < 0
          · exact .inr (.inl ⟨e1, h2⟩)
          · by_cases h3 : (d.n : Int) - (bk : Int) < addr
            · exact .inr (.inr (.inl ⟨e1, h2, h3⟩))
            · exact .inr (.inr (.inr ⟨e1, h2, h3, by omega⟩))
        · exact .inl (by simp [h1])
      clear hbad
      rcases hcs with h1 | ⟨h1, h2⟩ | ⟨h1, h2, h3⟩ | ⟨h1, h2, h3, h4⟩
      all_goals
        go_upto_region 6 with (fail)
        have hg1 := HS3.out.box
        have hg2 := HS3.out.res
        clear y0 p4
        go_wp2_with (first | (refine wpList_load_row rfl RDT (.tmp 4) rfl w.heap.size rfl RDT (agR sa qa sc qc d) (0, 0) _ hg1 Tryd.underlying29 rfl (by kernel_rfl) ?_) | (refine wpList_store_row rfl RDT (.tmp 8) (.tmp 51) rfl (w.heap.size + 2) (agR sa qa sc qc d) (by first | rfl | simp [go_sem]) (by first | rfl | simp [go_sem]) RDT _ hg2 (by kernel_rfl) rfl (by simp [agR, Value.oneCell']) ?_))
        (try simp only [Exit.inBlock, Exit.then])
        refine bodyPost_ret (results_row_tmp (p := 8) (u := 9) (ty := RDT) rfl _ _ (w.heap.size + 2) RDT (agR sa qa sc qc d) _ (by simp [Act.put]) (blo_row HS3.out.res _) Tryd.underlying29 rfl (by kernel_rfl)) rfl ?_
        show MrO _ _ _ _ _
        rw [HSx.out]
        exact HS3.out.out 22
    · have hnb : n + 2 = bk := by omega
      have ha0 : 0 ≤ addr := by omega
      have han : addr + (bk : Int) ≤ (d.n : Int) := by omega
      have hxn : m.x + 2 ≤ (d.n : Int) := by omega
      have h1f : ((n : Int) != (bk : Int) - 2) = false := by
        have : (n : Int) = (bk : Int) - 2 := by omega
        simp [this]
      have hn2' : ¬ addr < 0 := by omega
      have hn3 : ¬ (d.n : Int) - (bk : Int) < addr := by omega
      have hn4 : ¬ (d.n : Int) - 2 < m.x := by omega
      obtain ⟨hx0, hx1⟩ := HX0.out
      clear hbad
      go_upto_region 7 with (fail)
      clear y0 hn3 hn4 h1f hn2'
      go_wp2_with fail
      go_loopw [12] (fun t wr => ∃ k : Nat, k ≤ bk ∧ t = .int .i64 (addr + ((k : Nat) : Int)) ∧ wr = w3 ∧ ∀ j : Nat, j < k → addr + (j : Int) ≠ m.x ∧ addr + (j : Int) ≠ m.x + 1) (fun t _ => 5000 - (intOf t).toNat)
      case atStart => exact ⟨0, Nat.zero_le _, by simp, rfl, fun j hj => by omega⟩
      case round =>
        obtain ⟨k, hk, rfl, rfl, hfree⟩ := hrel
        by_cases hkb : k < bk
        · by_cases e1 : addr + ((k : Nat) : Int) = m.x
          · go_upto_region 11 with (fail)
            clear p4
            have hg1 := HS3.out.box
            have hg2 := HS3.out.res
            go_wp2_with (first | (refine wpList_load_row rfl RDT (.tmp 4) rfl w.heap.size rfl RDT (agR sa qa sc qc d) (0, 0) _ hg1 Tryd.underlying29 rfl (by kernel_rfl) ?_) | (refine wpList_store_row rfl RDT (.tmp 8) (.tmp 71) rfl (w.heap.size + 2) (agR sa qa sc qc d) (by first | rfl | simp [go_sem]) (by first | rfl | simp [go_sem]) RDT _ hg2 (by kernel_rfl) rfl (by simp [agR, Value.oneCell']) ?_))
            (try simp only [Exit.inBlock, Exit.then])
            refine bodyPost_ret (results_row_tmp (p := 8) (u := 9) (ty := RDT) rfl _ _ (w.heap.size + 2) RDT (agR sa qa sc qc d) _ (by simp [Act.put]) (blo_row HS3.out.res _) Tryd.underlying29 rfl (by kernel_rfl)) rfl ?_
            show MrO _ _ _ _ _
            rw [HSx.out]
            exact HS3.out.out 22
          · by_cases e2 : addr + ((k : Nat) : Int) = m.x + 1
            · go_upto_region 11 with (fail)
              clear p4
              have hg1 := HS3.out.box
              have hg2 := HS3.out.res
              go_wp2_with (first | (refine wpList_load_row rfl RDT (.tmp 4) rfl w.heap.size rfl RDT (agR sa qa sc qc d) (0, 0) _ hg1 Tryd.underlying29 rfl (by kernel_rfl) ?_) | (refine wpList_store_row rfl RDT (.tmp 8) (.tmp 71) rfl (w.heap.size + 2) (agR sa qa sc qc d) (by first | rfl | simp [go_sem]) (by first | rfl | simp [go_sem]) RDT _ hg2 (by kernel_rfl) rfl (by simp [agR, Value.oneCell']) ?_))
              (try simp only [Exit.inBlock, Exit.then])
              refine bodyPost_ret (results_row_tmp (p := 8) (u := 9) (ty := RDT) rfl _ _ (w.heap.size + 2) RDT (agR sa qa sc qc d) _ (by simp [Act.put]) (blo_row HS3.out.res _) Tryd.underlying29 rfl (by kernel_rfl)) rfl ?_
              show MrO _ _ _ _ _
              rw [HSx.out]
              exact HS3.out.out 22
            · have q1 : (addr + ((k : Nat) : Int) == m.x) = false := by simp [e1]
              have q2 : (addr + ((k : Nat) : Int) == m.x + 1) = false := by simp [e2]
              go_wp2_with fail
              refine ⟨⟨k + 1, by omega, by rw [Int.add_assoc]; rfl, trivial, fun j hj => ?_⟩, ?_⟩
              · by_cases ej : j = k
                · subst ej; exact ⟨e1, e2⟩
                · exact hfree j (by omega)
              · simp [intOf]
                omega
        · obtain rfl : k = bk := by omega
          have hov : m.x + 2 ≤ addr ∨ addr + ((k : Nat) : Int) ≤ m.x := by
            by_cases q1 : m.x + 2 ≤ addr
            · exact .inl q1
            · by_cases q2 : addr + ((k : Nat) : Int) ≤ m.x
              · exact .inr q2
              · exfalso
                by_cases q3 : addr ≤ m.x
                · exact (hfree (m.x - addr).toNat (by omega)).1 (by omega)
                · exact (hfree (m.x + 1 - addr).toNat (by omega)).2 (by omega)
          clear hfree
          go_wp2_with fail
          go_loopw [74] (fun t wr' => ∃ j : Nat, j ≤ n ∧ t = .int .i64 ((j : Nat) : Int) ∧ wr' = wr ∧ ∀ q : Nat, q < j → (nthL ls q).length = 64) (fun t _ => n - (intOf t).toNat)
          case atStart => exact ⟨0, Nat.zero_le _, rfl, rfl, fun q hq => by omega⟩
          case round =>
            obtain ⟨j, hj, rfl, rfl, hall⟩ := hrel
            by_cases hjn : j < n
            · obtain ⟨b, o, rfl, hc⟩ := HR.out j (.string (strOf (nthL ls j))) (by simp [cellsS, hjn])
              have c0 := cell_later HS3.out.below hc
              have hsz := strOf_size (nthL ls j)
              have i1 : (0 : Int) ≤ (j : Int) := by omega
              have i2 : (j : Int) < (n : Int) := by omega
              by_cases e1 : (nthL ls j).length = 64
              · have q1 : (((strOf (nthL ls j)).size : Int) != 64) = false := by rw [hsz, e1]; rfl
                clear hc
                go_wp2_with fail
                refine ⟨⟨j + 1, by omega, by simp, trivial, fun q hq => ?_⟩, ?_⟩
                · by_cases ej : q = j
                  · subst ej; exact e1
                  · exact hall q (by omega)
                · simp [intOf]
                  omega
              · have q1 : (((strOf (nthL ls j)).size : Int) != 64) = true := by rw [hsz]; simp; omega
                clear hc
                go_upto_region 16 with (fail)
                clear p4 c0
                have hg1 := HS3.out.box
                have hg2 := HS3.out.res
                go_wp2_with (first | (refine wpList_load_row rfl RDT (.tmp 4) rfl w.heap.size rfl RDT (agR sa qa sc qc d) (0, 0) _ hg1 Tryd.underlying29 rfl (by kernel_rfl) ?_) | (refine wpList_store_row rfl RDT (.tmp 8) (.tmp 83) rfl (w.heap.size + 2) (agR sa qa sc qc d) (by first | rfl | simp [go_sem]) (by first | rfl | simp [go_sem]) RDT _ hg2 (by kernel_rfl) rfl (by simp [agR, Value.oneCell']) ?_))
                (try simp only [Exit.inBlock, Exit.then])
                refine bodyPost_ret (results_row_tmp (p := 8) (u := 9) (ty := RDT) rfl _ _ (w.heap.size + 2) RDT (agR sa qa sc qc d) _ (by simp [Act.put]) (blo_row HS3.out.res _) Tryd.underlying29 rfl (by kernel_rfl)) rfl ?_
                show MrO _ _ _ _ _
                rw [HSx.out]
                exact HS3.out.out 22
            · obtain rfl : j = n := by omega
              exfalso
              have hw := HWb.out
              have hyes : wrB d.n addr m.x m.fs m.is ls = true := by
                unfold wrB
                rw [hbk, ← HN.out]
                have e64 : ls.all (fun l => l.length == 64) = true := by
                  rw [List.all_eq_true]
                  intro l hl
                  obtain ⟨q, hq, rfl⟩ := List.getElem_of_mem hl
                  have h := hall q (by rw [HN.out]; exact hq)
                  unfold nthL at h
                  rw [List.getD_eq_getElem?_getD, List.getElem?_eq_getElem hq] at h
                  simpa using h
                rw [e64]
                simp only [hasB, Bool.and_eq_true, decide_eq_true_eq, Bool.or_eq_true]
                refine ⟨hnb, ⟨by omega, by omega, by omega⟩, ⟨by omega, by omega, by omega⟩, trivial, ?_⟩
                omega
              rw [hyes] at hw
              cases hw
  · have HSg : Hid (segW d addr m ls = (d, chkM m)) := by
      show segW d addr m ls = _
      unfold segW
      rw [if_pos hck]
    have HCk1 : Hid (Calls Tryd.prog 54 #[part m.e m.c m.i m.p m.x fa fn fc ia inn ic] w1 fun en w' => en = .returned (.int .i64 (chkM m)) ∧ Below w1.heap.size w1 w') := HCk.out
    have hne : (chkM m != 0) = true := by simpa using hck
    clear HCk hck
    generalize chkM m = ck at *
    go_enter Tryd.func18, Tryd.ntmps18
    go_wp2_with fail
    refine HCk1.out.mono ?_
    rintro e w2 ⟨rfl, hb2⟩
    have HS2 := Lib.hid (HSt.out.later hb2)
    clear hb2 HSt HCk1 hw1
    have hg1 := HS2.out.box
    have hg2 := HS2.out.res
    go_wp2_with (first | (refine wpList_load_row rfl RDT (.tmp 4) rfl w.heap.size rfl RDT (agR sa qa sc qc d) (0, 0) _ hg1 Tryd.underlying29 rfl (by kernel_rfl) ?_) | (refine wpList_store_row rfl RDT (.tmp 8) (.tmp 20) rfl (w.heap.size + 2) (agR sa qa sc qc d) (by first | rfl | simp [go_sem]) (by first | rfl | simp [go_sem]) RDT _ hg2 (by kernel_rfl) rfl (by simp [agR, Value.oneCell']) ?_))
    (try simp only [Exit.inBlock, Exit.then])
    refine bodyPost_ret (results_row_tmp (p := 8) (u := 9) (ty := RDT) rfl _ _ (w.heap.size + 2) RDT (agR sa qa sc qc d) _ (by simp [Act.put]) (blo_row HS2.out.res _) Tryd.underlying29 rfl (by kernel_rfl)) rfl ?_
    show MrO _ _ _ _ _
    rw [HSg.out]
    exact HS2.out.out ck
end
end Go.Proofs.YtlkgaefabahkoaaDoor
/-
  Partial segments, the document's side: Write, what is written.
-/
namespace Go.Proofs.YtlkgaefabahkoaaDoor
open Go.RowKit

theorem str_take (l : List Nat) : (strOf l).extract 0 64 = strOf (l.take 64) := by
  apply ByteArray.ext
  apply Array.toList_inj.mp
  rw [strOf_toList]
  simp [ByteArray.data_extract, strOf_toList]
theorem str_drop (l : List Nat) (h : l.length = 128) : (strOf l).extract 64 128 = strOf (l.drop 64) := by
  apply ByteArray.ext
  apply Array.toList_inj.mp
  rw [strOf_toList]
  simp [ByteArray.data_extract, strOf_toList]
  exact List.take_of_length_le (by simp; omega)
theorem WdR.put4 {w W : World} {d d2 : Dm} {sa qa sa2 qa2 : Option Addr} {sc qc sc2 qc2 : Nat} {pv : Array Value} (h : WdR w sa qa sc qc d pv W) (hm : Mr W sa2 qa2 sc2 qc2 d2) :
    WdR w sa2 qa2 sc2 qc2 d2 pv (put4g W w.heap.size (.slice sa2 d2.n sc2) (.slice qa2 d2.Q.length qc2) (.int .i64 d2.steps) (.int .i64 (lfD d2))) :=
  have ho := put4g_out W w.heap.size (.slice sa2 d2.n sc2) (.slice qa2 d2.Q.length qc2) (.int .i64 d2.steps) (.int .i64 (lfD d2))
  ⟨hm.out ho (fun g cs hb e => by
    subst e
    rcases hb with hb | hb
    · exact hb.apart h.box (by decide) rfl
    · exact hb.apart h.box (by decide) rfl), put4g_blo h.box _ _ _ _, ho.blo h.par (by omega), ho.blo h.res (by omega), h.below.trans (ho.below h.below.size (fun i _ e => by omega))⟩
section
variable {w w' W : World} {d : Dm} {sa qa : Option Addr} {sc qc : Nat}
set_option maxRecDepth 100000 in
set_option maxHeartbeats 16000000 in
theorem mwrite_yes (addr : Int) (m : Sm) (fa : Option Addr) (fn fc : Nat) (ia : Option Addr) (inn ic : Nat) (hF : Fis w fa m.fs) (hfn : fn = m.fs.length) (hs : szF m.fs ≤ 1000000) (hI : Ints w ia m.is) (hin : inn = m.is.length) (hi : inn ≤ 1000000) (hlb : ∀ x ∈ m.fs, ∀ n ∈ x.lb, -9223372036854775808 ≤ n ∧ n ≤ 9223372036854775807)
    (a : Option Addr) (n cap : Nat) (ls : List (List Nat)) (hn : n = ls.length) (hn2 : n ≤ 10000) (hR : Rds w a (cellsS (nthL ls) n)) (hby : ∀ l ∈ ls, ∀ x ∈ l, x < 256) (hrd : Rd d (n + 6)) (hm : Mr w sa qa sc qc d) (hck : chkM m = 0) (hwb : wrB d.n addr m.x m.fs m.is ls = true) :
    Calls Tryd.prog 18 #[.agg (agR sa qa sc qc d), .int .i64 addr, part m.e m.c m.i m.p m.x fa fn fc ia inn ic, .slice a n cap] w (MrO w (segW d addr m ls).1 (segW d addr m ls).2) := by
  have HSt := Lib.hid (WdR.start hm #[.int .i64 m.e, .int .i64 m.c, .int .i64 m.i, .int .i64 m.p, .int .i64 m.x, .slice fa fn fc, .slice ia inn ic])
  obtain ⟨w1, hw1⟩ : ∃ w1, ((w.alloc (.cells (agR sa qa sc qc d) RDT)).alloc (.cells #[.int .i64 m.e, .int .i64 m.c, .int .i64 m.i, .int .i64 m.p, .int .i64 m.x, .slice fa fn fc, .slice ia inn ic] PT)).alloc (.cells zdk RDT) = w1 := ⟨_, rfl⟩
  rw [hw1] at HSt
  have HF := Lib.hid hF
  have HI := Lib.hid hI
  have HRd := Lib.hid hrd
  have HR := Lib.hid hR
  have HBy := Lib.hid hby
  have HN := Lib.hid hn
  have hfew := hrd.dn.few
  have HCk := Lib.hid (rcheck_any (w := w1) m.e m.c m.i m.p m.x m.fs m.is fa fn fc ia inn ic (hF.later HSt.out.below) hfn (by omega) (hI.below HSt.out.below) hin (by omega) hlb)
  have HBk := Lib.hid (fun (W : World) (hb : Below w.heap.size w W) => rblocks_any (w := W) m.e m.c m.i m.p m.x fa fn fc ia inn ic (hF.later hb) hfn (by omega) (show inn ≤ 1000000000 by omega))
  have HFn := Lib.hid hfn
  have HIn := Lib.hid hin
  have HLb := Lib.hid hlb
  have hbl := blF_szF m.fs
  clear hF hI hrd hR hby hn hm hfn hin hlb
  unfold agR at hw1 ⊢
  have y0 := HSt.out.box.cell 0
  simp [agR] at y0
  have p0 := HSt.out.par.cell 0
  have p1 := HSt.out.par.cell 1
  have p2 := HSt.out.par.cell 2
  have p3 := HSt.out.par.cell 3
  have p4 := HSt.out.par.cell 4
  have p5 := HSt.out.par.cell 5
  have p6 := HSt.out.par.cell 6
  simp at p0 p1 p2 p3 p4 p5 p6
  have HCk0 : Hid (Calls Tryd.prog 54 #[part m.e m.c m.i m.p m.x fa fn fc ia inn ic] w1 fun en w' => en = .returned (.int .i64 0) ∧ Below w1.heap.size w1 w') := HCk.out.mono fun e w' h => ⟨by rw [← hck]; exact h.1, h.2⟩
  have HX0 : Hid (0 ≤ m.x ∧ m.x ≤ 4095) := ⟨(good_of hck).x.1, (good_of hck).x.2⟩
  have HSx : Hid (segW d addr m ls = if (putsD d (addr + 2) ls).2 ≠ 0 then putsD d (addr + 2) ls else if (cleanD (putsD d (addr + 2) ls).1 m.x).2 ≠ 0 then cleanD (putsD d (addr + 2) ls).1 m.x else sureD (cleanD (putsD d (addr + 2) ls).1 m.x).1 addr [(headM m ls).take 64, (headM m ls).drop 64]) := by
    show segW d addr m ls = _
    unfold segW
    rw [if_neg (fun h => h hck), if_neg (by rw [hwb]; simp)]
  have HCk9 : Hid (chkM m = 0) := hck
  have hwl := wrB_len hwb
  have hbk : 2 + inn + blF m.fs = blks m.fs m.is := by unfold blks; rw [HIn.out]
  rw [hbk] at HBk
  clear HCk hck hbk
  obtain ⟨bk, hbk⟩ : ∃ bk, blks m.fs m.is = bk := ⟨_, rfl⟩
  have hbk2 : bk ≤ 2000002 ∧ 2 ≤ bk := by
    rw [← hbk]
    unfold blks
    rw [← HIn.out]
    omega
  rw [hbk] at HBk
  go_enter Tryd.func18, Tryd.ntmps18
  go_wp2_with fail
  refine HCk0.out.mono ?_
  rintro e w2 ⟨rfl, hb2⟩
  have HS2 := Lib.hid (HSt.out.later hb2)
  clear hb2 HSt HCk0 hw1 y0 p0 p1 p2 p3 p4 p5 p6
  have y0 := HS2.out.box.cell 0
  simp [agR] at y0
  have p0 := HS2.out.par.cell 0
  have p1 := HS2.out.par.cell 1
  have p2 := HS2.out.par.cell 2
  have p3 := HS2.out.par.cell 3
  have p4 := HS2.out.par.cell 4
  have p5 := HS2.out.par.cell 5
  have p6 := HS2.out.par.cell 6
  simp at p0 p1 p2 p3 p4 p5 p6
  go_wp2_with fail
  refine (HBk.out w2 HS2.out.below).mono ?_
  rintro e w3 ⟨rfl, hb3⟩
  have HS3 := Lib.hid (HS2.out.later hb3)
  clear hb3 HS2 HBk y0 p0 p1 p2 p3 p4 p5 p6
  have y0 := HS3.out.box.cell 0
  simp [agR] at y0
  have p4 := HS3.out.par.cell 4
  simp at p4
  rw [hbk, ← HN.out] at hwl
  obtain ⟨ha0, han, hx0, hxn, hlens, hnb, hov⟩ := hwl
  have hx1 := HX0.out.2
  have h1f : ((n : Int) != (bk : Int) - 2) = false := by
    have : (n : Int) = (bk : Int) - 2 := by omega
    simp [this]
  have hn2' : ¬ addr < 0 := by omega
  have hn3 : ¬ (d.n : Int) - (bk : Int) < addr := by omega
  have hn4 : ¬ (d.n : Int) - 2 < m.x := by omega
  clear hbk hwb
  go_upto_region 7 with (fail)
  clear y0 hn3 hn4 h1f hn2'
  go_wp2_with fail
  go_loopw [12] (fun t wr => ∃ k : Nat, k ≤ bk ∧ t = .int .i64 (addr + ((k : Nat) : Int)) ∧ wr = w3) (fun t _ => 5000 - (intOf t).toNat)
  case atStart => exact ⟨0, Nat.zero_le _, by simp, rfl⟩
  case round =>
    obtain ⟨k, hk, rfl, rfl⟩ := hrel
    by_cases hkb : k < bk
    · have e1 : ¬ addr + ((k : Nat) : Int) = m.x := by omega
      have e2 : ¬ addr + ((k : Nat) : Int) = m.x + 1 := by omega
      have q1 : (addr + ((k : Nat) : Int) == m.x) = false := by simp [e1]
      have q2 : (addr + ((k : Nat) : Int) == m.x + 1) = false := by simp [e2]
      go_wp2_with fail
      refine ⟨⟨k + 1, by omega, by rw [Int.add_assoc]; rfl, trivial⟩, ?_⟩
      simp [intOf]
      omega
    · obtain rfl : k = bk := by omega
      clear p4
      go_wp2_with fail
      go_loopw [74] (fun t wr' => ∃ j : Nat, j ≤ n ∧ t = .int .i64 ((j : Nat) : Int) ∧ wr' = wr) (fun t _ => n - (intOf t).toNat)
      case atStart => exact ⟨0, Nat.zero_le _, rfl, rfl⟩
      case round =>
        obtain ⟨j, hj, rfl, rfl⟩ := hrel
        by_cases hjn : j < n
        · obtain ⟨b, o, rfl, hc⟩ := HR.out j (.string (strOf (nthL ls j))) (by simp [cellsS, hjn])
          have c0 := cell_later HS3.out.below hc
          have hsz := strOf_size (nthL ls j)
          have i1 : (0 : Int) ≤ (j : Int) := by omega
          have i2 : (j : Int) < (n : Int) := by omega
          have e1 : (nthL ls j).length = 64 := hlens j hjn
          have q1 : (((strOf (nthL ls j)).size : Int) != 64) = false := by rw [hsz, e1]; rfl
          clear hc
          go_wp2_with fail
          refine ⟨⟨j + 1, by omega, by simp, trivial⟩, ?_⟩
          simp [intOf]
          omega
        · obtain rfl : j = n := by omega
          have HPu := Lib.hid (dput_any (addr + 2) (by omega) (by omega) a j cap ls HN.out (by omega) (HR.out.later HS3.out.below) HBy.out (HRd.out.mono (by omega)) HS3.out.mr)
          obtain ⟨⟨d2, c2⟩, hcp⟩ : ∃ cp, putsD d (addr + 2) ls = cp := ⟨_, rfl⟩
          have HRd2 : Hid (Rd d2 6) := by
            have := Rd.puts ls (k := 6) (addr + 2) (HRd.out.mono (by have := HN.out; omega)) HBy.out
            rwa [hcp] at this
          have HNd2 : Hid (d2.n = d.n) := by
            have := putsD_n ls d (addr + 2)
            rwa [hcp] at this
          rw [hcp] at HPu HSx
          unfold agR at HPu
          have hg1 := HS3.out.box
          clear hcp
          go_upto_region 18 with (fail)
          go_wp2_with ((refine wpList_load_row rfl RDT (.tmp 4) rfl w.heap.size rfl RDT (agR sa qa sc qc d) (0, 0) _ hg1 Tryd.underlying29 rfl (by kernel_rfl) ?_); unfold agR)
          refine HPu.out.mono ?_
          rintro e w4 ⟨sa2, qa2, sc2, qc2, rfl, hM4, hb4⟩
          have HS4 := Lib.hid ((HS3.out.later hb4).put hM4)
          have HB4 := Lib.hid (HS3.out.below.trans (hb4.mono HS3.out.below.size))
          have hx4 := (HS3.out.later hb4).box
          clear hb4 hM4 HPu HS3 hg1
          unfold agR
          by_cases hc0 : c2 = 0
          · have hb0 : (c2 == 0) = true := by simp [hc0]
            have hb1 : (c2 != 0) = false := by simp [hc0]
            go_upto_region 19 with (refine wpList_store_row rfl RDT (.tmp 4) (.tmp 91) rfl w.heap.size (agR sa2 qa2 sc2 qc2 d2) (by first | rfl | simp [go_sem]) (by first | rfl | simp [go_sem]) RDT _ hx4 (by kernel_rfl) rfl (by simp [agR, Value.oneCell']) ?_)
            clear hx4
            generalize w4.setRow w.heap.size (agR sa2 qa2 sc2 qc2 d2) = w5 at *
            have HCl := Lib.hid (mclear_any m.x (HRd2.out.mono (by decide)) HS4.out.mr)
            have hcl : clearD d2 m.x = cleanD d2 m.x := if_pos (by rw [HNd2.out]; simp [hasB]; omega)
            rw [hcl] at HCl
            obtain ⟨⟨d3, c3⟩, hcp⟩ : ∃ cp, cleanD d2 m.x = cp := ⟨_, rfl⟩
            have HRd3 : Hid (Rd d3 3) := by
              have h := Rd.puts [zeroB, zeroB] (k := 4) m.x (HRd2.out.mono (by decide)) (fun l hl => by
                rcases List.mem_cons.1 hl with rfl | hl
                · exact zeroB_byte
                · rcases List.mem_cons.1 hl with rfl | hl
                  · exact zeroB_byte
                  · cases hl)
              show Rd d3 3
              unfold cleanD sureD at hcp
              split at hcp
              · have := Rd.barr h
                rwa [hcp] at this
              · rw [hcp] at h
                exact h.mono (by decide)
            have HSy : Hid (segW d addr m ls = if c3 ≠ 0 then (d3, c3) else sureD d3 addr [(headM m ls).take 64, (headM m ls).drop 64]) := by
              show segW d addr m ls = _
              rw [HSx.out, if_neg (fun h => h hc0), hcp]
            rw [hcp] at HCl
            unfold agR at HCl
            clear hcp hcl HSx HRd2
            have p4 := HS4.out.par.cell 4
            simp at p4
            have hg1 := HS4.out.box
            go_upto_region 20 with (fail)
            go_wp2_with ((refine wpList_load_row rfl RDT (.tmp 4) rfl w.heap.size rfl RDT (agR sa2 qa2 sc2 qc2 d2) (0, 0) _ hg1 Tryd.underlying29 rfl (by kernel_rfl) ?_); unfold agR)
            refine HCl.out.mono ?_
            rintro e w6 ⟨sa3, qa3, sc3, qc3, rfl, hM6, hb6⟩
            have HS6 := Lib.hid ((HS4.out.later hb6).put hM6)
            have hx6 := (HS4.out.later hb6).box
            clear hb6 hM6 HCl HS4 hg1 p4
            unfold agR
            by_cases hc1 : c3 = 0
            · have hb2 : (c3 != 0) = false := by simp [hc1]
              go_upto_region 21 with (refine wpList_store_row rfl RDT (.tmp 4) (.tmp 100) rfl w.heap.size (agR sa3 qa3 sc3 qc3 d3) (by first | rfl | simp [go_sem]) (by first | rfl | simp [go_sem]) RDT _ hx6 (by kernel_rfl) rfl (by simp [agR, Value.oneCell']) ?_)
              clear hx6
              generalize w6.setRow w.heap.size (agR sa3 qa3 sc3 qc3 d3) = w7 at *
              have hcrc : crc ls.flatten < 4294967296 := crc_lt _ (flatten_byte HBy.out)
              have HSu := Lib.hid (fun W (hb : Below w7.heap.size w7 W) => dsum_any (w := W) a j cap ls HN.out (by omega) (HR.out.later (HS6.out.below.trans (hb.mono HS6.out.below.size))) HBy.out (fun l hl => by
                obtain ⟨q, hq, rfl⟩ := List.getElem_of_mem hl
                have h := hlens q (by rw [HN.out]; exact hq)
                unfold nthL at h
                rw [List.getD_eq_getElem?_getD, List.getElem?_eq_getElem hq] at h
                have h2 : ls[q].length = 64 := h
                omega))
              have HEn := Lib.hid (fun W (hb : Below w7.heap.size w7 W) => rencode_good (w := W) (m := m) (fa := fa) (fn := fn) (fc := fc) (ia := ia) (inn := inn) (ic := ic) (crc ls.flatten) hcrc HCk9.out (HF.out.later (HS6.out.below.trans (hb.mono HS6.out.below.size))) (HI.out.below (HS6.out.below.trans (hb.mono HS6.out.below.size))) HFn.out HIn.out)
              have HLen : Hid ((headM m ls).length = 128) := headM_len m ls HCk9.out
              have HMb : Hid (∀ x ∈ headM m ls, x < 256) := encM_lt m (crc ls.flatten)
              have HK : Hid (∀ W, Blo W (w.heap.size + 1) PT #[.int .i64 m.e, .int .i64 m.c, .int .i64 m.i, .int .i64 m.p, .int .i64 m.x, .slice fa fn fc, .slice ia inn ic] → (W.cell? ⟨w.heap.size + 1, 0, none⟩ = some (.int .i64 m.e) ∧ W.cell? ⟨w.heap.size + 1, 1, none⟩ = some (.int .i64 m.c) ∧ W.cell? ⟨w.heap.size + 1, 2, none⟩ = some (.int .i64 m.i) ∧ W.cell? ⟨w.heap.size + 1, 3, none⟩ = some (.int .i64 m.p) ∧ W.cell? ⟨w.heap.size + 1, 4, none⟩ = some (.int .i64 m.x) ∧ W.cell? ⟨w.heap.size + 1, 5, none⟩ = some (.slice fa fn fc) ∧ W.cell? ⟨w.heap.size + 1, 6, none⟩ = some (.slice ia inn ic))) := fun W hX => ⟨hX.cell 0, hX.cell 1, hX.cell 2, hX.cell 3, hX.cell 4, hX.cell 5, hX.cell 6⟩
              have HKb := Lib.hid (fun W (hb : Below w7.heap.size w7 W) => HK.out W (HS6.out.par.later hb))
              have HHd : Hid (encM m (crc ls.flatten) = headM m ls) := rfl
              rw [HHd.out] at HEn
              clear HK HHd
              generalize crc ls.flatten = cc at *
              generalize headM m ls = hd at *
              go_upto_region 23 with (fail)
              go_region_held (fun W => W.cell? ⟨w.heap.size + 1, 0, none⟩ = some (.int .i64 m.e) ∧ W.cell? ⟨w.heap.size + 1, 1, none⟩ = some (.int .i64 m.c) ∧ W.cell? ⟨w.heap.size + 1, 2, none⟩ = some (.int .i64 m.i) ∧ W.cell? ⟨w.heap.size + 1, 3, none⟩ = some (.int .i64 m.p) ∧ W.cell? ⟨w.heap.size + 1, 4, none⟩ = some (.int .i64 m.x) ∧ W.cell? ⟨w.heap.size + 1, 5, none⟩ = some (.slice fa fn fc) ∧ W.cell? ⟨w.heap.size + 1, 6, none⟩ = some (.slice ia inn ic))
                (first | exact HKb.out _ ((Below.refl _ _).drew) | exact HKb.out _ HB8.out | exact HKb.out _ HB9.out | fail)
                (first
                  | (go_at_call 46; (with_reducible refine (HSu.out _ ((Below.refl _ _).drew)).mono ?_); rintro e w8 ⟨rfl, hb8⟩; have HB8 := Lib.hid (show Below w7.heap.size w7 w8 from ((Below.refl w7.heap.size w7).drew).trans hb8); clear hb8)
                  | (go_at_call 57; (with_reducible refine (HEn.out _ HB8.out).mono ?_); rintro e w9 ⟨ea, ec, rfl, hY9, hb9⟩; have HB9 := Lib.hid (HB8.out.trans (hb9.mono HB8.out.size)); have hcv : (convert 49 9 (.slice ea 128 ec)).run Tryd.prog w9 = .ok (.string (strOf hd)) w9 := run_str w9 49 9 5 Tryd.underlying49 Tryd.underlying5 Tryd.underlying9 hd ea 128 ec HLen.out.symm hY9; clear hb9 hY9)
                  | fail)
              rename_i hHeld
              clear hHeld HKb HSu HEn hcv
              have HS9 := Lib.hid (HS6.out.later HB9.out)
              clear HS6 HB8 HB9
              have hsz : (strOf hd).size = 128 := by rw [strOf_size]; exact HLen.out
              have hx1 : (strOf hd).extract 0 64 = strOf (hd.take 64) := str_take hd
              have hx2 : (strOf hd).extract 64 128 = strOf (hd.drop 64) := str_drop hd HLen.out
              have y0 := HS9.out.box.cell 0
              have y1 := HS9.out.box.cell 1
              have y2 := HS9.out.box.cell 2
              have y3 := HS9.out.box.cell 3
              simp [agR] at y0 y1 y2 y3
              have hbA := sup_pc w9 (.cells #[.string (strOf (hd.take 64)), .string (strOf (hd.drop 64))] STR)
              have HS10 := Lib.hid ((HS9.out.later hbA).later ((Below.refl _ _).drew))
              have hrds : Rds (w9.alloc (.cells #[.string (strOf (hd.take 64)), .string (strOf (hd.drop 64))] STR)).drew (some ⟨w9.heap.size, 0, none⟩) (cellsS (nthL [hd.take 64, hd.drop 64]) 2) := fun j u hj => by
                refine ⟨w9.heap.size, 0, rfl, ?_⟩
                rw [Nat.zero_add]
                refine ((blo_laid w9 STR #[.string (strOf (hd.take 64)), .string (strOf (hd.drop 64))]).cell j).trans ?_
                match j, hj with
                | 0, hj => exact hj
                | 1, hj => exact hj
                | j + 2, hj => simp [cellsS] at hj
              have hby2 : ∀ l ∈ [hd.take 64, hd.drop 64], ∀ x ∈ l, x < 256 := fun l hl x hx => by
                rcases List.mem_cons.1 hl with rfl | hl
                · exact HMb.out x (List.mem_of_mem_take hx)
                · rcases List.mem_cons.1 hl with rfl | hl
                  · exact HMb.out x (List.mem_of_mem_drop hx)
                  · cases hl
              have HPw := Lib.hid (dput_any addr ha0 (by omega) (some ⟨w9.heap.size, 0, none⟩) 2 2 [hd.take 64, hd.drop 64] rfl (by decide) hrds hby2 (HRd3.out.mono (by decide)) HS10.out.mr)
              obtain ⟨⟨d4, c4⟩, hcp⟩ : ∃ cp, putsD d3 addr [hd.take 64, hd.drop 64] = cp := ⟨_, rfl⟩
              have HRd4 : Hid (Rd d4 1) := by
                have h := Rd.puts [hd.take 64, hd.drop 64] (k := 1) addr (HRd3.out.mono (by simp)) hby2
                rwa [hcp] at h
              have HSz : Hid (segW d addr m ls = if c4 = 0 then barrD d4 else (d4, c4)) := by
                show segW d addr m ls = _
                rw [HSy.out, if_neg (fun h => h hc1)]
                unfold sureD
                rw [hcp]
              rw [hcp] at HPw
              unfold agR at HPw
              simp only at HPw
              have HSA := Lib.hid (HS9.out.later hbA)
              have v0 := HSA.out.box.cell 0
              have v1 := HSA.out.box.cell 1
              have v2 := HSA.out.box.cell 2
              have v3 := HSA.out.box.cell 3
              simp [agR] at v0 v1 v2 v3
              clear hbA hrds hby2 hcp HSy HRd3 HMb HLen HSA
              go_upto_region 24 with (fail)
              go_region_with ((go_at_call 55; (with_reducible refine HPw.out.mono ?_); rintro e W' ⟨sa4, qa4, sc4, qc4, rfl, hM', hb'⟩; unfold agR; have HSp := Lib.hid (HS10.out.later hb'); have HM' := Lib.hid hM'; have z0 := HSp.out.box.cell 0; have z1 := HSp.out.box.cell 1; have z2 := HSp.out.box.cell 2; have z3 := HSp.out.box.cell 3; have f0 := HSp.out.box.frozen 0; have f1 := HSp.out.box.frozen 1; have f2 := HSp.out.box.frozen 2; have f3 := HSp.out.box.frozen 3; simp [agR] at z0 z1 z2 z3; clear hM' hb' y0 y1 y2 y3 v0 v1 v2 v3))
              all_goals
                have HS11 := Lib.hid (HSp.out.put4 HM'.out)
                obtain ⟨W5, hw5⟩ : ∃ W5, put4g W' w.heap.size (.slice sa4 d4.n sc4) (.slice qa4 d4.Q.length qc4) (.int .i64 d4.steps) (.int .i64 (lfD d4)) = W5 := ⟨_, rfl⟩
                rw [hw5] at HS11
                have hw6 : ((((W'.setCell ⟨w.heap.size, 0, none⟩ (.slice sa4 d4.n sc4)).setCell ⟨w.heap.size, 1, none⟩ (.slice qa4 d4.Q.length qc4)).setCell ⟨w.heap.size, 2, none⟩ (.int .i64 d4.steps)).setCell ⟨w.heap.size, 3, none⟩ (.int .i64 (lfD d4))) = W5 := hw5
                simp only [hw6]
                clear hw5 hw6 HSp HM' HPw HS10 HS9 z0 z1 z2 z3 f0 f1 f2 f3 hsz hx1 hx2
                have hg1 := HS11.out.box
                have hg2 := HS11.out.res
                by_cases hc2 : c4 = 0
                · have hb3 : (c4 != 0) = false := by simp [hc2]
                  have HBr := Lib.hid (mbar_n HRd4.out.dn HS11.out.mr (by have := HRd4.out.st; omega) (by have := HRd4.out.ql; omega))
                  obtain ⟨⟨d5, c5⟩, h5⟩ : ∃ cp, barrD d4 = cp := ⟨_, rfl⟩
                  rw [h5] at HBr
                  have HSq : Hid (segW d addr m ls = (d5, c5)) := by
                    show segW d addr m ls = _
                    rw [HSz.out, if_pos hc2, h5]
                  clear h5 HSz HRd4
                  unfold agR at HBr
                  go_upto_region 27 with (fail)
                  go_wp2_with ((refine wpList_load_row rfl RDT (.tmp 4) rfl w.heap.size rfl RDT (agR sa4 qa4 sc4 qc4 d4) (0, 0) _ hg1 Tryd.underlying29 rfl (by kernel_rfl) ?_); unfold agR)
                  refine HBr.out.mono ?_
                  rintro e w12 ⟨sa5, qa5, sc5, qc5, rfl, hM12, hb12⟩
                  have HS12 := Lib.hid (HS11.out.later hb12)
                  have HM12 := Lib.hid hM12
                  have hg5 := HS12.out.res
                  clear hb12 hM12 HBr HS11 hg1 hg2
                  unfold agR
                  go_wp2_with (refine wpList_store_row rfl RDT (.tmp 8) (.tmp 128) rfl (w.heap.size + 2) (agR sa5 qa5 sc5 qc5 d5) (by first | rfl | simp [go_sem]) (by first | rfl | simp [go_sem]) RDT _ hg5 (by kernel_rfl) rfl (by simp [agR, Value.oneCell']) ?_)
                  (try simp only [Exit.inBlock, Exit.then])
                  refine bodyPost_ret (results_row_tmp (p := 8) (u := 9) (ty := RDT) rfl _ _ (w.heap.size + 2) RDT (agR sa5 qa5 sc5 qc5 d5) _ (by simp [Act.put]) (blo_row HS12.out.res _) Tryd.underlying29 rfl (by kernel_rfl)) rfl ?_
                  show MrO _ _ _ _ _
                  rw [HSq.out]
                  exact ⟨sa5, qa5, sc5, qc5, rfl, HM12.out.row HS12.out.res, below_setRow HS12.out.below (by omega) _⟩
                · have hb3 : (c4 != 0) = true := by simp [hc2]
                  have HSq : Hid (segW d addr m ls = (d4, c4)) := by
                    show segW d addr m ls = _
                    rw [HSz.out, if_neg hc2]
                  clear HSz
                  go_upto_region 26 with (fail)
                  go_wp2_with (first | (refine wpList_load_row rfl RDT (.tmp 4) rfl w.heap.size rfl RDT (agR sa4 qa4 sc4 qc4 d4) (0, 0) _ hg1 Tryd.underlying29 rfl (by kernel_rfl) ?_) | (refine wpList_store_row rfl RDT (.tmp 8) (.tmp 124) rfl (w.heap.size + 2) (agR sa4 qa4 sc4 qc4 d4) (by first | rfl | simp [go_sem]) (by first | rfl | simp [go_sem]) RDT _ hg2 (by kernel_rfl) rfl (by simp [agR, Value.oneCell']) ?_))
                  (try simp only [Exit.inBlock, Exit.then])
                  refine bodyPost_ret (results_row_tmp (p := 8) (u := 9) (ty := RDT) rfl _ _ (w.heap.size + 2) RDT (agR sa4 qa4 sc4 qc4 d4) _ (by simp [Act.put]) (blo_row HS11.out.res _) Tryd.underlying29 rfl (by kernel_rfl)) rfl ?_
                  show MrO _ _ _ _ _
                  rw [HSq.out]
                  exact HS11.out.out c4

            · have hb2 : (c3 != 0) = true := by simp [hc1]
              have HSz : Hid (segW d addr m ls = (d3, c3)) := by
                show segW d addr m ls = _
                rw [HSy.out, if_pos hc1]
              clear HSy
              go_upto_region 22 with (refine wpList_store_row rfl RDT (.tmp 4) (.tmp 100) rfl w.heap.size (agR sa3 qa3 sc3 qc3 d3) (by first | rfl | simp [go_sem]) (by first | rfl | simp [go_sem]) RDT _ hx6 (by kernel_rfl) rfl (by simp [agR, Value.oneCell']) ?_)
              have hg1 := HS6.out.box
              have hg2 := HS6.out.res
              clear hx6
              go_wp2_with (first | (refine wpList_load_row rfl RDT (.tmp 4) rfl w.heap.size rfl RDT (agR sa3 qa3 sc3 qc3 d3) (0, 0) _ hg1 Tryd.underlying29 rfl (by kernel_rfl) ?_) | (refine wpList_store_row rfl RDT (.tmp 8) (.tmp 104) rfl (w.heap.size + 2) (agR sa3 qa3 sc3 qc3 d3) (by first | rfl | simp [go_sem]) (by first | rfl | simp [go_sem]) RDT _ hg2 (by kernel_rfl) rfl (by simp [agR, Value.oneCell']) ?_))
              (try simp only [Exit.inBlock, Exit.then])
              refine bodyPost_ret (results_row_tmp (p := 8) (u := 9) (ty := RDT) rfl _ _ (w.heap.size + 2) RDT (agR sa3 qa3 sc3 qc3 d3) _ (by simp [Act.put]) (blo_row HS6.out.res _) Tryd.underlying29 rfl (by kernel_rfl)) rfl ?_
              show MrO _ _ _ _ _
              rw [HSz.out]
              exact HS6.out.out c3

          · have hb0 : (c2 == 0) = false := by simp [hc0]
            have hb1 : (c2 != 0) = true := by simp [hc0]
            have HSy : Hid (segW d addr m ls = (d2, c2)) := by
              show segW d addr m ls = _
              rw [HSx.out, if_pos hc0]
            clear HSx
            go_upto_region 22 with (refine wpList_store_row rfl RDT (.tmp 4) (.tmp 91) rfl w.heap.size (agR sa2 qa2 sc2 qc2 d2) (by first | rfl | simp [go_sem]) (by first | rfl | simp [go_sem]) RDT _ hx4 (by kernel_rfl) rfl (by simp [agR, Value.oneCell']) ?_)
            have hg1 := HS4.out.box
            have hg2 := HS4.out.res
            clear hx4
            go_wp2_with (first | (refine wpList_load_row rfl RDT (.tmp 4) rfl w.heap.size rfl RDT (agR sa2 qa2 sc2 qc2 d2) (0, 0) _ hg1 Tryd.underlying29 rfl (by kernel_rfl) ?_) | (refine wpList_store_row rfl RDT (.tmp 8) (.tmp 104) rfl (w.heap.size + 2) (agR sa2 qa2 sc2 qc2 d2) (by first | rfl | simp [go_sem]) (by first | rfl | simp [go_sem]) RDT _ hg2 (by kernel_rfl) rfl (by simp [agR, Value.oneCell']) ?_))
            (try simp only [Exit.inBlock, Exit.then])
            refine bodyPost_ret (results_row_tmp (p := 8) (u := 9) (ty := RDT) rfl _ _ (w.heap.size + 2) RDT (agR sa2 qa2 sc2 qc2 d2) _ (by simp [Act.put]) (blo_row HS4.out.res _) Tryd.underlying29 rfl (by kernel_rfl)) rfl ?_
            show MrO _ _ _ _ _
            rw [HSy.out]
            exact HS4.out.out c2

end
end Go.Proofs.YtlkgaefabahkoaaDoor
