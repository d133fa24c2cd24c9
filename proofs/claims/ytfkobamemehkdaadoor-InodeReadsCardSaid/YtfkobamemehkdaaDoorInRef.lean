/-
  The walks of the document's inodes: whether one is good; its block.
-/
import Derived.Test.YtfkobamemehkdaaDoorInEncode
import Derived.Test.YtfkobamemehkdaaDoorInRefBlock
namespace Go.Proofs.YtfkobamemehkdaaDoor
open Go.RowKit

theorem cut_two (g : Nat) (W : World) :
    (Instr.slice 27 (.slice (some ⟨g, 0, none⟩) 4 4) none (some (.int .i64 2)) none).run Tryd.prog W = .ok (.slice (some ⟨g, 0, none⟩) 2 4) W := by
  have ht' : Tryd.prog.underlying 27 = some (.slice (Tryd.prog.elem 27)) := by simp [Program.elem, Tryd.underlying27]
  have he : Tryd.prog.elem 27 = 5 := by simp [Program.elem, Tryd.underlying27]
  rw [run_slice_h W 27 _ _ _ ht' .i64 2 (by omega) (by omega), he, size_u8]
  simp [Result.andThen, sliced, Addr.add]
theorem own_two {w : World} {g base v : Nat} (h : Row w g (le4 v)) (hb : base ≤ g) : w.ownsRow base 5 1 (.slice (some ⟨g, 0, none⟩) 2 4) 2 (cellsB (le2 v)) :=
  ⟨rfl, .inr ⟨g, 4, (cellsB (le4 v)).toArray, rfl, hb, h, by decide, by decide, rfl, rfl⟩⟩
theorem bytes_two {w : World} {g v : Nat} (h : Row w g (le4 v)) : Bytes w (some ⟨g, 0, none⟩) (le2 v) :=
  ⟨le2_lt v, by simp [le2], fun _ => ⟨g, 0, rfl, fun i hi => by
    rw [Nat.zero_add, h.cell i (by simp [le2] at hi; simp [le4]; omega)]
    match i, hi with
    | 0, _ => rfl
    | 1, _ => rfl⟩⟩
def pre10 (a b c d s : Nat) : List Nat := ((le2 a ++ le2 b) ++ [c, d]) ++ le4 s
theorem pre10_lt {c d : Nat} (hc : c < 256) (hd : d < 256) : ∀ x ∈ [c, d], x < 256 := by
  intro x hx
  simp only [List.mem_cons, List.not_mem_nil, or_false] at hx
  omega
theorem cd_cells (c d : Nat) : ∀ i, i < ([c, d] : List Nat).length → (#[Value.int .u8 (c : Int), .int .u8 (d : Int)] : Array Value)[i]? = some (.int .u8 (([c, d] : List Nat).getD i 0 : Nat)) := by
  intro i hi
  match i, hi with
  | 0, _ => rfl
  | 1, _ => rfl
theorem zero_cells : ∀ i, i < ([0] : List Nat).length → (#[Value.int .u8 0] : Array Value)[i]? = some (.int .u8 (([0] : List Nat).getD i 0 : Nat)) := by
  intro i hi
  match i, hi with
  | 0, _ => rfl
def REnc (w : World) (L : List Nat) (e : Ending) (w' : World) : Prop :=
  ∃ a' cap', e = .returned (.slice a' 64 cap') ∧ Bytes w' a' (sealN L) ∧ Below w.heap.size w w'
def lenV : Value → Nat
  | .slice _ n _ => n
  | _ => 0
def ERel (wb : World) (base : Nat) (pre ps : List Nat) (v i : Value) (wr : World) : Prop :=
  ∃ (k : Nat) (a : Option Addr) (cap : Nat), k ≤ 9 ∧ i = .int .i64 k ∧ v = .slice a (10 + 4 * k) cap ∧ Grown4 wb wr base a (10 + 4 * k) cap (pre ++ flatP ps k)
def FRel (wb : World) (base : Nat) (L : List Nat) (v : Value) (wr : World) : Prop :=
  ∃ (k : Nat) (a : Option Addr) (cap : Nat), v = .slice a (46 + k) cap ∧ k ≤ 14 ∧ Grown4 wb wr base a (46 + k) cap (L ++ List.replicate k 0)
theorem erel_next {wb wr wp w3 : World} {base k p : Nat} {pre ps : List Nat} {a a3 : Option Addr} {cap cap3 : Nat} (hk : k < 9) (hps : ps.length = 9) (hp : ps.getD k 0 = p) (h : Grown4 wb wr base a (10 + 4 * k) cap (pre ++ flatP ps k)) (hb : Below wr.heap.size wr wp)
    (ho : w3.ownsRow base 5 1 (.slice a3 (10 + 4 * k + 4) cap3) (10 + 4 * k + 4) (cellsB ((pre ++ flatP ps k) ++ le4 p))) (hg : wp.grownBy w3 (Value.slice a (10 + 4 * k) cap).ownBlock) :
    ERel wb base pre ps (.slice a3 (10 + 4 * k + 4) cap3) (.int .i64 ((k : Int) + 1)) w3 := by
  have hn := h.next hb (le4_lt p) ho hg
  subst hp
  rw [List.append_assoc, flatP_next ps k (by omega)] at hn
  exact ⟨k + 1, a3, cap3, by omega, by simp, rfl, hn⟩
theorem frel_next {wb wr w2 : World} {base k cap cap2 : Nat} {a a2 : Option Addr} {L : List Nat} {o : Obj} (hk : k < 14) (h : Grown4 wb wr base a (46 + k) cap (L ++ List.replicate k 0))
    (ho : w2.ownsRow base 5 1 (.slice a2 (46 + k + 1) cap2) (46 + k + 1) (cellsB ((L ++ List.replicate k 0) ++ [0]))) (hg : (wr.alloc o).grownBy w2 (Value.slice a (46 + k) cap).ownBlock) :
    FRel wb base L (.slice a2 (46 + k + 1) cap2) w2 := by
  have hn := h.next (sup_grow wr o) (t := [0]) (by decide) ho hg
  rw [List.append_assoc, ← List.replicate_succ'] at hn
  exact ⟨k + 1, a2, cap2, rfl, by omega, hn⟩
theorem inoN_pre (a b c d s p0 p1 p2 p3 p4 p5 p6 p7 p8 : Nat) (hc : c < 256) (hd : d < 256) : (pre10 a b c d s ++ flatP [p0, p1, p2, p3, p4, p5, p6, p7, p8] 9) ++ List.replicate 14 0 = inoN a b c d s p0 p1 p2 p3 p4 p5 p6 p7 p8 := by
  have e1 : c % 256 = c := Nat.mod_eq_of_lt hc
  have e2 : d % 256 = d := Nat.mod_eq_of_lt hd
  unfold inoN
  rw [e1, e2]
  rfl
set_option maxHeartbeats 4000000 in
theorem refEncode_any (a b c d s p0 p1 p2 p3 p4 p5 p6 p7 p8 : Nat) (w : World) (ha : a < 65536) (hb : b < 65536) (hc : c < 256) (hd : d < 256) (hs : s < 4294967296) (h32 : ∀ p ∈ [p0, p1, p2, p3, p4, p5, p6, p7, p8], p < 4294967296) :
    Calls Tryd.prog 15 #[.agg (ino a b c d s p0 p1 p2 p3 p4 p5 p6 p7 p8)] w (REnc w (inoN a b c d s p0 p1 p2 p3 p4 p5 p6 p7 p8)) := by
  have HFin := Lib.hid (inoN_pre a b c d s p0 p1 p2 p3 p4 p5 p6 p7 p8 hc hd)
  have HFl := Lib.hid (inoN_length a b c d s p0 p1 p2 p3 p4 p5 p6 p7 p8)
  have G0 := Lib.hid (blo_laid w 25 (ino a b c d s p0 p1 p2 p3 p4 p5 p6 p7 p8))
  have HPt : Hid (∀ k, k < 9 → (ino a b c d s p0 p1 p2 p3 p4 p5 p6 p7 p8)[5 + k]? = some (.int .u32 (([p0, p1, p2, p3, p4, p5, p6, p7, p8] : List Nat).getD k 0 : Nat))) := by
    intro k hk
    match k, hk with
    | 0, _ => rfl
    | 1, _ => rfl
    | 2, _ => rfl
    | 3, _ => rfl
    | 4, _ => rfl
    | 5, _ => rfl
    | 6, _ => rfl
    | 7, _ => rfl
    | 8, _ => rfl
  have HPl : Hid (([p0, p1, p2, p3, p4, p5, p6, p7, p8] : List Nat).length = 9) := rfl
  have H32 := Lib.hid h32
  have hb0 := sup_grow w (.cells (ino a b c d s p0 p1 p2 p3 p4 p5 p6 p7 p8) 25)
  have HB0 := Lib.hid hb0
  have hz0 : (w.alloc (.cells (ino a b c d s p0 p1 p2 p3 p4 p5 p6 p7 p8) 25)).heap.size = w.heap.size + 1 := by simp
  have HZ0 := Lib.hid hz0
  have hzl : w.heap.size + 1 ≤ (w.alloc (.cells (ino a b c d s p0 p1 p2 p3 p4 p5 p6 p7 p8) 25)).heap.size := by omega
  have hzg : (w.alloc (.cells (ino a b c d s p0 p1 p2 p3 p4 p5 p6 p7 p8) 25)).heap.size ≤ w.heap.size + 1 := by omega
  clear h32 hb0 hz0
  generalize inoN a b c d s p0 p1 p2 p3 p4 p5 p6 p7 p8 = L at *
  generalize ([p0, p1, p2, p3, p4, p5, p6, p7, p8] : List Nat) = ps at *
  have hr4 : ∀ (v : Nat), le2 v = le2 v := fun _ => rfl
  clear hr4
  go_enter Tryd.func15, Tryd.ntmps15
  go_wp2_with fail
  generalize (w.alloc (.cells (ino a b c d s p0 p1 p2 p3 p4 p5 p6 p7 p8) 25)) = w0 at *
  refine (four_row a _ (by omega)).mono ?_
  rintro e w1 ⟨rfl, hr, hx⟩
  have HG1 : Hid (Grown4 w0 w1 (w.heap.size + 1) (some ⟨w0.heap.size, 0, none⟩) 2 4 (le2 a)) := ⟨own_two hr (by omega), le2_lt a, hx, by have := hx.size; omega, by omega⟩
  have hs1 := fun W => cut_two w0.heap.size W
  have c1 : w1.cell? ⟨w.heap.size, 1, none⟩ = some (.int .i64 b) := by simpa using (G0.out.later hx).cell 1
  have hz1 := hx.size
  clear hr hx
  go_wp2_with fail
  refine (four_row b _ (by omega)).mono ?_
  rintro e w2 ⟨rfl, hr, hx⟩
  have HY2 := Lib.hid (bytes_two hr)
  have HX2 := Lib.hid hx
  have hz2 := hx.size
  have hs2 := fun W => cut_two w1.heap.size W
  clear hr hx hs1 c1
  go_wp2_with (first | (at_builtin; refine wp_append_bytes rfl (.tmp 9) (.tmp 13) 27 rfl (w.heap.size + 1) 5 Tryd.underlying27 info_u8 _ 2 (le2 a) rfl (HG1.out.kept HX2.out) HG1.out.lt (some ⟨w1.heap.size, 0, none⟩) 2 4 (le2 b) rfl rfl HY2.out (fun h => by cases h) (by omega) (by omega) ?_; intro a3 cap3 w3 hown hgr hB hn; have HG3 : Hid (Grown4 w0 w3 (w.heap.size + 1) a3 4 cap3 (le2 a ++ le2 b)) := HG1.out.next HX2.out (le2_lt b) hown hgr; have hz3 := hgr.size; clear hown hgr hB hn; have c2 : w3.cell? ⟨w.heap.size, 2, none⟩ = some (.int .i64 c) := (by simpa using (G0.out.below HG3.out.below (by omega)).cell 2); have c3 : w3.cell? ⟨w.heap.size, 3, none⟩ = some (.int .i64 d) := (by simpa using (G0.out.below HG3.out.below (by omega)).cell 3)) | (at_builtin; refine wp_append_bytes rfl (.tmp 15) (.tmp 22) 27 rfl (w.heap.size + 1) 5 Tryd.underlying27 info_u8 _ 4 (le2 a ++ le2 b) rfl (HG3.out.kept (sup_grow w3 _)) HG3.out.lt (some ⟨w3.heap.size, 0, none⟩) 2 2 [c, d] rfl rfl (Bytes.laid w3 [c, d] _ _ _ (pre10_lt hc hd) (by simp) (cd_cells c d)) (fun h => by cases h) (by omega) (by simp; omega) ?_; intro a4 cap4 w4 hown hgr hB hn; have HG4 : Hid (Grown4 w0 w4 (w.heap.size + 1) a4 6 cap4 ((le2 a ++ le2 b) ++ [c, d])) := HG3.out.next (sup_grow w3 _) (pre10_lt hc hd) hown hgr; have hz4 : w3.heap.size ≤ w4.heap.size := (by have := hgr.size; simp at this; omega); clear hown hgr hB hn c2 c3; have c4 : w4.cell? ⟨w.heap.size, 4, none⟩ = some (.int .i64 s) := (by simpa using (G0.out.below HG4.out.below (by omega)).cell 4)))
  refine (four_row s _ hs).mono ?_
  rintro e w5 ⟨rfl, hr, hx⟩
  have HR5 := Lib.hid hr
  have HX5 := Lib.hid hx
  have hz5 := hx.size
  clear hr hx c4
  go_wp2_with (at_builtin; refine wp_append_bytes rfl (.tmp 24) (.tmp 27) 27 rfl (w.heap.size + 1) 5 Tryd.underlying27 info_u8 _ 6 ((le2 a ++ le2 b) ++ [c, d]) rfl (HG4.out.kept HX5.out) HG4.out.lt (some ⟨w4.heap.size, 0, none⟩) 4 4 (le4 s) rfl rfl (HR5.out.bytes (le4_lt s) (by simp [le4])) (fun h => by cases h) (by omega) (by omega) ?_; intro a6 cap6 w6 hown hgr hB hn; have HG6 : Hid (Grown4 w0 w6 (w.heap.size + 1) a6 10 cap6 (pre10 a b c d s)) := HG4.out.next HX5.out (le4_lt s) hown hgr; clear hown hgr hB hn)
  generalize hpre : pre10 a b c d s = pre at *
  have HPre := Lib.hid hpre
  clear hpre
  go_loopw [3, 4] (fun v i wr => ERel w0 (w.heap.size + 1) pre ps v i wr) (fun _ i _ => 9 - (intOf i).toNat)
  case atStart => exact ⟨0, a6, cap6, by omega, rfl, rfl, by simpa [flatP] using HG6.out⟩
  case round =>
    obtain ⟨k, a7, cap7, hk, rfl, rfl, hg⟩ := hrel
    have HG := Lib.hid hg
    have hlow := hg.low
    have hsz := hg.size
    clear hg
    by_cases hlt : k < 9
    · have hc0 : wr.cell? ⟨w.heap.size, 5 + k, none⟩ = some (.int .u32 (ps.getD k 0 : Nat)) := by
        rw [(G0.out.below HG.out.below (by omega)).cell (5 + k)]
        exact HPt.out k hlt
      have hp : ps.getD k 0 < 4294967296 := by
        rw [List.getD_eq_getElem?_getD, List.getElem?_eq_getElem (by rw [HPl.out]; exact hlt)]
        exact H32.out _ (List.getElem_mem _)
      generalize hpe : ps.getD k 0 = p at *
      have HPE := Lib.hid hpe
      clear hpe
      go_wp2_with fail
      refine (four_row p _ hp).mono ?_
      rintro e wp ⟨rfl, hr, hb⟩
      have HR := Lib.hid hr
      have HPb := Lib.hid hb
      have hzz := hb.size
      clear hr hb hc0
      go_wp2_with (at_builtin; refine wp_append_bytes rfl (.tmp 33) (.tmp 39) 27 rfl (w.heap.size + 1) 5 Tryd.underlying27 info_u8 _ (10 + 4 * k) (pre ++ flatP ps k) rfl (HG.out.kept HPb.out) HG.out.lt (some ⟨wr.heap.size, 0, none⟩) 4 4 (le4 p) rfl rfl (HR.out.bytes (le4_lt p) (by simp [le4])) (fun h => by cases h) (by omega) (by omega) ?_; intro a3 cap3 w3 hown hgr hB hn; have HF := Lib.hid (erel_next hlt HPl.out HPE.out HG.out HPb.out hown hgr); clear hown hgr hB hn)
      go_roundw
      case rel => exact HF.out
      case measure => simp [intOf]; omega
    · obtain rfl : k = 9 := by omega
      clear hlt
      generalize pre ++ flatP ps 9 = L46 at *
      clear hk
      go_wp2_with fail
      obtain ⟨wo, rfl⟩ : ∃ wo : World, wo = wr := ⟨_, rfl⟩
      simp only [show ((9 : Nat) : Int) = (9 : Int) from rfl]
      go_loopw [3] (fun v wr => FRel w0 (w.heap.size + 1) L46 v wr) (fun v _ => 60 - lenV v)
      case atStart => exact ⟨0, a7, cap7, rfl, by omega, by simpa using HG.out⟩
      case round =>
        obtain ⟨k, a8, cap8, rfl, hk, hg⟩ := hrel
        have HG8 := Lib.hid hg
        have hlow8 := hg.low
        have hsz8 := hg.size
        clear hg hlow hsz
        by_cases hlt : k < 14
        · go_wp2_with (at_builtin; refine wp_append_bytes rfl (.tmp 44) (.tmp 45) 27 rfl (w.heap.size + 1) 5 Tryd.underlying27 info_u8 _ (46 + k) (L46 ++ List.replicate k 0) rfl (HG8.out.own.alloc _) HG8.out.lt (some ⟨_, 0, none⟩) 1 1 [0] rfl rfl (Bytes.laid _ [0] _ _ _ (by decide) (by decide) zero_cells) (fun h => by cases h) (by omega) (by simp; omega) ?_; intro a9 cap9 w9 hown hgr hB1 hn1; have HF := Lib.hid (frel_next hlt HG8.out hown hgr); clear hown hgr hB1 hn1)
          go_roundw
          case rel => exact HF.out
          case measure => simp [lenV]; omega
        · obtain rfl : k = 14 := by omega
          clear hlt
          have hG9 := HG8.out
          rw [HFin.out] at hG9
          have HG9 := Lib.hid hG9
          clear hG9
          have hY : Hid (Bytes wr a8 L) := by
            obtain ⟨a2, c2, he, _, hB, _⟩ := Bytes.own HG9.out.own HG9.out.lt
            cases he
            exact hB
          have hN : Hid (a8 = none → L = [] ∧ cap8 = 0) := fun e => by
            subst e
            rcases HG9.out.own.2 with ⟨_, h2⟩ | ⟨g', c, cur, h1, _⟩
            · omega
            · cases h1
          clear HFin hk hlow8
          go_wp2_with fail
          refine (refSeal_any L 60 HFl.out.symm (by decide) a8 cap8 _ hY.out hN.out).mono ?_
          rintro e wz ⟨a', cap', rfl, hby, hbw, _, _⟩
          have HBY := Lib.hid hby
          have HW : Hid (Below w.heap.size w wz) := HB0.out.trans ((HG9.out.below.mono (by omega)).trans (hbw.mono (by omega)))
          clear hby hbw
          go_wp2
          go_ret
          exact ⟨a', cap', rfl, HBY.out, HW.out⟩
end Go.Proofs.YtfkobamemehkdaaDoor
