/-
  The walk of DiskSure.
-/
import Derived.Test.YtefphnmabbfbjaaDkSuM
import Derived.Deep.CutBlock
namespace Go.Proofs.Ytefphnmabbfbjaa
open Go.RowKit

abbrev A2U := 43
def ini (k : Nat) : List Nat := byt [k + 1, 7]
theorem bytes_two (w : World) (x y : Nat) (hx : x < 256) (hy : y < 256) : Bytes (w.alloc (.cells #[.int .u8 (x : Int), .int .u8 (y : Int)] U8)) (some ⟨w.heap.size, 0, none⟩) [x, y] :=
  Bytes.laid w [x, y] _ U8 (0, 0) (fun z hz => by simp at hz; omega) (by simp) (fun i hi => by
    match i, hi with
    | 0, _ => rfl
    | 1, _ => rfl
    | i + 2, hi => simp at hi; omega)
/-- A disk of six blocks that isn't armed. -/
structure Sd (d : Dm) (s q : Nat) : Prop where
  n : d.n = 6
  ar : d.armed = false
  lf : d.left = 0
  st : d.steps = s
  ql : d.Q.length = q
theorem Sd.dead {d : Dm} {s q : Nat} (h : Sd d s q) : deadB d = false := by simp [deadB, h.ar]
theorem Sd.put {d : Dm} {s q : Nat} (h : Sd d s q) (i : Nat) (l : List Nat) : Sd (putD d i l) (s + 1) (q + 1) :=
  ⟨h.n, h.ar, by show (if d.armed then d.left - 1 else d.left) = 0; rw [h.ar]; exact h.lf, by show d.steps + 1 = _; rw [h.st]; omega, by show (d.Q ++ [_]).length = _; simp [h.ql]⟩
theorem Sd.bar {d : Dm} {s q : Nat} (h : Sd d s q) : Sd (barD d) (s + 1) 0 :=
  ⟨h.n, h.ar, by show (if d.armed then d.left - 1 else d.left) = 0; rw [h.ar]; exact h.lf, by show d.steps + 1 = _; rw [h.st]; omega, rfl⟩
def SuR1 (w : World) (L : Dl) (x y : Int) (t : Value) (wr : World) : Prop :=
  ∃ (k : Nat) (qv : Value) (d : Dm), k ≤ 6 ∧ t = .int .i64 k ∧ Dk w.heap.size wr { L with qv := qv } d ∧ Sd d k k ∧ (∀ i, d.N i = flushQ d.S d.Q i) ∧ (∀ i, i < k → d.N i = ini i) ∧ Blo wr w.heap.size A2U #[.int .i64 x, .int .i64 y] ∧ Below w.heap.size w wr
theorem now_put {d : Dm} (h : ∀ i, d.N i = flushQ d.S d.Q i) (k : Nat) (l : List Nat) : ∀ i, (putD d k l).N i = flushQ (putD d k l).S (putD d k l).Q i := fun i => by
  show updB d.N k l i = flushQ d.S (d.Q ++ [(k, l)]) i
  rw [flushQ_snoc]
  unfold updB
  split
  · rfl
  · exact h i
def SuR2 (w : World) (L : Dl) (x y : Int) (hb : Nat) (t : Value) (wr : World) : Prop :=
  ∃ (k : Nat) (qv : Value) (d : Dm) (V : Nat → Value) (G : Nat → List (Nat × List Nat)), k ≤ 6 ∧ t = .int .i64 k ∧ Dk w.heap.size wr { L with qv := qv } d ∧ Sd d 7 0 ∧ (∀ i, i < 6 → d.S i = ini i) ∧ d.Q = [] ∧ Hs wr w.heap.size hb V G ∧ (∀ i, (G i).map (·.2) = if i < k then [ini i] else []) ∧ Blo wr w.heap.size A2U #[.int .i64 x, .int .i64 y] ∧ Below w.heap.size w wr
/-- The same, its steps and writes counted from above. -/
structure Se (d : Dm) (k : Nat) : Prop where
  n : d.n = 6
  ar : d.armed = false
  lf : d.left = 0
  st : d.steps ≤ 7 + k
  ql : d.Q.length ≤ k
theorem Se.dead {d : Dm} {k : Nat} (h : Se d k) : deadB d = false := by simp [deadB, h.ar]
theorem Se.more {d : Dm} {k : Nat} (h : Se d k) : Se d (k + 1) := ⟨h.n, h.ar, h.lf, by have := h.st; omega, by have := h.ql; omega⟩
theorem Se.put {d : Dm} {k : Nat} (h : Se d k) (i : Nat) (l : List Nat) : Se (putD d i l) (k + 1) :=
  ⟨h.n, h.ar, by show (if d.armed then d.left - 1 else d.left) = 0; rw [h.ar]; exact h.lf, by show d.steps + 1 ≤ _; have := h.st; omega, by show (d.Q ++ [_]).length ≤ _; have := h.ql; simp; omega⟩
theorem Sd.e {d : Dm} (h : Sd d 7 0) : Se d 0 := ⟨h.n, h.ar, h.lf, by rw [h.st]; decide, by rw [h.ql]; decide⟩
def SuR3 (w : World) (L : Dl) (x y : Int) (hb : Nat) (t : Value) (wr : World) : Prop :=
  ∃ (k : Nat) (qv : Value) (d : Dm) (V : Nat → Value) (G : Nat → List (Nat × List Nat)), k ≤ 30 ∧ t = .int .i64 k ∧ Dk w.heap.size wr { L with qv := qv } d ∧ Se d k ∧ (∀ i, i < 6 → d.S i = ini i) ∧ Hs wr w.heap.size hb V G ∧ (∀ i, i < 6 → (G i).map (·.2) = ini i :: wrs d.Q i) ∧ Blo wr w.heap.size A2U #[.int .i64 x, .int .i64 y] ∧ Below w.heap.size w wr
def SuE3 (w : World) (L : Dl) (x y : Int) (hb : Nat) (wr : World) : Prop :=
  ∃ (qv : Value) (d : Dm) (V : Nat → Value) (G : Nat → List (Nat × List Nat)), Dk w.heap.size wr { L with qv := qv } d ∧ Se d 30 ∧ (∀ i, i < 6 → d.S i = ini i) ∧ Hs wr w.heap.size hb V G ∧ (∀ i, i < 6 → (G i).map (·.2) = ini i :: wrs d.Q i) ∧ Blo wr w.heap.size A2U #[.int .i64 x, .int .i64 y] ∧ Below w.heap.size w wr
theorem Se.le {d : Dm} {k m : Nat} (h : Se d k) (hm : k ≤ m) : Se d m := ⟨h.n, h.ar, h.lf, by have := h.st; omega, by have := h.ql; omega⟩
def SuR4 (w4 : World) (t : Value) (wr : World) : Prop := ∃ k : Nat, k ≤ 6 ∧ t = .int .i64 k ∧ Below w4.heap.size w4 wr
def SuR5 (w5 : World) (t : Value) (wr : World) : Prop := ∃ s : Nat, s ≤ 4 ∧ t = .int .i64 (16 * (s : Int)) ∧ Below w5.heap.size w5 wr
def SuR6 (w5 : World) (l : List (Nat × List Nat)) (b : List Nat) (s : Nat) (t tv : Value) (wr : World) : Prop := ∃ (j : Nat) (th : Bool), j ≤ l.length ∧ t = .int .i64 j ∧ tv = .bool th ∧ th = anyP l b s j ∧ Below w5.heap.size w5 wr
set_option maxRecDepth 100000 in
set_option maxHeartbeats 8000000 in
theorem diskSure_walk (a : Option Addr) (len cap : Nat) (A : Nat → Option Addr) (C : Nat → Nat) (Ws : List (List Nat)) (a1 : Option Addr) (len1 cap1 : Nat) (keep : List Bool) (x y : Int) (w : World) (hws : Lists w a len A C Ws) (hkeep : IsBools w a1 len1 keep) (_ : True) :
    Calls Try.prog 4 #[.slice a len cap, .slice a1 len1 cap1, .agg #[.int .i64 x, .int .i64 y]] w fun e w' => e = .returned (.bool true) ∧ Below w.heap.size w w' := by
  have HAw := Lib.hid (fun W => awake_any W)
  have HWs := Lib.hid hws
  have HKl := Lib.hid hkeep.1
  have HKb := Lib.hid hkeep.2.2
  have hkm := hkeep.2.1
  have hlen := hws.le
  have hb0 : Below w.heap.size w (w.alloc (.cells #[.int .i64 x, .int .i64 y] A2U)) := (Below.refl _ _).alloc (Nat.le_refl _) _
  have HB0 := Lib.hid hb0
  have HA0 := Lib.hid (blo_laid w A2U #[.int .i64 x, .int .i64 y])
  clear hws hkeep hb0
  go_enter Try.func4, Try.ntmps4
  go_wp2_with fail
  generalize (w.alloc (.cells #[.int .i64 x, .int .i64 y] A2U)) = w00 at *
  refine (HAw.out w00).mono ?_
  rintro e w1 ⟨rfl, hb1⟩
  have HB1 := Lib.hid (HB0.out.trans (hb1.mono HB0.out.size))
  have HA1 := Lib.hid (HA0.out.later hb1)
  clear hb1 HAw HB0 HA0
  go_wp2_with fail
  refine (new_any 6 w1 (by omega) (by omega)).mono ?_
  rintro e w2 ⟨L, rfl, hD, hb⟩
  have HD := Lib.hid (hD.deeper HB1.out.size)
  have HB2 := Lib.hid (HB1.out.trans (hb.mono HB1.out.size))
  have HA2 := Lib.hid (HA1.out.later hb)
  clear hD hb HB1 HA1
  go_wp2_with fail
  have HSt : Hid (SuR1 w L x y (.int .i64 0) w2) := ⟨0, L.qv, newD 6, by decide, rfl, HD.out, ⟨rfl, rfl, rfl, rfl, rfl⟩, fun _ => rfl, fun i hi => by omega, HA2.out, HB2.out⟩
  clear HD HB2 HA2
  go_loopw [9] (fun t wr => SuR1 w L x y t wr) (fun t _ => 6 - (intOf t).toNat)
  case atStart => exact HSt.out
  case round =>
    clear HSt
    obtain ⟨k, qv, d, hk, rfl, hD, hS, hN, hI, hA, hB⟩ := hrel
    have HD := Lib.hid hD
    have HS := Lib.hid hS
    have HN := Lib.hid hN
    have HI := Lib.hid hI
    have HA := Lib.hid hA
    have HB := Lib.hid hB
    clear hD hS hN hI hA hB
    have k0 : (0 : Int) ≤ (k : Int) := by omega
    by_cases hlt : k < 6
    · have k1 : (k : Int) < 6 := by omega
      have HKn : Hid (k < 6) := hlt
      obtain ⟨k2, hk2⟩ : ∃ k2, k + 1 = k2 := ⟨_, rfl⟩
      have e1 : (k : Int) + 1 = (k2 : Int) := by omega
      have e2 : (k2 : Int) % 256 = (k2 : Int) := by omega
      have hk7 : k2 ≤ 6 := by omega
      have HK2 := Lib.hid hk2
      clear hk2
      go_wp2_with fail
      refine (bytes_any _ 2 2 [k2, 7] _ rfl (by decide) (bytes_two wr k2 7 (by omega) (by decide))).mono ?_
      rintro e w5 ⟨g5, rfl, hk5, hg5, hb5⟩
      have hs5 : Below wr.heap.size wr w5 := ((Below.refl _ _).alloc (Nat.le_refl _) _).trans (hb5.mono (by simp))
      have HD5 := Lib.hid (HD.out.later hs5)
      have HA5 := Lib.hid (HA.out.later hs5)
      have HB5 := Lib.hid (HB.out.trans (hs5.mono HB.out.size))
      have HK5 := Lib.hid hk5
      clear hk5 hg5 hb5 hs5 HD HA HB
      go_wp2_with fail
      refine (write_yes (L := { L with qv := qv }) (d := d) k g5 64 (byt [k2, 7]) (by rw [HS.out.n]; exact HKn.out) HS.out.dead (by rw [HS.out.lf]; decide) (by rw [HS.out.st]; omega) (by rw [HS.out.ql]; omega) HK5.out HD5.out).mono ?_
      intro e w6 hO
      obtain ⟨rfl, qv6, hD6, hO6, _⟩ := hO
      have HD6 := Lib.hid hD6
      have HA6 := Lib.hid (hO6.blo HA5.out (HD5.out.apart HA5.out (by decide) (by decide) (by decide)))
      have HB6 := Lib.hid (HB5.out.trans (hO6.below HB5.out.size (fun i _ hi => (HD5.out.has_lt hi).1)))
      clear hD6 hO6 HD5 HA5 HB5 HK5
      go_wp2_with fail
      go_roundw
      case rel =>
        refine ⟨k2, qv6, putD d k (byt [k2, 7]), hk7, rfl, HD6.out, by rw [← HK2.out]; exact HS.out.put _ _, now_put HN.out _ _, fun i hi => ?_, HA6.out, HB6.out⟩
        show updB d.N k (byt [k2, 7]) i = ini i
        by_cases e : i = k
        · subst e; rw [updB_at, ← HK2.out]; rfl
        · rw [updB_ne _ _ e]; exact HI.out i (by have := HK2.out; omega)
      case measure => simp [intOf]; have := HK2.out; omega
    · have hke : k = 6 := by omega
      subst hke
      have k1 : ¬ ((6 : Nat) : Int) < 6 := by decide
      go_wp2_with fail
      refine (bar_yes (L := { L with qv := qv }) (d := d) HD.out HS.out.dead (by rw [HS.out.lf]; decide) (by rw [HS.out.st]; decide)).mono ?_
      intro e w3 hO
      obtain ⟨rfl, qv3, hD3, hO3, _⟩ := hO
      have HS3 := Lib.hid HS.out.bar
      have HI3 : Hid (∀ i, i < 6 → (barD d).S i = ini i) := fun i hi => by
        show flushQ d.S d.Q i = ini i
        rw [← HN.out i]; exact HI.out i hi
      have HQ3 : Hid ((barD d).Q = []) := rfl
      generalize barD d = d3 at *
      have HD3 := Lib.hid hD3
      have HA3 := Lib.hid (hO3.blo HA.out (HD.out.apart HA.out (by decide) (by decide) (by decide)))
      have HB3 := Lib.hid (HB.out.trans (hO3.below HB.out.size (fun i _ hi => (HD.out.has_lt hi).1)))
      clear hD3 hO3 HD HA HB HS HN HI
      go_wp2_with fail
      have HSt : Hid (SuR2 w L x y w3.heap.size (.int .i64 0) (w3.alloc (.cells #[.slice none 0 0, .slice none 0 0, .slice none 0 0, .slice none 0 0, .slice none 0 0, .slice none 0 0] A6T))) := by
        have hl : Below w3.heap.size w3 (w3.alloc (.cells #[.slice none 0 0, .slice none 0 0, .slice none 0 0, .slice none 0 0, .slice none 0 0, .slice none 0 0] A6T)) := (Below.refl _ _).alloc (Nat.le_refl _) _
        exact ⟨0, qv3, d3, fun _ => .slice none 0 0, fun _ => [], by decide, rfl, HD3.out.later hl, HS3.out, HI3.out, HQ3.out, hs_new w3 _, fun i => by simp, HA3.out.later hl, HB3.out.trans (hl.mono HB3.out.size)⟩
      have HHb : Hid (w.heap.size ≤ w3.heap.size) := HB3.out.size
      generalize w3.heap.size = hb at *
      clear HD3 HS3 HI3 HQ3 HA3 HB3 k1 k0 hk
      go_loopw [51] (fun t wr => SuR2 w L x y hb t wr) (fun t _ => 6 - (intOf t).toNat)
      case atStart => exact HSt.out
      case round =>
        clear HSt
        obtain ⟨k, qv, d, V, G, hk, rfl, hD, hS, hI, hQ, hH, hG, hA, hB⟩ := hrel
        have HD := Lib.hid hD
        have HS := Lib.hid hS
        have HI := Lib.hid hI
        have HQ := Lib.hid hQ
        have HH := Lib.hid hH
        have HG := Lib.hid hG
        have HA := Lib.hid hA
        have HB := Lib.hid hB
        clear hD hS hI hQ hH hG hA hB
        have k0 : (0 : Int) ≤ (k : Int) := by omega
        by_cases hlt : k < 6
        · have k1 : (k : Int) < 6 := by omega
          have HKn : Hid (k < 6) := hlt
          obtain ⟨k2, hk2⟩ : ∃ k2, k + 1 = k2 := ⟨_, rfl⟩
          have e1 : (k : Int) + 1 = (k2 : Int) := by omega
          have e2 : (k2 : Int) % 256 = (k2 : Int) := by omega
          have hk7 : k2 ≤ 6 := by omega
          have HK2 := Lib.hid hk2
          clear hk2
          go_wp2_with fail
          refine (bytes_any _ 2 2 [k2, 7] _ rfl (by decide) (bytes_two wr k2 7 (by omega) (by decide))).mono ?_
          rintro e w5 ⟨g5, rfl, hk5, hg5, hb5⟩
          have hs5 : Below wr.heap.size wr w5 := ((Below.refl _ _).alloc (Nat.le_refl _) _).trans (hb5.mono (by simp))
          have HD5 := Lib.hid (HD.out.later hs5)
          have HA5 := Lib.hid (HA.out.later hs5)
          have HH5 := Lib.hid (HH.out.later hs5)
          have HB5 := Lib.hid (HB.out.trans (hs5.mono HB.out.size))
          have HK5 := Lib.hid hk5
          have HF := Lib.hid (hs_first (p := (g5, byt [k2, 7])) HH5.out HKn.out (by have := HG.out k; rw [if_neg (Nat.lt_irrefl k)] at this; simpa using this) HK5.out HB5.out.size)
          have x5 : (w5.alloc (.cells #[.slice (some ⟨g5, 0, none⟩) 64 64] SLB)).cell? ⟨hb, k, none⟩ = some (V k) := (HH5.out.later ((Below.refl _ _).alloc (Nat.le_refl _) _)).cell HKn.out
          have f5 : (w5.alloc (.cells #[.slice (some ⟨g5, 0, none⟩) 64 64] SLB)).frozen? ⟨hb, k, none⟩ = false := (HH5.out.later ((Below.refl _ _).alloc (Nat.le_refl _) _)).top.frozen k
          clear hk5 hg5 hb5 hs5 HD HA HB HH
          go_wp2_with fail
          go_roundw
          case rel =>
            have hl : Below w5.heap.size w5 (w5.alloc (.cells #[.slice (some ⟨g5, 0, none⟩) 64 64] SLB)) := (Below.refl _ _).alloc (Nat.le_refl _) _
            have ho := out_put (X := fun j => j = hb) (w5.alloc (.cells #[.slice (some ⟨g5, 0, none⟩) 64 64] SLB)) ⟨hb, k, none⟩ (.slice (some ⟨w5.heap.size, 0, none⟩) 1 1) rfl
            have htop := (HH5.out.later hl).top
            refine ⟨k2, qv, d, _, _, hk7, rfl, (HD5.out.later hl).out ho (fun i hi e => (HD5.out.later hl).apart htop (by decide) (by decide) (by decide) (by rw [← e]; exact hi)), HS.out, HI.out, HQ.out, HF.out, fun i => ?_, ho.blo (HA5.out.later hl) (htop.apart (HA5.out.later hl) (by decide)).symm, (HB5.out.trans (hl.mono HB5.out.size)).trans (ho.below (by simp; exact Nat.le_succ_of_le HB5.out.size) (fun i _ e => by rw [e]; exact HHb.out))⟩
            have hki := HK2.out
            have hgi := HG.out i
            by_cases e : i = k
            · subst e
              simp only [updG, if_true]
              rw [if_neg (Nat.lt_irrefl i)] at hgi
              rw [List.map_append, hgi, if_pos (by omega), ← hki]; rfl
            · simp only [updG, if_neg e]
              rw [hgi]
              by_cases c : i < k
              · rw [if_pos c, if_pos (by omega)]
              · rw [if_neg c, if_neg (by omega)]
          case measure => simp [intOf]; have := HK2.out; omega
        · have hke : k = 6 := by omega
          have k1 : ¬ (k : Int) < 6 := by omega
          go_upto_block 4 with fail
          have HSt : Hid (SuR3 w L x y hb (.int .i64 0) wr) := ⟨0, qv, d, V, G, by decide, rfl, HD.out, HS.out.e, HI.out, HH.out, fun i hi => by rw [HG.out i, if_pos (by omega), HQ.out]; rfl, HA.out, HB.out⟩
          clear HD HS HI HQ HH HG HA HB k1 k0 hk hke hlt
          rename_i k51 _ _ _ _
          go_cut [] (fun wx => SuE3 w L x y hb wx)
          case first =>
           go_wp2_with fail
           go_loopw [12] (fun t wr => SuR3 w L x y hb t wr) (fun t _ => 30 - (intOf t).toNat)
           case atStart => exact HSt.out
           case round =>
            clear HSt
            obtain ⟨k, qv, d, V, G, hk, rfl, hD, hS, hI, hH, hG, hA, hB⟩ := hrel
            have HD := Lib.hid hD
            have HS := Lib.hid hS
            have HI := Lib.hid hI
            have HH := Lib.hid hH
            have HG := Lib.hid hG
            have HA := Lib.hid hA
            have HB := Lib.hid hB
            clear hD hS hI hH hG hA hB
            have k0 : (0 : Int) ≤ (k : Int) := by omega
            by_cases hlt : k < len ∧ k < 30
            · obtain ⟨hkl, hk30⟩ := hlt
              have k1 : (k : Int) < 30 := by omega
              have k2 : (k : Int) < (len : Int) := by omega
              have HKn : Hid (k < 30) := hk30
              obtain ⟨b, o, ha, hcells⟩ := HWs.out.at_ (by omega)
              subst ha
              have c0 : wr.cell? ⟨b, o + k, none⟩ = some (.slice (A k) (nthL Ws k).length (C k)) := cell_later HB.out (hcells k hkl)
              obtain ⟨hBy, hnil, hcap⟩ := HWs.out.each k hkl
              have HBy := Lib.hid (hBy.below HB.out)
              generalize nthL Ws k = l at *
              generalize A k = ak at *
              generalize C k = ck at *
              clear hcells
              by_cases hl0 : l.length = 0
              · have hl1 : ((l.length : Nat) : Int) = 0 := by omega
                go_wp2_with fail
                go_roundw
                case rel => exact ⟨k + 1, qv, d, V, G, HKn.out, by simp, HD.out, HS.out.more, HI.out, HH.out, HG.out, HA.out, HB.out⟩
                case measure => simp [intOf]; have := HKn.out; omega
              · have hl1 : ¬ ((l.length : Nat) : Int) = 0 := by omega
                obtain ⟨bk, ok, rfl, hbc⟩ := HBy.out.2.2 (fun e => hl0 (by rw [e]; rfl))
                have c1 := hbc 0 (by omega)
                rw [Nat.add_zero] at c1
                have hx0 : l.getD 0 0 < 256 := getD_byte HBy.out.1 0
                have l0 : (0 : Int) < ((l.length : Nat) : Int) := by omega
                have HX0 := Lib.hid hx0
                have hlm : l.length ≤ 9223372036854775807 := HBy.out.2.1
                generalize l.getD 0 0 = x0 at *
                have x00 : (0 : Int) ≤ (x0 : Int) := by omega
                have x01 : (x0 : Int) ≤ 255 := by omega
                obtain ⟨kk, hkk, hkk6⟩ : ∃ kk : Nat, (x0 : Int) % 6 = (kk : Int) ∧ kk < 6 := ⟨x0 % 6, by omega, by omega⟩
                have HK6 : Hid (kk < 6) := hkk6
                have HGl : Hid ((G kk).length ≤ 31) := by
                  have h1 := congrArg List.length (HG.out kk hkk6)
                  have h2 : (wrs d.Q kk).length ≤ d.Q.length := by unfold wrs; rw [List.length_map]; exact List.length_filter_le _ _
                  have h3 := HS.out.ql
                  have h4 := HKn.out
                  rw [List.length_map, List.length_cons] at h1
                  show (G kk).length ≤ 31
                  omega
                have kk0 : (0 : Int) ≤ (kk : Int) := by omega
                have kk6 : (kk : Int) < 6 := by omega
                have xw := HH.out.cell hkk6
                obtain ⟨i0, hi0, hz0, hz1, hz2⟩ := info_parts info_slb
                clear hbc hnil hcap
                go_wp2_with fail
                simp only [hkk]
                clear hkk x00 x01 hx0 hkk6
                go_cut [] (fun wx => ∃ V' G', Dk w.heap.size wx { L with qv := qv } d ∧ Hs wx w.heap.size hb V' G' ∧ (∀ i, i < 6 → (G' i).map (·.2) = if i = kk then (ini i :: wrs d.Q i) ++ [byt l] else ini i :: wrs d.Q i) ∧ Blo wx w.heap.size A2U #[.int .i64 x, .int .i64 y] ∧ Below w.heap.size w wx)
                case first =>
                  go_region_law (first
                    | (go_simp; go_at_call 16; (with_reducible refine (bytes_any _ _ _ l _ rfl hlm (HBy.out.below ((Below.refl _ _).drew))).mono ?_); rintro e w5 ⟨g5, rfl, hk5, hg5, hb5⟩; have HW5 : Hid (Below wr.heap.size wr w5) := ((Below.refl _ _).drew).trans hb5; have HH5 := Lib.hid (HH.out.later HW5.out); have HP5 := Lib.hid hk5; have x5 := HH5.out.cell HK6.out; have HH6 := Lib.hid (HH5.out.later ((Below.refl _ _).alloc (Nat.le_refl _) (.cells #[.slice (some ⟨g5, 0, none⟩) 64 64] SLB))); have x6 := HH6.out.cell HK6.out; clear hk5 hg5 hb5)
                    | (refine step_append_lies _ (by rfl) (.tmp 88) (.tmp 91) LLB (by rfl) w.heap.size SLB i0 _ 1 24 Try.underlying42 hi0 hz0 hz1 hz2 rfl (by decide) (V kk) (G kk).length (ptrsOf (G kk)) (by simp [go_sem]) (HH6.out.row kk HK6.out) ⟨w5.heap.size, 0, none⟩ 1 1 [.slice (some ⟨g5, 0, none⟩) 64 64] (by simp [go_sem]) (by rfl) (World.news_of_block (cs := #[.slice (some ⟨g5, 0, none⟩) 64 64]) (t := SLB) (fr := (0, 0)) (heap_alloc_new w5 _)) (by simp [Value.oneCell']) (by decide) (by have := HGl.out; unfold maxLen; omega) (by have := HGl.out; omega) (by have h1 := HB.out.size; have h2 := HW5.out.size; simp; omega) (w5.heap.size + 1) (by simp) ?_; intro g1 cap1 w6 hown hgrow hat hlt1; have HX := Lib.hid (hs_step (p := (g5, byt l)) (HD.out.later HW5.out) HH5.out (HA.out.later HW5.out) (by decide) (by decide) (HB.out.trans (HW5.out.mono HB.out.size)) (Nat.le_refl _) HHb.out HK6.out HP5.out rfl hown hgrow hat rfl); have x7 := HX.out.cell; have f7 := HX.out.frozen; clear hown hgrow hat hlt1)
                    | fail)
                  all_goals
                    go_wp2_with fail
                    go_meet
                    refine ⟨_, _, HX.out.dk, HX.out.hs, fun i hi => ?_, HX.out.arr, HX.out.low⟩
                    have hgi := HG.out i hi
                    by_cases e : i = kk
                    · subst e
                      simp only [updG, if_true]
                      rw [List.map_append, hgi]; rfl
                    · simp only [updG, if_neg e]
                      exact hgi
                case rest =>
                  obtain ⟨V', G', hD', hH', hG', hA', hB'⟩ := hcut
                  have HD' := Lib.hid hD'
                  have HH' := Lib.hid hH'
                  have HG' := Lib.hid hG'
                  have HA' := Lib.hid hA'
                  have HBy' := Lib.hid (hBy.below hB')
                  have HB' := Lib.hid hB'
                  clear hD' hH' hG' hA' hB' HD HH HG HA HB HBy hBy xw i0 hi0 hz0 hz1 hz2
                  have HBb : Hid (∀ x ∈ byt l, x < 256) := byt_byte HBy'.out.1
                  go_wp2_with fail
                  refine (bytes_any _ _ _ l _ rfl hlm HBy'.out).mono ?_
                  rintro e w5 ⟨g5, rfl, hk5, hg5, hb5⟩
                  have HD5 := Lib.hid (HD'.out.later hb5)
                  have HA5 := Lib.hid (HA'.out.later hb5)
                  have HH5 := Lib.hid (HH'.out.later hb5)
                  have HB5 := Lib.hid (HB'.out.trans (hb5.mono HB'.out.size))
                  have HK5 := Lib.hid hk5
                  clear hk5 hg5 hb5 HD' HA' HH' HB' HBy'
                  go_wp2_with fail
                  refine (write_yes (L := { L with qv := qv }) (d := d) kk g5 64 (byt l) (by rw [HS.out.n]; exact HK6.out) HS.out.dead (by rw [HS.out.lf]; decide) (by have := HS.out.st; omega) (by have := HS.out.ql; omega) HK5.out HD5.out).mono ?_
                  intro e w6 hO
                  obtain ⟨rfl, qv6, hD6, hO6, _⟩ := hO
                  have HD6 := Lib.hid hD6
                  have HA6 := Lib.hid (hO6.blo HA5.out (HD5.out.apart HA5.out (by decide) (by decide) (by decide)))
                  have HH6 := Lib.hid (HH5.out.disk HD5.out hO6)
                  have HB6 := Lib.hid (HB5.out.trans (hO6.below HB5.out.size (fun i _ hi => (HD5.out.has_lt hi).1)))
                  clear hD6 hO6 HD5 HA5 HB5 HK5 HH5
                  go_wp2_with fail
                  go_roundw
                  case rel =>
                    refine ⟨k + 1, qv6, putD d kk (byt l), V', G', HKn.out, by simp, HD6.out, HS.out.put _ _, HI.out, HH6.out, fun i hi => ?_, HA6.out, HB6.out⟩
                    rw [HG'.out i hi]
                    show _ = ini i :: wrs (d.Q ++ [(kk, byt l)]) i
                    rw [wrs_snoc]
                    by_cases e : i = kk
                    · subst e; simp
                    · rw [if_neg e, if_neg (fun h => e h.symm)]
                  case measure => simp [intOf]; have := HKn.out; omega
            · have HEnd : Hid (SuE3 w L x y hb wr) := ⟨qv, d, V, G, HD.out, HS.out.le hk, HI.out, HH.out, HG.out, HA.out, HB.out⟩
              clear HD HS HI HH HG HA HB
              by_cases hkl : k < len
              · have k1 : ¬ (k : Int) < 30 := by omega
                have k2 : (k : Int) < (len : Int) := by omega
                go_wp2_with fail
                go_meet
                exact HEnd.out
              · have k2 : ¬ (k : Int) < (len : Int) := by omega
                go_wp2_with fail
                go_meet
                exact HEnd.out
          case rest =>
            obtain ⟨qv, d, V, G, hD, hS, hI, hH, hG, hA, hB⟩ := hcut
            have HD := Lib.hid hD
            have HS := Lib.hid hS
            have HI := Lib.hid hI
            have HH := Lib.hid hH
            have HG := Lib.hid hG
            have HA := Lib.hid hA
            have HB := Lib.hid hB
            clear hD hS hI hH hG hA hB HSt HWs
            have q0 := HA.out.cell 0
            have q1 := HA.out.cell 1
            simp at q0 q1
            go_wp2_with fail
            refine (crash_any HD.out a1 keep len1 cap1 HKl.out hkm (HKb.out.below HB.out) x y).mono ?_
            rintro e w4 ⟨Lc, rfl, hDc, hb4⟩
            have HDc := Lib.hid (hDc.deeper HB.out.size)
            have HH4 := Lib.hid (HH.out.later hb4)
            have HB4 := Lib.hid (HB.out.trans (hb4.mono HB.out.size))
            have HP : Hid (∀ i, i < 6 → ∀ s, s < 4 → ∃ X ∈ (G i).map (·.2), part X s = part ((crashD d keep x y).N i) s) := fun i hi s hs => by
              have h := sure_part d.S d.Q keep x y HD.out.good HD.out.sure.len HD.out.sure.byte i s hs d.Q.length (Nat.le_refl _)
              rw [List.take_length, HI.out i hi, ← HG.out i hi] at h
              exact h
            have hst0 : (crashD d keep x y).steps = 0 := rfl
            have hq0 : (crashD d keep x y).Q.length = 0 := rfl
            have HN6 : Hid ((crashD d keep x y).n = 6) := HS.out.n
            have HGn : Hid (∀ i, i < 6 → (G i).length ≤ 31 ∧ 0 < (G i).length) := fun i hi => by
              have h1 := congrArg List.length (HG.out i hi)
              have h2 : (wrs d.Q i).length ≤ d.Q.length := by unfold wrs; rw [List.length_map]; exact List.length_filter_le _ _
              have h3 := HS.out.ql
              rw [List.length_map, List.length_cons] at h1
              omega
            clear hDc hb4 HA HB HH HD HS HI HG q0 q1
            generalize crashD d keep x y = dc at *
            go_wp2_with fail
            refine (steps_any HDc.out).mono ?_
            rintro e w' ⟨rfl, rfl⟩
            rw [hst0]
            go_wp2_with fail
            refine (queue_any HDc.out).mono ?_
            rintro e w5 ⟨gq, rfl, _, _, hb5⟩
            rw [hq0]
            have HDc5 := Lib.hid (HDc.out.later hb5)
            have HH5 := Lib.hid (HH4.out.later hb5)
            have HB5 := Lib.hid (HB4.out.trans (hb5.mono HB4.out.size))
            clear hb5 HDc HH4 HB4
            go_wp2_with fail
            have HSt : Hid (SuR4 w5 (.int .i64 0) w5) := ⟨0, by decide, rfl, Below.refl _ _⟩
            go_loopw [120] (fun t wr => SuR4 w5 t wr) (fun t _ => 6 - (intOf t).toNat)
            case atStart => exact HSt.out
            case round =>
              clear HSt
              obtain ⟨k, hk, rfl, hB⟩ := hrel
              have HB := Lib.hid hB
              clear hB
              have k0 : (0 : Int) ≤ (k : Int) := by omega
              by_cases hlt : k < 6
              · have k1 : (k : Int) < 6 := by omega
                have HKn : Hid (k < 6) := hlt
                go_wp2_with fail
                refine (read_yes k (by rw [HN6.out]; exact HKn.out) (HDc5.out.later HB.out)).mono ?_
                rintro e w6 ⟨gb, rfl, hbk, _, hb6⟩
                have HB6 := Lib.hid (HB.out.trans (hb6.mono HB.out.size))
                have HBk := Lib.hid hbk
                have HH6 := Lib.hid (HH5.out.later HB6.out)
                have HPk := Lib.hid (HP.out k HKn.out)
                clear hbk hb6 HB
                generalize dc.N k = bl at *
                go_wp2_with fail
                have HSt : Hid (SuR5 w6 (.int .i64 0) w6) := ⟨0, by decide, rfl, Below.refl _ _⟩
                go_loopw [19] (fun t wr => SuR5 w6 t wr) (fun t _ => 64 - (intOf t).toNat)
                case atStart => exact HSt.out
                case round =>
                  clear HSt
                  obtain ⟨s, hs, rfl, hB⟩ := hrel
                  have HB := Lib.hid hB
                  clear hB
                  have s0 : (0 : Int) ≤ (s : Int) := by omega
                  by_cases hlt : s < 4
                  · have s1 : 16 * (s : Int) < 64 := by omega
                    have HSn : Hid (s < 4) := hlt
                    have HHr := Lib.hid (HH6.out.later HB.out)
                    obtain ⟨gk, ck, hVk, hcell⟩ := HHr.out.at_ HKn.out (HGn.out k HKn.out).2
                    have HC := Lib.hid hcell
                    have xk := HHr.out.cell HKn.out
                    rw [hVk] at xk
                    have hgn := (HGn.out k HKn.out).1
                    have HBl := Lib.hid (fun p hp => HHr.out.blk k HKn.out p hp)
                    have HPs := Lib.hid (HPk.out s HSn.out)
                    generalize G k = l at *
                    clear hcell hVk
                    go_wp2_with fail
                    have HSt : Hid (SuR6 wr l bl s (.int .i64 0) (.bool false) wr) := ⟨0, false, Nat.zero_le _, rfl, rfl, rfl, Below.refl _ _⟩
                    have HBk7 := Lib.hid (fun W (hW : Below wr.heap.size wr W) => (HBk.out.out (X := fun _ => False) (Out.of_below (HB.out.trans (hW.mono HB.out.size))) (fun h => h)))
                    go_loopw [20, 144] (fun tv t wq => SuR6 wr l bl s t tv wq) (fun _ t _ => l.length - (intOf t).toNat)
                    case atStart => exact HSt.out
                    case round =>
                      clear HSt
                      obtain ⟨j, th, hj, rfl, rfl, hth, hBq⟩ := hrel
                      have HBq := Lib.hid hBq
                      have HTh := Lib.hid hth
                      clear hBq hth
                      have j0 : (0 : Int) ≤ (j : Int) := by omega
                      by_cases hjl : j < l.length
                      · have j1 : (j : Int) < (l.length : Int) := by omega
                        have HJn : Hid (j < l.length) := hjl
                        have HBb := Lib.hid (HBk7.out _ HBq.out)
                        obtain ⟨pj, hpj⟩ : ∃ pj, l[j]'hjl = pj := ⟨_, rfl⟩
                        have cj : wr.cell? ⟨gk, j, none⟩ = some (.slice (some ⟨pj.1, 0, none⟩) 64 64) := by rw [← hpj]; exact cell_later HBq.out (HC.out j hjl)
                        have HBj : Hid (BBlk wr pj.1 pj.2) := (HBl.out pj (by rw [← hpj]; exact List.getElem_mem _)).out (X := fun _ => False) (Out.of_below HBq.out) (fun h => h)
                        have HNx : Hid (anyP l bl s (j + 1) = (th || decide (part pj.2 s = part bl s))) := by rw [HTh.out, ← hpj]; exact anyP_succ l bl s j hjl
                        clear hpj
                        obtain ⟨gj, xj⟩ := pj
                        have hc1 : ∀ x : Kept wr, (Instr.slice 36 (.slice (some ⟨gb, 0, none⟩) 64 64) (some (.int .i64 (16 * (s : Int)))) (some (.int .i64 (16 * (s : Int) + 16))) none).run Try.prog x.at_ = .ok (.slice (some ⟨gb, 16 * s, none⟩) 16 (64 - 16 * s)) x.at_ := fun x => cut_part gb s HSn.out x.at_
                        have hc2 : ∀ x : Kept wr, (Instr.slice 36 (.slice (some ⟨gj, 0, none⟩) 64 64) (some (.int .i64 (16 * (s : Int)))) (some (.int .i64 (16 * (s : Int) + 16))) none).run Try.prog x.at_ = .ok (.slice (some ⟨gj, 16 * s, none⟩) 16 (64 - 16 * s)) x.at_ := fun x => cut_part gj s HSn.out x.at_
                        have hv1 : ∀ x : Kept wr, (convert 36 9 (.slice (some ⟨gb, 16 * s, none⟩) 16 (64 - 16 * s))).run Try.prog x.at_ = .ok (.string (strOf (part bl s))) x.at_ := fun x =>
                          run_str x.at_ 36 9 U8 Try.underlying36 Try.underlying5 Try.underlying9 (part bl s) _ 16 _ (part_len HBb.out.2.1 HSn.out).symm (bytes_part (HBb.out.out (X := fun _ => False) (Out.of_below x.below) (fun h => h)) s HSn.out)
                        have hv2 : ∀ x : Kept wr, (convert 36 9 (.slice (some ⟨gj, 16 * s, none⟩) 16 (64 - 16 * s))).run Try.prog x.at_ = .ok (.string (strOf (part xj s))) x.at_ := fun x =>
                          run_str x.at_ 36 9 U8 Try.underlying36 Try.underlying5 Try.underlying9 (part xj s) _ 16 _ (part_len HBj.out.2.1 HSn.out).symm (bytes_part (HBj.out.out (X := fun _ => False) (Out.of_below x.below) (fun h => h)) s HSn.out)
                        have hte := text_eq (part_byte HBb.out.2.2 s) (part_byte HBj.out.2.2 s)
                        generalize decide (part xj s = part bl s) = cb at *
                        go_wp2_with fail
                        have hth2 : th = true ∨ th = false := by cases th <;> simp
                        rcases hth2 with e | e
                        · subst e
                          refine wp_region_kept (by kernel_rfl) (by kernel_rfl) ?_
                          repeat (go_big_quiet_step (fail))
                          refine wpQuiet_nil ?_
                          rintro W ⟨wx, rfl⟩
                          have HBx := Lib.hid (HBq.out.trans (wx.below.mono HBq.out.size))
                          clear hc1 hc2 hv1 hv2 hte cj
                          go_wp2_with fail
                          go_roundw
                          case rel => exact ⟨j + 1, true, HJn.out, by simp, rfl, by rw [HNx.out]; rfl, HBx.out⟩
                          case measure => simp [intOf]; have := HJn.out; omega
                        · subst e
                          refine wp_region_kept (by kernel_rfl) (by kernel_rfl) ?_
                          repeat (go_big_quiet_step (fail))
                          refine wpQuiet_nil ?_
                          rintro W ⟨wx, rfl⟩
                          have HBx := Lib.hid (HBq.out.trans (wx.below.mono HBq.out.size))
                          clear hc1 hc2 hv1 hv2 hte cj
                          go_wp2_with fail
                          go_roundw
                          case rel => exact ⟨j + 1, cb, HJn.out, by simp, rfl, by rw [HNx.out]; rfl, HBx.out⟩
                          case measure => simp [intOf]; have := HJn.out; omega
                      · have hje : j = l.length := by omega
                        have j1 : ¬ (j : Int) < (l.length : Int) := by omega
                        have hth3 : th = true := by rw [HTh.out, hje]; exact anyP_all HPs.out
                        subst hth3
                        have HBx := Lib.hid (HB.out.trans (HBq.out.mono HB.out.size))
                        have HSn2 : Hid (16 * (s : Int) + 16 = 16 * ((s + 1 : Nat) : Int)) := by show _ = _; omega
                        clear HHr HC HBl HPs xk HBk7 HBq HTh
                        go_wp2_with fail
                        go_roundw
                        case rel => exact ⟨s + 1, HSn.out, by rw [HSn2.out], HBx.out⟩
                        case measure => simp [intOf]; have := HSn.out; omega
                  · have s1 : ¬ 16 * (s : Int) < 64 := by omega
                    have HBx := Lib.hid (HB6.out.trans (HB.out.mono HB6.out.size))
                    clear HB HH6 HPk HBk
                    go_wp2_with fail
                    go_roundw
                    case rel => exact ⟨k + 1, HKn.out, by simp, HBx.out⟩
                    case measure => simp [intOf]; have := HKn.out; omega
              · have k1 : ¬ (k : Int) < 6 := by omega
                have HBx := Lib.hid (HB5.out.trans (HB.out.mono HB5.out.size))
                go_wp2
                go_ret
                exact ⟨rfl, HBx.out⟩
end Go.Proofs.Ytefphnmabbfbjaa
