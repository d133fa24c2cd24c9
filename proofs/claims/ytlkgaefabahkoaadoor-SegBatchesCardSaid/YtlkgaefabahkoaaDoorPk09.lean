/-
  DkCrash · DkBytes · SgTxs · SgBlk · IntsEq: these texts in one.
-/
import Derived.Test.YtlkgaefabahkoaaDoorPk08
import Derived.Test.YtlkgaefabahkoaaDoorPk07
import Derived.Test.YtlkgaefabahkoaaDoorPk00
import Derived.Test.YtlkgaefabahkoaaDoorRows
import Derived.Deep.QuietTactic
import Derived.BigQuiet
/-
  The disk's walks: Crash.
-/
namespace Go.Proofs.YtlkgaefabahkoaaDoor
open Go.RowKit

/-- What a slice of bools that is read holds. -/
def Bools (w : World) (a : Option Addr) (l : List Bool) : Prop := l ≠ [] → ∃ b o, a = some ⟨b, o, none⟩ ∧ ∀ i, i < l.length → w.cell? ⟨b, o + i, none⟩ = some (.bool (l.getD i false))
theorem Bools.below {w w' : World} {a : Option Addr} {l : List Bool} (h : Bools w a l) (hb : Below w.heap.size w w') : Bools w' a l := fun hl => by
  obtain ⟨b, o, ha, hc⟩ := h hl
  exact ⟨b, o, ha, fun i hi => cell_later hb (hc i hi)⟩
theorem Bools.nil (w : World) (a : Option Addr) : Bools w a [] := fun h => absurd rfl h
def cellsR (F : Nat → List Nat) : Nat → List Value
  | 0 => []
  | n + 1 => cellsR F n ++ cellsB (F n)
theorem cellsR_length (F : Nat → List Nat) (h : ∀ i, (F i).length = 64) : ∀ n, (cellsR F n).length = n * 64
  | 0 => rfl
  | n + 1 => by rw [cellsR, List.length_append, cellsR_length F h n, cellsB_length, h]; omega
theorem cellsR_at (F : Nat → List Nat) (h : ∀ i, (F i).length = 64) : ∀ n i j, i < n → j < 64 → (cellsR F n)[i * 64 + j]? = some (.int .u8 ((F i).getD j 0 : Nat))
  | 0, i, j, hi, _ => by omega
  | n + 1, i, j, hi, hj => by
    have hl := cellsR_length F h n
    by_cases e : i = n
    · subst e
      rw [cellsR, List.getElem?_append_right (by omega), hl, show i * 64 + j - i * 64 = j by omega, cellsB_get _ _ (by rw [h]; exact hj)]
    · rw [cellsR, List.getElem?_append_left (by omega)]
      exact cellsR_at F h n i j (by omega) hj
theorem cellsR_one (F : Nat → List Nat) : ∀ n, ∀ v ∈ cellsR F n, v.oneCell' = true
  | 0, v, hv => by simp [cellsR] at hv
  | n + 1, v, hv => by
    rw [cellsR] at hv
    rcases List.mem_append.1 hv with h | h
    · exact cellsR_one F n v h
    · exact cellsB_one _ v h
section
variable {w w' : World} {g n i : Nat} {F F' : Nat → List Nat}
theorem Rw.all (h : Rw w g n F) : w.rangeAt g 0 (cellsR F n) := fun j v hv => by
  have hj : j < n * 64 := by
    have := (List.getElem?_eq_some_iff.1 hv).1
    rw [cellsR_length F h.len] at this; exact this
  have e : j = j / 64 * 64 + j % 64 := by omega
  rw [e, cellsR_at F h.len n _ _ (by omega) (by omega)] at hv
  cases hv
  rw [Nat.zero_add]
  have := h.cell (i := j / 64) (by omega) (j := j % 64) (by omega)
  rw [← e] at this
  exact this
theorem Rw.thereAll (h : Rw w g n F) : w.there g 0 (n * 64) := fun j hj => by
  have := h.there (i := j / 64) (by omega) (j % 64) (by omega)
  rw [show 0 + j = j / 64 * 64 + j % 64 by omega]
  exact this
theorem Rw.fill (h : Rw w g n F) (hl : ∀ i, (F' i).length = 64) (hb : ∀ i, ∀ x ∈ F' i, x < 256) : Rw (w.setCells g 0 (cellsR F' n)) g n F' := by
  obtain ⟨⟨cs, h1, h2, h3⟩, h4, h5⟩ := h
  obtain ⟨cs', k1, k2, k3⟩ := blo_cells (cellsR F' n) 0 w cs h1
  refine ⟨⟨cs', k1, by rw [k2, h2], fun a ha j hj => ?_⟩, hl, hb⟩
  rw [k3, cellsR_length F' hl, if_pos ⟨by omega, by omega, by omega⟩, Nat.sub_zero]
  exact cellsR_at F' hl n a j ha hj
end
/-- A disk that nothing waits for. -/
def bareD (n : Nat) (S N : Nat → List Nat) : Dm := ⟨n, S, N, [], 0, false, 0⟩
def crK (S : Nat → List Nat) (Q : List (Nat × List Nat)) (keep : List Bool) (torn sec : Int) : Nat → (Nat → List Nat)
  | 0 => S
  | k + 1 =>
    if keep.getD k false = true then updB (crK S Q keep torn sec k) (Q.getD k (0, [])).1 (Q.getD k (0, [])).2
    else if (k : Int) = torn then updB (crK S Q keep torn sec k) (Q.getD k (0, [])).1 (tearK 4 (crK S Q keep torn sec k (Q.getD k (0, [])).1) (Q.getD k (0, [])).2 sec)
    else crK S Q keep torn sec k
def crashD (d : Dm) (keep : List Bool) (torn sec : Int) : Dm := bareD d.n (crK d.S d.Q keep torn sec d.Q.length) (crK d.S d.Q keep torn sec d.Q.length)
def CrashO (w : World) (d' : Dm) (e : Ending) (w' : World) : Prop :=
  ∃ Lc : Dl, e = .returned (.pointer (some ⟨Lc.bd, 0, none⟩)) ∧ Dk w.heap.size w' Lc d' ∧ Below w.heap.size w w'
section
variable {C : Nat} {w w' : World} {L : Dl} {d : Dm}
theorem Dk.copyS (h : Dk C w L d) {F : Nat → List Nat} (hl : ∀ i, (F i).length = 64) (hb : ∀ i, ∀ x ∈ F i, x < 256) : Dk C (w.setCells L.gs 0 (cellsR F d.n)) L { d with S := F } ∧ Out L.has w (w.setCells L.gs 0 (cellsR F d.n)) := by
  have ho : Out (fun j => j = L.gs) w (w.setCells L.gs 0 (cellsR F d.n)) := out_cells _ _ _ rfl
  exact ⟨⟨ho.blo h.top (fun e => h.bd_gs e), h.sure.fill hl hb, h.now.out ho (fun e => h.ne e.symm), ho.own h.queue (fun g hg e => h.q_gs (by rw [hg, e])), h.good, h.ne, h.low, h.few, h.stp, h.lft, h.len⟩, ho.mono (fun j _ e => .inr (.inl e))⟩
theorem Dk.copyN (h : Dk C w L d) {F : Nat → List Nat} (hl : ∀ i, (F i).length = 64) (hb : ∀ i, ∀ x ∈ F i, x < 256) : Dk C (w.setCells L.gn 0 (cellsR F d.n)) L { d with N := F } ∧ Out L.has w (w.setCells L.gn 0 (cellsR F d.n)) := by
  have ho : Out (fun j => j = L.gn) w (w.setCells L.gn 0 (cellsR F d.n)) := out_cells _ _ _ rfl
  exact ⟨⟨ho.blo h.top (fun e => h.bd_gn e), h.sure.out ho (fun e => h.ne e), h.now.fill hl hb, ho.own h.queue (fun g hg e => h.q_gn (by rw [hg, e])), h.good, h.ne, h.low, h.few, h.stp, h.lft, h.len⟩, ho.mono (fun j _ e => .inr (.inr (.inl e)))⟩
theorem Out.deep {H : Nat} (h : Out L.has w w') (hD : Dk H w L d) {w0 : World} (hb : Below H w0 w) (hH : H ≤ w0.heap.size) : Below H w0 w' :=
  hb.trans (h.below (Nat.le_trans hH hb.size) (fun i _ hi => (hD.has_lt hi).1))
/-- What the crash makes, with what its two rows hold. -/
def CrS (w : World) (n : Nat) (S N : Nat → List Nat) (v : Value) (W : World) : Prop :=
  ∃ Lc : Dl, v = .pointer (some ⟨Lc.bd, 0, none⟩) ∧ Dk w.heap.size W Lc (bareD n S N) ∧ Below w.heap.size w W
theorem newD_bare (n : Nat) : newD n = bareD n (fun _ => zeroB) (fun _ => zeroB) := rfl
def CraR (w : World) (d : Dm) (keep : List Bool) (torn sec : Int) (Lc : Dl) (i : Value) (wr : World) : Prop :=
  ∃ k : Nat, k ≤ d.Q.length ∧ i = .int .i64 k ∧ Dk w.heap.size wr Lc (bareD d.n (crK d.S d.Q keep torn sec k) (fun _ => zeroB)) ∧ Below w.heap.size w wr
set_option maxRecDepth 100000 in
set_option maxHeartbeats 4000000 in
theorem crash_any (h : Dk C w L d) (a : Option Addr) (keep : List Bool) (kn cap : Nat) (hkn : kn = keep.length) (hkm : kn ≤ 9223372036854775807) (hK : Bools w a keep) (torn sec : Int) :
    Calls Tryd.prog 21 #[.pointer (some ⟨L.bd, 0, none⟩), .slice a kn cap, .int .i64 torn, .int .i64 sec] w (CrashO w (crashD d keep torn sec)) := by
  have H := Lib.hid h
  have HKn := Lib.hid hkn
  have HK := Lib.hid hK
  have t0 := h.top.cell 0
  simp at t0
  have hn1 := h.few.1
  have hn2 := h.few.2
  have hmk : ∀ W, _ := fun W => run_blks W d.n (by omega)
  have hbd := h.top.lt
  have KP : Hid (∀ W, Below w.heap.size w W → W.cell? ⟨L.bd, 0, none⟩ = some (.slice (some ⟨L.gs, 0, none⟩) d.n d.n)) := fun W hb => by simpa using (h.later hb).top.cell 0
  clear h hkn hK
  go_enter Tryd.func21, Tryd.ntmps21
  go_wp2_with fail
  go_cut [9] (fun v W => CrS w d.n (fun _ => zeroB) (fun _ => zeroB) v W)
  case first =>
    go_region_held3 (fun W => W.cell? ⟨L.bd, 0, none⟩ = some (.slice (some ⟨L.gs, 0, none⟩) d.n d.n)) (exact KP.out _ (by repeat (first | exact Below.refl _ _ | apply Below.drew | refine Below.alloc ?_ (by simp <;> omega) _))) (fail)
    · go_wp2_with fail
      go_meet
      exact ⟨⟨w.heap.size + 1 + 1, w.heap.size, w.heap.size + 1, .slice none 0 0⟩, rfl, new_mem1 w d.n hn1 hn2, new_below w d.n _⟩
    · go_wp2_with fail
      go_meet
      exact ⟨⟨w.heap.size + 1 + 1, w.heap.size + 1, w.heap.size, .slice none 0 0⟩, rfl, new_mem2 w d.n hn1 hn2, new_below w d.n _⟩
  case rest =>
    obtain ⟨Lc, rfl, hD, hb⟩ := hcut
    have HD1 := Lib.hid hD
    have HB1 := Lib.hid hb
    have HDd := Lib.hid (H.out.later hb)
    have hcbd := (hD.has_lt (.inl rfl)).2
    have c0 := hD.top.cell 0
    have d0 := (H.out.later hb).top.cell 0
    simp [bareD] at c0 d0
    have HS1 : Hid (∀ j v, (cellsR d.S d.n)[j]? = some v → wc.drew.cell? ((⟨L.gs, 0, none⟩ : Addr).add j) = some v) := range_src ((World.rangeAt_drew _ _ _ _).2 (HDd.out.sure.all))
    have HN1 : Hid ((cellsR d.S d.n).length = Nat.min d.n d.n * 64) := by
      show (cellsR d.S d.n).length = min d.n d.n * 64
      rw [cellsR_length _ HDd.out.sure.len]; simp
    have HT1 : Hid (wc.drew.there Lc.gs 0 (cellsR d.S d.n).length) := by
      show wc.drew.there Lc.gs 0 (cellsR d.S d.n).length
      rw [cellsR_length _ HDd.out.sure.len]
      exact (World.there_drew _ _ _ _).2 HD1.out.sure.thereAll
    clear hD hb KP t0 hmk
    go_wp2_with fail
    go_cut [] (fun W => Dk w.heap.size W Lc (bareD d.n d.S (fun _ => zeroB)) ∧ Below w.heap.size w W)
    case first =>
      go_region_law (refine step_copy_many (by rfl) (.tmp 29) (.tmp 33) 118 118 (by rfl) BLK 64 Tryd.underlying118 size_blk Lc.gs 0 d.n d.n ⟨L.gs, 0, none⟩ d.n d.n (by simp [go_sem]) (by simp [go_sem]) (cellsR d.S d.n) HN1.out HS1.out HT1.out (cellsR_one _ _) ?_)
      all_goals
        go_wp2_with fail
        go_meet
        obtain ⟨q1, q2⟩ := (HD1.out.later ((Below.refl _ _).drew)).copyS (F := d.S) HDd.out.sure.len HDd.out.sure.byte
        exact ⟨q1, Out.deep q2 (HD1.out.later ((Below.refl _ _).drew)) HB1.out.drew (Nat.le_refl _)⟩
    case rest =>
      obtain ⟨hD, hb⟩ := hcut
      clear HS1 HN1 HT1 HD1 HB1 HDd c0 d0
      have HB2 := Lib.hid hb
      have HDd := Lib.hid (H.out.later hb)
      have HSt : Hid (CraR w d keep torn sec Lc (.int .i64 0) wc) := ⟨0, Nat.zero_le _, rfl, hD, hb⟩
      obtain ⟨qa, qc, hqv, hqc⟩ := own_slice H.out.queue
      have t2 := HDd.out.top.cell 2
      simp at t2
      rw [hqv] at t2
      have hqn : d.Q.length ≤ 1000000 := H.out.len
      have HQv := Lib.hid hqv
      obtain ⟨Z, hZ, hZs⟩ := zero_wrt
      have HZs := Lib.hid hZs
      clear hD hb hqv hqc hZs
      go_wp2_with fail
      clear t2
      go_loopw [40] (fun i wr => CraR w d keep torn sec Lc i wr) (fun i _ => d.Q.length - (intOf i).toNat)
      case atStart => exact HSt.out
      case round =>
        clear HSt HB2 HDd
        obtain ⟨k, hk, rfl, hD, hb⟩ := hrel
        have HD := Lib.hid hD
        have HB := Lib.hid hb
        have HDd := Lib.hid (H.out.later hb)
        clear hD hb
        by_cases hlt : k < d.Q.length
        · obtain ⟨g, cp, hv, hr, hg⟩ := HDd.out.at (k := k) hlt
          rw [HQv.out] at hv
          injection hv with q1 q2 q3
          subst q1
          have hi2 : (Tryd.prog.info? WRT).map (·.size) = some (wrtC d.Q[k]).length := by rw [wrtC_length hg]; exact size_wrt
          have HI2 := Lib.hid hi2
          have HI3 : Hid ((Tryd.prog.info? WRT).map (·.size) = some (wrtC d.Q[k]).toArray.size) := by rw [List.size_toArray]; exact hi2
          have HR := Lib.hid hr
          have HG := Lib.hid hg
          have k0 : (0 : Int) ≤ (k : Int) := by omega
          have HQk : Hid (d.Q.getD k (0, []) = d.Q[k]) := by
            show d.Q.getD k (0, []) = d.Q[k]
            rw [List.getD_eq_getElem?_getD, List.getElem?_eq_getElem hlt]; rfl
          clear hi2 hr hg q2 q3
          go_upto_region 6 with (first | (refine wpList_load_mid rfl WRT (.tmp 44) rfl g (k * 65) (by first | rfl | simp [go_sem]) (wrtC d.Q[k]) _ HR.out Tryd.underlying125 rfl HI2.out ?_) | (refine wpList_load_mid rfl WRT (.tmp 43) rfl g (k * 65) (by first | rfl | simp [go_sem]) (wrtC d.Q[k]) _ HR.out Tryd.underlying125 rfl HI2.out ?_) | (refine wpList_store_row rfl WRT (.tmp 11) (.tmp 44) rfl wr.heap.size (wrtC d.Q[k]).toArray (by first | rfl | simp [go_sem]) (by first | rfl | simp [go_sem]) WRT _ (heap_alloc_new wr _) HI3.out (by show Z.size = (wrtC d.Q[k]).length; rw [wrtC_length HG.out]; exact HZs.out) (all_oneCell_toArray (wrtC_one _)) ?_))
          have hb5 : Below wr.heap.size wr ((wr.alloc (.cells Z WRT)).setRow wr.heap.size (wrtC d.Q[k]).toArray) := below_row ((Below.refl _ _).alloc (Nat.le_refl _) _) (Nat.le_refl _) _
          have HD5 := Lib.hid (HD.out.later hb5)
          have HB5 := Lib.hid (HB.out.trans (hb5.mono HB.out.size))
          have HV := Lib.hid (varW_new wr Z d.Q[k])
          have HNx : Hid (¬ Lc.has wr.heap.size) := fun h => by have := (HD.out.has_lt h).2; omega
          clear hb5
          have HGl := HV.out.b.lt
          generalize ((wr.alloc (.cells Z WRT)).setRow wr.heap.size (wrtC d.Q[k]).toArray) = w5 at *
          generalize wr.heap.size = gx at *
          obtain ⟨pa, pl, hp⟩ : ∃ a l, d.Q[k] = (a, l) := ⟨_, _, rfl⟩
          rw [hp] at HV HG HQk
          obtain ⟨g1, g2, g3⟩ := HG.out
          have hn1' : gx ≠ Lc.gs := fun e => HNx.out (.inr (.inl e))
          have hn2' : Lc.bd ≠ Lc.gs := HD5.out.bd_gs
          have hu := Tryd.underlying123
          have hi2 : (Tryd.prog.info? BLK).map (·.size) = some (cellsB pl).length := by rw [cellsB_length, g2]; exact size_blk
          have hl64 : (cellsB pl).length = 64 := by rw [cellsB_length]; exact g2
          have hone := cellsB_one pl
          have hr1 := HV.out.data
          have hr2 : w5.there Lc.gs (pa * 64) 64 := HD5.out.sure.there g1
          have hc1 := HV.out.at0
          have hc2 := HD5.out.top.cell 0
          simp [bareD] at hc1 hc2
          have p0 : (0 : Int) ≤ (pa : Int) := by omega
          have p1 : (pa : Int) < (d.n : Int) := by have g1 : pa < d.n := g1; omega
          have G1 : Hid (pa < d.n) := g1
          have G2 := Lib.hid g2
          have G3 := Lib.hid g3
          clear g1 g2 g3 hp HR HI2 HI3 HG HD HB
          by_cases hA : keep.getD k false = true
          · have hkk : k < keep.length := by
              rcases Nat.lt_or_ge k keep.length with h | h
              · exact h
              · rw [List.getD_eq_getElem?_getD, List.getElem?_eq_none h] at hA; cases hA
            have hkk2 : k < kn := by rw [HKn.out]; exact hkk
            obtain ⟨kb, ko, rfl, hkc⟩ := (HK.out.below (HB5.out)) (fun e => by rw [e] at hkk; cases hkk)
            have hkc := hkc k hkk
            rw [hA] at hkc
            have k1 : (k : Int) < (kn : Int) := by omega
            have HNext : Hid (crK d.S d.Q keep torn sec (k + 1) = updB (crK d.S d.Q keep torn sec k) pa pl) := by
              show crK d.S d.Q keep torn sec (k + 1) = _
              rw [crK, if_pos hA, HQk.out]
            clear hA hkk hkk2
            go_wp2_with fail
            clear hkc
            go_region_held3 (fun W => W.rangeAt gx 1 (cellsB pl) ∧ W.there Lc.gs (pa * 64) 64 ∧ W.cell? ⟨gx, 0, none⟩ = some (.int .i64 pa) ∧ W.cell? ⟨Lc.bd, 0, none⟩ = some (.slice (some ⟨Lc.gs, 0, none⟩) d.n d.n)) ((go_split_ands; simp only [World.rangeAt_drew, World.there_drew, World.cell?_drew] at *; (repeat' constructor) <;> first | assumption | (apply World.there_setCells; assumption) | (refine World.rangeAt_setCells_apart (by assumption) _ _ _ (by omega)) | (rw [World.cell?_setCells_out _ _ _ _ _ (fun hh _ => absurd hh hn2')]; assumption) | (rw [World.cell?_setCells_out _ _ _ _ _ (fun hh _ => absurd hh hn1')]; assumption))) (fail)
            clear hr1 hr2 hc1 hc2 hn1' hn2' hu hi2 hl64 hone
            obtain ⟨hp1, hp2⟩ := (HD5.out.later ((Below.refl _ _).drew)).putSure G1.out G2.out G3.out
            have HB6 := Lib.hid (Out.deep hp2 (HD5.out.later ((Below.refl _ _).drew)) HB5.out.drew (Nat.le_refl _))
            have HD6 : Hid (Dk w.heap.size (w5.drew.setCells Lc.gs (pa * 64) (cellsB pl)) Lc (bareD d.n (crK d.S d.Q keep torn sec (k + 1)) (fun _ => zeroB))) := by
              rw [HNext.out]; exact hp1
            clear hp1 hp2 HD5 HB5 HNext
            go_wp2_with fail
            go_roundw
            case rel => exact ⟨k + 1, hlt, by simp, HD6.out, HB6.out⟩
            case measure => simp [intOf]; omega
          · have hAf : keep.getD k false = false := by cases h : keep.getD k false with
              | true => exact absurd h hA
              | false => rfl
            have HA := Lib.hid hA
            clear hA
            have HStep : Hid (∀ W, Dk w.heap.size W Lc (bareD d.n (crK d.S d.Q keep torn sec k) (fun _ => zeroB)) → (k : Int) ≠ torn → Dk w.heap.size W Lc (bareD d.n (crK d.S d.Q keep torn sec (k + 1)) (fun _ => zeroB))) := fun W hW hne => by
              rw [crK, if_neg HA.out, if_neg hne]; exact hW
            have HTorn : Hid ((k : Int) = torn → crK d.S d.Q keep torn sec (k + 1) = updB (crK d.S d.Q keep torn sec k) pa (tearK 4 (crK d.S d.Q keep torn sec k pa) pl sec)) := fun he => by
              rw [crK, if_neg HA.out, if_pos he, HQk.out]
            have HTear : Hid (Calls Tryd.prog 60 #[.pointer (some ⟨Lc.gs, pa * 64, none⟩), .pointer (some ⟨gx, 1, none⟩), .int .i64 sec] w5.drew fun e w' => e = .returned (.tuple #[]) ∧ Rw w' Lc.gs d.n (updB (crK d.S d.Q keep torn sec k) pa (tearK 4 (crK d.S d.Q keep torn sec k pa) pl sec)) ∧ Out (fun j => j = Lc.gs) w5.drew w') :=
              tear_any (n := d.n) (HD5.out.sure.later ((Below.refl _ _).drew)) G1.out (by show d.n ≤ 5000; omega) gx pl sec ((World.rangeAt_drew _ _ _ _).2 hr1) (by simpa using HGl) G2.out G3.out hn1'
            have HPut : Hid (∀ W', Rw W' Lc.gs d.n (updB (crK d.S d.Q keep torn sec k) pa (tearK 4 (crK d.S d.Q keep torn sec k pa) pl sec)) → Out (fun j => j = Lc.gs) w5.drew W' → Dk w.heap.size W' Lc (bareD d.n (updB (crK d.S d.Q keep torn sec k) pa (tearK 4 (crK d.S d.Q keep torn sec k pa) pl sec)) (fun _ => zeroB)) ∧ Below w.heap.size w W') := fun W' h1 h2 => by
              have h := HD5.out.later ((Below.refl w5.heap.size w5).drew)
              exact ⟨⟨h2.blo h.top (fun e => h.bd_gs e), h1, h.now.out h2 (fun e => h.ne e.symm), h2.own h.queue (fun g hg e => h.q_gs (by rw [hg, e])), h.good, h.ne, h.low, h.few, h.stp, h.lft, h.len⟩, HB5.out.drew.trans (h2.below HB5.out.size (fun i _ e => by rw [e]; exact h.low.2.1))⟩
            clear hr1 hr2 hu hi2 hl64 hone
            have hkc : k < keep.length → ∃ kb ko, a = some ⟨kb, ko, none⟩ ∧ w5.cell? ⟨kb, ko + k, none⟩ = some (.bool false) := fun hkk => by
              obtain ⟨kb, ko, ha, hkc⟩ := (HK.out.below (HB5.out)) (fun e => by rw [e] at hkk; cases hkk)
              exact ⟨kb, ko, ha, by rw [hkc k hkk, hAf]⟩
            clear hAf
            by_cases hT : (k : Int) = torn
            · subst hT
              have ht : ((k : Int) == (k : Int)) = true := by simp
              by_cases hkk2 : k < kn
              · obtain ⟨kb, ko, rfl, hkc⟩ := hkc (by rw [← HKn.out]; exact hkk2)
                have k1 : (k : Int) < (kn : Int) := by omega
                go_wp2_with fail
                clear hkc
                go_region_held3 (fun W => W.cell? ⟨gx, 0, none⟩ = some (.int .i64 pa) ∧ W.cell? ⟨Lc.bd, 0, none⟩ = some (.slice (some ⟨Lc.gs, 0, none⟩) d.n d.n)) ((first | (simp only [World.cell?_drew]; exact ⟨hc1, hc2⟩) | (exact HKS.out))) ((go_at_call 60; (with_reducible refine HTear.out.mono ?_); rintro e W' ⟨rfl, hR', hO'⟩; have HKS : Hid (W'.cell? ⟨gx, 0, none⟩ = some (.int .i64 pa) ∧ W'.cell? ⟨Lc.bd, 0, none⟩ = some (.slice (some ⟨Lc.gs, 0, none⟩) d.n d.n)) := ⟨hO'.cell (by simpa using hc1) hn1', hO'.cell (by simpa using hc2) hn2'⟩; have HP' := Lib.hid (HPut.out W' hR' hO'); clear hR' hO'))
                clear hc1 hc2 hn1' hn2' HTear HPut HStep HD5 HB5
                have HD6 : Hid (Dk w.heap.size W' Lc (bareD d.n (crK d.S d.Q keep (k : Int) sec (k + 1)) (fun _ => zeroB))) := by
                  rw [HTorn.out (by first | exact trivial | rfl)]; exact HP'.out.1
                have HB6 := Lib.hid HP'.out.2
                clear HTorn HP' HKS
                go_wp2_with fail
                go_roundw
                case rel => exact ⟨k + 1, hlt, by simp, HD6.out, HB6.out⟩
                case measure => simp [intOf]; omega
              · clear hkc
                have k1 : ¬ (k : Int) < (kn : Int) := by omega
                go_wp2_with fail
                go_region_held3 (fun W => W.cell? ⟨gx, 0, none⟩ = some (.int .i64 pa) ∧ W.cell? ⟨Lc.bd, 0, none⟩ = some (.slice (some ⟨Lc.gs, 0, none⟩) d.n d.n)) ((first | (simp only [World.cell?_drew]; exact ⟨hc1, hc2⟩) | (exact HKS.out))) ((go_at_call 60; (with_reducible refine HTear.out.mono ?_); rintro e W' ⟨rfl, hR', hO'⟩; have HKS : Hid (W'.cell? ⟨gx, 0, none⟩ = some (.int .i64 pa) ∧ W'.cell? ⟨Lc.bd, 0, none⟩ = some (.slice (some ⟨Lc.gs, 0, none⟩) d.n d.n)) := ⟨hO'.cell (by simpa using hc1) hn1', hO'.cell (by simpa using hc2) hn2'⟩; have HP' := Lib.hid (HPut.out W' hR' hO'); clear hR' hO'))
                clear hc1 hc2 hn1' hn2' HTear HPut HStep HD5 HB5
                have HD6 : Hid (Dk w.heap.size W' Lc (bareD d.n (crK d.S d.Q keep (k : Int) sec (k + 1)) (fun _ => zeroB))) := by
                  rw [HTorn.out (by first | exact trivial | rfl)]; exact HP'.out.1
                have HB6 := Lib.hid HP'.out.2
                clear HTorn HP' HKS
                go_wp2_with fail
                go_roundw
                case rel => exact ⟨k + 1, hlt, by simp, HD6.out, HB6.out⟩
                case measure => simp [intOf]; omega
            · have ht : ((k : Int) == torn) = false := by simpa using hT
              have HD6 : Hid (Dk w.heap.size w5 Lc (bareD d.n (crK d.S d.Q keep torn sec (k + 1)) (fun _ => zeroB))) := HStep.out w5 HD5.out hT
              by_cases hkk2 : k < kn
              · obtain ⟨kb, ko, rfl, hkc⟩ := hkc (by rw [← HKn.out]; exact hkk2)
                have k1 : (k : Int) < (kn : Int) := by omega
                clear HTear HPut HStep HTorn HD5 hc1 hc2
                go_wp2_with fail
                go_roundw
                case rel => exact ⟨k + 1, hlt, by simp, HD6.out, HB5.out⟩
                case measure => simp [intOf]; omega
              · clear hkc
                have k1 : ¬ (k : Int) < (kn : Int) := by omega
                clear HTear HPut HStep HTorn HD5 hc1 hc2
                go_wp2_with fail
                go_roundw
                case rel => exact ⟨k + 1, hlt, by simp, HD6.out, HB5.out⟩
                case measure => simp [intOf]; omega
        · have hke : k = d.Q.length := by omega
          subst hke
          generalize hS' : crK d.S d.Q keep torn sec d.Q.length = S' at *
          have hlen : ∀ i, (S' i).length = 64 := HD.out.sure.len
          have HLen := Lib.hid hlen
          clear hlen
          have c0 := HD.out.top.cell 0
          have c1 := HD.out.top.cell 1
          simp [bareD] at c0 c1
          have HS1 : Hid (∀ j v, (cellsR S' d.n)[j]? = some v → wr.drew.cell? ((⟨Lc.gs, 0, none⟩ : Addr).add j) = some v) := range_src ((World.rangeAt_drew _ _ _ _).2 (HD.out.sure.all))
          have HN1 : Hid ((cellsR S' d.n).length = Nat.min d.n d.n * 64) := by
            show (cellsR S' d.n).length = min d.n d.n * 64
            rw [cellsR_length S' HLen.out]; simp
          have HT1 : Hid (wr.drew.there Lc.gn 0 (cellsR S' d.n).length) := by
            show wr.drew.there Lc.gn 0 (cellsR S' d.n).length
            rw [cellsR_length S' HLen.out]
            exact (World.there_drew _ _ _ _).2 HD.out.now.thereAll
          have HF : Hid (CrashO w (crashD d keep torn sec) (.returned (.pointer (some ⟨Lc.bd, 0, none⟩))) (wr.drew.setCells Lc.gn 0 (cellsR S' d.n))) := by
            obtain ⟨q1, q2⟩ := (HD.out.later ((Below.refl _ _).drew)).copyN (F := S') HD.out.sure.len HD.out.sure.byte
            refine ⟨Lc, rfl, ?_, Out.deep q2 (HD.out.later ((Below.refl _ _).drew)) HB.out.drew (Nat.le_refl _)⟩
            unfold crashD
            rw [hS']
            exact q1
          clear hS' HD HB HDd
          go_wp2_with fail
          go_region_law (refine step_copy_many (by rfl) (.tmp 83) (.tmp 87) 118 118 (by rfl) BLK 64 Tryd.underlying118 size_blk Lc.gn 0 d.n d.n ⟨Lc.gs, 0, none⟩ d.n d.n (by simp [go_sem]) (by simp [go_sem]) (cellsR S' d.n) HN1.out HS1.out HT1.out (cellsR_one _ _) ?_)
          all_goals
            clear c0 c1
            go_wp2_with fail
            go_ret
            exact HF.out
end
end Go.Proofs.YtlkgaefabahkoaaDoor
/-
  The walk of Bytes; what a call leaves, for a caller.
-/
namespace Go.Proofs.YtlkgaefabahkoaaDoor
open Go.RowKit

def bytK (l : List Nat) (k : Nat) : List Nat := L64 fun j => if j < k then l.getD (j % l.length) 0 else 0
def byt (l : List Nat) : List Nat := L64 fun j => l.getD (j % l.length) 0
theorem byt_length (l : List Nat) : (byt l).length = 64 := L64_length _
theorem byt_byte {l : List Nat} (h : ∀ x ∈ l, x < 256) : ∀ x ∈ byt l, x < 256 := L64_byte fun j _ => getD_b h _
theorem bytK_byte {l : List Nat} (h : ∀ x ∈ l, x < 256) (k : Nat) : ∀ x ∈ bytK l k, x < 256 := L64_byte fun j _ => by
  split
  · exact getD_b h _
  · decide
theorem bytK_zero (l : List Nat) : bytK l 0 = zeroB := by
  unfold bytK zeroB L64
  simp [List.map_const']
theorem bytK_all (l : List Nat) : bytK l 64 = byt l := L64_ext fun j hj => if_pos hj
theorem bytK_nil (k : Nat) : bytK [] k = byt [] := L64_ext fun j hj => by simp
theorem bytK_put (l : List Nat) (k : Nat) (hk : k < 64) : (cellsB (bytK l k)).toArray.setIfInBounds k (.int .u8 (l.getD (k % l.length) 0 : Nat)) = (cellsB (bytK l (k + 1))).toArray := by
  have h1 : (bytK l k).length = 64 := L64_length _
  have h2 : (bytK l (k + 1)).length = 64 := L64_length _
  apply Array.ext_getElem?
  intro j
  rw [Array.getElem?_setIfInBounds, List.getElem?_toArray, List.getElem?_toArray, List.size_toArray, cellsB_length, h1]
  by_cases hj : j < 64
  · rw [cellsB_get _ j (by omega), cellsB_get _ j (by omega)]
    unfold bytK
    rw [L64_get _ _ hj, L64_get _ _ hj]
    by_cases e : k = j
    · subst e; rw [if_pos rfl, if_pos hk, if_pos (by omega)]
    · rw [if_neg e]
      by_cases c : j < k
      · rw [if_pos c, if_pos (by omega)]
      · rw [if_neg c, if_neg (by omega)]
  · rw [if_neg (by omega), List.getElem?_eq_none (by rw [cellsB_length]; omega), List.getElem?_eq_none (by rw [cellsB_length]; omega)]
def BytO (w : World) (l : List Nat) (e : Ending) (w' : World) : Prop :=
  ∃ g, e = .returned (.slice (some ⟨g, 0, none⟩) 64 64) ∧ BBlk w' g l ∧ w.heap.size ≤ g ∧ Below w.heap.size w w'
def BytR (w : World) (l : List Nat) (t : Value) (wr : World) : Prop :=
  ∃ k : Nat, k ≤ 64 ∧ t = .int .i64 k ∧ Blo wr w.heap.size U8 (cellsB (bytK l k)).toArray ∧ Below w.heap.size w wr
set_option maxHeartbeats 1000000 in
theorem bytes_any (a : Option Addr) (n cap : Nat) (l : List Nat) (w : World) (hn : n = l.length) (hm : n ≤ 9223372036854775807) (h : Bytes w a l) : Calls Tryd.prog 62 #[.slice a n cap] w (BytO w (byt l)) := by
  have hmk := run_make64
  have HN := Lib.hid hn
  have H := Lib.hid h
  have hb0 : Below w.heap.size w (w.alloc (.cells Z64 U8)) := (Below.refl _ _).alloc (Nat.le_refl _) _
  have HSt : Hid (BytR w l (.int .i64 0) (w.alloc (.cells Z64 U8))) := ⟨0, by omega, rfl, by rw [bytK_zero]; exact blo_laid w U8 Z64, hb0⟩
  clear hn h hb0
  go_enter Tryd.func62, Tryd.ntmps62
  go_wp2_with fail
  clear hmk
  go_loopw [8] (fun t wr => BytR w l t wr) (fun t _ => 64 - (intOf t).toNat)
  case atStart => exact HSt.out
  case round =>
    clear HSt
    obtain ⟨k, hk, rfl, hG, hb⟩ := hrel
    have HB := Lib.hid hb
    clear hb
    by_cases hlt : k < 64
    · have k0 : (0 : Int) ≤ (k : Int) := by omega
      have k1 : (k : Int) < 64 := by omega
      by_cases hn0 : 0 < n
      · obtain ⟨b, o, rfl, hc⟩ := (H.out.below HB.out).2.2 (fun e => by have := HN.out; rw [e] at this; simp at this; omega)
        obtain ⟨r, hr⟩ : ∃ r, k % n = r := ⟨_, rfl⟩
        have hrn : r < n := by rw [← hr]; exact Nat.mod_lt _ hn0
        have hcr := hc r (by rw [← HN.out]; exact hrn)
        have er : (k : Int) % (n : Int) = (r : Int) := by rw [← hr]; first | exact (Int.natCast_emod k n).symm | exact (Int.ofNat_emod k n).symm | simp
        have hc0 := hG.cell k
        rw [List.getElem?_toArray, cellsB_get _ _ (by rw [show (bytK l k).length = 64 from L64_length _]; exact hlt)] at hc0
        have hf0 := hG.frozen k
        have HG2 : Hid (Blo (wr.setCell ⟨w.heap.size, k, none⟩ (.int .u8 (l.getD r 0 : Nat))) w.heap.size U8 (cellsB (bytK l (k + 1))).toArray) := by
          have := hG.put k (.int .u8 (l.getD r 0 : Nat))
          rw [← hr, HN.out, bytK_put l k hlt] at this
          rw [← hr, HN.out]
          exact this
        have n1 : (0 : Int) < (n : Int) := by omega
        have r0 : (0 : Int) ≤ (r : Int) := by omega
        have r1 : (r : Int) < (n : Int) := by omega
        clear hr hc hG
        generalize l.getD r 0 = x at *
        go_wp2_with fail
        clear er
        have HB2 := Lib.hid (HB.out.setCell (p := ⟨w.heap.size, k, none⟩) (Nat.le_refl _) (.int .u8 (x : Int)))
        clear hc0 hf0 hcr HB
        go_roundw
        case rel => exact ⟨k + 1, by omega, by simp, HG2.out, HB2.out⟩
        case measure => simp [intOf]; omega
      · have hl : l = [] := List.eq_nil_of_length_eq_zero (by have := HN.out; omega)
        have HG2 : Hid (Blo wr w.heap.size U8 (cellsB (bytK l (k + 1))).toArray) := by
          have := hG
          rw [hl, bytK_nil] at this
          rw [hl, bytK_nil]
          exact this
        have n1 : ¬ (0 : Int) < (n : Int) := by omega
        clear hG hl
        go_wp2_with fail
        go_roundw
        case rel => exact ⟨k + 1, by omega, by simp, HG2.out, HB.out⟩
        case measure => simp [intOf]; omega
    · have hke : k = 64 := by omega
      subst hke
      rw [bytK_all] at hG
      have HG2 := Lib.hid hG
      have HBy := Lib.hid (byt_byte H.out.1)
      clear hG
      go_wp2
      go_ret
      exact ⟨w.heap.size, rfl, ⟨HG2.out, byt_length _, HBy.out⟩, Nat.le_refl _, HB.out⟩
section
variable {C B : Nat} {W w w' : World} {L : Dl} {d d' : Dm}
theorem CodeO.use {code : Int} {e : Ending} (h : CodeO C w L d' code e w') (hD : Dk C w L d) (hb : Below B W w) (hBC : B ≤ C) (hBW : B ≤ W.heap.size) : e = .returned (.int .i64 code) ∧ ∃ L' : Dl, L'.bd = L.bd ∧ Dk C w' L' d' ∧ Below B W w' := by
  obtain ⟨h1, qv, h2, h3, _⟩ := h
  exact ⟨h1, { L with qv := qv }, rfl, h2, hb.trans (h3.below (Nat.le_trans hBW hb.size) (fun i _ hi => Nat.le_trans hBC (hD.has_lt hi).1))⟩
theorem Dk.deeper {C' : Nat} (h : Dk C w L d) (hC : C' ≤ C) : Dk C' w L d :=
  ⟨h.top, h.sure, h.now, ⟨h.queue.1, by
    rcases h.queue.2 with hn | ⟨g, cap, cur, hv, hb, rest⟩
    · exact .inl hn
    · exact .inr ⟨g, cap, cur, hv, Nat.le_trans hC hb, rest⟩⟩, h.good, h.ne, ⟨Nat.le_trans hC h.low.1, Nat.le_trans hC h.low.2.1, Nat.le_trans hC h.low.2.2⟩, h.few, h.stp, h.lft, h.len⟩
end
theorem bytes_one (w : World) (x : Nat) (h : x < 256) : Bytes (w.alloc (.cells #[.int .u8 (x : Int)] U8)) (some ⟨w.heap.size, 0, none⟩) [x] :=
  Bytes.laid w [x] _ U8 (0, 0) (fun y hy => by simp at hy; omega) (by simp) (fun i hi => by
    simp at hi; subst hi; rfl)
end Go.Proofs.YtlkgaefabahkoaaDoor
/-
  Partial segments, for the laws: rows of texts; Blocks; texts.
-/
namespace Go.Proofs.YtlkgaefabahkoaaDoor
open Go.RowKit

section
variable {C base n : Nat} {w w' W : World} {L : Dl} {d : Dm}
set_option maxHeartbeats 1000000 in
theorem texts_yes (a b : Option Addr) (n c c' : Nat) (S : Nat → List Nat) (hA : Rds w a (cellsS S n)) (hB : Rds w b (cellsS S n)) (hn : n ≤ 1000000) :
    Calls Tryd.prog 47 #[.slice a n c, .slice b n c'] w fun e w' => e = .returned (.bool true) ∧ Below w.heap.size w w' := by
  have HA := Lib.hid hA
  have HB := Lib.hid hB
  have hb0 : ((n : Int) != (n : Int)) = false := by simp
  clear hA hB
  go_enter Tryd.func47, Tryd.ntmps47
  go_wp2
  go_loopw [13] (fun t wr => ∃ k : Nat, k ≤ n ∧ t = .int .i64 k ∧ Below w.heap.size w wr) (fun t _ => n - (intOf t).toNat)
  case atStart => exact ⟨0, Nat.zero_le _, rfl, Below.refl _ _⟩
  case round =>
    obtain ⟨k, hk, rfl, hbw⟩ := hrel
    have HW := Lib.hid hbw
    clear hbw
    by_cases hlt : k < n
    · obtain ⟨b1, o1, rfl, x1⟩ := (HA.out.later HW.out) k _ (cellsS_at S n k hlt)
      obtain ⟨b2, o2, rfl, x2⟩ := (HB.out.later HW.out) k _ (cellsS_at S n k hlt)
      have e1 : ((strOf (S k)).toList == (strOf (S k)).toList) = true := by simp
      have k0 : (0 : Int) ≤ (k : Int) := by omega
      have k1 : (k : Int) < (n : Int) := by omega
      generalize strOf (S k) = s at *
      go_wp2_with fail
      go_quiet (fail)
      have HW2 := Lib.hid (below_drewN HW.out)
      go_wp2_with fail
      go_roundw
      case rel => exact ⟨k + 1, hlt, by simp, HW2.out _⟩
      case measure => simp [intOf]; omega
    · go_wp2
      go_ret
      exact ⟨rfl, HW.out⟩
def TxsR (w : World) (F : Nat → List Nat) (k : Nat) (v : Value) (wr : World) : Prop := wr.ownsRow w.heap.size STR 1 v k (cellsS F k) ∧ Below w.heap.size w wr
def TxsO (w : World) (n : Nat) (F : Nat → List Nat) (e : Ending) (w' : World) : Prop := ∃ a c, e = .returned (.slice a n c) ∧ Rds w' a (cellsS F n) ∧ Below w.heap.size w w'
theorem cellsS_succ (S : Nat → List Nat) (n : Nat) : cellsS S (n + 1) = cellsS S n ++ [.string (strOf (S n))] := by simp [cellsS, List.range_succ]
theorem str_wf {l : List Nat} : ∀ u ∈ [Value.string (strOf l)], u.oneCell' = true := by simp [Value.oneCell']
set_option maxHeartbeats 2000000 in
theorem rtexts_any {ba : Option Addr} {bc : Nat} {G : Nat → Nat} {F : Nat → List Nat} (hR : RowB w base (.slice ba n bc) n G F) (hn : n ≤ 100000) :
    Calls Tryd.prog 19 #[.slice ba n bc] w (TxsO w n F) := by
  have HR := Lib.hid hR
  have HT0 : Hid (TxsR w F 0 (.slice none 0 0) w) := ⟨⟨by simp [cellsS], .inl ⟨rfl, rfl⟩⟩, Below.refl _ _⟩
  clear hR
  go_enter Tryd.func19, Tryd.ntmps19
  go_wp2_with fail
  go_loopw [3, 8] (fun v t wr => ∃ k : Nat, k ≤ n ∧ t = .int .i64 k ∧ TxsR w F k v wr) (fun _ t _ => n - (intOf t).toNat)
  case atStart => exact ⟨0, Nat.zero_le _, rfl, HT0.out⟩
  case round =>
    clear HT0
    obtain ⟨k, hk, rfl, hown, hbw⟩ := hrel
    obtain ⟨va, vc, rfl, _⟩ := own_slice hown
    have HO := Lib.hid hown
    have HW := Lib.hid hbw
    clear hown hbw
    by_cases hlt : k < n
    · have HR2 := Lib.hid (HR.out.later HW.out)
      obtain ⟨b, o, rfl, hc⟩ := (HR2.out.lists (by omega)).at_ (by omega)
      have hck := hc k hlt
      rw [lsF_get F hlt, (HR2.out.each k hlt).2.1] at hck
      have HBk := Lib.hid (HR2.out.each k hlt)
      have hcv : ∀ W, Below wr.heap.size wr W → (convert 49 9 (.slice (some ⟨G k, 0, none⟩) 64 64)).run Tryd.prog W = .ok (.string (strOf (F k))) W := fun W hb => by
        have hbb := (HBk.out.out (X := fun _ => False) (Out.of_below hb) (fun h => h))
        exact run_str W 49 9 5 Tryd.underlying49 Tryd.underlying5 Tryd.underlying9 (F k) _ 64 64 hbb.2.1.symm ⟨hbb.2.2, by rw [hbb.2.1]; decide, fun _ => ⟨G k, 0, rfl, fun i hi => by rw [Nat.zero_add, hbb.1.cell, List.getElem?_toArray, cellsB_get _ _ hi]⟩⟩
      have hcv0 := hcv wr (Below.refl _ _)
      have hz2 : w.heap.size ≤ wr.heap.size := HW.out.size
      have k1 : (k : Int) < (n : Int) := by omega
      clear hc hcv
      go_wp2_with (at_builtin; refine wp_append_rowO rfl (.tmp 12) (.tmp 15) 26 rfl w.heap.size STR _ 1 16 Tryd.underlying26 info_str (by kernel_rfl) (by decide) (by decide) (.slice va k vc) k _ rfl (own_later HO.out (sup_pc wr _)) (some ⟨wr.heap.size, 0, none⟩) 1 1 [.string (strOf (F k))] rfl rfl (laid_srcO wr STR _ _ rfl) str_wf (fun e => by cases e) (by omega) (by simp; omega) ?_; intro a6 c6 w6 hown hgrow hat; have HO6 : Hid (w6.ownsRow w.heap.size STR 1 (.slice a6 (k + 1) c6) (k + 1) (cellsS F (k + 1))) := (by show World.ownsRow _ _ _ _ _ _ _; rw [cellsS_succ]; exact hown); have HW6 := Lib.hid ((HW.out.alloc HW.out.size (.cells #[.string (strOf (F k))] STR)).grown hgrow (by simp; omega) (fun b hb => (own_lt HO.out hb).1)); clear hown hgrow hat)
      clear hcv0 hck HBk HR2 HO HW
      go_roundw
      case rel => exact ⟨k + 1, hlt, by simp, HO6.out, HW6.out⟩
      case measure => simp [intOf]; omega
    · obtain rfl : n = k := by omega
      have HE : Hid (TxsO w n F (.returned (.slice va n vc)) wr) := ⟨va, vc, rfl, Rds.own HO.out, HW.out⟩
      clear HO HW
      go_wp2
      go_ret
      exact HE.out
/-! The law's blocks: bytes that go round. -/
def rnd (dt : List Nat) (i : Nat) : List Nat := byt ((i + 2) :: dt)
def BlkR (w : World) (pv : Array Value) (dt : List Nat) (k : Nat) (v : Value) (wr : World) : Prop := ∃ G, RowB wr w.heap.size v k G (rnd dt) ∧ Below w.heap.size w wr ∧ Blo wr w.heap.size PT pv
def BlkO (w : World) (n : Nat) (dt : List Nat) (e : Ending) (w' : World) : Prop := ∃ a c G, e = .returned (.slice a n c) ∧ RowB w' w.heap.size (.slice a n c) n G (rnd dt) ∧ Below w.heap.size w w'
theorem bytes_add {a : Option Addr} {l : List Nat} (h : Bytes w a l) : ∀ ad, a = some ad → ∀ j u, (cellsB l)[j]? = some u → w.cell? (ad.add j) = some u := fun ad ha j u hj => by
  have hl : j < l.length := by
    have := (List.getElem?_eq_some_iff.1 hj).1
    rwa [cellsB_length] at this
  obtain ⟨b, o, e, hc⟩ := h.2.2 (fun e => by rw [e] at hl; cases hl)
  rw [e] at ha
  cases ha
  rw [Addr.add_lit, hc j hl, ← hj, cellsB_get _ _ hl]
end
end Go.Proofs.YtlkgaefabahkoaaDoor
/-
  Partial segments, for the laws: Blocks.
-/
namespace Go.Proofs.YtlkgaefabahkoaaDoor
open Go.RowKit

section
variable {C base n : Nat} {w w' W : World} {L : Dl} {d : Dm}
theorem u8_lit (k : Nat) (h : k ≤ 198) : IntKind.u8.wrap ((k : Int) + 2) = (k : Int) + 2 := by
  show ((k : Int) + 2) % 256 = _
  omega
set_option maxRecDepth 100000 in
set_option maxHeartbeats 4000000 in
theorem blocks_any (e c i p x : Int) (fs : List Fi) (is : List Int) (fa : Option Addr) (fn fc : Nat) (ia : Option Addr) (inn ic : Nat) (hF : Fis w fa fs) (hfn : fn = fs.length) (hin : inn = is.length) (hbk : blks fs is = n + 2) (hn : n ≤ 198)
    (a : Option Addr) (dn dc : Nat) (dt : List Nat) (hY : Bytes w a dt) (hdn : dn = dt.length) (hd : dn ≤ 5000) (hnil : a = none → dn = 0 ∧ dc = 0) (hszf : szF fs ≤ 1000000000) :
    Calls Tryd.prog 23 #[part e c i p x fa fn fc ia inn ic, .slice a dn dc] w (BlkO w n dt) := by
  obtain ⟨pv, hpv⟩ : ∃ pv : Array Value, pv = #[.int .i64 e, .int .i64 c, .int .i64 i, .int .i64 p, .int .i64 x, .slice fa fn fc, .slice ia inn ic] := ⟨_, rfl⟩
  have hb1 := sup_pc w (.cells pv PT)
  have hbl : 2 + inn + blF fs = n + 2 := by unfold blks at hbk; omega
  have HBl : Hid (∀ W, Below w.heap.size w W → Calls Tryd.prog 25 #[part e c i p x fa fn fc ia inn ic] W fun en w' => en = .returned (.int .i64 ((n + 2 : Nat) : Int)) ∧ Below W.heap.size W w') := fun W hb => by
    have := sblocks_any (w := W) e c i p x fa fn fc ia inn ic (hF.later hb) hfn hszf (by omega)
    rwa [hbl] at this
  have HY := Lib.hid hY
  have HDl : Hid ((cellsB dt).length = dn * 1) := by show _ = _; rw [cellsB_length, hdn, Nat.mul_one]
  have HDn := Lib.hid hdn
  have HNil := Lib.hid hnil
  have HR0 : Hid (BlkR w pv dt 0 (.slice none 0 0) (w.alloc (.cells pv PT))) := ⟨fun _ => 0, rowB_nil _ _ _ _, hb1, blo_laid w _ _⟩
  have HBy : Hid (∀ i, i < 256 → ∀ y ∈ i :: dt, y < 256) := fun i hi y hy => by
    rcases List.mem_cons.1 hy with rfl | h
    · exact hi
    · exact hY.1 y h
  clear hF hfn hin hbk hY hdn hnil hb1 hbl hszf
  subst hpv
  go_enter Tryd.func23, Tryd.ntmps23
  go_wp2_with fail
  go_loopw [5, 6] (fun v t wr => ∃ k : Nat, k ≤ n ∧ t = .int .i64 ((k : Int) + 2) ∧ BlkR w #[.int .i64 e, .int .i64 c, .int .i64 i, .int .i64 p, .int .i64 x, .slice fa fn fc, .slice ia inn ic] dt k v wr) (fun _ t _ => n + 2 - (intOf t).toNat)
  case atStart => exact ⟨0, Nat.zero_le _, rfl, HR0.out⟩
  case round =>
    clear HR0
    obtain ⟨k, hk, rfl, G, hR, hb, hbx⟩ := hrel
    obtain ⟨va, vc, rfl, _⟩ := own_slice hR.row
    have HR := Lib.hid hR
    have HB := Lib.hid hb
    have HX := Lib.hid hbx
    have c0 := hbx.cell 0
    have c1 := hbx.cell 1
    have c2 := hbx.cell 2
    have c3 := hbx.cell 3
    have c4 := hbx.cell 4
    have c5 := hbx.cell 5
    have c6 := hbx.cell 6
    simp at c0 c1 c2 c3 c4 c5 c6
    clear hR hb hbx
    go_wp2_with fail
    refine (HBl.out wr HB.out).mono ?_
    rintro e2 w2 ⟨rfl, hb2⟩
    have HR2 := Lib.hid (HR.out.later hb2)
    have HB2 := Lib.hid (HB.out.trans (hb2.mono HB.out.size))
    have HX2 := Lib.hid (HX.out.later hb2)
    clear hb2 HR HB HX c0 c1 c2 c3 c4 c5 c6
    by_cases hlt : k < n
    · have j1 : (k : Int) + 2 < (n : Int) + 2 := by omega
      have j2 : (k : Int) + 2 < 200 := by omega
      have hw8 := u8_lit k (by omega)
      have hz2 : w.heap.size ≤ w2.heap.size := HB2.out.size
      have HO1 : Hid ((w2.alloc (.cells #[.int .u8 ((k : Int) + 2)] U8)).ownsRow w2.heap.size U8 1 (.slice (some ⟨w2.heap.size, 0, none⟩) 1 1) 1 [.int .u8 ((k : Int) + 2)]) := World.ownsRow_lit w2 #[.int .u8 ((k : Int) + 2)] 1 (Nat.le_refl _) (by decide) rfl
      have HYs := Lib.hid (HY.out.below (HB2.out.alloc HB2.out.size (.cells #[.int .u8 ((k : Int) + 2)] U8)))
      go_wp2_with (at_builtin; refine wp_append_rowO rfl (.tmp 20) (.tmp 21) 49 rfl w2.heap.size U8 _ 1 1 Tryd.underlying49 info_u8f (by kernel_rfl) (by decide) (by decide) (.slice (some ⟨w2.heap.size, 0, none⟩) 1 1) 1 _ rfl HO1.out a dn dc (cellsB dt) rfl HDl.out (bytes_add HYs.out) (cellsB_one _) HNil.out (by omega) (by simp) ?_; intro a6 c6 w6 hown hgrow hat; have HY6 : Hid (Bytes w6 a6 ((k + 2) :: dt)) := own_bytes8 hown (HBy.out (k + 2) (by omega)) (by rw [List.length_cons, ← HDn.out]; omega); have hb6 : Below w2.heap.size w2 w6 := ((sup_pc w2 (.cells #[.int .u8 ((k : Int) + 2)] U8)).grown hgrow (by simp) (fun b hb => (own_lt HO1.out hb).1)); have HR6 := Lib.hid (HR2.out.later hb6); have HB6 := Lib.hid (HB2.out.trans (hb6.mono HB2.out.size)); have HX6 := Lib.hid (HX2.out.later hb6); clear hown hgrow hat hb6)
      clear hw8 HO1 HYs HR2 HB2 HX2 hz2
      refine (bytes_any a6 (1 + dn) c6 ((k + 2) :: dt) w6 (by rw [List.length_cons, ← HDn.out]; omega) (by omega) HY6.out).mono ?_
      rintro e3 w7 ⟨g, rfl, hbk, hgl, hb7⟩
      have hb8 := hb7.trans ((sup_pc w7 (.cells #[.slice (some ⟨g, 0, none⟩) 64 64] SB)).mono hb7.size)
      have HR7 := Lib.hid (HR6.out.later hb8)
      have HB7 := Lib.hid (HB6.out.trans (hb8.mono HB6.out.size))
      have HX7 := Lib.hid (HX6.out.later hb8)
      have HBk : Hid (BBlk (w7.alloc (.cells #[.slice (some ⟨g, 0, none⟩) 64 64] SB)) g (rnd dt k)) := hbk.out (X := fun _ => False) (Out.of_below (sup_pc w7 _)) (fun h => h)
      have HGl := Lib.hid (Nat.le_trans HB6.out.size hgl)
      have HNew : Hid (∀ i, i < k → G i ≠ g) := fun i hi e => by have := (HR6.out.each i hi).1.lt; omega
      have hz2 : w.heap.size ≤ w7.heap.size + 1 := by have := HB7.out.size; simpa using this
      clear hbk hgl hb7 hb8 HR6 HB6 HX6 HY6
      go_wp2_with (at_builtin; refine wp_append_rowO rfl (.tmp 17) (.tmp 24) 23 rfl w.heap.size SB _ 1 24 Tryd.underlying23 info_sb (by kernel_rfl) (by decide) (by decide) (.slice va k vc) k _ rfl HR7.out.row (some ⟨w7.heap.size, 0, none⟩) 1 1 [.slice (some ⟨g, 0, none⟩) 64 64] rfl rfl (laid_srcO w7 SB _ _ rfl) (by simp [Value.oneCell']) (fun e => by cases e) (by omega) (by simp; omega) ?_; intro a8 c8 w8 hown hgrow hat; have HR8 := Lib.hid (HR7.out.snoc hgrow hown HBk.out HGl.out HNew.out); have HB8 := Lib.hid (HB7.out.grown hgrow (by simpa using hz2) (fun b hb => (own_lt HR7.out.row hb).1)); have HX8 := Lib.hid (HX7.out.grown hgrow (HX7.out.row_apart HR7.out.row (by decide))); clear hown hgrow hat)
      have HR9 : Hid (BlkR w #[.int .i64 e, .int .i64 c, .int .i64 i, .int .i64 p, .int .i64 x, .slice fa fn fc, .slice ia inn ic] dt (k + 1) (.slice a8 (k + 1) c8) w8) := ⟨_, HR8.out.congr (fun i hi => by
        by_cases e : i = k
        · subst e; rw [updB_at]
        · rw [updB_ne _ _ e]), HB8.out, HX8.out⟩
      clear HR8 HB8 HX8 HR7 HBk HB7 HX7 HGl HNew
      go_roundw
      case rel => exact ⟨k + 1, hlt, by simp; omega, HR9.out⟩
      case measure => simp [intOf]; omega
    · obtain rfl : n = k := by omega
      have HE : Hid (BlkO w n dt (.returned (.slice va n vc)) w2) := ⟨va, vc, G, rfl, HR2.out, HB2.out⟩
      have j1 : ¬ (n : Int) + 2 < (n : Int) + 2 := by omega
      clear HR2 HB2 HX2
      go_wp2
      go_ret
      exact HE.out
end
end Go.Proofs.YtlkgaefabahkoaaDoor
/-
  Two lists of numbers held against each other.
-/
namespace Go.Proofs.YtlkgaefabahkoaaDoor
open Go.RowKit

theorem ie_drewN {B : Nat} {a w : World} (h : Below B a w) (n : Nat) : Below B a (w.drewN n) := ⟨h.os, h.tape, h.output, h.size, h.block⟩
/-- Are two lists of numbers the same? -/
def InsOut (w : World) (l m : List Int) (e : Ending) (w' : World) : Prop := e = .returned (.bool (decide (l = m))) ∧ Below w.heap.size w w'
set_option maxHeartbeats 400000 in
theorem ints_len (a b : Option Addr) (n k c d : Nat) (w : World) (h : n ≠ k) :
    Calls Tryd.prog 39 #[.slice a n c, .slice b k d] w fun e w' => e = .returned (.bool false) ∧ w = w' := by
  have hb : ((n : Int) == (k : Int)) = false := by simpa using (by omega : ¬ (n : Int) = (k : Int))
  have hb' : ((n : Int) != (k : Int)) = true := by simpa using (by omega : ¬ (n : Int) = (k : Int))
  have HB := Lib.hid hb
  go_enter Tryd.func39, Tryd.ntmps39
  go_wp2
  go_ret
  exact ⟨rfl, rfl⟩
def IntsRel (w : World) (l m : List Int) (n : Nat) (t : Value) (wr : World) : Prop := ∃ k q : Nat, t = .int .i64 k ∧ k ≤ n ∧ l.take k = m.take k ∧ wr = w.drewN q
set_option maxHeartbeats 600000 in
theorem ints_same (l m : List Int) (a b : Option Addr) (n c d : Nat) (w : World) (hl : n = l.length) (hm : n = m.length) (hn : n < 1000000000) (ha : Ints w a l) (hb : Ints w b m) :
    Calls Tryd.prog 39 #[.slice a n c, .slice b n d] w fun e w' => e = .returned (.bool (decide (l = m))) ∧ Below w.heap.size w w' := by
  have HL := Lib.hid hl
  have HM := Lib.hid hm
  have HA := Lib.hid ha
  have HB := Lib.hid hb
  have hb0 : ((n : Int) != (n : Int)) = false := by simp
  clear hl hm ha hb
  go_enter Tryd.func39, Tryd.ntmps39
  go_wp2
  go_loopw [13, 5] (fun t _ wr => IntsRel w l m n t wr) (fun t _ _ => n - (intOf t).toNat)
  case atStart => exact ⟨0, 0, rfl, by omega, by simp, rfl⟩
  case round =>
    obtain ⟨k, q, rfl, hk, hp, rfl⟩ := hrel
    have HP := Lib.hid hp
    clear hp
    by_cases hlt : k < n
    · obtain ⟨b1, o1, rfl, h1⟩ := HA.out (by intro e; have := HL.out; rw [e] at this; simp at this; omega)
      obtain ⟨b2, o2, rfl, h2⟩ := HB.out (by intro e; have := HM.out; rw [e] at this; simp at this; omega)
      have x1 := h1 k (by have := HL.out; omega)
      have x2 := h2 k (by have := HM.out; omega)
      have e1 : Hid (l.take (k + 1) = l.take k ++ [l.getD k 0]) := by
        show _ = _
        rw [List.take_add_one, List.getD_eq_getElem?_getD, List.getElem?_eq_getElem (by have := HL.out; omega)]; rfl
      have e2 : Hid (m.take (k + 1) = m.take k ++ [m.getD k 0]) := by
        show _ = _
        rw [List.take_add_one, List.getD_eq_getElem?_getD, List.getElem?_eq_getElem (by have := HM.out; omega)]; rfl
      clear h1 h2
      generalize l.getD k 0 = x at *
      generalize m.getD k 0 = y at *
      have z0 : (0 : Int) ≤ (k : Int) := by omega
      have z1 : (k : Int) < (n : Int) := by omega
      by_cases hxy : x = y
      · subst hxy
        have hc : (x != x) = false := by simp
        go_wp2_with fail
        go_quiet (fail)
        go_wp2
        go_roundw
        case rel => exact ⟨k + 1, _, by go_num, by omega, by rw [e1.out, e2.out, HP.out], rfl⟩
        case measure => simp [intOf]; omega
      · have hc : (x != y) = true := by simpa using hxy
        have hne : Hid (decide (l = m) = false) := by
          show _ = _
          apply decide_eq_false
          intro e
          subst e
          have := e1.out.symm.trans e2.out
          have := List.append_cancel_left this
          simp at this
          exact hxy this
        go_wp2_with fail
        go_quiet (fail)
        go_wp2
        go_ret
        rw [hne.out]
        exact ⟨rfl, ie_drewN (ie_drewN (Below.refl _ _) _) _⟩
    · obtain rfl : k = n := by omega
      have heq : Hid (decide (l = m) = true) := by
        show _ = _
        apply decide_eq_true
        have := HP.out
        rw [List.take_of_length_le (by have := HL.out; omega), List.take_of_length_le (by have := HM.out; omega)] at this
        exact this
      go_wp2
      go_ret
      rw [heq.out]
      exact ⟨rfl, ie_drewN (Below.refl _ _) _⟩
theorem ints_any (l m : List Int) (a b : Option Addr) (n k c d : Nat) (w : World) (hl : n = l.length) (hm : k = m.length) (hn : n < 1000000000) (ha : Ints w a l) (hb : Ints w b m) :
    Calls Tryd.prog 39 #[.slice a n c, .slice b k d] w fun e w' => e = .returned (.bool (decide (l = m))) ∧ Below w.heap.size w w' := by
  by_cases h : n = k
  · subst h
    exact ints_same l m a b n c d w hl hm hn ha hb
  · have hne : decide (l = m) = false := decide_eq_false (fun e => h (by rw [hl, hm, e]))
    rw [hne]
    exact (ints_len a b n k c d w h).mono fun e w' ⟨h1, h2⟩ => ⟨h1, by rw [← h2]; exact Below.refl _ _⟩
end Go.Proofs.YtlkgaefabahkoaaDoor
