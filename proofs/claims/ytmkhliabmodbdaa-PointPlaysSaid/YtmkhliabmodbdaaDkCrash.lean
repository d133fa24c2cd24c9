/-
  The disk's walks: Crash.
-/
import Derived.Test.YtmkhliabmodbdaaDkTear
namespace Go.Proofs.Ytmkhliabmodbdaa
open Go.RowKit

/-- What a slice of bools that is read holds. -/
def Bools (w : World) (a : Option Addr) (l : List Bool) : Prop := l ≠ [] → ∃ b o, a = some ⟨b, o, none⟩ ∧ ∀ i, i < l.length → w.cell? ⟨b, o + i, none⟩ = some (.bool (l.getD i false))
theorem Bools.below {w w' : World} {a : Option Addr} {l : List Bool} (h : Bools w a l) (hb : Below w.heap.size w w') : Bools w' a l := fun hl => by
  obtain ⟨b, o, ha, hc⟩ := h hl
  exact ⟨b, o, ha, fun i hi => cell_later hb (hc i hi)⟩
theorem Bools.nil (w : World) (a : Option Addr) : Bools w a [] := fun h => absurd rfl h
def cellsR (F : Nat → List Nat) : Nat → List Value
  | 0 => []
  | n + 1 => cellsR F n ++ cellsB (F n)
theorem cellsR_length (F : Nat → List Nat) (h : ∀ i, (F i).length = 64) : ∀ n, (cellsR F n).length = n * 64
  | 0 => rfl
  | n + 1 => by rw [cellsR, List.length_append, cellsR_length F h n, cellsB_length, h]; omega
theorem cellsR_at (F : Nat → List Nat) (h : ∀ i, (F i).length = 64) : ∀ n i j, i < n → j < 64 → (cellsR F n)[i * 64 + j]? = some (.int .u8 ((F i).getD j 0 : Nat))
  | 0, i, j, hi, _ => by omega
  | n + 1, i, j, hi, hj => by
    have hl := cellsR_length F h n
    by_cases e : i = n
    · subst e
      rw [cellsR, List.getElem?_append_right (by omega), hl, show i * 64 + j - i * 64 = j by omega, cellsB_get _ _ (by rw [h]; exact hj)]
    · rw [cellsR, List.getElem?_append_left (by omega)]
      exact cellsR_at F h n i j (by omega) hj
theorem cellsR_one (F : Nat → List Nat) : ∀ n, ∀ v ∈ cellsR F n, v.oneCell' = true
  | 0, v, hv => by simp [cellsR] at hv
  | n + 1, v, hv => by
    rw [cellsR] at hv
    rcases List.mem_append.1 hv with h | h
    · exact cellsR_one F n v h
    · exact cellsB_one _ v h
section
variable {w w' : World} {g n i : Nat} {F F' : Nat → List Nat}
theorem Rw.all (h : Rw w g n F) : w.rangeAt g 0 (cellsR F n) := fun j v hv => by
  have hj : j < n * 64 := by
    have := (List.getElem?_eq_some_iff.1 hv).1
    rw [cellsR_length F h.len] at this; exact this
  have e : j = j / 64 * 64 + j % 64 := by omega
  rw [e, cellsR_at F h.len n _ _ (by omega) (by omega)] at hv
  cases hv
  rw [Nat.zero_add]
  have := h.cell (i := j / 64) (by omega) (j := j % 64) (by omega)
  rw [← e] at this
  exact this
theorem Rw.thereAll (h : Rw w g n F) : w.there g 0 (n * 64) := fun j hj => by
  have := h.there (i := j / 64) (by omega) (j % 64) (by omega)
  rw [show 0 + j = j / 64 * 64 + j % 64 by omega]
  exact this
theorem Rw.fill (h : Rw w g n F) (hl : ∀ i, (F' i).length = 64) (hb : ∀ i, ∀ x ∈ F' i, x < 256) : Rw (w.setCells g 0 (cellsR F' n)) g n F' := by
  obtain ⟨⟨cs, h1, h2, h3⟩, h4, h5⟩ := h
  obtain ⟨cs', k1, k2, k3⟩ := blo_cells (cellsR F' n) 0 w cs h1
  refine ⟨⟨cs', k1, by rw [k2, h2], fun a ha j hj => ?_⟩, hl, hb⟩
  rw [k3, cellsR_length F' hl, if_pos ⟨by omega, by omega, by omega⟩, Nat.sub_zero]
  exact cellsR_at F' hl n a j ha hj
end
/-- A disk that nothing waits for. -/
def bareD (n : Nat) (S N : Nat → List Nat) : Dm := ⟨n, S, N, [], 0, false, 0⟩
def crK (S : Nat → List Nat) (Q : List (Nat × List Nat)) (keep : List Bool) (torn sec : Int) : Nat → (Nat → List Nat)
  | 0 => S
  | k + 1 =>
    if keep.getD k false = true then updB (crK S Q keep torn sec k) (Q.getD k (0, [])).1 (Q.getD k (0, [])).2
    else if (k : Int) = torn then updB (crK S Q keep torn sec k) (Q.getD k (0, [])).1 (tearK 4 (crK S Q keep torn sec k (Q.getD k (0, [])).1) (Q.getD k (0, [])).2 sec)
    else crK S Q keep torn sec k
def crashD (d : Dm) (keep : List Bool) (torn sec : Int) : Dm := bareD d.n (crK d.S d.Q keep torn sec d.Q.length) (crK d.S d.Q keep torn sec d.Q.length)
def CrashO (w : World) (d' : Dm) (e : Ending) (w' : World) : Prop :=
  ∃ Lc : Dl, e = .returned (.pointer (some ⟨Lc.bd, 0, none⟩)) ∧ Dk w.heap.size w' Lc d' ∧ Below w.heap.size w w'
section
variable {C : Nat} {w w' : World} {L : Dl} {d : Dm}
theorem Dk.copyS (h : Dk C w L d) {F : Nat → List Nat} (hl : ∀ i, (F i).length = 64) (hb : ∀ i, ∀ x ∈ F i, x < 256) : Dk C (w.setCells L.gs 0 (cellsR F d.n)) L { d with S := F } ∧ Out L.has w (w.setCells L.gs 0 (cellsR F d.n)) := by
  have ho : Out (fun j => j = L.gs) w (w.setCells L.gs 0 (cellsR F d.n)) := out_cells _ _ _ rfl
  exact ⟨⟨ho.blo h.top (fun e => h.bd_gs e), h.sure.fill hl hb, h.now.out ho (fun e => h.ne e.symm), ho.own h.queue (fun g hg e => h.q_gs (by rw [hg, e])), h.good, h.ne, h.low, h.few, h.stp, h.lft, h.len⟩, ho.mono (fun j _ e => .inr (.inl e))⟩
theorem Dk.copyN (h : Dk C w L d) {F : Nat → List Nat} (hl : ∀ i, (F i).length = 64) (hb : ∀ i, ∀ x ∈ F i, x < 256) : Dk C (w.setCells L.gn 0 (cellsR F d.n)) L { d with N := F } ∧ Out L.has w (w.setCells L.gn 0 (cellsR F d.n)) := by
  have ho : Out (fun j => j = L.gn) w (w.setCells L.gn 0 (cellsR F d.n)) := out_cells _ _ _ rfl
  exact ⟨⟨ho.blo h.top (fun e => h.bd_gn e), h.sure.out ho (fun e => h.ne e), h.now.fill hl hb, ho.own h.queue (fun g hg e => h.q_gn (by rw [hg, e])), h.good, h.ne, h.low, h.few, h.stp, h.lft, h.len⟩, ho.mono (fun j _ e => .inr (.inr (.inl e)))⟩
theorem Out.deep {H : Nat} (h : Out L.has w w') (hD : Dk H w L d) {w0 : World} (hb : Below H w0 w) (hH : H ≤ w0.heap.size) : Below H w0 w' :=
  hb.trans (h.below (Nat.le_trans hH hb.size) (fun i _ hi => (hD.has_lt hi).1))
/-- What the crash makes, with what its two rows hold. -/
def CrS (w : World) (n : Nat) (S N : Nat → List Nat) (v : Value) (W : World) : Prop :=
  ∃ Lc : Dl, v = .pointer (some ⟨Lc.bd, 0, none⟩) ∧ Dk w.heap.size W Lc (bareD n S N) ∧ Below w.heap.size w W
theorem newD_bare (n : Nat) : newD n = bareD n (fun _ => zeroB) (fun _ => zeroB) := rfl
def CraR (w : World) (d : Dm) (keep : List Bool) (torn sec : Int) (Lc : Dl) (i : Value) (wr : World) : Prop :=
  ∃ k : Nat, k ≤ d.Q.length ∧ i = .int .i64 k ∧ Dk w.heap.size wr Lc (bareD d.n (crK d.S d.Q keep torn sec k) (fun _ => zeroB)) ∧ Below w.heap.size w wr
set_option maxRecDepth 100000 in
set_option maxHeartbeats 4000000 in
theorem crash_any (h : Dk C w L d) (a : Option Addr) (keep : List Bool) (kn cap : Nat) (hkn : kn = keep.length) (hkm : kn ≤ 9223372036854775807) (hK : Bools w a keep) (torn sec : Int) :
    Calls Try.prog 19 #[.pointer (some ⟨L.bd, 0, none⟩), .slice a kn cap, .int .i64 torn, .int .i64 sec] w (CrashO w (crashD d keep torn sec)) := by
  have H := Lib.hid h
  have HKn := Lib.hid hkn
  have HK := Lib.hid hK
  have t0 := h.top.cell 0
  simp at t0
  have hn1 := h.few.1
  have hn2 := h.few.2
  have hmk : ∀ W, _ := fun W => run_blks W d.n (by omega)
  have hbd := h.top.lt
  have KP : Hid (∀ W, Below w.heap.size w W → W.cell? ⟨L.bd, 0, none⟩ = some (.slice (some ⟨L.gs, 0, none⟩) d.n d.n)) := fun W hb => by simpa using (h.later hb).top.cell 0
  clear h hkn hK
  go_enter Try.func19, Try.ntmps19
  go_wp2_with fail
  go_cut [9] (fun v W => CrS w d.n (fun _ => zeroB) (fun _ => zeroB) v W)
  case first =>
    go_region_held3 (fun W => W.cell? ⟨L.bd, 0, none⟩ = some (.slice (some ⟨L.gs, 0, none⟩) d.n d.n)) (exact KP.out _ (by repeat (first | exact Below.refl _ _ | apply Below.drew | refine Below.alloc ?_ (by simp <;> omega) _))) (fail)
    · go_wp2_with fail
      go_meet
      exact ⟨⟨w.heap.size + 1 + 1, w.heap.size, w.heap.size + 1, .slice none 0 0⟩, rfl, new_mem1 w d.n hn1 hn2, new_below w d.n _⟩
    · go_wp2_with fail
      go_meet
      exact ⟨⟨w.heap.size + 1 + 1, w.heap.size + 1, w.heap.size, .slice none 0 0⟩, rfl, new_mem2 w d.n hn1 hn2, new_below w d.n _⟩
  case rest =>
    obtain ⟨Lc, rfl, hD, hb⟩ := hcut
    have HD1 := Lib.hid hD
    have HB1 := Lib.hid hb
    have HDd := Lib.hid (H.out.later hb)
    have hcbd := (hD.has_lt (.inl rfl)).2
    have c0 := hD.top.cell 0
    have d0 := (H.out.later hb).top.cell 0
    simp [bareD] at c0 d0
    have HS1 : Hid (∀ j v, (cellsR d.S d.n)[j]? = some v → wc.drew.cell? ((⟨L.gs, 0, none⟩ : Addr).add j) = some v) := range_src ((World.rangeAt_drew _ _ _ _).2 (HDd.out.sure.all))
    have HN1 : Hid ((cellsR d.S d.n).length = Nat.min d.n d.n * 64) := by
      show (cellsR d.S d.n).length = min d.n d.n * 64
      rw [cellsR_length _ HDd.out.sure.len]; simp
    have HT1 : Hid (wc.drew.there Lc.gs 0 (cellsR d.S d.n).length) := by
      show wc.drew.there Lc.gs 0 (cellsR d.S d.n).length
      rw [cellsR_length _ HDd.out.sure.len]
      exact (World.there_drew _ _ _ _).2 HD1.out.sure.thereAll
    clear hD hb KP t0 hmk
    go_wp2_with fail
    go_cut [] (fun W => Dk w.heap.size W Lc (bareD d.n d.S (fun _ => zeroB)) ∧ Below w.heap.size w W)
    case first =>
      go_region_law (refine step_copy_many (by rfl) (.tmp 29) (.tmp 33) 81 81 (by rfl) BLK 64 Try.underlying81 size_blk Lc.gs 0 d.n d.n ⟨L.gs, 0, none⟩ d.n d.n (by simp [go_sem]) (by simp [go_sem]) (cellsR d.S d.n) HN1.out HS1.out HT1.out (cellsR_one _ _) ?_)
      all_goals
        go_wp2_with fail
        go_meet
        obtain ⟨q1, q2⟩ := (HD1.out.later ((Below.refl _ _).drew)).copyS (F := d.S) HDd.out.sure.len HDd.out.sure.byte
        exact ⟨q1, Out.deep q2 (HD1.out.later ((Below.refl _ _).drew)) HB1.out.drew (Nat.le_refl _)⟩
    case rest =>
      obtain ⟨hD, hb⟩ := hcut
      clear HS1 HN1 HT1 HD1 HB1 HDd c0 d0
      have HB2 := Lib.hid hb
      have HDd := Lib.hid (H.out.later hb)
      have HSt : Hid (CraR w d keep torn sec Lc (.int .i64 0) wc) := ⟨0, Nat.zero_le _, rfl, hD, hb⟩
      obtain ⟨qa, qc, hqv, hqc⟩ := own_slice H.out.queue
      have t2 := HDd.out.top.cell 2
      simp at t2
      rw [hqv] at t2
      have hqn : d.Q.length ≤ 1000000 := H.out.len
      have HQv := Lib.hid hqv
      obtain ⟨Z, hZ, hZs⟩ := zero_wrt
      have HZs := Lib.hid hZs
      clear hD hb hqv hqc hZs
      go_wp2_with fail
      clear t2
      go_loopw [40] (fun i wr => CraR w d keep torn sec Lc i wr) (fun i _ => d.Q.length - (intOf i).toNat)
      case atStart => exact HSt.out
      case round =>
        clear HSt HB2 HDd
        obtain ⟨k, hk, rfl, hD, hb⟩ := hrel
        have HD := Lib.hid hD
        have HB := Lib.hid hb
        have HDd := Lib.hid (H.out.later hb)
        clear hD hb
        by_cases hlt : k < d.Q.length
        · obtain ⟨g, cp, hv, hr, hg⟩ := HDd.out.at (k := k) hlt
          rw [HQv.out] at hv
          injection hv with q1 q2 q3
          subst q1
          have hi2 : (Try.prog.info? WRT).map (·.size) = some (wrtC d.Q[k]).length := by rw [wrtC_length hg]; exact size_wrt
          have HI2 := Lib.hid hi2
          have HI3 : Hid ((Try.prog.info? WRT).map (·.size) = some (wrtC d.Q[k]).toArray.size) := by rw [List.size_toArray]; exact hi2
          have HR := Lib.hid hr
          have HG := Lib.hid hg
          have k0 : (0 : Int) ≤ (k : Int) := by omega
          have HQk : Hid (d.Q.getD k (0, []) = d.Q[k]) := by
            show d.Q.getD k (0, []) = d.Q[k]
            rw [List.getD_eq_getElem?_getD, List.getElem?_eq_getElem hlt]; rfl
          clear hi2 hr hg q2 q3
          go_upto_region 6 with (first | (refine wpList_load_mid rfl WRT (.tmp 44) rfl g (k * 65) (by first | rfl | simp [go_sem]) (wrtC d.Q[k]) _ HR.out Try.underlying91 rfl HI2.out ?_) | (refine wpList_load_mid rfl WRT (.tmp 43) rfl g (k * 65) (by first | rfl | simp [go_sem]) (wrtC d.Q[k]) _ HR.out Try.underlying91 rfl HI2.out ?_) | (refine wpList_store_row rfl WRT (.tmp 11) (.tmp 44) rfl wr.heap.size (wrtC d.Q[k]).toArray (by first | rfl | simp [go_sem]) (by first | rfl | simp [go_sem]) WRT _ (heap_alloc_new wr _) HI3.out (by show Z.size = (wrtC d.Q[k]).length; rw [wrtC_length HG.out]; exact HZs.out) (all_oneCell_toArray (wrtC_one _)) ?_))
          have hb5 : Below wr.heap.size wr ((wr.alloc (.cells Z WRT)).setRow wr.heap.size (wrtC d.Q[k]).toArray) := below_row ((Below.refl _ _).alloc (Nat.le_refl _) _) (Nat.le_refl _) _
          have HD5 := Lib.hid (HD.out.later hb5)
          have HB5 := Lib.hid (HB.out.trans (hb5.mono HB.out.size))
          have HV := Lib.hid (varW_new wr Z d.Q[k])
          have HNx : Hid (¬ Lc.has wr.heap.size) := fun h => by have := (HD.out.has_lt h).2; omega
          clear hb5
          have HGl := HV.out.b.lt
          generalize ((wr.alloc (.cells Z WRT)).setRow wr.heap.size (wrtC d.Q[k]).toArray) = w5 at *
          generalize wr.heap.size = gx at *
          obtain ⟨pa, pl, hp⟩ : ∃ a l, d.Q[k] = (a, l) := ⟨_, _, rfl⟩
          rw [hp] at HV HG HQk
          obtain ⟨g1, g2, g3⟩ := HG.out
          have hn1' : gx ≠ Lc.gs := fun e => HNx.out (.inr (.inl e))
          have hn2' : Lc.bd ≠ Lc.gs := HD5.out.bd_gs
          have hu := Try.underlying89
          have hi2 : (Try.prog.info? BLK).map (·.size) = some (cellsB pl).length := by rw [cellsB_length, g2]; exact size_blk
          have hl64 : (cellsB pl).length = 64 := by rw [cellsB_length]; exact g2
          have hone := cellsB_one pl
          have hr1 := HV.out.data
          have hr2 : w5.there Lc.gs (pa * 64) 64 := HD5.out.sure.there g1
          have hc1 := HV.out.at0
          have hc2 := HD5.out.top.cell 0
          simp [bareD] at hc1 hc2
          have p0 : (0 : Int) ≤ (pa : Int) := by omega
          have p1 : (pa : Int) < (d.n : Int) := by have g1 : pa < d.n := g1; omega
          have G1 : Hid (pa < d.n) := g1
          have G2 := Lib.hid g2
          have G3 := Lib.hid g3
          clear g1 g2 g3 hp HR HI2 HI3 HG HD HB
          by_cases hA : keep.getD k false = true
          · have hkk : k < keep.length := by
              rcases Nat.lt_or_ge k keep.length with h | h
              · exact h
              · rw [List.getD_eq_getElem?_getD, List.getElem?_eq_none h] at hA; cases hA
            have hkk2 : k < kn := by rw [HKn.out]; exact hkk
            obtain ⟨kb, ko, rfl, hkc⟩ := (HK.out.below (HB5.out)) (fun e => by rw [e] at hkk; cases hkk)
            have hkc := hkc k hkk
            rw [hA] at hkc
            have k1 : (k : Int) < (kn : Int) := by omega
            have HNext : Hid (crK d.S d.Q keep torn sec (k + 1) = updB (crK d.S d.Q keep torn sec k) pa pl) := by
              show crK d.S d.Q keep torn sec (k + 1) = _
              rw [crK, if_pos hA, HQk.out]
            clear hA hkk hkk2
            go_wp2_with fail
            clear hkc
            go_region_held3 (fun W => W.rangeAt gx 1 (cellsB pl) ∧ W.there Lc.gs (pa * 64) 64 ∧ W.cell? ⟨gx, 0, none⟩ = some (.int .i64 pa) ∧ W.cell? ⟨Lc.bd, 0, none⟩ = some (.slice (some ⟨Lc.gs, 0, none⟩) d.n d.n)) ((go_split_ands; simp only [World.rangeAt_drew, World.there_drew, World.cell?_drew] at *; (repeat' constructor) <;> first | assumption | (apply World.there_setCells; assumption) | (refine World.rangeAt_setCells_apart (by assumption) _ _ _ (by omega)) | (rw [World.cell?_setCells_out _ _ _ _ _ (fun hh _ => absurd hh hn2')]; assumption) | (rw [World.cell?_setCells_out _ _ _ _ _ (fun hh _ => absurd hh hn1')]; assumption))) (fail)
            clear hr1 hr2 hc1 hc2 hn1' hn2' hu hi2 hl64 hone
            obtain ⟨hp1, hp2⟩ := (HD5.out.later ((Below.refl _ _).drew)).putSure G1.out G2.out G3.out
            have HB6 := Lib.hid (Out.deep hp2 (HD5.out.later ((Below.refl _ _).drew)) HB5.out.drew (Nat.le_refl _))
            have HD6 : Hid (Dk w.heap.size (w5.drew.setCells Lc.gs (pa * 64) (cellsB pl)) Lc (bareD d.n (crK d.S d.Q keep torn sec (k + 1)) (fun _ => zeroB))) := by
              rw [HNext.out]; exact hp1
            clear hp1 hp2 HD5 HB5 HNext
            go_wp2_with fail
            go_roundw
            case rel => exact ⟨k + 1, hlt, by simp, HD6.out, HB6.out⟩
            case measure => simp [intOf]; omega
          · have hAf : keep.getD k false = false := by cases h : keep.getD k false with
              | true => exact absurd h hA
              | false => rfl
            have HA := Lib.hid hA
            clear hA
            have HStep : Hid (∀ W, Dk w.heap.size W Lc (bareD d.n (crK d.S d.Q keep torn sec k) (fun _ => zeroB)) → (k : Int) ≠ torn → Dk w.heap.size W Lc (bareD d.n (crK d.S d.Q keep torn sec (k + 1)) (fun _ => zeroB))) := fun W hW hne => by
              rw [crK, if_neg HA.out, if_neg hne]; exact hW
            have HTorn : Hid ((k : Int) = torn → crK d.S d.Q keep torn sec (k + 1) = updB (crK d.S d.Q keep torn sec k) pa (tearK 4 (crK d.S d.Q keep torn sec k pa) pl sec)) := fun he => by
              rw [crK, if_neg HA.out, if_pos he, HQk.out]
            have HTear : Hid (Calls Try.prog 41 #[.pointer (some ⟨Lc.gs, pa * 64, none⟩), .pointer (some ⟨gx, 1, none⟩), .int .i64 sec] w5.drew fun e w' => e = .returned (.tuple #[]) ∧ Rw w' Lc.gs d.n (updB (crK d.S d.Q keep torn sec k) pa (tearK 4 (crK d.S d.Q keep torn sec k pa) pl sec)) ∧ Out (fun j => j = Lc.gs) w5.drew w') :=
              tear_any (n := d.n) (HD5.out.sure.later ((Below.refl _ _).drew)) G1.out (by show d.n ≤ 5000; omega) gx pl sec ((World.rangeAt_drew _ _ _ _).2 hr1) (by simpa using HGl) G2.out G3.out hn1'
            have HPut : Hid (∀ W', Rw W' Lc.gs d.n (updB (crK d.S d.Q keep torn sec k) pa (tearK 4 (crK d.S d.Q keep torn sec k pa) pl sec)) → Out (fun j => j = Lc.gs) w5.drew W' → Dk w.heap.size W' Lc (bareD d.n (updB (crK d.S d.Q keep torn sec k) pa (tearK 4 (crK d.S d.Q keep torn sec k pa) pl sec)) (fun _ => zeroB)) ∧ Below w.heap.size w W') := fun W' h1 h2 => by
              have h := HD5.out.later ((Below.refl w5.heap.size w5).drew)
              exact ⟨⟨h2.blo h.top (fun e => h.bd_gs e), h1, h.now.out h2 (fun e => h.ne e.symm), h2.own h.queue (fun g hg e => h.q_gs (by rw [hg, e])), h.good, h.ne, h.low, h.few, h.stp, h.lft, h.len⟩, HB5.out.drew.trans (h2.below HB5.out.size (fun i _ e => by rw [e]; exact h.low.2.1))⟩
            clear hr1 hr2 hu hi2 hl64 hone
            have hkc : k < keep.length → ∃ kb ko, a = some ⟨kb, ko, none⟩ ∧ w5.cell? ⟨kb, ko + k, none⟩ = some (.bool false) := fun hkk => by
              obtain ⟨kb, ko, ha, hkc⟩ := (HK.out.below (HB5.out)) (fun e => by rw [e] at hkk; cases hkk)
              exact ⟨kb, ko, ha, by rw [hkc k hkk, hAf]⟩
            clear hAf
            by_cases hT : (k : Int) = torn
            · subst hT
              have ht : ((k : Int) == (k : Int)) = true := by simp
              by_cases hkk2 : k < kn
              · obtain ⟨kb, ko, rfl, hkc⟩ := hkc (by rw [← HKn.out]; exact hkk2)
                have k1 : (k : Int) < (kn : Int) := by omega
                go_wp2_with fail
                clear hkc
                go_region_held3 (fun W => W.cell? ⟨gx, 0, none⟩ = some (.int .i64 pa) ∧ W.cell? ⟨Lc.bd, 0, none⟩ = some (.slice (some ⟨Lc.gs, 0, none⟩) d.n d.n)) ((first | (simp only [World.cell?_drew]; exact ⟨hc1, hc2⟩) | (exact HKS.out))) ((go_at_call 41; (with_reducible refine HTear.out.mono ?_); rintro e W' ⟨rfl, hR', hO'⟩; have HKS : Hid (W'.cell? ⟨gx, 0, none⟩ = some (.int .i64 pa) ∧ W'.cell? ⟨Lc.bd, 0, none⟩ = some (.slice (some ⟨Lc.gs, 0, none⟩) d.n d.n)) := ⟨hO'.cell (by simpa using hc1) hn1', hO'.cell (by simpa using hc2) hn2'⟩; have HP' := Lib.hid (HPut.out W' hR' hO'); clear hR' hO'))
                clear hc1 hc2 hn1' hn2' HTear HPut HStep HD5 HB5
                have HD6 : Hid (Dk w.heap.size W' Lc (bareD d.n (crK d.S d.Q keep (k : Int) sec (k + 1)) (fun _ => zeroB))) := by
                  rw [HTorn.out (by first | exact trivial | rfl)]; exact HP'.out.1
                have HB6 := Lib.hid HP'.out.2
                clear HTorn HP' HKS
                go_wp2_with fail
                go_roundw
                case rel => exact ⟨k + 1, hlt, by simp, HD6.out, HB6.out⟩
                case measure => simp [intOf]; omega
              · clear hkc
                have k1 : ¬ (k : Int) < (kn : Int) := by omega
                go_wp2_with fail
                go_region_held3 (fun W => W.cell? ⟨gx, 0, none⟩ = some (.int .i64 pa) ∧ W.cell? ⟨Lc.bd, 0, none⟩ = some (.slice (some ⟨Lc.gs, 0, none⟩) d.n d.n)) ((first | (simp only [World.cell?_drew]; exact ⟨hc1, hc2⟩) | (exact HKS.out))) ((go_at_call 41; (with_reducible refine HTear.out.mono ?_); rintro e W' ⟨rfl, hR', hO'⟩; have HKS : Hid (W'.cell? ⟨gx, 0, none⟩ = some (.int .i64 pa) ∧ W'.cell? ⟨Lc.bd, 0, none⟩ = some (.slice (some ⟨Lc.gs, 0, none⟩) d.n d.n)) := ⟨hO'.cell (by simpa using hc1) hn1', hO'.cell (by simpa using hc2) hn2'⟩; have HP' := Lib.hid (HPut.out W' hR' hO'); clear hR' hO'))
                clear hc1 hc2 hn1' hn2' HTear HPut HStep HD5 HB5
                have HD6 : Hid (Dk w.heap.size W' Lc (bareD d.n (crK d.S d.Q keep (k : Int) sec (k + 1)) (fun _ => zeroB))) := by
                  rw [HTorn.out (by first | exact trivial | rfl)]; exact HP'.out.1
                have HB6 := Lib.hid HP'.out.2
                clear HTorn HP' HKS
                go_wp2_with fail
                go_roundw
                case rel => exact ⟨k + 1, hlt, by simp, HD6.out, HB6.out⟩
                case measure => simp [intOf]; omega
            · have ht : ((k : Int) == torn) = false := by simpa using hT
              have HD6 : Hid (Dk w.heap.size w5 Lc (bareD d.n (crK d.S d.Q keep torn sec (k + 1)) (fun _ => zeroB))) := HStep.out w5 HD5.out hT
              by_cases hkk2 : k < kn
              · obtain ⟨kb, ko, rfl, hkc⟩ := hkc (by rw [← HKn.out]; exact hkk2)
                have k1 : (k : Int) < (kn : Int) := by omega
                clear HTear HPut HStep HTorn HD5 hc1 hc2
                go_wp2_with fail
                go_roundw
                case rel => exact ⟨k + 1, hlt, by simp, HD6.out, HB5.out⟩
                case measure => simp [intOf]; omega
              · clear hkc
                have k1 : ¬ (k : Int) < (kn : Int) := by omega
                clear HTear HPut HStep HTorn HD5 hc1 hc2
                go_wp2_with fail
                go_roundw
                case rel => exact ⟨k + 1, hlt, by simp, HD6.out, HB5.out⟩
                case measure => simp [intOf]; omega
        · have hke : k = d.Q.length := by omega
          subst hke
          generalize hS' : crK d.S d.Q keep torn sec d.Q.length = S' at *
          have hlen : ∀ i, (S' i).length = 64 := HD.out.sure.len
          have HLen := Lib.hid hlen
          clear hlen
          have c0 := HD.out.top.cell 0
          have c1 := HD.out.top.cell 1
          simp [bareD] at c0 c1
          have HS1 : Hid (∀ j v, (cellsR S' d.n)[j]? = some v → wr.drew.cell? ((⟨Lc.gs, 0, none⟩ : Addr).add j) = some v) := range_src ((World.rangeAt_drew _ _ _ _).2 (HD.out.sure.all))
          have HN1 : Hid ((cellsR S' d.n).length = Nat.min d.n d.n * 64) := by
            show (cellsR S' d.n).length = min d.n d.n * 64
            rw [cellsR_length S' HLen.out]; simp
          have HT1 : Hid (wr.drew.there Lc.gn 0 (cellsR S' d.n).length) := by
            show wr.drew.there Lc.gn 0 (cellsR S' d.n).length
            rw [cellsR_length S' HLen.out]
            exact (World.there_drew _ _ _ _).2 HD.out.now.thereAll
          have HF : Hid (CrashO w (crashD d keep torn sec) (.returned (.pointer (some ⟨Lc.bd, 0, none⟩))) (wr.drew.setCells Lc.gn 0 (cellsR S' d.n))) := by
            obtain ⟨q1, q2⟩ := (HD.out.later ((Below.refl _ _).drew)).copyN (F := S') HD.out.sure.len HD.out.sure.byte
            refine ⟨Lc, rfl, ?_, Out.deep q2 (HD.out.later ((Below.refl _ _).drew)) HB.out.drew (Nat.le_refl _)⟩
            unfold crashD
            rw [hS']
            exact q1
          clear hS' HD HB HDd
          go_wp2_with fail
          go_region_law (refine step_copy_many (by rfl) (.tmp 83) (.tmp 87) 81 81 (by rfl) BLK 64 Try.underlying81 size_blk Lc.gn 0 d.n d.n ⟨Lc.gs, 0, none⟩ d.n d.n (by simp [go_sem]) (by simp [go_sem]) (cellsR S' d.n) HN1.out HS1.out HT1.out (cellsR_one _ _) ?_)
          all_goals
            clear c0 c1
            go_wp2_with fail
            go_ret
            exact HF.out
end
end Go.Proofs.Ytmkhliabmodbdaa
