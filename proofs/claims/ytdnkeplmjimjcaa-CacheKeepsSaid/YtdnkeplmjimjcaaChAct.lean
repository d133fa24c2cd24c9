/-
  What is done with one buffer: use, pin, unpin, wash, drop.
-/
import Derived.Test.YtdnkeplmjimjcaaChNum
namespace Go.Proofs.Ytdnkeplmjimjcaa
open Go.RowKit

/-- The cache in memory, as the list of its blocks. -/
def CA (w : World) (bc bm base : Nat) (room : Int) (N T : Nat) (L : List Bk) : Prop := ∃ x, CS w bc bm base room N T x ∧ L = lstK x.S x.bs
/-- What an act on a buffer leaves. -/
def AcO (w : World) (bc bm base : Nat) (room : Int) (N T : Nat) (b : Nat) (code : Int) (L : List Bk) (e : Ending) (w' : World) : Prop :=
  e = .returned (.int .i64 code) ∧ ∃ a x, LS w' bc bm base room N T x b a ∧ L = lstK x.S x.bs ∧ Out (XC w bc bm base) w w'
section
variable {w w' : World} {bc bm base b : Nat} {room uses : Int} {N T : Nat} {x : Sx} {a : Int} {s : Bf} {v : Value} {p : Int × Int}
theorem xc_b {s : Bf} (hB : BufO w b s a) (h0 : base ≤ bc) (h1 : base ≤ b) {g : Nat} (h : g = bc ∨ g = b) : XC w bc bm base g := by
  rcases h with e | e
  · rw [e]; exact ⟨h0, .inl rfl⟩
  · rw [e]; exact hB.xc h1
set_option maxHeartbeats 4000000 in
theorem use_any (hC : CB w bc bm room uses v) (hB : BufO w b s a) (u0 : 0 ≤ uses) (u1 : uses ≤ 4000000000000000000) :
    Calls Try.prog 35 #[.pointer (some ⟨bc, 0, none⟩), .pointer (some ⟨b, 0, none⟩)] w fun e w' => e = .returned (.tuple #[]) ∧ CB w' bc bm room (uses + 1) v ∧ BufO w' b { s with used := uses + 1 } a ∧ Out (fun g => g = bc ∨ g = b) w w' := by
  have hne : b ≠ bc := hB.apart hC (by decide)
  have hne2 : bc ≠ b := fun e => hne e.symm
  have HE : Hid (CB ((w.setCell ⟨bc, 3, none⟩ (.int .i64 (uses + 1))).setCell ⟨b, 68, none⟩ (.int .i64 (uses + 1))) bc bm room (uses + 1) v ∧ BufO ((w.setCell ⟨bc, 3, none⟩ (.int .i64 (uses + 1))).setCell ⟨b, 68, none⟩ (.int .i64 (uses + 1))) b { s with used := uses + 1 } a ∧ Out (fun g => g = bc ∨ g = b) w ((w.setCell ⟨bc, 3, none⟩ (.int .i64 (uses + 1))).setCell ⟨b, 68, none⟩ (.int .i64 (uses + 1)))) :=
    ⟨Blo.far (Blo.put hC 3 _) (p := ⟨b, 68, none⟩) hne2 _, (hB.far (p := ⟨bc, 3, none⟩) hne _).put_used _, ((Out.refl _ w).put (p := ⟨bc, 3, none⟩) (.inl rfl) _).put (p := ⟨b, 68, none⟩) (.inr rfl) _⟩
  obtain ⟨-, -, -, c3⟩ := hC.cell
  have f3 := Blo.frozen hC 3
  have f4 := hB.frozen 68
  obtain ⟨-, -, -, -, b4, -⟩ := hB.cells
  clear hC hB
  go_enter Try.func35, Try.ntmps35
  go_wp2_with fail
  go_end0
  exact ⟨rfl, HE.out⟩
set_option maxHeartbeats 4000000 in
theorem wash_any (hC : CS w bc bm base room N T x) (hb : b ∈ x.bs) :
    Calls Try.prog 42 #[.pointer (some ⟨b, 0, none⟩)] w (AcO w bc bm base room N T b 0 (setK (lstK x.S x.bs) (keyB (x.S b)) fun s => { s with dirty := false })) := by
  obtain ⟨a, hB, hL⟩ := hC.loose hb
  have HE : Hid (AcO w bc bm base room N T b 0 (setK (lstK x.S x.bs) (keyB (x.S b)) fun s => { s with dirty := false }) (.returned (.int .i64 0)) (w.setCell ⟨b, 66, none⟩ (.bool false))) :=
    ⟨rfl, a, _, hL _ { x.S b with dirty := false } x.uses x.bs T (hB.put_dirty false) (Blo.far hC.cb (p := ⟨b, 66, none⟩) (fun e => hB.apart hC.cb (by decide) e.symm) _) ((Out.refl _ w).put (p := ⟨b, 66, none⟩) (.inr rfl) _) (hC.ps.chg hb rfl rfl (hC.ps.pins b hb) (Nat.le_refl _)) (fun _ => Iff.rfl),
      (lst_set hC.ps hb _ _ rfl).symm, (Out.refl _ w).put (p := ⟨b, 66, none⟩) (hB.xc (hC.low.2.2 b hb)) _⟩
  obtain ⟨-, -, b2, -, -, -⟩ := hB.cells
  have f2 := hB.frozen 66
  clear hC hb hB hL
  go_enter Try.func42, Try.ntmps42
  go_wp2_with fail
  go_ret
  exact HE.out
set_option maxHeartbeats 4000000 in
theorem pin_any (hC : CS w bc bm base room N T x) (hb : b ∈ x.bs) (hT : T ≤ 4000000000000000000) :
    Calls Try.prog 40 #[.pointer (some ⟨b, 0, none⟩)] w (AcO w bc bm base room N (T + 1) b 0 (setK (lstK x.S x.bs) (keyB (x.S b)) fun s => { s with pins := s.pins + 1 })) := by
  obtain ⟨a, hB, hL⟩ := hC.loose hb
  have hp := hC.ps.pins b hb
  have HE : Hid (AcO w bc bm base room N (T + 1) b 0 (setK (lstK x.S x.bs) (keyB (x.S b)) fun s => { s with pins := s.pins + 1 }) (.returned (.int .i64 0)) (w.setCell ⟨b, 67, none⟩ (.int .i64 ((x.S b).pins + 1)))) :=
    ⟨rfl, a, _, hL _ { x.S b with pins := (x.S b).pins + 1 } x.uses x.bs (T + 1) (hB.put_pins _) (Blo.far hC.cb (p := ⟨b, 67, none⟩) (fun e => hB.apart hC.cb (by decide) e.symm) _) ((Out.refl _ w).put (p := ⟨b, 67, none⟩) (.inr rfl) _) (hC.ps.chg hb rfl rfl (by show 0 ≤ (x.S b).pins + 1 ∧ (x.S b).pins + 1 ≤ _; omega) (by omega)) (fun _ => Iff.rfl),
      (lst_set hC.ps hb _ _ rfl).symm, (Out.refl _ w).put (p := ⟨b, 67, none⟩) (hB.xc (hC.low.2.2 b hb)) _⟩
  obtain ⟨-, -, -, b2, -, -⟩ := hB.cells
  have f2 := hB.frozen 67
  generalize (x.S b).pins = q at *
  have q0 := hp.1
  have q1 : q ≤ 4000000000000000000 := by omega
  clear hC hb hB hL hp
  go_enter Try.func40, Try.ntmps40
  go_wp2_with fail
  go_ret
  exact HE.out
theorem CS.self (hC : CS w bc bm base room N T x) (hb : b ∈ x.bs) : ∃ a, LS w bc bm base room N T x b a := by
  obtain ⟨a, hB, hL⟩ := hC.loose hb
  have e : upn x.S b (x.S b) = x.S := by
    funext c
    by_cases e : c = b
    · rw [e, upn_at]
    · rw [upn_ne _ _ e]
  have := hL w (x.S b) x.uses x.bs T hB hC.cb (Out.refl _ _) (by rw [e]; exact hC.ps) (fun _ => Iff.rfl)
  rw [e] at this
  exact ⟨a, this⟩
set_option maxHeartbeats 4000000 in
theorem unpin_any (hC : CS w bc bm base room N T x) (hb : b ∈ x.bs) (hT : T ≤ 4000000000000000000) :
    Calls Try.prog 41 #[.pointer (some ⟨b, 0, none⟩)] w (AcO w bc bm base room N T b (if (x.S b).pins = 0 then 22 else 0) (if (x.S b).pins = 0 then lstK x.S x.bs else setK (lstK x.S x.bs) (keyB (x.S b)) fun s => { s with pins := s.pins - 1 })) := by
  by_cases hp0 : (x.S b).pins = 0
  · rw [if_pos hp0, if_pos hp0]
    obtain ⟨a, hL⟩ := hC.self hb
    obtain ⟨-, -, -, b2, -, -⟩ := hL.buf.cells
    have HE : Hid (AcO w bc bm base room N T b 22 (lstK x.S x.bs) (.returned (.int .i64 22)) w) := ⟨rfl, a, x, hL, rfl, Out.refl _ _⟩
    rw [hp0] at b2
    clear hC hb hL hp0
    go_enter Try.func41, Try.ntmps41
    go_wp2_with fail
    go_ret
    exact HE.out
  · rw [if_neg hp0, if_neg hp0]
    obtain ⟨a, hB, hL⟩ := hC.loose hb
    have hp := hC.ps.pins b hb
    have HE : Hid (AcO w bc bm base room N T b 0 (setK (lstK x.S x.bs) (keyB (x.S b)) fun s => { s with pins := s.pins - 1 }) (.returned (.int .i64 0)) (w.setCell ⟨b, 67, none⟩ (.int .i64 ((x.S b).pins - 1)))) :=
      ⟨rfl, a, _, hL _ { x.S b with pins := (x.S b).pins - 1 } x.uses x.bs T (hB.put_pins _) (Blo.far hC.cb (p := ⟨b, 67, none⟩) (fun e => hB.apart hC.cb (by decide) e.symm) _) ((Out.refl _ w).put (p := ⟨b, 67, none⟩) (.inr rfl) _) (hC.ps.chg hb rfl rfl (by show 0 ≤ (x.S b).pins - 1 ∧ (x.S b).pins - 1 ≤ _; omega) (Nat.le_refl _)) (fun _ => Iff.rfl),
        (lst_set hC.ps hb _ _ rfl).symm, (Out.refl _ w).put (p := ⟨b, 67, none⟩) (hB.xc (hC.low.2.2 b hb)) _⟩
    obtain ⟨-, -, -, b2, -, -⟩ := hB.cells
    have f2 := hB.frozen 67
    generalize (x.S b).pins = q at *
    have q0 := hp.1
    have q1 : q ≤ 4000000000000000000 := by omega
    have q2 : (q == 0) = false := by simpa using hp0
    clear hC hb hB hL hp hp0
    go_enter Try.func41, Try.ntmps41
    go_wp2_with fail
    go_ret
    exact HE.out
/-- A buffer leaves the map. -/
theorem CS.dropped (hC : CS w bc bm base room N T x) (hb : b ∈ x.bs) (hK : KM w' bm x.n (updP x.f (keyB (x.S b)) none) (x.ks.erase (keyB (x.S b)))) (hg : w.grownBy w' (some bm)) :
    ∃ a, LS w' bc bm base room N T { x with bs := x.bs.erase b, ks := x.ks.erase (keyB (x.S b)), f := updP x.f (keyB (x.S b)) none } b a := by
  obtain ⟨a, hL⟩ := hC.self hb
  have ho : Out (fun g => g = bm) w w' := Out.of_grown hg (fun g e => by cases e; rfl)
  have hnx : ∀ g, XG x.v x.m x.h g → ¬ g = bm := fun g hx e => by rw [e] at hx; exact hL.km.xg hL.gs hx
  have hN := hC.ps.nodup
  obtain ⟨D, h1, -, -, hks, -⟩ := hC.km
  refine ⟨a, Out.blo ho hL.cb (fun e => hL.km.blo hL.cb e.symm), hK, hL.gs.out ho hnx, hL.buf.out ho (fun e => hL.km.buf hL.buf e.symm), hL.cse, fun c hc h2 h3 => ?_, fun c hc h2 h3 => ?_, fun i hi e => ?_, ?_, hL.hm, ⟨hL.low.1, hL.low.2.1, fun c hc => hL.low.2.2 c (hN.mem_erase_iff.1 hc).2⟩, hL.wfb, ?_, hL.blb⟩
  · have := hL.off c (hN.mem_erase_iff.1 hc).2 h2 h3
    exact this.out ho (fun e => hL.km.buf this e.symm)
  · exact hL.on c (hN.mem_erase_iff.1 hc).2 h2 h3
  · obtain ⟨q1, q2⟩ := hL.who i hi e
    exact ⟨hN.mem_erase_iff.2 ⟨e, q1⟩, q2⟩
  · exact hC.ps.drop hb ((hks _).2 (by rw [(hC.ps.key _ b).2 ⟨hb, rfl⟩]; rfl))
  · exact .inr ⟨fun q => (hN.mem_erase_iff.1 q).1 rfl, updP_at _ _ _⟩
theorem kin (hC : CS w bc bm base room N T x) (hb : b ∈ x.bs) : keyB (x.S b) ∈ x.ks := by
  obtain ⟨D, h1, -, -, hks, -⟩ := hC.km
  exact (hks _).2 (by rw [(hC.ps.key _ b).2 ⟨hb, rfl⟩]; rfl)
set_option maxHeartbeats 4000000 in
theorem drop_any (hC : CS w bc bm base room N T x) (hb : b ∈ x.bs) :
    Calls Try.prog 43 #[.pointer (some ⟨bc, 0, none⟩), .pointer (some ⟨b, 0, none⟩)] w (AcO w bc bm base room N T b (if 0 < (x.S b).pins then 16 else 0) (if 0 < (x.S b).pins then lstK x.S x.bs else woK (lstK x.S x.bs) (keyB (x.S b)))) := by
  by_cases hp0 : 0 < (x.S b).pins
  · rw [if_pos hp0, if_pos hp0]
    obtain ⟨a, hL⟩ := hC.self hb
    obtain ⟨-, -, -, b2, -, -⟩ := hL.buf.cells
    have HE : Hid (AcO w bc bm base room N T b 16 (lstK x.S x.bs) (.returned (.int .i64 16)) w) := ⟨rfl, a, x, hL, rfl, Out.refl _ _⟩
    generalize (x.S b).pins = q at *
    clear hC hb hL
    go_enter Try.func43, Try.ntmps43
    go_wp2_with fail
    go_ret
    exact HE.out
  · rw [if_neg hp0, if_neg hp0]
    obtain ⟨a, hB⟩ := hC.buf hb
    have hCd := hC.later (show Below w.heap.size w w.drew from (Below.refl _ _).drew)
    obtain ⟨w', hrun, hK, hg⟩ := hCd.km.del (hC.ps.wf b hb) (kin hC hb) 0
    obtain ⟨a', hL'⟩ := hCd.dropped hb hK hg
    have HE : Hid (AcO w bc bm base room N T b 0 (woK (lstK x.S x.bs) (keyB (x.S b))) (.returned (.int .i64 0)) w') := by
      refine ⟨rfl, a', _, hL', (lst_erase hC.ps hb).symm, ?_⟩
      exact outC_trans (Out.of_below (Below.refl _ _).drew) (Out.of_grown hg (fun g e => by cases e; exact ⟨hC.low.2.1, .inr (.inl rfl)⟩))
    have k1 : (Builtin.delete_ #[KMT, KT] 0 #[.map (some bm), .agg #[.int .i64 (x.S b).ino, .int .i64 (x.S b).lbn]]).run Try.prog w.drew = .ok (.tuple #[]) w' := hrun
    obtain ⟨b0, b1, -, b2, -, -⟩ := hB.cells
    obtain ⟨-, c1, -, -⟩ := hC.cb.cell
    have c1' := cell_later (show Below w.heap.size w w.drew from (Below.refl _ _).drew) c1
    have b0' := cell_later (show Below w.heap.size w w.drew from (Below.refl _ _).drew) b0
    have b1' := cell_later (show Below w.heap.size w w.drew from (Below.refl _ _).drew) b1
    have q1 : (x.S b).pins ≤ 0 := by omega
    generalize (x.S b).pins = q at *
    generalize (x.S b).ino = ki at *
    generalize (x.S b).lbn = kl at *
    clear hC hb hB hCd hrun hK hg hL'
    go_enter Try.func43, Try.ntmps43
    go_wp2_with fail
    go_region
    go_wp2_with fail
    go_ret
    exact HE.out
end
end Go.Proofs.Ytdnkeplmjimjcaa
