/-
  place: a buffer comes among those that may go, or leaves them.
-/
import Derived.Test.YtdnkeplmjimjcaaChSt
import Derived.Test.YtdnkeplmjimjcaaQuiet
import Derived.LaidEqlPtr
namespace Go.Proofs.Ytdnkeplmjimjcaa
open Go.RowKit

section
variable {w w' : World} {bc bm base b : Nat} {room : Int} {N T : Nat} {x : Sx} {a : Int} {X : Nat → Prop} {s : Bf}
theorem maygo_any (hB : BufO w b s a) :
    Calls Try.prog 48 #[.pointer (some ⟨b, 0, none⟩)] w fun e w' => e = .returned (.bool (goesB s)) ∧ w = w' := by
  obtain ⟨-, -, c2, c3, -, -⟩ := hB.cells
  clear hB
  unfold goesB
  generalize s.dirty = d at *
  generalize s.pins = p at *
  rcases d with _ | _
  · by_cases hp : p = 0
    · subst hp
      go_enter Try.func48, Try.ntmps48
      go_wp2_with fail
      go_ret
      exact ⟨rfl, rfl⟩
    · rw [decide_eq_false hp]
      have hp' : (p == 0) = false := by simpa using hp
      go_enter Try.func48, Try.ntmps48
      go_wp2_with fail
      go_ret
      exact ⟨rfl, rfl⟩
  · go_enter Try.func48, Try.ntmps48
    go_wp2_with fail
    go_ret
    exact ⟨rfl, rfl⟩
def PlO (w : World) (bc bm base : Nat) (room : Int) (N T : Nat) (x : Sx) (e : Ending) (w' : World) : Prop :=
  e = .returned (.tuple #[]) ∧ ∃ v' m' h', CS w' bc bm base room N T { x with v := v', m := m', h := h' } ∧ Out (XC w bc bm base) w w'
theorem LS.nb (hL : LS w bc bm base room N T x b a) {c : Nat} (hc : c ∈ x.bs) (hcb : c ≠ b) (hg : goesB (x.S c) = false) : ¬ XH bc b x.v x.m x.h c := by
  rintro (e | e | e | ⟨i, hi, e⟩)
  · exact (hL.off c hc hcb hg).apart hL.cb (by decide) e
  · exact hcb e
  · obtain ⟨cs, h1, -⟩ := hL.off c hc hcb hg
    exact blo_own hL.gs.row h1 (by decide) e
  · have := (hL.who i hi (by rw [e]; exact hcb)).2
    rw [e, hg] at this
    cases this
theorem LS.later (hL : LS w bc bm base room N T x b a) (hb : Below w.heap.size w w') : LS w' bc bm base room N T x b a :=
  ⟨hL.cb.later hb, hL.km.later hb, hL.gs.later hb, hL.buf.later hb, hL.cse, fun c h1 h2 h3 => (hL.off c h1 h2 h3).later hb, hL.on, hL.who, hL.ps, hL.hm, hL.low, hL.wfb, hL.fb, hL.blb⟩
theorem LS.xh (hL : LS w bc bm base room N T x b a) {g : Nat} (h : XH bc b x.v x.m x.h g) : XC w bc bm base g := by
  rcases h with e | e | e
  · rw [e]; exact ⟨hL.low.1, .inl rfl⟩
  · rw [e]; exact hL.buf.xc hL.blb
  · exact hL.gs.xc hL.hl e
theorem LS.kout (hL : LS w bc bm base room N T x b a) (ho : Out (XH bc b x.v x.m x.h) w w') : KM w' bm x.n x.f x.ks := by
  refine hL.km.out ho ?_
  rintro (e | e | e)
  · exact hL.km.blo hL.cb e
  · exact hL.km.buf hL.buf e
  · exact hL.km.xg hL.gs e
/-- It goes and was not among them. -/
theorem pl_push (hL : LS w bc bm base room N T x b a) (hg : goesB (x.S b) = true) (hb : b ∈ x.bs) (hfr : ∀ i, i < x.m → x.h i ≠ b) {gr cap : Nat} {h' : Nat → Nat} (hH : HS w' bc bm base gr cap room x.uses (x.m + 1) h' x.S) (hq : Hq (x.m + 1) (us x.S h')) (hp : PmG (x.m + 1) (upn x.h x.m b) h') (ho : Out (XH bc b x.v x.m x.h) w w') :
    PlO w bc bm base room N T x (.returned (.tuple #[])) w' := by
  refine ⟨rfl, _, _, h', ⟨hH.cb, hL.kout ho, hH.gs, hq, fun c hc hgc => ?_, fun c hc hgc => ?_, fun i hi => ?_, hL.ps, hL.low⟩, ho.mono fun g _ hx => hL.xh hx⟩
  · have hgc : goesB (x.S c) = false := hgc
    have hcb : c ≠ b := fun e => by rw [e, hg] at hgc; cases hgc
    exact (hL.off c hc hcb hgc).out ho (hL.nb hc hcb hgc)
  · by_cases hcb : c = b
    · obtain ⟨i, hi, e⟩ := hp.2 x.m (by omega)
      exact ⟨i, hi, (show h' i = c by rw [e, upn_at, hcb])⟩
    · obtain ⟨j, hj, e⟩ := hL.on c hc hcb hgc
      obtain ⟨i, hi, e2⟩ := hp.2 j (by omega)
      exact ⟨i, hi, (show h' i = c by rw [e2, upn_ne _ _ (by omega), e])⟩
  · obtain ⟨j, hj, e⟩ := hp.1 i hi
    show h' i ∈ x.bs ∧ goesB (x.S (h' i)) = true
    by_cases e2 : j = x.m
    · rw [e, e2, upn_at]
      exact ⟨hb, hg⟩
    · rw [e, upn_ne _ _ e2]
      exact hL.who j (by omega) (hfr j (by omega))
/-- It goes and is among them. -/
theorem pl_fix (hL : LS w bc bm base room N T x b a) (hg : goesB (x.S b) = true) (hb : b ∈ x.bs) {i gr cap : Nat} (hv : x.v = .slice (some ⟨gr, 0, none⟩) x.m cap) (hi : i < x.m) (hib : x.h i = b) (hU : UpO w bc bm base gr cap room x.uses x.m x.m x.h x.S w') :
    PlO w bc bm base room N T x (.returned (.tuple #[])) w' := by
  obtain ⟨h', hq, hD⟩ := hU
  have ho : Out (XH bc b x.v x.m x.h) w w' := hD.out.mono fun g _ hx => .inr (.inr (by rw [hv]; exact hx))
  refine ⟨rfl, _, x.m, h', ⟨hD.hs.cb, hL.kout ho, hD.hs.gs, hq, fun c hc hgc => ?_, fun c hc hgc => ?_, fun k hk => ?_, hL.ps, hL.low⟩, ho.mono fun g _ hx => hL.xh hx⟩
  · have hgc : goesB (x.S c) = false := hgc
    have hcb : c ≠ b := fun e => by rw [e, hg] at hgc; cases hgc
    exact (hL.off c hc hcb hgc).out ho (hL.nb hc hcb hgc)
  · by_cases hcb : c = b
    · obtain ⟨k, hk, e⟩ := hD.pm.2 i hi
      exact ⟨k, hk, (show h' k = c by rw [e, hib, hcb])⟩
    · obtain ⟨j, hj, e⟩ := hL.on c hc hcb hgc
      obtain ⟨k, hk, e2⟩ := hD.pm.2 j hj
      exact ⟨k, hk, (show h' k = c by rw [e2, e])⟩
  · obtain ⟨j, hj, e⟩ := hD.pm.1 k hk
    show h' k ∈ x.bs ∧ goesB (x.S (h' k)) = true
    rw [e]
    by_cases e2 : x.h j = b
    · rw [e2]; exact ⟨hb, hg⟩
    · exact hL.who j hj e2
/-- It stays and was among them. -/
theorem pl_rem (hL : LS w bc bm base room N T x b a) (hg : b ∈ x.bs → goesB (x.S b) = false) {i n gr cap : Nat} (hv : x.v = .slice (some ⟨gr, 0, none⟩) x.m cap) (hmn : n + 1 = x.m) (hi : i < x.m) (hib : x.h i = b) {e : Ending} (hR : RmO w bc bm base gr cap room x.uses x.m n i x.h x.S e w') :
    PlO w bc bm base room N T x (.returned (.tuple #[])) w' := by
  obtain ⟨-, h', hH, hq, hr, hB, ho⟩ := hR
  have ho : Out (XH bc b x.v x.m x.h) w w' := ho.mono fun g _ hx => by
    rcases hx with e | e
    · exact .inl e
    · exact .inr (.inr (by rw [hv]; exact e))
  refine ⟨rfl, _, n, h', ⟨hH.cb, hL.kout ho, hH.gs, hq, fun c hc hgc => ?_, fun c hc hgc => ?_, fun k hk => ?_, hL.ps, hL.low⟩, ho.mono fun g _ hx => hL.xh hx⟩
  · by_cases hcb : c = b
    · rw [hcb, ← hib]; exact hB
    · exact (hL.off c hc hcb hgc).out ho (hL.nb hc hcb hgc)
  · have hgc : goesB (x.S c) = true := hgc
    have hcb : c ≠ b := fun e => by
      rw [e] at hc hgc
      rw [hg hc] at hgc
      cases hgc
    obtain ⟨j, hj, e⟩ := hL.on c hc hcb hgc
    obtain ⟨k, hk, e2⟩ := hr.2 j hj (fun q => hcb (by rw [← e, q, hib]))
    exact ⟨k, hk, (show h' k = c by rw [e2, e])⟩
  · obtain ⟨j, hj, hji, e⟩ := hr.1 k hk
    show h' k ∈ x.bs ∧ goesB (x.S (h' k)) = true
    rw [e]
    exact hL.who j hj (fun q => hji (hL.gs.inj hj hi (q.trans hib.symm)))
/-- It stays and was not among them. -/
theorem pl_stay (hL : LS w bc bm base room N T x b a) (hg : b ∈ x.bs → goesB (x.S b) = false) (ha : a = -1) (hfr : ∀ i, i < x.m → x.h i ≠ b) (hq : Hq x.m (us x.S x.h)) (hw : Below w.heap.size w w') :
    PlO w bc bm base room N T x (.returned (.tuple #[])) w' := by
  have hL' := hL.later hw
  refine ⟨rfl, x.v, x.m, x.h, ⟨hL'.cb, hL'.km, hL'.gs, hq, fun c hc hgc => ?_, fun c hc hgc => ?_, fun k hk => hL'.who k hk (hfr k hk), hL.ps, hL.low⟩, Out.of_below hw⟩
  · by_cases hcb : c = b
    · have := hL'.buf
      rw [ha] at this
      rw [hcb]; exact this
    · exact hL'.off c hc hcb hgc
  · have hgc : goesB (x.S c) = true := hgc
    have hcb : c ≠ b := fun e => by
      rw [e] at hc hgc
      rw [hg hc] at hgc
      cases hgc
    exact hL.on c hc hcb hgc
theorem PlO.before {w1 : World} {e : Ending} (h : PlO w1 bc bm base room N T x e w') (hb : Below w.heap.size w w1) : PlO w bc bm base room N T x e w' := by
  obtain ⟨h1, v', m', h', h2, h3⟩ := h
  exact ⟨h1, v', m', h', h2, outC_trans (Out.of_below hb) h3⟩
theorem LS.mlt (hL : LS w bc bm base room N T x b a) (hb : b ∈ x.bs) (hfr : ∀ i, i < x.m → x.h i ≠ b) : x.m < 4096 := by
  have h1 := pigeon x.m x.h (x.bs.erase b) (fun i j p q e => hL.gs.inj p q e) (fun i hi => (List.mem_erase_of_ne (hfr i hi)).2 (hL.who i hi (hfr i hi)).1)
  have h2 := List.length_erase_of_mem hb
  have h3 := List.length_pos_of_mem hb
  have := hL.ps.rm
  omega
theorem LS.xv (hL : LS w bc bm base room N T x b a) (h0 : 0 < x.m) : ∃ gr cap, x.v = .slice (some ⟨gr, 0, none⟩) x.m cap := hL.gs.form h0
theorem eq_same (w : World) (p : Addr) : (binOp .eql PB (.pointer (some p)) (.pointer (some p))).run Try.prog w = .ok (.bool true) w := by
  obtain ⟨j, hj⟩ := Option.isSome_iff_exists.1 (show (Try.prog.info? BT).isSome = true by kernel_rfl)
  exact run_eql_ptr_same w p Try.underlying80 hj
theorem eq_none (w : World) (p : Addr) : (binOp .eql PB (.pointer none) (.pointer (some p))).run Try.prog w = .ok (.bool false) w := by
  have h : ∀ d : Nat, (Op.equalIn (d + 1) PB (.pointer none) (.pointer (some p))).run Try.prog w = .ok false w := fun d => by
    simp [Op.equalIn, run_underlying Try.underlying80]
  simp only [binOp]
  simp [Op.equal, Op.maxDepth, h 9999]
set_option maxRecDepth 100000 in
set_option maxHeartbeats 8000000 in
theorem place_any (hL : LS w bc bm base room N T x b a) (hbase : base ≤ w.heap.size) :
    Calls Try.prog 36 #[.pointer (some ⟨bc, 0, none⟩), .pointer (some ⟨b, 0, none⟩)] w (PlO w bc bm base room N T x) := by
  have HL := Lib.hid hL
  obtain ⟨b1, b2, -, -, -, b6⟩ := hL.buf.cells
  obtain ⟨-, d1, -, -⟩ := hL.cb.cell
  have c0 : ∀ y : Kept w, y.at_.cell? ⟨bc, 1, none⟩ = some (.map (some bm)) := fun y => cell_later y.below d1
  have c1 : ∀ y : Kept w, y.at_.cell? ⟨b, 0, none⟩ = some (.int .i64 (x.S b).ino) := fun y => cell_later y.below b1
  have c2 : ∀ y : Kept w, y.at_.cell? ⟨b, 1, none⟩ = some (.int .i64 (x.S b).lbn) := fun y => cell_later y.below b2
  have c6 : ∀ y : Kept w, y.at_.cell? ⟨b, 69, none⟩ = some (.int .i64 a) := fun y => cell_later y.below b6
  have HM : Hid (∀ y : Kept w, Calls Try.prog 48 #[.pointer (some ⟨b, 0, none⟩)] y.at_ fun e w' => e = .returned (.bool (goesB (x.S b))) ∧ y.at_ = w') := fun y => maygo_any (hL.buf.later y.below)
  have HLk : Hid (∀ y : Kept w, (Instr.lookup KMT (.map (some bm)) (keyV (keyB (x.S b))) false).run Try.prog y.at_ = .ok (ptrV (x.f (keyB (x.S b)))) y.at_) := fun y => (hL.km.later y.below).look hL.wfb
  have HQ1 := Lib.hid (fun y : Kept w => eq_same y.at_ ⟨b, 0, none⟩)
  have HQ2 := Lib.hid (fun y : Kept w => eq_none y.at_ ⟨b, 0, none⟩)
  have HG : Hid ((goesB (x.S b) = true ∧ b ∈ x.bs ∧ x.f (keyB (x.S b)) = some b) ∨ ((goesB (x.S b) = false ∨ (goesB (x.S b) = true ∧ x.f (keyB (x.S b)) = none)) ∧ (b ∈ x.bs → goesB (x.S b) = false))) := by
    rcases hL.fb with ⟨hin, hf⟩ | ⟨hin, hf⟩
    · by_cases hg : goesB (x.S b) = true
      · exact .inl ⟨hg, hin, hf⟩
      · exact .inr ⟨.inl (by simpa using hg), fun _ => by simpa using hg⟩
    · refine .inr ⟨?_, fun q => absurd q hin⟩
      by_cases hg : goesB (x.S b) = true
      · exact .inr ⟨hg, hf⟩
      · exact .inl (by simpa using hg)
  have HB := Lib.hid hbase
  have HCs : Hid ((∃ i : Nat, i < x.m ∧ x.h i = b ∧ a = ((i : Nat) : Int) ∧ Hx x.m (us x.S x.h) i ∧ (i : Int) ≤ 4096 ∧ ¬ (i : Int) < 0 ∧ (0 : Int) ≤ (i : Int)) ∨ (a = -1 ∧ (∀ i, i < x.m → x.h i ≠ b) ∧ Hq x.m (us x.S x.h))) := by
    rcases hL.cse with ⟨i, h1, h2, h3, h4⟩ | h
    · have := hL.hm
      exact .inl ⟨i, h1, h2, h3, h4, by omega, by omega, by omega⟩
    · exact .inr h
  clear hL hbase b1 b2 b6 d1
  rcases HG.out with ⟨hg, hin, hf⟩ | ⟨hg, hni⟩
  · have k1 : ∀ y : Kept w, (Instr.lookup KMT (.map (some bm)) (.agg #[.int .i64 (x.S b).ino, .int .i64 (x.S b).lbn]) false).run Try.prog y.at_ = .ok (.pointer (some ⟨b, 0, none⟩)) y.at_ := by
      have := HLk.out
      rw [hf] at this
      exact this
    have hq1 := HQ1.out
    rw [hg] at HM
    have HI := Lib.hid hin
    have HGo := Lib.hid hg
    clear hf hg hin HLk HG
    generalize (x.S b).ino = ki at *
    generalize (x.S b).lbn = kl at *
    rcases HCs.out with ⟨i, hi, hib, rfl, hx, i1, i2, i3⟩ | ⟨rfl, hfr, hq⟩
    · have HE := Lib.hid (And.intro hi (And.intro hib hx))
      clear hi hib hx HCs
      go_enter Try.func36, Try.ntmps36
      go_upto_region 0 with (fail)
      refine wp_region_kept (by kernel_rfl) (by kernel_rfl) ?_
      repeat (go_big_quiet_step ((go_at_call 48; exact kept_call_same _ (HM.out _))))
      refine wpQuiet_nil ?_
      rintro W1 ⟨w1, rfl⟩
      clear k1 hq1 HM c0 c1 c2
      have c6 := c6 w1
      have HL1 := Lib.hid (HL.out.later w1.below.drew)
      obtain ⟨gr, cap, hv⟩ := HL.out.xv (by have := HE.out.1; omega)
      have HFx : Hid (Calls Try.prog 50 #[.iface 92 (.pointer (some ⟨bc, 2, none⟩)), .int .i64 i] w1.at_.drew fun e w' => e = .returned (.tuple #[]) ∧ UpO w1.at_.drew bc bm base gr cap room x.uses x.m x.m x.h x.S w') :=
        hfix_any ⟨by have := HL1.out.cb; rw [hv] at this; exact this, by have := HL1.out.gs; rw [hv] at this; exact this⟩ HE.out.1 HL1.out.hm HE.out.2.2
      have HV := Lib.hid hv
      have HBw := Lib.hid w1.below
      clear hv
      go_upto_region 4 with (fail)
      go_region_with ((go_at_call 50; (with_reducible refine HFx.out.mono ?_); rintro e W' ⟨rfl, hU⟩; have HP := Lib.hid ((pl_fix HL1.out HGo.out HI.out HV.out HE.out.1 HE.out.2.1 hU).before HBw.out.drew); clear hU))
      all_goals
        clear HFx c6
        go_wp2_with fail
        go_end0
        exact HP.out
    · have HE := Lib.hid (And.intro hfr hq)
      clear hfr hq HCs
      go_enter Try.func36, Try.ntmps36
      go_upto_region 0 with (fail)
      refine wp_region_kept (by kernel_rfl) (by kernel_rfl) ?_
      repeat (go_big_quiet_step ((go_at_call 48; exact kept_call_same _ (HM.out _))))
      refine wpQuiet_nil ?_
      rintro W1 ⟨w1, rfl⟩
      clear k1 hq1 HM c0 c1 c2
      have c6 := c6 w1
      have HL1 := Lib.hid (HL.out.later w1.below)
      have HBw := Lib.hid w1.below
      have HPu := Lib.hid (hpush_any HL1.out.cb HL1.out.gs HE.out.2 HL1.out.buf HE.out.1 (HL1.out.mlt HI.out HE.out.1) (Nat.le_trans HB.out w1.below.size) HL1.out.low.1)
      go_wp2_with fail
      refine HPu.out.mono ?_
      rintro e w2 ⟨rfl, gr, cap, h', hH, hq, hp, ho, -⟩
      have HP := Lib.hid ((pl_push HL1.out HGo.out HI.out HE.out.1 hH hq hp ho).before HBw.out)
      clear hH hq hp ho HPu c6
      go_wp2_with fail
      go_end0
      exact HP.out
  · have HNi := Lib.hid hni
    have HGo := Lib.hid hg
    clear hg hni HG
    -- what the first region answers is 'no', by one way or the other
    have HW : Hid (∀ (Q : World → Prop), (∀ y : Kept w, Q y.at_) → ∀ y : Kept w, Q y.at_) := fun _ h => h
    clear HW
    rcases HCs.out with ⟨i, hi, hib, rfl, hx, i1, i2, i3⟩ | ⟨rfl, hfr, hq⟩
    · have HE := Lib.hid (And.intro hi (And.intro hib hx))
      clear hi hib hx HCs
      rcases HGo.out with hg | ⟨hg, hf⟩
      · rw [hg] at HM
        clear HLk HQ1 HQ2 HGo hg
        go_enter Try.func36, Try.ntmps36
        go_upto_region 0 with (fail)
        refine wp_region_kept (by kernel_rfl) (by kernel_rfl) ?_
        repeat (go_big_quiet_step ((go_at_call 48; exact kept_call_same _ (HM.out _))))
        refine wpQuiet_nil ?_
        rintro W1 ⟨w1, rfl⟩
        clear HM c0 c1 c2
        have c6 := c6 w1
        have HL1 := Lib.hid (HL.out.later w1.below.drew)
        obtain ⟨gr, cap, hv⟩ := HL.out.xv (by have := HE.out.1; omega)
        obtain ⟨n, hmn⟩ : ∃ n, n + 1 = x.m := ⟨x.m - 1, by have := HE.out.1; omega⟩
        have HFx : Hid (Calls Try.prog 51 #[.iface 92 (.pointer (some ⟨bc, 2, none⟩)), .int .i64 i] w1.at_.drew (RmO w1.at_.drew bc bm base gr cap room x.uses x.m n i x.h x.S)) :=
          hrem_any ⟨by have := HL1.out.cb; rw [hv] at this; exact this, by have := HL1.out.gs; rw [hv] at this; exact this⟩ HE.out.2.2 HE.out.1 hmn HL1.out.hm
        have HV := Lib.hid hv
        have HMn := Lib.hid hmn
        have HBw := Lib.hid w1.below
        clear hv hmn
        go_upto_region 6 with (fail)
        go_region_with ((go_at_call 51; (with_reducible refine HFx.out.mono ?_); intro e W' hU; have HR := Lib.hid hU; obtain ⟨rfl, -⟩ := hU; have HP := Lib.hid ((pl_rem HL1.out HNi.out HV.out HMn.out HE.out.1 HE.out.2.1 HR.out).before HBw.out.drew); clear HR))
        all_goals
          clear HFx c6
          go_wp2_with fail
          go_end0
          exact HP.out
      · rw [hg] at HM
        have k1 : ∀ y : Kept w, (Instr.lookup KMT (.map (some bm)) (.agg #[.int .i64 (x.S b).ino, .int .i64 (x.S b).lbn]) false).run Try.prog y.at_ = .ok (.pointer none) y.at_ := by
          have := HLk.out
          rw [hf] at this
          exact this
        have hq2 := HQ2.out
        clear HLk HQ1 HQ2 HGo hg hf
        generalize (x.S b).ino = ki at *
        generalize (x.S b).lbn = kl at *
        go_enter Try.func36, Try.ntmps36
        go_upto_region 0 with (fail)
        refine wp_region_kept (by kernel_rfl) (by kernel_rfl) ?_
        repeat (go_big_quiet_step ((go_at_call 48; exact kept_call_same _ (HM.out _))))
        refine wpQuiet_nil ?_
        rintro W1 ⟨w1, rfl⟩
        clear HM c0 c1 c2 k1 hq2
        have c6 := c6 w1
        have HL1 := Lib.hid (HL.out.later w1.below.drew)
        obtain ⟨gr, cap, hv⟩ := HL.out.xv (by have := HE.out.1; omega)
        obtain ⟨n, hmn⟩ : ∃ n, n + 1 = x.m := ⟨x.m - 1, by have := HE.out.1; omega⟩
        have HFx : Hid (Calls Try.prog 51 #[.iface 92 (.pointer (some ⟨bc, 2, none⟩)), .int .i64 i] w1.at_.drew (RmO w1.at_.drew bc bm base gr cap room x.uses x.m n i x.h x.S)) :=
          hrem_any ⟨by have := HL1.out.cb; rw [hv] at this; exact this, by have := HL1.out.gs; rw [hv] at this; exact this⟩ HE.out.2.2 HE.out.1 hmn HL1.out.hm
        have HV := Lib.hid hv
        have HMn := Lib.hid hmn
        have HBw := Lib.hid w1.below
        clear hv hmn
        go_upto_region 6 with (fail)
        go_region_with ((go_at_call 51; (with_reducible refine HFx.out.mono ?_); intro e W' hU; have HR := Lib.hid hU; obtain ⟨rfl, -⟩ := hU; have HP := Lib.hid ((pl_rem HL1.out HNi.out HV.out HMn.out HE.out.1 HE.out.2.1 HR.out).before HBw.out.drew); clear HR))
        all_goals
          clear HFx c6
          go_wp2_with fail
          go_end0
          exact HP.out
    · have HE := Lib.hid (And.intro hfr hq)
      clear hfr hq HCs
      rcases HGo.out with hg | ⟨hg, hf⟩
      · rw [hg] at HM
        clear HLk HQ1 HQ2 HGo hg
        go_enter Try.func36, Try.ntmps36
        go_upto_region 0 with (fail)
        refine wp_region_kept (by kernel_rfl) (by kernel_rfl) ?_
        repeat (go_big_quiet_step ((go_at_call 48; exact kept_call_same _ (HM.out _))))
        refine wpQuiet_nil ?_
        rintro W1 ⟨w1, rfl⟩
        clear HM c0 c1 c2
        have c6 := c6 w1
        have HP := Lib.hid (pl_stay HL.out HNi.out rfl HE.out.1 HE.out.2 w1.below)
        go_wp2_with fail
        go_end0
        exact HP.out
      · rw [hg] at HM
        have k1 : ∀ y : Kept w, (Instr.lookup KMT (.map (some bm)) (.agg #[.int .i64 (x.S b).ino, .int .i64 (x.S b).lbn]) false).run Try.prog y.at_ = .ok (.pointer none) y.at_ := by
          have := HLk.out
          rw [hf] at this
          exact this
        have hq2 := HQ2.out
        clear HLk HQ1 HQ2 HGo hg hf
        generalize (x.S b).ino = ki at *
        generalize (x.S b).lbn = kl at *
        go_enter Try.func36, Try.ntmps36
        go_upto_region 0 with (fail)
        refine wp_region_kept (by kernel_rfl) (by kernel_rfl) ?_
        repeat (go_big_quiet_step ((go_at_call 48; exact kept_call_same _ (HM.out _))))
        refine wpQuiet_nil ?_
        rintro W1 ⟨w1, rfl⟩
        clear HM c0 c1 c2 k1 hq2
        have c6 := c6 w1
        have HP := Lib.hid (pl_stay HL.out HNi.out rfl HE.out.1 HE.out.2 w1.below)
        go_wp2_with fail
        go_end0
        exact HP.out
end
end Go.Proofs.Ytdnkeplmjimjcaa
