/-
  PackAll.
-/
import Derived.Test.YtonlhkhjdnaojaaPcAllM
import Derived.Test.YtonlhkhjdnaojaaOpenPair
namespace Go.Proofs.Ytonlhkhjdnaojaa
open Go.RowKit

/-- What is known of the pieces. -/
structure PlK (fs : List Fi) (is : List Int) (left size : Int) (s : Pl) : Prop where
  cat : catI s.N s.it = items fs is
  n64 : s.N ≤ 64
  lb : ∀ i, i < s.N → BsLb (bs (s.it i))
  lf : LfOk size left s
  few : ∀ i, i < s.N → (s.it i).length ≤ 62
  le : ∀ i, i < s.N → lftP size left s.nw s.it i ≤ 64
theorem plK {fs : List Fi} {is : List Int} {left size : Int} (h : ¬ badP left size) {s : Pl} (hr : runP size (p0 left) (items fs is) = some s) : PlK fs is left size s := by
  have hlf := run_lf h hr
  have hO := runP_ok _ (p0_ok left size h) hr
  have h2 := hO.sz2
  have hE : ∀ i, i ≤ s.N → lftE size left s.nw s.it i ≤ size := fun i hi => by
    induction i with
    | zero => have := (p0_ok left size h).lf2; exact this
    | succ i ih =>
      have := ih (by omega)
      rw [lftE]
      split <;> omega
  have hP : ∀ i, i < s.N → lftP size left s.nw s.it i ≤ 64 := fun i hi => by
    have := hE i (by omega)
    unfold lftP
    split <;> omega
  refine ⟨by have := runP_cat _ hr; simpa [catI, p0] using this, hO.n, run_lb h hr, hlf, fun i hi => ?_, hP⟩
  have h1 := (hlf.fit i hi).2
  have := hP i hi
  omega
theorem catI_len (it : Nat → List It) (n : Nat) : ∀ i, (∀ j, j < i → (it j).length ≤ n) → (catI i it).length ≤ n * i
  | 0, _ => Nat.le_refl _
  | i + 1, h => by
    have h1 := catI_len it n i (fun j hj => h j (by omega))
    have h2 := h i (Nat.lt_succ_self i)
    rw [catI_succ, List.length_append, Nat.mul_succ]
    omega
theorem PlK.lens {fs : List Fi} {is : List Int} {left size : Int} {s : Pl} (h : PlK fs is left size s) {k : Nat} (hk : k ≤ s.N) : (fileI k s.it).length ≤ 4000 ∧ (nodeI k s.it).length ≤ 4000 := by
  have h1 := catI_len s.it 62 k (fun j hj => h.few j (by omega))
  have h2 := h.n64
  have h3 : 62 * k ≤ 62 * 64 := Nat.mul_le_mul_left _ (by omega)
  have h4 := List.length_filter_le (fun x => !nodeB x) (catI k s.it)
  have h5 := List.length_filter_le nodeB (catI k s.it)
  unfold fileI nodeI
  rw [List.length_map]
  omega
theorem PlK.piece {fs : List Fi} {is : List Int} {left size : Int} {s : Pl} (h : PlK fs is left size s) {k : Nat} (hk : k < s.N) : ((bs (s.it k)).z.li 0).length + (partZ (bs (s.it k)).z (bs (s.it k)).z.nf).length = (s.it k).length ∧ (bs (s.it k)).z.nf ≤ 62 ∧ ((bs (s.it k)).z.li 0).length ≤ 62 ∧ (s.it k).length ≤ 62 := by
  have h1 := len_n (s.it k)
  have h2 := h.few k hk
  have h3 := (bs_ok (s.it k)).nf
  rw [bs_n] at h3
  omega
theorem partZ_le (z : Pz) {q n : Nat} (h : q ≤ n) : (partZ z q).length ≤ (partZ z n).length := by
  rw [partZ_len, partZ_len]
  induction n with
  | zero => rw [show q = 0 by omega]; exact Nat.le_refl _
  | succ n ih =>
    rw [sumR_succ]
    by_cases e : q = n + 1
    · subst e; rw [sumR_succ]; exact Nat.le_refl _
    · have := ih (by omega); omega
theorem itF_take (fs : List Fi) : ∀ (k0 k : Nat), k ≤ fs.length → ∃ r, itF k0 fs = itF k0 (fs.take k) ++ r := by
  induction fs with
  | nil => intro k0 k _; exact ⟨[], by simp⟩
  | cons x r ih =>
    intro k0 k hk
    cases k with
    | zero => exact ⟨itF k0 (x :: r), rfl⟩
    | succ k =>
      obtain ⟨r', hr⟩ := ih (k0 + 1) k (by simpa using hk)
      exact ⟨r', by rw [List.take_succ_cons, itF, itF, hr, List.append_assoc]⟩
theorem itF_takeS (fs : List Fi) (k : Nat) (hk : k < fs.length) : itF 0 (fs.take (k + 1)) = itF 0 (fs.take k) ++ (fs.getD k fi0).lb.map (It.mk (k + 1)) := by
  rw [take_snocF fs fi0 k hk, itF_snoc, List.length_take, show 0 + min k fs.length + 1 = k + 1 by omega]
theorem itF_at (fs : List Fi) (k j : Nat) (hk : k < fs.length) (hj : j < (fs.getD k fi0).lb.length) : (itF 0 fs)[(itF 0 (fs.take k)).length + j]? = some ⟨k + 1, (fs.getD k fi0).lb.getD j 0⟩ := by
  obtain ⟨r, hr⟩ := itF_take fs 0 (k + 1) hk
  rw [hr, itF_takeS fs k hk, List.append_assoc, List.getElem?_append_right (by omega), Nat.add_sub_cancel_left, List.getElem?_append_left (by simpa using hj), List.getElem?_map, List.getElem?_eq_getElem hj, List.getD_eq_getElem?_getD (l := (fs.getD k fi0).lb), List.getElem?_eq_getElem hj]
  rfl
theorem lftE_succ (sz l0 : Int) (nw : Nat → Bool) (it : Nat → List It) (i : Nat) : lftE sz l0 nw it (i + 1) = lftP sz l0 nw it i - (2 + ((it i).length : Int)) := rfl
set_option maxRecDepth 100000 in
set_option maxHeartbeats 16000000 in
theorem packAll_any (w : World) (fs : List Fi) (is : List Int) (fa : Option Addr) (fn fc : Nat) (ia : Option Addr) (inn ic : Nat) (left size : Int) (hF : Fis w fa fs) (hI : Ints w ia is) (hn : fn = fs.length) (hin : inn = is.length) (hx1 : fn ≤ 9223372036854775807) (hx2 : inn ≤ 9223372036854775807) (hfl : ∀ x ∈ fs, x.lb.length ≤ 9223372036854775807) (hwf : ∀ x ∈ fs, (Lit.int .i64 x.ino).wf = true ∧ (Lit.int .i64 x.ver).wf = true ∧ ∀ n ∈ x.lb, (Lit.int .i64 n).wf = true) :
    Calls Try.prog 4 #[.slice fa fn fc, .slice ia inn ic, .agg #[.int .i64 left, .int .i64 size]] w fun e w' => e = .returned (.bool true) ∧ Below w.heap.size w w' := by
  have hb0 := sup_pc w (.cells #[.int .i64 left, .int .i64 size] 24)
  have HAw := Lib.hid (fun W => awake_any W)
  have HFe := Lib.hid (fun W (hW : Below w.heap.size w W) => few_any fa fn fc ia inn ic (hF.later hW) hn hin hx1 hx2 hfl)
  have HT := Lib.hid (show TwR w fs is fa ia _ from ⟨hF.later hb0, hI.below hb0, hb0⟩)
  have HPl := Lib.hid (blo_laid w 24 #[.int .i64 left, .int .i64 size])
  cases hfe : fewB fs is with
  | false =>
    rw [hfe] at HFe
    have HB0 := Lib.hid hb0
    clear hF hI hn hin hfl hfe HT hb0 HPl
    go_enter Try.func4, Try.ntmps4
    go_wp2_with fail
    refine (HAw.out _).mono ?_
    rintro e w1 ⟨rfl, hb1⟩
    have HB1 := Lib.hid (HB0.out.trans (hb1.mono HB0.out.size))
    have HF1 := Lib.hid (HFe.out w1 HB1.out)
    clear hb1 HFe HB0
    go_wp2_with fail
    refine HF1.out.mono ?_
    rintro e w2 ⟨rfl, hb2⟩
    have HB2 := Lib.hid (HB1.out.trans (hb2.mono HB1.out.size))
    clear hb2 HB1 HF1
    go_wp2_with fail
    refine (HAw.out _).mono ?_
    rintro e w3 ⟨rfl, hb3⟩
    have HB3 := Lib.hid (HB2.out.trans (hb3.mono HB2.out.size))
    clear hb3 HB2 HAw
    go_wp2
    go_ret
    exact ⟨rfl, HB3.out⟩
  | true =>
    rw [hfe] at HFe
    obtain ⟨bd1, bd2, bd3⟩ := few_bd hfe
    have HN := Lib.hid hn
    have HIn := Lib.hid hin
    have HBd := Lib.hid bd3
    have HWf := Lib.hid hwf
    have hn3 : fn ≤ 300 := by omega
    have hi3 : inn ≤ 300 := by omega
    clear hF hI hn hin hfl hfe bd1 bd2 bd3 hwf hb0
    go_enter Try.func4, Try.ntmps4
    go_wp2_with fail
    refine (HAw.out _).mono ?_
    rintro e w1 ⟨rfl, hb1⟩
    have HT1 := Lib.hid (HT.out.later hb1)
    have HF1 := Lib.hid (HFe.out w1 HT1.out.below)
    have HP1 := Lib.hid (HPl.out.later hb1)
    clear hb1 HAw HFe HT HPl
    go_wp2_with fail
    refine HF1.out.mono ?_
    rintro e w2 ⟨rfl, hb2⟩
    have HT2 := Lib.hid (HT1.out.later hb2)
    have HP2 := Lib.hid (HP1.out.later hb2)
    clear hb2 HT1 HF1 HP1
    have x0 : ∀ y : Kept w2, y.at_.cell? ⟨w.heap.size, 0, none⟩ = some (.int .i64 left) := fun y => (HP2.out.later y.below).cell 0
    have x1 : ∀ y : Kept w2, y.at_.cell? ⟨w.heap.size, 1, none⟩ = some (.int .i64 size) := fun y => (HP2.out.later y.below).cell 1
    go_wp2_with fail
    refine wp_region_kept (by kernel_rfl) (by kernel_rfl) ?_
    repeat (go_big_quiet_step (fail))
    refine wpQuiet_nil ?_
    rintro W ⟨wx, rfl⟩
    have HT3 := Lib.hid (HT2.out.later wx.below)
    clear HT2 HP2 x0 x1
    generalize wx.at_ = w3 at *
    clear wx
    by_cases hbad : badP left size
    · have HPb := Lib.hid (plan_bad (w := w3) fa fn fc ia inn ic left size hbad)
      clear hbad
      go_wp2_with fail
      refine HPb.out.mono ?_
      rintro e w4 ⟨rfl, rfl⟩
      have HB := Lib.hid HT3.out.below
      clear HPb HT3
      go_wp2
      go_ret
      exact ⟨rfl, HB.out⟩
    · have hP := plan_res (fc := fc) (ic := ic) fa fn ia inn left size hbad HT3.out.f HN.out (by omega) (fun x hx => Nat.le_trans (HBd.out x hx) (by decide)) HT3.out.i HIn.out (by omega)
      cases hr : runP size (p0 left) (items fs is) with
      | none =>
        rw [hr] at hP
        have HP := Lib.hid hP
        clear hP hbad hr
        go_wp2_with fail
        refine HP.out.mono ?_
        rintro e w4 ⟨a, c, rfl, hno, -, hb4⟩
        have HB := Lib.hid ((HT3.out.later hb4).below)
        clear HP HT3 hb4 hno
        go_wp2
        go_ret
        exact ⟨rfl, HB.out⟩
      | some s =>
        rw [hr] at hP
        have HP := Lib.hid hP
        have HK := Lib.hid (plK hbad hr)
        clear hP hbad hr
        go_wp2_with fail
        refine HP.out.mono ?_
        rintro e w4 ⟨pa, pc, rfl, hno, hp, hb4⟩
        have HT4 := Lib.hid (HT3.out.later hb4)
        have HPc := Lib.hid hp
        clear HP HT3 hb4 hno hp
        obtain ⟨I, hI⟩ : ∃ I, inoOf fs = I := ⟨_, rfl⟩
        obtain ⟨V, hV⟩ : ∃ V, verOf fs = V := ⟨_, rfl⟩
        have hPc := HPc.out
        unfold resF at hPc
        rw [hI, hV] at hPc
        have HPc := Lib.hid (show Pcs w4 pa s.N s.nw (fun i => fsZ I V (bs (s.it i)).z) (fun i => (bs (s.it i)).z.li 0) from hPc)
        have HI := Lib.hid hI
        have HV := Lib.hid hV
        have hN : resN (some s) = s.N := rfl
        have hCz : resC (some s) = 0 := rfl
        rw [hCz]
        clear hCz
        obtain ⟨N, hNe⟩ : ∃ N, s.N = N := ⟨_, rfl⟩
        have HNe := Lib.hid hNe
        rw [hN, hNe]
        rw [hNe] at HPc
        have hN64 : N ≤ 64 := by have := HK.out.n64; omega
        clear hPc hI hV hN hNe
        go_wp2_with fail
        have HA0 := Lib.hid (allR_nil w4 I V)
        go_loopw [7, 11, 12, 54] (fun lf bv nv t wr => ∃ k : Nat, k ≤ N ∧ t = .int .i64 k ∧ lf = .int .i64 (lftE size left s.nw s.it k) ∧ AllR w4 I V bv nv (fileI k s.it) (nodeI k s.it) wr) (fun _ _ _ t _ => N - (intOf t).toNat)
        case atStart => exact ⟨0, Nat.zero_le _, rfl, rfl, HA0.out⟩
        case round =>
          clear HA0
          obtain ⟨k, hk, rfl, rfl, hA⟩ := hrel
          have HA := Lib.hid hA
          clear hA
          by_cases hlt : k < N
          · have hkN : k < s.N := by rw [HNe.out]; exact hlt
            obtain ⟨b, o, f1, fc1, i1, ic1, rfl, p1, p2, p3, p4, p5, -, p6⟩ := HPc.out k hlt
            obtain ⟨q1, q2, q3, q4⟩ := HK.out.piece hkN
            obtain ⟨g1, g2⟩ := HK.out.lf.fit k hkN
            obtain ⟨l1, l2⟩ := HK.out.lens (k := k) (by omega)
            have hlb := (HK.out.lb k hkN).lb
            have hno := fun hf => no_nodes (i := k) HK.out.cat (items_sorted fs is) hkN hf
            have hLf64 := HK.out.le k hkN
            have hls := lftE_succ size left s.nw s.it k
            have hlP : lftP size left s.nw s.it k = if s.nw k then size else lftE size left s.nw s.it k := rfl
            rw [← q1] at g1 g2 hls
            obtain ⟨z, hz⟩ : ∃ z, (bs (s.it k)).z = z := ⟨_, rfl⟩
            simp only [fsZ_len, hz] at p2 p3 p4 p5 p6
            rw [hz] at q1 q2 q3 hlb hno g1 g2 hls
            have hfs := fileI_succ k s.it
            have hns := nodeI_succ k s.it
            rw [hz] at hfs hns
            have HLb := Lib.hid hlb
            have HNo := Lib.hid hno
            have HF := Lib.hid p4
            have HIp := Lib.hid p5
            have HFs := Lib.hid hfs
            have HNs := Lib.hid hns
            have HIn0 := Lib.hid p6
            obtain ⟨nb, hnb⟩ : ∃ nb, s.nw k = nb := ⟨_, rfl⟩
            rw [hnb] at p1 hlP
            obtain ⟨M, hM⟩ : ∃ M, (z.li 0).length = M := ⟨_, rfl⟩
            rw [hM] at p3 q3 g1 g2 hls q1
            obtain ⟨P, hP⟩ : ∃ P, (partZ z z.nf).length = P := ⟨_, rfl⟩
            rw [hP] at g1 g2 hls q1
            obtain ⟨E, hE⟩ : ∃ E, lftE size left s.nw s.it k = E := ⟨_, rfl⟩
            rw [hE] at hlP
            obtain ⟨Lf, hLf⟩ : ∃ Lf, lftP size left s.nw s.it k = Lf := ⟨_, rfl⟩
            rw [hLf] at g2 hls hlP hLf64
            have HLs := Lib.hid hls
            have HM := Lib.hid hM
            have HPp := Lib.hid hP
            simp only [hE]
            have r1 := cell_later HA.out.below p1
            have r2 := cell_later HA.out.below p2
            have r3 := cell_later HA.out.below p3
            have k0 : (0 : Int) ≤ (k : Int) := by omega
            have k1 : (k : Int) < (N : Int) := by omega
            have hb5 := sup_pc wr (.cells #[.bool nb, .slice f1 z.nf fc1, .slice i1 M ic1] PC)
            have HA5 := Lib.hid (HA.out.later hb5)
            have HC5 := Lib.hid (blo_laid wr PC #[.bool nb, .slice f1 z.nf fc1, .slice i1 M ic1])
            clear p1 p2 p3 p4 p5 p6 hlb hno hfs hns hz hnb hM hP hE hLf hls hb5 HA hkN
            go_upto_if 59 with (fail)
            clear r1 r2 r3 k0
            obtain ⟨pb, hpb⟩ : ∃ pb, wr.heap.size = pb := ⟨_, rfl⟩
            rw [hpb] at HC5
            rw [hpb]
            generalize wr.alloc (.cells #[.bool nb, .slice f1 z.nf fc1, .slice i1 M ic1] PC) = w5 at *
            clear hpb
            go_cut [7] from 55 to 124 (fun lf wx => lf = .int .i64 Lf ∧ wx = w5)
            case first =>
              cases nb with
              | true =>
                have e : Lf = size := hlP
                clear hlP
                go_wp2_with fail
                go_meet
                exact ⟨by rw [e], rfl⟩
              | false =>
                have e : Lf = E := hlP
                clear hlP
                go_wp2_with fail
                go_meet
                exact ⟨by rw [e], rfl⟩
            case rest =>
              clear hlP
              obtain ⟨rfl, rfl⟩ := hcut
              have c1 := HC5.out.cell 1
              have c2 := HC5.out.cell 2
              simp at c1 c2
              have HSt : Hid (AllR w4 I V u11 u12 (fileI k s.it ++ partZ z 0) (nodeI k s.it) wc ∧ Blo wc pb PC #[.bool nb, .slice f1 z.nf fc1, .slice i1 M ic1]) := ⟨by rw [show partZ z 0 = [] from rfl, List.append_nil]; exact HA5.out, HC5.out⟩
              clear HA5 HC5
              go_wp2_with fail
              clear c1 c2
              go_loopw [11, 15, 68] (fun bv n t wr => ∃ q : Nat, q ≤ z.nf ∧ t = .int .i64 q ∧ n = .int .i64 (2 + (M : Int) + ((partZ z q).length : Int)) ∧ AllR w4 I V bv u12 (fileI k s.it ++ partZ z q) (nodeI k s.it) wr ∧ Blo wr pb PC #[.bool nb, .slice f1 z.nf fc1, .slice i1 M ic1]) (fun _ _ t _ => z.nf - (intOf t).toNat)
              case atStart => exact ⟨0, Nat.zero_le _, rfl, by simp [partZ], HSt.out⟩
              case round =>
                clear HSt
                obtain ⟨q, hq, rfl, rfl, hA, hC⟩ := hrel
                have HA := Lib.hid hA
                have HC := Lib.hid hC
                clear hA hC
                by_cases hlq : q < z.nf
                · obtain ⟨fb, fo, lc, lcp, rfl, d1, d2, d3, d4⟩ := HF.out.at (i := q) (by rw [fsZ_len]; exact hlq)
                  rw [fsZ_get I V z hlq] at d1 d2 d3 d4
                  simp only at d1 d2 d3 d4
                  have d1 := cell_later HA.out.below d1
                  have d2 := cell_later HA.out.below d2
                  have d3 := cell_later HA.out.below d3
                  have hlb := HLb.out q hlq
                  have hno : nodeI k s.it = [] := by
                    unfold nodeI
                    rw [HNo.out ⟨by omega, Nat.one_le_iff_ne_zero.1 (HLb.out 0 (by omega)).1⟩]
                    rfl
                  have hpl := partZ_le z (show q + 1 ≤ z.nf from hlq)
                  have hps := partZ_succ z q
                  have hpn := congrArg List.length hps
                  rw [List.length_append, List.length_map] at hpn
                  obtain ⟨lb, hlbe⟩ : ∃ lb, z.li (q + 1) = lb := ⟨_, rfl⟩
                  rw [hlbe] at d3 d4 hlb hps hpn
                  obtain ⟨f, hf⟩ : ∃ f, z.fi q = f := ⟨_, rfl⟩
                  rw [hf] at d1 d2 hps
                  obtain ⟨mm, hmm⟩ : ∃ mm, lb.length = mm := ⟨_, rfl⟩
                  rw [hmm] at d3 hlb hpn
                  obtain ⟨Q, hQ⟩ : ∃ Q, (partZ z q).length = Q := ⟨_, rfl⟩
                  rw [hQ] at hpn
                  have HPs := Lib.hid hps
                  have HPn := Lib.hid hpn
                  have HMm := Lib.hid hmm
                  have HQ := Lib.hid hQ
                  have HNil := Lib.hid hno
                  have HD4 := Lib.hid d4
                  have hQM : Q + mm ≤ 62 := by have := HPp.out; omega
                  simp only [hQ]
                  obtain ⟨na, nc, rfl, _⟩ := own_slice HA.out.n
                  have hJ0 : (nodeI k s.it).length = 0 := by rw [hno]; rfl
                  rw [hJ0] at HA
                  rw [hJ0]
                  have e1 : ¬ (mm : Int) < 1 := by omega
                  have e2 : ¬ (30 : Int) < (mm : Int) := by omega
                  have k0 : (0 : Int) ≤ (q : Int) := by omega
                  have k1 : (q : Int) < (z.nf : Int) := by omega
                  have hb5 := sup_pc wr (.cells #[.int .i64 (I f), .int .i64 (V f), .slice lc mm lcp] FN)
                  have HA5 := Lib.hid (HA.out.later hb5)
                  have HC5 := Lib.hid (HC.out.later hb5)
                  have HG5 := Lib.hid (blo_laid wr FN #[.int .i64 (I f), .int .i64 (V f), .slice lc mm lcp])
                  clear d4 hlb hno hpl hps hpn hlbe hf hmm hQ hJ0 hb5 HA HC HNil
                  go_upto_region 21 with (fail)
                  clear d1 d2 d3 e1 e2 k0
                  obtain ⟨gb, hgb⟩ : ∃ gb, wr.heap.size = gb := ⟨_, rfl⟩
                  rw [hgb] at HG5
                  rw [hgb]
                  generalize wr.alloc (.cells #[.int .i64 (I f), .int .i64 (V f), .slice lc mm lcp] FN) = w6 at *
                  clear hgb
                  have c0 := HG5.out.cell 0
                  have c1 := HG5.out.cell 1
                  have c2 := HG5.out.cell 2
                  simp at c0 c1 c2
                  have HSt : Hid (AllR w4 I V u11 (.slice na 0 nc) (fileI k s.it ++ partZ z q ++ (lb.take 0).map (It.mk f)) (nodeI k s.it) w6 ∧ Blo w6 pb PC #[.bool nb, .slice (some ⟨fb, fo, none⟩) z.nf fc1, .slice i1 M ic1] ∧ Blo w6 gb FN #[.int .i64 (I f), .int .i64 (V f), .slice lc mm lcp]) := ⟨by rw [List.take_zero, List.map_nil, List.append_nil]; exact HA5.out, HC5.out, HG5.out⟩
                  clear HA5 HC5 HG5
                  go_wp2_with fail
                  clear c0 c1 c2
                  go_loopw [11, 95] (fun bv t wr => ∃ j : Nat, j ≤ mm ∧ t = .int .i64 j ∧ AllR w4 I V bv (.slice na 0 nc) (fileI k s.it ++ partZ z q ++ (lb.take j).map (It.mk f)) (nodeI k s.it) wr ∧ Blo wr pb PC #[.bool nb, .slice (some ⟨fb, fo, none⟩) z.nf fc1, .slice i1 M ic1] ∧ Blo wr gb FN #[.int .i64 (I f), .int .i64 (V f), .slice lc mm lcp]) (fun _ t _ => mm - (intOf t).toNat)
                  case atStart => exact ⟨0, Nat.zero_le _, rfl, HSt.out⟩
                  case round =>
                    clear HSt
                    obtain ⟨j, hj, rfl, hA, hC, hG⟩ := hrel
                    by_cases hlj : j < mm
                    · have hjl : j < lb.length := by have := HMm.out; omega
                      obtain ⟨eb, eo, rfl, he⟩ := HD4.out (fun e => by rw [e] at hjl; cases hjl)
                      have e0 := cell_later hA.below (he j hjl)
                      have htk := take_snocF lb 0 j hjl
                      obtain ⟨y, hy⟩ : ∃ y, lb.getD j 0 = y := ⟨_, rfl⟩
                      rw [hy] at e0 htk
                      have c0 := hG.cell 0
                      have c1 := hG.cell 1
                      simp at c0 c1
                      have hb7 := sup_pc wr (.cells #[.int .i64 (I f), .int .i64 (V f), .int .i64 y] A3)
                      have HO := Lib.hid (own_later hA.b hb7)
                      obtain ⟨B, hB⟩ : ∃ B, fileI k s.it ++ partZ z q ++ (lb.take j).map (It.mk f) = B := ⟨_, rfl⟩
                      rw [hB] at HO hA
                      have hBl : B.length ≤ 5000 := by
                        rw [← hB, List.length_append, List.length_append, List.length_map, List.length_take]
                        have := HQ.out
                        omega
                      have HBe : Hid (B ++ [(⟨f, y⟩ : It)] = fileI k s.it ++ partZ z q ++ (lb.take (j + 1)).map (It.mk f)) := by
                        show _ = _
                        rw [← hB, htk, List.map_append, List.append_assoc]; rfl
                      have HA6 := Lib.hid hA
                      have HC6 := Lib.hid (hC.later hb7)
                      have HG6 := Lib.hid (hG.later hb7)
                      have HBl := Lib.hid hBl
                      have hszw : w4.heap.size ≤ wr.heap.size := hA.below.size
                      have k0 : (0 : Int) ≤ (j : Int) := by omega
                      have k1 : (j : Int) < (mm : Int) := by omega
                      clear hjl he htk hy hb7 hB hBl hA hC hG
                      go_wp2_with (at_builtin; refine wp_append_row rfl (.tmp 99) (.tmp 106) 47 rfl w4.heap.size A3 _ 3 24 Try.underlying47 info_a3 (by kernel_rfl) (by decide) (by decide) _ B.length _ rfl HO.out (some ⟨wr.heap.size, 0, none⟩) 1 1 (cell3 I V ⟨f, y⟩) rfl rfl (laid_src wr A3 _ _ rfl) (cell3_one I V _) (fun h => by cases h) (by have := HBl.out; omega) (by simp; omega) ?_; intro a' cap' w7 hown hgrow; have HA7 := Lib.hid (HA6.out.addB hown hgrow); have HC7 := Lib.hid (HC6.out.grown hgrow (HC6.out.row_apart HO.out (by decide))); have HG7 := Lib.hid (HG6.out.grown hgrow (HG6.out.row_apart HO.out (by decide))); clear hown hgrow)
                      clear e0 c0 c1
                      rw [HBe.out] at HA7
                      go_roundw
                      case rel => exact ⟨j + 1, by omega, by simp, HA7.out, HC7.out, HG7.out⟩
                      case measure => simp [intOf]; omega
                    · have hjm : lb.take j = lb := by rw [List.take_of_length_le]; have := HMm.out; omega
                      rw [hjm, List.append_assoc, ← HPs.out] at hA
                      have HA7 := Lib.hid hA
                      have HC7 := Lib.hid hC
                      have k1 : ¬ (j : Int) < (mm : Int) := by omega
                      clear hA hC hG hjm
                      go_wp2_with fail
                      go_roundw
                      case rel => exact ⟨q + 1, by omega, by simp, by rw [HPn.out]; congr 1; omega, HA7.out, HC7.out⟩
                      case measure => simp [intOf]; omega
                · have hqz : q = z.nf := by omega
                  subst hqz
                  have k1 : ¬ (z.nf : Int) < (z.nf : Int) := by omega
                  rw [← HFs.out] at HA
                  rw [HPp.out]
                  have c2 := HC.out.cell 2
                  simp at c2
                  have HIw := Lib.hid (HIp.out.below HA.out.below)
                  have HOn := Lib.hid HA.out.n
                  have hszw : w4.heap.size ≤ wr.heap.size := HA.out.below.size
                  have t1 : ¬ 2 + (M : Int) + (P : Int) < 3 := by omega
                  have t2 : ¬ Lf < 2 + (M : Int) + (P : Int) := by omega
                  obtain ⟨na, nc, rfl, hncap⟩ := own_slice HA.out.n
                  go_wp2_with (at_builtin; refine wp_append_row rfl (.tmp 110) (.tmp 112) 23 rfl w4.heap.size IT _ 1 8 Try.underlying23 info_it (by kernel_rfl) (by decide) (by decide) _ _ _ rfl HOn.out i1 M ic1 (cellsI (z.li 0)) rfl (by rw [cellsI_length, HM.out, Nat.mul_one]) (cells_src HIw.out) (cellsI_one _) (fun h => by have := HIn0.out h; exact ⟨by have := this.1; have := HM.out; omega, this.2⟩) (by omega) hszw ?_; intro a' cap' w7 hown hgrow; have HA7 := Lib.hid (HA.out.addN HM.out.symm hown hgrow); clear hown hgrow)
                  rw [← HNs.out] at HA7
                  have HLe : Hid (Lf - (2 + (M : Int) + (P : Int)) = lftE size left s.nw s.it (k + 1)) := by
                    show _ = _
                    rw [HLs.out]; omega
                  clear c2 HIw HOn
                  go_wp2_with fail
                  go_roundw
                  case rel => exact ⟨k + 1, by omega, by simp, by rw [HLe.out], HA7.out⟩
                  case measure => simp [intOf]; omega
          · have hkN : k = s.N := by rw [HNe.out]; omega
            have hB : fileI k s.it = itF 0 fs := by unfold fileI; rw [hkN, HK.out.cat]; exact (items_filter fs is).1
            have hJ : nodeI k s.it = is := by unfold nodeI; rw [hkN, HK.out.cat]; exact (items_filter fs is).2
            rw [hB, hJ] at HA
            have k1 : ¬ (k : Int) < (N : Int) := by omega
            have HF4 := Lib.hid HT4.out.f
            have HI4 := Lib.hid HT4.out.i
            have HA4 := Lib.hid HA.out.below
            obtain ⟨ba, bc, hbv, _⟩ := own_slice HA.out.b
            obtain ⟨na, nc, hnv, _⟩ := own_slice HA.out.n
            have hb := HA.out.b
            have hn := HA.out.n
            rw [hbv] at hb
            rw [hnv] at hn
            have HRb := Lib.hid (Rds.own hb)
            have HRn := Lib.hid (Ints.own hn)
            have HBw := Lib.hid (HT4.out.below.trans (HA.out.below.mono HT4.out.below.size))
            have hlenB : (itF 0 fs).length ≤ 4000 := by rw [← hB]; exact (HK.out.lens (by omega)).1
            rw [hbv, hnv]
            clear hB hJ HA hbv hnv hb hn hkN HT4 HPc HK
            generalize hLB : (itF 0 fs).length = LB at *
            have HLB := Lib.hid hLB
            clear hLB
            generalize wr = w9 at *
            go_wp2_with fail
            go_loopw [20, 127] (fun c t wx => ∃ k : Nat, k ≤ fn ∧ t = .int .i64 k ∧ c = .int .i64 ((itF 0 (fs.take k)).length : Nat) ∧ Below w9.heap.size w9 wx) (fun _ t _ => fn - (intOf t).toNat)
            case atStart => exact ⟨0, Nat.zero_le _, rfl, rfl, Below.refl _ _⟩
            case round =>
              clear k1
              obtain ⟨k, hk, rfl, rfl, hB⟩ := hrel
              have HB := Lib.hid hB
              clear hB
              by_cases hlt : k < fn
              · have hkl : k < fs.length := by rw [← HN.out]; exact hlt
                obtain ⟨b, o, lc, lcp, rfl, d1, d2, d3, d4⟩ := HF4.out.at hkl
                have hbe := HA4.out.trans (HB.out.mono HA4.out.size)
                have d1 := cell_later hbe d1
                have d2 := cell_later hbe d2
                have d3 := cell_later hbe d3
                have d4 := d4.below hbe
                have hmem : fs.getD k fi0 ∈ fs := by rw [List.getD_eq_getElem?_getD, List.getElem?_eq_getElem hkl]; exact List.getElem_mem _
                have hw := HWf.out _ hmem
                have hl9 := HBd.out _ hmem
                have hat := fun j hj => itF_at fs k j hkl hj
                have hts := congrArg List.length (itF_takeS fs k hkl)
                rw [List.length_append, List.length_map] at hts
                obtain ⟨r, hr⟩ := itF_take fs 0 (k + 1) hkl
                have hrl := congrArg List.length hr
                rw [List.length_append, HLB.out, hts] at hrl
                have hIk : I (k + 1) = (fs.getD k fi0).ino := by rw [← HI.out]; rfl
                have hVk : V (k + 1) = (fs.getD k fi0).ver := by rw [← HV.out]; rfl
                obtain ⟨x, hx⟩ : ∃ x, fs.getD k fi0 = x := ⟨_, rfl⟩
                rw [hx] at d1 d2 d3 d4 hw hl9 hts hrl hIk hVk
                simp only [hx] at hat
                obtain ⟨xi, xv, xl⟩ := x
                simp only at d1 d2 d3 d4 hw hl9 hts hrl hIk hVk hat
                obtain ⟨mm, hmm⟩ : ∃ mm, xl.length = mm := ⟨_, rfl⟩
                rw [hmm] at d3 hl9 hts hrl
                obtain ⟨Q, hQ⟩ : ∃ Q, (itF 0 (fs.take k)).length = Q := ⟨_, rfl⟩
                rw [hQ] at hts hrl
                simp only [hQ] at hat ⊢
                have HAt := Lib.hid hat
                have HMm := Lib.hid hmm
                have HTs := Lib.hid hts
                have HIk := Lib.hid hIk
                have HVk := Lib.hid hVk
                have HW := Lib.hid hw
                have hb5 := sup_pc wr (.cells #[.int .i64 xi, .int .i64 xv, .slice lc mm lcp] FN)
                have HG5 := Lib.hid (blo_laid wr FN #[.int .i64 xi, .int .i64 xv, .slice lc mm lcp])
                have HB5 := Lib.hid (HB.out.trans (hb5.mono HB.out.size))
                have HL5 := Lib.hid (d4.below hb5)
                have hQm : Q + mm ≤ 4000 := by omega
                have hQL : Q + mm ≤ LB := by omega
                have k0 : (0 : Int) ≤ (k : Int) := by omega
                have k1 : (k : Int) < (fn : Int) := by omega
                clear hkl d4 hbe hmem hw hat hts hr hrl hIk hVk hx hmm hQ hb5 HB
                go_upto_region 36 with (fail)
                clear d1 d2 d3 k0
                obtain ⟨gb, hgb⟩ : ∃ gb, wr.heap.size = gb := ⟨_, rfl⟩
                rw [hgb] at HG5
                rw [hgb]
                generalize wr.alloc (.cells #[.int .i64 xi, .int .i64 xv, .slice lc mm lcp] FN) = w6 at *
                clear hgb
                have c2 := HG5.out.cell 2
                simp at c2
                go_wp2_with fail
                clear c2
                go_loopw [20, 134] (fun c t wx => ∃ j : Nat, j ≤ mm ∧ t = .int .i64 j ∧ c = .int .i64 ((Q : Int) + (j : Int)) ∧ Below w6.heap.size w6 wx) (fun _ t _ => mm - (intOf t).toNat)
                case atStart => exact ⟨0, Nat.zero_le _, rfl, by simp, Below.refl _ _⟩
                case round =>
                  obtain ⟨j, hj, rfl, rfl, hB⟩ := hrel
                  have HB := Lib.hid hB
                  clear hB
                  by_cases hlj : j < mm
                  · have hjl : j < xl.length := by have := HMm.out; omega
                    obtain ⟨eb, eo, rfl, he⟩ := HL5.out (fun e => by rw [e] at hjl; cases hjl)
                    have e0 := cell_later HB.out (he j hjl)
                    have hit := HAt.out j hjl
                    have hyw := HW.out.2.2 (xl.getD j 0) (by rw [List.getD_eq_getElem?_getD, List.getElem?_eq_getElem hjl]; exact List.getElem_mem _)
                    obtain ⟨y, hy⟩ : ∃ y, xl.getD j 0 = y := ⟨_, rfl⟩
                    rw [hy] at e0 hit hyw
                    have hrg := rowI_get I V _ _ _ hit
                    simp only [cell3, HIk.out, HVk.out] at hrg
                    obtain ⟨bb, bo, rfl, hb0⟩ := HRb.out _ _ (hrg 0 _ rfl)
                    have hrow : Hid (∀ W, (∃ z : Kept wr, W = z.at_) → W.rangeAt bb (bo + (Q + j) * 3) [.int .i64 xi, .int .i64 xv, .int .i64 y]) := fun W ⟨z, hz⟩ q u hu => by
                      obtain ⟨b2, o2, e2, h2⟩ := HRb.out _ _ (hrg q u hu)
                      cases e2
                      rw [hz, Nat.add_assoc]
                      exact cell_later z.below (cell_later HB.out (cell_later HB5.out h2))
                    have HNe3 := neq_a3 xi xv y HW.out.1 HW.out.2.1 hyw
                    have g0 : ∀ z : Kept wr, z.at_.cell? ⟨gb, 0, none⟩ = some (.int .i64 xi) := fun z => ((HG5.out.later HB.out).later z.below).cell 0
                    have g1 : ∀ z : Kept wr, z.at_.cell? ⟨gb, 1, none⟩ = some (.int .i64 xv) := fun z => ((HG5.out.later HB.out).later z.below).cell 1
                    have j0 : (0 : Int) ≤ (j : Int) := by omega
                    have j1 : (j : Int) < (mm : Int) := by omega
                    have j2 : ¬ (LB : Int) ≤ (Q : Int) + (j : Int) := by omega
                    have j3 : (0 : Int) ≤ (Q : Int) + (j : Int) := by omega
                    have j4 : (Q : Int) + (j : Int) < (LB : Int) := by omega
                    have j5 : ((Q : Int) + (j : Int)).toNat = Q + j := by omega
                    have hu := Try.underlying48
                    clear hjl he hit hyw hy hrg hb0
                    go_wp2_with fail
                    refine wp_region_kept (by kernel_rfl) (by kernel_rfl) ?_
                    have j6 : decide ((LB : Int) ≤ (Q : Int) + (j : Int)) = false := decide_eq_false (by omega)
                    repeat (first | go_big_quiet_step (fail) | (simp only [j6]; go_big_quiet_step (fail)))
                    go_big_quiet_want
                    refine quiet_mid A3 (.tmp 145) rfl bb (bo + (Q + j) * 3) rfl [.int .i64 xi, .int .i64 xv, .int .i64 y] _ hrow.out hu rfl (by kernel_rfl) ?_
                    simp only [Act.put, List.setIfInBounds_toArray, List.set_cons_succ, List.set_cons_zero]
                    go_big_quiet_on
                    repeat (go_big_quiet_step (fail))
                    refine wpQuiet_nil ?_
                    rintro W ⟨wz, rfl⟩
                    have HB6 := Lib.hid (HB.out.trans (wz.below.mono HB.out.size))
                    clear HB hrow HNe3 g0 g1 e0
                    go_wp2_with fail
                    go_roundw
                    case rel => exact ⟨j + 1, by omega, by simp, by simp; omega, HB6.out⟩
                    case measure => simp [intOf]; omega
                  · have k9 : ¬ (j : Int) < (mm : Int) := by omega
                    have hjm : j = mm := by omega
                    have HB6 := Lib.hid (HB5.out.trans (HB.out.mono HB5.out.size))
                    go_wp2_with fail
                    go_roundw
                    case rel => exact ⟨k + 1, by omega, by simp, by rw [HTs.out]; congr 1; omega, HB6.out⟩
                    case measure => simp [intOf]; omega
              · have hkn : fs.take k = fs := by rw [List.take_of_length_le]; have := HN.out; omega
                have k9 : ¬ (k : Int) < (fn : Int) := by omega
                rw [hkn, HLB.out]
                clear hkn
                have e1 : ((LB : Int) != (LB : Int)) = false := by simp
                have e2 : ((is.length : Int) != (inn : Int)) = false := by rw [HIn.out]; simp
                have HRn2 := Lib.hid (HRn.out.below HB.out)
                have HI2 := Lib.hid (HI4.out.below (HA4.out.trans (HB.out.mono HA4.out.size)))
                have HBw2 := Lib.hid (HBw.out.trans (HB.out.mono HBw.out.size))
                have his : is.length = inn := HIn.out.symm
                clear HB HRb HRn
                go_wp2_with fail
                go_loopw [172] (fun t wx => ∃ j : Nat, j ≤ inn ∧ t = .int .i64 j ∧ Below wr.heap.size wr wx) (fun t _ => inn - (intOf t).toNat)
                case atStart => exact ⟨0, Nat.zero_le _, rfl, Below.refl _ _⟩
                case round =>
                  obtain ⟨j, hj, rfl, hB⟩ := hrel
                  have HB := Lib.hid hB
                  clear hB
                  by_cases hlj : j < inn
                  · have hjl : j < is.length := by rw [his]; exact hlj
                    obtain ⟨nb, no, rfl, hn0⟩ := HRn2.out (fun e => by rw [e] at hjl; cases hjl)
                    obtain ⟨ib, io, rfl, hi0⟩ := HI2.out (fun e => by rw [e] at hjl; cases hjl)
                    have p1 := cell_later HB.out (hn0 j hjl)
                    have p2 := cell_later HB.out (hi0 j hjl)
                    generalize is.getD j 0 = y at *
                    have g1 : ∀ z : Kept wr, z.at_.cell? ⟨nb, no + j, none⟩ = some (.int .i64 y) := fun z => cell_later z.below p1
                    have g2 : ∀ z : Kept wr, z.at_.cell? ⟨ib, io + j, none⟩ = some (.int .i64 y) := fun z => cell_later z.below p2
                    have ey : (y != y) = false := by simp
                    have j0 : (0 : Int) ≤ (j : Int) := by omega
                    have j1 : (j : Int) < (inn : Int) := by omega
                    clear hjl hn0 hi0 p1 p2
                    go_wp2_with fail
                    refine wp_region_kept (by kernel_rfl) (by kernel_rfl) ?_
                    repeat (go_big_quiet_step (fail))
                    refine wpQuiet_nil ?_
                    rintro W ⟨wz, rfl⟩
                    have HB6 := Lib.hid (HB.out.trans (wz.below.mono HB.out.size))
                    clear HB g1 g2 ey
                    go_wp2_with fail
                    go_roundw
                    case rel => exact ⟨j + 1, by omega, by simp, HB6.out⟩
                    case measure => simp [intOf]; omega
                  · have j1 : ¬ (j : Int) < (inn : Int) := by omega
                    have HB6 := Lib.hid (HBw2.out.trans (HB.out.mono HBw2.out.size))
                    clear HB
                    go_wp2
                    go_ret
                    exact ⟨rfl, HB6.out⟩
theorem packAll_walk (fa : Option Addr) (fn fc : Nat) (fs : List Fi) (ia : Option Addr) (inn ic : Nat) (is : List Int) (left size : Int) (w : World) (h1 : FinIn w fa fn fc fs) (h2 : IntsIn w ia inn ic is) (_ : True) :
    Calls Try.prog 4 #[.slice fa fn fc, .slice ia inn ic, .agg #[.int .i64 left, .int .i64 size]] w fun e w' => e = .returned (.bool true) ∧ Below w.heap.size w w' :=
  packAll_any w fs is fa fn fc ia inn ic left size h1.fis h2.ints h1.leq h2.leq h1.lenm h2.lenm h1.lb h1.wf
end Go.Proofs.Ytonlhkhjdnaojaa
