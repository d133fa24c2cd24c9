/-
  The walk of CacheRow.
-/
import Derived.Test.YtdnkeplmjimjcaaPk12
import Derived.Test.YtdnkeplmjimjcaaPk09
import Derived.Deep.RegionHeld3
import Derived.Deep.CutRange
namespace Go.Proofs.Ytdnkeplmjimjcaa
open Go.RowKit

section
variable {w W W' : World} {bc bm : Nat} {r : Int} {N T N' T' : Nat} {L L' : List Bk}
theorem two_laid (W : World) (j : Nat) (hj : j < 256) : Bytes (W.alloc (.cells #[.int .u8 (j : Int), .int .u8 1] U8)) (some ⟨W.heap.size, 0, none⟩) [j, 1] :=
  Bytes.laid W [j, 1] _ _ _ (fun y hy => by
    rcases List.mem_cons.1 hy with e | e
    · omega
    · have : y = 1 := by simpa using e
      omega) (by simp) (fun i hi => by
    have : i = 0 ∨ i = 1 := by simp at hi; omega
    rcases this with rfl | rfl <;> rfl)
theorem bytes_two (W : World) (j : Nat) (hj : j < 256) : Calls Try.prog 12 #[.slice (some ⟨W.heap.size, 0, none⟩) 2 2] (W.alloc (.cells #[.int .u8 (j : Int), .int .u8 1] U8)) (BytO (W.alloc (.cells #[.int .u8 (j : Int), .int .u8 1] U8)) (byt [j, 1])) :=
  bytes_any (some ⟨W.heap.size, 0, none⟩) 2 2 [j, 1] _ rfl (by decide) (two_laid W j hj)
theorem bytes_twoD (W : World) (j : Nat) (hj : j < 256) : Calls Try.prog 12 #[.slice (some ⟨W.heap.size, 0, none⟩) 2 2] (W.alloc (.cells #[.int .u8 (j : Int), .int .u8 1] U8)).drew (BytO (W.alloc (.cells #[.int .u8 (j : Int), .int .u8 1] U8)).drew (byt [j, 1])) :=
  bytes_any (some ⟨W.heap.size, 0, none⟩) 2 2 [j, 1] _ rfl (by decide) ((two_laid W j hj).below ((Below.refl _ _).drew))
theorem LwS.order (h : LwS w bc bm r N T L [] W) {ps : List (Int × Int)} (e : L.map Bk.key = ps) : Calls Try.prog 18 #[.pointer (some ⟨bc, 0, none⟩)] W fun e w' => ∃ a cap, e = .returned (.slice a ps.length cap) ∧ w'.ownsRow W.heap.size KT 2 (.slice a ps.length cap) ps.length (flatP ps) ∧ LwS w bc bm r N T L [] w' := by
  rw [← e]
  exact (order_any h.ca).mono fun e w' ⟨a, cap, h1, h2, h3⟩ => ⟨a, cap, h1, h2, h.later h3⟩
theorem CA.nodup {base : Nat} (h : CA W bc bm base r N T L) : (L.map Bk.key).Nodup := by
  obtain ⟨x, hC, rfl⟩ := h
  unfold lstK
  rw [List.map_map, List.nodup_iff_pairwise_ne, List.pairwise_map]
  exact List.Pairwise.imp_of_mem (fun {b c} hb hc hne e => hne (hC.ps.inj hb hc e)) (List.nodup_iff_pairwise_ne.1 hC.ps.nodup)
theorem LwS.get_someO {K : List (Nat × Int × Int)} (h : LwS w bc bm r N T L K W) {a b : Int} (hw : wfK (a, b)) (hT : T ≤ 4000000000000000000) {d : Nat → Nat} (e : getK L (a, b) = (L', some d)) :
    Calls Try.prog 22 #[.pointer (some ⟨bc, 0, none⟩), .agg #[.int .i64 a, .int .i64 b]] W fun e w' => ∃ g c, e = .returned (.tuple #[.slice (some ⟨g, 0, none⟩) 64 c, .bool true]) ∧ LwS w bc bm r N (T + 1) L' K w' ∧ w'.ownsRow W.heap.size U8 1 (.slice (some ⟨g, 0, none⟩) 64 c) 64 (cellsB (dtL d)) ∧ Out (XC W bc bm w.heap.size) W w' := by
  have := get_any (p := (a, b)) h.ca hw (by omega)
  refine this.mono fun e' w' ⟨q1, q2, q3⟩ => ?_
  rw [e] at q1 q3
  obtain ⟨q, -⟩ | ⟨d', g, c, q, q4, q5⟩ := q3
  · cases q
  · cases q
    exact ⟨g, c, q4, h.call q1 q2, q5, q2⟩
/-- A row of keys stays while the cache is called. -/
theorem own_call {C n : Nat} {v : Value} {xs : List Value} {base : Nat} (hC : CA W bc bm base r N T L) (ho : Out (XC W bc bm base) W W') (hown : W.ownsRow C KT 2 v n xs) : W'.ownsRow C KT 2 v n xs :=
  ho.own hown (fun g hg => by
    obtain ⟨-, cs, hb⟩ := own_blo hown hg
    exact xc_key hC hb)
end
set_option maxRecDepth 100000 in
theorem eql_key (W : World) {p q : Int × Int} (hp : wfK p) (hq : wfK q) : (Op.equalIn 10000 KT (.agg #[.int .i64 p.1, .int .i64 p.2]) (.agg #[.int .i64 q.1, .int .i64 q.2])).run Try.prog W = .ok (decide (p = q)) W := by
  have hk : Try.prog.keyTypeAt 3 KT = true := by kernel_rfl
  have hc : Try.prog.cellsOf KT = 2 := by kernel_rfl
  obtain ⟨r, h1, h2⟩ := run_equalIn_deep (P := Try.prog) 9997 3 KT hk W 3 3 (.agg #[.int .i64 p.1, .int .i64 p.2]) (.agg #[.int .i64 q.1, .int .i64 q.2]) _ _ (by simp [Value.formed, Try.underlying34, hc]) (by simp [Value.formed, Try.underlying34, hc]) (keyLitsK hp 1) (keyLitsK hq 1)
  have h1 : (Op.equalIn 10000 KT (.agg #[.int .i64 p.1, .int .i64 p.2]) (.agg #[.int .i64 q.1, .int .i64 q.2])).run Try.prog W = .ok r W := h1
  rw [h1]
  congr 1
  obtain ⟨a, b⟩ := p
  obtain ⟨c, d⟩ := q
  cases r with
  | true =>
    have := h2.1 rfl
    simp at this
    rw [this.1, this.2]
    simp
  | false =>
    symm
    rw [decide_eq_false_iff_not]
    intro e
    cases e
    exact absurd (h2.2 rfl) (by decide)
theorem flatP_get : ∀ {ps : List (Int × Int)} {t : Nat} {p : Int × Int}, ps[t]? = some p → (flatP ps)[t * 2]? = some (.int .i64 p.1) ∧ (flatP ps)[t * 2 + 1]? = some (.int .i64 p.2)
  | [], t, p, h => by simp at h
  | a :: ps, 0, p, h => by
    simp at h
    subst h
    exact ⟨rfl, rfl⟩
  | a :: ps, t + 1, p, h => by
    obtain ⟨h1, h2⟩ := flatP_get (ps := ps) (t := t) (p := p) (by simpa using h)
    rw [show (t + 1) * 2 = t * 2 + 2 by omega]
    exact ⟨h1, h2⟩
/-- A row of keys, read. -/
theorem own_key {W : World} {C n : Nat} {ps : List (Int × Int)} {a : Option Addr} {cap : Nat} (h : W.ownsRow C KT 2 (.slice a n cap) n (flatP ps)) {t : Nat} {p : Int × Int} (hp : ps[t]? = some p) :
    ∃ g, a = some ⟨g, 0, none⟩ ∧ W.cell? ⟨g, t * 2, none⟩ = some (.int .i64 p.1) ∧ W.cell? ⟨g, t * 2 + 1, none⟩ = some (.int .i64 p.2) := by
  have hl : ps.length = n := by have := h.1; rw [flatP_len] at this; omega
  have ht : t < n := by
    have := (List.getElem?_eq_some_iff.1 hp).1
    omega
  rcases h.2 with ⟨q, q2⟩ | ⟨g, c, cur, q, _⟩
  · omega
  · cases q
    obtain ⟨h1, h2⟩ := flatP_get hp
    exact ⟨g, rfl, (h.cellAt (t * 2) (by omega)).trans h1, (h.cellAt (t * 2 + 1) (by omega)).trans h2⟩
def RwR (w : World) (bc bm r n : Nat) (v : Value) (wr : World) : Prop :=
  ∃ i lo : Nat, i ≤ n ∧ v = .int .i64 (i : Int) ∧ lo ≤ i ∧ i - lo = min i r ∧ LwS w bc bm r i i (rwL lo i) [] wr
def RwK (w : World) (bc bm r i lo C : Nat) (la : Option Addr) (lc q : Nat) (ps : List (Int × Int)) (v : Value) (wr : World) : Prop :=
  ∃ t : Nat, t ≤ q ∧ v = .int .i64 (t : Int) ∧ LwS w bc bm r i i (rwL lo i) [] wr ∧ wr.ownsRow C KT 2 (.slice la q lc) q (flatP ps)
def RwG (w : World) (bc bm r i lo C : Nat) (la : Option Addr) (lc q : Nat) (ps : List (Int × Int)) (zl : Nat) (l v : Value) (wr : World) : Prop :=
  ∃ (t : Nat) (last : Int) (L : List Bk), t ≤ zl ∧ l = .int .i64 last ∧ v = .int .i64 (t : Int) ∧ RwI lo i L last ∧ LwS w bc bm r i (i + t) L [] wr ∧ wr.ownsRow C KT 2 (.slice la q lc) q (flatP ps)
set_option maxRecDepth 100000 in
set_option maxHeartbeats 8000000 in
theorem cacheRow_any (a b : Int) (za : Option Addr) (zl zc : Nat) (zs : List Int) (w : World) (hz : IntsIn w za zl zc zs) (hz2 : zl ≤ 140737488351232) :
    Calls Try.prog 5 #[.int .i64 a, .int .i64 b, .slice za zl zc] w fun e w' => e = .returned (.bool true) ∧ Below w.heap.size w w' := by
  obtain ⟨m, hm, hme⟩ := cut_mod a 19 (by decide)
  have hme : wrap64 ((IntKind.u64.wrap a).tmod 20) = (m : Int) := hme
  obtain ⟨n, hn, hne⟩ := cut_mod b 59 (by decide)
  have hne : wrap64 ((IntKind.u64.wrap b).tmod 60) = (n : Int) := hne
  obtain ⟨r, hr⟩ : ∃ r, r = m + 1 := ⟨_, rfl⟩
  have e2 : Hid ((m : Int) + 1 = (r : Int)) := by show (m : Int) + 1 = (r : Int); omega
  have hr1 : (1 : Int) ≤ (r : Int) := by omega
  have hr2 : (r : Int) ≤ 20 := by omega
  have hn2 : (n : Int) ≤ 59 := by omega
  have HZ := Lib.hid hz
  clear hr hz
  go_enter Try.func5, Try.ntmps5
  go_wp2_with fail
  refine (awake_any _).mono ?_
  rintro e w1 ⟨rfl, hb1⟩
  have HB1 := Lib.hid hb1
  clear hb1
  have hNew := Lib.hid (new_any (room := r) hr1 (by omega) w1)
  go_wp2_with fail
  rw [e2.out, hme]
  try rw [hne]
  clear hme hne
  refine hNew.out.mono ?_
  rintro e w2 ⟨rfl, hn2', hb2⟩
  have HSt : Hid (RwR w (w1.heap.size + 1) w1.heap.size r n (.int .i64 0) w2) := by
    have h1 := HB1.out.size
    exact ⟨0, 0, by omega, rfl, by omega, by omega, hn2'.ca hr1 (by omega) (by omega) h1, fun q hq => (by cases hq), HB1.out.trans (hb2.mono h1)⟩
  clear hn2' hb2 HB1 hNew e2 hm hn
  generalize w1.heap.size + 1 = bc at *
  generalize w1.heap.size = bm at *
  go_wp2_with fail
  go_loopw [9] (fun v wr => RwR w bc bm r n v wr) (fun v _ => n - (intOf v).toNat)
  case atStart => exact HSt.out
  case round =>
    clear HSt
    obtain ⟨i, lo, hi, rfl, hlo, hmn, hS⟩ := hrel
    have HS := Lib.hid hS
    have HI := Lib.hid (And.intro hlo hmn)
    clear hS hlo hmn
    by_cases hlt : i < n
    · have i1 : (i : Int) < (n : Int) := by omega
      have i2 : (i : Int) < 256 := by omega
      have i3 : (0 : Int) ≤ (i : Int) := by omega
      have HBy := Lib.hid (bytes_two wr i (by omega))
      go_wp2_with fail
      refine HBy.out.mono ?_
      rintro e w3 ⟨g, rfl, hg, -, hb⟩
      have HS3 := Lib.hid ((HS.out.later (sup_pc9 wr _)).later hb)
      have HPu := Lib.hid (HS3.out.put (a := 7) (b := (i : Int)) (wf_of (by decide) (by decide) (by omega) (by omega)) hg false (by omega) (by omega) (rw_put r lo i HI.out.1 (by have := HI.out.2; omega) (by omega)))
      clear hg hb HBy HS
      go_wp2_with fail
      refine HPu.out.mono ?_
      rintro e w4 ⟨rfl, hS⟩
      have HR : Hid (RwR w bc bm r n (.int .i64 ((i : Int) + 1)) w4) := by
        have h1 := HI.out.1
        have h2 := HI.out.2
        refine ⟨i + 1, if i - lo < r then lo else lo + 1, by omega, rfl, ?_, ?_, hS⟩
        · split <;> omega
        · split <;> omega
      clear hS HPu HS3 HI
      go_wp2_with fail
      go_roundw
      case rel => exact HR.out
      case measure => simp [intOf]; omega
    · have hin : i = n := by omega
      subst hin
      have HP : Hid (∃ ps, ps = (rwL lo i).map Bk.key) := ⟨_, rfl⟩
      obtain ⟨ps, hps⟩ := HP.out
      have hpl : ps.length = i - lo := by rw [hps, List.length_map, rwL_len]
      have HPl : Hid (ps.length = i - lo) := hpl
      have HOr := Lib.hid (HS.out.order hps.symm)
      have HPs := Lib.hid hps
      clear HP hps hi hlt hpl
      go_wp2_with fail
      refine HOr.out.mono ?_
      rintro e w5 ⟨la, lc, rfl, hown, hS⟩
      have HOw := Lib.hid hown
      have HS5 := Lib.hid hS
      clear hown hS HOr HS
      obtain ⟨q, hq⟩ : ∃ q, q = ps.length := ⟨_, rfl⟩
      rw [← hq] at HOw HPl ⊢
      have hqm : Hid ((q : Int) = min (r : Int) (i : Int)) := by
        show (q : Int) = min (r : Int) (i : Int)
        have h1 := HPl.out
        have h2 := HI.out.2
        rcases Int.le_total (r : Int) (i : Int) with h | h
        · rw [Int.min_eq_left h]; omega
        · rw [Int.min_eq_right h]; omega
      clear hq
      have hmn : (min (r : Int) (i : Int)) = (q : Int) := hqm.out.symm
      have hqq : ((q : Int) != (q : Int)) = false := by simp
      have HQ : Hid (q = i - lo ∧ lo ≤ i) := ⟨HPl.out, HI.out.1⟩
      have e3 : (i : Int) - (q : Int) = (lo : Int) := by have := HQ.out; omega
      have HGet : Hid (∀ t, t < q → ps[t]? = some (7, (lo : Int) + (t : Int))) := fun t ht => by
        rw [HPs.out, List.getElem?_map, rwL_get (by have := HQ.out.1; omega)]
        show some ((7 : Int), ((lo + t : Nat) : Int)) = _
        rw [show ((lo + t : Nat) : Int) = (lo : Int) + (t : Int) by omega]
      have HSt2 : Hid (RwK w bc bm r i lo wr.heap.size la lc q ps (.int .i64 0) w5) := ⟨0, Nat.zero_le _, rfl, HS5.out, HOw.out⟩
      generalize wr.heap.size = C at *
      have q1 : (q : Int) ≤ 59 := by have := HQ.out; omega
      have lo0 : (0 : Int) ≤ (lo : Int) := by omega
      have lo1 : (lo : Int) + (q : Int) ≤ 59 := by have := HQ.out; omega
      clear HOw HS5 HI HPl HPs
      go_wp2_with fail
      clear hmn hqq hqm
      go_loopw [66] (fun v wx => RwK w bc bm r i lo C la lc q ps v wx) (fun v _ => q - (intOf v).toNat)
      case atStart => exact HSt2.out
      case round =>
        clear HSt2
        obtain ⟨t, ht, rfl, hS, hown⟩ := hrel
        have HS := Lib.hid (And.intro hS hown)
        clear hS hown
        by_cases htq : t < q
        · obtain ⟨g, rfl, k0, k1⟩ := own_key HS.out.2 (HGet.out t htq)
          have t0 : (0 : Int) ≤ (t : Int) := by omega
          have t1 : (t : Int) < (q : Int) := by omega
          have hei := fun W => eql_key W (p := (7, (lo : Int) + (t : Int))) (q := (7, (lo : Int) + (t : Int))) (wf_of (by decide) (by decide) (by omega) (by omega)) (wf_of (by decide) (by decide) (by omega) (by omega))
          have hei : ∀ W, (Op.equalIn 10000 KT (.agg #[.int .i64 7, .int .i64 ((lo : Int) + (t : Int))]) (.agg #[.int .i64 7, .int .i64 ((lo : Int) + (t : Int))])).run Try.prog W = .ok true W := fun W => by
            have := hei W
            rw [decide_eq_true rfl] at this
            exact this
          have HB := Lib.hid (sup_pc9 wr (.cells #[.int .i64 7, .int .i64 ((lo : Int) + (t : Int))] KT))
          have HR : Hid (RwK w bc bm r i lo C (some ⟨g, 0, none⟩) lc q ps (.int .i64 ((t : Int) + 1)) (wr.alloc (.cells #[.int .i64 7, .int .i64 ((lo : Int) + (t : Int))] KT))) := ⟨t + 1, htq, rfl, HS.out.1.later HB.out, own_later HS.out.2 HB.out⟩
          clear HS HB
          go_wp2_with fail
          go_roundw
          case rel => exact HR.out
          case measure => simp [intOf]; omega
        · have htq' : t = q := by omega
          have HSt3 : Hid (RwG w bc bm r i lo C la lc q ps zl (.int .i64 (-1)) (.int .i64 0) wr) := ⟨0, -1, rwL lo i, Nat.zero_le _, rfl, rfl, RwI.start, HS.out.1, HS.out.2⟩
          rw [htq'] at htq ⊢
          clear HS ht htq'
          go_wp2_with fail
          go_loopw [13, 83] (fun l v wx => RwG w bc bm r i lo C la lc q ps zl l v wx) (fun _ v _ => zl - (intOf v).toNat)
          case atStart => exact HSt3.out
          case round =>
            clear HSt3
            obtain ⟨t, last, L, ht, rfl, rfl, hI, hS, hown⟩ := hrel
            have HS := Lib.hid (And.intro hS (And.intro hown hI))
            clear hS hown hI
            by_cases htz : t < zl
            · have t1 : (t : Int) < (zl : Int) := by omega
              have t0 : (0 : Int) ≤ (t : Int) := by omega
              obtain ⟨zg, zo, hza, hzc⟩ := (HZ.out.ints.below HS.out.1.below) (fun e => by have := HZ.out.leq; rw [e] at this; simp at this; omega)
              have hcz := hzc t (by have := HZ.out.leq; omega)
              subst hza
              obtain ⟨x, hx⟩ : ∃ x, zs.getD t 0 = x := ⟨_, rfl⟩
              rw [hx] at hcz
              clear hzc hx
              by_cases hq0 : q = 0
              · have hq0' : (q : Int) = 0 := by omega
                have e9 : ((q : Int) == 0) = true := by rw [hq0']; rfl
                obtain ⟨ps2, hps2⟩ : ∃ ps2, L.map Bk.key = ps2 := ⟨_, rfl⟩
                have hl2 : ps2.length = q := by rw [← hps2, List.length_map, HS.out.2.2.len]; exact HQ.out.1.symm
                have HOr := Lib.hid (HS.out.1.order hps2)
                have HE2 : Hid (last < 0 ∨ ∃ (q1 j : Nat), q = q1 + 1 ∧ last = (j : Int) ∧ ps2[q1]? = some (7, (j : Int))) := by
                  rcases HS.out.2.2.end_ with h | ⟨L0, j, h1, h2⟩
                  · exact .inl h
                  · refine .inr ⟨L0.length, j, ?_, h1, ?_⟩
                    · rw [← hl2, ← hps2, h2]; simp
                    · rw [← hps2, h2]; simp [rwB]
                rw [hl2] at HOr
                clear hps2 HS
                go_wp2_with fail
                refine HOr.out.mono ?_
                rintro e w9 ⟨oa, oc, rfl, hown9, hS9⟩
                have HB9 := Lib.hid hS9.below
                clear hS9 HOr
                rcases HE2.out with hlast | ⟨q1, j, hq1, rfl, hj⟩
                · clear HE2 hown9 hl2
                  go_wp2_with fail
                  go_ret
                  exact ⟨rfl, HB9.out⟩
                · exfalso; omega
              · have e9 : ((q : Int) == 0) = false := by simpa using hq0
                obtain ⟨kk, hkk, hke⟩ : ∃ k : Nat, k < q ∧ wrap64 ((IntKind.u64.wrap x).tmod (q : Int)) = (k : Int) := by
                  obtain ⟨k, hk, e⟩ := cut_mod x (q - 1) (by omega)
                  exact ⟨k, by omega, by rw [← e]; congr 2; omega⟩
                have hwq : IntKind.u64.wrap (q : Int) = (q : Int) := by rw [IntKind.wrap_u64]; omega
                obtain ⟨g, rfl, kA, kB⟩ := own_key HS.out.2.1 (HGet.out kk hkk)
                have kk0 : (0 : Int) ≤ (kk : Int) := by omega
                have kk1 : (kk : Int) < (q : Int) := by omega
                obtain ⟨j, hj⟩ : ∃ j : Nat, j = lo + kk := ⟨_, rfl⟩
                have ej : (lo : Int) + (kk : Int) = (j : Int) := by omega
                have k1 : wr.cell? ⟨g, kk * 2 + 1, none⟩ = some (.int .i64 (j : Int)) := by rw [← ej]; exact kB
                have k0 : wr.cell? ⟨g, kk * 2, none⟩ = some (.int .i64 7) := kA
                clear kA kB
                have HJ : Hid (lo ≤ j ∧ j < i ∧ j < 256) := ⟨by omega, by have := HQ.out; omega, by have := HQ.out; omega⟩
                have j0 : (0 : Int) ≤ (j : Int) := by omega
                have j1 : (j : Int) < 256 := by have := HJ.out; omega
                have HT : Hid (t < zl ∧ i + t ≤ 4000000000000000000) := ⟨htz, by have := HQ.out; omega⟩
                clear ej hj
                go_upto_region 27 with (fail)
                clear k0 k1 hke hcz hwq
                obtain ⟨wk, hwk⟩ : ∃ wk, wk = wr.alloc (.cells #[.int .i64 7, .int .i64 (j : Int)] KT) := ⟨_, rfl⟩
                rw [← hwk]
                have hbk : Below wr.heap.size wr wk := by rw [hwk]; exact sup_pc9 wr _
                have hXk : Blo wk wr.heap.size KT #[.int .i64 7, .int .i64 (j : Int)] := by rw [hwk]; exact blo_laid wr _ _
                have HSk := Lib.hid (And.intro ((HS.out.1.later hbk).key hXk) (own_later HS.out.2.1 hbk))
                have hGt := HS.out.2.2.get ((HS.out.1.later hbk).ca.nodup) HJ.out.1 HJ.out.2.1
                have HGt := Lib.hid (HSk.out.1.get_someO (wf_of (by decide) (by decide) (by omega) (by omega)) HT.out.2 hGt.1)
                have HI2 := Lib.hid hGt.2
                obtain ⟨k0, k1⟩ := HSk.out.1.cells (.head _)
                clear hwk hbk hXk hGt HS
                generalize wr.heap.size = kb at *
                go_upto_region 28 with (go_at_call 22; refine HGt.out.mono ?_; rintro e w6 ⟨g5, c5, rfl, hS6, hown6, ho6⟩; have HS6 := Lib.hid (And.intro hS6 (own_call HSk.out.1.ca ho6 HSk.out.2)); have HOw6 := Lib.hid hown6; clear hS6 hown6 ho6)
                clear k0 k1 HGt HSk
                have hbyt : ∀ y ∈ byt [j, 1], y < 256 := byt_byte (fun y hy => by
                  rcases List.mem_cons.1 hy with e | e
                  · have := HJ.out.2.2; omega
                  · have : y = 1 := by simpa using e
                    omega)
                have HBs : Hid (Bytes w6 (some ⟨g5, 0, none⟩) (byt [j, 1])) := by
                  have ho := HOw6.out
                  rw [dtL_gd (byt_length _)] at ho
                  obtain ⟨a', cap', q1, -, q2, -⟩ := Bytes.own ho hbyt
                  cases q1
                  exact q2
                obtain ⟨s, hs⟩ : ∃ s, s = strOf (byt [j, 1]) := ⟨_, rfl⟩
                have HKp : Hid (∀ W : World, Below w6.heap.size w6 W → W.cell? ⟨kb, 1, none⟩ = some (.int .i64 (j : Int)) ∧ (convert BYS 9 (.slice (some ⟨g5, 0, none⟩) 64 c5)).run Try.prog W = .ok (.string s) W) := fun W hb =>
                  ⟨((HS6.out.1.later hb).cells (.head _)).2, by rw [hs]; exact run_str W _ _ _ Try.underlying35 Try.underlying5 Try.underlying9 (byt [j, 1]) _ 64 c5 (byt_length _).symm (HBs.out.below hb)⟩
                have HBy2 : Hid (Calls Try.prog 12 #[.slice (some ⟨w6.heap.size, 0, none⟩) 2 2] (w6.alloc (.cells #[.int .u8 (j : Int), .int .u8 1] U8)).drew (BytO (w6.alloc (.cells #[.int .u8 (j : Int), .int .u8 1] U8)).drew (byt [j, 1]))) := bytes_twoD w6 j HJ.out.2.2
                have HAl : Hid (Below w6.heap.size w6 (w6.alloc (.cells #[.int .u8 (j : Int), .int .u8 1] U8)).drew) := (sup_pc9 w6 _).drew
                have hw8 : IntKind.u8.wrap (j : Int) = (j : Int) := by rw [IntKind.wrap_u8]; omega
                have hss : (s.toList == s.toList) = true := by simp
                have HStr : Hid (∀ (W : World) (g2 : Nat), BBlk W g2 (byt [j, 1]) → (convert BYS 9 (.slice (some ⟨g2, 0, none⟩) 64 64)).run Try.prog W = .ok (.string s) W) := fun W g2 hg => by
                  rw [hs]
                  exact run_str W _ _ _ Try.underlying35 Try.underlying5 Try.underlying9 (byt [j, 1]) _ 64 64 (byt_length _).symm ⟨hg.2.2, by rw [hg.2.1]; decide, fun _ => ⟨g2, 0, rfl, fun i hi => by rw [Nat.zero_add, hg.1.cell, List.getElem?_toArray, cellsB_get _ i hi]⟩⟩
                clear hs hbyt HBs HOw6
                first | (go_region_held (fun W => W.cell? ⟨kb, 1, none⟩ = some (.int .i64 (j : Int)) ∧ (convert BYS 9 (.slice (some ⟨g5, 0, none⟩) 64 c5)).run Try.prog W = .ok (.string s) W)
                  (first | exact HKp.out _ ((Below.refl _ _).drew) | exact HKp.out _ HAl.out | exact HKp.out _ HBb.out | fail)
                  (first
                    | (go_at_call 12; (with_reducible refine HBy2.out.mono ?_); rintro e Wb ⟨g2, rfl, hg2, -, hb2⟩; have HBb := Lib.hid (HAl.out.trans (hb2.mono HAl.out.size)); have hcv := HStr.out _ _ hg2; clear hg2 hb2)
                    | fail)) | fail
                all_goals
                  rename_i hHeld
                  have HR : Hid (RwG w bc bm r i lo C (some ⟨g, 0, none⟩) lc q ps zl (.int .i64 (j : Int)) (.int .i64 ((t : Int) + 1)) Wb) := ⟨t + 1, (j : Int), _, HT.out.1, rfl, rfl, HI2.out, (HS6.out.1.later HBb.out).few, own_later HS6.out.2 HBb.out⟩
                  obtain ⟨kz, -⟩ := HKp.out _ HBb.out
                  clear hHeld HKp HBy2 HAl HStr hcv HBb HS6 HI2 HJ
                  go_wp2_with fail
                  go_roundw
                  case rel => exact HR.out
                  case measure => have := HT.out.1; simp [intOf]; omega
            · have t1 : ¬ (t : Int) < (zl : Int) := by omega
              obtain ⟨ps2, hps2⟩ : ∃ ps2, L.map Bk.key = ps2 := ⟨_, rfl⟩
              have hl2 : ps2.length = q := by rw [← hps2, List.length_map, HS.out.2.2.len]; exact HQ.out.1.symm
              have HOr := Lib.hid (HS.out.1.order hps2)
              have HE2 : Hid (last < 0 ∨ ∃ (q1 j : Nat), q = q1 + 1 ∧ last = (j : Int) ∧ ps2[q1]? = some (7, (j : Int))) := by
                rcases HS.out.2.2.end_ with h | ⟨L0, j, h1, h2⟩
                · exact .inl h
                · refine .inr ⟨L0.length, j, ?_, h1, ?_⟩
                  · rw [← hl2, ← hps2, h2]; simp
                  · rw [← hps2, h2]; simp [rwB]
              rw [hl2] at HOr
              clear hps2 HS
              go_wp2_with fail
              refine HOr.out.mono ?_
              rintro e w9 ⟨oa, oc, rfl, hown9, hS9⟩
              have HB9 := Lib.hid hS9.below
              clear hS9 HOr
              rcases HE2.out with hlast | ⟨q1, j, hq1, rfl, hj⟩
              · clear HE2 hown9 hl2
                go_wp2_with fail
                go_ret
                exact ⟨rfl, HB9.out⟩
              · obtain ⟨g9, rfl, -, k9⟩ := own_key hown9 hj
                have e5 : (q : Int) - 1 = (q1 : Int) := by omega
                have e6 : (q1 : Int) < (q : Int) := by omega
                have e7 : (0 : Int) ≤ (q1 : Int) := by omega
                have e8 : ¬ (j : Int) < 0 := by omega
                have hjj : ((j : Int) == (j : Int)) = true := by simp
                clear HE2 hown9 hl2 hj hq1
                go_wp2_with fail
                go_ret
                exact ⟨rfl, HB9.out⟩
theorem cacheRow_walk (a b : Int) (za : Option Addr) (zl zc : Nat) (zs : List Int) (w : World) (_ : (Lit.int .i64 a).wf = true) (_ : (Lit.int .i64 b).wf = true) (hz : IntsIn w za zl zc zs) (hz2 : zl ≤ 140737488351232) :
    Calls Try.prog 5 #[.int .i64 a, .int .i64 b, .slice za zl zc] w fun e w' => e = .returned (.bool true) ∧ Below w.heap.size w w' := cacheRow_any a b za zl zc zs w hz hz2
end Go.Proofs.Ytdnkeplmjimjcaa
