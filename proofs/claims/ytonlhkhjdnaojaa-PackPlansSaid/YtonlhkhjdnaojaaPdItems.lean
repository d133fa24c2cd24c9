/-
  The document's pack: Items, fits.
-/
import Derived.Test.YtonlhkhjdnaojaaPcAll
import Derived.Test.YtonlhkhjdnaojaaQuiet
namespace Go.Proofs.Ytonlhkhjdnaojaa
open Go.RowKit

abbrev ITM := 62
theorem info_itm : (Try.prog.info? ITM).map (fun i => (i.zero, i.size, i.bytes)) = some (some (.agg #[.int .i64 0, .int .i64 0]), 2, 16) := by kernel_rfl
def cellX (x : It) : List Value := [.int .i64 ((x.f : Int) - 1), .int .i64 x.n]
def rowX (B : List It) : List Value := B.flatMap cellX
theorem rowX_append (B C : List It) : rowX B ++ rowX C = rowX (B ++ C) := by simp [rowX]
theorem rowX_snoc (B : List It) (x : It) : rowX B ++ cellX x = rowX (B ++ [x]) := by simp [rowX]
theorem rowX_len (B : List It) : (rowX B).length = B.length * 2 := by
  induction B with
  | nil => rfl
  | cons x B ih => rw [rowX, List.flatMap_cons, List.length_append]; simp only [rowX] at ih; rw [ih]; simp [cellX]; omega
theorem rowX_get : ∀ (B : List It) (i : Nat) (x : It), B[i]? = some x → (rowX B)[i * 2]? = some (.int .i64 ((x.f : Int) - 1)) ∧ (rowX B)[i * 2 + 1]? = some (.int .i64 x.n)
  | [], i, x, h => by simp at h
  | y :: B, 0, x, h => by
    have : y = x := by simpa using h
    subst this
    exact ⟨rfl, rfl⟩
  | y :: B, i + 1, x, h => by
    have ih := rowX_get B i x (by simpa using h)
    rw [rowX, List.flatMap_cons, List.getElem?_append_right (by simp [cellX]; omega), List.getElem?_append_right (by simp [cellX]; omega)]
    have : (cellX y).length = 2 := rfl
    rw [this, show (i + 1) * 2 - 2 = i * 2 by omega, show (i + 1) * 2 + 1 - 2 = i * 2 + 1 by omega]
    exact ih
theorem cellX_one (x : It) : ∀ u ∈ cellX x, u.oneCell' = true := fun u hu => by
  rcases List.mem_cons.1 hu with e | hu
  · rw [e]; rfl
  · rw [List.mem_singleton.1 hu]; rfl
theorem rowX_one (B : List It) : ∀ u ∈ rowX B, u.oneCell' = true := fun u hu => by
  obtain ⟨x, _, hx⟩ := List.mem_flatMap.1 hu
  exact cellX_one x u hx
/-- A slice of items that is read. -/
def ItR (w : World) (a : Option Addr) (L : List It) : Prop := ∀ i x, L[i]? = some x → ∃ b o, a = some ⟨b, o, none⟩ ∧ w.cell? ⟨b, o + i * 2, none⟩ = some (.int .i64 ((x.f : Int) - 1)) ∧ w.cell? ⟨b, o + i * 2 + 1, none⟩ = some (.int .i64 x.n)
theorem ItR.later {w w' : World} {a : Option Addr} {L : List It} (h : ItR w a L) (hb : Below w.heap.size w w') : ItR w' a L := fun i x hx => by
  obtain ⟨b, o, h1, h2, h3⟩ := h i x hx
  exact ⟨b, o, h1, cell_later hb h2, cell_later hb h3⟩
theorem ItR.own {w : World} {base n c : Nat} {a : Option Addr} {L : List It} (h : w.ownsRow base ITM 2 (.slice a n c) n (rowX L)) : ItR w a L := fun i x hx => by
  obtain ⟨h1, h2⟩ := rowX_get L i x hx
  have hr := Rds.own h
  obtain ⟨b, o, e, q1⟩ := hr _ _ h1
  obtain ⟨b', o', e', q2⟩ := hr _ _ h2
  rw [e] at e'
  cases e'
  exact ⟨b, o, e, q1, by rw [Nat.add_assoc]; exact q2⟩
theorem ItR.src {w : World} {a : Option Addr} {L : List It} (h : ItR w a L) : ∀ ad, a = some ad → ∀ j u, (rowX L)[j]? = some u → w.cell? (ad.add j) = some u := fun ad ha j u hj => by
  have hjl : j < L.length * 2 := by have := (List.getElem?_eq_some_iff.1 hj).1; rwa [rowX_len] at this
  have hx : ∃ x, L[j / 2]? = some x := ⟨L[j / 2]'(by omega), List.getElem?_eq_getElem (by omega)⟩
  obtain ⟨x, hx⟩ := hx
  obtain ⟨b, o, e, q1, q2⟩ := h _ x hx
  obtain ⟨r1, r2⟩ := rowX_get L _ x hx
  rw [ha] at e
  cases e
  rw [Addr.add_lit]
  rcases (by omega : j = j / 2 * 2 ∨ j = j / 2 * 2 + 1) with e | e
  · rw [e] at hj ⊢
    rw [r1] at hj; cases hj; exact q1
  · rw [e] at hj ⊢
    rw [r2] at hj; cases hj
    rw [← Nat.add_assoc]; exact q2
theorem laid_X (w : World) (x : It) : ∀ ad, some (⟨w.heap.size, 0, none⟩ : Addr) = some ad → ∀ j u, (cellX x)[j]? = some u → (w.alloc (.cells #[.int .i64 ((x.f : Int) - 1), .int .i64 x.n] ITM)).cell? (ad.add j) = some u := laid_src w ITM _ _ rfl
section
variable {w : World} {fs : List Fi} {is : List Int} (fa : Option Addr) (fn fc : Nat) (ia : Option Addr) (inn ic : Nat)
set_option maxRecDepth 100000 in
set_option maxHeartbeats 4000000 in
theorem ritems_any (hF : Fis w fa fs) (hI : Ints w ia is) (hn : fn = fs.length) (hin : inn = is.length) (hfn : fn ≤ 300) (hi3 : inn ≤ 300) (hbl : blF fs ≤ 300) :
    Calls Try.prog 20 #[.slice fa fn fc, .slice ia inn ic] w fun e w' => ∃ a c, e = .returned (.slice a (items fs is).length c) ∧ w'.ownsRow w.heap.size ITM 2 (.slice a (items fs is).length c) (items fs is).length (rowX (items fs is)) ∧ Below w.heap.size w w' := by
  have HF := Lib.hid hF
  have HI := Lib.hid hI
  have HN := Lib.hid hn
  have HIn := Lib.hid hin
  have hlen : ∀ k, (itF 0 (fs.take k)).length ≤ 300 := fun k => by
    have : ∀ (l : List Fi) (k0 : Nat), (itF k0 l).length = blF l := fun l => by
      induction l with
      | nil => intro k0; rfl
      | cons x r ih => intro k0; rw [itF, List.length_append, List.length_map, ih]; simp [blF]
    rw [this]
    exact Nat.le_trans (blF_take fs k) hbl
  have HLe := Lib.hid hlen
  clear hF hI hn hin hlen hbl
  go_enter Try.func20, Try.ntmps20
  go_wp2_with fail
  go_loopw [5, 11] (fun v t wr => ∃ k : Nat, k ≤ fn ∧ t = .int .i64 k ∧ wr.ownsRow w.heap.size ITM 2 v (itF 0 (fs.take k)).length (rowX (itF 0 (fs.take k))) ∧ Below w.heap.size w wr) (fun _ t _ => fn - (intOf t).toNat)
  case atStart => exact ⟨0, Nat.zero_le _, rfl, own_nil _ _ _ _, Below.refl _ _⟩
  case round =>
    obtain ⟨k, hk, rfl, hO, hB⟩ := hrel
    by_cases hlt : k < fn
    · have hkl : k < fs.length := by rw [← HN.out]; exact hlt
      obtain ⟨b, o, lc, lcp, rfl, -, -, d3, d4⟩ := HF.out.at hkl
      have hts := itF_takeS fs k hkl
      have hl0 := HLe.out k
      have hl1 := HLe.out (k + 1)
      rw [hts, List.length_append, List.length_map] at hl1
      obtain ⟨xl, hx⟩ : ∃ xl, (fs.getD k fi0).lb = xl := ⟨_, rfl⟩
      rw [hx] at d3 d4 hts hl1
      obtain ⟨mm, hmm⟩ : ∃ mm, xl.length = mm := ⟨_, rfl⟩
      rw [hmm] at d3 hl1
      have HTs := Lib.hid hts
      have HMm := Lib.hid hmm
      have HD3 := Lib.hid d3
      have HD4 := Lib.hid d4
      obtain ⟨B, hB0⟩ : ∃ B, itF 0 (fs.take k) = B := ⟨_, rfl⟩
      rw [hB0] at hO hts hl0 hl1
      have HB0 := Lib.hid hB0
      have HO := Lib.hid hO
      have HBw := Lib.hid hB
      have k0 : (0 : Int) ≤ (k : Int) := by omega
      have k1 : (k : Int) < (fn : Int) := by omega
      have hc3 := cell_later hB d3
      clear hkl d3 d4 hts hx hmm hO hB hB0
      go_wp2_with fail
      clear hc3
      go_loopw [5, 20] (fun v t wx => ∃ j : Nat, j ≤ mm ∧ t = .int .i64 j ∧ wx.ownsRow w.heap.size ITM 2 v (B.length + j) (rowX (B ++ (xl.take j).map (It.mk (k + 1)))) ∧ Below w.heap.size w wx) (fun _ t _ => mm - (intOf t).toNat)
      case atStart => exact ⟨0, Nat.zero_le _, rfl, by simpa using HO.out, HBw.out⟩
      case round =>
        clear HO HBw
        obtain ⟨j, hj, rfl, hO, hB⟩ := hrel
        by_cases hlj : j < mm
        · have hjl : j < xl.length := by have := HMm.out; omega
          obtain ⟨eb, eo, rfl, he⟩ := HD4.out (fun e => by rw [e] at hjl; cases hjl)
          have e0 := cell_later hB (he j hjl)
          have hc3 := cell_later hB HD3.out
          have htk := take_snocF xl 0 j hjl
          obtain ⟨y, hy⟩ : ∃ y, xl.getD j 0 = y := ⟨_, rfl⟩
          rw [hy] at e0 htk
          have hb7 := sup_pc wr (.cells #[.int .i64 k, .int .i64 y] ITM)
          have HO7 := Lib.hid (own_later hO hb7)
          have HB7 := Lib.hid (hB.trans (hb7.mono hB.size))
          have hsz : w.heap.size ≤ wr.heap.size := hB.size
          have HE : Hid (rowX (B ++ (xl.take j).map (It.mk (k + 1))) ++ cellX ⟨k + 1, y⟩ = rowX (B ++ (xl.take (j + 1)).map (It.mk (k + 1)))) := by
            show _ = _
            rw [rowX_snoc, htk, List.map_append, List.append_assoc]; rfl
          have HLd : Hid (∀ ad, some (⟨wr.heap.size, 0, none⟩ : Addr) = some ad → ∀ q u, (cellX ⟨k + 1, y⟩)[q]? = some u → (wr.alloc (.cells #[.int .i64 k, .int .i64 y] ITM)).cell? (ad.add q) = some u) := laid_src wr ITM _ _ (by simp [cellX])
          have j0 : (0 : Int) ≤ (j : Int) := by omega
          have j1 : (j : Int) < (mm : Int) := by omega
          clear hjl he htk hy hb7 hO hB
          go_wp2_with (at_builtin; refine wp_append_row rfl (.tmp 23) (.tmp 34) 41 rfl w.heap.size ITM _ 2 16 Try.underlying41 info_itm (by kernel_rfl) (by decide) (by decide) _ (B.length + j) _ rfl HO7.out (some ⟨wr.heap.size, 0, none⟩) 1 1 (cellX ⟨k + 1, y⟩) rfl rfl HLd.out (cellX_one _) (fun h => by cases h) (by omega) (by simp; omega) ?_; intro a' cap' w7 hown hgrow; have HBg := Lib.hid (HB7.out.grown hgrow HB7.out.size (fun q e => (own_bd HO7.out e).1)); rw [HE.out] at hown; have HOn := Lib.hid hown; clear hown hgrow)
          clear e0 hc3
          go_roundw
          case rel => exact ⟨j + 1, by omega, by simp, HOn.out, HBg.out⟩
          case measure => simp [intOf]; omega
        · have hjm : xl.take j = xl := by rw [List.take_of_length_le]; have := HMm.out; omega
          have hje : j = mm := by omega
          rw [hjm, ← HB0.out, ← HTs.out] at hO
          have HOn : Hid (wr.ownsRow w.heap.size ITM 2 u5 (itF 0 (fs.take (k + 1))).length (rowX (itF 0 (fs.take (k + 1))))) := by
            have hl := hO.1
            rw [rowX_len] at hl
            have : (itF 0 (fs.take (k + 1))).length = (itF 0 (fs.take k)).length + j := by omega
            show World.ownsRow _ _ _ _ _ _ _
            rw [this]; exact hO
          have HBn := Lib.hid hB
          have k9 : ¬ (j : Int) < (mm : Int) := by omega
          clear hO hB hjm
          go_wp2_with fail
          go_roundw
          case rel => exact ⟨k + 1, by omega, by simp, HOn.out, HBn.out⟩
          case measure => simp [intOf]; omega
    · have hkn : fs.take k = fs := by rw [List.take_of_length_le]; have := HN.out; omega
      have hl0 := HLe.out k
      rw [hkn] at hO hl0
      obtain ⟨B, hB0⟩ : ∃ B, itF 0 fs = B := ⟨_, rfl⟩
      rw [hB0] at hO hl0
      have hit : items fs is = B ++ is.map (It.mk 0) := by unfold items; rw [hB0]
      have HIt := Lib.hid hit
      have HO := Lib.hid hO
      have HBw := Lib.hid hB
      have k9 : ¬ (k : Int) < (fn : Int) := by omega
      clear hkn hO hB hB0 hit
      go_wp2_with fail
      go_loopw [5, 40] (fun v t wx => ∃ j : Nat, j ≤ inn ∧ t = .int .i64 j ∧ wx.ownsRow w.heap.size ITM 2 v (B.length + j) (rowX (B ++ (is.take j).map (It.mk 0))) ∧ Below w.heap.size w wx) (fun _ t _ => inn - (intOf t).toNat)
      case atStart => exact ⟨0, Nat.zero_le _, rfl, by simpa using HO.out, HBw.out⟩
      case round =>
        clear HO HBw
        obtain ⟨j, hj, rfl, hO, hB⟩ := hrel
        by_cases hlj : j < inn
        · have hjl : j < is.length := by rw [← HIn.out]; exact hlj
          obtain ⟨eb, eo, rfl, he⟩ := HI.out (fun e => by rw [e] at hjl; cases hjl)
          have e0 := cell_later hB (he j hjl)
          have htk := take_snocF is 0 j hjl
          obtain ⟨y, hy⟩ : ∃ y, is.getD j 0 = y := ⟨_, rfl⟩
          rw [hy] at e0 htk
          have hb7 := sup_pc wr (.cells #[.int .i64 (-1), .int .i64 y] ITM)
          have HO7 := Lib.hid (own_later hO hb7)
          have HB7 := Lib.hid (hB.trans (hb7.mono hB.size))
          have hsz : w.heap.size ≤ wr.heap.size := hB.size
          have HE : Hid (rowX (B ++ (is.take j).map (It.mk 0)) ++ cellX ⟨0, y⟩ = rowX (B ++ (is.take (j + 1)).map (It.mk 0))) := by
            show _ = _
            rw [rowX_snoc, htk, List.map_append, List.append_assoc]; rfl
          have HLd : Hid (∀ ad, some (⟨wr.heap.size, 0, none⟩ : Addr) = some ad → ∀ q u, (cellX ⟨0, y⟩)[q]? = some u → (wr.alloc (.cells #[.int .i64 (-1), .int .i64 y] ITM)).cell? (ad.add q) = some u) := laid_src wr ITM _ _ rfl
          have j0 : (0 : Int) ≤ (j : Int) := by omega
          have j1 : (j : Int) < (inn : Int) := by omega
          clear hjl he htk hy hb7 hO hB
          go_wp2_with (at_builtin; refine wp_append_row rfl (.tmp 43) (.tmp 49) 41 rfl w.heap.size ITM _ 2 16 Try.underlying41 info_itm (by kernel_rfl) (by decide) (by decide) _ (B.length + j) _ rfl HO7.out (some ⟨wr.heap.size, 0, none⟩) 1 1 (cellX ⟨0, y⟩) rfl rfl HLd.out (cellX_one _) (fun h => by cases h) (by omega) (by simp; omega) ?_; intro a' cap' w7 hown hgrow; have HBg := Lib.hid (HB7.out.grown hgrow HB7.out.size (fun q e => (own_bd HO7.out e).1)); rw [HE.out] at hown; have HOn := Lib.hid hown; clear hown hgrow)
          clear e0
          go_roundw
          case rel => exact ⟨j + 1, by omega, by simp, HOn.out, HBg.out⟩
          case measure => simp [intOf]; omega
        · have hjn : is.take j = is := by rw [List.take_of_length_le]; have := HIn.out; omega
          rw [hjn, ← HIt.out] at hO
          have hl := hO.1
          rw [rowX_len] at hl
          have hbj : B.length + j = (items fs is).length := by omega
          rw [hbj] at hO
          obtain ⟨a', c', rfl, _⟩ := own_slice hO
          have HOn := Lib.hid hO
          have HBn := Lib.hid hB
          have k9 : ¬ (j : Int) < (inn : Int) := by omega
          clear hO hB hjn hl hbj
          go_wp2
          go_ret
          exact ⟨a', c', rfl, HOn.out, HBn.out⟩
end
end Go.Proofs.Ytonlhkhjdnaojaa
