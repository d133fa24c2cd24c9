/-
  The closure of Until; first.
-/
import Derived.Test.YtblpfgjjiihjoaaPkRank
namespace Go.Proofs.Ytblpfgjjiihjoaa
open Go.RowKit

section
variable {w w' : World} {a : Option Addr} {l : List Cd} {n cap : Nat}
/-- How much room they make. -/
def roomC (l : List Cd) : Int := (l.map fun c => c.cap - c.live).sum
theorem roomC_snoc (l : List Cd) (c : Cd) : roomC (l ++ [c]) = roomC l + (c.cap - c.live) := by
  simp [roomC]
theorem roomC_bd (l : List Cd) : GoodL l → 0 ≤ roomC l ∧ roomC l ≤ 64 * (l.length : Int) := by
  refine list_snoc (p := fun l => GoodL l → 0 ≤ roomC l ∧ roomC l ≤ 64 * (l.length : Int)) (fun _ => by simp [roomC]) (fun l c ih hg => ?_) l
  have h1 := ih (fun x hx => hg x (List.mem_append_left _ hx))
  have h2 := hg c (by simp)
  unfold GoodC at h2
  rw [roomC_snoc, List.length_append, List.length_singleton]
  omega
theorem take_snocC (l : List Cd) (k : Nat) (h : k < l.length) : l.take (k + 1) = l.take k ++ [l.getD k c0] := by
  rw [List.take_add_one, List.getElem?_eq_getElem h, List.getD_eq_getElem?_getD, List.getElem?_eq_getElem h]
  rfl
theorem GoodL.take (h : GoodL l) (k : Nat) : GoodL (l.take k) := fun c hc => h c (List.mem_of_mem_take hc)
structure UnR (w : World) (a : Option Addr) (l : List Cd) (p : Addr) (r : Int) (wr : World) : Prop where
  list : Cds wr a l
  room : wr.cell? p = some (.int .i64 r)
  below : Below w.heap.size w wr
theorem UnR.later {p : Addr} {r : Int} {wr : World} (h : UnR w a l p r wr) (hb : Below wr.heap.size wr w') : UnR w a l p r w' := ⟨h.list.below hb, cell_later hb h.room, h.below.trans (hb.mono h.below.size)⟩
def UnI (w : World) (a : Option Addr) (l : List Cd) (n : Nat) (p : Addr) (r : Int) (m i : Value) (wr : World) : Prop :=
  ∃ k : Nat, k ≤ n ∧ i = .int .i64 k ∧ m = .int .i64 (roomC (l.take k)) ∧ UnR w a l p r wr
set_option maxHeartbeats 4000000 in
theorem until_any (p : Addr) (r : Int) (hC : Cds w a l) (hn : n = l.length) (hmx : n ≤ 512) (hg : GoodL l) (hp : w.cell? p = some (.int .i64 r)) :
    Calls Try.prog 24 #[.slice a n cap, .pointer (some p)] w fun e w' => e = .returned (.bool (decide (roomC l < r))) ∧ Below w.heap.size w w' := by
  have HR := Lib.hid (show UnR w a l p r w from ⟨hC, hp, Below.refl _ _⟩)
  have HN := Lib.hid hn
  have HG := Lib.hid hg
  clear hC hn hg hp
  go_enter Try.func24, Try.ntmps24
  go_wp2_with fail
  go_loopw [4, 9] (fun m i wr => UnI w a l n p r m i wr) (fun _ i _ => n - (intOf i).toNat)
  case atStart => exact ⟨0, Nat.zero_le _, rfl, rfl, HR.out⟩
  case round =>
    clear HR
    obtain ⟨k, hk, rfl, rfl, hR⟩ := hrel
    have HR := Lib.hid hR
    clear hR
    by_cases hlt : k < n
    · have hkl : k < l.length := by rw [← HN.out]; exact hlt
      obtain ⟨b, o, rfl, q1, q2, q3, q4⟩ := HR.out.list.at hkl
      have hgc := HG.out.at hkl
      have hbd := roomC_bd _ (HG.out.take k)
      have hsn := take_snocC l k hkl
      have hlen : (l.take k).length ≤ 512 := by rw [List.length_take]; omega
      obtain ⟨c, hc⟩ : ∃ c, l.getD k c0 = c := ⟨_, rfl⟩
      rw [hc] at q1 q2 q3 q4 hgc hsn
      obtain ⟨M, hM⟩ : ∃ M, roomC (l.take k) = M := ⟨_, rfl⟩
      have HS : Hid (roomC (l.take (k + 1)) = M + (c.cap - c.live)) := by show _ = _; rw [hsn, roomC_snoc, hM]
      rw [hM] at hbd
      unfold GoodC at hgc
      have m1 : 0 ≤ M := hbd.1
      have m2 : M ≤ 32768 := by omega
      have m3 : 0 ≤ c.cap - c.live := by omega
      have m4 : c.cap - c.live ≤ 64 := by omega
      have HRo := Lib.hid (fun W => room_any c.seg c.live c.cap c.age W (by omega) (by omega))
      have HR1 := Lib.hid (HR.out.later (sup_pk wr (.cells #[.int .i64 c.seg, .int .i64 c.live, .int .i64 c.cap, .int .i64 c.age] CD)))
      simp only [hM]
      clear HR hkl hgc hbd hsn hlen hc hM
      go_wp2_with fail
      refine (HRo.out _).mono ?_
      rintro e w5 ⟨rfl, hb⟩
      have HR5 := Lib.hid (HR1.out.later hb)
      clear hb HRo HR1 q1 q2 q3 q4
      go_wp2_with fail
      go_roundw
      case rel => exact ⟨k + 1, by omega, by simp, by rw [HS.out], HR5.out⟩
      case measure => simp [intOf]; omega
    · have hkn : l.take k = l := by rw [List.take_of_length_le]; have := HN.out; omega
      have hp := HR.out.room
      have HB := Lib.hid HR.out.below
      simp only [hkn]
      clear HR hkn
      go_wp2
      go_ret
      exact ⟨rfl, HB.out⟩
theorem Cds.one (w : World) (c : Cd) (t : TypeId) : Cds (w.alloc (.cells #[.int .i64 c.seg, .int .i64 c.live, .int .i64 c.cap, .int .i64 c.age] t)) (some ⟨w.heap.size, 0, none⟩) [c] := fun _ => by
  refine ⟨w.heap.size, 0, rfl, fun i hi => ?_⟩
  have hi0 : i = 0 := by simpa using hi
  subst hi0
  have h := blo_laid w t #[.int .i64 c.seg, .int .i64 c.live, .int .i64 c.cap, .int .i64 c.age]
  exact ⟨h.cell 0, h.cell 1, h.cell 2, h.cell 3⟩
def lenS : Value → Nat
  | .slice _ n _ => n
  | _ => 0
theorem own_fr2 {g po base n : Nat} {e : TypeId} {size : Nat} {v : Value} {xs : List Value} (h : w.ownsRow base e size v n xs) (hf : Fr2 g po w w') (h1 : v.ownBlock ≠ some g) (h2 : v.ownBlock ≠ some po) : w'.ownsRow base e size v n xs := by
  obtain ⟨q1, q2 | ⟨g', cap, cur, rfl, a1, a2, a3⟩⟩ := h
  · exact ⟨q1, .inl q2⟩
  · exact ⟨q1, .inr ⟨g', cap, cur, rfl, a1, hf g' e cur (fun e => h1 (by rw [e]; rfl)) (fun e => h2 (by rw [e]; rfl)) a2, a3⟩⟩
theorem Hp.grown {po gr m cap : Nat} {t : TypeId} {h : Nat → Rk} {row : Option Nat} (hH : Hp w po gr m cap t h) (hb : w.grownBy w' row) (h1 : some po ≠ row) (h2 : some gr ≠ row) : Hp w' po gr m cap t h := by
  obtain ⟨⟨⟨cs, r1, r2⟩, r3⟩, v, ne⟩ := hH
  exact ⟨⟨⟨cs, r1.grown hb h2, r2⟩, r3⟩, v.grown hb h1, ne⟩
structure FiR (w : World) (S : List Rk) (n po gr k : Nat) (v : Value) (h : Nat → Rk) (wr : World) : Prop where
  own : wr.ownsRow w.heap.size CD 4 v k (cellsI (flatC ((S.take k).map Rk.c)))
  holds : Holds (n - k) h (S.drop k)
  heap : Hp wr po gr (n - k) n OT h
  pos : w.heap.size ≤ po ∧ w.heap.size ≤ gr
  below : Below w.heap.size w wr
def FiI (w : World) (S : List Rk) (n po gr : Nat) (M : List Cd → Bool) (v : Value) (wr : World) : Prop :=
  ∃ k h a cp, k ≤ n ∧ v = .slice a k cp ∧ (∀ j, j < k → M ((S.take j).map Rk.c) = true) ∧ FiR w S n po gr k v h wr
def FirstOut (w : World) (M : List Cd → Bool) (T : List Cd) (e : Ending) (w' : World) : Prop :=
  ∃ k a cp, e = .returned (.slice a k cp) ∧ k ≤ T.length ∧ (∀ j, j < k → M (T.take j) = true) ∧ (k < T.length → M (T.take k) = false) ∧ w'.ownsRow w.heap.size CD 4 (.slice a k cp) k (cellsI (flatC (T.take k))) ∧ Below w.heap.size w w'
theorem FiR.later {S : List Rk} {po gr k : Nat} {v : Value} {h : Nat → Rk} {wr : World} (hR : FiR w S n po gr k v h wr) (hb : Below wr.heap.size wr w') : FiR w S n po gr k v h w' :=
  ⟨own_later hR.own hb, hR.holds, hR.heap.later hb, hR.pos, hR.below.trans (hb.mono hR.below.size)⟩
theorem drop_head {S : List Rk} {k : Nat} {x : Rk} {r : List Rk} (h : S.drop k = x :: r) : r = S.drop (k + 1) ∧ S.take (k + 1) = S.take k ++ [x] ∧ k < S.length := by
  have hk : k < S.length := by
    rcases Nat.lt_or_ge k S.length with q | q
    · exact q
    · rw [List.drop_eq_nil_of_le q] at h; cases h
  rw [List.drop_eq_getElem_cons hk] at h
  injection h with h1 h2
  refine ⟨h2.symm, ?_, hk⟩
  rw [List.take_add_one, List.getElem?_eq_getElem hk, h1]
  rfl
theorem FiR.apart {S : List Rk} {po gr k : Nat} {v : Value} {h : Nat → Rk} {wr : World} (hR : FiR w S n po gr k v h wr) : v.ownBlock ≠ some gr ∧ v.ownBlock ≠ some po := by
  obtain ⟨⟨⟨cs, r1, r2⟩, r3⟩, vv, ne⟩ := hR.heap
  exact ⟨fun e => r1.row_apart hR.own (by decide) e.symm, fun e => vv.row_apart hR.own (by decide) e.symm⟩
/-- Behind a Pop. -/
theorem FiR.popped {S : List Rk} {po gr k m : Nat} {v : Value} {h h' : Nat → Rk} {i' : Nat} {wr : World} (hR : FiR w S n po gr k v h wr) (hm : m + 1 = n - k) (hD : Dn m (swp h 0 m) 0 h' i') (hS : Still m h' i') (hH : Hp w' po gr m n OT h') (hb : Below w.heap.size wr w') (hf : Fr2 gr po wr w') :
    w'.ownsRow w.heap.size CD 4 v k (cellsI (flatC ((S.take k).map Rk.c))) ∧ Holds m h' (S.drop (k + 1)) ∧ S.take (k + 1) = S.take k ++ [h 0] ∧ k < S.length ∧ Below w.heap.size w w' := by
  have hh := hR.holds
  rw [← hm] at hh
  obtain ⟨r, hr⟩ := hh.head
  obtain ⟨q1, q2, q3⟩ := drop_head hr
  rw [hr] at hh
  have := hh.pop hD hS
  rw [q1] at this
  exact ⟨own_fr2 hR.own hf hR.apart.1 hR.apart.2, this, q2, q3, hR.below.trans hb⟩
theorem own_ge {w : World} {base n : Nat} {e : TypeId} {size : Nat} {v : Value} {xs : List Value} (h : w.ownsRow base e size v n xs) {q : Nat} (hq : v.ownBlock = some q) : base ≤ q := by
  rcases h.2 with ⟨rfl, _⟩ | ⟨g, cap, cur, rfl, a1, _⟩
  · cases hq
  · cases hq; exact a1
theorem first_end {M : List Cd → Bool} {S : List Rk} {po gr k : Nat} {h : Nat → Rk} {wr : World} {x : Option Addr} {cp : Nat} (hl : S.length = n) (hk : k ≤ n) (hall : ∀ j, j < k → M ((S.take j).map Rk.c) = true) (hno : k < n → M ((S.take k).map Rk.c) = false) (hR : FiR w S n po gr k (.slice x k cp) h wr) :
    FirstOut w M (S.map Rk.c) (.returned (.slice x k cp)) wr :=
  ⟨k, x, cp, rfl, by rw [List.length_map, hl]; exact hk, fun j hj => by rw [← List.map_take]; exact hall j hj, fun hj => by rw [← List.map_take]; exact hno (by rw [List.length_map, hl] at hj; exact hj), by rw [← List.map_take]; exact hR.own, hR.below⟩
theorem run_assert_rk (v : Value) (W : World) : (Instr.typeAssert (.iface RK v) 20 RK false).run Try.prog W = .ok v W := by
  simp [Instr.typeAssert, run_underlying Try.underlying50, go_sem, Result.andThen]
theorem run_field_rk (s l c a x : Value) (W : World) : (Instr.field RK (.agg #[s, l, c, a, x]) 0).run Try.prog W = .ok (.agg #[s, l, c, a]) W := by
  kernel_rfl
set_option maxHeartbeats 4000000 in
theorem first_any (M : List Cd → Bool) (F : FuncId) (p : Addr) (hE : ∀ (args : Array Value) (W : World), (callFunc F args).run Try.prog W = .ok (.enter F args) W) (hC : Cds w a l) (hn : n = l.length) (hmx : n ≤ 512) (hg : GoodL l)
    (hM : ∀ (W : World) (x : Option Addr) (k c : Nat) (xs : List Cd), Below w.heap.size w W → k = xs.length → k ≤ 512 → GoodL xs → Cds W x xs → Calls Try.prog F #[.slice x k c, .pointer (some p)] W fun e w' => e = .returned (.bool (M xs)) ∧ Below W.heap.size W w') :
    Calls Try.prog 20 #[.slice a n cap, .func (.func F) #[] #[.pointer (some p)]] w (FirstOut w M (ordC l)) := by
  obtain ⟨S, hS⟩ : ∃ S, ordR (rks l) = S := ⟨_, rfl⟩
  have hSC : ordC l = S.map Rk.c := by rw [← hS, ordR_map, rks_map]
  have HSC := Lib.hid hSC
  have HLen : Hid (S.length = n) := by
    have := ordC_length l
    rw [hSC, List.length_map] at this
    rw [hn]; exact this
  have HSG : Hid (∀ x ∈ S, GoodC x.c) := fun x hx => by
    rw [← hS, ordR_mem, rks_mem] at hx
    obtain ⟨i, hi, rfl⟩ := hx
    exact hg.at hi
  have HRk := Lib.hid (rank_any (cap := cap) hC hn hmx hg)
  have HM := Lib.hid hM
  rw [hSC]
  clear hC hn hg hM hSC
  go_enter Try.func20, Try.ntmps20
  go_wp2_with fail
  refine HRk.out.mono ?_
  rintro e w1 ⟨po, gr, h1, rfl, hho, hHp, hp1, hp2, hb1⟩
  rw [hS] at hho
  have HS0 : Hid (FiR w S n po gr 0 (.slice none 0 0) h1 w1) := ⟨World.ownsRow_nil _ _ _ _, hho, hHp, ⟨hp1, hp2⟩, hb1⟩
  clear HRk hho hHp hp1 hp2 hb1 hS
  go_wp2_with fail
  go_loopw [6] (fun v wr => FiI w S n po gr M v wr) (fun v _ => n - lenS v)
  case atStart => exact ⟨0, h1, none, 0, Nat.zero_le _, rfl, fun j hj => by omega, HS0.out⟩
  case round =>
    clear HS0
    obtain ⟨k, h, x, cp, hk, rfl, hall, hR⟩ := hrel
    have HAll := Lib.hid hall
    have HR := Lib.hid hR
    have v0 := hR.heap.cell
    clear hall hR
    obtain ⟨m0, hm0⟩ : ∃ m0, n - k = m0 := ⟨_, rfl⟩
    rw [hm0] at v0
    have HL := Lib.hid (fun W => len_any W gr m0 n)
    by_cases hlt : k < n
    · have t1 : (0 : Int) < (m0 : Int) := by omega
      have HMk := Lib.hid (HM.out wr x k cp ((S.take k).map Rk.c) HR.out.below (by rw [List.length_map, List.length_take, HLen.out]; omega) (by omega) (fun c hc => by
        obtain ⟨y, hy, rfl⟩ := List.mem_map.1 hc
        exact HSG.out y (List.mem_of_mem_take hy)) (Cds.own HR.out.own))
      have HM0 := Lib.hid hm0
      clear hm0
      cases hMk : M ((S.take k).map Rk.c) with
      | true =>
        rw [hMk] at HMk
        have HAll2 : Hid (∀ j, j < k + 1 → M ((S.take j).map Rk.c) = true) := fun j hj => by
          by_cases e : j = k
          · subst e; exact hMk
          · exact HAll.out j (by omega)
        clear hMk
        go_wp2_with fail
        refine (HL.out _).mono ?_
        rintro e w5 ⟨rfl, rfl⟩
        go_wp2_with fail
        refine HMk.out.mono ?_
        rintro e w5 ⟨rfl, hb⟩
        have HR5 := Lib.hid (HR.out.later hb)
        clear hb HMk HR HL v0 HM
        obtain ⟨m, hm⟩ : ∃ m, m + 1 = m0 := ⟨m0 - 1, by have := HM0.out; omega⟩
        subst hm
        have hH5 := HR5.out.heap
        rw [HM0.out] at hH5
        have hmn : m + 1 ≤ n := by have := HM0.out; omega
        have HPop := Lib.hid (heapPop_any (C := w.heap.size) hH5 rfl (by omega) HR5.out.pos.1 HR5.out.pos.2 hmn (by omega))
        clear hH5
        go_wp2_with fail
        refine HPop.out.mono ?_
        rintro e w6 ⟨h', i', rfl, hD, hS, hH6, hb6, hf6⟩
        obtain ⟨z1, z2, z3, z4, z5⟩ := HR5.out.popped HM0.out.symm hD hS hH6 hb6 hf6
        have HP1 := HR5.out.pos.1
        have HP2 := HR5.out.pos.2
        clear hD hS hb6 hf6 HPop HR5
        obtain ⟨c, hc⟩ : ∃ c, (h 0).c = c := ⟨_, rfl⟩
        have hmap : (S.take (k + 1)).map Rk.c = (S.take k).map Rk.c ++ [c] := by rw [z3, List.map_append, ← hc]; rfl
        have HMap := Lib.hid hmap
        have HO := Lib.hid (own_later z1 (sup_pk w6 (.cells #[.int .i64 c.seg, .int .i64 c.live, .int .i64 c.cap, .int .i64 c.age] CD)))
        have HHo := Lib.hid z2
        have HH6 := Lib.hid (hH6.later (sup_pk w6 (.cells #[.int .i64 c.seg, .int .i64 c.live, .int .i64 c.cap, .int .i64 c.age] CD)))
        have HB6 := Lib.hid z5
        have hsz6 : w.heap.size ≤ w6.heap.size := z5.size
        clear z1 z2 z3 z4 z5 hmap hH6
        have hta := run_assert_rk
        have hfd := run_field_rk
        unfold rkA
        simp only [hc]
        clear hc
        go_wp2_with (at_builtin; refine wp_append_cds rfl (.tmp 19) (.tmp 25) SC rfl w.heap.size CD Try.underlying22 info_cd (.slice x k cp) k ((S.take k).map Rk.c) rfl HO.out (some ⟨w6.heap.size, 0, none⟩) 1 1 [c] rfl rfl (Cds.one w6 c CD) (fun h => by cases h) (by omega) (by simp; omega) ?_; intro a' cap' w7 hown hgrow; have HO7 := Lib.hid hown; have HG7 := Lib.hid hgrow; clear hown hgrow)
        have hR7 : FiR w S n po gr (k + 1) (.slice a' (k + 1) cap') h' w7 := by
          have hap1 : some gr ≠ (Value.slice x k cp).ownBlock := by
            obtain ⟨⟨⟨cs, r1, r2⟩, r3⟩, vv, ne⟩ := HH6.out
            exact r1.row_apart HO.out (by decide)
          have hap2 : some po ≠ (Value.slice x k cp).ownBlock := by
            obtain ⟨⟨⟨cs, r1, r2⟩, r3⟩, vv, ne⟩ := HH6.out
            exact vv.row_apart HO.out (by decide)
          have hnk : n - (k + 1) = m := by have := HM0.out; omega
          refine ⟨by rw [HMap.out]; exact HO7.out, by rw [hnk]; exact HHo.out, by rw [hnk]; exact HH6.out.grown HG7.out hap2 hap1, ⟨HP1, HP2⟩, ?_⟩
          exact (HB6.out.trans ((sup_pk w6 (.cells #[.int .i64 c.seg, .int .i64 c.live, .int .i64 c.cap, .int .i64 c.age] CD)).mono hsz6)).grown HG7.out (by simp; omega) (fun q hq => own_ge HO.out hq)
        have HR7 := Lib.hid hR7
        clear hR7
        go_roundw
        case rel => exact ⟨k + 1, h', a', cap', by omega, rfl, HAll2.out, HR7.out⟩
        case measure => simp [lenS]; omega
      | false =>
        rw [hMk] at HMk
        have HNo := Lib.hid hMk
        clear hMk
        go_wp2_with fail
        refine (HL.out _).mono ?_
        rintro e w5 ⟨rfl, rfl⟩
        go_wp2_with fail
        refine HMk.out.mono ?_
        rintro e w5 ⟨rfl, hb⟩
        have HR5 := Lib.hid (HR.out.later hb)
        clear hb HMk HR HL v0 HM
        go_wp2
        go_ret
        exact first_end HLen.out hk HAll.out (fun _ => HNo.out) HR5.out
    · have hkn : k = n := by omega
      have t1 : ¬ (0 : Int) < (m0 : Int) := by omega
      have HAll2 : Hid (∀ j, j < n → M ((S.take j).map Rk.c) = true) := by rw [← hkn]; exact HAll.out
      have HR2 : Hid (FiR w S n po gr n (.slice x n cp) h wr) := by rw [hkn] at HR; exact HR.out
      clear hm0 HAll HR
      subst hkn
      go_wp2_with fail
      refine (HL.out _).mono ?_
      rintro e w5 ⟨rfl, rfl⟩
      go_wp2
      go_ret
      exact first_end HLen.out (Nat.le_refl _) HAll2.out (fun h => by omega) HR2.out
end
end Go.Proofs.Ytblpfgjjiihjoaa
