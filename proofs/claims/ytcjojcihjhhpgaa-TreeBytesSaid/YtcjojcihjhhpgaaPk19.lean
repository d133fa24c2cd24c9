/-
  The statement TreeBytes.
-/
import Derived.Test.YtcjojcihjhhpgaaPk18
import Derived.Test.YtcjojcihjhhpgaaPk15
namespace Go.Proofs.Ytcjojcihjhhpgaa
open Go.RowKit

def TbR (w : World) (bt : Nat) (v9 v10 : Value) (wr : World) : Prop := ∃ (i : Nat) (l : List Nat), v10 = .int .i64 (i : Int) ∧ i ≤ 20 ∧ l.length ≤ 1800 ∧ (∀ y ∈ l, y < 256) ∧ TbS w wr bt (TB l) l v9
def lenOf : Value → Nat
  | .slice _ n _ => n
  | _ => 0
/-- While the row grows to t. -/
def TbG (w : World) (bt : Nat) (T : Tr) (l : List Nat) (t : Nat) (v9 : Value) (wr : World) : Prop := ∃ k : Nat, (k = 0 ∨ l.length + k ≤ t) ∧ TbS w wr bt T (l ++ zer k) v9
/-- While the row is written. -/
def TbK (w : World) (bt : Nat) (T : Tr) (v9 : Value) (L : List Nat) (q : Nat) (d : List Nat) (v : Value) (wr : World) : Prop := ∃ t : Nat, v = .int .i64 (t : Int) ∧ t ≤ d.length ∧ TbS w wr bt T (wrL L q (d.take t)) v9
set_option maxRecDepth 100000 in
set_option maxHeartbeats 2000000 in
theorem treeBytes_any (wa : Option Addr) (wl wc : Nat) (zs : List Int) (da : Option Addr) (dl dc : Nat) (m : List Nat) (w : World) (hz : Pairs w wa wl zs) (hn : dl = m.length) (hb : Bytes w da m) (hnil : da = none → m = [] ∧ dc = 0) (hc : dl ≤ dc) (h300 : dl ≤ 300) :
    Calls Try.prog 5 #[.slice wa wl wc, .slice da dl dc] w fun e w' => e = .returned (.bool true) ∧ Below w.heap.size w w' := by
  have HZ := Lib.hid hz
  have HN := Lib.hid hn
  have HBy := Lib.hid hb
  have HNil := Lib.hid hnil
  have HC := Lib.hid hc
  have h3 : ¬ (300 : Int) < (dl : Int) := by omega
  clear hz hn hb hnil hc
  go_enter Try.func5, Try.ntmps5
  go_wp2_with fail
  refine (awake_any w).mono ?_
  rintro e w1 ⟨rfl, hb1⟩
  have HB1 := Lib.hid hb1
  clear hb1
  go_wp2_with fail
  refine (new_lx HB1.out (n := 4) (by decide) (by decide)).mono ?_
  rintro e w2 ⟨bt, rfl, h2, -⟩
  have HC2 := Lib.hid (h2.create (s := ⟨#[47, 102]⟩) (by decide) tf_create)
  clear h2
  go_wp2_with fail
  refine HC2.out.mono ?_
  rintro e w3 ⟨rfl, h3x, -⟩
  have HS3 : Hid (TbR w bt (.slice none 0 0) (.int .i64 0) w3) := by
    refine ⟨0, [], rfl, by decide, by decide, fun y hy => absurd hy List.not_mem_nil, none, 0, 0 + 1, rfl, ⟨rfl, .inl ⟨rfl, rfl⟩⟩, ?_⟩
    rw [TB_nil]
    exact h3x.own (Out.refl _ _) (fun g q => by cases q)
  clear h3x HC2
  go_wp2_with fail
  go_loopw [9, 10] (fun v9 v10 wr => TbR w bt v9 v10 wr) (fun _ v10 _ => 20 - (intOf v10).toNat)
  case atStart => exact HS3.out
  case round =>
    clear HS3
    obtain ⟨i, l, rfl, hi, hl, hby, hS⟩ := hrel
    have HS := Lib.hid hS
    have HL : Hid (l.length ≤ 1800 ∧ ∀ y ∈ l, y < 256) := ⟨hl, hby⟩
    have HB : Hid (Below w.heap.size w wr) := by
      obtain ⟨cnt, hx⟩ := hS.tree
      exact hx.b
    clear hl hby hS
    by_cases hlt : i < wl ∧ i < 20
    · obtain ⟨hl1, hl2⟩ := hlt
      obtain ⟨b, o, rfl, hcs⟩ := HZ.out.2.2 (by omega)
      obtain ⟨c0, c1⟩ := hcs i hl1
      have c0 := cell_later HB.out c0
      have c1 := cell_later HB.out c1
      have z0b := HZ.out.2.1 (i * 2)
      have z1b := HZ.out.2.1 (i * 2 + 1)
      generalize zs.getD (i * 2) 0 = z0 at *
      generalize zs.getD (i * 2 + 1) 0 = z1 at *
      obtain ⟨q, hq, hqe⟩ := cut_mod z0 1499 (by decide)
      have hqe : wrap64 ((IntKind.u64.wrap z0).tmod 1500) = (q : Int) := hqe
      have hi1 : (i : Int) < (wl : Int) := by omega
      have hi2 : (i : Int) < 20 := by omega
      have hi0 : (0 : Int) ≤ (i : Int) := by omega
      obtain ⟨a, c, cnt, rfl, ho, hx⟩ := id HS.out
      have HX := Lib.hid hx
      clear hcs hx ho
      by_cases hrm : z1.tmod 4 = 3
      · have HTr := Lib.hid (HX.out.trunc (s := ⟨#[47, 102]⟩) (tb_trunc l (a := q) (by omega)))
        have hr2 : (z1.tmod 4 == 3) = true := by rw [hrm]; rfl
        go_wp2_with fail
        rw [hqe]
        refine HTr.out.mono ?_
        rintro e w5 ⟨rfl, hx5, ho5⟩
        have HS5 : Hid (TbG w bt (TB (rszL l q)) l q (.slice a l.length c) w5) := ⟨0, .inl rfl, by
          have := TbS.after HS.out hx5 ho5
          unfold zer
          rw [List.replicate_zero, List.append_nil]
          exact this⟩
        have HQ := Lib.hid hq
        clear HTr HX c0 c1 hx5 ho5 hqe
        go_wp2_with fail
        go_loopw [9] (fun v9 wr => TbG w bt (TB (rszL l q)) l q v9 wr) (fun v9 _ => q - (lenOf v9))
        case atStart => exact HS5.out
        case round =>
          clear HS5
          obtain ⟨j, hj, hS⟩ := hrel
          obtain ⟨a, c, cnt, rfl, ho, hx⟩ := id hS
          have HJ := Lib.hid hj
          have HS := Lib.hid hS
          have HO := Lib.hid ho
          clear hj hS ho hx
          obtain ⟨n1, hn1⟩ : ∃ n1, (l ++ zer j).length = n1 := ⟨_, rfl⟩
          have hn2 : n1 = l.length + j := by rw [← hn1, List.length_append, zer_len]
          have HN1 := Lib.hid (And.intro hn1 hn2)
          rw [hn1] at HO HS
          rw [hn1]
          clear hn1 hn2
          by_cases hlt : n1 < q
          · have n1lt : (n1 : Int) < (q : Int) := by omega
            obtain ⟨w7, hw7⟩ : ∃ w7, wr.alloc (.cells #[.int .u8 0] U8) = w7 := ⟨_, rfl⟩
            have hb7 : Below wr.heap.size wr w7 := by rw [← hw7]; exact sup_pct wr _
            have hz7 : Blo w7 wr.heap.size U8 #[.int .u8 0] := by rw [← hw7]; exact blo_laid wr _ _
            have HB7 := Lib.hid hb7
            have HZ7 := Lib.hid hz7
            have HO7 := Lib.hid ((Out.of_below (X := fun _ => False) hb7).own HO.out (fun g q e => e))
            have HGe : Hid (w.heap.size ≤ w7.heap.size) := by
              obtain ⟨cnt, hx⟩ := HS.out.tree
              exact Nat.le_trans hx.b.size hb7.size
            have HR7 : Hid (n1 + 1 ≤ 1000000) := by show _ ≤ _; omega
            clear hb7 hz7
            go_wp2_with (at_builtin; refine wp_append_rowB rfl (.tmp 75) (.tmp 76) BYT rfl w.heap.size U8 (.int .u8 0) 1 1 Try.underlying31 info_u8t rfl (by decide) (by decide) (.slice a n1 c) n1 (cellsB (l ++ zer j)) rfl HO7.out ⟨wr.heap.size, 0, none⟩ 1 1 [.int .u8 0] rfl rfl (fun j u hj => by rw [Addr.add_lit, Nat.zero_add, HZ7.out.cell]; simpa using hj) (fun u hu => by simp at hu; subst hu; rfl) HR7.out HGe.out ?_; intro a8 c8 w8 ho8 hg8 hk8; have HO8 := Lib.hid (And.intro ho8 (And.intro hg8 hk8)); clear ho8 hg8 hk8)
            have HS8 : Hid (TbG w bt (TB (rszL l q)) l q (.slice a8 (n1 + 1) c8) w8) := by
              refine ⟨j + 1, .inr (by have := HN1.out; omega), ?_⟩
              obtain ⟨x1, x2, x3⟩ := HO8.out
              obtain ⟨y1, y2⟩ := HN1.out
              have h8 := TbS.grow (w := w) (bt := bt) (T := (TB (rszL l q))) (l := l ++ zer j) (v := .slice a n1 c) HS.out HB7.out (a' := a8) (c' := c8) (by rw [y1]; exact x1) x2 (by rw [y1]; exact x3)
              rw [y1, List.append_assoc] at h8
              rw [zer_succ]
              exact h8
            exact ⟨HS8.out, by simp [lenOf]; omega⟩
          · have n1ge : ¬ (n1 : Int) < (q : Int) := by omega
            have hcut := run_cutB (k := q) HO.out (by omega)
            have hs1 := hcut wr
            have HS9 : Hid (TbS w wr bt (TB (rszL l q)) (rszL l q) (.slice a q c)) := by
              obtain ⟨y1, y2⟩ := HN1.out
              obtain ⟨a', c', e1, h9⟩ := TbS.cut (k := q) HS.out (by rw [y1]; omega)
              rw [y1] at e1
              cases e1
              rw [grown_cut HJ.out (by omega)] at h9
              exact h9
            have HL9 : Hid ((rszL l q).length ≤ 1800 ∧ ∀ y ∈ rszL l q, y < 256) := ⟨by rw [rszL_len]; have := HQ.out; omega, rszL_byte HL.out.2⟩
            have q0 : (0 : Int) ≤ (q : Int) := by omega
            clear hcut
            go_wp2_with fail
            exact ⟨⟨i + 1, rszL l q, by go_num, by omega, HL9.out.1, HL9.out.2, HS9.out⟩, by simp [intOf]; omega⟩
      · have hr2 : (z1.tmod 4 == 3) = false := beq_eq_false_iff_ne.2 hrm
        obtain ⟨k, hk, hke⟩ := cut_mod z1 dl (by omega)
        obtain ⟨a1, hsl, hb1, -⟩ := slice_head (P := Try.prog) BYT U8 Try.underlying31 (fun w => by kernel_rfl) HN.out HBy.out HNil.out HC.out k hk
        have hs1 := hsl wr
        have k0 : (0 : Int) ≤ (k : Int) := by omega
        have k1 : (k : Int) ≤ (dc : Int) := by have := HC.out; omega
        obtain ⟨d, hd⟩ : ∃ d, m.take k = d := ⟨_, rfl⟩
        rw [hd] at hb1
        have hdl : d.length = k := by rw [← hd, List.length_take]; have := HN.out; omega
        have HD := Lib.hid (And.intro hdl hb1)
        have HWr := Lib.hid (HX.out.write (s := ⟨#[47, 102]⟩) (n := k) (c := dc) hdl.symm (hb1.below HB.out) (fun hm g o e => by
          obtain ⟨b', o', e', hb'⟩ := bytes_blk0 hb1 hm
          rw [e'] at e
          cases e
          exact .inl hb') (tb_write l (a := q) (m := d) (by omega) (by omega)))
        rw [hdl] at HWr
        have HQ : Hid (q ≤ 1499 ∧ k ≤ 300) := ⟨hq, by omega⟩
        clear hsl hb1 hd
        go_wp2_with fail
        rw [hqe]
        refine HWr.out.mono ?_
        rintro e w5 ⟨rfl, hx5, ho5⟩
        have HS5 := Lib.hid (TbS.after HS.out hx5 ho5)
        clear HWr HX c0 c1 hx5 ho5 hqe hke hs1 HS
        by_cases hk0 : k = 0
        · subst hk0
          have HL5 := HL.out
          go_wp2_with fail
          exact ⟨⟨i + 1, l, by go_num, by omega, HL.out.1, HL.out.2, HS5.out⟩, by simp [intOf]; omega⟩
        · have hkz : ((k : Int) == 0) = false := beq_eq_false_iff_ne.2 (by omega)
          obtain ⟨r, hr⟩ : ∃ r, q + k = r := ⟨_, rfl⟩
          have hri : (q : Int) + (k : Int) = (r : Int) := by omega
          have hr0 : (r : Int) < 1000000 := by omega
          have HRr : Hid (q + k = r ∧ r ≤ 1799 ∧ 0 < k) := ⟨hr, by omega, by omega⟩
          obtain ⟨l2, hl2e⟩ : ∃ l2, wrL (rszL l (max l.length (q + k))) q d = l2 := ⟨_, rfl⟩
          rw [if_neg hk0, hl2e] at HS5
          have HL2 := Lib.hid hl2e
          have HS6 : Hid (TbG w bt (TB l2) l r (.slice a l.length c) w5) := ⟨0, .inl rfl, by
            unfold zer
            rw [List.replicate_zero, List.append_nil]
            exact HS5.out⟩
          clear hl2e HS5 hr hk0
          go_wp2_with fail
          clear hdl hk hkz hr2 hrm k1
          go_loopw [9] (fun v9 wr => TbG w bt (TB l2) l r v9 wr) (fun v9 _ => r - (lenOf v9))
          case atStart => exact HS6.out
          case round =>
            clear HS6
            obtain ⟨j, hj, hS⟩ := hrel
            obtain ⟨a, c, cnt, rfl, ho, hx⟩ := id hS
            have HJ := Lib.hid hj
            have HS := Lib.hid hS
            have HO := Lib.hid ho
            clear hj hS ho hx
            obtain ⟨n1, hn1⟩ : ∃ n1, (l ++ zer j).length = n1 := ⟨_, rfl⟩
            have hn2 : n1 = l.length + j := by rw [← hn1, List.length_append, zer_len]
            have HN1 := Lib.hid (And.intro hn1 hn2)
            rw [hn1] at HO HS
            rw [hn1]
            clear hn1 hn2
            by_cases hlt : n1 < r
            · have n1lt : (n1 : Int) < (r : Int) := by omega
              obtain ⟨w7, hw7⟩ : ∃ w7, wr.alloc (.cells #[.int .u8 0] U8) = w7 := ⟨_, rfl⟩
              have hb7 : Below wr.heap.size wr w7 := by rw [← hw7]; exact sup_pct wr _
              have hz7 : Blo w7 wr.heap.size U8 #[.int .u8 0] := by rw [← hw7]; exact blo_laid wr _ _
              have HB7 := Lib.hid hb7
              have HZ7 := Lib.hid hz7
              have HO7 := Lib.hid ((Out.of_below (X := fun _ => False) hb7).own HO.out (fun g q e => e))
              have HGe : Hid (w.heap.size ≤ w7.heap.size) := by
                obtain ⟨cnt, hx⟩ := HS.out.tree
                exact Nat.le_trans hx.b.size hb7.size
              have HR7 : Hid (n1 + 1 ≤ 1000000) := by show _ ≤ _; omega
              clear hb7 hz7
              go_wp2_with (at_builtin; refine wp_append_rowB rfl (.tmp 110) (.tmp 111) BYT rfl w.heap.size U8 (.int .u8 0) 1 1 Try.underlying31 info_u8t rfl (by decide) (by decide) (.slice a n1 c) n1 (cellsB (l ++ zer j)) rfl HO7.out ⟨wr.heap.size, 0, none⟩ 1 1 [.int .u8 0] rfl rfl (fun j u hj => by rw [Addr.add_lit, Nat.zero_add, HZ7.out.cell]; simpa using hj) (fun u hu => by simp at hu; subst hu; rfl) HR7.out HGe.out ?_; intro a8 c8 w8 ho8 hg8 hk8; have HO8 := Lib.hid (And.intro ho8 (And.intro hg8 hk8)); clear ho8 hg8 hk8)
              have HS8 : Hid (TbG w bt (TB l2) l r (.slice a8 (n1 + 1) c8) w8) := by
                refine ⟨j + 1, .inr (by have := HN1.out; omega), ?_⟩
                obtain ⟨x1, x2, x3⟩ := HO8.out
                obtain ⟨y1, y2⟩ := HN1.out
                have h8 := TbS.grow (w := w) (bt := bt) (T := (TB l2)) (l := l ++ zer j) (v := .slice a n1 c) HS.out HB7.out (a' := a8) (c' := c8) (by rw [y1]; exact x1) x2 (by rw [y1]; exact x3)
                rw [y1, List.append_assoc] at h8
                rw [zer_succ]
                exact h8
              exact ⟨HS8.out, by simp [lenOf]; omega⟩
            · have n1ge : ¬ (n1 : Int) < (r : Int) := by omega
              obtain ⟨L0, hL0⟩ : ∃ L0, l ++ zer j = L0 := ⟨_, rfl⟩
              have hLm : L0 = rszL l (max l.length (q + k)) := by rw [← hL0, HRr.out.1]; exact grown_max HJ.out (by have := HN1.out; omega)
              have hLn : L0.length = n1 := by rw [← hL0]; exact HN1.out.1
              rw [hL0] at HS HO
              have HLs := Lib.hid (And.intro hLm hLn)
              have HN2 : Hid (q + k ≤ n1 ∧ n1 ≤ 1800) := ⟨by have := HRr.out; omega, by
                rw [← hLn, hLm, rszL_len]
                have := HL.out.1
                have := HQ.out
                omega⟩
              obtain ⟨g, cur, rfl⟩ : ∃ g : Nat, ∃ _ : Array Value, a = some ⟨g, 0, none⟩ := by
                rcases HO.out.2 with ⟨q1, q2⟩ | ⟨g, c', cur, q1, -⟩
                · exfalso; have := HN2.out; have := HRr.out; omega
                · cases q1; exact ⟨g, cur, rfl⟩
              have HS7 : Hid (TbK w bt (TB l2) (.slice (some ⟨g, 0, none⟩) n1 c) L0 q d (.int .i64 0) wr) := ⟨0, rfl, Nat.zero_le _, by rw [wrL_zero]; exact HS.out⟩
              clear hL0 hLm hLn HS HO HJ HN1
              go_wp2_with fail
              go_loopw [115] (fun v wr => TbK w bt (TB l2) (.slice (some ⟨g, 0, none⟩) n1 c) L0 q d v wr) (fun v _ => k - (intOf v).toNat)
              case atStart => exact HS7.out
              case round =>
                clear HS7
                obtain ⟨t, rfl, htd, hS⟩ := hrel
                have HS := Lib.hid hS
                have HT : Hid (t ≤ k) := by show t ≤ k; have := HD.out.1; omega
                clear hS htd
                by_cases htk : t < k
                · have t1 : (t : Int) < (k : Int) := by omega
                  have t0 : (0 : Int) ≤ (t : Int) := by omega
                  obtain ⟨hdl, hdb⟩ := HD.out
                  have hdne : d ≠ [] := fun e => by rw [e] at hdl; simp at hdl; omega
                  obtain ⟨gd, od, rfl, hcd⟩ := hdb.2.2 hdne
                  have hBx : Below w.heap.size w wr := by
                    obtain ⟨cnt, hx⟩ := HS.out.tree
                    exact hx.b
                  have cD := cell_later hBx (hcd t (by omega))
                  have hstep := wrL_step (L := L0) (d := d) (q := q) (t := t) (by omega) (by have := HLs.out.2; have := HN2.out; omega)
                  generalize d.getD t 0 = x at *
                  obtain ⟨qt, hqt⟩ : ∃ qt, q + t = qt := ⟨_, rfl⟩
                  have eqt : (q : Int) + (t : Int) = (qt : Int) := by omega
                  have qt0 : (0 : Int) ≤ (qt : Int) := by omega
                  have qt1 : (qt : Int) < (n1 : Int) := by have := HN2.out; omega
                  rw [hqt] at hstep
                  obtain ⟨a', c', cnt', ev, ho, hx⟩ := id HS.out
                  have ev2 := (Value.slice.inj ev).2.1
                  clear ev
                  obtain ⟨cur, hcur, hcs⟩ : ∃ cur, Blo wr g U8 cur ∧ qt < cur.size := by
                    rcases ho.2 with ⟨q1, q2⟩ | ⟨g', c', cur, q1, q2, q3, q4, q5, q6, q7⟩
                    · cases q1
                    · obtain ⟨x1, x2, x3⟩ := Value.slice.inj q1
                      cases x1
                      refine ⟨cur, q3, ?_⟩
                      have := HN2.out
                      omega
                  have dX : wr.cell? ⟨g, qt, none⟩ = some cur[qt] := by rw [hcur.cell, Array.getElem?_eq_getElem hcs]
                  have fX := hcur.frozen qt
                  generalize cur[qt] = cx at *
                  have HS9 : Hid (TbS w (wr.setCell ⟨g, qt, none⟩ (.int .u8 (x : Int))) bt (TB l2) (wrL L0 q (d.take (t + 1))) (.slice (some ⟨g, 0, none⟩) n1 c)) := by
                    have h9 := TbS.put HS.out rfl qt x
                    rw [hstep] at h9
                    exact h9
                  clear hcd hdb hdne hstep hqt ho hx hcur hcs hBx ev2
                  go_wp2_with fail
                  exact ⟨⟨t + 1, by go_num, by rw [hdl]; omega, HS9.out⟩, by simp [intOf]; omega⟩
                · obtain rfl : t = k := by have := HT.out; omega
                  have t1 : ¬ (t : Int) < (t : Int) := by omega
                  have HS9 : Hid (TbS w wr bt (TB l2) l2 (.slice (some ⟨g, 0, none⟩) n1 c)) := by
                    have h9 := HS.out
                    rw [List.take_of_length_le (by have := HD.out.1; omega), HLs.out.1, HL2.out] at h9
                    exact h9
                  have HL9 : Hid (l2.length ≤ 1800 ∧ ∀ y ∈ l2, y < 256) := by
                    have e1 := HL2.out
                    rw [← e1]
                    refine ⟨?_, wrL_byte (rszL_byte HL.out.2) HD.out.2.1⟩
                    rw [wrL_len (by rw [rszL_len]; have := HD.out.1; omega), rszL_len]
                    have := HL.out.1
                    have := HQ.out
                    omega
                  go_wp2_with fail
                  exact ⟨⟨i + 1, l2, by go_num, by omega, HL9.out.1, HL9.out.2, HS9.out⟩, by simp [intOf]; omega⟩
    · have hsp : ¬ (i : Int) < (wl : Int) ∨ ((i : Int) < (wl : Int) ∧ ¬ (i : Int) < 20) := by omega
      clear hlt
      obtain ⟨a, c, cnt, rfl, ho, hx⟩ := id HS.out
      have HX := Lib.hid hx
      have HO := Lib.hid ho
      have HRd := Lib.hid (HX.out.read (s := pF) (a := 0) 4096)
      rw [tb_read l (by have := HL.out.1; omega)] at HRd
      obtain ⟨lk, hst⟩ := tb_stat l
      have HSt : Hid (∀ W, Below wr.heap.size wr W → Calls Try.prog 15 #[.pointer (some ⟨bt, 0, none⟩), .string ⟨#[47, 102]⟩] W fun e w' => e = .returned (.tuple #[.agg #[.int .i64 3, .int .i64 1, .int .i64 lk, .int .i64 (l.length : Int)], .int .i64 0]) ∧ Below W.heap.size W w') := fun W hW => by
        have h := (HX.out.quiet hW).stat (s := pF)
        rw [hst] at h
        exact h
      have HE : Hid (∀ W, Below wr.heap.size wr W → (convert 31 9 (.slice a l.length c)).run Try.prog W = .ok (.string (strOf l)) W) := fun W hb =>
        run_str W 31 9 5 Try.underlying31 Try.underlying5 Try.underlying9 l a _ c rfl ((by
          obtain ⟨a9, c9, e9, -, h9, -⟩ := Bytes.own HO.out HL.out.2
          cases e9
          exact h9 : Bytes wr a l).below hb)
      clear hx ho hst HS
      obtain ⟨ln, hln⟩ : ∃ ln, l.length = ln := ⟨_, rfl⟩
      have HLn := Lib.hid hln
      rw [hln] at HSt HE
      rw [hln]
      clear hln
      rcases hsp with h1 | ⟨h1, h2⟩
      all_goals (
        go_wp2_with fail
        refine HRd.out.mono ?_
        rintro e w5 ⟨a5, n5, c5, rfl, hn5, hb5, -, hbe5⟩
        have HB5 := Lib.hid hbe5
        have HBy5 := Lib.hid hb5
        have HN5 := Lib.hid hn5
        clear hn5 hb5 hbe5
        go_wp2_with fail
        refine (HSt.out w5 HB5.out).mono ?_
        rintro e w6 ⟨rfl, hb6⟩
        obtain ⟨w7, hw7⟩ : ∃ w7, w6.alloc (.cells #[.int .i64 3, .int .i64 1, .int .i64 lk, .int .i64 (ln : Int)] 39) = w7 := ⟨_, rfl⟩
        have hb7 : Below w5.heap.size w5 w7 := by
          rw [← hw7]
          exact hb6.alloc hb6.size _
        have hc1 := HE.out w7 (HB5.out.trans (hb7.mono HB5.out.size))
        have hc2 := run_str w7 31 9 5 Try.underlying31 Try.underlying5 Try.underlying9 l a5 n5 c5 HN5.out (HBy5.out.below hb7)
        have HB7 := Lib.hid ((HX.out.quiet HB5.out).quiet hb7).b
        have s3 : w7.cell? ⟨w6.heap.size, 3, none⟩ = some (.int .i64 (ln : Int)) := by rw [← hw7]; exact (blo_laid w6 _ _).cell 3
        clear hb6 hb7
        generalize strOf l = sl at *
        go_wp2_with fail
        go_ret
        exact ⟨rfl, HB7.out⟩)
theorem treeBytes_walk (wa : Option Addr) (wl wc : Nat) (zs : List Int) (da : Option Addr) (dl dc : Nat) (ms : List Int) (w : World) (hz : Pairs w wa wl zs) (hm : IsRow .u8 w da dl dc ms) :
    Calls Try.prog 5 #[.slice wa wl wc, .slice da dl dc] w fun e w' => e = .returned (.bool true) ∧ Below w.heap.size w w' := by
  obtain ⟨l, hn, hb, hnil, -, hc⟩ := hm.bytes
  by_cases h : dl ≤ 300
  · exact treeBytes_any wa wl wc zs da dl dc l w hz hn hb hnil hc h
  · have h3 : (300 : Int) < (dl : Int) := by omega
    clear hz hn hb hnil hc hm
    go_enter Try.func5, Try.ntmps5
    go_wp2_with fail
    refine (awake_any w).mono ?_
    rintro e w1 ⟨rfl, hb1⟩
    have HB1 := Lib.hid hb1
    clear hb1
    go_wp2_with fail
    refine (awake_any w1).mono ?_
    rintro e w2 ⟨rfl, hb2⟩
    have HB2 := Lib.hid (HB1.out.trans (hb2.mono HB1.out.size))
    clear hb2
    go_wp2_with fail
    go_ret
    exact ⟨rfl, HB2.out⟩
end Go.Proofs.Ytcjojcihjhhpgaa
