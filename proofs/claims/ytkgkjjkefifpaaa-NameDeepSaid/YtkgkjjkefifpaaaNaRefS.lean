/-
  Split and Parent of the document.
-/
import Derived.Test.YtkgkjjkefifpaaaNaParent
namespace Go.Proofs.Ytkgkjjkefifpaaa
open Go.RowKit

theorem info_strx : (Try.prog.info? STR).map (fun i => (i.zero, i.size, i.bytes)) = some (some (.string ⟨#[]⟩), 1, 16) := by kernel_rfl
theorem cellsS_one (l : List ByteArray) : ∀ u ∈ cellsS l, u.oneCell' = true := fun u hu => by
  unfold cellsS at hu
  obtain ⟨q, _, rfl⟩ := List.mem_map.1 hu
  rfl
theorem own_nilS (w : World) (base : Nat) (e : TypeId) : w.ownsRow base e 1 (.slice none 0 0) 0 (cellsS []) := ⟨rfl, .inl ⟨rfl, rfl⟩⟩
theorem ba_snoc (cur : List UInt8) (s : ByteArray) (k : Nat) (h : k < s.size) : ba cur ++ s.extract k (k + 1) = ba (cur ++ [s.get! k]) := by
  refine str_ext ?_
  have h1 : (s.extract k (k + 1)).data.toList = [s.get! k] := by
    rw [extract_list]
    unfold piece
    rw [drop_at s k h, show k + 1 - k = 1 by omega]
    rfl
  simp [drop_at s k h]
theorem ba_size (cur : List UInt8) : (ba cur).size = cur.length := by rw [Lib.size_eq, ba_data]
def RfR (w : World) (s : ByteArray) (v5 v6 v7 : Value) (W : World) : Prop := ∃ (k : Nat) (acc : List ByteArray) (cur : List UInt8), v7 = .int .i64 k ∧ k ≤ s.size + 1 ∧ v6 = .string (ba cur) ∧ W.ownsRow w.heap.size STR 1 v5 acc.length (cellsS acc) ∧
  acc ++ (toks cur (s.data.toList.drop k)).map ba = nml s ∧ chkL acc = 0 ∧ acc.length ≤ k ∧ cur.length ≤ k ∧ (k = s.size + 1 → cur = []) ∧ Below w.heap.size w W
def RsO (w : World) (s : ByteArray) (e : Ending) (w' : World) : Prop := SpO w s e w'
theorem sep_toks (s : ByteArray) (cur : List UInt8) (k : Nat) (hk : k ≤ s.size) (hs : ¬ (k < s.size ∧ s.get! k ≠ 47)) : toks cur (s.data.toList.drop k) = (if cur = [] then [] else [cur]) ++ toks [] (s.data.toList.drop (k + 1)) := by
  by_cases hlt : k < s.size
  · have hb : s.get! k = 47 := Classical.byContradiction fun h => hs ⟨hlt, h⟩
    rw [drop_at s k hlt, hb]
    split
    · rename_i h; rw [h, toks_slash]; rfl
    · rename_i h; rw [toks_end h]; rfl
  · have e1 : s.data.toList.drop k = [] := List.drop_eq_nil_of_le (by rw [← Lib.size_eq]; omega)
    have e2 : s.data.toList.drop (k + 1) = [] := List.drop_eq_nil_of_le (by rw [← Lib.size_eq]; omega)
    rw [e1, e2]
    simp [toks]
theorem drop_end (s : ByteArray) (k : Nat) (h : s.size ≤ k) : s.data.toList.drop k = [] := List.drop_eq_nil_of_le (by rw [← Lib.size_eq]; exact h)
set_option maxRecDepth 100000 in
set_option maxHeartbeats 8000000 in
theorem refSplit_any (s : ByteArray) (w : World) : Calls Try.prog 11 #[.string s] w (SpO w s) := by
  have HB := Lib.hid (Below.refl w.heap.size w)
  by_cases h1 : 255 < s.size
  · have HE := Lib.hid (spE_long h1)
    have hl : (255 : Int) < (s.size : Int) := by omega
    clear h1
    go_enter Try.func11, Try.ntmps11
    go_wp2
    exact bodyPost_ret (v := .tuple #[.slice none 0 0, .bool false, .int .i64 36]) (by simp [results, Try.results11, go_sem]) rfl (spO_bad HE.out (by decide) HB.out)
  · have hl : ¬ (255 : Int) < (s.size : Int) := by omega
    by_cases h2 : s.size = 0
    · have HE := Lib.hid (spE_rel h1 (.inl h2))
      obtain rfl : s = ⟨#[]⟩ := str_ext (by rw [Lib.size_eq] at h2; rw [List.eq_nil_of_length_eq_zero h2])
      clear h1 h2 hl
      go_enter Try.func11, Try.ntmps11
      go_wp2
      exact bodyPost_ret (v := .tuple #[.slice none 0 0, .bool false, .int .i64 22]) (by simp [results, Try.results11, go_sem]) rfl (spO_bad HE.out (by decide) HB.out)
    · have hne : ((s.size : Int) == 0) = false := beq_eq_false_iff_ne.2 (by omega)
      have hpos : (0 : Int) < (s.size : Int) := by omega
      have hpos' : 0 < s.size := by omega
      by_cases h3 : s.get! 0 = 47
      · have HE : Hid (spE s = chkL (nml s)) := spE_chk h1 (fun h => h.elim h2 (fun h => h h3))
        have hv : (s[0]'hpos').toNat = 47 := by rw [get_bang s 0 hpos', h3]; rfl
        have HD : Hid (∀ h, (((s[s.size - 1]'h).toNat : Int) == 47) = dirB s) := fun h => by
          unfold dirB
          rw [get_bang s _ h, Bool.eq_iff_iff]
          simp
          constructor
          · intro e; exact UInt8.toNat_inj.1 (by show _ = 47; omega)
          · intro e; rw [e]; rfl
        have h255 : s.size ≤ 255 := by omega
        clear h1 h2 h3
        go_enter Try.func11, Try.ntmps11
        go_wp2_with fail
        go_loopw [5, 6, 7, 8] (fun v5 v6 v7 _ wr => RfR w s v5 v6 v7 wr) (fun _ _ v7 _ _ => s.size + 1 - (intOf v7).toNat)
        case atStart => exact ⟨0, [], [], rfl, by omega, rfl, own_nilS _ _ _, rfl, rfl, Nat.le_refl _, Nat.le_refl _, fun h => rfl, HB.out⟩
        case round =>
          obtain ⟨k, acc, cur, rfl, hk, rfl, hown, htk, hck, hacc, hcur, hend, hbw⟩ := hrel
          have HO := Lib.hid hown
          have HT := Lib.hid htk
          have HC := Lib.hid hck
          have HW := Lib.hid hbw
          clear hown htk hck hbw
          by_cases hin : k ≤ s.size
          · by_cases hw : k < s.size ∧ s.get! k ≠ 47
            · obtain ⟨hlt, hnb⟩ := hw
              have hb : (((s[k]'hlt).toNat : Int) == 47) = false := by
                rw [get_bang s k hlt]
                exact beq_eq_false_iff_ne.2 fun e => hnb (UInt8.toNat_inj.1 (by show _ = 47; omega))
              have HT2 : Hid (acc ++ (toks (cur ++ [s.get! k]) (s.data.toList.drop (k + 1))).map ba = nml s) := by
                have e := HT.out
                rw [drop_at s k hlt, toks, if_neg hnb] at e
                exact e
              have HS := ba_snoc cur s k hlt
              have hsz := ba_size cur
              have hz1 : ((ba cur).size : Int) ≤ 300 := by omega
              have hz2 : (s.extract k (k + 1)).size = 1 := by
                rw [Lib.size_eq, extract_list, piece_len _ _ _ (by rw [← Lib.size_eq]; omega)]; omega
              have hz3 : (ba cur).size + (s.extract k (k + 1)).size ≤ 9223372036854775807 := by omega
              have k0 : (0 : Int) ≤ (k : Int) := by omega
              have k1 : (k : Int) < (s.size : Int) := by omega
              have k2 : (k : Int) ≤ (s.size : Int) := by omega
              have HKf : Hid (k < s.size) := hlt
              have HLc : Hid ((cur ++ [s.get! k]).length ≤ k + 1) := by show _ ≤ _; simp; omega
              clear hnb hsz hend hcur hin
              generalize hq : s.extract k (k + 1) = q at *
              go_wp2_with fail
              exact ⟨⟨k + 1, acc, cur ++ [s.get! k], by go_num, by have := HKf.out; omega, rfl, HO.out, HT2.out, HC.out, by omega, HLc.out, (fun e => by have := HKf.out; omega), HW.out⟩, by simp [intOf]; have := HKf.out; omega⟩
            · have HX : Hid (toks cur (s.data.toList.drop k) = (if cur = [] then [] else [cur]) ++ toks [] (s.data.toList.drop (k + 1))) := sep_toks s cur k hin hw
              have k0 : (0 : Int) ≤ (k : Int) := by omega
              have HKi : Hid (k ≤ s.size) := hin
              by_cases hlt : k < s.size
              · have hb47 : s.get! k = 47 := Classical.byContradiction fun h => hw ⟨hlt, h⟩
                have hb : (s[k]'hlt).toNat = 47 := by rw [get_bang s k hlt, hb47]; rfl
                have k1 : (k : Int) < (s.size : Int) := by omega
                clear hb47
                have k2 : (k : Int) ≤ (s.size : Int) := by have := HKi.out; omega
                by_cases hcn : cur = []
                · subst hcn
                  have HT2 : Hid (acc ++ (toks [] (s.data.toList.drop (k + 1))).map ba = nml s) := by
                    have e := HT.out
                    rw [HX.out, if_pos rfl] at e
                    exact e
                  clear hend hcur hin HX hw
                  go_wp2_with fail
                  exact ⟨⟨k + 1, acc, [], by go_num, by have := HKi.out; omega, rfl, HO.out, HT2.out, HC.out, by omega, Nat.zero_le _, (fun _ => rfl), HW.out⟩, by simp [intOf]; have := HKi.out; omega⟩
                · have hsz : (ba cur).size ≠ 0 := by rw [ba_size]; exact fun e => hcn (List.eq_nil_of_length_eq_zero e)
                  obtain ⟨m0', m0⟩ := toList_empty hsz
                  have HT2 : Hid (nml s = acc ++ ba cur :: (toks [] (s.data.toList.drop (k + 1))).map ba) := by
                    have e := HT.out
                    rw [HX.out, if_neg hcn] at e
                    exact e.symm
                  have HN := Lib.hid (refName_any (ba cur))
                  have HLen : Hid (acc.length ≤ k) := hacc
                  clear hend hcur hin HX hw hcn hacc hsz
                  generalize ba cur = cb at *
                  by_cases hx : nmE cb = 0
                  · rw [hx] at HN
                    have HC2 := Lib.hid (chkL_one HC.out hx)
                    clear hx
                    go_wp2_with fail
                    refine (HN.out _).mono ?_
                    rintro e w1 ⟨rfl, rfl⟩
                    have hal := (Below.refl wr.heap.size wr).alloc (Nat.le_refl _) (.cells #[.string cb] STR)
                    have HOa := Lib.hid (own_later HO.out hal)
                    have HWa := Lib.hid (HW.out.trans (hal.mono HW.out.size))
                    have HCl := Lib.hid ((blo_laid wr STR #[.string cb]).cell 0)
                    have HLn : Hid (acc.length + 1 ≤ 1000000) := by have := HLen.out; have := HKi.out; show _ ≤ _; omega
                    clear hal
                    go_wp2_with (at_builtin; refine wp_append_row rfl (.tmp 50) (.tmp 52) SLS rfl w.heap.size STR (.string ⟨#[]⟩) 1 16 Try.underlying23 info_strx rfl (by decide) (by decide) _ acc.length (cellsS acc) rfl HOa.out (some ⟨wr.heap.size, 0, none⟩) 1 1 [.string cb] rfl rfl (fun ad e j u hj => by cases e; rw [Addr.add_lit]; match j, hj with | 0, hj => (cases hj; exact HCl.out) | j + 1, hj => (simp at hj)) (fun u hu => by simp at hu; subst hu; rfl) (fun e => by cases e) HLn.out HWa.out.size ?_; intro a5 c5 w5 ho5 hg5; have HO5 := Lib.hid ho5; have HB5 := Lib.hid (HWa.out.grown hg5 HWa.out.size (fun q hq => (HOa.out.lt q hq).1)); clear ho5 hg5)
                    exact ⟨⟨k + 1, acc ++ [cb], [], by go_num, by have := HKi.out; omega, rfl, by
                      have e := HO5.out
                      rw [List.length_append, ← cellsS_append]
                      exact e, by rw [List.append_assoc]; exact HT2.out.symm, HC2.out, by rw [List.length_append]; have := HLen.out; simp; omega, Nat.zero_le _, (fun _ => rfl), HB5.out⟩, by simp [intOf]; have := HKi.out; omega⟩
                  · have HZ : Hid (spE s = nmE cb) := by
                      show _ = _
                      rw [HE.out, HT2.out]
                      exact chkL_bad HC.out hx _
                    have HNz := Lib.hid hx
                    have h4 : (nmE cb == 0) = false := beq_eq_false_iff_ne.2 hx
                    clear hx HC HT2 HT HE
                    generalize nmE cb = z at *
                    go_wp2_with fail
                    refine (HN.out _).mono ?_
                    rintro e w1 ⟨rfl, rfl⟩
                    go_wp2_with fail
                    exact bodyPost_ret (v := .tuple #[.slice none 0 0, .bool false, .int .i64 z]) (by simp [results, Try.results11, go_sem]) rfl (spO_bad HZ.out HNz.out HW.out)
              · have k1 : ¬ (k : Int) < (s.size : Int) := by omega
                clear hlt
                have k2 : (k : Int) ≤ (s.size : Int) := by have := HKi.out; omega
                by_cases hcn : cur = []
                · subst hcn
                  have HT2 : Hid (acc ++ (toks [] (s.data.toList.drop (k + 1))).map ba = nml s) := by
                    have e := HT.out
                    rw [HX.out, if_pos rfl] at e
                    exact e
                  clear hend hcur hin HX hw
                  go_wp2_with fail
                  exact ⟨⟨k + 1, acc, [], by go_num, by have := HKi.out; omega, rfl, HO.out, HT2.out, HC.out, by omega, Nat.zero_le _, (fun _ => rfl), HW.out⟩, by simp [intOf]; have := HKi.out; omega⟩
                · have hsz : (ba cur).size ≠ 0 := by rw [ba_size]; exact fun e => hcn (List.eq_nil_of_length_eq_zero e)
                  obtain ⟨m0', m0⟩ := toList_empty hsz
                  have HT2 : Hid (nml s = acc ++ ba cur :: (toks [] (s.data.toList.drop (k + 1))).map ba) := by
                    have e := HT.out
                    rw [HX.out, if_neg hcn] at e
                    exact e.symm
                  have HN := Lib.hid (refName_any (ba cur))
                  have HLen : Hid (acc.length ≤ k) := hacc
                  clear hend hcur hin HX hw hcn hacc hsz
                  generalize ba cur = cb at *
                  by_cases hx : nmE cb = 0
                  · rw [hx] at HN
                    have HC2 := Lib.hid (chkL_one HC.out hx)
                    clear hx
                    go_wp2_with fail
                    refine (HN.out _).mono ?_
                    rintro e w1 ⟨rfl, rfl⟩
                    have hal := (Below.refl wr.heap.size wr).alloc (Nat.le_refl _) (.cells #[.string cb] STR)
                    have HOa := Lib.hid (own_later HO.out hal)
                    have HWa := Lib.hid (HW.out.trans (hal.mono HW.out.size))
                    have HCl := Lib.hid ((blo_laid wr STR #[.string cb]).cell 0)
                    have HLn : Hid (acc.length + 1 ≤ 1000000) := by have := HLen.out; have := HKi.out; show _ ≤ _; omega
                    clear hal
                    go_wp2_with (at_builtin; refine wp_append_row rfl (.tmp 50) (.tmp 52) SLS rfl w.heap.size STR (.string ⟨#[]⟩) 1 16 Try.underlying23 info_strx rfl (by decide) (by decide) _ acc.length (cellsS acc) rfl HOa.out (some ⟨wr.heap.size, 0, none⟩) 1 1 [.string cb] rfl rfl (fun ad e j u hj => by cases e; rw [Addr.add_lit]; match j, hj with | 0, hj => (cases hj; exact HCl.out) | j + 1, hj => (simp at hj)) (fun u hu => by simp at hu; subst hu; rfl) (fun e => by cases e) HLn.out HWa.out.size ?_; intro a5 c5 w5 ho5 hg5; have HO5 := Lib.hid ho5; have HB5 := Lib.hid (HWa.out.grown hg5 HWa.out.size (fun q hq => (HOa.out.lt q hq).1)); clear ho5 hg5)
                    exact ⟨⟨k + 1, acc ++ [cb], [], by go_num, by have := HKi.out; omega, rfl, by
                      have e := HO5.out
                      rw [List.length_append, ← cellsS_append]
                      exact e, by rw [List.append_assoc]; exact HT2.out.symm, HC2.out, by rw [List.length_append]; have := HLen.out; simp; omega, Nat.zero_le _, (fun _ => rfl), HB5.out⟩, by simp [intOf]; have := HKi.out; omega⟩
                  · have HZ : Hid (spE s = nmE cb) := by
                      show _ = _
                      rw [HE.out, HT2.out]
                      exact chkL_bad HC.out hx _
                    have HNz := Lib.hid hx
                    have h4 : (nmE cb == 0) = false := beq_eq_false_iff_ne.2 hx
                    clear hx HC HT2 HT HE
                    generalize nmE cb = z at *
                    go_wp2_with fail
                    refine (HN.out _).mono ?_
                    rintro e w1 ⟨rfl, rfl⟩
                    go_wp2_with fail
                    exact bodyPost_ret (v := .tuple #[.slice none 0 0, .bool false, .int .i64 z]) (by simp [results, Try.results11, go_sem]) rfl (spO_bad HZ.out HNz.out HW.out)
          · obtain rfl : k = s.size + 1 := by omega
            have hcn := hend rfl
            subst hcn
            have HL : Hid (acc = nml s) := by
              have e := HT.out
              rw [drop_end s _ (by omega)] at e
              show _ = _
              rw [← e]; simp [toks]
            obtain rfl := HL.out
            have HEz : Hid (spE s = 0) := by show _ = _; rw [HE.out]; exact HC.out
            obtain ⟨a, c, rfl, hac⟩ := own_slice HO.out
            have HSt := Lib.hid (Strs.own HO.out)
            have HNn : Hid (a = none → (nml s).length = 0 ∧ c = 0) := fun e => by
              subst e
              rcases HO.out.2 with ⟨h5, h6⟩ | ⟨g, cap, cur, h5, _⟩
              · injection h5 with _ h7 h8; exact ⟨h7, h8⟩
              · injection h5 with h7; cases h7
            have HAc := Lib.hid hac
            have z0 : ¬ ((s.size + 1 : Nat) : Int) ≤ (s.size : Int) := by omega
            have z4 : IntKind.i64.wrap ((s.size : Int) - 1) = (s.size : Int) - 1 := IntWalk.i64_in _ (by omega)
            have z5 : (1 : Int) ≤ (s.size : Int) := by omega
            have z6 : (s.size : Int) - 1 < (s.size : Int) := by omega
            have hlast : s.size - 1 < s.size := by omega
            clear hend hcur hin hacc hac HT HC HE HL HO hk
            go_wp2_with fail
            go_region
            go_wp2
            refine bodyPost_ret (v := .tuple #[.slice a (nml s).length c, .bool (dirB s), .int .i64 0]) ?_ rfl (spO_ok HEz.out rfl HAc.out (HSt.out.below (sDrewN (Below.refl _ _) 1)) HNn.out (sDrewN HW.out 1))
            simp [results, Try.results11, go_sem]
            exact HD.out _
      · have HE := Lib.hid (spE_rel h1 (.inr h3))
        have hv : (((s[0]'hpos').toNat : Int) == 47) = false := by
          rw [get_bang s 0 hpos']
          exact beq_eq_false_iff_ne.2 fun e => h3 (UInt8.toNat_inj.1 (by show _ = 47; omega))
        clear h1 h2 h3
        go_enter Try.func11, Try.ntmps11
        go_wp2
        exact bodyPost_ret (v := .tuple #[.slice none 0 0, .bool false, .int .i64 22]) (by simp [results, Try.results11, go_sem]) rfl (spO_bad HE.out (by decide) HB.out)
end Go.Proofs.Ytkgkjjkefifpaaa
