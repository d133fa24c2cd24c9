/-
  TrLong · TrRnb · TrRenA · TrRename: these texts in one.
-/
import Derived.Test.YtcjojcihjhhpgaaPk20
import Derived.Test.YtcjojcihjhhpgaaPk11
import Derived.LaidEqlPtr
/-
  longest: whether some path that Walk tells of a node is too long.
-/
namespace Go.Proofs.Ytcjojcihjhhpgaa
open Go.RowKit

def LgO (w : World) (T : Tr) (i size : Nat) (e : Ending) (w' : World) : Prop := (∃ M : Int, e = .returned (.int .i64 M) ∧ (255 < M ↔ LgI T i size)) ∧ Below w.heap.size w w'
structure LgS (w0 : World) (cnt : Nat) (T : Tr) (p : Pl) (i size r : Nat) (M : Int) (done : List ByteArray) (c : Nat) (wr : World) : Prop where
  tr : TrM wr cnt T p
  sr : ∃ k, SR wr (p.MB i) r k (fun s => (T.E i s).map p.B) done c
  b : Below w0.heap.size w0 wr
  iff : 255 < M ↔ (255 < size + 1 ∨ ∃ n c', n ∈ done ∧ T.E i n = some c' ∧ LgI T c' (size + 1 + n.size))
  rl : w0.heap.size ≤ r
def LgR (w0 : World) (cnt : Nat) (T : Tr) (p : Pl) (i size r : Nat) (v : Value) (wr : World) : Prop := ∃ M done c, v = .int .i64 M ∧ LgS w0 cnt T p i size r M done c wr
section
variable {T : Tr} {p : Pl} {cnt i r c c' size cc : Nat} {w0 wr w2 w3 : World} {dn : List ByteArray} {n : ByteArray} {M : Int}
theorem LgS.step (h : LgS w0 cnt T p i size r M dn c wr) (hg : wr.grownBy w2 (some r)) : TrM w2 cnt T p ∧ Below w0.heap.size w0 w2 := by
  obtain ⟨k0, hsr⟩ := h.sr
  have hb2 := h.b.grown hg h.b.size (fun k e => by cases e; exact h.rl)
  have ho : Out (fun k => k = r) wr w2 := Out.of_grown hg (fun k e => by cases e; rfl)
  refine ⟨h.tr.out ho (fun k hx e => ?_), hb2⟩
  subst e
  rcases hx with e | e | ⟨j, hj, e | ⟨hk, e⟩ | ⟨hk, e⟩⟩
  · exact hsr.blo h.tr.tree e
  · exact hsr.blo h.tr.row e
  · exact hsr.blo (h.tr.node j hj) e
  · obtain ⟨ks, hm⟩ := h.tr.map j hk
    obtain ⟨es, cl, hx⟩ := hm.obj
    obtain ⟨D, left, q1, q2⟩ := hsr
    obtain ⟨es2, clock, since, seen, c0, hb, F, hs, hD, hr, rest⟩ := q1
    rw [e] at hr
    rw [hx] at hr
    cases hr
  · rcases h.tr.dat j hk with ⟨q, -⟩ | ⟨g', c2, cur, q, -, -, q3, -⟩
    · rw [q] at e; cases e
    · rw [q] at e
      cases e
      exact hsr.blo q3 rfl
theorem LgS.more (h : LgS w0 cnt T p i size r M dn c wr) (he : T.E i n = some cc) {k : Nat} (hs : SR w2 (p.MB i) r k (fun s => (T.E i s).map p.B) (dn ++ [n]) c') (hg : wr.grownBy w2 (some r)) (hb : Below w2.heap.size w2 w3) {m : Int} (hm : 255 < m ↔ LgI T cc (size + 1 + n.size)) :
    LgS w0 cnt T p i size r (max M m) (dn ++ [n]) c' w3 := by
  obtain ⟨q1, q2⟩ := h.step hg
  refine ⟨q1.later hb, ⟨k, hs.later hb⟩, q2.trans (hb.mono q2.size), ?_, h.rl⟩
  have hx : 255 < max M m ↔ (255 < M ∨ 255 < m) := by omega
  rw [hx, h.iff, hm]
  constructor
  · rintro ((q | ⟨n', c2, a1, a2, a3⟩) | q)
    · exact .inl q
    · exact .inr ⟨n', c2, List.mem_append_left _ a1, a2, a3⟩
    · exact .inr ⟨n, cc, List.mem_append_right _ List.mem_cons_self, he, q⟩
  · rintro (q | ⟨n', c2, a1, a2, a3⟩)
    · exact .inl (.inl q)
    · rcases List.mem_append.1 a1 with a1 | a1
      · exact .inl (.inr ⟨n', c2, a1, a2, a3⟩)
      · have e : n' = n := by simpa using a1
        subst e
        rw [he] at a2
        cases a2
        exact .inr a3
theorem LgS.done (h : LgS w0 cnt T p i size r M dn c wr) (hk : T.K i = 2) (hall : ∀ n, (T.E i n).isSome = true → n ∈ dn) : LgO w0 T i size (.returned (.int .i64 M)) wr := by
  refine ⟨⟨M, rfl, ?_⟩, h.b⟩
  rw [h.iff]
  constructor
  · rintro (q | ⟨n, c', -, a2, a3⟩)
    · exact .dir hk q
    · exact .deep hk a2 a3
  · intro q
    cases q with
    | file q1 _ => exact absurd hk q1
    | dir _ q2 => exact .inl q2
    | deep _ q2 q3 => exact .inr ⟨_, _, hall _ (by rw [q2]; rfl), q2, q3⟩
set_option maxRecDepth 100000 in
theorem long_file (h : TrM w0 cnt T p) (hi : T.live i) (hk : T.K i ≠ 2) (size : Nat) : Calls Try.prog 44 #[.pointer (some ⟨p.B i, 0, none⟩), .int .i64 (size : Int)] w0 (LgO w0 T i size) := by
  have HDi := Lib.hid (isDir_any h hi)
  rw [decide_eq_false hk] at HDi
  have HK := Lib.hid hk
  clear h hi hk
  go_enter Try.func44, Try.ntmps44
  go_wp2_with fail
  refine HDi.out.mono ?_
  rintro e w3 ⟨rfl, rfl⟩
  go_wp2_with fail
  go_ret
  refine ⟨⟨_, rfl, ?_⟩, Below.refl _ _⟩
  constructor
  · exact fun q => .file HK.out (by omega)
  · intro q
    cases q with
    | file _ q2 => omega
    | dir q1 _ => exact absurd q1 HK.out
    | deep q1 _ _ => exact absurd q1 HK.out
set_option maxRecDepth 100000 in
set_option maxHeartbeats 1000000 in
theorem long_dir (ht : TrT T) {rk : Nat → Nat} (hrk : ∀ d s j, T.E d s = some j → T.K j = 2 → rk j < rk d) : ∀ m i, rk i < m → T.K i = 2 → ∀ (w : World) (size : Nat) (P0 : List Nat),
    TrM w cnt T p → P0.Nodup → (∀ x ∈ P0, x ≤ T.n ∧ rk i < rk x) → size ≤ 4000 + 15 * P0.length →
    Calls Try.prog 44 #[.pointer (some ⟨p.B i, 0, none⟩), .int .i64 (size : Int)] w (LgO w T i size) := by
  intro m
  induction m with
  | zero => intro i hi; omega
  | succ m ih =>
    intro i hi hk w size P0 h hnd hP hsize
    have hil : T.live i := by unfold Tr.live; omega
    have hlen : P0.length ≤ 201 := by
      have h1 := nodup_len P0 (List.range (T.n + 1)) hnd (fun x hx => by rw [List.mem_range]; have := (hP x hx).1; omega)
      rw [List.length_range] at h1
      have := ht.wf.n2
      omega
    obtain ⟨-, -, -, c3, -⟩ := h.cells hil
    rw [if_pos hk] at c3
    obtain ⟨ks, hm⟩ := h.map i hk
    obtain ⟨w1, hrun, ⟨cn, hsr⟩, hb1, hsz1⟩ := hm.range (t := NMT) Try.underlying80
    have HDi := Lib.hid (isDir_any h hil)
    rw [decide_eq_true hk] at HDi
    have HSt : Hid (LgR w cnt T p i size w.heap.size (.int .i64 ((size : Int) + 1)) w1) := ⟨_, [], cn, rfl, h.later hb1, ⟨_, hsr⟩, hb1, (by
      constructor
      · exact fun q => .inl (by omega)
      · rintro (q | ⟨n, c', q, -⟩)
        · omega
        · cases q), Nat.le_refl _⟩
    have hs9 : (size : Int) < 100000 := by omega
    have HRec : Hid (∀ n cc, T.E i n = some cc → ∀ w2, TrM w2 cnt T p → Calls Try.prog 44 #[.pointer (some ⟨p.B cc, 0, none⟩), .int .i64 ((size + 1 + n.size : Nat) : Int)] w2 (LgO w2 T cc (size + 1 + n.size))) := fun n cc he w2 h2 => by
      have hn := nmE_size14 (ht.nm i n cc he)
      have hlc := (ht.wf.ent i n cc he).2.1
      by_cases hk2 : T.K cc = 2
      · have h1 := hrk i n cc he hk2
        refine ih cc (by omega) hk2 w2 _ (i :: P0) h2 (List.nodup_cons.2 ⟨fun q => ?_, hnd⟩) (fun x hx => ?_) ?_
        · have := (hP i q).2; omega
        · rcases List.mem_cons.1 hx with e | e
          · subst e
            exact ⟨(ht.wf.rng _ hil).2, h1⟩
          · have := hP x e
            exact ⟨this.1, by omega⟩
        · rw [List.length_cons]; omega
      · exact long_file h2 hlc hk2 _
    have H := Lib.hid h
    have HK := Lib.hid hk
    have HT := Lib.hid ht
    clear hm hsr hb1 hsz1 h hk hP hi ih hil ht hrk hnd hsize hlen
    generalize hr : w.heap.size = r at *
    have HR := Lib.hid hr
    clear hr
    go_enter Try.func44, Try.ntmps44
    go_wp2_with fail
    refine HDi.out.mono ?_
    rintro e w3 ⟨rfl, rfl⟩
    go_wp2_with fail
    clear c3 hrun
    go_loopw [5] (fun v wr => LgR w3 cnt T p i size r v wr) (fun _ wr => wr.rangeLeft (p.MB i) r)
    case atStart => exact HSt.out
    case round =>
      clear HSt
      obtain ⟨M, done, c, rfl, hS⟩ := hrel
      have HS := Lib.hid hS
      obtain ⟨k0, hsr⟩ := HS.out.sr
      have HM := Lib.hid hsr.left_eq
      clear hS
      rcases hsr.next 0 with ⟨hall, hrun⟩ | ⟨n, b, w2, c', hwf, hfb, hnin, hrun, hsr', hlt, hgr, hsz, hen⟩
      · have HE := Lib.hid (HS.out.done HK.out (fun n hn => hall n (by
            obtain ⟨j, hj⟩ := Option.isSome_iff_exists.1 hn
            exact wfS_14 (nmE_size14 (HT.out.nm i n j hj))) (by show ((T.E i n).map p.B).isSome = true; rw [Option.isSome_map]; exact hn)))
        clear hall hsr HS
        go_wp2_with fail
        go_ret
        exact HE.out
      · obtain ⟨cc, hcc, rfl⟩ : ∃ cc, T.E i n = some cc ∧ p.B cc = b := by
          have hfb : (T.E i n).map p.B = some b := hfb
          cases hq : T.E i n with
          | none => rw [hq] at hfb; cases hfb
          | some cc => rw [hq] at hfb; exact ⟨cc, rfl, Option.some.inj hfb⟩
        obtain ⟨q1, q2⟩ := HS.out.step hgr
        have hn14 := nmE_size14 (HT.out.nm i n cc hcc)
        have HC := Lib.hid (HRec.out n cc hcc w2 q1)
        have HX := Lib.hid (And.intro hcc (And.intro hsr' (And.intro hgr hlt)))
        have e9 : ((size + 1 + n.size : Nat) : Int) = (size : Int) + 1 + (n.size : Int) := by omega
        rw [e9] at HC
        clear hcc q1 q2 hwf hfb hnin hsr' hlt hgr hsz hsr e9
        go_wp2_with fail
        refine HC.out.mono ?_
        rintro e w5 ⟨⟨m5, rfl, hiff5⟩, hb5⟩
        have HS5 := Lib.hid (HS.out.more HX.out.1 HX.out.2.1 HX.out.2.2.1 hb5 hiff5)
        clear hiff5 hb5 HC
        obtain ⟨mx, hmx⟩ : ∃ mx, max M m5 = mx := ⟨_, rfl⟩
        rw [hmx] at HS5
        go_wp2_with fail
        go_roundw
        case rel => exact ⟨_, _, _, rfl, HS5.out⟩
        case measure =>
          obtain ⟨k5, hsr5⟩ := HS5.out.sr
          rw [hsr5.left_eq, HM.out]
          exact HX.out.2.2.2
theorem long_any (ht : TrT T) (h : TrM w0 cnt T p) (hi : T.live i) (hs : size ≤ 4000) : Calls Try.prog 44 #[.pointer (some ⟨p.B i, 0, none⟩), .int .i64 (size : Int)] w0 (LgO w0 T i size) := by
  by_cases hk : T.K i = 2
  · obtain ⟨rk, hrk⟩ := ht.rank
    exact long_dir ht hrk (rk i + 1) i (Nat.lt_succ_self _) hk w0 size [] h List.nodup_nil (fun x hx => by cases hx) (by simpa using hs)
  · exact long_file h hi hk size
end
end Go.Proofs.Ytcjojcihjhhpgaa
/-
  renameable: why a node can't have the name of what is there.
-/
namespace Go.Proofs.Ytcjojcihjhhpgaa
open Go.RowKit

def RbO (w : World) (z : Int) (e : Ending) (w' : World) : Prop := e = .returned (.int .i64 z) ∧ Below w.heap.size w w'
theorem info_nt : ∃ j, Try.prog.info? NT = some j ∧ j.size ≠ 0 := by
  obtain ⟨j, hj⟩ := Option.isSome_iff_exists.1 (show (Try.prog.info? NT).isSome = true by kernel_rfl)
  refine ⟨j, hj, ?_⟩
  have h : (Try.prog.info? NT).map (·.size) = some 5 := by kernel_rfl
  rw [hj] at h
  have h : j.size = 5 := Option.some.inj h
  omega
theorem eq_sameN (w : World) (p : Addr) : (binOp .eql PNT (.pointer (some p)) (.pointer (some p))).run Try.prog w = .ok (.bool true) w := by
  obtain ⟨j, hj, -⟩ := info_nt
  exact run_eql_ptr_same w p Try.underlying67 hj
theorem eq_otherN {w : World} {a b : Nat} {t t' : TypeId} {cs cs' : Array Value} (h : a ≠ b) (ha : Blo w a t cs) (hb : Blo w b t' cs') : (binOp .eql PNT (.pointer (some ⟨a, 0, none⟩)) (.pointer (some ⟨b, 0, none⟩))).run Try.prog w = .ok (.bool false) w := by
  obtain ⟨j, hj, hs⟩ := info_nt
  exact run_eql_ptr_other w Try.underlying67 hj hs (fun e => h (by injection e)) ha hb
section
variable {w : World} {cnt : Nat} {T : Tr} {p : Pl} {c bf of_ nf cf b2 o2 n2 c2 : Nat} {df td : Bool} {lastf lastt : ByteArray} {lf lt : List ByteArray} {th : Option Nat}
set_option maxRecDepth 100000 in
set_option maxHeartbeats 2000000 in
theorem renameable_any (h : TrM w cnt T p) (hc : T.live c) (hth : ∀ x, th = some x → T.live x) (hpf : PlO w bf of_ nf cf lf lastf) (hpt : PlO w b2 o2 n2 c2 lt lastt) :
    Calls Try.prog 42 #[.pointer (some ⟨p.B c, 0, none⟩), ptrV (th.map p.B), plV bf of_ nf cf df lastf, plV b2 o2 n2 c2 td lastt] w (RbO w (rnE T c th lf lt td)) := by
  unfold plV
  have HDi : Hid (∀ W, Below w.heap.size w W → Calls Try.prog 43 #[.pointer (some ⟨p.B c, 0, none⟩)] W fun e w' => e = .returned (.bool (decide (T.K c = 2))) ∧ w' = W) := fun W hW => isDir_any (h.later hW) hc
  have HWi : Hid (∀ W, Below w.heap.size w W → Calls Try.prog 63 #[.slice (some ⟨bf, of_, none⟩) nf cf, .slice (some ⟨b2, o2, none⟩) n2 c2] W fun e w' => e = .returned (.bool (wiB lf lt)) ∧ Below W.heap.size W w') := fun W hW =>
    within_any lf lt _ _ nf n2 cf c2 W hpf.len hpt.len hpt.le (by have := hpt.n9; omega) (fun _ x hx => by cases hx; rfl) (hpf.strs.below hW) (hpt.strs.below hW)
  have HEm : Hid (∀ W, Below w.heap.size w W → ∀ x, th = some x → Calls Try.prog 55 #[.pointer (some ⟨p.B x, 0, none⟩)] W fun e w' => e = .returned (.int .i64 (wrEmpty T x)) ∧ w' = W) := fun W hW x hx => empty_any (h.later hW) (hth x hx)
  have HFi : Hid (∀ W, Below w.heap.size w W → ∀ x, th = some x → Calls Try.prog 38 #[.pointer (some ⟨p.B x, 0, none⟩)] W fun e w' => e = .returned (.int .i64 (wrFile T x)) ∧ w' = W) := fun W hW x hx => file_any (h.later hW) (hth x hx)
  have HNe : Hid (∀ W, Below w.heap.size w W → ∀ x, th = some x → x ≠ c → (binOp .eql PNT (.pointer (some ⟨p.B x, 0, none⟩)) (.pointer (some ⟨p.B c, 0, none⟩))).run Try.prog W = .ok (.bool false) W) := fun W hW x hx hne => eq_otherN (fun e => hne (h.injB x c (hth x hx) hc e)) ((h.later hW).node x (hth x hx)) ((h.later hW).node c hc)
  have HLn : Hid (nf = lf.length ∧ n2 = lt.length) := ⟨hpf.len, hpt.len⟩
  clear h hc hth hpf hpt
  obtain ⟨w1, hw1⟩ : ∃ w1, w.alloc (.cells #[.slice (some ⟨bf, of_, none⟩) nf cf, .bool df, .string lastf] PLT) = w1 := ⟨_, rfl⟩
  obtain ⟨w2, hw2⟩ : ∃ w2, w1.alloc (.cells #[.slice (some ⟨b2, o2, none⟩) n2 c2, .bool td, .string lastt] PLT) = w2 := ⟨_, rfl⟩
  have hb1 : Below w.heap.size w w1 := by rw [← hw1]; exact sup_pct w _
  have hb2 : Below w1.heap.size w1 w2 := by rw [← hw2]; exact sup_pct w1 _
  have hx1 : Blo w1 w.heap.size PLT #[.slice (some ⟨bf, of_, none⟩) nf cf, .bool df, .string lastf] := by rw [← hw1]; exact blo_laid w _ _
  have hx2 : Blo w2 w1.heap.size PLT #[.slice (some ⟨b2, o2, none⟩) n2 c2, .bool td, .string lastt] := by rw [← hw2]; exact blo_laid w1 _ _
  have hx1' := hx1.later hb2
  have HX1 := Lib.hid hx1'
  have HX2 := Lib.hid hx2
  have HB2 : Hid (Below w.heap.size w w2) := hb1.trans (hb2.mono hb1.size)
  have f0 : w2.cell? ⟨w.heap.size, 0, none⟩ = some (.slice (some ⟨bf, of_, none⟩) nf cf) := hx1'.cell 0
  have t0 : w2.cell? ⟨w1.heap.size, 0, none⟩ = some (.slice (some ⟨b2, o2, none⟩) n2 c2) := hx2.cell 0
  have t1 : w2.cell? ⟨w1.heap.size, 1, none⟩ = some (.bool td) := hx2.cell 1
  clear hb1 hb2 hx1 hx2 hx1'
  have HE : Hid (rnE T c th lf lt td = if T.K c = 2 ∧ lf.length < lt.length ∧ wiB lf lt = true then 22 else if td = true ∧ T.K c ≠ 2 then 20 else rnT T c th) := rfl
  generalize rnE T c th lf lt td = z at *
  by_cases hk : T.K c = 2
  · rw [decide_eq_true hk] at HDi
    by_cases hlt : nf < n2
    · have hlt2 : (nf : Int) < (n2 : Int) := by omega
      generalize hwi : wiB lf lt = wi at *
      cases wi with
      | true =>
        have HZ : Hid (z = 22) := HE.out.trans (if_pos ⟨hk, by have := HLn.out; omega, rfl⟩)
        clear HE hk hlt
        go_enter Try.func42, Try.ntmps42
        go_wp2_with (first | (go_at_call 43; refine (HDi.out _ (by first | exact HB5.out | exact HB2.out)).mono ?_; rintro e w9 ⟨rfl, rfl⟩) | (go_at_call 63; refine (HWi.out _ HB2.out).mono ?_; rintro e w5 ⟨rfl, hb5⟩; have HB5 : Hid (Below w.heap.size w w5) := HB2.out.trans (hb5.mono HB2.out.size); have t15 : w5.cell? ⟨w1.heap.size, 1, none⟩ = some (.bool td) := (HX2.out.later hb5).cell 1; (try (have hbe5 := HNe.out w5 HB5.out x rfl hxc)); clear hb5) | (go_at_call 55; refine (HEm.out _ (by first | exact HB5.out | exact HB2.out) x rfl).mono ?_; rintro e w9 ⟨rfl, rfl⟩) | (go_at_call 38; refine (HFi.out _ (by first | exact HB5.out | exact HB2.out) x rfl).mono ?_; rintro e w9 ⟨rfl, rfl⟩))
        go_ret
        rw [HZ.out]
        exact ⟨rfl, (by first | exact HB5.out | exact HB2.out)⟩
      | false =>
        have HZ : Hid (z = rnT T c th) := (HE.out.trans (if_neg (fun q => by cases q.2.2))).trans (if_neg (fun q => q.2 hk))
        have HK := Lib.hid hk
        clear HE hk hlt
        cases td
        · cases th with
          | none =>
            have HZ : Hid (z = 0) := HZ.out
            go_enter Try.func42, Try.ntmps42
            go_wp2_with (first | (go_at_call 43; refine (HDi.out _ (by first | exact HB5.out | exact HB2.out)).mono ?_; rintro e w9 ⟨rfl, rfl⟩) | (go_at_call 63; refine (HWi.out _ HB2.out).mono ?_; rintro e w5 ⟨rfl, hb5⟩; have HB5 : Hid (Below w.heap.size w w5) := HB2.out.trans (hb5.mono HB2.out.size); have t15 : w5.cell? ⟨w1.heap.size, 1, none⟩ = some (.bool false) := (HX2.out.later hb5).cell 1; (try (have hbe5 := HNe.out w5 HB5.out x rfl hxc)); clear hb5) | (go_at_call 55; refine (HEm.out _ (by first | exact HB5.out | exact HB2.out) x rfl).mono ?_; rintro e w9 ⟨rfl, rfl⟩) | (go_at_call 38; refine (HFi.out _ (by first | exact HB5.out | exact HB2.out) x rfl).mono ?_; rintro e w9 ⟨rfl, rfl⟩))
            go_ret
            rw [HZ.out]
            exact ⟨rfl, (by first | exact HB5.out | exact HB2.out)⟩
          | some x =>
            by_cases hxc : x = c
            · subst hxc
              have HZ : Hid (z = 0) := HZ.out.trans (if_pos rfl)
              have hbe := fun W => eq_sameN W ⟨p.B x, 0, none⟩
              show Calls _ _ #[_, .pointer (some ⟨p.B x, 0, none⟩), _, _] w _
              go_enter Try.func42, Try.ntmps42
              go_wp2_with (first | (go_at_call 43; refine (HDi.out _ (by first | exact HB5.out | exact HB2.out)).mono ?_; rintro e w9 ⟨rfl, rfl⟩) | (go_at_call 63; refine (HWi.out _ HB2.out).mono ?_; rintro e w5 ⟨rfl, hb5⟩; have HB5 : Hid (Below w.heap.size w w5) := HB2.out.trans (hb5.mono HB2.out.size); have t15 : w5.cell? ⟨w1.heap.size, 1, none⟩ = some (.bool false) := (HX2.out.later hb5).cell 1; (try (have hbe5 := HNe.out w5 HB5.out x rfl hxc)); clear hb5) | (go_at_call 55; refine (HEm.out _ (by first | exact HB5.out | exact HB2.out) x rfl).mono ?_; rintro e w9 ⟨rfl, rfl⟩) | (go_at_call 38; refine (HFi.out _ (by first | exact HB5.out | exact HB2.out) x rfl).mono ?_; rintro e w9 ⟨rfl, rfl⟩))
              go_ret
              rw [HZ.out]
              exact ⟨rfl, (by first | exact HB5.out | exact HB2.out)⟩
            · have hbe := HNe.out w2 HB2.out x rfl hxc
              have HZ : Hid (z = wrEmpty T x) := (HZ.out.trans (if_neg hxc)).trans (if_pos HK.out)
              show Calls _ _ #[_, .pointer (some ⟨p.B x, 0, none⟩), _, _] w _
              go_enter Try.func42, Try.ntmps42
              go_wp2_with (first | (go_at_call 43; refine (HDi.out _ (by first | exact HB5.out | exact HB2.out)).mono ?_; rintro e w9 ⟨rfl, rfl⟩) | (go_at_call 63; refine (HWi.out _ HB2.out).mono ?_; rintro e w5 ⟨rfl, hb5⟩; have HB5 : Hid (Below w.heap.size w w5) := HB2.out.trans (hb5.mono HB2.out.size); have t15 : w5.cell? ⟨w1.heap.size, 1, none⟩ = some (.bool false) := (HX2.out.later hb5).cell 1; (try (have hbe5 := HNe.out w5 HB5.out x rfl hxc)); clear hb5) | (go_at_call 55; refine (HEm.out _ (by first | exact HB5.out | exact HB2.out) x rfl).mono ?_; rintro e w9 ⟨rfl, rfl⟩) | (go_at_call 38; refine (HFi.out _ (by first | exact HB5.out | exact HB2.out) x rfl).mono ?_; rintro e w9 ⟨rfl, rfl⟩))
              go_ret
              rw [HZ.out]
              exact ⟨rfl, (by first | exact HB5.out | exact HB2.out)⟩
        · cases th with
          | none =>
            have HZ : Hid (z = 0) := HZ.out
            go_enter Try.func42, Try.ntmps42
            go_wp2_with (first | (go_at_call 43; refine (HDi.out _ (by first | exact HB5.out | exact HB2.out)).mono ?_; rintro e w9 ⟨rfl, rfl⟩) | (go_at_call 63; refine (HWi.out _ HB2.out).mono ?_; rintro e w5 ⟨rfl, hb5⟩; have HB5 : Hid (Below w.heap.size w w5) := HB2.out.trans (hb5.mono HB2.out.size); have t15 : w5.cell? ⟨w1.heap.size, 1, none⟩ = some (.bool true) := (HX2.out.later hb5).cell 1; (try (have hbe5 := HNe.out w5 HB5.out x rfl hxc)); clear hb5) | (go_at_call 55; refine (HEm.out _ (by first | exact HB5.out | exact HB2.out) x rfl).mono ?_; rintro e w9 ⟨rfl, rfl⟩) | (go_at_call 38; refine (HFi.out _ (by first | exact HB5.out | exact HB2.out) x rfl).mono ?_; rintro e w9 ⟨rfl, rfl⟩))
            go_ret
            rw [HZ.out]
            exact ⟨rfl, (by first | exact HB5.out | exact HB2.out)⟩
          | some x =>
            by_cases hxc : x = c
            · subst hxc
              have HZ : Hid (z = 0) := HZ.out.trans (if_pos rfl)
              have hbe := fun W => eq_sameN W ⟨p.B x, 0, none⟩
              show Calls _ _ #[_, .pointer (some ⟨p.B x, 0, none⟩), _, _] w _
              go_enter Try.func42, Try.ntmps42
              go_wp2_with (first | (go_at_call 43; refine (HDi.out _ (by first | exact HB5.out | exact HB2.out)).mono ?_; rintro e w9 ⟨rfl, rfl⟩) | (go_at_call 63; refine (HWi.out _ HB2.out).mono ?_; rintro e w5 ⟨rfl, hb5⟩; have HB5 : Hid (Below w.heap.size w w5) := HB2.out.trans (hb5.mono HB2.out.size); have t15 : w5.cell? ⟨w1.heap.size, 1, none⟩ = some (.bool true) := (HX2.out.later hb5).cell 1; (try (have hbe5 := HNe.out w5 HB5.out x rfl hxc)); clear hb5) | (go_at_call 55; refine (HEm.out _ (by first | exact HB5.out | exact HB2.out) x rfl).mono ?_; rintro e w9 ⟨rfl, rfl⟩) | (go_at_call 38; refine (HFi.out _ (by first | exact HB5.out | exact HB2.out) x rfl).mono ?_; rintro e w9 ⟨rfl, rfl⟩))
              go_ret
              rw [HZ.out]
              exact ⟨rfl, (by first | exact HB5.out | exact HB2.out)⟩
            · have hbe := HNe.out w2 HB2.out x rfl hxc
              have HZ : Hid (z = wrEmpty T x) := (HZ.out.trans (if_neg hxc)).trans (if_pos HK.out)
              show Calls _ _ #[_, .pointer (some ⟨p.B x, 0, none⟩), _, _] w _
              go_enter Try.func42, Try.ntmps42
              go_wp2_with (first | (go_at_call 43; refine (HDi.out _ (by first | exact HB5.out | exact HB2.out)).mono ?_; rintro e w9 ⟨rfl, rfl⟩) | (go_at_call 63; refine (HWi.out _ HB2.out).mono ?_; rintro e w5 ⟨rfl, hb5⟩; have HB5 : Hid (Below w.heap.size w w5) := HB2.out.trans (hb5.mono HB2.out.size); have t15 : w5.cell? ⟨w1.heap.size, 1, none⟩ = some (.bool true) := (HX2.out.later hb5).cell 1; (try (have hbe5 := HNe.out w5 HB5.out x rfl hxc)); clear hb5) | (go_at_call 55; refine (HEm.out _ (by first | exact HB5.out | exact HB2.out) x rfl).mono ?_; rintro e w9 ⟨rfl, rfl⟩) | (go_at_call 38; refine (HFi.out _ (by first | exact HB5.out | exact HB2.out) x rfl).mono ?_; rintro e w9 ⟨rfl, rfl⟩))
              go_ret
              rw [HZ.out]
              exact ⟨rfl, (by first | exact HB5.out | exact HB2.out)⟩
    · have hlt2 : ¬ (nf : Int) < (n2 : Int) := by omega
      have HZ : Hid (z = rnT T c th) := (HE.out.trans (if_neg (fun q => by have := HLn.out; omega))).trans (if_neg (fun q => q.2 hk))
      have HK := Lib.hid hk
      clear HE hk hlt
      cases td
      · cases th with
        | none =>
          have HZ : Hid (z = 0) := HZ.out
          go_enter Try.func42, Try.ntmps42
          go_wp2_with (first | (go_at_call 43; refine (HDi.out _ (by first | exact HB5.out | exact HB2.out)).mono ?_; rintro e w9 ⟨rfl, rfl⟩) | (go_at_call 63; refine (HWi.out _ HB2.out).mono ?_; rintro e w5 ⟨rfl, hb5⟩; have HB5 : Hid (Below w.heap.size w w5) := HB2.out.trans (hb5.mono HB2.out.size); have t15 : w5.cell? ⟨w1.heap.size, 1, none⟩ = some (.bool false) := (HX2.out.later hb5).cell 1; (try (have hbe5 := HNe.out w5 HB5.out x rfl hxc)); clear hb5) | (go_at_call 55; refine (HEm.out _ (by first | exact HB5.out | exact HB2.out) x rfl).mono ?_; rintro e w9 ⟨rfl, rfl⟩) | (go_at_call 38; refine (HFi.out _ (by first | exact HB5.out | exact HB2.out) x rfl).mono ?_; rintro e w9 ⟨rfl, rfl⟩))
          go_ret
          rw [HZ.out]
          exact ⟨rfl, (by first | exact HB5.out | exact HB2.out)⟩
        | some x =>
          by_cases hxc : x = c
          · subst hxc
            have HZ : Hid (z = 0) := HZ.out.trans (if_pos rfl)
            have hbe := fun W => eq_sameN W ⟨p.B x, 0, none⟩
            show Calls _ _ #[_, .pointer (some ⟨p.B x, 0, none⟩), _, _] w _
            go_enter Try.func42, Try.ntmps42
            go_wp2_with (first | (go_at_call 43; refine (HDi.out _ (by first | exact HB5.out | exact HB2.out)).mono ?_; rintro e w9 ⟨rfl, rfl⟩) | (go_at_call 63; refine (HWi.out _ HB2.out).mono ?_; rintro e w5 ⟨rfl, hb5⟩; have HB5 : Hid (Below w.heap.size w w5) := HB2.out.trans (hb5.mono HB2.out.size); have t15 : w5.cell? ⟨w1.heap.size, 1, none⟩ = some (.bool false) := (HX2.out.later hb5).cell 1; (try (have hbe5 := HNe.out w5 HB5.out x rfl hxc)); clear hb5) | (go_at_call 55; refine (HEm.out _ (by first | exact HB5.out | exact HB2.out) x rfl).mono ?_; rintro e w9 ⟨rfl, rfl⟩) | (go_at_call 38; refine (HFi.out _ (by first | exact HB5.out | exact HB2.out) x rfl).mono ?_; rintro e w9 ⟨rfl, rfl⟩))
            go_ret
            rw [HZ.out]
            exact ⟨rfl, (by first | exact HB5.out | exact HB2.out)⟩
          · have hbe := HNe.out w2 HB2.out x rfl hxc
            have HZ : Hid (z = wrEmpty T x) := (HZ.out.trans (if_neg hxc)).trans (if_pos HK.out)
            show Calls _ _ #[_, .pointer (some ⟨p.B x, 0, none⟩), _, _] w _
            go_enter Try.func42, Try.ntmps42
            go_wp2_with (first | (go_at_call 43; refine (HDi.out _ (by first | exact HB5.out | exact HB2.out)).mono ?_; rintro e w9 ⟨rfl, rfl⟩) | (go_at_call 63; refine (HWi.out _ HB2.out).mono ?_; rintro e w5 ⟨rfl, hb5⟩; have HB5 : Hid (Below w.heap.size w w5) := HB2.out.trans (hb5.mono HB2.out.size); have t15 : w5.cell? ⟨w1.heap.size, 1, none⟩ = some (.bool false) := (HX2.out.later hb5).cell 1; (try (have hbe5 := HNe.out w5 HB5.out x rfl hxc)); clear hb5) | (go_at_call 55; refine (HEm.out _ (by first | exact HB5.out | exact HB2.out) x rfl).mono ?_; rintro e w9 ⟨rfl, rfl⟩) | (go_at_call 38; refine (HFi.out _ (by first | exact HB5.out | exact HB2.out) x rfl).mono ?_; rintro e w9 ⟨rfl, rfl⟩))
            go_ret
            rw [HZ.out]
            exact ⟨rfl, (by first | exact HB5.out | exact HB2.out)⟩
      · cases th with
        | none =>
          have HZ : Hid (z = 0) := HZ.out
          go_enter Try.func42, Try.ntmps42
          go_wp2_with (first | (go_at_call 43; refine (HDi.out _ (by first | exact HB5.out | exact HB2.out)).mono ?_; rintro e w9 ⟨rfl, rfl⟩) | (go_at_call 63; refine (HWi.out _ HB2.out).mono ?_; rintro e w5 ⟨rfl, hb5⟩; have HB5 : Hid (Below w.heap.size w w5) := HB2.out.trans (hb5.mono HB2.out.size); have t15 : w5.cell? ⟨w1.heap.size, 1, none⟩ = some (.bool true) := (HX2.out.later hb5).cell 1; (try (have hbe5 := HNe.out w5 HB5.out x rfl hxc)); clear hb5) | (go_at_call 55; refine (HEm.out _ (by first | exact HB5.out | exact HB2.out) x rfl).mono ?_; rintro e w9 ⟨rfl, rfl⟩) | (go_at_call 38; refine (HFi.out _ (by first | exact HB5.out | exact HB2.out) x rfl).mono ?_; rintro e w9 ⟨rfl, rfl⟩))
          go_ret
          rw [HZ.out]
          exact ⟨rfl, (by first | exact HB5.out | exact HB2.out)⟩
        | some x =>
          by_cases hxc : x = c
          · subst hxc
            have HZ : Hid (z = 0) := HZ.out.trans (if_pos rfl)
            have hbe := fun W => eq_sameN W ⟨p.B x, 0, none⟩
            show Calls _ _ #[_, .pointer (some ⟨p.B x, 0, none⟩), _, _] w _
            go_enter Try.func42, Try.ntmps42
            go_wp2_with (first | (go_at_call 43; refine (HDi.out _ (by first | exact HB5.out | exact HB2.out)).mono ?_; rintro e w9 ⟨rfl, rfl⟩) | (go_at_call 63; refine (HWi.out _ HB2.out).mono ?_; rintro e w5 ⟨rfl, hb5⟩; have HB5 : Hid (Below w.heap.size w w5) := HB2.out.trans (hb5.mono HB2.out.size); have t15 : w5.cell? ⟨w1.heap.size, 1, none⟩ = some (.bool true) := (HX2.out.later hb5).cell 1; (try (have hbe5 := HNe.out w5 HB5.out x rfl hxc)); clear hb5) | (go_at_call 55; refine (HEm.out _ (by first | exact HB5.out | exact HB2.out) x rfl).mono ?_; rintro e w9 ⟨rfl, rfl⟩) | (go_at_call 38; refine (HFi.out _ (by first | exact HB5.out | exact HB2.out) x rfl).mono ?_; rintro e w9 ⟨rfl, rfl⟩))
            go_ret
            rw [HZ.out]
            exact ⟨rfl, (by first | exact HB5.out | exact HB2.out)⟩
          · have hbe := HNe.out w2 HB2.out x rfl hxc
            have HZ : Hid (z = wrEmpty T x) := (HZ.out.trans (if_neg hxc)).trans (if_pos HK.out)
            show Calls _ _ #[_, .pointer (some ⟨p.B x, 0, none⟩), _, _] w _
            go_enter Try.func42, Try.ntmps42
            go_wp2_with (first | (go_at_call 43; refine (HDi.out _ (by first | exact HB5.out | exact HB2.out)).mono ?_; rintro e w9 ⟨rfl, rfl⟩) | (go_at_call 63; refine (HWi.out _ HB2.out).mono ?_; rintro e w5 ⟨rfl, hb5⟩; have HB5 : Hid (Below w.heap.size w w5) := HB2.out.trans (hb5.mono HB2.out.size); have t15 : w5.cell? ⟨w1.heap.size, 1, none⟩ = some (.bool true) := (HX2.out.later hb5).cell 1; (try (have hbe5 := HNe.out w5 HB5.out x rfl hxc)); clear hb5) | (go_at_call 55; refine (HEm.out _ (by first | exact HB5.out | exact HB2.out) x rfl).mono ?_; rintro e w9 ⟨rfl, rfl⟩) | (go_at_call 38; refine (HFi.out _ (by first | exact HB5.out | exact HB2.out) x rfl).mono ?_; rintro e w9 ⟨rfl, rfl⟩))
            go_ret
            rw [HZ.out]
            exact ⟨rfl, (by first | exact HB5.out | exact HB2.out)⟩
  · rw [decide_eq_false hk] at HDi
    have HK := Lib.hid hk
    cases td with
    | true =>
      have HZ : Hid (z = 20) := (HE.out.trans (if_neg (fun q => hk q.1))).trans (if_pos ⟨rfl, hk⟩)
      clear HE hk
      go_enter Try.func42, Try.ntmps42
      go_wp2_with (first | (go_at_call 43; refine (HDi.out _ (by first | exact HB5.out | exact HB2.out)).mono ?_; rintro e w9 ⟨rfl, rfl⟩) | (go_at_call 63; refine (HWi.out _ HB2.out).mono ?_; rintro e w5 ⟨rfl, hb5⟩; have HB5 : Hid (Below w.heap.size w w5) := HB2.out.trans (hb5.mono HB2.out.size); have t15 : w5.cell? ⟨w1.heap.size, 1, none⟩ = some (.bool true) := (HX2.out.later hb5).cell 1; (try (have hbe5 := HNe.out w5 HB5.out x rfl hxc)); clear hb5) | (go_at_call 55; refine (HEm.out _ (by first | exact HB5.out | exact HB2.out) x rfl).mono ?_; rintro e w9 ⟨rfl, rfl⟩) | (go_at_call 38; refine (HFi.out _ (by first | exact HB5.out | exact HB2.out) x rfl).mono ?_; rintro e w9 ⟨rfl, rfl⟩))
      go_ret
      rw [HZ.out]
      exact ⟨rfl, (by first | exact HB5.out | exact HB2.out)⟩
    | false =>
      have HZ : Hid (z = rnT T c th) := (HE.out.trans (if_neg (fun q => hk q.1))).trans (if_neg (fun q => by cases q.1))
      clear HE hk
      cases th with
      | none =>
        have HZ : Hid (z = 0) := HZ.out
        go_enter Try.func42, Try.ntmps42
        go_wp2_with (first | (go_at_call 43; refine (HDi.out _ (by first | exact HB5.out | exact HB2.out)).mono ?_; rintro e w9 ⟨rfl, rfl⟩) | (go_at_call 63; refine (HWi.out _ HB2.out).mono ?_; rintro e w5 ⟨rfl, hb5⟩; have HB5 : Hid (Below w.heap.size w w5) := HB2.out.trans (hb5.mono HB2.out.size); have t15 : w5.cell? ⟨w1.heap.size, 1, none⟩ = some (.bool false) := (HX2.out.later hb5).cell 1; (try (have hbe5 := HNe.out w5 HB5.out x rfl hxc)); clear hb5) | (go_at_call 55; refine (HEm.out _ (by first | exact HB5.out | exact HB2.out) x rfl).mono ?_; rintro e w9 ⟨rfl, rfl⟩) | (go_at_call 38; refine (HFi.out _ (by first | exact HB5.out | exact HB2.out) x rfl).mono ?_; rintro e w9 ⟨rfl, rfl⟩))
        go_ret
        rw [HZ.out]
        exact ⟨rfl, (by first | exact HB5.out | exact HB2.out)⟩
      | some x =>
        by_cases hxc : x = c
        · subst hxc
          have HZ : Hid (z = 0) := HZ.out.trans (if_pos rfl)
          have hbe := fun W => eq_sameN W ⟨p.B x, 0, none⟩
          show Calls _ _ #[_, .pointer (some ⟨p.B x, 0, none⟩), _, _] w _
          go_enter Try.func42, Try.ntmps42
          go_wp2_with (first | (go_at_call 43; refine (HDi.out _ (by first | exact HB5.out | exact HB2.out)).mono ?_; rintro e w9 ⟨rfl, rfl⟩) | (go_at_call 63; refine (HWi.out _ HB2.out).mono ?_; rintro e w5 ⟨rfl, hb5⟩; have HB5 : Hid (Below w.heap.size w w5) := HB2.out.trans (hb5.mono HB2.out.size); have t15 : w5.cell? ⟨w1.heap.size, 1, none⟩ = some (.bool false) := (HX2.out.later hb5).cell 1; (try (have hbe5 := HNe.out w5 HB5.out x rfl hxc)); clear hb5) | (go_at_call 55; refine (HEm.out _ (by first | exact HB5.out | exact HB2.out) x rfl).mono ?_; rintro e w9 ⟨rfl, rfl⟩) | (go_at_call 38; refine (HFi.out _ (by first | exact HB5.out | exact HB2.out) x rfl).mono ?_; rintro e w9 ⟨rfl, rfl⟩))
          go_ret
          rw [HZ.out]
          exact ⟨rfl, (by first | exact HB5.out | exact HB2.out)⟩
        · have hbe := HNe.out w2 HB2.out x rfl hxc
          have HZ : Hid (z = wrFile T x) := (HZ.out.trans (if_neg hxc)).trans (if_neg HK.out)
          show Calls _ _ #[_, .pointer (some ⟨p.B x, 0, none⟩), _, _] w _
          go_enter Try.func42, Try.ntmps42
          go_wp2_with (first | (go_at_call 43; refine (HDi.out _ (by first | exact HB5.out | exact HB2.out)).mono ?_; rintro e w9 ⟨rfl, rfl⟩) | (go_at_call 63; refine (HWi.out _ HB2.out).mono ?_; rintro e w5 ⟨rfl, hb5⟩; have HB5 : Hid (Below w.heap.size w w5) := HB2.out.trans (hb5.mono HB2.out.size); have t15 : w5.cell? ⟨w1.heap.size, 1, none⟩ = some (.bool false) := (HX2.out.later hb5).cell 1; (try (have hbe5 := HNe.out w5 HB5.out x rfl hxc)); clear hb5) | (go_at_call 55; refine (HEm.out _ (by first | exact HB5.out | exact HB2.out) x rfl).mono ?_; rintro e w9 ⟨rfl, rfl⟩) | (go_at_call 38; refine (HFi.out _ (by first | exact HB5.out | exact HB2.out) x rfl).mono ?_; rintro e w9 ⟨rfl, rfl⟩))
          go_ret
          rw [HZ.out]
          exact ⟨rfl, (by first | exact HB5.out | exact HB2.out)⟩
end
end Go.Proofs.Ytcjojcihjhhpgaa
/-
  Rename.
-/
namespace Go.Proofs.Ytcjojcihjhhpgaa
open Go.RowKit

section
variable {w w' : World} {cnt : Nat} {T : Tr} {p : Pl} {b o n c : Nat} {l : List ByteArray} {last : ByteArray}
/-- Texts lie in none of the tree's blocks. -/
theorem strs_noXS (h : TrM w cnt T p) (hs : Strs w (some ⟨b, o, none⟩) l) (hl : l ≠ []) : ¬ XS T p b := by
  obtain ⟨b', o', e, hc⟩ := hs hl
  cases e
  have h0 := hc 0 (List.length_pos_iff.2 hl)
  rw [Nat.add_zero] at h0
  have key : ∀ t (cs : Array Value), Blo w b t cs → (∀ s : ByteArray, Value.string s ∉ cs.toList) → False := fun t cs hb hn => by
    rw [hb.cell] at h0
    exact hn _ (by rw [Array.mem_toList_iff]; exact Array.mem_of_getElem? h0)
  rintro (rfl | ⟨i, hi, rfl | ⟨hk, rfl⟩⟩)
  · refine key _ _ h.row (fun s hm => ?_)
    have hm : Value.string s ∈ ndL T p := hm
    unfold ndL at hm
    obtain ⟨j, -, hj⟩ := List.mem_map.1 hm
    cases hj
  · exact key _ _ (h.node i hi) (fun s hm => by
      unfold ndC at hm
      simp at hm
      rcases h.wf.kind i with q | q | q
      · exact hi q
      · rcases h.dat i q with ⟨q2, -⟩ | ⟨g, c2, cur, q2, -⟩
        · rw [q2] at hm; cases hm
        · rw [q2] at hm; cases hm
      · rw [h.dir i q] at hm; cases hm)
  · obtain ⟨ks, hm⟩ := h.map i hk
    obtain ⟨es, cl, hx⟩ := hm.obj
    simp [World.cell?, hx] at h0
theorem PlO.out {X : Nat → Prop} (h : PlO w b o n c l last) (ho : Out X w w') (hx : ¬ X b) : PlO w' b o n c l last :=
  ⟨h.len, h.pos, h.le, h.n9, fun hl => by
    obtain ⟨b', o', e, hc⟩ := h.strs hl
    cases e
    exact ⟨b, o, rfl, fun i hi => ho.cell (hc i hi) hx⟩, h.keys, h.wl⟩
end
end Go.Proofs.Ytcjojcihjhhpgaa
/-
  Rename.
-/
namespace Go.Proofs.Ytcjojcihjhhpgaa
open Go.RowKit

section
variable {w : World} {cnt : Nat} {T : Tr} {p : Pl}
theorem eq_noneN (w : World) (a : Addr) : (binOp .eql PNT (.pointer none) (.pointer (some a))).run Try.prog w = .ok (.bool false) w := by
  have h : ∀ d : Nat, (Op.equalIn (d + 1) PNT (.pointer none) (.pointer (some a))).run Try.prog w = .ok false w := fun d => by
    simp [Op.equalIn, run_underlying Try.underlying67]
  simp only [binOp]
  simp [Op.equal, Op.maxDepth, h 9999]
set_option maxRecDepth 100000 in
set_option maxHeartbeats 4000000 in
theorem rename_any (h : TrM w cnt T p) (ht : TrT T) (hc : cnt < 1000000) (old s : ByteArray) : Calls Try.prog 18 #[.pointer (some ⟨p.bt, 0, none⟩), .string old, .string s] w (OpE w cnt T p (renameK T old s)) := by
  have H := Lib.hid h
  have HT := Lib.hid ht
  have HC := Lib.hid hc
  have HPo := Lib.hid (tparent_any old w)
  have HPs := Lib.hid (fun W => tparent_any s W)
  have HQ : Hid (renameK T old s = if paE old ≠ 0 then (T, paE old) else if paE s ≠ 0 then (T, paE s) else rnR1 T old s (findK T (spL old) (spD old) (wrAny T))) := rfl
  clear h ht hc
  go_enter Try.func18, Try.ntmps18
  go_wp2_with fail
  refine HPo.out.mono ?_
  rintro e w1 (⟨hz, rfl, hb⟩ | ⟨hz, b, o, n, c0, rfl, hn, h0, hnc, hs, hb⟩)
  · have HE : Hid (renameK T old s = (T, paE old)) := HQ.out.trans (if_pos hz)
    have hzb : (paE old == 0) = false := beq_eq_false_iff_ne.2 hz
    have HB : Hid (∀ o, Below w.heap.size w (w1.alloc o)) := fun o => hb.alloc hb.size o
    clear hz HPo hb HQ
    go_wp2_with fail
    go_ret
    rw [HE.out]
    exact opE_same H.out (HB.out _) _
  · have HZo := Lib.hid hz
    have HQ1 : Hid (renameK T old s = if paE s ≠ 0 then (T, paE s) else rnR1 T old s (findK T (spL old) (spD old) (wrAny T))) := HQ.out.trans (if_neg (fun q => q hz))
    have HPl := Lib.hid (plO_of hn h0 hnc hs)
    have HNe : Hid (spL old ≠ []) := fun q => by rw [q] at hn; simp at hn; omega
    obtain ⟨w2, hw2⟩ : ∃ w2, w1.alloc (.cells #[.slice (some ⟨b, o, none⟩) n c0, .bool (spD old), .string (paN old)] PLT) = w2 := ⟨_, rfl⟩
    have hb2 : Below w1.heap.size w1 w2 := by rw [← hw2]; exact sup_pct w1 _
    have HX2 : Hid (Blo w2 w1.heap.size PLT #[.slice (some ⟨b, o, none⟩) n c0, .bool (spD old), .string (paN old)]) := by rw [← hw2]; exact blo_laid w1 _ _
    have HB2 := Lib.hid (hb.trans (hb2.mono hb.size))
    have HP2 := Lib.hid (HPl.out.later hb2)
    have HG1 : Hid (w.heap.size ≤ w1.heap.size) := hb.size
    clear hz HPo hb HQ hn h0 hnc hs hb2 HPl
    go_wp2_with fail
    refine (HPs.out w2).mono ?_
    rintro e w3 (⟨hz, rfl, hb3⟩ | ⟨hz, b2, o2, n2, c2, rfl, hn, h0, hnc, hs, hb3⟩)
    · have HE : Hid (renameK T old s = (T, paE s)) := HQ1.out.trans (if_pos hz)
      have hzb : (paE s == 0) = false := beq_eq_false_iff_ne.2 hz
      have HB : Hid (∀ o, Below w.heap.size w (w3.alloc o)) := fun o => (HB2.out.trans (hb3.mono HB2.out.size)).alloc (Nat.le_trans HB2.out.size hb3.size) o
      clear hz hb3 HQ1 hw2
      go_wp2_with fail
      go_ret
      rw [HE.out]
      exact opE_same H.out (HB.out _) _
    · have HZs := Lib.hid hz
      have HQ2 : Hid (renameK T old s = rnR1 T old s (findK T (spL old) (spD old) (wrAny T))) := HQ1.out.trans (if_neg (fun q => q hz))
      have HPl := Lib.hid (plO_of hn h0 hnc hs)
      obtain ⟨w4, hw4⟩ : ∃ w4, w3.alloc (.cells #[.slice (some ⟨b2, o2, none⟩) n2 c2, .bool (spD s), .string (paN s)] PLT) = w4 := ⟨_, rfl⟩
      have hb4 : Below w3.heap.size w3 w4 := by rw [← hw4]; exact sup_pct w3 _
      have HY4 : Hid (Blo w4 w3.heap.size PLT #[.slice (some ⟨b2, o2, none⟩) n2 c2, .bool (spD s), .string (paN s)]) := by rw [← hw4]; exact blo_laid w3 _ _
      have hb24 : Below w2.heap.size w2 w4 := hb3.trans (hb4.mono hb3.size)
      have HX4 := Lib.hid (HX2.out.later hb24)
      have HB4 := Lib.hid (HB2.out.trans (hb24.mono HB2.out.size))
      have HR4 := Lib.hid (HPl.out.later hb4)
      have HP4 := Lib.hid (HP2.out.later hb24)
      have HG3 : Hid (w.heap.size ≤ w3.heap.size) := Nat.le_trans HB2.out.size hb3.size
      have f0 : w4.cell? ⟨w1.heap.size, 0, none⟩ = some (.slice (some ⟨b, o, none⟩) n c0) := HX4.out.cell 0
      have f1 : w4.cell? ⟨w1.heap.size, 1, none⟩ = some (.bool (spD old)) := HX4.out.cell 1
      have HFi := Lib.hid (find_any (dir := spD old) (c := c0) (H.out.later HB4.out) (wr := wrAny T) (fun W i hW hi => any_any hW hi) HP4.out.len HP4.out.n9 HP4.out.strs HP4.out.keys)
      have HOk : Hid (∀ ro, findK T (spL old) (spD old) (wrAny T) = (ro, 0) → ∃ c, ro = some c ∧ T.live c ∧ wrAny T c = 0) := fun ro q => findK_ok H.out.wf q
      clear hz hb3 HQ1 hn h0 hnc hs hb4 hb24 HPl HX2 HB2 HP2
      obtain ⟨R, hR⟩ : ∃ R, findK T (spL old) (spD old) (wrAny T) = R := ⟨_, rfl⟩
      have HFk := Lib.hid hR
      rw [hR] at HFi HOk HQ2
      obtain ⟨ro, rz⟩ := R
      clear hR
      by_cases hz : rz = 0
      · subst hz
        obtain ⟨c, rfl, hlc, -⟩ := HOk.out ro rfl
        have HLc := Lib.hid hlc
        have HQ3 : Hid (renameK T old s = rnR2 T old s c (aboveK T (spL s))) := HQ2.out
        have HFi : Hid (Calls Try.prog 40 #[.pointer (some ⟨p.bt, 0, none⟩), .agg #[.slice (some ⟨b, o, none⟩) n c0, .bool (spD old)], .func (.func 35) #[] #[]] w4 fun e w' => e = .returned (.tuple #[.pointer (some ⟨p.B c, 0, none⟩), .int .i64 0]) ∧ Below w4.heap.size w4 w') := HFi.out
        clear HOk hlc HQ2
        go_wp2_with fail
        refine HFi.out.mono ?_
        rintro e w5 ⟨rfl, hb5⟩
        have HB5 := Lib.hid (HB4.out.trans (hb5.mono HB4.out.size))
        have HX5 := Lib.hid (HX4.out.later hb5)
        have HY5 := Lib.hid (HY4.out.later hb5)
        have HP5 := Lib.hid (HP4.out.later hb5)
        have HR5 := Lib.hid (HR4.out.later hb5)
        have t0 : w5.cell? ⟨w3.heap.size, 0, none⟩ = some (.slice (some ⟨b2, o2, none⟩) n2 c2) := HY5.out.cell 0
        have t1 : w5.cell? ⟨w3.heap.size, 1, none⟩ = some (.bool (spD s)) := HY5.out.cell 1
        have t2 : w5.cell? ⟨w3.heap.size, 2, none⟩ = some (.string (paN s)) := HY5.out.cell 2
        have HAb := Lib.hid (above_any (d := spD s) (last := paN s) (H.out.later HB5.out) HR5.out.len HR5.out.pos HR5.out.le HR5.out.n9 HR5.out.strs HR5.out.keys)
        clear hb5 HFi f0 f1 HX4 HY4 HP4 HR4 HB4 hw2 hw4
        obtain ⟨R, hR⟩ : ∃ R, aboveK T (spL s) = R := ⟨_, rfl⟩
        have HAk := Lib.hid hR
        have HCs := Lib.hid (aboveK_cases H.out.wf H.out.root (spL s))
        rw [hR] at HAb HQ3 HCs
        obtain ⟨ro, rz⟩ := R
        clear hR
        by_cases hz : rz = 0
        · subst hz
          obtain ⟨d, rfl, hkd⟩ : ∃ d, ro = some d ∧ T.K d = 2 := by
            rcases HCs.out with ⟨z, q, q0⟩ | ⟨i, q⟩ | ⟨i, -, hk, q⟩
            · exact absurd (congrArg Prod.snd q).symm q0
            · exact absurd (show (0 : Int) = 20 from congrArg Prod.snd q) (by decide)
            · exact ⟨i, congrArg Prod.fst q, hk⟩
          have HKd := Lib.hid hkd
          have HQ4 : Hid (renameK T old s = rnR3 T old s c d) := HQ3.out
          have HAb : Hid (Calls Try.prog 41 #[.pointer (some ⟨p.bt, 0, none⟩), .agg #[.slice (some ⟨b2, o2, none⟩) n2 c2, .bool (spD s), .string (paN s)]] w5 fun e w' => e = .returned (.tuple #[.pointer (some ⟨p.B d, 0, none⟩), .int .i64 0]) ∧ Below w5.heap.size w5 w') := HAb.out
          clear HCs hkd HQ3
          go_wp2_with fail
          refine HAb.out.mono ?_
          rintro e w6 ⟨rfl, hb6⟩
          have HB6 := Lib.hid (HB5.out.trans (hb6.mono HB5.out.size))
          have HX6 := Lib.hid (HX5.out.later hb6)
          have HY6 := Lib.hid (HY5.out.later hb6)
          have HP6 := Lib.hid (HP5.out.later hb6)
          have HR6 := Lib.hid (HR5.out.later hb6)
          have hld : T.live d := by unfold Tr.live; rw [HKd.out]; decide
          obtain ⟨-, -, -, g3, -⟩ := (H.out.later HB6.out).cells hld
          rw [if_pos HKd.out] at g3
          have u2 : w6.cell? ⟨w3.heap.size, 2, none⟩ = some (.string (paN s)) := HY6.out.cell 2
          have hlk := ((H.out.later HB6.out).later ((Below.refl _ _).drew)).look1 HKd.out HR6.out.wl
          obtain ⟨th, hth⟩ : ∃ th, T.E d (paN s) = th := ⟨_, rfl⟩
          have HTh := Lib.hid hth
          rw [hth] at hlk
          obtain ⟨tv, htv⟩ : ∃ tv, ptrV (th.map p.B) = tv := ⟨_, rfl⟩
          have HTv := Lib.hid htv
          rw [htv] at hlk
          clear hb6 HAb t0 t1 t2 HX5 HY5 HP5 HR5 HB5 hld hth htv
          go_upto_region 13 with (fail)
          go_region
          obtain ⟨w7, hw7⟩ : ∃ w7, w6.drew = w7 := ⟨_, rfl⟩
          have hb7 : Below w6.heap.size w6 w7 := by rw [← hw7]; exact (Below.refl _ _).drew
          rw [hw7]
          have HB7 := Lib.hid (HB6.out.trans (hb7.mono HB6.out.size))
          have HX7 := Lib.hid (HX6.out.later hb7)
          have HY7 := Lib.hid (HY6.out.later hb7)
          have HP7 := Lib.hid (HP6.out.later hb7)
          have HR7 := Lib.hid (HR6.out.later hb7)
          clear hb7 hw7 g3 u2 hlk HX6 HY6 HP6 HR6 HB6
          have f0 : w7.cell? ⟨w1.heap.size, 0, none⟩ = some (.slice (some ⟨b, o, none⟩) n c0) := HX7.out.cell 0
          have f1 : w7.cell? ⟨w1.heap.size, 1, none⟩ = some (.bool (spD old)) := HX7.out.cell 1
          have f2 : w7.cell? ⟨w1.heap.size, 2, none⟩ = some (.string (paN old)) := HX7.out.cell 2
          have t0 : w7.cell? ⟨w3.heap.size, 0, none⟩ = some (.slice (some ⟨b2, o2, none⟩) n2 c2) := HY7.out.cell 0
          have t1 : w7.cell? ⟨w3.heap.size, 1, none⟩ = some (.bool (spD s)) := HY7.out.cell 1
          have t2 : w7.cell? ⟨w3.heap.size, 2, none⟩ = some (.string (paN s)) := HY7.out.cell 2
          have HRb0 := renameable_any (H.out.later HB7.out) HLc.out (th := th) (fun x hx => (H.out.wf.ent d (paN s) x (by rw [HTh.out]; exact hx)).2.1) HP7.out HR7.out (df := spD old) (td := spD s)
          rw [HTv.out] at HRb0
          unfold plV at HRb0
          have HRb := Lib.hid HRb0
          clear HRb0
          go_wp2_with fail
          refine HRb.out.mono ?_
          rintro e w8 ⟨rfl, hb8⟩
          have HB8 := Lib.hid (HB7.out.trans (hb8.mono HB7.out.size))
          have HX8 := Lib.hid (HX7.out.later hb8)
          have HY8 := Lib.hid (HY7.out.later hb8)
          have HP8 := Lib.hid (HP7.out.later hb8)
          have HR8 := Lib.hid (HR7.out.later hb8)
          clear hb8 HRb f0 f1 f2 t0 t1 t2 HX7 HY7 HP7 HR7 HB7
          have HE0 : Hid (renameK T old s = rnR3 T old s c d) := HQ4.out
          unfold rnR3 at HE0
          rw [HTh.out] at HE0
          obtain ⟨z, hzd⟩ : ∃ z, rnE T c th (spL old) (spL s) (spD s) = z := ⟨_, rfl⟩
          have HZd := Lib.hid hzd
          rw [hzd] at HE0
          rw [hzd]
          clear hzd
          by_cases hz : z = 0
          · subst hz
            have HE1 := Lib.hid (HE0.out.trans (if_neg (fun q => q rfl)))
            clear HE0
            cases th with
            | none =>
              obtain rfl : tv = .pointer none := HTv.out.symm
              have hbe := fun W => eq_noneN W ⟨p.B c, 0, none⟩
              have HE2 := Lib.hid (HE1.out.trans (if_neg (fun q => by cases q)))
              have HNe2 : Hid ((none : Option Nat) ≠ some c) := fun q => by cases q
              clear HE1
              by_cases hk : T.K c = 2
              · have HK := Lib.hid hk
                have HDi := Lib.hid (isDir_any (H.out.later HB8.out) HLc.out)
                rw [decide_eq_true hk] at HDi
                have t0 : w8.cell? ⟨w3.heap.size, 0, none⟩ = some (.slice (some ⟨b2, o2, none⟩) n2 c2) := HY8.out.cell 0
                have t1 : w8.cell? ⟨w3.heap.size, 1, none⟩ = some (.bool (spD s)) := HY8.out.cell 1
                have HSz := Lib.hid (tsize_any (d := spD s) (c := c2) w8 HR8.out.len HR8.out.n9 HR8.out.strs (spL_14 s))
                have HSl : Hid (szN (spL s) ≤ 4000) := by
                  have h1 := szN_le (spL_14 s)
                  have h2 := spL_lenT s
                  show _ ≤ _
                  omega
                have HLg := Lib.hid (fun W (hW : Below w.heap.size w W) => long_any HT.out (H.out.later hW) HLc.out HSl.out)
                clear hk
                obtain ⟨sz, hsz⟩ : ∃ sz, szN (spL s) = sz := ⟨_, rfl⟩
                rw [hsz] at HSz HLg HE2
                clear hsz HSl
                go_wp2_with fail
                refine HDi.out.mono ?_
                rintro e w9 ⟨rfl, rfl⟩
                go_wp2_with fail
                refine HSz.out.mono ?_
                rintro e w10 ⟨rfl, hb10⟩
                have HB10 := Lib.hid (HB8.out.trans (hb10.mono HB8.out.size))
                have HX10 := Lib.hid (HX8.out.later hb10)
                have HY10 := Lib.hid (HY8.out.later hb10)
                have HP10 := Lib.hid (HP8.out.later hb10)
                have HR10 := Lib.hid (HR8.out.later hb10)
                clear hb10 HSz t0 t1 hbe
                go_wp2_with fail
                refine (HLg.out _ HB10.out).mono ?_
                rintro e w11 ⟨⟨M, rfl, hM⟩, hb11⟩
                have HB11 := Lib.hid (HB10.out.trans (hb11.mono HB10.out.size))
                have HX11 := Lib.hid (HX10.out.later hb11)
                have HY11 := Lib.hid (HY10.out.later hb11)
                have HP11 := Lib.hid (HP10.out.later hb11)
                have HR11 := Lib.hid (HR10.out.later hb11)
                clear hb11 HLg HX10 HY10 HP10 HR10 HB10
                by_cases hMl : 255 < M
                · have HE : Hid (renameK T old s = (T, 36)) := HE2.out.trans (if_pos ⟨HK.out, hM.1 hMl⟩)
                  clear hM HE2
                  go_wp2_with fail
                  go_ret
                  rw [HE.out]
                  exact opE_same H.out HB11.out _
                · have HE : Hid (renameK T old s = (moveK T old s c d, 0)) := HE2.out.trans (if_neg (fun q => hMl (hM.2 q.2)))
                  clear hM HE2
                  obtain ⟨u, hp⟩ := rnP_of HT.out HZo.out HZs.out HFk.out HAk.out (by rw [HTh.out]; exact HZd.out) (by rw [HTh.out]; exact HNe2.out)
                  have hq := hp.less HT.out
                  have hst := hp.stay HT.out
                  have hNx := strs_noXS (H.out.later HB11.out) HP11.out.strs HNe.out
                  obtain ⟨T1, hT1⟩ : ∃ T1, lessK T d (paN s) = T1 := ⟨_, rfl⟩
                  rw [hT1] at hq hst
                  have hMk : moveK T old s c d = (T1.ent d (paN s) (some c)).ent u (paN old) none := by
                    unfold moveK
                    rw [hp.hu, hT1]
                    rfl
                  have hT2 : T = T1 := by
                    rw [← hT1]
                    unfold lessK
                    rw [HTh.out]
                  have hgD : TrG w11 T p w11 cnt T1 p := by
                    rw [← hT2]
                    exact TrG.refl (H.out.later HB11.out) (Below.refl _ _) (Nat.le_refl _)
                  have hoD : Out (XS T p) w11 w11 := Out.refl _ _
                  have HMk := Lib.hid (And.intro hp (And.intro hq (And.intro hst (And.intro hNx hMk))))
                  clear hp hq hst hNx hMk hT1 hT2
                  have hdX : ∀ g, w.heap.size ≤ g → ¬ XT T p g := fun g hg hx => by have := H.out.lt hx; omega
                  have hYD := hgD.out.blo HY11.out (hdX _ HG3.out)
                  have hXD := hgD.out.blo HX11.out (hdX _ HG1.out)
                  have hPD := PlO.out HP11.out hoD HMk.out.2.2.2.1
                  have hrD : Below w11.heap.size w11 w11.drew := (Below.refl _ _).drew
                  have hlc1 : T1.live c := by
                    unfold Tr.live
                    rw [HMk.out.2.1.kc]
                    exact HLc.out
                  have hc2 : c ≠ 2 := (H.out.wf.ent u (paN old) c HMk.out.1.eu).2.2
                  obtain ⟨wE, hrunE, hgE⟩ := (hgD.m.later hrD).ent HMk.out.2.1.kd hlc1 hc2 HR11.out.wl HC.out
                  have hoE := (hgD.m.later hrD).ent_out HMk.out.2.1.kd HR11.out.wl HC.out hrunE
                  have hdD : T1.live d := by unfold Tr.live; rw [HMk.out.2.1.kd]; decide
                  obtain ⟨-, -, -, g3, -⟩ := hgD.m.cells hdD
                  rw [if_pos HMk.out.2.1.kd] at g3
                  have t2 : w11.cell? ⟨w3.heap.size, 2, none⟩ = some (.string (paN s)) := hYD.cell 2
                  have hld : T.live d := by unfold Tr.live; rw [HKd.out]; decide
                  have hMdX : XS T p (p.MB d) := .inr ⟨d, hld, .inr ⟨HKd.out, rfl⟩⟩
                  have hXM : w1.heap.size ≠ p.MB d := fun e => hdX w1.heap.size HG1.out (.inr (.inr ⟨d, hld, .inr (.inl ⟨HKd.out, e⟩)⟩))
                  have HPE := Lib.hid ((PlO.later hPD hrD).out hoE (fun e => HMk.out.2.2.2.1 (e ▸ hMdX)))
                  have HXE := Lib.hid (hoE.blo (hXD.later hrD) hXM)
                  have HGE := Lib.hid ((hgD.before HB11.out).trans (hgE.before hrD))
                  have HME := Lib.hid hgE.m
                  clear hdX hYD hXD hPD hrD hlc1 hc2 hgD hoD hgE hoE hdD hld hMdX hXM
                  generalize p.MB d = md at *
                  go_upto_region 23 with (fail)
                  go_region
                  clear hrunE g3 t2
                  have f0 : wE.cell? ⟨w1.heap.size, 0, none⟩ = some (.slice (some ⟨b, o, none⟩) n c0) := HXE.out.cell 0
                  have f1 : wE.cell? ⟨w1.heap.size, 1, none⟩ = some (.bool (spD old)) := HXE.out.cell 1
                  have f2 : wE.cell? ⟨w1.heap.size, 2, none⟩ = some (.string (paN old)) := HXE.out.cell 2
                  have hAu := above_any (d := spD old) (last := paN old) HME.out HPE.out.len HPE.out.pos HPE.out.le HPE.out.n9 HPE.out.strs HPE.out.keys
                  rw [HMk.out.2.2.1] at hAu
                  have HAu : Hid (Calls Try.prog 41 #[.pointer (some ⟨p.bt, 0, none⟩), .agg #[.slice (some ⟨b, o, none⟩) n c0, .bool (spD old), .string (paN old)]] wE fun e w' => e = .returned (.tuple #[.pointer (some ⟨p.B u, 0, none⟩), .int .i64 0]) ∧ Below wE.heap.size wE w') := hAu
                  clear hAu
                  go_wp2_with fail
                  refine HAu.out.mono ?_
                  rintro e wF ⟨rfl, hbF⟩
                  have hrF : Below wF.heap.size wF wF.drew := (Below.refl _ _).drew
                  have hmF := HME.out.later hbF
                  have hku : (T1.ent d (paN s) (some c)).K u = 2 := HMk.out.2.1.ku
                  have heu : (T1.ent d (paN s) (some c)).E u (paN old) = some c := by
                    rw [Tr.ent_ne _ (fun e => HMk.out.1.ne (by
                      have := HMk.out.1.eu
                      rw [e.1, e.2] at this
                      exact this))]
                    exact HMk.out.2.1.eu
                  obtain ⟨wG, hrunG, hgG⟩ := (hmF.later hrF).entNone hku HPE.out.wl (by rw [heu]; rfl) 0
                  have hul : (T1.ent d (paN s) (some c)).live u := by unfold Tr.live; rw [hku]; decide
                  obtain ⟨-, -, -, g3, -⟩ := hmF.cells hul
                  rw [if_pos hku] at g3
                  have f2 : wF.cell? ⟨w1.heap.size, 2, none⟩ = some (.string (paN old)) := (HXE.out.later hbF).cell 2
                  have HGG := Lib.hid ((HGE.out.after hbF).trans (hgG.before hrF))
                  clear HAu f0 f1 hbF hrF hmF hku heu hgG hul
                  generalize p.MB u = mu at *
                  go_upto_region 25 with (fail)
                  go_region
                  go_wp2_with fail
                  go_ret
                  rw [HE.out, HMk.out.2.2.2.2]
                  exact ⟨rfl, p, HGG.out⟩
              · have HDi := Lib.hid (isDir_any (H.out.later HB8.out) HLc.out)
                rw [decide_eq_false hk] at HDi
                have HE : Hid (renameK T old s = (moveK T old s c d, 0)) := HE2.out.trans (if_neg (fun q => hk q.1))
                clear hk HE2
                go_wp2_with fail
                refine HDi.out.mono ?_
                rintro e w9 ⟨rfl, rfl⟩
                clear hbe
                obtain ⟨u, hp⟩ := rnP_of HT.out HZo.out HZs.out HFk.out HAk.out (by rw [HTh.out]; exact HZd.out) (by rw [HTh.out]; exact HNe2.out)
                have hq := hp.less HT.out
                have hst := hp.stay HT.out
                have hNx := strs_noXS (H.out.later HB8.out) HP8.out.strs HNe.out
                obtain ⟨T1, hT1⟩ : ∃ T1, lessK T d (paN s) = T1 := ⟨_, rfl⟩
                rw [hT1] at hq hst
                have hMk : moveK T old s c d = (T1.ent d (paN s) (some c)).ent u (paN old) none := by
                  unfold moveK
                  rw [hp.hu, hT1]
                  rfl
                have hT2 : T = T1 := by
                  rw [← hT1]
                  unfold lessK
                  rw [HTh.out]
                have hgD : TrG w9 T p w9 cnt T1 p := by
                  rw [← hT2]
                  exact TrG.refl (H.out.later HB8.out) (Below.refl _ _) (Nat.le_refl _)
                have hoD : Out (XS T p) w9 w9 := Out.refl _ _
                have HMk := Lib.hid (And.intro hp (And.intro hq (And.intro hst (And.intro hNx hMk))))
                clear hp hq hst hNx hMk hT1 hT2
                have hdX : ∀ g, w.heap.size ≤ g → ¬ XT T p g := fun g hg hx => by have := H.out.lt hx; omega
                have hYD := hgD.out.blo HY8.out (hdX _ HG3.out)
                have hXD := hgD.out.blo HX8.out (hdX _ HG1.out)
                have hPD := PlO.out HP8.out hoD HMk.out.2.2.2.1
                have hrD : Below w9.heap.size w9 w9.drew := (Below.refl _ _).drew
                have hlc1 : T1.live c := by
                  unfold Tr.live
                  rw [HMk.out.2.1.kc]
                  exact HLc.out
                have hc2 : c ≠ 2 := (H.out.wf.ent u (paN old) c HMk.out.1.eu).2.2
                obtain ⟨wE, hrunE, hgE⟩ := (hgD.m.later hrD).ent HMk.out.2.1.kd hlc1 hc2 HR8.out.wl HC.out
                have hoE := (hgD.m.later hrD).ent_out HMk.out.2.1.kd HR8.out.wl HC.out hrunE
                have hdD : T1.live d := by unfold Tr.live; rw [HMk.out.2.1.kd]; decide
                obtain ⟨-, -, -, g3, -⟩ := hgD.m.cells hdD
                rw [if_pos HMk.out.2.1.kd] at g3
                have t2 : w9.cell? ⟨w3.heap.size, 2, none⟩ = some (.string (paN s)) := hYD.cell 2
                have hld : T.live d := by unfold Tr.live; rw [HKd.out]; decide
                have hMdX : XS T p (p.MB d) := .inr ⟨d, hld, .inr ⟨HKd.out, rfl⟩⟩
                have hXM : w1.heap.size ≠ p.MB d := fun e => hdX w1.heap.size HG1.out (.inr (.inr ⟨d, hld, .inr (.inl ⟨HKd.out, e⟩)⟩))
                have HPE := Lib.hid ((PlO.later hPD hrD).out hoE (fun e => HMk.out.2.2.2.1 (e ▸ hMdX)))
                have HXE := Lib.hid (hoE.blo (hXD.later hrD) hXM)
                have HGE := Lib.hid ((hgD.before HB8.out).trans (hgE.before hrD))
                have HME := Lib.hid hgE.m
                clear hdX hYD hXD hPD hrD hlc1 hc2 hgD hoD hgE hoE hdD hld hMdX hXM
                generalize p.MB d = md at *
                go_upto_region 23 with (fail)
                go_region
                clear hrunE g3 t2
                have f0 : wE.cell? ⟨w1.heap.size, 0, none⟩ = some (.slice (some ⟨b, o, none⟩) n c0) := HXE.out.cell 0
                have f1 : wE.cell? ⟨w1.heap.size, 1, none⟩ = some (.bool (spD old)) := HXE.out.cell 1
                have f2 : wE.cell? ⟨w1.heap.size, 2, none⟩ = some (.string (paN old)) := HXE.out.cell 2
                have hAu := above_any (d := spD old) (last := paN old) HME.out HPE.out.len HPE.out.pos HPE.out.le HPE.out.n9 HPE.out.strs HPE.out.keys
                rw [HMk.out.2.2.1] at hAu
                have HAu : Hid (Calls Try.prog 41 #[.pointer (some ⟨p.bt, 0, none⟩), .agg #[.slice (some ⟨b, o, none⟩) n c0, .bool (spD old), .string (paN old)]] wE fun e w' => e = .returned (.tuple #[.pointer (some ⟨p.B u, 0, none⟩), .int .i64 0]) ∧ Below wE.heap.size wE w') := hAu
                clear hAu
                go_wp2_with fail
                refine HAu.out.mono ?_
                rintro e wF ⟨rfl, hbF⟩
                have hrF : Below wF.heap.size wF wF.drew := (Below.refl _ _).drew
                have hmF := HME.out.later hbF
                have hku : (T1.ent d (paN s) (some c)).K u = 2 := HMk.out.2.1.ku
                have heu : (T1.ent d (paN s) (some c)).E u (paN old) = some c := by
                  rw [Tr.ent_ne _ (fun e => HMk.out.1.ne (by
                    have := HMk.out.1.eu
                    rw [e.1, e.2] at this
                    exact this))]
                  exact HMk.out.2.1.eu
                obtain ⟨wG, hrunG, hgG⟩ := (hmF.later hrF).entNone hku HPE.out.wl (by rw [heu]; rfl) 0
                have hul : (T1.ent d (paN s) (some c)).live u := by unfold Tr.live; rw [hku]; decide
                obtain ⟨-, -, -, g3, -⟩ := hmF.cells hul
                rw [if_pos hku] at g3
                have f2 : wF.cell? ⟨w1.heap.size, 2, none⟩ = some (.string (paN old)) := (HXE.out.later hbF).cell 2
                have HGG := Lib.hid ((HGE.out.after hbF).trans (hgG.before hrF))
                clear HAu f0 f1 hbF hrF hmF hku heu hgG hul
                generalize p.MB u = mu at *
                go_upto_region 25 with (fail)
                go_region
                go_wp2_with fail
                go_ret
                rw [HE.out, HMk.out.2.2.2.2]
                exact ⟨rfl, p, HGG.out⟩
            | some x =>
              obtain rfl : tv = .pointer (some ⟨p.B x, 0, none⟩) := HTv.out.symm
              have hlx : T.live x := (H.out.wf.ent d (paN s) x HTh.out).2.1
              by_cases hxc : x = c
              · subst hxc
                have hbe := fun W => eq_sameN W ⟨p.B x, 0, none⟩
                have HE : Hid (renameK T old s = (T, 0)) := HE1.out.trans (if_pos rfl)
                clear HE1
                go_wp2_with fail
                go_ret
                rw [HE.out]
                exact opE_same H.out HB8.out _
              · have h8 := H.out.later HB8.out
                have hbe := eq_otherN (fun e => hxc (H.out.injB x c hlx HLc.out e)) (h8.node x hlx) (h8.node c HLc.out)
                have HE2 := Lib.hid (HE1.out.trans (if_neg (fun q => hxc (Option.some.inj q))))
                have HNe2 : Hid ((some x : Option Nat) ≠ some c) := fun q => hxc (Option.some.inj q)
                clear HE1 h8 hlx hxc
                by_cases hk : T.K c = 2
                · have HK := Lib.hid hk
                  have HDi := Lib.hid (isDir_any (H.out.later HB8.out) HLc.out)
                  rw [decide_eq_true hk] at HDi
                  have t0 : w8.cell? ⟨w3.heap.size, 0, none⟩ = some (.slice (some ⟨b2, o2, none⟩) n2 c2) := HY8.out.cell 0
                  have t1 : w8.cell? ⟨w3.heap.size, 1, none⟩ = some (.bool (spD s)) := HY8.out.cell 1
                  have HSz := Lib.hid (tsize_any (d := spD s) (c := c2) w8 HR8.out.len HR8.out.n9 HR8.out.strs (spL_14 s))
                  have HSl : Hid (szN (spL s) ≤ 4000) := by
                    have h1 := szN_le (spL_14 s)
                    have h2 := spL_lenT s
                    show _ ≤ _
                    omega
                  have HLg := Lib.hid (fun W (hW : Below w.heap.size w W) => long_any HT.out (H.out.later hW) HLc.out HSl.out)
                  clear hk
                  obtain ⟨sz, hsz⟩ : ∃ sz, szN (spL s) = sz := ⟨_, rfl⟩
                  rw [hsz] at HSz HLg HE2
                  clear hsz HSl
                  go_wp2_with fail
                  refine HDi.out.mono ?_
                  rintro e w9 ⟨rfl, rfl⟩
                  go_wp2_with fail
                  refine HSz.out.mono ?_
                  rintro e w10 ⟨rfl, hb10⟩
                  have HB10 := Lib.hid (HB8.out.trans (hb10.mono HB8.out.size))
                  have HX10 := Lib.hid (HX8.out.later hb10)
                  have HY10 := Lib.hid (HY8.out.later hb10)
                  have HP10 := Lib.hid (HP8.out.later hb10)
                  have HR10 := Lib.hid (HR8.out.later hb10)
                  clear hb10 HSz t0 t1 hbe
                  go_wp2_with fail
                  refine (HLg.out _ HB10.out).mono ?_
                  rintro e w11 ⟨⟨M, rfl, hM⟩, hb11⟩
                  have HB11 := Lib.hid (HB10.out.trans (hb11.mono HB10.out.size))
                  have HX11 := Lib.hid (HX10.out.later hb11)
                  have HY11 := Lib.hid (HY10.out.later hb11)
                  have HP11 := Lib.hid (HP10.out.later hb11)
                  have HR11 := Lib.hid (HR10.out.later hb11)
                  clear hb11 HLg HX10 HY10 HP10 HR10 HB10
                  by_cases hMl : 255 < M
                  · have HE : Hid (renameK T old s = (T, 36)) := HE2.out.trans (if_pos ⟨HK.out, hM.1 hMl⟩)
                    clear hM HE2
                    go_wp2_with fail
                    go_ret
                    rw [HE.out]
                    exact opE_same H.out HB11.out _
                  · have HE : Hid (renameK T old s = (moveK T old s c d, 0)) := HE2.out.trans (if_neg (fun q => hMl (hM.2 q.2)))
                    clear hM HE2
                    obtain ⟨u, hp⟩ := rnP_of HT.out HZo.out HZs.out HFk.out HAk.out (by rw [HTh.out]; exact HZd.out) (by rw [HTh.out]; exact HNe2.out)
                    have hq := hp.less HT.out
                    have hst := hp.stay HT.out
                    have hNx := strs_noXS (H.out.later HB11.out) HP11.out.strs HNe.out
                    obtain ⟨T1, hT1⟩ : ∃ T1, lessK T d (paN s) = T1 := ⟨_, rfl⟩
                    rw [hT1] at hq hst
                    have hMk : moveK T old s c d = (T1.ent d (paN s) (some c)).ent u (paN old) none := by
                      unfold moveK
                      rw [hp.hu, hT1]
                      rfl
                    have hT2 : dropK T d (paN s) x = T1 := by
                      rw [← hT1]
                      unfold lessK
                      rw [HTh.out]
                    have HDr := Lib.hid (drop_any2 (H.out.later HB11.out) HKd.out HR11.out.wl HTh.out (fun q j t hj => HT.out.cnt.unq HT.out.wf x q d (paN s) HTh.out j t hj))
                    rw [hT2] at HDr
                    have HMk := Lib.hid (And.intro hp (And.intro hq (And.intro hst (And.intro hNx hMk))))
                    have t2 : w11.cell? ⟨w3.heap.size, 2, none⟩ = some (.string (paN s)) := HY11.out.cell 2
                    clear hp hq hst hNx hMk hT1 hT2
                    go_wp2_with fail
                    refine HDr.out.mono ?_
                    rintro e wD ⟨rfl, hgD, hoD⟩
                    clear t2 HDr
                    have hdX : ∀ g, w.heap.size ≤ g → ¬ XT T p g := fun g hg hx => by have := H.out.lt hx; omega
                    have hYD := hgD.out.blo HY11.out (hdX _ HG3.out)
                    have hXD := hgD.out.blo HX11.out (hdX _ HG1.out)
                    have hPD := PlO.out HP11.out hoD HMk.out.2.2.2.1
                    have hrD : Below wD.heap.size wD wD.drew := (Below.refl _ _).drew
                    have hlc1 : T1.live c := by
                      unfold Tr.live
                      rw [HMk.out.2.1.kc]
                      exact HLc.out
                    have hc2 : c ≠ 2 := (H.out.wf.ent u (paN old) c HMk.out.1.eu).2.2
                    obtain ⟨wE, hrunE, hgE⟩ := (hgD.m.later hrD).ent HMk.out.2.1.kd hlc1 hc2 HR11.out.wl HC.out
                    have hoE := (hgD.m.later hrD).ent_out HMk.out.2.1.kd HR11.out.wl HC.out hrunE
                    have hdD : T1.live d := by unfold Tr.live; rw [HMk.out.2.1.kd]; decide
                    obtain ⟨-, -, -, g3, -⟩ := hgD.m.cells hdD
                    rw [if_pos HMk.out.2.1.kd] at g3
                    have t2 : wD.cell? ⟨w3.heap.size, 2, none⟩ = some (.string (paN s)) := hYD.cell 2
                    have hld : T.live d := by unfold Tr.live; rw [HKd.out]; decide
                    have hMdX : XS T p (p.MB d) := .inr ⟨d, hld, .inr ⟨HKd.out, rfl⟩⟩
                    have hXM : w1.heap.size ≠ p.MB d := fun e => hdX w1.heap.size HG1.out (.inr (.inr ⟨d, hld, .inr (.inl ⟨HKd.out, e⟩)⟩))
                    have HPE := Lib.hid ((PlO.later hPD hrD).out hoE (fun e => HMk.out.2.2.2.1 (e ▸ hMdX)))
                    have HXE := Lib.hid (hoE.blo (hXD.later hrD) hXM)
                    have HGE := Lib.hid ((hgD.before HB11.out).trans (hgE.before hrD))
                    have HME := Lib.hid hgE.m
                    clear hdX hYD hXD hPD hrD hlc1 hc2 hgD hoD hgE hoE hdD hld hMdX hXM
                    generalize p.MB d = md at *
                    go_upto_region 23 with (fail)
                    go_region
                    clear hrunE g3 t2
                    have f0 : wE.cell? ⟨w1.heap.size, 0, none⟩ = some (.slice (some ⟨b, o, none⟩) n c0) := HXE.out.cell 0
                    have f1 : wE.cell? ⟨w1.heap.size, 1, none⟩ = some (.bool (spD old)) := HXE.out.cell 1
                    have f2 : wE.cell? ⟨w1.heap.size, 2, none⟩ = some (.string (paN old)) := HXE.out.cell 2
                    have hAu := above_any (d := spD old) (last := paN old) HME.out HPE.out.len HPE.out.pos HPE.out.le HPE.out.n9 HPE.out.strs HPE.out.keys
                    rw [HMk.out.2.2.1] at hAu
                    have HAu : Hid (Calls Try.prog 41 #[.pointer (some ⟨p.bt, 0, none⟩), .agg #[.slice (some ⟨b, o, none⟩) n c0, .bool (spD old), .string (paN old)]] wE fun e w' => e = .returned (.tuple #[.pointer (some ⟨p.B u, 0, none⟩), .int .i64 0]) ∧ Below wE.heap.size wE w') := hAu
                    clear hAu
                    go_wp2_with fail
                    refine HAu.out.mono ?_
                    rintro e wF ⟨rfl, hbF⟩
                    have hrF : Below wF.heap.size wF wF.drew := (Below.refl _ _).drew
                    have hmF := HME.out.later hbF
                    have hku : (T1.ent d (paN s) (some c)).K u = 2 := HMk.out.2.1.ku
                    have heu : (T1.ent d (paN s) (some c)).E u (paN old) = some c := by
                      rw [Tr.ent_ne _ (fun e => HMk.out.1.ne (by
                        have := HMk.out.1.eu
                        rw [e.1, e.2] at this
                        exact this))]
                      exact HMk.out.2.1.eu
                    obtain ⟨wG, hrunG, hgG⟩ := (hmF.later hrF).entNone hku HPE.out.wl (by rw [heu]; rfl) 0
                    have hul : (T1.ent d (paN s) (some c)).live u := by unfold Tr.live; rw [hku]; decide
                    obtain ⟨-, -, -, g3, -⟩ := hmF.cells hul
                    rw [if_pos hku] at g3
                    have f2 : wF.cell? ⟨w1.heap.size, 2, none⟩ = some (.string (paN old)) := (HXE.out.later hbF).cell 2
                    have HGG := Lib.hid ((HGE.out.after hbF).trans (hgG.before hrF))
                    clear HAu f0 f1 hbF hrF hmF hku heu hgG hul
                    generalize p.MB u = mu at *
                    go_upto_region 25 with (fail)
                    go_region
                    go_wp2_with fail
                    go_ret
                    rw [HE.out, HMk.out.2.2.2.2]
                    exact ⟨rfl, p, HGG.out⟩
                · have HDi := Lib.hid (isDir_any (H.out.later HB8.out) HLc.out)
                  rw [decide_eq_false hk] at HDi
                  have HE : Hid (renameK T old s = (moveK T old s c d, 0)) := HE2.out.trans (if_neg (fun q => hk q.1))
                  clear hk HE2
                  go_wp2_with fail
                  refine HDi.out.mono ?_
                  rintro e w9 ⟨rfl, rfl⟩
                  clear hbe
                  obtain ⟨u, hp⟩ := rnP_of HT.out HZo.out HZs.out HFk.out HAk.out (by rw [HTh.out]; exact HZd.out) (by rw [HTh.out]; exact HNe2.out)
                  have hq := hp.less HT.out
                  have hst := hp.stay HT.out
                  have hNx := strs_noXS (H.out.later HB8.out) HP8.out.strs HNe.out
                  obtain ⟨T1, hT1⟩ : ∃ T1, lessK T d (paN s) = T1 := ⟨_, rfl⟩
                  rw [hT1] at hq hst
                  have hMk : moveK T old s c d = (T1.ent d (paN s) (some c)).ent u (paN old) none := by
                    unfold moveK
                    rw [hp.hu, hT1]
                    rfl
                  have hT2 : dropK T d (paN s) x = T1 := by
                    rw [← hT1]
                    unfold lessK
                    rw [HTh.out]
                  have HDr := Lib.hid (drop_any2 (H.out.later HB8.out) HKd.out HR8.out.wl HTh.out (fun q j t hj => HT.out.cnt.unq HT.out.wf x q d (paN s) HTh.out j t hj))
                  rw [hT2] at HDr
                  have HMk := Lib.hid (And.intro hp (And.intro hq (And.intro hst (And.intro hNx hMk))))
                  have t2 : w9.cell? ⟨w3.heap.size, 2, none⟩ = some (.string (paN s)) := HY8.out.cell 2
                  clear hp hq hst hNx hMk hT1 hT2
                  go_wp2_with fail
                  refine HDr.out.mono ?_
                  rintro e wD ⟨rfl, hgD, hoD⟩
                  clear t2 HDr
                  have hdX : ∀ g, w.heap.size ≤ g → ¬ XT T p g := fun g hg hx => by have := H.out.lt hx; omega
                  have hYD := hgD.out.blo HY8.out (hdX _ HG3.out)
                  have hXD := hgD.out.blo HX8.out (hdX _ HG1.out)
                  have hPD := PlO.out HP8.out hoD HMk.out.2.2.2.1
                  have hrD : Below wD.heap.size wD wD.drew := (Below.refl _ _).drew
                  have hlc1 : T1.live c := by
                    unfold Tr.live
                    rw [HMk.out.2.1.kc]
                    exact HLc.out
                  have hc2 : c ≠ 2 := (H.out.wf.ent u (paN old) c HMk.out.1.eu).2.2
                  obtain ⟨wE, hrunE, hgE⟩ := (hgD.m.later hrD).ent HMk.out.2.1.kd hlc1 hc2 HR8.out.wl HC.out
                  have hoE := (hgD.m.later hrD).ent_out HMk.out.2.1.kd HR8.out.wl HC.out hrunE
                  have hdD : T1.live d := by unfold Tr.live; rw [HMk.out.2.1.kd]; decide
                  obtain ⟨-, -, -, g3, -⟩ := hgD.m.cells hdD
                  rw [if_pos HMk.out.2.1.kd] at g3
                  have t2 : wD.cell? ⟨w3.heap.size, 2, none⟩ = some (.string (paN s)) := hYD.cell 2
                  have hld : T.live d := by unfold Tr.live; rw [HKd.out]; decide
                  have hMdX : XS T p (p.MB d) := .inr ⟨d, hld, .inr ⟨HKd.out, rfl⟩⟩
                  have hXM : w1.heap.size ≠ p.MB d := fun e => hdX w1.heap.size HG1.out (.inr (.inr ⟨d, hld, .inr (.inl ⟨HKd.out, e⟩)⟩))
                  have HPE := Lib.hid ((PlO.later hPD hrD).out hoE (fun e => HMk.out.2.2.2.1 (e ▸ hMdX)))
                  have HXE := Lib.hid (hoE.blo (hXD.later hrD) hXM)
                  have HGE := Lib.hid ((hgD.before HB8.out).trans (hgE.before hrD))
                  have HME := Lib.hid hgE.m
                  clear hdX hYD hXD hPD hrD hlc1 hc2 hgD hoD hgE hoE hdD hld hMdX hXM
                  generalize p.MB d = md at *
                  go_upto_region 23 with (fail)
                  go_region
                  clear hrunE g3 t2
                  have f0 : wE.cell? ⟨w1.heap.size, 0, none⟩ = some (.slice (some ⟨b, o, none⟩) n c0) := HXE.out.cell 0
                  have f1 : wE.cell? ⟨w1.heap.size, 1, none⟩ = some (.bool (spD old)) := HXE.out.cell 1
                  have f2 : wE.cell? ⟨w1.heap.size, 2, none⟩ = some (.string (paN old)) := HXE.out.cell 2
                  have hAu := above_any (d := spD old) (last := paN old) HME.out HPE.out.len HPE.out.pos HPE.out.le HPE.out.n9 HPE.out.strs HPE.out.keys
                  rw [HMk.out.2.2.1] at hAu
                  have HAu : Hid (Calls Try.prog 41 #[.pointer (some ⟨p.bt, 0, none⟩), .agg #[.slice (some ⟨b, o, none⟩) n c0, .bool (spD old), .string (paN old)]] wE fun e w' => e = .returned (.tuple #[.pointer (some ⟨p.B u, 0, none⟩), .int .i64 0]) ∧ Below wE.heap.size wE w') := hAu
                  clear hAu
                  go_wp2_with fail
                  refine HAu.out.mono ?_
                  rintro e wF ⟨rfl, hbF⟩
                  have hrF : Below wF.heap.size wF wF.drew := (Below.refl _ _).drew
                  have hmF := HME.out.later hbF
                  have hku : (T1.ent d (paN s) (some c)).K u = 2 := HMk.out.2.1.ku
                  have heu : (T1.ent d (paN s) (some c)).E u (paN old) = some c := by
                    rw [Tr.ent_ne _ (fun e => HMk.out.1.ne (by
                      have := HMk.out.1.eu
                      rw [e.1, e.2] at this
                      exact this))]
                    exact HMk.out.2.1.eu
                  obtain ⟨wG, hrunG, hgG⟩ := (hmF.later hrF).entNone hku HPE.out.wl (by rw [heu]; rfl) 0
                  have hul : (T1.ent d (paN s) (some c)).live u := by unfold Tr.live; rw [hku]; decide
                  obtain ⟨-, -, -, g3, -⟩ := hmF.cells hul
                  rw [if_pos hku] at g3
                  have f2 : wF.cell? ⟨w1.heap.size, 2, none⟩ = some (.string (paN old)) := (HXE.out.later hbF).cell 2
                  have HGG := Lib.hid ((HGE.out.after hbF).trans (hgG.before hrF))
                  clear HAu f0 f1 hbF hrF hmF hku heu hgG hul
                  generalize p.MB u = mu at *
                  go_upto_region 25 with (fail)
                  go_region
                  go_wp2_with fail
                  go_ret
                  rw [HE.out, HMk.out.2.2.2.2]
                  exact ⟨rfl, p, HGG.out⟩
          · have HE : Hid (renameK T old s = (T, z)) := HE0.out.trans (if_pos hz)
            have hzb : (z == 0) = false := beq_eq_false_iff_ne.2 hz
            clear hz HE0
            go_wp2_with fail
            go_ret
            rw [HE.out]
            exact opE_same H.out HB8.out _
        · have HE : Hid (renameK T old s = (T, rz)) := HQ3.out.trans (if_pos hz)
          have hzb : (rz == 0) = false := beq_eq_false_iff_ne.2 hz
          clear hz HCs HQ3
          go_wp2_with fail
          refine HAb.out.mono ?_
          rintro e w6 ⟨rfl, hb6⟩
          have HB6 := Lib.hid (HB5.out.trans (hb6.mono HB5.out.size))
          clear hb6 t0 t1 t2
          go_wp2_with fail
          go_ret
          rw [HE.out]
          exact opE_same H.out HB6.out _
      · have HE : Hid (renameK T old s = (T, rz)) := HQ2.out.trans (if_pos hz)
        have hzb : (rz == 0) = false := beq_eq_false_iff_ne.2 hz
        clear hz HOk HQ2
        go_wp2_with fail
        refine HFi.out.mono ?_
        rintro e w5 ⟨rfl, hb5⟩
        have HB5 := Lib.hid (HB4.out.trans (hb5.mono HB4.out.size))
        clear hb5 f0 f1
        go_wp2_with fail
        go_ret
        rw [HE.out]
        exact opE_same H.out HB5.out _
end
end Go.Proofs.Ytcjojcihjhhpgaa
