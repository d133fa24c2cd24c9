/-
  CachePlays: what it keeps; New of a room that is none; same of keys that are.
-/
import Derived.Test.YtdnkeplmjimjcaaPk10
import Derived.Test.YtdnkeplmjimjcaaPk11
import Derived.Test.YtdnkeplmjimjcaaPk12
import Derived.Test.YtdnkeplmjimjcaaPk14
import Derived.Test.YtdnkeplmjimjcaaPk07
namespace Go.Proofs.Ytdnkeplmjimjcaa
open Go.RowKit

set_option maxRecDepth 100000 in
theorem cnew_bad {room : Int} (h : ¬ (1 ≤ room ∧ room ≤ 4096)) (w : World) : Calls Try.prog 9 #[.int .i64 room] w fun e w' => e = .returned (.tuple #[.pointer none, .int .i64 22]) ∧ w' = w := by
  by_cases h1 : room < 1
  · clear h
    go_enter Try.func9, Try.ntmps9
    go_wp2
    go_ret2
    exact ⟨rfl, rfl⟩
  · have h2 : room > 4096 := by omega
    clear h
    go_enter Try.func9, Try.ntmps9
    go_wp2
    go_ret2
    exact ⟨rfl, rfl⟩
def SmR (w : World) (n : Nat) (v : Value) (wr : World) : Prop := ∃ i : Nat, i ≤ n ∧ v = .int .i64 (i : Int) ∧ Below w.heap.size w wr
set_option maxRecDepth 100000 in
set_option maxHeartbeats 4000000 in
theorem same_keys {w : World} {C D n : Nat} {a b : Option Addr} {ca cb : Nat} {ps : List (Int × Int)} (h : w.ownsRow C KT 2 (.slice a n ca) n (flatP ps)) (k : w.ownsRow D RKT 2 (.slice b n cb) n (flatP ps)) (hn : n ≤ 5000) :
    Calls Try.prog 17 #[.slice a n ca, .slice b n cb] w fun e w' => e = .returned (.bool true) ∧ Below w.heap.size w w' := by
  have hl : ps.length = n := by have := h.1; rw [flatP_len] at this; omega
  have HL := Lib.hid hl
  have H := Lib.hid h
  have K := Lib.hid k
  have HSt : Hid (SmR w n (.int .i64 0) w) := ⟨0, Nat.zero_le _, rfl, Below.refl _ _⟩
  clear h k hl
  go_enter Try.func17, Try.ntmps17
  go_wp2_with fail
  go_loopw [13] (fun v wr => SmR w n v wr) (fun v _ => n - (intOf v).toNat)
  case atStart => exact HSt.out
  case round =>
    clear HSt
    obtain ⟨i, hi, rfl, hb⟩ := hrel
    have HB := Lib.hid hb
    clear hb
    have i0 : (0 : Int) ≤ (i : Int) := by omega
    by_cases hin : i < n
    · have i1 : (i : Int) < (n : Int) := by omega
      obtain ⟨p, hp⟩ : ∃ p, ps[i]? = some p := ⟨_, List.getElem?_eq_getElem (by rw [HL.out]; exact hin)⟩
      obtain ⟨g, rfl, x0, x1⟩ := own_key (own_later H.out HB.out) hp
      obtain ⟨g2, rfl⟩ : ∃ g2, b = some ⟨g2, 0, none⟩ := by
        rcases K.out.2 with ⟨q, h0⟩ | ⟨g2, c2, cur, q, -⟩
        · omega
        · cases q
          exact ⟨g2, rfl⟩
      obtain ⟨y0, y1⟩ := own_keyD (own_later K.out HB.out) hp
      obtain ⟨p1, p2⟩ := p
      have k1 : ∀ z : Kept wr, z.at_.cell? ⟨g, i * 2, none⟩ = some (.int .i64 p1) := fun z => cell_later z.below x0
      have k2 : ∀ z : Kept wr, z.at_.cell? ⟨g, i * 2 + 1, none⟩ = some (.int .i64 p2) := fun z => cell_later z.below x1
      have k3 : ∀ z : Kept wr, z.at_.cell? ⟨g2, i * 2, none⟩ = some (.int .i64 p1) := fun z => cell_later z.below y0
      have k4 : ∀ z : Kept wr, z.at_.cell? ⟨g2, i * 2 + 1, none⟩ = some (.int .i64 p2) := fun z => cell_later z.below y1
      have HM := Lib.hid hin
      clear x0 x1 y0 y1 hp hin
      go_upto_region 6 with (fail)
      refine wp_region_kept (by kernel_rfl) (by kernel_rfl) ?_
      repeat (go_big_quiet_step (fail))
      refine wpQuiet_nil ?_
      rintro W4 ⟨w4, rfl⟩
      have HB4 : Hid (Below w.heap.size w w4.at_) := HB.out.trans (w4.below.mono HB.out.size)
      generalize w4.at_ = W4 at *
      clear w4 k1 k2 k3 k4
      go_wp2_with fail
      go_roundw
      case rel => exact ⟨i + 1, HM.out, rfl, HB4.out⟩
      case measure => have := HM.out; simp [intOf]; omega
    · have i1 : ¬ (i : Int) < (n : Int) := by omega
      clear hin
      go_wp2_with fail
      go_ret
      exact ⟨rfl, HB.out⟩
/-- Between two calls of the script: the cache (L'), and the document's (L) in its box. -/
structure PyS (w : World) (bc bm mb : Nat) (r : Int) (i : Nat) (L' L : List Bk) (a : Option Addr) (n cap : Nat) (W : World) : Prop where
  ca : CA W bc bm w.heap.size r i i L'
  bx : Blo W mb RCT #[.int .i64 r, .slice a n cap]
  dv : DCv W a n cap L
  b : Below w.heap.size w W
  low : w.heap.size ≤ mb
section
variable {w W W' : World} {bc bm mb : Nat} {r : Int} {i : Nat} {L L' L'' : List Bk} {a a' : Option Addr} {n n' cap cap' : Nat}
theorem xc_ty {base g : Nat} {cs : Array Value} {t : TypeId} (hC : CA W bc bm base r i i L') (h : Blo W g t cs) (h1 : t ≠ CT) (h2 : t ≠ BT) (h3 : t ≠ PB) : ¬ XC W bc bm base g := by
  obtain ⟨n, f, ks, uses, v, hK, -, hB⟩ := hC.len
  rintro ⟨-, e | e | ⟨t', cs', q1, q2⟩⟩
  · exact h.apart hB h1 e
  · exact hK.blo h e.symm
  · unfold Blo at h q1
    rw [q1] at h
    cases h
    rcases q2 with e | e
    · exact h2 e
    · exact h3 e
theorem PyS.later (h : PyS w bc bm mb r i L' L a n cap W) (hb : Below W.heap.size W W') : PyS w bc bm mb r i L' L a n cap W' := ⟨h.ca.later hb, h.bx.later hb, h.dv.later hb, h.b.trans (hb.mono h.b.size), h.low⟩
theorem PyS.call (h : PyS w bc bm mb r i L' L a n cap W) (hC : CA W' bc bm w.heap.size r (i + 1) (i + 1) L'') (ho : Out (XC W bc bm w.heap.size) W W') : PyS w bc bm mb r (i + 1) L'' L a n cap W' :=
  ⟨hC, ho.blo h.bx (xc_ty h.ca h.bx (by decide) (by decide) (by decide)), h.dv.out ho (fun g cs hb => xc_ty h.ca hb (by decide) (by decide) (by decide)), h.b.trans (ho.below h.b.size (fun g _ e => e.1)), h.low⟩
theorem PyS.up (h : PyS w bc bm mb r i L' L a n cap W) : PyS w bc bm mb r (i + 1) L' L a n cap W := ⟨h.ca.mono (Nat.le_succ _) (Nat.le_succ _), h.bx, h.dv, h.b, h.low⟩
/-- The document's answer is stored in its box. -/
theorem PyS.put (h : PyS w bc bm mb r i L' L a n cap W) {L2 : List Bk} (hv : DCv W a' n' cap' L2) : PyS w bc bm mb r i L' L2 a' n' cap' (W.setRow mb #[.int .i64 r, .slice a' n' cap']) := by
  have ho : Out (fun g => g = mb) W (W.setRow mb #[.int .i64 r, .slice a' n' cap']) := out_row W mb _ rfl
  exact ⟨h.ca.out ho (fun g hg e => xc_ty h.ca h.bx (by decide) (by decide) (by decide) (by rw [← e]; exact hg)), blo_row h.bx _, hv.box h.bx (by decide) _, below_setRow h.b h.low _, h.low⟩
/-- A byte of an answer is changed. -/
theorem PyS.byte (h : PyS w bc bm mb r i L' L a n cap W) {g k : Nat} {cs : Array Value} (hg : Blo W g U8 cs) (hl : w.heap.size ≤ g) (u : Value) : PyS w bc bm mb r i L' L a n cap (W.setCell ⟨g, k, none⟩ u) := by
  have ho : Out (fun j => j = g) W (W.setCell ⟨g, k, none⟩ u) := out_put _ _ _ rfl
  exact ⟨h.ca.out ho (fun j hj e => xc_u8 h.ca hg (by rw [← e]; exact hj)), h.bx.far (h.bx.apart hg (by decide)) u, h.dv.boxc hg (by decide) u, h.b.setCell hl u, h.low⟩
end
/-- All data are bytes. -/
def ByI (L : List Bk) : Prop := ∀ s ∈ L, ∀ y ∈ dtL s.data, y < 256
theorem ByI.sub {L L' : List Bk} (h : ByI L) (hs : ∀ t ∈ L', ∃ s ∈ L, t.key = s.key ∧ t.data = s.data) : ByI L' := fun t ht => by
  obtain ⟨s, h1, -, h2⟩ := hs t ht
  rw [h2]
  exact h s h1
theorem ByI.put {L : List Bk} (h : ByI L) {room : Int} {p : Int × Int} {l : List Nat} {d : Bool} (hl : ∀ y ∈ l, y < 256) : ByI (putK room L p l d).1 := by
  unfold putK
  split
  · exact h
  · rename_i h64
    have h64 : l.length = 64 := Decidable.not_not.1 h64
    have hg : ∀ y ∈ dtL (gd l), y < 256 := by rw [dtL_gd h64]; exact hl
    split
    · intro t ht
      rcases List.mem_append.1 ht with q | q
      · exact h t (woK_sub q)
      · rw [List.mem_singleton.1 q]; exact hg
    · split
      · intro t ht
        rcases List.mem_append.1 ht with q | q
        · exact h t (room_sub t q)
        · rw [List.mem_singleton.1 q]; exact hg
      · intro t ht
        exact h t (room_sub t ht)
theorem ByI.play {L : List Bk} (h : ByI L) {room : Int} {x : OpC} (hb : ∀ y ∈ x.b, y < 256) : ByI (playK room L x).1 := by
  by_cases h1 : x.k = 1
  · unfold playK
    rw [if_pos h1]
    refine h.put ?_
    unfold inB
    split
    · exact hb
    · exact byt_byte hb
  · exact h.sub (play_sub h1)
/-- What a call answers beside its error: nothing, or bytes in a row of one's own. -/
def AnsR (C : Nat) (o : Option (Nat → Nat)) (v : Value) (W : World) : Prop :=
  (o = none ∧ v = .slice none 0 0) ∨ ∃ d g c, o = some d ∧ v = .slice (some ⟨g, 0, none⟩) 64 c ∧ W.ownsRow C U8 1 (.slice (some ⟨g, 0, none⟩) 64 c) 64 (cellsB (dtL d))
theorem AnsR.later {C : Nat} {o : Option (Nat → Nat)} {v : Value} {W W' : World} (h : AnsR C o v W) (hb : Below W.heap.size W W') : AnsR C o v W' :=
  h.imp id (fun ⟨d, g, c, q1, q2, q3⟩ => ⟨d, g, c, q1, q2, own_later q3 hb⟩)
theorem AnsR.out {C : Nat} {o : Option (Nat → Nat)} {v : Value} {W W' : World} {X : Nat → Prop} (h : AnsR C o v W) (ho : Out X W W') (hX : ∀ g cs, Blo W g U8 cs → ¬ X g) : AnsR C o v W' :=
  h.imp id (fun ⟨d, g, c, q1, q2, q3⟩ => ⟨d, g, c, q1, q2, ho.own q3 (fun k hk => by obtain ⟨-, cs, hb⟩ := own_blo q3 hk; exact hX k cs hb)⟩)
theorem AnsR.str {C : Nat} {o : Option (Nat → Nat)} {v : Value} {W : World} (h : AnsR C o v W) (hb : ∀ d, o = some d → ∀ y ∈ dtL d, y < 256) : (convert BYS 9 v).run Try.prog W = .ok (.string (wantS o)) W := by
  rcases h with ⟨rfl, rfl⟩ | ⟨d, g, c, rfl, rfl, q⟩
  · exact run_str W _ _ _ Try.underlying35 Try.underlying5 Try.underlying9 [] none 0 0 rfl (Bytes.none W none)
  · obtain ⟨a', c', e1, e2, e3, -⟩ := Bytes.own q (hb d rfl)
    cases e1
    exact run_str W _ _ _ Try.underlying35 Try.underlying5 Try.underlying9 (dtL d) _ 64 c (by rw [dtL_len]) e3
theorem get_data {L : List Bk} {room : Int} {x : OpC} {d : Nat → Nat} (h : (playK room L x).2.2 = some d) : ∃ s ∈ L, s.data = d := by
  unfold playK at h
  split at h
  · cases h
  · split at h
    · unfold getK at h
      cases hf : findK L x.key with
      | none => rw [hf] at h; cases h
      | some s => rw [hf] at h; cases h; exact ⟨s, List.mem_of_find?_eq_some hf, rfl⟩
    · split at h
      · cases h
      · split at h
        · cases h
        · split at h
          · cases h
          · split at h
            · cases h
            · cases h
/-- Behind a call of both. -/
def PyC (w : World) (bc bm mb : Nat) (r : Int) (i C : Nat) (P : List Bk × Int × Option (Nat → Nat)) (v13 : Value) (c s t : Value) (wx : World) : Prop :=
  c = .int .i64 P.2.1 ∧ s = .string (wantS P.2.2) ∧ t = .bool P.2.2.isSome ∧ ∃ a n cap, PyS w bc bm mb r (i + 1) P.1 P.1 a n cap wx ∧ AnsR C P.2.2 v13 wx
theorem PlyO.ans {w' : World} {w : World} {bc bm base : Nat} {r : Int} {N T : Nat} {R : List Bk × Int × Option (Nat → Nat)} {e : Ending} (h : PlyO w bc bm base r N T R e w') : ∃ v, e = .returned (.tuple #[.int .i64 R.2.1, v, .bool R.2.2.isSome]) ∧ AnsR w.heap.size R.2.2 v w' := by
  rcases h.2.2 with ⟨q, rfl⟩ | ⟨d, g, c, q, rfl, q3⟩
  · exact ⟨_, by rw [q]; rfl, .inl ⟨q, rfl⟩⟩
  · exact ⟨_, by rw [q]; rfl, .inr ⟨d, g, c, q, rfl, q3⟩⟩
section
variable {w W : World} {bc bm mb : Nat} {r : Int} {i C n cap n7 c7 : Nat} {L : List Bk} {a a7 : Option Addr} {x : OpC} {P : List Bk × Int × Option (Nat → Nat)} {v13 : Value}
theorem pyc_set (hS : PyS w bc bm mb r (i + 1) P.1 L a n cap W) (hv : DCv W a7 n7 c7 P.1) (hA : AnsR C P.2.2 v13 W) : ∃ a n cap, PyS w bc bm mb r (i + 1) P.1 P.1 a n cap (W.setRow mb #[.int .i64 r, .slice a7 n7 c7]) ∧ AnsR C P.2.2 v13 (W.setRow mb #[.int .i64 r, .slice a7 n7 c7]) :=
  ⟨a7, n7, c7, hS.put hv, hA.out (out_row (X := fun g => g = mb) W mb _ rfl) (fun g cs hb e => hS.bx.apart hb (by decide) e.symm)⟩
theorem pyc_code {R : List Bk × Int} (hP : playK r L x = P) (hR : playK r L x = (R.1, R.2, none)) (hS : PyS w bc bm mb r (i + 1) P.1 L a n cap W) (hv : DCv W a7 n7 c7 R.1) (hA : AnsR C P.2.2 v13 W) :
    PyC w bc bm mb r i C P v13 (.int .i64 R.2) (.string ByteArray.empty) (.bool false) (W.setRow mb #[.int .i64 r, .slice a7 n7 c7]) := by
  rw [hR] at hP
  subst hP
  exact ⟨rfl, rfl, rfl, pyc_set hS hv hA⟩
theorem pyc_get {R : List Bk × Option (Nat → Nat)} {S : ByteArray} (hs : S = wantS R.2) (hP : playK r L x = P) (hR : playK r L x = (R.1, 0, R.2)) (hS : PyS w bc bm mb r (i + 1) P.1 L a n cap W) (hv : DCv W a7 n7 c7 R.1) (hA : AnsR C P.2.2 v13 W) :
    PyC w bc bm mb r i C P v13 (.int .i64 0) (.string S) (.bool R.2.isSome) (W.setRow mb #[.int .i64 r, .slice a7 n7 c7]) := by
  rw [hR] at hP
  subst hP
  subst hs
  exact ⟨rfl, rfl, rfl, pyc_set hS hv hA⟩
theorem pyc_none (hP : playK r L x = P) (hR : playK r L x = (L, 0, none)) (hS : PyS w bc bm mb r (i + 1) P.1 L a n cap W) (hA : AnsR C P.2.2 v13 W) :
    PyC w bc bm mb r i C P v13 (.int .i64 0) (.string ByteArray.empty) (.bool false) W := by
  rw [hR] at hP
  subst hP
  exact ⟨rfl, rfl, rfl, a, n, cap, hS, hA⟩
end
/-- Keys in order, in new memory. -/
def OrN (w : World) (n : Nat) (ps : List (Int × Int)) (e : Ending) (w' : World) : Prop := ∃ a cap, e = .returned (.slice a n cap) ∧ w'.ownsRow w.heap.size KT 2 (.slice a n cap) n (flatP ps) ∧ Below w.heap.size w w'
theorem orn_of {w : World} {n : Nat} {ps : List (Int × Int)} {e : Ending} {w' : World} (hn : ps.length = n) (h : OrO w.drew ps e w') : OrN w n ps e w' := by
  obtain ⟨a, cap, rfl, h1, h2⟩ := h
  subst hn
  exact ⟨a, cap, rfl, h1, ((Below.refl w.heap.size w).drew).trans h2⟩
theorem dtk_small {L : List Bk} {qs : List (Int × Int)} {n : Nat} (h : DtK L qs) (hn : n = L.length) (h5 : n ≤ 5000) : qs.length ≤ 5000 := by
  have := h.1.length_eq
  rw [List.length_map] at this
  have := List.length_filter_le (fun s : Bk => s.dirty) L
  omega
/-- The answer's bytes are changed, one by one. -/
def BlR (w : World) (bc bm mb : Nat) (r : Int) (i C g c : Nat) (L : List Bk) (v : Value) (wr : World) : Prop :=
  ∃ (j : Nat) (l : List Nat) (a : Option Addr) (n cap : Nat), j ≤ 64 ∧ v = .int .i64 (j : Int) ∧ l.length = 64 ∧ (∀ y ∈ l, y < 256) ∧ wr.ownsRow C U8 1 (.slice (some ⟨g, 0, none⟩) 64 c) 64 (cellsB l) ∧ PyS w bc bm mb r i L L a n cap wr
theorem bl_step {w wr : World} {bc bm mb : Nat} {r : Int} {i C g c j n cap : Nat} {L : List Bk} {a : Option Addr} {l : List Nat} (hC : w.heap.size ≤ C) (hown : wr.ownsRow C U8 1 (.slice (some ⟨g, 0, none⟩) 64 c) 64 (cellsB l)) (hl : l.length = 64) (h256 : ∀ y ∈ l, y < 256) (hlt : j < 64) (hS : PyS w bc bm mb r i L L a n cap wr) :
    BlR w bc bm mb r i C g c L (.int .i64 ((j : Int) + 1)) (wr.setCell ⟨g, j, none⟩ (.int .u8 ((((l.getD j 0 : Nat) : Int) + 1) % 256))) := by
  obtain ⟨hlow, cs, hb⟩ := own_bloq hown (g := g) rfl
  have hv : (((l.getD j 0 : Nat) : Int) + 1) % 256 = (((l.getD j 0 + 1) % 256 : Nat) : Int) := by omega
  refine ⟨j + 1, l.set j ((l.getD j 0 + 1) % 256), a, n, cap, hlt, rfl, by simp [hl], fun y hy => ?_, ?_, hS.byte hb (by omega) _⟩
  · rcases List.mem_or_eq_of_mem_set hy with q | q
    · exact h256 y q
    · omega
  · have := (hown.stored j (.int .u8 ((((l.getD j 0 : Nat) : Int) + 1) % 256))).1
    rw [hv] at this ⊢
    rw [cellsB_setq] at this
    exact this
def PyR (w : World) (bc bm mb : Nat) (r : Int) (zl : Nat) (v : Value) (wr : World) : Prop :=
  ∃ (i : Nat) (L : List Bk) (a : Option Addr) (n cap : Nat), i ≤ 80 ∧ i ≤ zl ∧ v = .int .i64 (i : Int) ∧ PyS w bc bm mb r i L L a n cap wr ∧ ByI L
end Go.Proofs.Ytdnkeplmjimjcaa
