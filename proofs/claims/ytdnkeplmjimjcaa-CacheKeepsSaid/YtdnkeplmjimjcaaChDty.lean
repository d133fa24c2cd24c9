/-
  Dirty.
-/
import Derived.Test.YtdnkeplmjimjcaaChByK
import Derived.Test.YtdnkeplmjimjcaaChOrdB
namespace Go.Proofs.Ytdnkeplmjimjcaa
open Go.RowKit

/-- Is a key's buffer dirty? -/
def dtyP (x : Sx) (p : Int × Int) : Bool := match x.f p with | some b => (x.S b).dirty | none => false
section
variable {w w' W : World} {bc bm base b : Nat} {room uses : Int} {N T : Nat} {x : Sx} {L : List Bk}
structure DtS (w : World) (bc bm base : Nat) (room : Int) (N T : Nat) (x : Sx) (r : Nat) (v : Value) (done : List (Int × Int)) (cnt : Nat) (wr : World) : Prop where
  own : wr.ownsRow w.heap.size KT 2 v (done.filter (dtyP x)).length (flatP (done.filter (dtyP x)))
  kr : KR wr bm r x.n x.f done cnt
  cs : CS wr bc bm base room N T x
  below : Below w.heap.size w wr
  lt : done.length ≤ 4096
  rl : w.heap.size ≤ r
def DtR (w : World) (bc bm base : Nat) (room : Int) (N T : Nat) (x : Sx) (r : Nat) (v : Value) (wr : World) : Prop :=
  ∃ (done : List (Int × Int)) (cnt : Nat), DtS w bc bm base room N T x r v done cnt wr
theorem DtS.step {r : Nat} {v : Value} {done : List (Int × Int)} {cnt : Nat} {wr : World} (h : DtS w bc bm base room N T x r v done cnt wr) {cnt' : Nat} {p : Int × Int} (hg : wr.grownBy w' (some r)) (_ : KR w' bm r x.n x.f (done ++ [p]) cnt') :
    w'.ownsRow w.heap.size KT 2 v (done.filter (dtyP x)).length (flatP (done.filter (dtyP x))) ∧ CS w' bc bm base room N T x ∧ Below w.heap.size w w' := by
  have ho : Out (fun g => g = r) wr w' := Out.of_grown hg (fun g e => by cases e; rfl)
  refine ⟨ho.own h.own (fun g hg e => ?_), h.cs.out ho (fun g hg e => ?_), h.below.trans (ho.below h.below.size (fun g _ e => by have := h.rl; omega))⟩
  · obtain ⟨-, cs, hb⟩ := own_blo h.own hg
    exact h.kr.blo hb e.symm
  · rcases hg.2 with q | q | ⟨t, cs, q, _⟩
    · exact h.kr.blo h.cs.cb (by rw [← e, q])
    · exact h.kr.ne (by rw [← e, q])
    · exact h.kr.blo q e.symm
theorem filt_yes {done : List (Int × Int)} {p : Int × Int} (h : dtyP x p = true) : (done ++ [p]).filter (dtyP x) = done.filter (dtyP x) ++ [p] := by simp [h]
theorem filt_no {done : List (Int × Int)} {p : Int × Int} (h : dtyP x p = false) : (done ++ [p]).filter (dtyP x) = done.filter (dtyP x) := by simp [h]
theorem DtS.app {r : Nat} {v v' : Value} {done : List (Int × Int)} {w6 w7 : World} {cnt' : Nat} {p : Int × Int} (h1 : w6.ownsRow w.heap.size KT 2 v (done.filter (dtyP x)).length (flatP (done.filter (dtyP x)))) (h2 : CS w6 bc bm base room N T x) (h4 : Below w.heap.size w w6) (hk : KR w6 bm r x.n x.f (done ++ [p]) cnt') (hr : w.heap.size ≤ r) (hd : dtyP x p = true)
    (hown : w7.ownsRow w.heap.size KT 2 v' ((done.filter (dtyP x)).length + 1) (flatP (done.filter (dtyP x)) ++ flatP [p])) (hg : w6.grownBy w7 v.ownBlock) : DtS w bc bm base room N T x r v' (done ++ [p]) cnt' w7 := by
  have ho : Out (fun g => v.ownBlock = some g) w6 w7 := Out.of_grown hg (fun g e => e)
  have hx : ∀ g, v.ownBlock = some g → w.heap.size ≤ g ∧ ∃ cs, Blo w6 g KT cs := fun g e => own_blo h1 e
  refine ⟨?_, hk.kept hg (fun e => ?_) (fun e => ?_), h2.out ho (fun g hg e => ?_), h4.trans (ho.below h4.size (fun g _ e => by have := (hx g e).1; omega)), h2.few hk, hr⟩
  · rw [filt_yes hd, List.length_append, flatP_app]
    exact hown
  · obtain ⟨-, cs, hb⟩ := hx bm e.symm
    exact h2.km.blo hb rfl
  · obtain ⟨-, cs, hb⟩ := hx r e.symm
    exact hk.blo hb rfl
  · obtain ⟨-, cs, hb⟩ := hx g e
    exact (xcs_key h2 hb) hg
/-- The keys of the dirty ones, rising. -/
def DtK (L : List Bk) (qs : List (Int × Int)) : Prop := qs.Perm ((L.filter fun s => s.dirty).map Bk.key) ∧ qs.Pairwise (fun p q => ¬ ltK q p)
def DtO (w : World) (L : List Bk) (e : Ending) (w' : World) : Prop := ∃ qs, DtK L qs ∧ OrO w qs e w'
theorem dt_perm {done : List (Int × Int)} (hC : CS W bc bm base room N T x) (hnd : done.Nodup) (hin : ∀ p ∈ done, (x.f p).isSome = true) (hall : ∀ p, wfK p → (x.f p).isSome = true → p ∈ done) :
    (done.filter (dtyP x)).Perm (((lstK x.S x.bs).filter fun s => s.dirty).map Bk.key) := by
  have h1 : ((lstK x.S x.bs).filter fun s => s.dirty).map Bk.key = (x.bs.map fun b => keyB (x.S b)).filter (dtyP x) := by
    unfold lstK
    rw [List.filter_map, List.map_map, List.filter_map]
    congr 1
    apply List.filter_congr
    intro b hb
    show (x.S b).dirty = dtyP x (keyB (x.S b))
    unfold dtyP
    rw [(hC.ps.key _ b).2 ⟨hb, rfl⟩]
  rw [h1]
  refine List.Perm.filter _ ((List.perm_ext_iff_of_nodup hnd ?_).2 (fun p => ?_))
  · rw [List.nodup_iff_pairwise_ne, List.pairwise_map]
    exact List.Pairwise.imp_of_mem (fun {b c} hb hc hne e => hne (hC.ps.inj hb hc e)) (List.nodup_iff_pairwise_ne.1 hC.ps.nodup)
  · rw [List.mem_map]
    constructor
    · intro hp
      obtain ⟨b, hb⟩ := Option.isSome_iff_exists.1 (hin p hp)
      obtain ⟨q1, q2⟩ := (hC.ps.key p b).1 hb
      exact ⟨b, q1, q2⟩
    · rintro ⟨b, hb, rfl⟩
      exact hall _ (hC.ps.wf b hb) (by rw [(hC.ps.key _ b).2 ⟨hb, rfl⟩]; rfl)
set_option maxRecDepth 100000 in
set_option maxHeartbeats 4000000 in
theorem dirty_any (h : CA w bc bm base room N T L) : Calls Try.prog 20 #[.pointer (some ⟨bc, 0, none⟩)] w (DtO w L) := by
  obtain ⟨x, hC, rfl⟩ := h
  obtain ⟨-, c1, -, -⟩ := hC.cb.cell
  obtain ⟨w3, hrg, ⟨cnt0, hkr⟩, hb3, hs3⟩ := hC.km.range
  have HSt : Hid (DtR w bc bm base room N T x w.heap.size (.slice none 0 0) w3) :=
    ⟨[], cnt0, World.ownsRow_nil _ _ _ _, hkr, hC.later hb3, hb3, by simp, Nat.le_refl _⟩
  clear hC hkr hb3 hs3
  generalize hr0 : w.heap.size = r at *
  go_enter Try.func20, Try.ntmps20
  go_wp2_with fail
  clear c1 hrg
  have HRr := Lib.hid hr0
  clear hr0
  go_loopw [3] (fun v wr => DtR w bc bm base room N T x r v wr) (fun _ wr => wr.rangeLeft bm r)
  case atStart => exact HSt.out
  case round =>
    clear HSt
    obtain ⟨done, cnt, hS⟩ := hrel
    have HS := Lib.hid hS
    clear hS
    rcases HS.out.kr.next 0 with ⟨hall, hrun⟩ | ⟨p, b, w', cnt', hwf, hfb, hnin, hrun, hkr', hlt, hgr, hsz, hen⟩
    · have HAll := Lib.hid hall
      clear hall
      obtain ⟨-, hnd, hin⟩ : True ∧ done.Nodup ∧ ∀ p ∈ done, (x.f p).isSome = true := by
        obtain ⟨D, left, _, _, _, h4, h5⟩ := HS.out.kr
        exact ⟨trivial, h4, h5⟩
      have HPm := Lib.hid (dt_perm HS.out.cs hnd hin HAll.out)
      have HSo := Lib.hid (srtK_any HS.out.own (Nat.le_trans (List.length_filter_le _ _) HS.out.lt))
      clear hnd hin
      go_wp2_with fail
      refine HSo.out.mono ?_
      rintro e w7 ⟨rfl, qs, hp, hpw, hown, ho⟩
      have HE : Hid (DtO w (lstK x.S x.bs) (.returned u3) w7) := by
        have hl : (done.filter (dtyP x)).length = qs.length := hp.length_eq.symm
        rw [hl] at hown
        obtain ⟨a, cap, rfl, -⟩ := own_slice hown
        refine ⟨qs, ⟨hp.trans HPm.out, hpw⟩, a, cap, rfl, hown, HS.out.below.trans (ho.below HS.out.below.size (fun g _ hg => ?_))⟩
        exact (own_blo HS.out.own hg).1
      clear HSo hown ho HS HAll HPm hp hpw
      go_wp2_with fail
      go_ret
      exact HE.out
    · obtain ⟨ki, kl⟩ := p
      unfold keyV at hrun hen
      obtain ⟨h1, h2, h4⟩ := HS.out.step hgr hkr'
      obtain ⟨hbm, hbk⟩ := (HS.out.cs.ps.key _ b).1 hfb
      obtain ⟨aB, hB⟩ := h2.buf hbm
      have hdp : dtyP x (ki, kl) = (x.S b).dirty := by unfold dtyP; rw [hfb]
      have hb5 : Below w'.heap.size w' (w'.alloc (.cells #[.int .i64 ki, .int .i64 kl] KT)) := sup_pc9 w' _
      obtain ⟨-, -, cd, -, -, -⟩ := (hB.later hb5).cells
      rw [← hdp] at cd
      have hb6 : Below w'.heap.size w' ((w'.alloc (.cells #[.int .i64 ki, .int .i64 kl] KT)).alloc (.cells #[.int .i64 ki, .int .i64 kl] KT)) := hb5.alloc (by simp) _
      have HO6 := Lib.hid (own_later h1 hb6)
      have HSrc : Hid (∀ ad, some (⟨w'.heap.size + 1, 0, none⟩ : Addr) = some ad → ∀ j u, (flatP [(ki, kl)])[j]? = some u → ((w'.alloc (.cells #[.int .i64 ki, .int .i64 kl] KT)).alloc (.cells #[.int .i64 ki, .int .i64 kl] KT)).cell? (ad.add j) = some u) := by
        have := laid_srcO (w'.alloc (.cells #[.int .i64 ki, .int .i64 kl] KT)) KT #[.int .i64 ki, .int .i64 kl] (flatP [(ki, kl)]) rfl
        rw [show (w'.alloc (.cells #[.int .i64 ki, .int .i64 kl] KT)).heap.size = w'.heap.size + 1 by simp] at this
        exact this
      have HS6 := Lib.hid (And.intro (h2.later hb6) (And.intro (h4.trans (hb6.mono h4.size)) (And.intro (hkr'.later hb6) (And.intro HS.out.rl (And.intro hlt HS.out.lt)))))
      have HM := Lib.hid HS.out.kr.left_eq
      have HBs : Hid (w.heap.size ≤ ((w'.alloc (.cells #[.int .i64 ki, .int .i64 kl] KT)).alloc (.cells #[.int .i64 ki, .int .i64 kl] KT)).heap.size) := by
        have := h4.size
        have := hb6.size
        show w.heap.size ≤ _
        omega
      have HLt : Hid ((done.filter (dtyP x)).length ≤ 4096) := Lib.hid (Nat.le_trans (List.length_filter_le _ _) HS.out.lt)
      cases hdb : dtyP x (ki, kl) with
      | true =>
        have HD := Lib.hid hdb
        rw [hdb] at cd
        clear h1 h2 h4 hb5 hb6 hkr' hlt hgr hnin hfb hwf hsz hbm hbk hB hdp hdb
        go_wp2_with (at_builtin; refine wp_append_rowO rfl (.tmp 20) (.tmp 22) KSL rfl w.heap.size KT (.agg #[.int .i64 0, .int .i64 0]) 2 16 Try.underlying48 info_kt rfl (by decide) (by decide) u3 (done.filter (dtyP x)).length (flatP (done.filter (dtyP x))) rfl HO6.out (some ⟨w'.heap.size + 1, 0, none⟩) 1 1 (flatP [(ki, kl)]) rfl rfl HSrc.out (flatP_one _) (fun h => by cases h) (by have := HLt.out; omega) HBs.out ?_; intro a7 c7 w7 hown hgrow _; have HS7 : Hid (DtS w bc bm base room N T x r (.slice a7 ((done.filter (dtyP x)).length + 1) c7) (done ++ [(ki, kl)]) cnt' w7) := DtS.app HO6.out HS6.out.1 HS6.out.2.1 HS6.out.2.2.1 HS6.out.2.2.2.1 HD.out hown hgrow; clear hown hgrow)
        go_roundw
        case rel => exact ⟨_, _, HS7.out⟩
        case measure =>
          rw [HS7.out.kr.left_eq, HM.out]
          exact HS6.out.2.2.2.2.1
      | false =>
        have HD := Lib.hid hdb
        rw [hdb] at cd
        have HS7 : Hid (DtS w bc bm base room N T x r u3 (done ++ [(ki, kl)]) cnt' (w'.alloc (.cells #[.int .i64 ki, .int .i64 kl] KT))) := by
          refine ⟨?_, hkr'.later hb5, h2.later hb5, h4.trans (hb5.mono h4.size), h2.few hkr', HS.out.rl⟩
          rw [filt_no HD.out]
          exact own_later h1 hb5
        clear h1 h2 h4 hb5 hb6 hkr' hgr hnin hfb hwf hsz hbm hbk hB hdp hdb
        have HLt2 := Lib.hid hlt
        clear hlt
        go_wp2_with fail
        go_roundw
        case rel => exact ⟨_, _, HS7.out⟩
        case measure =>
          rw [HS7.out.kr.left_eq, HM.out]
          exact HLt2.out
end
end Go.Proofs.Ytdnkeplmjimjcaa
