/-
  Order.
-/
import Derived.Test.YtdnkeplmjimjcaaChSrt
namespace Go.Proofs.Ytdnkeplmjimjcaa
open Go.RowKit

section
variable {w w' W : World} {bc bm base b : Nat} {room uses : Int} {N T : Nat} {x : Sx} {L : List Bk}
/-- What Order leaves. -/
def OrO (w : World) (ps : List (Int × Int)) (e : Ending) (w' : World) : Prop :=
  ∃ a cap, e = .returned (.slice a ps.length cap) ∧ w'.ownsRow w.heap.size KT 2 (.slice a ps.length cap) ps.length (flatP ps) ∧ Below w.heap.size w w'
set_option maxRecDepth 100000 in
set_option maxHeartbeats 4000000 in
theorem order_any (h : CA w bc bm base room N T L) : Calls Try.prog 18 #[.pointer (some ⟨bc, 0, none⟩)] w (OrO w (L.map Bk.key)) := by
  obtain ⟨x, hC, rfl⟩ := h
  have hlen := hC.km.len 3
  obtain ⟨w1, hw1⟩ : ∃ w1, w1 = w.alloc (.cells #[.pointer (some ⟨bc, 0, none⟩)] PC) := ⟨_, rfl⟩
  have hb1 : Below w.heap.size w w1 := by rw [hw1]; exact sup_pc9 w _
  have hs1 : w1.heap.size = w.heap.size + 1 := by rw [hw1]; simp
  have hX : Blo w1 w.heap.size PC #[.pointer (some ⟨bc, 0, none⟩)] := by rw [hw1]; exact blo_laid w _ _
  have hC1 := hC.later hb1
  have c0 := hX.cell 0
  obtain ⟨-, c1, -, -⟩ := hC1.cb.cell
  have k1 := hC1.km.len 3
  rw [hC.ps.len] at k1
  have hn : x.bs.length ≤ 4096 := by have := hC.ps.rm; omega
  obtain ⟨i, hi0, hz, hsz, hby⟩ := info_parts info_kt
  obtain ⟨w2, hmk, hown, hg2⟩ := run_make_own (P := Try.prog) w1 (w.heap.size + 1) KSL KT i _ 2 Try.underlying48 hi0 hz hsz .i64 .i64 x.bs.length (by rw [hby]; omega) (by unfold maxLen; omega) (by omega)
  have hb2 : Below w1.heap.size w1 w2 := ⟨hg2.os, hg2.tape, hg2.output, hg2.size, fun i hi => hg2.block i hi (by simp)⟩
  have hC2 := hC1.later hb2
  have c2 := cell_later hb2 c0
  have c3 := cell_later hb2 c1
  obtain ⟨w3, hrg, ⟨cnt0, hkr⟩, hb3, hs3⟩ := hC2.km.range
  have HSt : Hid (OrR w bc bm base room N T x w2.heap.size (.slice (some ⟨w1.heap.size, 0, none⟩) 0 x.bs.length) w3) :=
    ⟨[], cnt0, own_later hown hb3, hkr, hC2.later hb3, (hX.later hb2).later hb3, (hb1.trans (hb2.mono hb1.size)).trans (hb3.mono (Nat.le_trans hb1.size hb2.size)), by simp, by have := hb2.size; omega⟩
  clear hC hC1 hC2 hX hlen hown hg2 hb2 hkr hb3 hi0 hz hsz hby hb1 hs3
  go_enter Try.func18, Try.ntmps18
  go_upto_region 1 with (fail)
  rw [← hw1]
  clear hw1
  clear hs1
  generalize w1.heap.size = gr0 at *
  generalize w2.heap.size = r at *
  go_wp2_with fail
  clear c0 c1 c2 c3 k1 hmk hrg
  go_loopw [3] (fun v wr => OrR w bc bm base room N T x r v wr) (fun _ wr => wr.rangeLeft bm r)
  case atStart => exact HSt.out
  case round =>
    clear HSt
    obtain ⟨done, cnt, hS⟩ := hrel
    have HS := Lib.hid hS
    clear hS
    rcases HS.out.kr.next 0 with ⟨hall, hrun⟩ | ⟨p, b, w', cnt', hwf, hfb, hnin, hrun, hkr', hlt, hgr, hsz, hen⟩
    · have HAll := Lib.hid hall
      clear hall
      obtain ⟨-, hnd, hin⟩ : True ∧ done.Nodup ∧ ∀ p ∈ done, (x.f p).isSome = true := by
        obtain ⟨D, left, _, _, _, h4, h5⟩ := HS.out.kr
        exact ⟨trivial, h4, h5⟩
      have HSo := Lib.hid (srt_any HS.out.cs HS.out.box HS.out.own hnd hin HAll.out)
      clear hnd hin
      go_wp2_with fail
      refine HSo.out.mono ?_
      rintro e w7 ⟨rfl, hown, ho⟩
      have HE : Hid (OrO w ((lstK x.S x.bs).map Bk.key) (.returned u3) w7) := by
        have hl : ((lstK x.S x.bs).map Bk.key) = x.bs.map fun b => keyB (x.S b) := by
          unfold lstK
          rw [List.map_map]
          rfl
        have hll : ((lstK x.S x.bs).map Bk.key).length = x.bs.length := by rw [hl]; simp
        obtain ⟨a, cap, rfl, -⟩ := own_slice hown
        refine ⟨a, cap, by rw [hll], ?_, ?_⟩
        · rw [hll, hl]
          refine ⟨hown.1, ?_⟩
          rcases hown.2 with q | ⟨g, c, cur, q, q2, q3⟩
          · exact .inl q
          · exact .inr ⟨g, c, cur, q, Nat.le_of_succ_le q2, q3⟩
        · refine HS.out.below.trans (ho.below HS.out.below.size (fun g _ hg => ?_))
          have := (own_blo HS.out.own hg).1
          omega
      clear HSo hown ho HS HAll
      go_wp2_with fail
      go_ret
      exact HE.out
    · obtain ⟨ki, kl⟩ := p
      unfold keyV at hrun hen
      obtain ⟨h1, h2, h3, h4⟩ := HS.out.step hgr hkr'
      have hb5 : Below w'.heap.size w' ((w'.alloc (.cells #[.int .i64 ki, .int .i64 kl] KT)).alloc (.cells #[.int .i64 ki, .int .i64 kl] KT)) := (sup_pc9 w' _).alloc (by simp) _
      have HO6 := Lib.hid (own_later h1 hb5)
      have HSrc : Hid (∀ ad, some (⟨w'.heap.size + 1, 0, none⟩ : Addr) = some ad → ∀ j u, (flatP [(ki, kl)])[j]? = some u → ((w'.alloc (.cells #[.int .i64 ki, .int .i64 kl] KT)).alloc (.cells #[.int .i64 ki, .int .i64 kl] KT)).cell? (ad.add j) = some u) := by
        have := laid_srcO (w'.alloc (.cells #[.int .i64 ki, .int .i64 kl] KT)) KT #[.int .i64 ki, .int .i64 kl] (flatP [(ki, kl)]) rfl
        rw [show (w'.alloc (.cells #[.int .i64 ki, .int .i64 kl] KT)).heap.size = w'.heap.size + 1 by simp] at this
        exact this
      have HS6 := Lib.hid (And.intro (h2.later hb5) (And.intro (h3.later hb5) (And.intro (h4.trans (hb5.mono h4.size)) (And.intro (hkr'.later hb5) (And.intro HS.out.rl (And.intro hlt HS.out.lt))))))
      have HM := Lib.hid HS.out.kr.left_eq
      have HBs : Hid (w.heap.size + 1 ≤ ((w'.alloc (.cells #[.int .i64 ki, .int .i64 kl] KT)).alloc (.cells #[.int .i64 ki, .int .i64 kl] KT)).heap.size) := by
        have := HS.out.rl
        have := HS.out.kr.lt
        have := hb5.size
        show w.heap.size + 1 ≤ _
        omega
      clear h1 h2 h3 h4 hb5 hkr' hlt hgr hnin hfb hwf hsz
      have HLt := Lib.hid HS.out.lt
      go_wp2_with (at_builtin; refine wp_append_rowO rfl (.tmp 20) (.tmp 22) KSL rfl (w.heap.size + 1) KT (.agg #[.int .i64 0, .int .i64 0]) 2 16 Try.underlying48 info_kt rfl (by decide) (by decide) u3 done.length (flatP done) rfl HO6.out (some ⟨w'.heap.size + 1, 0, none⟩) 1 1 (flatP [(ki, kl)]) rfl rfl HSrc.out (flatP_one _) (fun h => by cases h) (by have := HLt.out; omega) HBs.out ?_; intro a7 c7 w7 hown hgrow _; have HS7 : Hid (OrS w bc bm base room N T x r (.slice a7 (done.length + 1) c7) (done ++ [(ki, kl)]) cnt' w7) := OrS.app HO6.out HS6.out.1 HS6.out.2.1 HS6.out.2.2.1 HS6.out.2.2.2.1 HS6.out.2.2.2.2.1 hown hgrow; clear hown hgrow)
      go_roundw
      case rel => exact ⟨_, _, HS7.out⟩
      case measure =>
        rw [HS7.out.kr.left_eq, HM.out]
        exact HS6.out.2.2.2.2.2.1
end
end Go.Proofs.Ytdnkeplmjimjcaa
