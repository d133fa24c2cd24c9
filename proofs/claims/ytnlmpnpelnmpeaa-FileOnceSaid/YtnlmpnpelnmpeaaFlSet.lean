/-
  The walks of setData and Set.
-/
import Derived.Test.YtnlmpnpelnmpeaaFlSpare
import Derived.Test.YtnlmpnpelnmpeaaFlSort
import Derived.Test.YtnlmpnpelnmpeaaFlApp
namespace Go.Proofs.Ytnlmpnpelnmpeaa
open Go.RowKit Go.Maps

/-- A file's map whose blocks of pointers count the data that they cover. -/
def FX (B M b n : Nat) (d : Nat → Int) (ad : Int → Int) (w : World) : Prop := ∃ f, FC B M b n d f ad (cov d) w
/-- The addresses of the blocks of pointers behind data's address is set. -/
def sdA (d : Nat → Int) (ad : Int → Int) (k : Nat) (v : Int) : Int → Int := fun x => if cov (updN d k v) x = 0 then 0 else ad x
/-- What is told no more. -/
def sdL (d : Nat → Int) (ad : Int → Int) (k : Nat) (v : Int) : List Int := srt (goneM (d k) v ++ if d k ≠ 0 ∧ v = 0 then glM (cov d) ad (way k) else [])
theorem sdL_len (d : Nat → Int) (ad : Int → Int) (k : Nat) (hk : k < 600) (v : Int) : (sdL d ad k v).length ≤ 4 := by
  unfold sdL
  rw [srt_len, List.length_append]
  have := goneM_len (d k) v
  have := glM_len (cov d) ad (way k)
  have := (way_f k hk).len
  split
  · omega
  · simp only [List.length_nil]; omega
section
variable {B M b n : Nat} {d : Nat → Int} {f : Int → Option Nat} {ad ct : Int → Int} {w w' : World}
theorem FX.later (h : FX B M b n d ad w) (hb : Below w.heap.size w w') : FX B M b n d ad w' := by obtain ⟨f, h⟩ := h; exact ⟨f, h.later hb⟩
theorem FX.mono (h : FX B M b n d ad w) {n' : Nat} (hn : n ≤ n') : FX B M b n' d ad w := by obtain ⟨f, h⟩ := h; exact ⟨f, h.mono hn⟩
theorem FX.row (h : FX B M b n d ad w) {base m size : Nat} {e : TypeId} {v : Value} {xs : List Value} (hv : w.ownsRow base e size v m xs) (h1 : e ≠ FT) (h2 : e ≠ MT) (hg : w.grownBy w' v.ownBlock) : FX B M b n d ad w' := by obtain ⟨f, h⟩ := h; exact ⟨f, h.row hv h1 h2 hg⟩
theorem FC.blk (h : FC B M b n d f ad ct w) {g : Nat} {t : TypeId} {cs : Array Value} (hb : Blo w g t cs) (h1 : t ≠ FT) (h2 : t ≠ MT) (hg : w.grownBy w' (some g)) : FC B M b n d f ad ct w' := by
  obtain ⟨c0, h3, h4⟩ := h.box
  exact ⟨⟨c0, h3.grown hg (fun e => h3.apart hb (Ne.symm h1) (Option.some.inj e)), h4⟩, h.mp.kept hg (fun e => h.mp.blo hb (Option.some.inj e)), h.is, fun x k e => ⟨(h.mt x k e).1.grown hg (fun e2 => (h.mt x k e).1.apart hb (Ne.symm h2) (Option.some.inj e2)), (h.mt x k e).2⟩, h.ap, h.lo, h.dB, h.aB, h.cB, h.az⟩
theorem FX.blk (h : FX B M b n d ad w) {g : Nat} {t : TypeId} {cs : Array Value} (hb : Blo w g t cs) (h1 : t ≠ FT) (h2 : t ≠ MT) (hg : w.grownBy w' (some g)) : FX B M b n d ad w' := by obtain ⟨f, h⟩ := h; exact ⟨f, h.blk hb h1 h2 hg⟩
theorem FX.hle (h : FX B M b n d ad w) : B ≤ w.heap.size := by obtain ⟨f, h⟩ := h; exact h.hle
theorem ctA_cov (d : Nat → Int) (k : Nat) (hk : k < 600) (v : Int) (h0 : d k = 0) (hv : v ≠ 0) : ctA (cov d) (way k) = cov (updN d k v) := by
  funext x
  rw [cov_upd d k hk v x]
  unfold ctA
  by_cases e : x ∈ way k <;> simp [e, h0, hv]
theorem ctS_cov (d : Nat → Int) (k : Nat) (hk : k < 600) (h0 : d k ≠ 0) : ctS (cov d) (way k) = cov (updN d k 0) := by
  funext x
  rw [cov_upd d k hk 0 x]
  unfold ctS
  by_cases e : x ∈ way k
  · simp [e, h0]; omega
  · simp [e]
theorem same_cov (d : Nat → Int) (k : Nat) (hk : k < 600) (v : Int) (h : d k = 0 ↔ v = 0) : cov d = cov (updN d k v) := by
  funext x
  rw [cov_upd d k hk v x]
  by_cases e : x ∈ way k
  · by_cases h0 : d k = 0
    · simp [e, h0, h.1 h0]
    · have : v ≠ 0 := fun e2 => h0 (h.2 e2)
      simp [e, h0, this]
  · simp [e]
theorem sdA_keep (h : ∀ x, cov d x = 0 → ad x = 0) (k : Nat) (v : Int) (hle : ∀ x, cov d x ≤ cov (updN d k v) x) : sdA d ad k v = ad := by
  funext x
  unfold sdA
  split
  · rename_i e
    have h1 := hle x
    have h2 := (cov_bd d x).1
    exact (h x (by omega)).symm
  · rfl
theorem sdA_spare (h : ∀ x, cov d x = 0 → ad x = 0) (k : Nat) (hk : k < 600) (h0 : d k ≠ 0) : sdA d ad k 0 = adS (cov d) ad (way k) := by
  funext x
  unfold sdA adS
  rw [← ctS_cov d k hk h0]
  unfold ctS
  by_cases e : x ∈ way k
  · by_cases e2 : cov d x = 1
    · simp [e, e2]
    · rw [if_neg (by simp [e]; omega), if_neg (fun e3 => e2 e3.2)]
  · by_cases e2 : cov d x = 0
    · simp [e, e2, h x e2]
    · simp [e, e2]
theorem way_pos (k : Nat) (hk : k < 600) (h0 : d k ≠ 0) : ∀ x ∈ way k, 1 ≤ cov d x := fun x hx => by
  have := (cov_pos d x).2 ⟨k, hk, h0, hx⟩
  omega
theorem way_lt (k : Nat) (hk : k < 600) (h0 : d k = 0) : ∀ x ∈ way k, cov d x < 600 := fun x hx => by
  have h1 := cov_upd d k hk 1 x
  rw [if_pos hx] at h1
  simp [h0] at h1
  have := (cov_bd (updN d k 1) x).2
  omega
set_option maxHeartbeats 4000000 in
theorem setData_any (k : Nat) (hk : k < 600) (v : Int) (h0 : 0 ≤ v) (h1 : v < 4096) (h : FX B M b n d ad w) (hn : n < 900000) :
    Calls Try.prog 27 #[.pointer (some ⟨M, 0, none⟩), .int .i64 k, .int .i64 v] w fun e w' => ∃ u m, e = .returned u ∧ m = (sdL d ad k v).length ∧ w'.ownsRow w.heap.size 3 1 u m (cellsI (sdL d ad k v)) ∧
      FX B M b (n + 3) (updN d k v) (sdA d ad k v) w' ∧ FS B b w w' := by
  obtain ⟨f, h⟩ := h
  have hwl := (way_f k hk).len
  have hput := h.put k hk v h0 h1
  have c0 := h.dat k hk
  have fz := h.frz k
  have HAz := Lib.hid h.az
  have hk6 : (k : Int) < 600 := by omega
  have HF : Hid (FC B M b n (updN d k v) f ad (cov d) (w.setCell ⟨M, k, none⟩ (.int .i64 v))) := hput.1
  have HS := Lib.hid hput.2
  have hgl := goneM_len (d k) v
  have HG := Lib.hid (fun W (hw : w.heap.size ≤ W.heap.size) => gone_any (w := W) w.heap.size 0 (.slice none 0 0) [] (d k) v ⟨rfl, .inl ⟨rfl, rfl⟩⟩ (by decide) hw)
  have hLd : sdL d ad k v = srt (goneM (d k) v ++ if d k ≠ 0 ∧ v = 0 then glM (cov d) ad (way k) else []) := rfl
  have hBw := h.hle
  have HDk := Lib.hid (h.dB k)
  clear h hput
  generalize hl0 : goneM (d k) v = l0 at *
  have HL0 := Lib.hid hl0
  clear hl0
  by_cases hA : d k = 0 ∧ v ≠ 0
  · -- data come
    have HNe := Lib.hid (fun W f' (hh : FC B M b n (updN d k v) f' ad (cov d) W) => need_any (w := W) k hk hh (way_lt k hk hA.1) hn)
    have HCt := Lib.hid (ctA_cov d k hk v hA.1 hA.2)
    have hsa : sdA d ad k v = ad := sdA_keep HAz.out k v (fun x => by rw [cov_upd d k hk v x]; split <;> simp [hA.1, hA.2] <;> omega)
    rw [if_neg (fun e => e.1 hA.1), List.append_nil] at hLd
    rw [hsa, hLd]
    obtain ⟨hA1, hA2⟩ := hA
    rw [hA1] at c0 HG
    have x1 : (v != 0) = true := by simpa using hA2
    have x2 : (v == 0) = false := by simpa using hA2
    clear hsa hLd HAz
    go_enter Try.func27, Try.ntmps27
    go_wp2_with fail
    have hz1 : w.heap.size ≤ (w.setCell ⟨M, k, none⟩ (.int .i64 v)).heap.size := HS.out.sz
    generalize w.setCell ⟨M, k, none⟩ (.int .i64 v) = w1 at *
    refine (HG.out _ hz1).mono ?_
    rintro e w2 ⟨v2, rfl, hr2, hg2⟩
    simp only [Value.ownBlock] at hg2
    have hb2 : Below w1.heap.size w1 w2 := ⟨hg2.os, hg2.tape, hg2.output, hg2.size, fun i hi => hg2.block i hi (by simp)⟩
    have HF2 := Lib.hid (HF.out.later hb2)
    have HS2 := Lib.hid (HS.out.trans (FS.of_below (b := b) hb2 HF.out.hle))
    rw [List.nil_append, Nat.zero_add] at hr2
    have HR2 := Lib.hid hr2
    clear hr2 hg2 hb2 HF HS HG
    go_wp2_with fail
    refine (HNe.out w2 f HF2.out).mono ?_
    rintro e w3 ⟨rfl, ⟨f', hf3⟩, hs3⟩
    rw [HCt.out] at hf3
    have HF3 := Lib.hid hf3
    have HS3 := Lib.hid (HS2.out.trans hs3)
    have HR3 := Lib.hid (hs3.own HR2.out (by decide) (by decide))
    clear hf3 hs3 HF2 HS2 HR2 HNe HCt
    go_wp2_with fail
    refine (sort_own w.heap.size l0.length v2 l0 HR3.out rfl (by omega)).mono ?_
    rintro e w4 ⟨rfl, hr4, hg4⟩
    have HF4 := Lib.hid (HF3.out.row HR3.out (by decide) (by decide) hg4)
    have HS4 := Lib.hid (HS3.out.row HR3.out (Nat.le_refl _) hBw hg4)
    have HR4 := Lib.hid hr4
    clear hr4 hg4 HF3 HS3 HR3
    go_wp2_with fail
    go_ret
    exact ⟨v2, l0.length, rfl, (srt_len l0).symm, HR4.out, ⟨f', HF4.out.mono (by omega)⟩, HS4.out⟩
  · by_cases hC : d k ≠ 0 ∧ v = 0
    · -- data go
      obtain ⟨hC1, rfl⟩ := hC
      have HNe := Lib.hid (fun W f' (hh : FC B M b n (updN d k 0) f' ad (cov d) W) => spare_any (w := W) k hk hh (way_pos k hk hC1))
      have HCt := Lib.hid (ctS_cov d k hk hC1)
      have hsa := sdA_spare HAz.out k hk hC1
      rw [if_pos ⟨hC1, rfl⟩] at hLd
      rw [hsa, hLd]
      have HGm := Lib.hid (glM_len (cov d) ad (way k))
      have x1 : (d k == 0) = false := by simpa using hC1
      have x2 : (d k != 0) = true := by simpa using hC1
      generalize d k = dk at *
      clear hsa hLd HAz hA
      go_enter Try.func27, Try.ntmps27
      go_wp2_with fail
      have hz1 : w.heap.size ≤ (w.setCell ⟨M, k, none⟩ (.int .i64 0)).heap.size := HS.out.sz
      generalize w.setCell ⟨M, k, none⟩ (.int .i64 0) = w1 at *
      refine (HG.out _ hz1).mono ?_
      rintro e w2 ⟨v2, rfl, hr2, hg2⟩
      simp only [Value.ownBlock] at hg2
      have hb2 : Below w1.heap.size w1 w2 := ⟨hg2.os, hg2.tape, hg2.output, hg2.size, fun i hi => hg2.block i hi (by simp)⟩
      have HF2 := Lib.hid (HF.out.later hb2)
      have HS2 := Lib.hid (HS.out.trans (FS.of_below (b := b) hb2 HF.out.hle))
      rw [List.nil_append, Nat.zero_add] at hr2
      have HR2 := Lib.hid hr2
      clear hr2 hg2 hb2 HF HS HG
      go_wp2_with fail
      refine (HNe.out w2 f HF2.out).mono ?_
      rintro e w3 ⟨v3, m3, rfl, hm3, hr3, ⟨f', hf3⟩, hs3⟩
      rw [HCt.out] at hf3
      obtain ⟨a3, c3, rfl, hc3⟩ := own_slice hr3
      have HF3 := Lib.hid hf3
      have HS3 := Lib.hid (HS2.out.trans hs3)
      have HR3 := Lib.hid (hs3.own HR2.out (by decide) (by decide))
      have HI3 := Lib.hid (Ints.own hr3)
      have HNn : Hid (a3 = none → m3 = 0 ∧ c3 = 0) := fun e => by
        rcases hr3.2 with ⟨e2, e3⟩ | ⟨g, cap, cur, e2, _⟩
        · cases e2; exact ⟨rfl, rfl⟩
        · rw [e] at e2; cases e2
      have HM3 := Lib.hid hm3
      have hz3 := HS3.out.sz
      have hm3l : m3 ≤ 3 := by have := HGm.out; omega
      clear hf3 hs3 HF2 HS2 HR2 HNe HCt hr3 hm3
      obtain ⟨va, vc, rfl, hvc⟩ := own_slice HR3.out
      obtain ⟨l3, hl3⟩ : ∃ l3, l3 = glM (cov d) ad (way k) := ⟨_, rfl⟩
      rw [← hl3] at HI3 HM3 HGm
      have HL3 := Lib.hid hl3
      clear hl3
      have info_i : (Try.prog.info? 3).map (fun i => (i.zero, i.size, i.bytes)) = some (some (.int .i64 0), 1, 8) := by kernel_rfl
      have HLen : Hid ((cellsI l3).length = m3 * 1) := by show _ = _; rw [cellsI_length, HM3.out]; omega
      go_wp2_with (at_builtin; refine wp_append_rowO rfl (.tmp 41) (.tmp 44) 22 rfl w.heap.size 3 _ 1 8 Try.underlying22 info_i (by kernel_rfl) (by decide) (by decide) (.slice va l0.length vc) l0.length (cellsI l0) rfl HR3.out a3 m3 c3 (cellsI l3) rfl HLen.out (ints_src HI3.out) (ints_one l3) HNn.out (by omega) hz3 ?_; intro a5 c5 w5 hown5 hg5 _; have HR5 := Lib.hid hown5; have HG5 := Lib.hid hg5; clear hown5 hg5)
      rw [cellsI_append] at HR5
      have HF5 := Lib.hid (HF3.out.row HR3.out (by decide) (by decide) HG5.out)
      have HS5 := Lib.hid (HS3.out.row HR3.out (Nat.le_refl _) hBw HG5.out)
      have hlen5 : l0.length + m3 = (l0 ++ l3).length := by rw [List.length_append, HM3.out]
      clear HF3 HS3 HR3 HG5 HI3 HNn HLen
      refine (sort_own w.heap.size _ _ (l0 ++ l3) HR5.out hlen5 (by omega)).mono ?_
      rintro e w6 ⟨rfl, hr6, hg6⟩
      have HF6 := Lib.hid (HF5.out.row HR5.out (by decide) (by decide) hg6)
      have HS6 := Lib.hid (HS5.out.row HR5.out (Nat.le_refl _) hBw hg6)
      have HR6 := Lib.hid hr6
      clear hr6 hg6 HF5 HS5 HR5
      have HE := Lib.hid hlen5
      rw [HL3.out] at HE HR6
      clear hlen5
      go_wp2_with fail
      go_ret
      exact ⟨.slice a5 (l0.length + m3) c5, l0.length + m3, rfl, by rw [srt_len]; exact HE.out, HR6.out, ⟨f', HF6.out.mono (by omega)⟩, HS6.out⟩
    · -- as many data as before
      have hiff : d k = 0 ↔ v = 0 := by
        constructor
        · intro e
          apply Classical.byContradiction
          intro e2
          exact hA ⟨e, e2⟩
        · intro e
          apply Classical.byContradiction
          intro e2
          exact hC ⟨e2, e⟩
      have HCt := Lib.hid (same_cov d k hk v hiff)
      have hsa : sdA d ad k v = ad := sdA_keep HAz.out k v (fun x => by rw [← HCt.out]; exact Int.le_refl _)
      rw [if_neg hC, List.append_nil] at hLd
      rw [hsa, hLd]
      clear hsa hLd HAz
      have key : (d k == 0) = (v == 0) ∧ (d k != 0) = (v != 0) := by
        by_cases e : v = 0
        · rw [hiff.2 e, e]; exact ⟨rfl, rfl⟩
        · have hd : d k ≠ 0 := fun e2 => e (hiff.1 e2)
          have q1 : (d k == 0) = false := by simpa using hd
          have q2 : (v == 0) = false := by simpa using e
          have q3 : (d k != 0) = true := by simpa using hd
          have q4 : (v != 0) = true := by simpa using e
          exact ⟨q1.trans q2.symm, q3.trans q4.symm⟩
      obtain ⟨k1, k2⟩ := key
      have HK1 := Lib.hid k1
      have HK2 := Lib.hid k2
      clear k1 k2 hA hC hiff
      generalize d k = dk at *
      have go : ∀ z : Bool, (v == 0) = z → (v != 0) = !z → (dk == 0) = z → (dk != 0) = !z → Calls Try.prog 27 #[.pointer (some ⟨M, 0, none⟩), .int .i64 k, .int .i64 v] w fun e w' => ∃ u m, e = .returned u ∧ m = (srt l0).length ∧ w'.ownsRow w.heap.size 3 1 u m (cellsI (srt l0)) ∧
          FX B M b (n + 3) (updN d k v) ad w' ∧ FS B b w w' := by
        clear HK1 HK2
        intro z y1 y2 y3 y4
        cases z
        all_goals
          first | change (v != 0) = true at y2 | change (v != 0) = false at y2
          first | change (dk != 0) = true at y4 | change (dk != 0) = false at y4
          go_enter Try.func27, Try.ntmps27
          go_wp2_with fail
          have hz1 : w.heap.size ≤ (w.setCell ⟨M, k, none⟩ (.int .i64 v)).heap.size := HS.out.sz
          generalize w.setCell ⟨M, k, none⟩ (.int .i64 v) = w1 at *
          refine (HG.out _ hz1).mono ?_
          rintro e w2 ⟨v2, rfl, hr2, hg2⟩
          simp only [Value.ownBlock] at hg2
          have hb2 : Below w1.heap.size w1 w2 := ⟨hg2.os, hg2.tape, hg2.output, hg2.size, fun i hi => hg2.block i hi (by simp)⟩
          have HF2 := Lib.hid (HF.out.later hb2)
          have HS2 := Lib.hid (HS.out.trans (FS.of_below (b := b) hb2 HF.out.hle))
          rw [List.nil_append, Nat.zero_add] at hr2
          have HR2 := Lib.hid hr2
          clear hr2 hg2 hb2 HF HS HG
          go_wp2_with fail
          refine (sort_own w.heap.size l0.length v2 l0 HR2.out rfl (by omega)).mono ?_
          rintro e w4 ⟨rfl, hr4, hg4⟩
          have HF4 := Lib.hid (HF2.out.row HR2.out (by decide) (by decide) hg4)
          have HS4 := Lib.hid (HS2.out.row HR2.out (Nat.le_refl _) hBw hg4)
          have HR4 := Lib.hid hr4
          clear hr4 hg4 HF2 HS2 HR2
          rw [HCt.out] at HF4
          go_wp2_with fail
          go_ret
          exact ⟨v2, l0.length, rfl, (srt_len l0).symm, HR4.out, ⟨f, HF4.out.mono (by omega)⟩, HS4.out⟩
      refine go (v == 0) rfl ?_ HK1.out ?_
      · simp [bne]
      · rw [HK2.out]; simp [bne]
end
end Go.Proofs.Ytnlmpnpelnmpeaa
