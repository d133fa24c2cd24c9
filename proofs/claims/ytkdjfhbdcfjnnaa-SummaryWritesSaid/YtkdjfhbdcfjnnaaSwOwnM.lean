/-
  What Decode of a summary's block answers; rows that are written over, for the walk of SummaryOwn.
-/
import Derived.Test.YtkdjfhbdcfjnnaaSwMixM
import Derived.Test.YtkdjfhbdcfjnnaaSwSame
namespace Go.Proofs.Ytkdjfhbdcfjnnaa
open Go.RowKit

/-- What Decode of a summary's block answers. -/
structure DecK (w : World) (m : Sm) (s : Nat) (e : Ending) (w' : World) (fa : Option Addr) (fc : Nat) (ia : Option Addr) (ic : Nat) (av : Nat → Value) (SB : Nat) : Prop where
  eq : e = .returned (.tuple #[.agg #[.int .i64 m.e, .int .i64 m.c, .int .i64 m.i, .int .i64 m.p, .int .i64 m.x, .slice fa m.fs.length fc, .slice ia m.is.length ic], .int .u32 (s : Nat), .int .i64 0])
  fo : Fo w' w.heap.size (.slice fa m.fs.length fc) av m.fs m.fs.length
  ino : w'.ownsRow SB IT 1 (.slice ia m.is.length ic) m.is.length (cellsI m.is)
  lt : ∀ i g, i < m.fs.length → (av i).ownBlock = some g → g < SB
  sep : SepAv av m.fs.length
  le : w.heap.size ≤ SB
theorem dec_enc {w w' : World} {m : Sm} {s : Nat} {e : Ending} {fa : Option Addr} {fc : Nat} {ia : Option Addr} {ic : Nat} {av : Nat → Value} {SB : Nat} (hm : chkM m = 0) (hs : s < 4294967296) (h : DecY w (encM m s) (gat (encM m s) 8) e w' fa fc ia ic av SB) : DecK w m s e w' fa fc ia ic av SB := by
  obtain ⟨hd, -, hsum⟩ := enc_back m s (good_of hm) hs
  unfold decM parM at hd
  obtain ⟨h1, h2, h3, h4, h5, h6⟩ := h
  generalize encM m s = E at *
  generalize gat E 8 = W at *
  obtain ⟨E0, C0, I0, P0, X0, fs, is⟩ := m
  injection hd with q1 q2 q3 q4 q5 q6 q7
  have n4 : at' W 4 = fs.length := by rw [← q6, filesM_len]
  have n5 : at' W 5 = is.length := by rw [← q7, inosM_len]
  rw [q6, n4] at h2
  rw [q7, n5] at h3
  rw [n4] at h4 h5
  refine ⟨?_, h2, h3, h4, h5, h6⟩
  rw [h1, q1, q2, q3, q4, q5, n4, n5, hsum]
theorem own_putI {W : World} {base g n cap : Nat} {X : List Int} (h : W.ownsRow base IT 1 (.slice (some ⟨g, 0, none⟩) n cap) n (cellsI X)) (i : Nat) (y : Int) : (W.setCell ⟨g, i, none⟩ (.int .i64 y)).ownsRow base IT 1 (.slice (some ⟨g, 0, none⟩) n cap) n (cellsI (X.set i y)) := by
  have hs : cellsI (X.set i y) = (cellsI X).set i (.int .i64 y) := by simp [cellsI, List.map_set]
  rcases h.2 with ⟨h1, _⟩ | ⟨g', c, cur, h1, h2, h3, h4, h5, h6, h7⟩
  · cases h1
  · cases h1
    have hB : Blo W g IT cur := h3
    refine ⟨by rw [hs, List.length_set]; exact h.1, .inr ⟨g, cap, cur.setIfInBounds i (.int .i64 y), rfl, h2, hB.put i _, h4, h5, by rw [Array.size_setIfInBounds]; exact h6, ?_⟩⟩
    rw [Array.toList_setIfInBounds, List.take_set, h7, hs]
theorem own_set {W : World} {base g n cap size : Nat} {e : TypeId} {X : List Value} (h : W.ownsRow base e size (.slice (some ⟨g, 0, none⟩) n cap) n X) (i : Nat) (y : Value) : (W.setCell ⟨g, i, none⟩ y).ownsRow base e size (.slice (some ⟨g, 0, none⟩) n cap) n (X.set i y) := by
  rcases h.2 with ⟨h1, _⟩ | ⟨g', c, cur, h1, h2, h3, h4, h5, h6, h7⟩
  · cases h1
  · cases h1
    have hB : Blo W g e cur := h3
    refine ⟨by rw [List.length_set]; exact h.1, .inr ⟨g, cap, cur.setIfInBounds i y, rfl, h2, hB.put i _, h4, h5, by rw [Array.size_setIfInBounds]; exact h6, ?_⟩⟩
    rw [Array.toList_setIfInBounds, List.take_set, h7]
theorem own_some {W : World} {base n cap size : Nat} {e : TypeId} {a : Option Addr} {X : List Value} (h : W.ownsRow base e size (.slice a n cap) n X) (hn : 0 < n) : ∃ g, a = some ⟨g, 0, none⟩ ∧ base ≤ g ∧ g < W.heap.size ∧ (∃ cs, Blo W g e cs) ∧ n ≤ cap := by
  rcases h.2 with ⟨h1, h2⟩ | ⟨g, c, cur, h1, h2, h3, h4, _⟩
  · omega
  · cases h1
    exact ⟨g, rfl, h2, (Array.getElem?_eq_some_iff.1 h3).1, ⟨cur, h3⟩, h4⟩
/-- A block of 128 bytes, whatever they are. -/
def B128 (w : World) (g : Nat) : Prop := ∃ arr : Array Value, (∀ i, i < 128 → ∃ n : Int, arr[i]? = some (.int .u8 n)) ∧ Blo w g U8 arr
theorem B128.put {w : World} {g : Nat} (h : B128 w g) (i : Nat) (n : Int) : B128 (w.setCell ⟨g, i, none⟩ (.int .u8 n)) g := by
  obtain ⟨arr, h1, h2⟩ := h
  refine ⟨arr.setIfInBounds i (.int .u8 n), fun j hj => ?_, h2.put i _⟩
  obtain ⟨k, hk⟩ := h1 j hj
  by_cases e : i = j
  · subst e
    have hlt := (Array.getElem?_eq_some_iff.1 hk).1
    exact ⟨n, by rw [Array.getElem?_setIfInBounds_self_of_lt hlt]⟩
  · exact ⟨k, by rw [Array.getElem?_setIfInBounds_ne e]; exact hk⟩
/-- A list of files of which those from k on stand yet. -/
def FoK (w : World) (base : Nat) (fa : Option Addr) (fc : Nat) (av : Nat → Value) (l : List Fi) (k : Nat) : Prop :=
  ∃ cs, w.ownsRow base FN 3 (.slice fa l.length fc) l.length cs ∧ ∀ i, k ≤ i → i < l.length → cs[i * 3 + 2]? = some (av i) ∧ w.ownsRow base IT 1 (av i) (l.getD i fi0).lb.length (cellsI (l.getD i fi0).lb)
theorem Fo.k {w : World} {base : Nat} {fa : Option Addr} {fc : Nat} {av : Nat → Value} {l : List Fi} (h : Fo w base (.slice fa l.length fc) av l l.length) : FoK w base fa fc av l 0 :=
  ⟨_, h.row, fun i _ hi => ⟨(flo_get l av hi).2.2, h.its i hi⟩⟩
theorem FoK.out {w w' : World} {X : Nat → Prop} {base k : Nat} {fa : Option Addr} {fc : Nat} {av : Nat → Value} {l : List Fi} (h : FoK w base fa fc av l k) (hb : Out X w w') (hX1 : ∀ g cs, X g → ¬ Blo w g FN cs) (hX2 : ∀ i g, k ≤ i → i < l.length → (av i).ownBlock = some g → ¬ X g) : FoK w' base fa fc av l k := by
  obtain ⟨cs, h1, h2⟩ := h
  refine ⟨cs, hb.own h1 (fun g e hx => ?_), fun i hk hi => ⟨(h2 i hk hi).1, hb.own (h2 i hk hi).2 (fun g e hx => hX2 i g hk hi e hx)⟩⟩
  obtain ⟨-, -, c, hc⟩ := oblo h1 e
  exact hX1 g c hx hc
theorem fok_next {wx z3 : World} {E : Obj} {base k n gf fc : Nat} {av : Nat → Value} {l : List Fi} {cs : List Value} {v v' : Value} {xs : List Value} (hr : wx.ownsRow base FN 3 (.slice (some ⟨gf, 0, none⟩) l.length fc) l.length cs)
    (hit : ∀ i, k + 1 ≤ i → i < l.length → cs[i * 3 + 2]? = some (av i) ∧ wx.ownsRow base IT 1 (av i) (l.getD i fi0).lb.length (cellsI (l.getD i fi0).lb)) (hj : wx.ownsRow base IT 1 v n xs) (hsep : ∀ i, k + 1 ≤ i → i < l.length → ∀ g, v.ownBlock = some g → (av i).ownBlock ≠ some g)
    (hg : (wx.drew.alloc E).grownBy z3 v.ownBlock) : z3.ownsRow base FN 3 (.slice (some ⟨gf, 0, none⟩) l.length fc) l.length cs ∧ FoK (z3.setCell ⟨gf, k * 3 + 2, none⟩ v') base (some ⟨gf, 0, none⟩) fc av l (k + 1) := by
  have hb : Below wx.heap.size wx (wx.drew.alloc E) := (Below.refl _ wx).drew.alloc (Nat.le_refl _) E
  have o1 : Out (fun g => v.ownBlock = some g) wx z3 := (Out.of_below hb).trans (Out.of_grown hg (fun g e => e)) (fun _ _ h => h)
  have hr3 : z3.ownsRow base FN 3 (.slice (some ⟨gf, 0, none⟩) l.length fc) l.length cs := o1.own hr (fun g e hx => by
    obtain ⟨-, -, c1, h1⟩ := oblo hr e
    obtain ⟨-, -, c2, h2⟩ := oblo hj hx
    exact h1.apart h2 (by decide) rfl)
  refine ⟨hr3, _, own_set hr3 (k * 3 + 2) v', fun i hk hi => ⟨?_, ?_⟩⟩
  · rw [List.getElem?_set_ne (by omega)]
    exact (hit i hk hi).1
  · have h3 : z3.ownsRow base IT 1 (av i) (l.getD i fi0).lb.length (cellsI (l.getD i fi0).lb) := o1.own (hit i hk hi).2 (fun g e hx => hsep i hk hi g hx e)
    obtain ⟨-, -, c1, h1⟩ := oblo hr3 (show (Value.slice (some ⟨gf, 0, none⟩) l.length fc).ownBlock = some gf from rfl)
    exact own_far h3 (p := ⟨gf, k * 3 + 2, none⟩) (h1.row_apart h3 (by decide)) v'
end Go.Proofs.Ytkdjfhbdcfjnnaa
