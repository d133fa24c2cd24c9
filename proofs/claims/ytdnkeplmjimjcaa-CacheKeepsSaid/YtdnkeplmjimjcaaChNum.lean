/-
  A cache's numbers: what its calls make of them. The cache as a list of blocks, the eldest use first.
-/
import Derived.Test.YtdnkeplmjimjcaaChPl
namespace Go.Proofs.Ytdnkeplmjimjcaa
open Go.RowKit

/-- A block of the cache, as the calls tell it. -/
structure Bk where
  key : Int × Int
  data : Nat → Nat
  dirty : Bool
  pins : Int
def bk (s : Bf) : Bk := ⟨keyB s, s.data, s.dirty, s.pins⟩
def goK (s : Bk) : Bool := !s.dirty && decide (s.pins = 0)
def findK (L : List Bk) (p : Int × Int) : Option Bk := L.find? fun s => decide (s.key = p)
def woK (L : List Bk) (p : Int × Int) : List Bk := L.filter fun s => decide (s.key ≠ p)
def setK (L : List Bk) (p : Int × Int) (g : Bk → Bk) : List Bk := L.map fun s => if s.key = p then g s else s
section
variable {room : Int} {N T T' : Nat} {S : Nat → Bf} {bs : List Nat} {ks : List (Int × Int)} {f : Int × Int → Option Nat} {uses : Int} {n b : Nat} {p : Int × Int} {s' : Bf}
theorem PS.nodup (hP : PS room N T S bs ks f uses n) : bs.Nodup := hP.srt.imp (fun h e => by rw [e] at h; omega)
theorem PS.inj (hP : PS room N T S bs ks f uses n) {c : Nat} (hb : b ∈ bs) (hc : c ∈ bs) (e : keyB (S b) = keyB (S c)) : b = c := by
  have h1 := (hP.key (keyB (S b)) b).2 ⟨hb, rfl⟩
  have h2 := (hP.key (keyB (S c)) c).2 ⟨hc, rfl⟩
  rw [e, h2] at h1
  cases h1
  rfl
theorem pair_upn {l : List Nat} (h : l.Pairwise fun b c => (S b).used < (S c).used) (hb : b ∉ l) : l.Pairwise fun c d => (upn S b s' c).used < (upn S b s' d).used := by
  refine List.Pairwise.imp_of_mem (fun {c d} hc hd h => ?_) h
  rw [upn_ne _ _ (fun e => hb (by rw [← e]; exact hc)), upn_ne _ _ (fun e => hb (by rw [← e]; exact hd))]
  exact h
theorem PS.use (hP : PS room N T S bs ks f uses n) (hb : b ∈ bs) (hk : keyB s' = keyB (S b)) (hu : s'.used = uses + 1) (hp : s'.pins = (S b).pins) (hT : T + 1 ≤ T') : PS room N T' (upn S b s') (bs.erase b ++ [b]) ks f (uses + 1) n := by
  have hN := hP.nodup
  have hmem : ∀ c, c ∈ bs.erase b ++ [b] ↔ c ∈ bs := fun c => by
    rw [List.mem_append, hN.mem_erase_iff, List.mem_singleton]
    by_cases e : c = b
    · rw [e]; simp [hb]
    · simp [e]
  have hnb : b ∉ bs.erase b := fun q => (hN.mem_erase_iff.1 q).1 rfl
  have hkey : ∀ c, keyB (upn S b s' c) = keyB (S c) := fun c => by
    by_cases e : c = b
    · rw [e, upn_at, hk]
    · rw [upn_ne _ _ e]
  have hl := List.length_erase_of_mem hb
  have hl0 := List.length_pos_of_mem hb
  refine ⟨?_, fun c hc => ?_, fun c hc => ?_, fun q c => ?_, ?_, fun c hc => ?_, ?_, ?_, hP.cnt⟩
  · rw [List.pairwise_append]
    refine ⟨pair_upn (List.Pairwise.sublist List.erase_sublist hP.srt) hnb, List.pairwise_singleton _ _, fun c hc d hd => ?_⟩
    obtain rfl : d = b := by simpa using hd
    have hc' := hN.mem_erase_iff.1 hc
    rw [upn_ne _ _ hc'.1, upn_at, hu]
    have := hP.top c hc'.2
    omega
  · by_cases e : c = b
    · rw [e, upn_at, hu]; omega
    · rw [upn_ne _ _ e]
      have := hP.top c ((hmem c).1 hc)
      omega
  · rw [hkey]; exact hP.wf c ((hmem c).1 hc)
  · rw [hmem, hkey]; exact hP.key q c
  · rw [hP.len]; simp; omega
  · have h0 := hP.pins c ((hmem c).1 hc)
    by_cases e : c = b
    · rw [e, upn_at, hp]; rw [e] at h0; omega
    · rw [upn_ne _ _ e]; omega
  · have := hP.rm
    simp; omega
  · have := hP.us
    omega
theorem PS.chg (hP : PS room N T S bs ks f uses n) (hb : b ∈ bs) (hk : keyB s' = keyB (S b)) (hu : s'.used = (S b).used) (hp : 0 ≤ s'.pins ∧ s'.pins ≤ (T' : Int)) (hT : T ≤ T') : PS room N T' (upn S b s') bs ks f uses n := by
  have hkey : ∀ c, keyB (upn S b s' c) = keyB (S c) := fun c => by
    by_cases e : c = b
    · rw [e, upn_at, hk]
    · rw [upn_ne _ _ e]
  have huse : ∀ c, (upn S b s' c).used = (S c).used := fun c => by
    by_cases e : c = b
    · rw [e, upn_at, hu]
    · rw [upn_ne _ _ e]
  refine ⟨hP.srt.imp (fun {c d} h => by rw [huse, huse]; exact h), fun c hc => by rw [huse]; exact hP.top c hc, fun c hc => by rw [hkey]; exact hP.wf c hc, fun q c => by rw [hkey]; exact hP.key q c, hP.len, fun c hc => ?_, hP.rm, ?_, hP.cnt⟩
  · by_cases e : c = b
    · rw [e, upn_at]; exact hp
    · rw [upn_ne _ _ e]
      have := hP.pins c hc
      omega
  · have := hP.us
    omega
theorem PS.drop (hP : PS room N T S bs ks f uses n) (hb : b ∈ bs) (hks : keyB (S b) ∈ ks) : PS room N T S (bs.erase b) (ks.erase (keyB (S b))) (updP f (keyB (S b)) none) uses n := by
  have hN := hP.nodup
  have hl := List.length_erase_of_mem hb
  have hl2 := List.length_erase_of_mem hks
  have hl0 := List.length_pos_of_mem hb
  refine ⟨List.Pairwise.sublist List.erase_sublist hP.srt, fun c hc => hP.top c (hN.mem_erase_iff.1 hc).2, fun c hc => hP.wf c (hN.mem_erase_iff.1 hc).2, fun q c => ?_, ?_, fun c hc => hP.pins c (hN.mem_erase_iff.1 hc).2, ?_, hP.us, hP.cnt⟩
  · rw [hN.mem_erase_iff]
    by_cases e : q = keyB (S b)
    · rw [e, updP_at]
      constructor
      · intro h; cases h
      · rintro ⟨⟨h1, h2⟩, h3⟩
        exact absurd (hP.inj h2 hb h3) h1
    · rw [updP_ne _ _ e, hP.key q c]
      constructor
      · rintro ⟨h1, h2⟩
        exact ⟨⟨fun q' => e (by rw [← h2, q']), h1⟩, h2⟩
      · rintro ⟨⟨h1, h2⟩, h3⟩
        exact ⟨h2, h3⟩
  · rw [hl, hl2, hP.len]
  · have := hP.rm
    omega
theorem PS.add (hP : PS room N T S bs ks f uses n) (hb : b ∉ bs) (hf : f p = none) (hks : p ∉ ks) (hk : keyB s' = p) (hw : wfK p) (hu : s'.used = uses + 1) (hp : s'.pins = 0) (hT : T + 1 ≤ T') (hr : (bs.length : Int) < room) {N' : Nat} (hN' : n + 1 ≤ N') :
    PS room N' T' (upn S b s') (bs ++ [b]) (addP ks p) (updP f p (some b)) (uses + 1) (n + 1) := by
  have hne : ∀ c, c ∈ bs → c ≠ b := fun c hc e => hb (by rw [← e]; exact hc)
  refine ⟨?_, fun c hc => ?_, fun c hc => ?_, fun q c => ?_, ?_, fun c hc => ?_, ?_, ?_, hN'⟩
  · rw [List.pairwise_append]
    refine ⟨pair_upn hP.srt hb, List.pairwise_singleton _ _, fun c hc d hd => ?_⟩
    obtain rfl : d = b := by simpa using hd
    rw [upn_ne _ _ (hne c hc), upn_at, hu]
    have := hP.top c hc
    omega
  · rcases List.mem_append.1 hc with h | h
    · rw [upn_ne _ _ (hne c h)]
      have := hP.top c h
      omega
    · obtain rfl : c = b := by simpa using h
      rw [upn_at, hu]; omega
  · rcases List.mem_append.1 hc with h | h
    · rw [upn_ne _ _ (hne c h)]; exact hP.wf c h
    · obtain rfl : c = b := by simpa using h
      rw [upn_at, hk]; exact hw
  · rw [List.mem_append, List.mem_singleton]
    by_cases e : q = p
    · rw [e, updP_at]
      constructor
      · intro h; cases h
        rw [upn_at]
        exact ⟨.inr rfl, hk⟩
      · rintro ⟨h1 | h1, h2⟩
        · rw [upn_ne _ _ (hne c h1)] at h2
          have := (hP.key p c).2 ⟨h1, h2⟩
          rw [hf] at this
          cases this
        · rw [h1]
    · rw [updP_ne _ _ e, hP.key q c]
      constructor
      · rintro ⟨h1, h2⟩
        rw [upn_ne _ _ (hne c h1)]
        exact ⟨.inl h1, h2⟩
      · rintro ⟨h1 | h1, h2⟩
        · rw [upn_ne _ _ (hne c h1)] at h2
          exact ⟨h1, h2⟩
        · rw [h1, upn_at, hk] at h2
          exact absurd h2.symm e
  · unfold addP
    rw [if_neg hks]
    simp [hP.len]
  · rcases List.mem_append.1 hc with h | h
    · rw [upn_ne _ _ (hne c h)]
      have := hP.pins c h
      omega
    · obtain rfl : c = b := by simpa using h
      rw [upn_at, hp]; omega
  · have := hP.rm
    simp; omega
  · have := hP.us
    omega
/-- The list of a cache's blocks. -/
def lstK (S : Nat → Bf) (bs : List Nat) : List Bk := bs.map fun b => bk (S b)
theorem find_lst (hP : PS room N T S bs ks f uses n) (p : Int × Int) : findK (lstK S bs) p = (f p).map fun b => bk (S b) := by
  unfold findK lstK
  rw [List.find?_map]
  cases hf : f p with
  | none =>
    rw [show bs.find? ((fun s : Bk => decide (s.key = p)) ∘ fun b => bk (S b)) = none from List.find?_eq_none.2 (fun c hc => ?_)]
    intro e
    have e : keyB (S c) = p := of_decide_eq_true e
    have := (hP.key p c).2 ⟨hc, e⟩
    rw [hf] at this
    cases this
  | some b =>
    obtain ⟨hb, hk⟩ := (hP.key p b).1 hf
    cases hq : bs.find? ((fun s : Bk => decide (s.key = p)) ∘ fun b => bk (S b)) with
    | none =>
      have := List.find?_eq_none.1 hq b hb
      simp [bk, hk] at this
    | some c =>
      have h1 := List.find?_some hq
      have h2 := List.mem_of_find?_eq_some hq
      simp [bk] at h1
      have := (hP.key p c).2 ⟨h2, h1⟩
      rw [hf] at this
      cases this
      rfl
theorem lst_erase (hP : PS room N T S bs ks f uses n) (hb : b ∈ bs) : lstK S (bs.erase b) = woK (lstK S bs) (keyB (S b)) := by
  unfold woK lstK
  rw [List.filter_map, hP.nodup.erase_eq_filter]
  congr 1
  apply List.filter_congr
  intro c hc
  simp only [Function.comp, bk]
  by_cases e : c = b
  · simp [e]
  · have : keyB (S c) ≠ keyB (S b) := fun q => e (hP.inj hc hb q)
    simp [e, this]
theorem lst_upn (s' : Bf) {l : List Nat} (hb : b ∉ l) : lstK (upn S b s') l = lstK S l := by
  unfold lstK
  apply List.map_congr_left
  intro c hc
  rw [upn_ne _ _ (fun e => hb (by rw [← e]; exact hc))]
theorem lst_use (hP : PS room N T S bs ks f uses n) (hb : b ∈ bs) (s' : Bf) : lstK (upn S b s') (bs.erase b ++ [b]) = woK (lstK S bs) (keyB (S b)) ++ [bk s'] := by
  rw [← lst_erase hP hb, ← lst_upn (b := b) s' (fun q => (hP.nodup.mem_erase_iff.1 q).1 rfl)]
  unfold lstK
  rw [List.map_append]
  simp [upn_at]
theorem lst_set (hP : PS room N T S bs ks f uses n) (hb : b ∈ bs) (s' : Bf) (g : Bk → Bk) (hg : g (bk (S b)) = bk s') : lstK (upn S b s') bs = setK (lstK S bs) (keyB (S b)) g := by
  unfold setK lstK
  rw [List.map_map]
  apply List.map_congr_left
  intro c hc
  show bk (upn S b s' c) = if keyB (S c) = keyB (S b) then g (bk (S c)) else bk (S c)
  by_cases e : c = b
  · rw [e, upn_at, if_pos rfl, hg]
  · rw [upn_ne _ _ e, if_neg (fun q => e (hP.inj hc hb q))]
theorem lst_add (hb : b ∉ bs) (s' : Bf) : lstK (upn S b s') (bs ++ [b]) = lstK S bs ++ [bk s'] := by
  rw [← lst_upn (b := b) s' hb]
  unfold lstK
  rw [List.map_append]
  simp [upn_at]
/-- The first that may go is the one whose use is the eldest. -/
theorem lst_go (hP : PS room N T S bs ks f uses n) (hb : b ∈ bs) (hg : goesB (S b) = true) (hmin : ∀ c, c ∈ bs → goesB (S c) = true → (S b).used ≤ (S c).used) : (lstK S bs).find? goK = some (bk (S b)) := by
  unfold lstK
  rw [List.find?_map]
  cases hq : bs.find? (goK ∘ fun b => bk (S b)) with
  | none =>
    have := List.find?_eq_none.1 hq b hb
    exact absurd hg this
  | some c =>
    have h1 : (goK ∘ fun b => bk (S b)) c = true := List.find?_some hq
    have h1 : goesB (S c) = true := h1
    have h2 := List.mem_of_find?_eq_some hq
    have h3 := hmin c h2 h1
    have h4 : c = b := by
      obtain ⟨l1, l2, e1, e2⟩ := List.find?_eq_some_iff_append.1 hq |>.2
      by_cases e : c = b
      · exact e
      · have hsr := hP.srt
        rw [e1] at hb hsr
        rw [List.pairwise_append] at hsr
        rcases List.mem_append.1 hb with q | q
        · have h5 : (!goesB (S b)) = true := e2 b q
          rw [hg] at h5
          cases h5
        · rcases List.mem_cons.1 q with q | q
          · exact q.symm
          · have := (List.pairwise_cons.1 hsr.2.1).1 b q
            omega
    rw [h4]; rfl
theorem lst_nogo (h : ∀ c, c ∈ bs → goesB (S c) = false) : (lstK S bs).find? goK = none := by
  unfold lstK
  rw [List.find?_map, List.find?_eq_none.2 (fun c hc => ?_)]
  · rfl
  · have := h c hc
    simp only [Function.comp]
    show ¬ goesB (S c) = true
    rw [this]
    decide
end
end Go.Proofs.Ytdnkeplmjimjcaa
