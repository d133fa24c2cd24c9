/-
  EntryReads.
-/
import Derived.Test.YtagigeacjendiaaEnOneL
import Derived.Test.YtagigeacjendiaaEnReadN
import Derived.Test.YtagigeacjendiaaEnRefN
namespace Go.Proofs.Ytagigeacjendiaa
open Go.RowKit Go.BigFrame

set_option maxRecDepth 100000 in
set_option maxHeartbeats 2000000 in
theorem rreadDir_len (a : Option Addr) (n cap : Nat) (w : World) (hn : n ≠ 64) : Calls Try.prog 19 #[.slice a n cap] w fun e w' => e = .returned (.tuple #[.agg z8d, .int .i64 100]) ∧ Below w.heap.size w w' := by
  have n1 : ¬ (n : Int) = 64 := by omega
  have h2 := (blo_laid w R4T z8d).alloc (.cells z8d R4T)
  have hb := ((Below.refl w.heap.size w).alloc (Nat.le_refl _) (.cells z8d R4T)).alloc (by simp) (.cells z8d R4T)
  have h4 := blo_laid (w.alloc (.cells z8d R4T)) R4T z8d
  rw [show (w.alloc (.cells z8d R4T)).heap.size = w.heap.size + 1 by simp] at h4
  have H2 := Lib.hid h2
  have H4 := Lib.hid h4
  have HB := Lib.hid hb
  clear h2 h4 hb hn
  have hui := Try.underlying44
  have HII : Hid ((Try.prog.info? R4T).map (·.size) = some z8d.size) := info_r4 (fun _ => 0) (fun _ => ⟨#[]⟩)
  have HOne := Lib.hid z8d_one
  go_enter Try.func19, Try.ntmps19
  go_wp2_with (first | (refine wpList_load_row rfl R4T (.tmp 4) rfl (w.heap.size + 1) rfl R4T z8d (0, 0) _ H4.out hui rfl HII.out ?_) | (refine wpList_store_row rfl R4T (.tmp 2) (.tmp 12) rfl w.heap.size z8d rfl rfl R4T _ H2.out HII.out rfl HOne.out ?_))
  have hrow := setRow_heap ((w.alloc (.cells z8d R4T)).alloc (.cells z8d R4T)) w.heap.size _ z8d _ _ H2.out
  refine bodyPost_ret (v := .tuple #[.agg z8d, .int .i64 100]) ?_ rfl ⟨rfl, below_setRow HB.out (Nat.le_refl _) _⟩
  have hld := run_loadVar_row _ _ R4T R4T z8d (0, 0) _ hrow hui rfl HII.out
  simp [results, Try.results19, asAddr]
  exact congrArg (fun r => Result.andThen r (fun a w' => Result.ok (Value.tuple #[a, .int .i64 100]) w')) hld
/-! What reading answers of any bytes. -/
open Classical in
noncomputable def mA (l : List Nat) (i : Nat) : Int := if l.length = 64 ∧ OkM l then rdA l i else 0
open Classical in
noncomputable def mV (l : List Nat) (i : Nat) : Int := if l.length = 64 ∧ OkM l then rdV l i else 0
open Classical in
noncomputable def mC (l : List Nat) : Int := if l.length = 64 ∧ OkM l then 0 else 100
open Classical in
noncomputable def dI (l : List Nat) (i : Nat) : Int := if l.length = 64 ∧ OkD l then rdI l i else 0
open Classical in
noncomputable def dN (l : List Nat) (i : Nat) : ByteArray := if l.length = 64 ∧ OkD l then rdN l i else ⟨#[]⟩
open Classical in
noncomputable def dC (l : List Nat) : Int := if l.length = 64 ∧ OkD l then 0 else 100
theorem m_yes {l : List Nat} (h : l.length = 64 ∧ OkM l) : cells16 (mA l) (mV l) = cells16 (rdA l) (rdV l) ∧ mC l = 0 := by
  refine ⟨cells16_ext fun i _ => ⟨?_, ?_⟩, ?_⟩
  · unfold mA; rw [if_pos h]
  · unfold mV; rw [if_pos h]
  · unfold mC; rw [if_pos h]
theorem m_no {l : List Nat} (h : ¬ (l.length = 64 ∧ OkM l)) : cells16 (mA l) (mV l) = z16 ∧ mC l = 100 := by
  refine ⟨cells16_ext fun i _ => ⟨?_, ?_⟩, ?_⟩
  · unfold mA; rw [if_neg h]
  · unfold mV; rw [if_neg h]
  · unfold mC; rw [if_neg h]
theorem d_yes {l : List Nat} (h : l.length = 64 ∧ OkD l) : cells8 (dI l) (dN l) = cells8 (rdI l) (rdN l) ∧ dC l = 0 := by
  refine ⟨cells8_congr fun i _ => ⟨?_, ?_⟩, ?_⟩
  · unfold dI; rw [if_pos h]
  · unfold dN; rw [if_pos h]
  · unfold dC; rw [if_pos h]
theorem d_no {l : List Nat} (h : ¬ (l.length = 64 ∧ OkD l)) : cells8 (dI l) (dN l) = z8d ∧ dC l = 100 := by
  refine ⟨(cells8_congr (I' := fun _ => 0) (N' := fun _ => ⟨#[]⟩) fun i _ => ⟨?_, ?_⟩).trans rfl, ?_⟩
  · unfold dI; rw [if_neg h]
  · unfold dN; rw [if_neg h]
  · unfold dC; rw [if_neg h]
theorem some_of {w : World} {a : Option Addr} {l : List Nat} (h : Bytes w a l) (hl : l.length = 64) : ∃ b o, a = some ⟨b, o, none⟩ := by
  obtain ⟨b, o, e, _⟩ := h.2.2 (fun e => by rw [e] at hl; cases hl)
  exact ⟨b, o, e⟩
theorem readMap_all (a : Option Addr) (n cap : Nat) (l : List Nat) (w : World) (hn : n = l.length) (hc : n ≤ cap) (h : Bytes w a l) : Calls Try.prog 13 #[.slice a n cap] w fun e w' => e = .returned (.tuple #[.agg (cells16 (mA l) (mV l)), .int .i64 (mC l)]) ∧ Below w.heap.size w w' := by
  by_cases h64 : l.length = 64
  · obtain ⟨b, o, rfl⟩ := some_of h h64
    have e64 : n = 64 := hn.trans h64
    subst e64
    refine (readMap_64 b o cap l w h64 hc h).mono fun e w' ⟨h1, h2⟩ => ⟨?_, h2⟩
    rcases h1 with ⟨ok, he⟩ | ⟨no, he⟩
    · rw [he, (m_yes ⟨h64, ok⟩).1, (m_yes ⟨h64, ok⟩).2]
    · rw [he, (m_no (fun hh => no hh.2)).1, (m_no (fun hh => no hh.2)).2]
  · have hno : ¬ (l.length = 64 ∧ OkM l) := fun hh => h64 hh.1
    rw [(m_no hno).1, (m_no hno).2]
    exact readMap_len a n cap w (by omega)
theorem rreadMap_all (a : Option Addr) (n cap : Nat) (l : List Nat) (w : World) (hn : n = l.length) (h : Bytes w a l) : Calls Try.prog 18 #[.slice a n cap] w fun e w' => e = .returned (.tuple #[.agg (cells16 (mA l) (mV l)), .int .i64 (mC l)]) ∧ Below w.heap.size w w' := by
  by_cases h64 : l.length = 64
  · obtain ⟨b, o, rfl⟩ := some_of h h64
    have e64 : n = 64 := hn.trans h64
    subst e64
    refine (rreadMap_64 b o cap l w h64 h).mono fun e w' ⟨h1, h2⟩ => ⟨?_, h2⟩
    rcases h1 with ⟨ok, he⟩ | ⟨no, he⟩
    · rw [he, (m_yes ⟨h64, ok⟩).1, (m_yes ⟨h64, ok⟩).2]
    · rw [he, (m_no (fun hh => no hh.2)).1, (m_no (fun hh => no hh.2)).2]
  · have hno : ¬ (l.length = 64 ∧ OkM l) := fun hh => h64 hh.1
    rw [(m_no hno).1, (m_no hno).2]
    exact rreadMap_len a n cap w (by omega)
theorem readDir_all (a : Option Addr) (n cap : Nat) (l : List Nat) (w : World) (hn : n = l.length) (hc : n ≤ cap) (h : Bytes w a l) : Calls Try.prog 17 #[.slice a n cap] w fun e w' => e = .returned (.tuple #[.agg (cells8 (dI l) (dN l)), .int .i64 (dC l)]) ∧ Below w.heap.size w w' := by
  by_cases h64 : l.length = 64
  · obtain ⟨b, o, rfl⟩ := some_of h h64
    have e64 : n = 64 := hn.trans h64
    subst e64
    refine (readDir_64 b o cap l w h64 hc h).mono fun e w' ⟨h1, h2⟩ => ⟨?_, h2⟩
    rcases h1 with ⟨ok, he⟩ | ⟨no, he⟩
    · rw [he, (d_yes ⟨h64, ok⟩).1, (d_yes ⟨h64, ok⟩).2]
    · rw [he, (d_no (fun hh => no hh.2)).1, (d_no (fun hh => no hh.2)).2]
  · have hno : ¬ (l.length = 64 ∧ OkD l) := fun hh => h64 hh.1
    rw [(d_no hno).1, (d_no hno).2]
    exact readDir_len a n cap w (by omega)
theorem rreadDir_all (a : Option Addr) (n cap : Nat) (l : List Nat) (w : World) (hn : n = l.length) (hc : n ≤ cap) (h : Bytes w a l) : Calls Try.prog 19 #[.slice a n cap] w fun e w' => e = .returned (.tuple #[.agg (cells8 (dI l) (dN l)), .int .i64 (dC l)]) ∧ Below w.heap.size w w' := by
  by_cases h64 : l.length = 64
  · obtain ⟨b, o, rfl⟩ := some_of h h64
    have e64 : n = 64 := hn.trans h64
    subst e64
    refine (rreadDir_64 b o cap l w h64 hc h).mono fun e w' ⟨h1, h2⟩ => ⟨?_, h2⟩
    rcases h1 with ⟨ok, he⟩ | ⟨no, he⟩
    · rw [he, (d_yes ⟨h64, ok⟩).1, (d_yes ⟨h64, ok⟩).2]
    · rw [he, (d_no (fun hh => no hh.2)).1, (d_no (fun hh => no hh.2)).2]
  · have hno : ¬ (l.length = 64 ∧ OkD l) := fun hh => h64 hh.1
    rw [(d_no hno).1, (d_no hno).2]
    exact rreadDir_len a n cap w (by omega)
theorem m_fit {l : List Nat} (hb : ∀ x ∈ l, x < 256) : Fit8 (mA l) (mV l) := fun i _ => by
  have h0 := getD_byte hb (i * 8)
  have h1 := getD_byte hb (i * 8 + 1)
  have h2 := getD_byte hb (i * 8 + 2)
  have h3 := getD_byte hb (i * 8 + 3)
  have h4 := getD_byte hb (i * 8 + 4)
  have h5 := getD_byte hb (i * 8 + 5)
  unfold mA mV rdA rdV b4 b2 FitZ
  rw [show i * 8 + 4 + 1 = i * 8 + 5 by omega]
  split <;> omega
theorem d_fit {l : List Nat} (hb : ∀ x ∈ l, x < 256) : FitD (dI l) (dN l) := fun i hi => by
  by_cases h : l.length = 64 ∧ OkD l
  · have := rd_fit h.1 hb i hi
    unfold dI dN
    rw [if_pos h, if_pos h]
    exact this
  · unfold dI dN
    rw [if_neg h, if_neg h]
    exact ⟨⟨by decide, by decide⟩, by decide⟩
theorem m_back {l : List Nat} (hc : mC l = 0) : l.length = 64 ∧ ∀ W, Calls Try.prog 10 #[.agg (cells16 (mA l) (mV l))] W fun e w' => (∃ a c, e = .returned (.tuple #[.slice a 64 c, .int .i64 0]) ∧ Bytes w' a l) ∧ Below W.heap.size W w' := by
  have h : l.length = 64 ∧ OkM l := Classical.byContradiction fun hn => by rw [(m_no hn).2] at hc; cases hc
  refine ⟨h.1, fun W => ?_⟩
  rw [(m_yes h).1]
  refine (mapBlock_any (rdA l) (rdV l) W).mono fun e w' ⟨h1, h2⟩ => ⟨?_, h2⟩
  rcases h1 with ⟨_, a, cap, he, ho⟩ | ⟨no, _⟩
  · obtain ⟨a', cap', hva, -, hby, -⟩ := Bytes.own ho (encK_byte _ _ 8)
    cases hva
    rw [h.2.2] at hby
    exact ⟨a, cap, he, hby⟩
  · exact absurd h.2.1 no
theorem d_back {l : List Nat} (hb : ∀ x ∈ l, x < 256) (hc : dC l = 0) : l.length = 64 ∧ ∀ W, Calls Try.prog 14 #[.agg (cells8 (dI l) (dN l))] W fun e w' => (∃ a c, e = .returned (.tuple #[.slice a 64 c, .int .i64 0]) ∧ Bytes w' a l) ∧ Below W.heap.size W w' := by
  have h : l.length = 64 ∧ OkD l := Classical.byContradiction fun hn => by rw [(d_no hn).2] at hc; cases hc
  refine ⟨h.1, fun W => ?_⟩
  rw [(d_yes h).1]
  refine (dirBlock_any (rdI l) (rdN l) W (rd_fit h.1 hb)).mono fun e w' ⟨h1, h2⟩ => ⟨?_, h2⟩
  rcases h1 with ⟨_, a, cap, he, ho⟩ | ⟨no, _⟩
  · obtain ⟨a', cap', hva, -, hby, -⟩ := Bytes.own ho (encDK_byte _ _ 4)
    cases hva
    rw [h.2.2] at hby
    exact ⟨a, cap, he, hby⟩
  · exact absurd h.2.1 no
theorem mC_01 (l : List Nat) : mC l = 0 ∨ mC l = 100 := by unfold mC; split; exact .inl rfl; exact .inr rfl
theorem dC_01 (l : List Nat) : dC l = 0 ∨ dC l = 100 := by unfold dC; split; exact .inl rfl; exact .inr rfl
/-! The document's arrays held against themselves. -/
theorem cells_rme : Try.prog.cellsOf 32 = 2 := by kernel_rfl
theorem cells_r8 : Try.prog.cellsOf R8T = 16 := by kernel_rfl
theorem key_r8 : Try.prog.keyTypeAt 4 R8T = true := by kernel_rfl
theorem cells_rde : Try.prog.cellsOf RDE = 2 := by kernel_rfl
theorem cells_r4 : Try.prog.cellsOf R4T = 8 := by kernel_rfl
theorem key_r4 : Try.prog.keyTypeAt 4 R4T = true := by kernel_rfl
set_option maxHeartbeats 2000000 in
theorem r8_lits (A V : Nat → Int) (h : Fit8 A V) : Try.prog.keyLits 4 R8T (cells16 A V).toList = some (lits16 A V) := by
  have wa := fun i hi => wf_i64 _ (h i hi).1
  have wv := fun i hi => wf_i64 _ (h i hi).2
  have a0 := wa 0 (by decide)
  have a1 := wa 1 (by decide)
  have a2 := wa 2 (by decide)
  have a3 := wa 3 (by decide)
  have a4 := wa 4 (by decide)
  have a5 := wa 5 (by decide)
  have a6 := wa 6 (by decide)
  have a7 := wa 7 (by decide)
  have v0 := wv 0 (by decide)
  have v1 := wv 1 (by decide)
  have v2 := wv 2 (by decide)
  have v3 := wv 3 (by decide)
  have v4 := wv 4 (by decide)
  have v5 := wv 5 (by decide)
  have v6 := wv 6 (by decide)
  have v7 := wv 7 (by decide)
  simp [cells16, lits16, Program.keyLits, Try.underlying33, Try.underlying32, Try.underlying3, cells_int, cells_rme, cells_r8, List.range, List.range.loop, a0, a1, a2, a3, a4, a5, a6, a7, v0, v1, v2, v3, v4, v5, v6, v7]
set_option maxHeartbeats 2000000 in
theorem r4_lits (I : Nat → Int) (N : Nat → ByteArray) (h : FitD I N) : Try.prog.keyLits 4 R4T (cells8 I N).toList = some (lits8 I N) := by
  have s0 := (h 0 (by decide)).2
  have s1 := (h 1 (by decide)).2
  have s2 := (h 2 (by decide)).2
  have s3 := (h 3 (by decide)).2
  have b0 := (h 0 (by decide)).1
  have b1 := (h 1 (by decide)).1
  have b2 := (h 2 (by decide)).1
  have b3 := (h 3 (by decide)).1
  have c0 : IntKind.i64.min ≤ I 0 ∧ I 0 ≤ 9223372036854775807 := ⟨b0.1, b0.2⟩
  have c1 : IntKind.i64.min ≤ I 1 ∧ I 1 ≤ 9223372036854775807 := ⟨b1.1, b1.2⟩
  have c2 : IntKind.i64.min ≤ I 2 ∧ I 2 ≤ 9223372036854775807 := ⟨b2.1, b2.2⟩
  have c3 : IntKind.i64.min ≤ I 3 ∧ I 3 ≤ 9223372036854775807 := ⟨b3.1, b3.2⟩
  simp [cells8, lits8, Program.keyLits, Try.underlying44, Try.underlying43, Try.underlying3, Try.underlying9, cells_int, cells_strd, cells_rde, cells_r4, List.range, List.range.loop, Lit.wf, c0, c1, c2, c3, s0, s1, s2, s3]
theorem neq_of {T : TypeId} {cs : Array Value} (h : ∀ W, (Op.equalIn 10000 T (.agg cs) (.agg cs)).run Try.prog W = .ok true W) : ∀ W, (binOp .neq T (.agg cs) (.agg cs)).run Try.prog W = .ok (.bool false) W := fun W => by
  have h := h W
  rw [show (10000 : Nat) = Op.maxDepth from rfl] at h
  simp [binOp, Op.equal, h]
theorem neq_r8 (A V : Nat → Int) (h : Fit8 A V) : ∀ W, (binOp .neq R8T (.agg (cells16 A V)) (.agg (cells16 A V))).run Try.prog W = .ok (.bool false) W := neq_of fun W => by
  obtain ⟨r, hr, hiff⟩ := run_equalIn_deep (P := Try.prog) 9996 4 R8T key_r8 W 4 4 (.agg (cells16 A V)) (.agg (cells16 A V)) _ _ (by simp [Value.formed, Try.underlying33, cells_r8, cells16]) (by simp [Value.formed, Try.underlying33, cells_r8, cells16]) (r8_lits A V h) (r8_lits A V h)
  have e : r = true := hiff.2 rfl
  rw [e] at hr
  exact hr
theorem neq_r4 (I : Nat → Int) (N : Nat → ByteArray) (h : FitD I N) : ∀ W, (binOp .neq R4T (.agg (cells8 I N)) (.agg (cells8 I N))).run Try.prog W = .ok (.bool false) W := neq_of fun W => by
  obtain ⟨r, hr, hiff⟩ := run_equalIn_deep (P := Try.prog) 9996 4 R4T key_r4 W 4 4 (.agg (cells8 I N)) (.agg (cells8 I N)) _ _ (by simp [Value.formed, Try.underlying44, cells_r4, cells8]) (by simp [Value.formed, Try.underlying44, cells_r4, cells8]) (r4_lits I N h) (r4_lits I N h)
  have e : r = true := hiff.2 rfl
  rw [e] at hr
  exact hr
theorem stored (w : World) (T : TypeId) (z cs : Array Value) : Blo ((w.alloc (.cells z T)).setRow w.heap.size cs) w.heap.size T cs ∧ Below w.heap.size w ((w.alloc (.cells z T)).setRow w.heap.size cs) :=
  ⟨setRow_heap _ w.heap.size _ _ _ _ (blo_laid w T z), below_setRow (sup_en w (.cells z T)) (Nat.le_refl _) _⟩
end Go.Proofs.Ytagigeacjendiaa
