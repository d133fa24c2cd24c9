/-
  The fixed fact of the entries' statements.
-/
import Derived.Test.YtagigeacjendiaaEnReadZ
import Derived.DeepKeys
namespace Go.Proofs.Ytagigeacjendiaa
open Go.RowKit

theorem okZ : OkM (zK 4) := by
  unfold OkM AllG GoodM
  refine ⟨fun i hi => ?_, by decide⟩
  have : i = 0 ∨ i = 1 ∨ i = 2 ∨ i = 3 ∨ i = 4 ∨ i = 5 ∨ i = 6 ∨ i = 7 := by omega
  rcases this with rfl | rfl | rfl | rfl | rfl | rfl | rfl | rfl <;> decide
theorem cellsZ : cells16 (rdA (zK 4)) (rdV (zK 4)) = z16 := by
  have h : ∀ i, i < 8 → rdA (zK 4) i = 0 ∧ rdV (zK 4) i = 0 := fun i hi => by
    have : i = 0 ∨ i = 1 ∨ i = 2 ∨ i = 3 ∨ i = 4 ∨ i = 5 ∨ i = 6 ∨ i = 7 := by omega
    rcases this with rfl | rfl | rfl | rfl | rfl | rfl | rfl | rfl <;> decide
  unfold cells16
  rw [(h 0 (by decide)).1, (h 0 (by decide)).2, (h 1 (by decide)).1, (h 1 (by decide)).2, (h 2 (by decide)).1, (h 2 (by decide)).2, (h 3 (by decide)).1, (h 3 (by decide)).2, (h 4 (by decide)).1, (h 4 (by decide)).2, (h 5 (by decide)).1, (h 5 (by decide)).2, (h 6 (by decide)).1, (h 6 (by decide)).2, (h 7 (by decide)).1, (h 7 (by decide)).2]
  rfl
theorem readMapZ (b o cap : Nat) (w : World) (hcap : 64 ≤ cap) (h : Bytes w (some ⟨b, o, none⟩) (zK 4)) : Calls Try.prog 13 #[.slice (some ⟨b, o, none⟩) 64 cap] w fun e w' => e = .returned (.tuple #[.agg z16, .int .i64 0]) ∧ Below w.heap.size w w' :=
  (readMap_64 b o cap (zK 4) w (by decide) hcap h).mono fun e w' ⟨h1, h2⟩ => by
    rcases h1 with ⟨_, he⟩ | ⟨hno, _⟩
    · exact ⟨by rw [he, cellsZ], h2⟩
    · exact absurd okZ hno
theorem name_dd (w : World) : Calls Try.prog 20 #[.string ⟨#[46, 46]⟩] w fun e w' => e = .returned (.int .i64 22) ∧ Below w.heap.size w w' := by
  go_enter Try.func20, Try.ntmps20
  go_wp2
  go_ret
  exact ⟨rfl, Below.refl _ _⟩
theorem mapBlockZ (w : World) : Calls Try.prog 10 #[.agg z16] w fun e w' => (∃ a cap, e = .returned (.tuple #[.slice a 64 cap, .int .i64 0])) ∧ Below w.heap.size w w' :=
  (mapBlock_any (fun _ => 0) (fun _ => 0) w).mono fun e w' ⟨h1, h2⟩ => by
    rcases h1 with ⟨_, a, cap, he, _⟩ | ⟨hno, _⟩
    · exact ⟨⟨a, cap, he⟩, h2⟩
    · exact absurd (fun i _ => show GoodM 0 0 by decide) hno
theorem run_make6464 : ∀ W : World, (Instr.makeSlice 26 (.int .i64 64) (.int .i64 64)).run Try.prog W = .ok (.slice (some ⟨W.heap.size, 0, none⟩) 64 64) (W.alloc (.cells (Array.replicate 64 (.int .u8 0)) U8)) := fun _ => by kernel_rfl
theorem bytesZ (w : World) : Bytes (w.alloc (.cells (Array.replicate 64 (.int .u8 0)) U8)) (some ⟨w.heap.size, 0, none⟩) (zK 4) :=
  ⟨by unfold zK; simp, by decide, fun _ => ⟨w.heap.size, 0, rfl, fun i hi => by
    have hz : (zK 4).getD i 0 = 0 := by unfold zK; rw [List.getD_eq_getElem?_getD, List.getElem?_replicate]; split <;> rfl
    have hi' : i < 64 := by unfold zK at hi; simpa using hi
    rw [hz, Nat.zero_add, (blo_laid w U8 _).cell i, Array.getElem?_replicate, if_pos hi']; rfl⟩⟩
theorem eql_z16 : ∀ W : World, (binOp .eql A8T (.agg z16) (.agg z16)).run Try.prog W = .ok (.bool true) W := fun _ => by kernel_rfl
theorem eql_z8d : ∀ W : World, (binOp .eql A4D (.agg z8d) (.agg z8d)).run Try.prog W = .ok (.bool true) W := fun _ => by kernel_rfl
set_option maxRecDepth 100000 in
set_option maxHeartbeats 2000000 in
theorem awake_any (w : World) : Calls Try.prog 9 #[] w fun e w' => e = .returned (.bool true) ∧ Below w.heap.size w w' := by
  have hmk := run_make6464
  have HY := Lib.hid (bytesZ w)
  have HB := Lib.hid (sup_en w (.cells (Array.replicate 64 (.int .u8 0)) U8))
  have hu1 := Try.underlying24
  have hu2 := Try.underlying40
  have HI1 : Hid ((Try.prog.info? A8T).map (·.size) = some z16.size) := info_a8 _ _
  have HI2 : Hid ((Try.prog.info? A4D).map (·.size) = some z8d.size) := info_a4
  have HO1 := Lib.hid (cells16_one (fun _ => 0) (fun _ => 0))
  have HO2 := Lib.hid z8d_one
  go_enter Try.func9, Try.ntmps9
  go_wp2_with fail
  refine (readMapZ _ 0 64 _ (by decide) HY.out).mono ?_
  rintro e w1 ⟨rfl, hb1⟩
  have HB1 := Lib.hid (HB.out.trans (hb1.mono HB.out.size))
  clear hb1 HB HY
  have hz1 := blo_laid w1 A8T z16
  go_wp2_with (refine wpList_store_row rfl A8T (.tmp 1) (.tmp 10) rfl w1.heap.size z16 rfl rfl A8T _ hz1 HI1.out rfl HO1.out ?_)
  have HM2 : Hid (Blo ((w1.alloc (.cells #[.int .i64 0, .int .i64 0, .int .i64 0, .int .i64 0, .int .i64 0, .int .i64 0, .int .i64 0, .int .i64 0, .int .i64 0, .int .i64 0, .int .i64 0, .int .i64 0, .int .i64 0, .int .i64 0, .int .i64 0, .int .i64 0] 24)).setRow w1.heap.size z16) w1.heap.size A8T z16) := setRow_heap _ w1.heap.size _ _ _ _ hz1
  have HB2 : Hid (Below w.heap.size w ((w1.alloc (.cells #[.int .i64 0, .int .i64 0, .int .i64 0, .int .i64 0, .int .i64 0, .int .i64 0, .int .i64 0, .int .i64 0, .int .i64 0, .int .i64 0, .int .i64 0, .int .i64 0, .int .i64 0, .int .i64 0, .int .i64 0, .int .i64 0] 24)).setRow w1.heap.size z16)) := below_setRow (HB1.out.trans ((sup_en w1 _).mono HB1.out.size)) HB1.out.size _
  have HS2 : Hid (((w1.alloc (.cells #[.int .i64 0, .int .i64 0, .int .i64 0, .int .i64 0, .int .i64 0, .int .i64 0, .int .i64 0, .int .i64 0, .int .i64 0, .int .i64 0, .int .i64 0, .int .i64 0, .int .i64 0, .int .i64 0, .int .i64 0, .int .i64 0] 24)).setRow w1.heap.size z16).heap.size = w1.heap.size + 1) := Lib.hid (by simp [World.setRow])
  clear hz1 HB1
  generalize (w1.alloc (.cells #[.int .i64 0, .int .i64 0, .int .i64 0, .int .i64 0, .int .i64 0, .int .i64 0, .int .i64 0, .int .i64 0, .int .i64 0, .int .i64 0, .int .i64 0, .int .i64 0, .int .i64 0, .int .i64 0, .int .i64 0, .int .i64 0] 24)).setRow w1.heap.size z16 = w2 at *
  rw [← HS2.out]
  clear HS2
  generalize w1.heap.size = g1 at *
  have HY := Lib.hid (bytesZ w2)
  have hb3 := sup_en w2 (.cells (Array.replicate 64 (.int .u8 0)) U8)
  have HM3 := Lib.hid (HM2.out.later hb3)
  have HB3 := Lib.hid (HB2.out.trans (hb3.mono HB2.out.size))
  clear hb3 HM2 HB2
  refine (readDirZ _ 0 64 _ (by decide) HY.out).mono ?_
  rintro e w4 ⟨rfl, hb4⟩
  have HM4 := Lib.hid (HM3.out.later hb4)
  have HB4 := Lib.hid (HB3.out.trans (hb4.mono HB3.out.size))
  clear hb4 HB3 HY HM3
  have hz4 := blo_laid w4 A4D z8d
  have hb5 := sup_en w4 (.cells z8d A4D)
  have HM5 := Lib.hid (HM4.out.later hb5)
  have HB5 := Lib.hid (HB4.out.trans (hb5.mono HB4.out.size))
  have HL4 : Hid (g1 < w4.heap.size) := HM4.out.lt
  have HX : Hid (Blo ((w4.alloc (.cells #[.int .i64 0, .string ⟨#[]⟩, .int .i64 0, .string ⟨#[]⟩, .int .i64 0, .string ⟨#[]⟩, .int .i64 0, .string ⟨#[]⟩] 40)).setRow w4.heap.size z8d) w4.heap.size A4D z8d) := setRow_heap _ w4.heap.size _ _ _ _ hz4
  have HM6 : Hid (Blo ((w4.alloc (.cells #[.int .i64 0, .string ⟨#[]⟩, .int .i64 0, .string ⟨#[]⟩, .int .i64 0, .string ⟨#[]⟩, .int .i64 0, .string ⟨#[]⟩] 40)).setRow w4.heap.size z8d) g1 A8T z16) := by
    show _ = _
    rw [setRow_other _ _ _ _ (Nat.ne_of_lt HL4.out)]; exact HM5.out
  have HB6 : Hid (Below w.heap.size w ((w4.alloc (.cells #[.int .i64 0, .string ⟨#[]⟩, .int .i64 0, .string ⟨#[]⟩, .int .i64 0, .string ⟨#[]⟩, .int .i64 0, .string ⟨#[]⟩] 40)).setRow w4.heap.size z8d)) := below_setRow HB5.out HB4.out.size _
  clear hb5 HM4 HB4 HM5 HB5
  go_wp2_with (first | (refine wpList_store_row rfl A4D (.tmp 3) (.tmp 15) rfl w4.heap.size z8d rfl rfl A4D _ hz4 HI2.out rfl HO2.out ?_) | (refine wpList_load_row rfl A8T (.tmp 1) rfl g1 rfl A8T z16 (0, 0) _ HM6.out hu1 rfl HI1.out ?_))
  clear hz4
  generalize (w4.alloc (.cells #[.int .i64 0, .string ⟨#[]⟩, .int .i64 0, .string ⟨#[]⟩, .int .i64 0, .string ⟨#[]⟩, .int .i64 0, .string ⟨#[]⟩] 40)).setRow w4.heap.size z8d = w6 at *
  generalize w4.heap.size = g4 at *
  refine (mapBlockZ _).mono ?_
  rintro e w7 ⟨⟨a7, c7, rfl⟩, hb7⟩
  have HM7 := Lib.hid (HM6.out.later hb7)
  have HX7 := Lib.hid (HX.out.later hb7)
  have HB7 := Lib.hid (HB6.out.trans (hb7.mono HB6.out.size))
  clear hb7 HM6 HX HB6
  have x0 : w7.cell? ⟨g1, 0, none⟩ = some (.int .i64 0) := (HM7.out.cell 0).trans rfl
  have x1 : w7.cell? ⟨g1, 1, none⟩ = some (.int .i64 0) := (HM7.out.cell 1).trans rfl
  have x2 : w7.cell? ⟨g1, 2, none⟩ = some (.int .i64 0) := (HM7.out.cell 2).trans rfl
  have x3 : w7.cell? ⟨g1, 3, none⟩ = some (.int .i64 0) := (HM7.out.cell 3).trans rfl
  have x4 : w7.cell? ⟨g1, 4, none⟩ = some (.int .i64 0) := (HM7.out.cell 4).trans rfl
  have x5 : w7.cell? ⟨g1, 5, none⟩ = some (.int .i64 0) := (HM7.out.cell 5).trans rfl
  have x6 : w7.cell? ⟨g1, 6, none⟩ = some (.int .i64 0) := (HM7.out.cell 6).trans rfl
  have x7 : w7.cell? ⟨g1, 7, none⟩ = some (.int .i64 0) := (HM7.out.cell 7).trans rfl
  have x8 : w7.cell? ⟨g1, 8, none⟩ = some (.int .i64 0) := (HM7.out.cell 8).trans rfl
  have x9 : w7.cell? ⟨g1, 9, none⟩ = some (.int .i64 0) := (HM7.out.cell 9).trans rfl
  have x10 : w7.cell? ⟨g1, 10, none⟩ = some (.int .i64 0) := (HM7.out.cell 10).trans rfl
  have x11 : w7.cell? ⟨g1, 11, none⟩ = some (.int .i64 0) := (HM7.out.cell 11).trans rfl
  have x12 : w7.cell? ⟨g1, 12, none⟩ = some (.int .i64 0) := (HM7.out.cell 12).trans rfl
  have x13 : w7.cell? ⟨g1, 13, none⟩ = some (.int .i64 0) := (HM7.out.cell 13).trans rfl
  have x14 : w7.cell? ⟨g1, 14, none⟩ = some (.int .i64 0) := (HM7.out.cell 14).trans rfl
  have x15 : w7.cell? ⟨g1, 15, none⟩ = some (.int .i64 0) := (HM7.out.cell 15).trans rfl
  have y0 : w7.cell? ⟨g4, 0, none⟩ = some (.int .i64 0) := (HX7.out.cell 0).trans rfl
  have y1 : w7.cell? ⟨g4, 1, none⟩ = some (.string ByteArray.empty) := (HX7.out.cell 1).trans rfl
  have y2 : w7.cell? ⟨g4, 2, none⟩ = some (.int .i64 0) := (HX7.out.cell 2).trans rfl
  have y3 : w7.cell? ⟨g4, 3, none⟩ = some (.string ByteArray.empty) := (HX7.out.cell 3).trans rfl
  have y4 : w7.cell? ⟨g4, 4, none⟩ = some (.int .i64 0) := (HX7.out.cell 4).trans rfl
  have y5 : w7.cell? ⟨g4, 5, none⟩ = some (.string ByteArray.empty) := (HX7.out.cell 5).trans rfl
  have y6 : w7.cell? ⟨g4, 6, none⟩ = some (.int .i64 0) := (HX7.out.cell 6).trans rfl
  have y7 : w7.cell? ⟨g4, 7, none⟩ = some (.string ByteArray.empty) := (HX7.out.cell 7).trans rfl
  have hE1 : ∀ W : World, (binOp .eql A8T (.agg #[.int .i64 0, .int .i64 0, .int .i64 0, .int .i64 0, .int .i64 0, .int .i64 0, .int .i64 0, .int .i64 0, .int .i64 0, .int .i64 0, .int .i64 0, .int .i64 0, .int .i64 0, .int .i64 0, .int .i64 0, .int .i64 0]) (.agg #[.int .i64 0, .int .i64 0, .int .i64 0, .int .i64 0, .int .i64 0, .int .i64 0, .int .i64 0, .int .i64 0, .int .i64 0, .int .i64 0, .int .i64 0, .int .i64 0, .int .i64 0, .int .i64 0, .int .i64 0, .int .i64 0])).run Try.prog W = .ok (.bool true) W := eql_z16
  have hE2 : ∀ W : World, (Op.equalIn 10000 A4D (.agg #[.int .i64 0, .string ByteArray.empty, .int .i64 0, .string ByteArray.empty, .int .i64 0, .string ByteArray.empty, .int .i64 0, .string ByteArray.empty]) (.agg #[.int .i64 0, .string ⟨#[]⟩, .int .i64 0, .string ⟨#[]⟩, .int .i64 0, .string ⟨#[]⟩, .int .i64 0, .string ⟨#[]⟩])).run Try.prog W = .ok true W := fun _ => by kernel_rfl
  go_wp2_with fail
  refine (name_dd _).mono ?_
  rintro e w8 ⟨rfl, hb8⟩
  have HB8 := Lib.hid (HB7.out.trans (hb8.mono HB7.out.size))
  clear hb8
  go_wp2
  go_ret
  exact ⟨rfl, HB8.out⟩
end Go.Proofs.Ytagigeacjendiaa
