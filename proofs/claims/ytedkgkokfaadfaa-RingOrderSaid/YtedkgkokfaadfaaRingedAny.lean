/-
  The statements' constant check of layer 5 answers true in every world. Conditions: the four contracts of package ring.
-/
import Derived.Test.YtedkgkokfaadfaaRinged
namespace Go.Proofs.Ytedkgkokfaadfaa
set_option linter.unusedVariables false
open Go.ChangeShapes Go.WideShapes Go.ChangeAt Go.RowKit

set_option maxRecDepth 100000 in
set_option maxHeartbeats 1600000 in
theorem ringed_any (C : RC) (w : World) : Calls Try.prog 13 #[] w fun e w' => e = .returned (.bool true) ∧ Below w.heap.size w w' := by
  have HBL := Lib.hid (Below.refl w.heap.size w)
  go_enter Try.func13, Try.ntmps13
  go_wp2_with ((with_reducible refine at_store 1 ?_); refine wpList_store_named (o := ⟨none, .store 26 (.tmp 1) (.tmp 22), _, _, _, _⟩) rfl 26 (.tmp 1) (.tmp 22) rfl (w.heap.size + 1) #[.int .i64 3, .slice (some ⟨w.heap.size, 0, none⟩) 1 1, .int .i64 10, .int .i64 20] rfl rfl 26 #[.int .i64 0, .slice none 0 0, .int .i64 0, .int .i64 0] (heap_new2 w _ _) infoKey rfl (kc_one _ _ _ _ _ _) ?_)
  intro w1 hw
  obtain ⟨hx, hb⟩ := box_made2 1 (by decide) 3 10 20 hw.out
  replace HBL := Lib.hid (HBL.out.trans (hb.mono HBL.out.size))
  have B1 := Lib.hid hx
  clear hx hb hw
  go_wp2_with ((with_reducible refine at_store 2 ?_); refine wpList_store_named (o := ⟨none, .store 26 (.tmp 2) (.tmp 24), _, _, _, _⟩) rfl 26 (.tmp 2) (.tmp 24) rfl (w1.heap.size + 1) #[.int .i64 7, .slice (some ⟨w1.heap.size, 0, none⟩) 1 1, .int .i64 15, .int .i64 30] rfl rfl 26 #[.int .i64 0, .slice none 0 0, .int .i64 0, .int .i64 0] (heap_new2 w1 _ _) infoKey rfl (kc_one _ _ _ _ _ _) ?_)
  intro w2 hw
  obtain ⟨hx, hb⟩ := box_made2 2 (by decide) 7 15 30 hw.out
  replace B1 := Lib.hid (B1.out.next hb)
  replace HBL := Lib.hid (HBL.out.trans (hb.mono HBL.out.size))
  have B2 := Lib.hid hx
  clear hx hb hw
  go_wp2_with ((with_reducible refine at_store 3 ?_); refine wpList_store_named (o := ⟨none, .store 26 (.tmp 3) (.tmp 26), _, _, _, _⟩) rfl 26 (.tmp 3) (.tmp 26) rfl (w2.heap.size + 1) #[.int .i64 5, .slice (some ⟨w2.heap.size, 0, none⟩) 1 1, .int .i64 0, .int .i64 99999] rfl rfl 26 #[.int .i64 0, .slice none 0 0, .int .i64 0, .int .i64 0] (heap_new2 w2 _ _) infoKey rfl (kc_one _ _ _ _ _ _) ?_)
  intro w3 hw
  obtain ⟨hx, hb⟩ := box_made2 3 (by decide) 5 0 99999 hw.out
  replace B1 := Lib.hid (B1.out.next hb)
  replace B2 := Lib.hid (B2.out.next hb)
  replace HBL := Lib.hid (HBL.out.trans (hb.mono HBL.out.size))
  have B3 := Lib.hid hx
  clear hx hb hw
  have hks := ks_lit w3 [⟨ka, some ⟨w.heap.size, 0, none⟩, 1⟩, ⟨kb, some ⟨w1.heap.size, 0, none⟩, 1⟩] #[.int .i64 3, .slice (some ⟨w.heap.size, 0, none⟩) 1 1, .int .i64 10, .int .i64 20, .int .i64 7, .slice (some ⟨w1.heap.size, 0, none⟩) 1 1, .int .i64 15, .int .i64 30] 2 rfl rfl (by decide) (by intro q hq; simp at hq; rcases hq with rfl | rfl <;> first | exact B1.out.2.2 | exact B2.out.2.2)
  have hb := below_lit w3 #[.int .i64 3, .slice (some ⟨w.heap.size, 0, none⟩) 1 1, .int .i64 10, .int .i64 20, .int .i64 7, .slice (some ⟨w1.heap.size, 0, none⟩) 1 1, .int .i64 15, .int .i64 30] 26
  go_wp2_with (first | ((with_reducible refine at_load 27 ?_); refine wpList_load_row (o := ⟨some 27, .load 26 (.tmp 1), _, _, _, _⟩) rfl 26 (.tmp 1) rfl (w.heap.size + 1) rfl 26 #[.int .i64 3, .slice (some ⟨w.heap.size, 0, none⟩) 1 1, .int .i64 10, .int .i64 20] (0, 0) _ B1.out.1 Try.underlying26 rfl infoKey ?_) | ((with_reducible refine at_load 28 ?_); refine wpList_load_row (o := ⟨some 28, .load 26 (.tmp 2), _, _, _, _⟩) rfl 26 (.tmp 2) rfl (w1.heap.size + 1) rfl 26 #[.int .i64 7, .slice (some ⟨w1.heap.size, 0, none⟩) 1 1, .int .i64 15, .int .i64 30] (0, 0) _ B2.out.1 Try.underlying26 rfl infoKey ?_))
  replace B1 := Lib.hid (B1.out.next hb)
  replace B2 := Lib.hid (B2.out.next hb)
  replace B3 := Lib.hid (B3.out.next hb)
  replace HBL := Lib.hid (HBL.out.trans (hb.mono HBL.out.size))
  have L := Lib.hid (show Ks _ _ _ [ka, kb] from hks)
  clear hks hb
  refine (c_f7 C _ _ L.out).mono ?_
  rintro e w4 ⟨S5, c5, rfl, hs, hb⟩
  replace B1 := Lib.hid (B1.out.next hb)
  replace B2 := Lib.hid (B2.out.next hb)
  replace B3 := Lib.hid (B3.out.next hb)
  replace L := Lib.hid (L.out.next hb)
  replace HBL := Lib.hid (HBL.out.trans (hb.mono HBL.out.size))
  have HS := Lib.hid hs
  clear hs hb
  go_wp2_with ((with_reducible refine at_store 5 ?_); refine wpList_store_named (o := ⟨none, .store 26 (.tmp 5) (.tmp 33), _, _, _, _⟩) rfl 26 (.tmp 5) (.tmp 33) rfl w4.heap.size #[.int .i64 7, .slice S5 1 c5, .int .i64 15, .int .i64 30] rfl rfl 26 #[.int .i64 0, .slice none 0 0, .int .i64 0, .int .i64 0] (heap_alloc_new w4 _) infoKey rfl (kc_one _ _ _ _ _ _) ?_)
  intro w5 hw
  obtain ⟨hx, hb⟩ := box_made (q := ⟨kb, S5, c5⟩) hw.out HS.out
  replace B1 := Lib.hid (B1.out.next hb)
  replace B2 := Lib.hid (B2.out.next hb)
  replace B3 := Lib.hid (B3.out.next hb)
  replace L := Lib.hid (L.out.next hb)
  replace HBL := Lib.hid (HBL.out.trans (hb.mono HBL.out.size))
  have X5 := Lib.hid hx
  clear hx hb hw HS
  go_wp2_with fail
  refine (c_f5 C _ _ L.out).mono ?_
  rintro e w6 ⟨S7, c7, rfl, hs, hb⟩
  replace B1 := Lib.hid (B1.out.next hb)
  replace B2 := Lib.hid (B2.out.next hb)
  replace B3 := Lib.hid (B3.out.next hb)
  replace L := Lib.hid (L.out.next hb)
  replace X5 := Lib.hid (X5.out.next hb)
  replace HBL := Lib.hid (HBL.out.trans (hb.mono HBL.out.size))
  have HS := Lib.hid hs
  clear hs hb
  go_wp2_with ((with_reducible refine at_store 7 ?_); refine wpList_store_named (o := ⟨none, .store 26 (.tmp 7) (.tmp 38), _, _, _, _⟩) rfl 26 (.tmp 7) (.tmp 38) rfl w6.heap.size #[.int .i64 0, .slice S7 0 c7, .int .i64 0, .int .i64 0] rfl rfl 26 #[.int .i64 0, .slice none 0 0, .int .i64 0, .int .i64 0] (heap_alloc_new w6 _) infoKey rfl (kc_one _ _ _ _ _ _) ?_)
  intro w7 hw
  obtain ⟨hx, hb⟩ := box_made (q := ⟨K0, S7, c7⟩) hw.out HS.out
  replace B1 := Lib.hid (B1.out.next hb)
  replace B2 := Lib.hid (B2.out.next hb)
  replace B3 := Lib.hid (B3.out.next hb)
  replace L := Lib.hid (L.out.next hb)
  replace X5 := Lib.hid (X5.out.next hb)
  replace HBL := Lib.hid (HBL.out.trans (hb.mono HBL.out.size))
  have X7 := Lib.hid hx
  clear hx hb hw HS
  clear X7
  go_wp2_with ((with_reducible refine at_load 42 ?_); refine wpList_load_row (o := ⟨some 42, .load 26 (.tmp 3), _, _, _, _⟩) rfl 26 (.tmp 3) rfl (w2.heap.size + 1) rfl 26 #[.int .i64 5, .slice (some ⟨w2.heap.size, 0, none⟩) 1 1, .int .i64 0, .int .i64 99999] (0, 0) _ B3.out.1 Try.underlying26 rfl infoKey ?_)
  refine (c_add5 C _ _ L.out _ _ B3.out.2.2).mono ?_
  rintro e w8 ⟨A8, c8, rfl, hm, hsl, hb⟩
  replace B1 := Lib.hid (B1.out.next hb)
  replace B2 := Lib.hid (B2.out.next hb)
  replace B3 := Lib.hid (B3.out.next hb)
  replace L := Lib.hid (L.out.next hb)
  replace X5 := Lib.hid (X5.out.next hb)
  replace HBL := Lib.hid (HBL.out.trans (hb.mono HBL.out.size))
  have M := Lib.hid hm
  have MS := Lib.hid hsl
  clear hm hsl hb
  go_wp2_with ((with_reducible refine at_load 48 ?_); refine wpList_load_row (o := ⟨some 48, .load 26 (.tmp 1), _, _, _, _⟩) rfl 26 (.tmp 1) rfl (w.heap.size + 1) rfl 26 #[.int .i64 3, .slice (some ⟨w.heap.size, 0, none⟩) 1 1, .int .i64 10, .int .i64 20] (0, 0) _ B1.out.1 Try.underlying26 rfl infoKey ?_)
  refine (c_add3 C _ _ L.out _ _ B1.out.2.2).mono ?_
  rintro e w9 ⟨A9, c9, rfl, _, _, hb⟩
  replace B1 := Lib.hid (B1.out.next hb)
  replace B2 := Lib.hid (B2.out.next hb)
  replace B3 := Lib.hid (B3.out.next hb)
  replace L := Lib.hid (L.out.next hb)
  replace X5 := Lib.hid (X5.out.next hb)
  replace M := Lib.hid (M.out.next hb)
  replace HBL := Lib.hid (HBL.out.trans (hb.mono HBL.out.size))
  clear hb
  go_wp2_with fail
  refine (c_on18 C _ _ L.out).mono ?_
  rintro e w10 ⟨S13, c13, rfl, hs, hb⟩
  replace B1 := Lib.hid (B1.out.next hb)
  replace B2 := Lib.hid (B2.out.next hb)
  replace B3 := Lib.hid (B3.out.next hb)
  replace L := Lib.hid (L.out.next hb)
  replace X5 := Lib.hid (X5.out.next hb)
  replace M := Lib.hid (M.out.next hb)
  replace HBL := Lib.hid (HBL.out.trans (hb.mono HBL.out.size))
  have HS := Lib.hid hs
  clear hs hb
  go_wp2_with ((with_reducible refine at_store 13 ?_); refine wpList_store_named (o := ⟨none, .store 26 (.tmp 13) (.tmp 55), _, _, _, _⟩) rfl 26 (.tmp 13) (.tmp 55) rfl w10.heap.size #[.int .i64 7, .slice S13 1 c13, .int .i64 15, .int .i64 30] rfl rfl 26 #[.int .i64 0, .slice none 0 0, .int .i64 0, .int .i64 0] (heap_alloc_new w10 _) infoKey rfl (kc_one _ _ _ _ _ _) ?_)
  intro w11 hw
  obtain ⟨hx, hb⟩ := box_made (q := ⟨kb, S13, c13⟩) hw.out HS.out
  replace B1 := Lib.hid (B1.out.next hb)
  replace B2 := Lib.hid (B2.out.next hb)
  replace B3 := Lib.hid (B3.out.next hb)
  replace L := Lib.hid (L.out.next hb)
  replace X5 := Lib.hid (X5.out.next hb)
  replace M := Lib.hid (M.out.next hb)
  replace HBL := Lib.hid (HBL.out.trans (hb.mono HBL.out.size))
  have X13 := Lib.hid hx
  clear hx hb hw HS
  go_wp2_with fail
  refine (c_on12 C _ _ _ MS.out M.out).mono ?_
  rintro e w12 ⟨S15, c15, rfl, hs, hb⟩
  replace B1 := Lib.hid (B1.out.next hb)
  replace B2 := Lib.hid (B2.out.next hb)
  replace B3 := Lib.hid (B3.out.next hb)
  replace L := Lib.hid (L.out.next hb)
  replace X5 := Lib.hid (X5.out.next hb)
  replace M := Lib.hid (M.out.next hb)
  replace X13 := Lib.hid (X13.out.next hb)
  replace HBL := Lib.hid (HBL.out.trans (hb.mono HBL.out.size))
  have HS := Lib.hid hs
  clear hs hb
  go_wp2_with ((with_reducible refine at_store 15 ?_); refine wpList_store_named (o := ⟨none, .store 26 (.tmp 15) (.tmp 60), _, _, _, _⟩) rfl 26 (.tmp 15) (.tmp 60) rfl w12.heap.size #[.int .i64 5, .slice S15 1 c15, .int .i64 0, .int .i64 99999] rfl rfl 26 #[.int .i64 0, .slice none 0 0, .int .i64 0, .int .i64 0] (heap_alloc_new w12 _) infoKey rfl (kc_one _ _ _ _ _ _) ?_)
  intro w13 hw
  obtain ⟨hx, hb⟩ := box_made (q := ⟨kcc, S15, c15⟩) hw.out HS.out
  replace B1 := Lib.hid (B1.out.next hb)
  replace B2 := Lib.hid (B2.out.next hb)
  replace B3 := Lib.hid (B3.out.next hb)
  replace L := Lib.hid (L.out.next hb)
  replace X5 := Lib.hid (X5.out.next hb)
  replace M := Lib.hid (M.out.next hb)
  replace X13 := Lib.hid (X13.out.next hb)
  replace HBL := Lib.hid (HBL.out.trans (hb.mono HBL.out.size))
  have X15 := Lib.hid hx
  clear hx hb hw HS
  go_wp2_with fail
  refine (c_on31 C _ _ L.out).mono ?_
  rintro e w14 ⟨S17, c17, rfl, hs, hb⟩
  replace B1 := Lib.hid (B1.out.next hb)
  replace B2 := Lib.hid (B2.out.next hb)
  replace B3 := Lib.hid (B3.out.next hb)
  replace L := Lib.hid (L.out.next hb)
  replace X5 := Lib.hid (X5.out.next hb)
  replace M := Lib.hid (M.out.next hb)
  replace X13 := Lib.hid (X13.out.next hb)
  replace X15 := Lib.hid (X15.out.next hb)
  replace HBL := Lib.hid (HBL.out.trans (hb.mono HBL.out.size))
  have HS := Lib.hid hs
  clear hs hb
  go_wp2_with ((with_reducible refine at_store 17 ?_); refine wpList_store_named (o := ⟨none, .store 26 (.tmp 17) (.tmp 65), _, _, _, _⟩) rfl 26 (.tmp 17) (.tmp 65) rfl w14.heap.size #[.int .i64 0, .slice S17 0 c17, .int .i64 0, .int .i64 0] rfl rfl 26 #[.int .i64 0, .slice none 0 0, .int .i64 0, .int .i64 0] (heap_alloc_new w14 _) infoKey rfl (kc_one _ _ _ _ _ _) ?_)
  intro w15 hw
  obtain ⟨hx, hb⟩ := box_made (q := ⟨K0, S17, c17⟩) hw.out HS.out
  replace B1 := Lib.hid (B1.out.next hb)
  replace B2 := Lib.hid (B2.out.next hb)
  replace B3 := Lib.hid (B3.out.next hb)
  replace L := Lib.hid (L.out.next hb)
  replace X5 := Lib.hid (X5.out.next hb)
  replace M := Lib.hid (M.out.next hb)
  replace X13 := Lib.hid (X13.out.next hb)
  replace X15 := Lib.hid (X15.out.next hb)
  replace HBL := Lib.hid (HBL.out.trans (hb.mono HBL.out.size))
  have X17 := Lib.hid hx
  clear hx hb hw HS
  clear X17
  have hks := ks_lit w15 [⟨kb, some ⟨w1.heap.size, 0, none⟩, 1⟩, ⟨ka, some ⟨w.heap.size, 0, none⟩, 1⟩] #[.int .i64 7, .slice (some ⟨w1.heap.size, 0, none⟩) 1 1, .int .i64 15, .int .i64 30, .int .i64 3, .slice (some ⟨w.heap.size, 0, none⟩) 1 1, .int .i64 10, .int .i64 20] 2 rfl rfl (by decide) (by intro q hq; simp at hq; rcases hq with rfl | rfl <;> first | exact B2.out.2.2 | exact B1.out.2.2)
  have hb := below_lit w15 #[.int .i64 7, .slice (some ⟨w1.heap.size, 0, none⟩) 1 1, .int .i64 15, .int .i64 30, .int .i64 3, .slice (some ⟨w.heap.size, 0, none⟩) 1 1, .int .i64 10, .int .i64 20] 26
  go_wp2_with (first | ((with_reducible refine at_load 68 ?_); refine wpList_load_row (o := ⟨some 68, .load 26 (.tmp 2), _, _, _, _⟩) rfl 26 (.tmp 2) rfl (w1.heap.size + 1) rfl 26 #[.int .i64 7, .slice (some ⟨w1.heap.size, 0, none⟩) 1 1, .int .i64 15, .int .i64 30] (0, 0) _ B2.out.1 Try.underlying26 rfl infoKey ?_) | ((with_reducible refine at_load 69 ?_); refine wpList_load_row (o := ⟨some 69, .load 26 (.tmp 1), _, _, _, _⟩) rfl 26 (.tmp 1) rfl (w.heap.size + 1) rfl 26 #[.int .i64 3, .slice (some ⟨w.heap.size, 0, none⟩) 1 1, .int .i64 10, .int .i64 20] (0, 0) _ B1.out.1 Try.underlying26 rfl infoKey ?_))
  replace B1 := Lib.hid (B1.out.next hb)
  replace B2 := Lib.hid (B2.out.next hb)
  replace B3 := Lib.hid (B3.out.next hb)
  replace L := Lib.hid (L.out.next hb)
  replace X5 := Lib.hid (X5.out.next hb)
  replace M := Lib.hid (M.out.next hb)
  replace X13 := Lib.hid (X13.out.next hb)
  replace X15 := Lib.hid (X15.out.next hb)
  replace HBL := Lib.hid (HBL.out.trans (hb.mono HBL.out.size))
  have L2 := Lib.hid (show Ks _ _ _ [kb, ka] from hks)
  clear hks hb
  refine (c_fbad C _ _ L2.out).mono ?_
  rintro e w16 ⟨S19, c19, rfl, hs, hb⟩
  replace B1 := Lib.hid (B1.out.next hb)
  replace B2 := Lib.hid (B2.out.next hb)
  replace B3 := Lib.hid (B3.out.next hb)
  replace L := Lib.hid (L.out.next hb)
  replace X5 := Lib.hid (X5.out.next hb)
  replace M := Lib.hid (M.out.next hb)
  replace X13 := Lib.hid (X13.out.next hb)
  replace X15 := Lib.hid (X15.out.next hb)
  replace HBL := Lib.hid (HBL.out.trans (hb.mono HBL.out.size))
  have HS := Lib.hid hs
  clear hs hb
  go_wp2_with ((with_reducible refine at_store 19 ?_); refine wpList_store_named (o := ⟨none, .store 26 (.tmp 19) (.tmp 72), _, _, _, _⟩) rfl 26 (.tmp 19) (.tmp 72) rfl w16.heap.size #[.int .i64 0, .slice S19 0 c19, .int .i64 0, .int .i64 0] rfl rfl 26 #[.int .i64 0, .slice none 0 0, .int .i64 0, .int .i64 0] (heap_alloc_new w16 _) infoKey rfl (kc_one _ _ _ _ _ _) ?_)
  intro w17 hw
  obtain ⟨hx, hb⟩ := box_made (q := ⟨K0, S19, c19⟩) hw.out HS.out
  replace B1 := Lib.hid (B1.out.next hb)
  replace B2 := Lib.hid (B2.out.next hb)
  replace B3 := Lib.hid (B3.out.next hb)
  replace L := Lib.hid (L.out.next hb)
  replace X5 := Lib.hid (X5.out.next hb)
  replace M := Lib.hid (M.out.next hb)
  replace X13 := Lib.hid (X13.out.next hb)
  replace X15 := Lib.hid (X15.out.next hb)
  replace HBL := Lib.hid (HBL.out.trans (hb.mono HBL.out.size))
  have X19 := Lib.hid hx
  clear hx hb hw HS
  clear X19 L2
  have g0 : w17.cell? ⟨w4.heap.size, 0, none⟩ = some (.int .i64 7) := by rw [cell_of_row w17 _ 0 _ _ (0, 0) X5.out.1]; rfl
  have g1 : w17.cell? ⟨w4.heap.size, 1, none⟩ = some (.slice S5 1 c5) := by rw [cell_of_row w17 _ 1 _ _ (0, 0) X5.out.1]; rfl
  have g2 : w17.cell? ⟨w4.heap.size, 2, none⟩ = some (.int .i64 15) := by rw [cell_of_row w17 _ 2 _ _ (0, 0) X5.out.1]; rfl
  have g3 : w17.cell? ⟨w4.heap.size, 3, none⟩ = some (.int .i64 30) := by rw [cell_of_row w17 _ 3 _ _ (0, 0) X5.out.1]; rfl
  have k0 : w17.cell? ⟨w1.heap.size + 1, 0, none⟩ = some (.int .i64 7) := by rw [cell_of_row w17 _ 0 _ _ (0, 0) B2.out.1]; rfl
  have k1 : w17.cell? ⟨w1.heap.size + 1, 1, none⟩ = some (.slice (some ⟨w1.heap.size, 0, none⟩) 1 1) := by rw [cell_of_row w17 _ 1 _ _ (0, 0) B2.out.1]; rfl
  have k2 : w17.cell? ⟨w1.heap.size + 1, 2, none⟩ = some (.int .i64 15) := by rw [cell_of_row w17 _ 2 _ _ (0, 0) B2.out.1]; rfl
  have k3 : w17.cell? ⟨w1.heap.size + 1, 3, none⟩ = some (.int .i64 30) := by rw [cell_of_row w17 _ 3 _ _ (0, 0) B2.out.1]; rfl
  go_wp2_with fail
  refine (c_samek w17 _ _ _ _ X5.out.2.2 B2.out.2.2).mono ?_
  clear g0 g1 g2 g3 k0 k1 k2 k3
  rintro e w18 ⟨rfl, hb⟩
  replace B1 := Lib.hid (B1.out.next hb)
  replace B2 := Lib.hid (B2.out.next hb)
  replace B3 := Lib.hid (B3.out.next hb)
  replace L := Lib.hid (L.out.next hb)
  replace X5 := Lib.hid (X5.out.next hb)
  replace M := Lib.hid (M.out.next hb)
  replace X13 := Lib.hid (X13.out.next hb)
  replace X15 := Lib.hid (X15.out.next hb)
  replace HBL := Lib.hid (HBL.out.trans (hb.mono HBL.out.size))
  clear hb
  have p0 : w18.cell? ⟨w.heap.size + 1, 0, none⟩ = some (.int .i64 3) := by rw [cell_of_row w18 _ 0 _ _ (0, 0) B1.out.1]; rfl
  have p1 : w18.cell? ⟨w.heap.size + 1, 1, none⟩ = some (.slice (some ⟨w.heap.size, 0, none⟩) 1 1) := by rw [cell_of_row w18 _ 1 _ _ (0, 0) B1.out.1]; rfl
  have p2 : w18.cell? ⟨w.heap.size + 1, 2, none⟩ = some (.int .i64 10) := by rw [cell_of_row w18 _ 2 _ _ (0, 0) B1.out.1]; rfl
  have p3 : w18.cell? ⟨w.heap.size + 1, 3, none⟩ = some (.int .i64 20) := by rw [cell_of_row w18 _ 3 _ _ (0, 0) B1.out.1]; rfl
  have k0 : w18.cell? ⟨w1.heap.size + 1, 0, none⟩ = some (.int .i64 7) := by rw [cell_of_row w18 _ 0 _ _ (0, 0) B2.out.1]; rfl
  have k1 : w18.cell? ⟨w1.heap.size + 1, 1, none⟩ = some (.slice (some ⟨w1.heap.size, 0, none⟩) 1 1) := by rw [cell_of_row w18 _ 1 _ _ (0, 0) B2.out.1]; rfl
  have k2 : w18.cell? ⟨w1.heap.size + 1, 2, none⟩ = some (.int .i64 15) := by rw [cell_of_row w18 _ 2 _ _ (0, 0) B2.out.1]; rfl
  have k3 : w18.cell? ⟨w1.heap.size + 1, 3, none⟩ = some (.int .i64 30) := by rw [cell_of_row w18 _ 3 _ _ (0, 0) B2.out.1]; rfl
  have q0 : w18.cell? ⟨w2.heap.size + 1, 0, none⟩ = some (.int .i64 5) := by rw [cell_of_row w18 _ 0 _ _ (0, 0) B3.out.1]; rfl
  have q1 : w18.cell? ⟨w2.heap.size + 1, 1, none⟩ = some (.slice (some ⟨w2.heap.size, 0, none⟩) 1 1) := by rw [cell_of_row w18 _ 1 _ _ (0, 0) B3.out.1]; rfl
  have q2 : w18.cell? ⟨w2.heap.size + 1, 2, none⟩ = some (.int .i64 0) := by rw [cell_of_row w18 _ 2 _ _ (0, 0) B3.out.1]; rfl
  have q3 : w18.cell? ⟨w2.heap.size + 1, 3, none⟩ = some (.int .i64 99999) := by rw [cell_of_row w18 _ 3 _ _ (0, 0) B3.out.1]; rfl
  have hks := ks_lit w18 [⟨ka, some ⟨w.heap.size, 0, none⟩, 1⟩, ⟨kcc, some ⟨w2.heap.size, 0, none⟩, 1⟩, ⟨kb, some ⟨w1.heap.size, 0, none⟩, 1⟩] #[.int .i64 3, .slice (some ⟨w.heap.size, 0, none⟩) 1 1, .int .i64 10, .int .i64 20, .int .i64 5, .slice (some ⟨w2.heap.size, 0, none⟩) 1 1, .int .i64 0, .int .i64 99999, .int .i64 7, .slice (some ⟨w1.heap.size, 0, none⟩) 1 1, .int .i64 15, .int .i64 30] 3 rfl rfl (by decide) (by intro q hq; simp at hq; rcases hq with rfl | rfl | rfl <;> first | exact B1.out.2.2 | exact B3.out.2.2 | exact B2.out.2.2)
  have hb := below_lit w18 #[.int .i64 3, .slice (some ⟨w.heap.size, 0, none⟩) 1 1, .int .i64 10, .int .i64 20, .int .i64 5, .slice (some ⟨w2.heap.size, 0, none⟩) 1 1, .int .i64 0, .int .i64 99999, .int .i64 7, .slice (some ⟨w1.heap.size, 0, none⟩) 1 1, .int .i64 15, .int .i64 30] 26
  go_wp2_with fail
  replace B1 := Lib.hid (B1.out.next hb)
  replace B2 := Lib.hid (B2.out.next hb)
  replace B3 := Lib.hid (B3.out.next hb)
  replace L := Lib.hid (L.out.next hb)
  replace X5 := Lib.hid (X5.out.next hb)
  replace M := Lib.hid (M.out.next hb)
  replace X13 := Lib.hid (X13.out.next hb)
  replace X15 := Lib.hid (X15.out.next hb)
  replace HBL := Lib.hid (HBL.out.trans (hb.mono HBL.out.size))
  clear p0 p1 p2 p3 k0 k1 k2 k3 q0 q1 q2 q3
  have L3 := Lib.hid (show Ks _ _ _ [ka, kcc, kb] from hks)
  clear hks hb
  refine (c_samesk _ _ _ _ M.out L3.out).mono ?_
  rintro e w19 ⟨rfl, hb⟩
  replace B1 := Lib.hid (B1.out.next hb)
  replace B2 := Lib.hid (B2.out.next hb)
  replace B3 := Lib.hid (B3.out.next hb)
  replace L := Lib.hid (L.out.next hb)
  replace X5 := Lib.hid (X5.out.next hb)
  replace M := Lib.hid (M.out.next hb)
  replace X13 := Lib.hid (X13.out.next hb)
  replace X15 := Lib.hid (X15.out.next hb)
  replace HBL := Lib.hid (HBL.out.trans (hb.mono HBL.out.size))
  clear hb L3
  have hx13 : w19.cell? ⟨w10.heap.size, 0, none⟩ = some (.int .i64 7) := by rw [cell_of_row w19 _ 0 _ _ (0, 0) X13.out.1]; rfl
  have hx15 : w19.cell? ⟨w12.heap.size, 0, none⟩ = some (.int .i64 5) := by rw [cell_of_row w19 _ 0 _ _ (0, 0) X15.out.1]; rfl
  go_wp2_with fail
  refine (c_is C _ _ L.out).mono ?_
  rintro e w20 ⟨rfl, hb⟩
  replace HBL := Lib.hid (HBL.out.trans (hb.mono HBL.out.size))
  clear hb
  go_wp2_with fail
  go_ret
  exact ⟨rfl, HBL.out⟩
end Go.Proofs.Ytedkgkokfaadfaa
