/-
  Contract for the laws' constant check of layer 6, out of the four contracts. Conditions: none.
-/
import Derived.Test.YtiekfcpinljcjaaDayC
namespace Go.Proofs.Ytiekfcpinljcjaa
set_option linter.unusedVariables false
open Go.ChangeShapes Go.WideShapes Go.ChangeAt Go.RowKit

set_option maxRecDepth 100000 in
theorem dated_any (C : DC) (w : World) : Calls Try.prog 11 #[] w fun e w' => e = .returned (.bool true) ∧ Below w.heap.size w w' := by
  have HBL := Lib.hid (Below.refl w.heap.size w)
  go_enter Try.func11, Try.ntmps11
  go_wp2_with fail
  refine (C.of ⟨2000, 3, 1⟩ 60 0 w (by unfold In64; decide) (by unfold In64; decide) (by unfold In64; decide) of_a.1 of_a.2).mono ?_
  rintro e w1 ⟨rfl, hb⟩
  replace HBL := Lib.hid (HBL.out.trans (hb.mono HBL.out.size))
  clear hb
  go_wp2_with fail
  refine (C.date 59 ⟨2000, 2, 29⟩ 0 w1 (by unfold In64; decide) date_b.1 date_b.2).mono ?_
  rintro e w2 ⟨rfl, hb⟩
  replace HBL := Lib.hid (HBL.out.trans (hb.mono HBL.out.size))
  clear hb
  go_wp2_with ((with_reducible refine at_store 3 ?_); refine wpList_store_named (o := ⟨none, .store 23 (.tmp 3) (.tmp 20), _, _, _, _⟩) rfl 23 (.tmp 3) (.tmp 20) rfl w2.heap.size #[.int .i64 2000, .int .i64 2, .int .i64 29] rfl rfl 23 #[.int .i64 0, .int .i64 0, .int .i64 0] (heap_alloc_new w2 _) infoDate rfl (dc_one _ _ _) ?_)
  intro w3 hw
  obtain ⟨hx, hb⟩ := dbox_made (d := ⟨2000, 2, 29⟩) hw.out
  replace HBL := Lib.hid (HBL.out.trans (hb.mono HBL.out.size))
  have X3 := Lib.hid hx
  clear hx hb hw
  go_wp2_with fail
  refine (C.of ⟨2001, 2, 29⟩ 0 1 w3 (by unfold In64; decide) (by unfold In64; decide) (by unfold In64; decide) of_c.1 of_c.2).mono ?_
  rintro e w4 ⟨rfl, hb⟩
  replace X3 := Lib.hid (X3.out.next hb)
  replace HBL := Lib.hid (HBL.out.trans (hb.mono HBL.out.size))
  clear hb
  go_wp2_with fail
  refine (C.date 100000 D0 1 w4 (by unfold In64; decide) date_d.1 date_d.2).mono ?_
  rintro e w5 ⟨rfl, hb⟩
  replace X3 := Lib.hid (X3.out.next hb)
  replace HBL := Lib.hid (HBL.out.trans (hb.mono HBL.out.size))
  clear hb
  go_wp2_with ((with_reducible refine at_store 7 ?_); refine wpList_store_named (o := ⟨none, .store 23 (.tmp 7) (.tmp 29), _, _, _, _⟩) rfl 23 (.tmp 7) (.tmp 29) rfl w5.heap.size #[.int .i64 0, .int .i64 0, .int .i64 0] rfl rfl 23 #[.int .i64 0, .int .i64 0, .int .i64 0] (heap_alloc_new w5 _) infoDate rfl (dc_one _ _ _) ?_)
  intro w6 hw
  obtain ⟨hx, hb⟩ := dbox_made (d := ⟨0, 0, 0⟩) hw.out
  replace X3 := Lib.hid (X3.out.next hb)
  replace HBL := Lib.hid (HBL.out.trans (hb.mono HBL.out.size))
  have X7 := Lib.hid hx
  clear hx hb hw
  go_wp2_with fail
  refine (C.week 2 0 w6 (by unfold In64; decide) rfl).mono ?_
  rintro e w7 ⟨v, rfl, hv, hb⟩
  replace X3 := Lib.hid (X3.out.next hb)
  replace X7 := Lib.hid (X7.out.next hb)
  replace HBL := Lib.hid (HBL.out.trans (hb.mono HBL.out.size))
  obtain rfl : v = 0 := hv rfl
  clear hb
  go_wp2_with fail
  refine (C.date 99999 ⟨2273, 10, 15⟩ 0 w7 (by unfold In64; decide) date_j.1 date_j.2).mono ?_
  rintro e w8 ⟨rfl, hb⟩
  replace X3 := Lib.hid (X3.out.next hb)
  replace X7 := Lib.hid (X7.out.next hb)
  replace HBL := Lib.hid (HBL.out.trans (hb.mono HBL.out.size))
  clear hb
  go_wp2_with ((with_reducible refine at_store 11 ?_); refine wpList_store_named (o := ⟨none, .store 23 (.tmp 11) (.tmp 37), _, _, _, _⟩) rfl 23 (.tmp 11) (.tmp 37) rfl w8.heap.size #[.int .i64 2273, .int .i64 10, .int .i64 15] rfl rfl 23 #[.int .i64 0, .int .i64 0, .int .i64 0] (heap_alloc_new w8 _) infoDate rfl (dc_one _ _ _) ?_)
  intro w9 hw
  obtain ⟨hx, hb⟩ := dbox_made (d := ⟨2273, 10, 15⟩) hw.out
  replace X3 := Lib.hid (X3.out.next hb)
  replace X7 := Lib.hid (X7.out.next hb)
  replace HBL := Lib.hid (HBL.out.trans (hb.mono HBL.out.size))
  have X11 := Lib.hid hx
  clear hx hb hw
  have a0 : w9.cell? ⟨_, 0, none⟩ = some (.int .i64 2000) := X3.out.cells.1
  have a1 : w9.cell? ⟨_, 1, none⟩ = some (.int .i64 2) := X3.out.cells.2.1
  have a2 : w9.cell? ⟨_, 2, none⟩ = some (.int .i64 29) := X3.out.cells.2.2
  have c0 : w9.cell? ⟨_, 0, none⟩ = some (.int .i64 2273) := X11.out.cells.1
  have c1 : w9.cell? ⟨_, 1, none⟩ = some (.int .i64 10) := X11.out.cells.2.1
  have c2 : w9.cell? ⟨_, 2, none⟩ = some (.int .i64 15) := X11.out.cells.2.2
  go_wp2_with fail
  refine (C.leap 2000 true w9 (by unfold In64; decide) (by decide)).mono ?_
  rintro e w10 ⟨rfl, hb⟩
  replace X3 := Lib.hid (X3.out.next hb)
  replace X7 := Lib.hid (X7.out.next hb)
  replace X11 := Lib.hid (X11.out.next hb)
  replace HBL := Lib.hid (HBL.out.trans (hb.mono HBL.out.size))
  clear hb
  go_wp2_with fail
  refine (C.leap 1900 false w10 (by unfold In64; decide) (by decide)).mono ?_
  rintro e w11 ⟨rfl, hb⟩
  replace X3 := Lib.hid (X3.out.next hb)
  replace X7 := Lib.hid (X7.out.next hb)
  replace X11 := Lib.hid (X11.out.next hb)
  replace HBL := Lib.hid (HBL.out.trans (hb.mono HBL.out.size))
  clear hb
  go_wp2_with fail
  refine (C.leap (-4) true w11 (by unfold In64; decide) (by decide)).mono ?_
  rintro e w12 ⟨rfl, hb⟩
  replace X3 := Lib.hid (X3.out.next hb)
  replace X7 := Lib.hid (X7.out.next hb)
  replace X11 := Lib.hid (X11.out.next hb)
  replace HBL := Lib.hid (HBL.out.trans (hb.mono HBL.out.size))
  clear hb
  go_wp2
  go_ret
  exact ⟨rfl, HBL.out⟩
end Go.Proofs.Ytiekfcpinljcjaa
