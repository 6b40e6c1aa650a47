/-
  Proved: for all keys and two numbers the law RingFinds answers true, and leaves what came in as it was. Conditions: none beyond the statement's own.
-/
import Derived.Test.YtedkgkokfaadfaaRingNamed
namespace Go.Proofs.Ytedkgkokfaadfaa
set_option linter.unusedVariables false
open Go.ChangeShapes Go.WideShapes Go.ChangeAt Go.RowKit

set_option maxRecDepth 100000 in
set_option maxHeartbeats 800000 in
theorem finds_any (C : RC) (l : List K) (id day : Int) (n : Nat) (hn : n = l.length) (A : Option Addr) (c : Nat) (w : World) (hA : Ks w w.heap.size A l) (hs : Sl A n c) (hbig : bigR l = false) (h1 : n ≤ 9223372036854775807) :
    Calls Try.prog 3 #[.slice A n c, .int .i64 id, .int .i64 day] w fun e w' => e = .returned (.bool true) ∧ Below w.heap.size w w' := by
  obtain ⟨r, hr⟩ : ∃ r, r = findK l id := ⟨_, rfl⟩
  obtain ⟨E, hE⟩ : ∃ E, E = findE l id := ⟨_, rfl⟩
  obtain ⟨o, ho⟩ : ∃ o, o = onK l day := ⟨_, rfl⟩
  obtain ⟨D, hD⟩ : ∃ D, D = onE l day := ⟨_, rfl⟩
  obtain ⟨b, hb⟩ : ∃ b, isR l = b := ⟨_, rfl⟩
  have HR := Lib.hid hr
  have HE := Lib.hid hE
  have HO := Lib.hid ho
  have HD := Lib.hid hD
  have HBB := Lib.hid hb
  have HN := Lib.hid hn
  have HS := Lib.hid hs
  have HBIG := Lib.hid hbig
  have L := Lib.hid hA
  have HBL := Lib.hid (Below.refl w.heap.size w)
  clear hr hE ho hD hb hn hs hbig hA
  go_enter Try.func3, Try.ntmps3
  go_wp2_with fail
  refine (refbig_named l n HN.out false HBIG.out A c w L.out h1).mono ?_
  rintro e w1 ⟨rfl, hb⟩
  replace L := Lib.hid (L.out.next hb)
  replace HBL := Lib.hid (HBL.out.trans (hb.mono HBL.out.size))
  clear hb
  go_wp2_with fail
  refine (C.find l n id A c w1 r E HN.out HR.out HE.out HS.out L.out).mono ?_
  rintro e w2 ⟨S7, c7, rfl, hs, hb⟩
  replace L := Lib.hid (L.out.next hb)
  replace HBL := Lib.hid (HBL.out.trans (hb.mono HBL.out.size))
  have HSS := Lib.hid hs
  clear hs hb
  go_wp2_with ((with_reducible refine at_store 7 ?_); refine wpList_store_named (o := ⟨none, .store 26 (.tmp 7) (.tmp 21), _, _, _, _⟩) rfl 26 (.tmp 7) (.tmp 21) rfl w2.heap.size #[.int .i64 r.id, .slice S7 r.sec.length c7, .int .i64 r.frm, .int .i64 r.til] rfl rfl 26 #[.int .i64 0, .slice none 0 0, .int .i64 0, .int .i64 0] (heap_alloc_new w2 _) infoKey rfl (kc_one _ _ _ _ _ _) ?_)
  intro w3 hw
  obtain ⟨hx, hb⟩ := box_made (q := ⟨r, S7, c7⟩) hw.out HSS.out
  replace L := Lib.hid (L.out.next hb)
  replace HBL := Lib.hid (HBL.out.trans (hb.mono HBL.out.size))
  have X7 := Lib.hid hx
  clear hx hb hw HSS
  go_wp2_with fail
  refine (reffind_any l n HN.out id A c w3 L.out h1 r E HR.out HE.out).mono ?_
  rintro e w4 ⟨S9, c9, rfl, hs, hb⟩
  replace L := Lib.hid (L.out.next hb)
  replace X7 := Lib.hid (X7.out.next hb)
  replace HBL := Lib.hid (HBL.out.trans (hb.mono HBL.out.size))
  have HSS := Lib.hid hs
  clear hs hb
  go_wp2_with ((with_reducible refine at_store 9 ?_); refine wpList_store_named (o := ⟨none, .store 26 (.tmp 9) (.tmp 27), _, _, _, _⟩) rfl 26 (.tmp 9) (.tmp 27) rfl w4.heap.size #[.int .i64 r.id, .slice S9 r.sec.length c9, .int .i64 r.frm, .int .i64 r.til] rfl rfl 26 #[.int .i64 0, .slice none 0 0, .int .i64 0, .int .i64 0] (heap_alloc_new w4 _) infoKey rfl (kc_one _ _ _ _ _ _) ?_)
  intro w5 hw
  obtain ⟨hx, hb⟩ := box_made (q := ⟨r, S9, c9⟩) hw.out HSS.out
  replace L := Lib.hid (L.out.next hb)
  replace X7 := Lib.hid (X7.out.next hb)
  replace HBL := Lib.hid (HBL.out.trans (hb.mono HBL.out.size))
  have X9 := Lib.hid hx
  clear hx hb hw HSS
  go_wp2_with fail
  refine (C.on l n day A c w5 o D HN.out HO.out HD.out HS.out L.out).mono ?_
  rintro e w6 ⟨S11, c11, rfl, hs, hb⟩
  replace L := Lib.hid (L.out.next hb)
  replace X7 := Lib.hid (X7.out.next hb)
  replace X9 := Lib.hid (X9.out.next hb)
  replace HBL := Lib.hid (HBL.out.trans (hb.mono HBL.out.size))
  have HSS := Lib.hid hs
  clear hs hb
  go_wp2_with ((with_reducible refine at_store 11 ?_); refine wpList_store_named (o := ⟨none, .store 26 (.tmp 11) (.tmp 33), _, _, _, _⟩) rfl 26 (.tmp 11) (.tmp 33) rfl w6.heap.size #[.int .i64 o.id, .slice S11 o.sec.length c11, .int .i64 o.frm, .int .i64 o.til] rfl rfl 26 #[.int .i64 0, .slice none 0 0, .int .i64 0, .int .i64 0] (heap_alloc_new w6 _) infoKey rfl (kc_one _ _ _ _ _ _) ?_)
  intro w7 hw
  obtain ⟨hx, hb⟩ := box_made (q := ⟨o, S11, c11⟩) hw.out HSS.out
  replace L := Lib.hid (L.out.next hb)
  replace X7 := Lib.hid (X7.out.next hb)
  replace X9 := Lib.hid (X9.out.next hb)
  replace HBL := Lib.hid (HBL.out.trans (hb.mono HBL.out.size))
  have X11 := Lib.hid hx
  clear hx hb hw HSS
  go_wp2_with fail
  refine (refon_any l n HN.out day A c w7 L.out h1 o D HO.out HD.out).mono ?_
  rintro e w8 ⟨S13, c13, rfl, hs, hb⟩
  replace L := Lib.hid (L.out.next hb)
  replace X7 := Lib.hid (X7.out.next hb)
  replace X9 := Lib.hid (X9.out.next hb)
  replace X11 := Lib.hid (X11.out.next hb)
  replace HBL := Lib.hid (HBL.out.trans (hb.mono HBL.out.size))
  have HSS := Lib.hid hs
  clear hs hb
  go_wp2_with ((with_reducible refine at_store 13 ?_); refine wpList_store_named (o := ⟨none, .store 26 (.tmp 13) (.tmp 39), _, _, _, _⟩) rfl 26 (.tmp 13) (.tmp 39) rfl w8.heap.size #[.int .i64 o.id, .slice S13 o.sec.length c13, .int .i64 o.frm, .int .i64 o.til] rfl rfl 26 #[.int .i64 0, .slice none 0 0, .int .i64 0, .int .i64 0] (heap_alloc_new w8 _) infoKey rfl (kc_one _ _ _ _ _ _) ?_)
  intro w9 hw
  obtain ⟨hx, hb⟩ := box_made (q := ⟨o, S13, c13⟩) hw.out HSS.out
  replace L := Lib.hid (L.out.next hb)
  replace X7 := Lib.hid (X7.out.next hb)
  replace X9 := Lib.hid (X9.out.next hb)
  replace X11 := Lib.hid (X11.out.next hb)
  replace HBL := Lib.hid (HBL.out.trans (hb.mono HBL.out.size))
  have X13 := Lib.hid hx
  clear hx hb hw HSS
  go_wp2_with fail
  refine (ringed_any C w9).mono ?_
  rintro e w10 ⟨rfl, hb⟩
  replace L := Lib.hid (L.out.next hb)
  replace X7 := Lib.hid (X7.out.next hb)
  replace X9 := Lib.hid (X9.out.next hb)
  replace X11 := Lib.hid (X11.out.next hb)
  replace X13 := Lib.hid (X13.out.next hb)
  replace HBL := Lib.hid (HBL.out.trans (hb.mono HBL.out.size))
  clear hb
  have x0 : w10.cell? ⟨w2.heap.size, 0, none⟩ = some (.int .i64 r.id) := by rw [cell_of_row w10 _ 0 _ _ (0, 0) X7.out.1]; rfl
  have x1 : w10.cell? ⟨w2.heap.size, 1, none⟩ = some (.slice S7 r.sec.length c7) := by rw [cell_of_row w10 _ 1 _ _ (0, 0) X7.out.1]; rfl
  have x2 : w10.cell? ⟨w2.heap.size, 2, none⟩ = some (.int .i64 r.frm) := by rw [cell_of_row w10 _ 2 _ _ (0, 0) X7.out.1]; rfl
  have x3 : w10.cell? ⟨w2.heap.size, 3, none⟩ = some (.int .i64 r.til) := by rw [cell_of_row w10 _ 3 _ _ (0, 0) X7.out.1]; rfl
  have y0 : w10.cell? ⟨w4.heap.size, 0, none⟩ = some (.int .i64 r.id) := by rw [cell_of_row w10 _ 0 _ _ (0, 0) X9.out.1]; rfl
  have y1 : w10.cell? ⟨w4.heap.size, 1, none⟩ = some (.slice S9 r.sec.length c9) := by rw [cell_of_row w10 _ 1 _ _ (0, 0) X9.out.1]; rfl
  have y2 : w10.cell? ⟨w4.heap.size, 2, none⟩ = some (.int .i64 r.frm) := by rw [cell_of_row w10 _ 2 _ _ (0, 0) X9.out.1]; rfl
  have y3 : w10.cell? ⟨w4.heap.size, 3, none⟩ = some (.int .i64 r.til) := by rw [cell_of_row w10 _ 3 _ _ (0, 0) X9.out.1]; rfl
  go_wp2_with fail
  refine (samek_named r r.sec.length rfl S7 S9 c7 c9 w10 X7.out.2.2 X9.out.2.2).mono ?_
  clear x0 x1 x2 x3 y0 y1 y2 y3
  rintro e w11 ⟨rfl, hb⟩
  replace L := Lib.hid (L.out.next hb)
  replace X7 := Lib.hid (X7.out.next hb)
  replace X9 := Lib.hid (X9.out.next hb)
  replace X11 := Lib.hid (X11.out.next hb)
  replace X13 := Lib.hid (X13.out.next hb)
  replace HBL := Lib.hid (HBL.out.trans (hb.mono HBL.out.size))
  clear hb
  have x0 : w11.cell? ⟨w6.heap.size, 0, none⟩ = some (.int .i64 o.id) := by rw [cell_of_row w11 _ 0 _ _ (0, 0) X11.out.1]; rfl
  have x1 : w11.cell? ⟨w6.heap.size, 1, none⟩ = some (.slice S11 o.sec.length c11) := by rw [cell_of_row w11 _ 1 _ _ (0, 0) X11.out.1]; rfl
  have x2 : w11.cell? ⟨w6.heap.size, 2, none⟩ = some (.int .i64 o.frm) := by rw [cell_of_row w11 _ 2 _ _ (0, 0) X11.out.1]; rfl
  have x3 : w11.cell? ⟨w6.heap.size, 3, none⟩ = some (.int .i64 o.til) := by rw [cell_of_row w11 _ 3 _ _ (0, 0) X11.out.1]; rfl
  have y0 : w11.cell? ⟨w8.heap.size, 0, none⟩ = some (.int .i64 o.id) := by rw [cell_of_row w11 _ 0 _ _ (0, 0) X13.out.1]; rfl
  have y1 : w11.cell? ⟨w8.heap.size, 1, none⟩ = some (.slice S13 o.sec.length c13) := by rw [cell_of_row w11 _ 1 _ _ (0, 0) X13.out.1]; rfl
  have y2 : w11.cell? ⟨w8.heap.size, 2, none⟩ = some (.int .i64 o.frm) := by rw [cell_of_row w11 _ 2 _ _ (0, 0) X13.out.1]; rfl
  have y3 : w11.cell? ⟨w8.heap.size, 3, none⟩ = some (.int .i64 o.til) := by rw [cell_of_row w11 _ 3 _ _ (0, 0) X13.out.1]; rfl
  go_wp2_with fail
  refine (samek_named o o.sec.length rfl S11 S13 c11 c13 w11 X11.out.2.2 X13.out.2.2).mono ?_
  clear x0 x1 x2 x3 y0 y1 y2 y3
  rintro e w12 ⟨rfl, hb⟩
  replace L := Lib.hid (L.out.next hb)
  replace X7 := Lib.hid (X7.out.next hb)
  replace X9 := Lib.hid (X9.out.next hb)
  replace X11 := Lib.hid (X11.out.next hb)
  replace X13 := Lib.hid (X13.out.next hb)
  replace HBL := Lib.hid (HBL.out.trans (hb.mono HBL.out.size))
  clear hb
  go_wp2_with fail
  refine (C.is l n b A c w12 HN.out HBB.out HS.out L.out).mono ?_
  rintro e w13 ⟨rfl, hb⟩
  replace L := Lib.hid (L.out.next hb)
  replace X7 := Lib.hid (X7.out.next hb)
  replace X9 := Lib.hid (X9.out.next hb)
  replace X11 := Lib.hid (X11.out.next hb)
  replace X13 := Lib.hid (X13.out.next hb)
  replace HBL := Lib.hid (HBL.out.trans (hb.mono HBL.out.size))
  clear hb
  go_wp2_with fail
  refine (refis_named l n HN.out b HBB.out A c w13 L.out h1).mono ?_
  rintro e w14 ⟨rfl, hb⟩
  replace HBL := Lib.hid (HBL.out.trans (hb.mono HBL.out.size))
  clear hb
  go_wp2_with fail
  go_ret
  exact ⟨by simp, HBL.out⟩

set_option maxRecDepth 100000 in
theorem finds_big (l : List K) (id day : Int) (n : Nat) (hn : n = l.length) (A : Option Addr) (c : Nat) (w : World) (hA : Ks w w.heap.size A l) (hbig : bigR l = true) (h1 : n ≤ 9223372036854775807) :
    Calls Try.prog 3 #[.slice A n c, .int .i64 id, .int .i64 day] w fun e w' => e = .returned (.bool true) ∧ Below w.heap.size w w' := by
  have HN := Lib.hid hn
  have HBIG := Lib.hid hbig
  clear hn hbig
  go_enter Try.func3, Try.ntmps3
  go_wp2_with fail
  refine (refbig_named l n HN.out true HBIG.out A c w hA h1).mono ?_
  rintro e w1 ⟨rfl, hb⟩
  go_wp2_with fail
  go_ret
  exact ⟨rfl, hb⟩
end Go.Proofs.Ytedkgkokfaadfaa
