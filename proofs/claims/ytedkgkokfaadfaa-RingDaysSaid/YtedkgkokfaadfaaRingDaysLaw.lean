/-
  Proved: for all keys and two numbers the law RingDays answers true, and leaves what came in as it was. Conditions: none beyond the statement's own.
-/
import Derived.Test.YtedkgkokfaadfaaRingNamed
namespace Go.Proofs.Ytedkgkokfaadfaa
set_option linter.unusedVariables false
open Go.ChangeShapes Go.WideShapes Go.ChangeAt Go.RowKit

set_option maxRecDepth 100000 in
set_option maxHeartbeats 400000 in
theorem days_big (C : RC) (l : List K) (day i : Int) (n : Nat) (hn : n = l.length) (A : Option Addr) (c : Nat) (w : World) (hA : Ks w w.heap.size A l) (hs : Sl A n c) (h1 : n ≤ 9223372036854775807) (r : K) (E : Int) (hr : r = onK l day) (hE : E = onE l day) (hbig : bigR l = true) :
    Calls Try.prog 6 #[.slice A n c, .int .i64 day, .int .i64 i] w fun e w' => e = .returned (.bool true) ∧ Below w.heap.size w w' := by
  have L := Lib.hid hA
  have HBL := Lib.hid (Below.refl w.heap.size w)
  have HN := Lib.hid hn
  have HS := Lib.hid hs
  have HR := Lib.hid hr
  have HE := Lib.hid hE
  clear hA hn hs hr hE
  have HBIG := Lib.hid hbig
  clear hbig
  go_enter Try.func6, Try.ntmps6
  go_wp2_with fail
  refine (C.on l n day A c w r E HN.out HR.out HE.out HS.out L.out).mono ?_
  rintro e w1 ⟨S7, c7, rfl, hs, hb⟩
  replace L := Lib.hid (L.out.next hb)
  replace HBL := Lib.hid (HBL.out.trans (hb.mono HBL.out.size))
  have HSS := Lib.hid hs
  clear hs hb
  go_wp2_with ((with_reducible refine at_store 7 ?_); refine wpList_store_named (o := ⟨none, .store 26 (.tmp 7) (.tmp 16), _, _, _, _⟩) rfl 26 (.tmp 7) (.tmp 16) rfl w1.heap.size #[.int .i64 r.id, .slice S7 r.sec.length c7, .int .i64 r.frm, .int .i64 r.til] rfl rfl 26 #[.int .i64 0, .slice none 0 0, .int .i64 0, .int .i64 0] (heap_alloc_new w1 _) infoKey rfl (kc_one _ _ _ _ _ _) ?_)
  intro w2 hw
  obtain ⟨hx, hb⟩ := box_made (q := ⟨r, S7, c7⟩) hw.out HSS.out
  replace L := Lib.hid (L.out.next hb)
  replace HBL := Lib.hid (HBL.out.trans (hb.mono HBL.out.size))
  have X7 := Lib.hid hx
  clear hx hb hw HSS
  go_wp2_with fail
  refine (refbig_named l n HN.out true HBIG.out A c w2 L.out h1).mono ?_
  rintro e w3 ⟨rfl, hb⟩
  replace L := Lib.hid (L.out.next hb)
  replace X7 := Lib.hid (X7.out.next hb)
  replace HBL := Lib.hid (HBL.out.trans (hb.mono HBL.out.size))
  clear hb
  go_wp2_with fail
  refine (ringed_any C w3).mono ?_
  rintro e w4 ⟨rfl, hb⟩
  replace L := Lib.hid (L.out.next hb)
  replace X7 := Lib.hid (X7.out.next hb)
  replace HBL := Lib.hid (HBL.out.trans (hb.mono HBL.out.size))
  clear hb
  go_wp2_with fail
  go_ret
  exact ⟨rfl, HBL.out⟩

set_option maxRecDepth 100000 in
set_option maxHeartbeats 400000 in
theorem days_bad (C : RC) (l : List K) (day i : Int) (n : Nat) (hn : n = l.length) (A : Option Addr) (c : Nat) (w : World) (hA : Ks w w.heap.size A l) (hs : Sl A n c) (h1 : n ≤ 9223372036854775807) (r : K) (E : Int) (hr : r = onK l day) (hE : E = onE l day) (hbig : bigR l = false) (h0 : (E == 0) = false) (h00 : (E != 0) = true) :
    Calls Try.prog 6 #[.slice A n c, .int .i64 day, .int .i64 i] w fun e w' => e = .returned (.bool true) ∧ Below w.heap.size w w' := by
  have L := Lib.hid hA
  have HBL := Lib.hid (Below.refl w.heap.size w)
  have HN := Lib.hid hn
  have HS := Lib.hid hs
  have HR := Lib.hid hr
  have HE := Lib.hid hE
  clear hA hn hs hr hE
  have HBIG := Lib.hid hbig
  clear hbig
  go_enter Try.func6, Try.ntmps6
  go_wp2_with fail
  refine (C.on l n day A c w r E HN.out HR.out HE.out HS.out L.out).mono ?_
  rintro e w1 ⟨S7, c7, rfl, hs, hb⟩
  replace L := Lib.hid (L.out.next hb)
  replace HBL := Lib.hid (HBL.out.trans (hb.mono HBL.out.size))
  have HSS := Lib.hid hs
  clear hs hb
  go_wp2_with ((with_reducible refine at_store 7 ?_); refine wpList_store_named (o := ⟨none, .store 26 (.tmp 7) (.tmp 16), _, _, _, _⟩) rfl 26 (.tmp 7) (.tmp 16) rfl w1.heap.size #[.int .i64 r.id, .slice S7 r.sec.length c7, .int .i64 r.frm, .int .i64 r.til] rfl rfl 26 #[.int .i64 0, .slice none 0 0, .int .i64 0, .int .i64 0] (heap_alloc_new w1 _) infoKey rfl (kc_one _ _ _ _ _ _) ?_)
  intro w2 hw
  obtain ⟨hx, hb⟩ := box_made (q := ⟨r, S7, c7⟩) hw.out HSS.out
  replace L := Lib.hid (L.out.next hb)
  replace HBL := Lib.hid (HBL.out.trans (hb.mono HBL.out.size))
  have X7 := Lib.hid hx
  clear hx hb hw HSS
  go_wp2_with fail
  refine (refbig_named l n HN.out false HBIG.out A c w2 L.out h1).mono ?_
  rintro e w3 ⟨rfl, hb⟩
  replace L := Lib.hid (L.out.next hb)
  replace X7 := Lib.hid (X7.out.next hb)
  replace HBL := Lib.hid (HBL.out.trans (hb.mono HBL.out.size))
  clear hb
  go_wp2_with fail
  refine (ringed_any C w3).mono ?_
  rintro e w4 ⟨rfl, hb⟩
  replace L := Lib.hid (L.out.next hb)
  replace X7 := Lib.hid (X7.out.next hb)
  replace HBL := Lib.hid (HBL.out.trans (hb.mono HBL.out.size))
  clear hb
  go_wp2_with fail
  go_ret
  exact ⟨rfl, HBL.out⟩

set_option maxRecDepth 100000 in
set_option maxHeartbeats 400000 in
theorem days_low (C : RC) (l : List K) (day i : Int) (n : Nat) (hn : n = l.length) (A : Option Addr) (c : Nat) (w : World) (hA : Ks w w.heap.size A l) (hs : Sl A n c) (h1 : n ≤ 9223372036854775807) (r : K) (hr : r = onK l day) (hE : 0 = onE l day) (hbig : bigR l = false) (hf1 : r = findK l r.id) (hg1 : 0 = findE l r.id) (hi : i < 0) :
    Calls Try.prog 6 #[.slice A n c, .int .i64 day, .int .i64 i] w fun e w' => e = .returned (.bool true) ∧ Below w.heap.size w w' := by
  have L := Lib.hid hA
  have HBL := Lib.hid (Below.refl w.heap.size w)
  have HN := Lib.hid hn
  have HS := Lib.hid hs
  have HR := Lib.hid hr
  have HE := Lib.hid hE
  clear hA hn hs hr hE
  have HBIG := Lib.hid hbig
  clear hbig
  have HF1 := Lib.hid hf1
  have HG1 := Lib.hid hg1
  clear hf1 hg1
  go_enter Try.func6, Try.ntmps6
  go_wp2_with fail
  refine (C.on l n day A c w r 0 HN.out HR.out HE.out HS.out L.out).mono ?_
  rintro e w1 ⟨S7, c7, rfl, hs, hb⟩
  replace L := Lib.hid (L.out.next hb)
  replace HBL := Lib.hid (HBL.out.trans (hb.mono HBL.out.size))
  have HSS := Lib.hid hs
  clear hs hb
  go_wp2_with ((with_reducible refine at_store 7 ?_); refine wpList_store_named (o := ⟨none, .store 26 (.tmp 7) (.tmp 16), _, _, _, _⟩) rfl 26 (.tmp 7) (.tmp 16) rfl w1.heap.size #[.int .i64 r.id, .slice S7 r.sec.length c7, .int .i64 r.frm, .int .i64 r.til] rfl rfl 26 #[.int .i64 0, .slice none 0 0, .int .i64 0, .int .i64 0] (heap_alloc_new w1 _) infoKey rfl (kc_one _ _ _ _ _ _) ?_)
  intro w2 hw
  obtain ⟨hx, hb⟩ := box_made (q := ⟨r, S7, c7⟩) hw.out HSS.out
  replace L := Lib.hid (L.out.next hb)
  replace HBL := Lib.hid (HBL.out.trans (hb.mono HBL.out.size))
  have X7 := Lib.hid hx
  clear hx hb hw HSS
  go_wp2_with fail
  refine (refbig_named l n HN.out false HBIG.out A c w2 L.out h1).mono ?_
  rintro e w3 ⟨rfl, hb⟩
  replace L := Lib.hid (L.out.next hb)
  replace X7 := Lib.hid (X7.out.next hb)
  replace HBL := Lib.hid (HBL.out.trans (hb.mono HBL.out.size))
  clear hb
  have x0 : w3.cell? ⟨w1.heap.size, 0, none⟩ = some (.int .i64 r.id) := by rw [cell_of_row w3 _ 0 _ _ (0, 0) X7.out.1]; rfl
  go_wp2_with fail
  clear x0
  refine (C.find l n r.id A c w3 r 0 HN.out HF1.out HG1.out HS.out L.out).mono ?_
  rintro e w4 ⟨S9, c9, rfl, hs, hb⟩
  replace L := Lib.hid (L.out.next hb)
  replace X7 := Lib.hid (X7.out.next hb)
  replace HBL := Lib.hid (HBL.out.trans (hb.mono HBL.out.size))
  have HSS := Lib.hid hs
  clear hs hb
  go_wp2_with ((with_reducible refine at_store 9 ?_); refine wpList_store_named (o := ⟨none, .store 26 (.tmp 9) (.tmp 30), _, _, _, _⟩) rfl 26 (.tmp 9) (.tmp 30) rfl w4.heap.size #[.int .i64 r.id, .slice S9 r.sec.length c9, .int .i64 r.frm, .int .i64 r.til] rfl rfl 26 #[.int .i64 0, .slice none 0 0, .int .i64 0, .int .i64 0] (heap_alloc_new w4 _) infoKey rfl (kc_one _ _ _ _ _ _) ?_)
  intro w5 hw
  obtain ⟨hx, hb⟩ := box_made (q := ⟨r, S9, c9⟩) hw.out HSS.out
  replace L := Lib.hid (L.out.next hb)
  replace X7 := Lib.hid (X7.out.next hb)
  replace HBL := Lib.hid (HBL.out.trans (hb.mono HBL.out.size))
  have X9 := Lib.hid hx
  clear hx hb hw HSS
  go_wp2_with fail
  refine (ringed_any C w5).mono ?_
  rintro e w6 ⟨rfl, hb⟩
  replace L := Lib.hid (L.out.next hb)
  replace X7 := Lib.hid (X7.out.next hb)
  replace X9 := Lib.hid (X9.out.next hb)
  replace HBL := Lib.hid (HBL.out.trans (hb.mono HBL.out.size))
  clear hb
  have y0 : w6.cell? ⟨w4.heap.size, 0, none⟩ = some (.int .i64 r.id) := by rw [cell_of_row w6 _ 0 _ _ (0, 0) X9.out.1]; rfl
  have y1 : w6.cell? ⟨w4.heap.size, 1, none⟩ = some (.slice S9 r.sec.length c9) := by rw [cell_of_row w6 _ 1 _ _ (0, 0) X9.out.1]; rfl
  have y2 : w6.cell? ⟨w4.heap.size, 2, none⟩ = some (.int .i64 r.frm) := by rw [cell_of_row w6 _ 2 _ _ (0, 0) X9.out.1]; rfl
  have y3 : w6.cell? ⟨w4.heap.size, 3, none⟩ = some (.int .i64 r.til) := by rw [cell_of_row w6 _ 3 _ _ (0, 0) X9.out.1]; rfl
  have z0 : w6.cell? ⟨w1.heap.size, 0, none⟩ = some (.int .i64 r.id) := by rw [cell_of_row w6 _ 0 _ _ (0, 0) X7.out.1]; rfl
  have z1 : w6.cell? ⟨w1.heap.size, 1, none⟩ = some (.slice S7 r.sec.length c7) := by rw [cell_of_row w6 _ 1 _ _ (0, 0) X7.out.1]; rfl
  have z2 : w6.cell? ⟨w1.heap.size, 2, none⟩ = some (.int .i64 r.frm) := by rw [cell_of_row w6 _ 2 _ _ (0, 0) X7.out.1]; rfl
  have z3 : w6.cell? ⟨w1.heap.size, 3, none⟩ = some (.int .i64 r.til) := by rw [cell_of_row w6 _ 3 _ _ (0, 0) X7.out.1]; rfl
  go_wp2_with fail
  refine (samek_named r r.sec.length rfl S9 S7 c9 c7 w6 X9.out.2.2 X7.out.2.2).mono ?_
  clear y0 y1 y2 y3 z0 z1 z2 z3
  rintro e w7 ⟨rfl, hb⟩
  replace L := Lib.hid (L.out.next hb)
  replace X7 := Lib.hid (X7.out.next hb)
  replace X9 := Lib.hid (X9.out.next hb)
  replace HBL := Lib.hid (HBL.out.trans (hb.mono HBL.out.size))
  clear hb
  go_wp2_with fail
  go_ret
  exact ⟨rfl, HBL.out⟩

set_option maxRecDepth 100000 in
set_option maxHeartbeats 400000 in
theorem days_high (C : RC) (l : List K) (day i : Int) (n : Nat) (hn : n = l.length) (A : Option Addr) (c : Nat) (w : World) (hA : Ks w w.heap.size A l) (hs : Sl A n c) (h1 : n ≤ 9223372036854775807) (r : K) (hr : r = onK l day) (hE : 0 = onE l day) (hbig : bigR l = false) (hf1 : r = findK l r.id) (hg1 : 0 = findE l r.id) (hi0 : 0 ≤ i) (hi : (n : Int) ≤ i) :
    Calls Try.prog 6 #[.slice A n c, .int .i64 day, .int .i64 i] w fun e w' => e = .returned (.bool true) ∧ Below w.heap.size w w' := by
  have L := Lib.hid hA
  have HBL := Lib.hid (Below.refl w.heap.size w)
  have HN := Lib.hid hn
  have HS := Lib.hid hs
  have HR := Lib.hid hr
  have HE := Lib.hid hE
  clear hA hn hs hr hE
  have HBIG := Lib.hid hbig
  clear hbig
  have HF1 := Lib.hid hf1
  have HG1 := Lib.hid hg1
  clear hf1 hg1
  go_enter Try.func6, Try.ntmps6
  go_wp2_with fail
  refine (C.on l n day A c w r 0 HN.out HR.out HE.out HS.out L.out).mono ?_
  rintro e w1 ⟨S7, c7, rfl, hs, hb⟩
  replace L := Lib.hid (L.out.next hb)
  replace HBL := Lib.hid (HBL.out.trans (hb.mono HBL.out.size))
  have HSS := Lib.hid hs
  clear hs hb
  go_wp2_with ((with_reducible refine at_store 7 ?_); refine wpList_store_named (o := ⟨none, .store 26 (.tmp 7) (.tmp 16), _, _, _, _⟩) rfl 26 (.tmp 7) (.tmp 16) rfl w1.heap.size #[.int .i64 r.id, .slice S7 r.sec.length c7, .int .i64 r.frm, .int .i64 r.til] rfl rfl 26 #[.int .i64 0, .slice none 0 0, .int .i64 0, .int .i64 0] (heap_alloc_new w1 _) infoKey rfl (kc_one _ _ _ _ _ _) ?_)
  intro w2 hw
  obtain ⟨hx, hb⟩ := box_made (q := ⟨r, S7, c7⟩) hw.out HSS.out
  replace L := Lib.hid (L.out.next hb)
  replace HBL := Lib.hid (HBL.out.trans (hb.mono HBL.out.size))
  have X7 := Lib.hid hx
  clear hx hb hw HSS
  go_wp2_with fail
  refine (refbig_named l n HN.out false HBIG.out A c w2 L.out h1).mono ?_
  rintro e w3 ⟨rfl, hb⟩
  replace L := Lib.hid (L.out.next hb)
  replace X7 := Lib.hid (X7.out.next hb)
  replace HBL := Lib.hid (HBL.out.trans (hb.mono HBL.out.size))
  clear hb
  have x0 : w3.cell? ⟨w1.heap.size, 0, none⟩ = some (.int .i64 r.id) := by rw [cell_of_row w3 _ 0 _ _ (0, 0) X7.out.1]; rfl
  go_wp2_with fail
  clear x0
  refine (C.find l n r.id A c w3 r 0 HN.out HF1.out HG1.out HS.out L.out).mono ?_
  rintro e w4 ⟨S9, c9, rfl, hs, hb⟩
  replace L := Lib.hid (L.out.next hb)
  replace X7 := Lib.hid (X7.out.next hb)
  replace HBL := Lib.hid (HBL.out.trans (hb.mono HBL.out.size))
  have HSS := Lib.hid hs
  clear hs hb
  go_wp2_with ((with_reducible refine at_store 9 ?_); refine wpList_store_named (o := ⟨none, .store 26 (.tmp 9) (.tmp 30), _, _, _, _⟩) rfl 26 (.tmp 9) (.tmp 30) rfl w4.heap.size #[.int .i64 r.id, .slice S9 r.sec.length c9, .int .i64 r.frm, .int .i64 r.til] rfl rfl 26 #[.int .i64 0, .slice none 0 0, .int .i64 0, .int .i64 0] (heap_alloc_new w4 _) infoKey rfl (kc_one _ _ _ _ _ _) ?_)
  intro w5 hw
  obtain ⟨hx, hb⟩ := box_made (q := ⟨r, S9, c9⟩) hw.out HSS.out
  replace L := Lib.hid (L.out.next hb)
  replace X7 := Lib.hid (X7.out.next hb)
  replace HBL := Lib.hid (HBL.out.trans (hb.mono HBL.out.size))
  have X9 := Lib.hid hx
  clear hx hb hw HSS
  go_wp2_with fail
  refine (ringed_any C w5).mono ?_
  rintro e w6 ⟨rfl, hb⟩
  replace L := Lib.hid (L.out.next hb)
  replace X7 := Lib.hid (X7.out.next hb)
  replace X9 := Lib.hid (X9.out.next hb)
  replace HBL := Lib.hid (HBL.out.trans (hb.mono HBL.out.size))
  clear hb
  have y0 : w6.cell? ⟨w4.heap.size, 0, none⟩ = some (.int .i64 r.id) := by rw [cell_of_row w6 _ 0 _ _ (0, 0) X9.out.1]; rfl
  have y1 : w6.cell? ⟨w4.heap.size, 1, none⟩ = some (.slice S9 r.sec.length c9) := by rw [cell_of_row w6 _ 1 _ _ (0, 0) X9.out.1]; rfl
  have y2 : w6.cell? ⟨w4.heap.size, 2, none⟩ = some (.int .i64 r.frm) := by rw [cell_of_row w6 _ 2 _ _ (0, 0) X9.out.1]; rfl
  have y3 : w6.cell? ⟨w4.heap.size, 3, none⟩ = some (.int .i64 r.til) := by rw [cell_of_row w6 _ 3 _ _ (0, 0) X9.out.1]; rfl
  have z0 : w6.cell? ⟨w1.heap.size, 0, none⟩ = some (.int .i64 r.id) := by rw [cell_of_row w6 _ 0 _ _ (0, 0) X7.out.1]; rfl
  have z1 : w6.cell? ⟨w1.heap.size, 1, none⟩ = some (.slice S7 r.sec.length c7) := by rw [cell_of_row w6 _ 1 _ _ (0, 0) X7.out.1]; rfl
  have z2 : w6.cell? ⟨w1.heap.size, 2, none⟩ = some (.int .i64 r.frm) := by rw [cell_of_row w6 _ 2 _ _ (0, 0) X7.out.1]; rfl
  have z3 : w6.cell? ⟨w1.heap.size, 3, none⟩ = some (.int .i64 r.til) := by rw [cell_of_row w6 _ 3 _ _ (0, 0) X7.out.1]; rfl
  go_wp2_with fail
  refine (samek_named r r.sec.length rfl S9 S7 c9 c7 w6 X9.out.2.2 X7.out.2.2).mono ?_
  clear y0 y1 y2 y3 z0 z1 z2 z3
  rintro e w7 ⟨rfl, hb⟩
  replace L := Lib.hid (L.out.next hb)
  replace X7 := Lib.hid (X7.out.next hb)
  replace X9 := Lib.hid (X9.out.next hb)
  replace HBL := Lib.hid (HBL.out.trans (hb.mono HBL.out.size))
  clear hb
  go_wp2_with fail
  go_ret
  exact ⟨rfl, HBL.out⟩

set_option maxRecDepth 100000 in
set_option maxHeartbeats 400000 in
theorem days_used (C : RC) (l : List K) (day : Int) (i : Nat) (n : Nat) (hn : n = l.length) (A : Option Addr) (c : Nat) (w : World) (hA : Ks w w.heap.size A l) (hs : Sl A n c) (h1 : n ≤ 9223372036854775807) (r : K) (hr : r = onK l day) (hE : 0 = onE l day) (hbig : bigR l = false) (hf1 : r = findK l r.id) (hg1 : 0 = findE l r.id) (hi : i < n) (b5 : r.frm ≤ day) (b6 : day ≤ r.til) (hu1 : (l.getD i K0).frm ≤ day) (hu2 : day ≤ (l.getD i K0).til) (hle : (l.getD i K0).id ≤ r.id) :
    Calls Try.prog 6 #[.slice A n c, .int .i64 day, .int .i64 (i : Int)] w fun e w' => e = .returned (.bool true) ∧ Below w.heap.size w w' := by
  have L := Lib.hid hA
  have HBL := Lib.hid (Below.refl w.heap.size w)
  have HN := Lib.hid hn
  have HS := Lib.hid hs
  have HR := Lib.hid hr
  have HE := Lib.hid hE
  clear hA hn hs hr hE
  have HBIG := Lib.hid hbig
  clear hbig
  have HF1 := Lib.hid hf1
  have HG1 := Lib.hid hg1
  clear hf1 hg1
  obtain ⟨ad, S, cc, rfl, had, hk⟩ := L.out i (by rw [← HN.out]; exact hi)
  obtain ⟨x, hx⟩ : ∃ x, x = l.getD i K0 := ⟨_, rfl⟩
  rw [← hx] at hk
  have HK := Lib.hid hk
  rw [← hx] at hu1 hu2 hle
  have bi0 : (0 : Int) ≤ (i : Int) := by omega
  have bi1 : (i : Int) < (n : Int) := by omega
  have b8 : x.frm ≤ day := hu1
  have b9 : day ≤ x.til := hu2
  have b7 : x.id ≤ r.id := hle
  clear hk hx
  go_enter Try.func6, Try.ntmps6
  go_wp2_with fail
  refine (C.on l n day (some ad) c w r 0 HN.out HR.out HE.out HS.out L.out).mono ?_
  rintro e w1 ⟨S7, c7, rfl, hs, hb⟩
  replace L := Lib.hid (L.out.next hb)
  replace HBL := Lib.hid (HBL.out.trans (hb.mono HBL.out.size))
  have HSS := Lib.hid hs
  clear hs hb
  go_wp2_with ((with_reducible refine at_store 7 ?_); refine wpList_store_named (o := ⟨none, .store 26 (.tmp 7) (.tmp 16), _, _, _, _⟩) rfl 26 (.tmp 7) (.tmp 16) rfl w1.heap.size #[.int .i64 r.id, .slice S7 r.sec.length c7, .int .i64 r.frm, .int .i64 r.til] rfl rfl 26 #[.int .i64 0, .slice none 0 0, .int .i64 0, .int .i64 0] (heap_alloc_new w1 _) infoKey rfl (kc_one _ _ _ _ _ _) ?_)
  intro w2 hw
  obtain ⟨hx, hb⟩ := box_made (q := ⟨r, S7, c7⟩) hw.out HSS.out
  replace L := Lib.hid (L.out.next hb)
  replace HBL := Lib.hid (HBL.out.trans (hb.mono HBL.out.size))
  have X7 := Lib.hid hx
  clear hx hb hw HSS
  go_wp2_with fail
  refine (refbig_named l n HN.out false HBIG.out (some ad) c w2 L.out h1).mono ?_
  rintro e w3 ⟨rfl, hb⟩
  replace L := Lib.hid (L.out.next hb)
  replace X7 := Lib.hid (X7.out.next hb)
  replace HBL := Lib.hid (HBL.out.trans (hb.mono HBL.out.size))
  clear hb
  have x0 : w3.cell? ⟨w1.heap.size, 0, none⟩ = some (.int .i64 r.id) := by rw [cell_of_row w3 _ 0 _ _ (0, 0) X7.out.1]; rfl
  go_wp2_with fail
  clear x0
  refine (C.find l n r.id (some ad) c w3 r 0 HN.out HF1.out HG1.out HS.out L.out).mono ?_
  rintro e w4 ⟨S9, c9, rfl, hs, hb⟩
  replace L := Lib.hid (L.out.next hb)
  replace X7 := Lib.hid (X7.out.next hb)
  replace HBL := Lib.hid (HBL.out.trans (hb.mono HBL.out.size))
  have HSS := Lib.hid hs
  clear hs hb
  go_wp2_with ((with_reducible refine at_store 9 ?_); refine wpList_store_named (o := ⟨none, .store 26 (.tmp 9) (.tmp 30), _, _, _, _⟩) rfl 26 (.tmp 9) (.tmp 30) rfl w4.heap.size #[.int .i64 r.id, .slice S9 r.sec.length c9, .int .i64 r.frm, .int .i64 r.til] rfl rfl 26 #[.int .i64 0, .slice none 0 0, .int .i64 0, .int .i64 0] (heap_alloc_new w4 _) infoKey rfl (kc_one _ _ _ _ _ _) ?_)
  intro w5 hw
  obtain ⟨hx, hb⟩ := box_made (q := ⟨r, S9, c9⟩) hw.out HSS.out
  replace L := Lib.hid (L.out.next hb)
  replace X7 := Lib.hid (X7.out.next hb)
  replace HBL := Lib.hid (HBL.out.trans (hb.mono HBL.out.size))
  have X9 := Lib.hid hx
  clear hx hb hw HSS
  have hk6 := HK.out.below (by rw [add_block]; exact had) (Nat.le_refl _) HBL.out
  have d2 := hk6.c2
  have d3 := hk6.c3
  clear hk6
  go_wp2_with fail
  clear d2 d3
  refine wp_region_held_drew (S := fun w' => Box w' w1.heap.size ⟨r, S7, c7⟩ ∧ Below w.heap.size w w') (by kernel_rfl) (And.intro (X7.out.next (Below.refl _ _).drew) HBL.out.drew) (fun hHeld => ?_)
  refine wpAnyH_ready (rs := [0]) (by kernel_rfl) (by simp) ?_
  refine AllReadyH.cons (o := ⟨some 66, .call _, _, _, _, _⟩) rfl (fun K hK => ?_) AllReadyH.nil
  go_simp
  go_at_call 13
  refine (ringed_any C w5.drew).mono ?_
  rintro e w6 ⟨rfl, hb⟩
  go_wp2_with fail
  replace X7 := Lib.hid (X7.out.next ((Below.refl _ _).drew.trans hb))
  replace HBL := Lib.hid (HBL.out.trans (((Below.refl _ _).drew.trans hb).mono HBL.out.size))
  clear hb
  refine hK.out _ _ (And.intro X7.out HBL.out) (fun hHeld => ?_)
  clear hK K
  try simp only [Act.put, List.setIfInBounds_toArray, List.set_cons_zero, List.set_cons_succ]
  refine wpAnyH_take (i := 1) (oi := ⟨some 67, _, _, _, _, _⟩) (v := ?_) rfl (by kernel_rfl) (by kernel_rfl) (by kernel_rfl) (fun _ _ _ h => h) (Or.inl ⟨by rfl, ?_⟩) hHeld ?_
  rotate_left
  · intro w hSw
    go_simp
    first | done | with_reducible rfl
  try simp only [Act.put, List.setIfInBounds_toArray, List.set_cons_zero, List.set_cons_succ]
  refine wpAnyH_take (i := 2) (oi := ⟨some 68, _, _, _, _, _⟩) (v := ?_) rfl (by kernel_rfl) (by kernel_rfl) (by kernel_rfl) (fun _ _ _ h => h) (Or.inl ⟨by rfl, ?_⟩) hHeld ?_
  rotate_left
  · intro w hSw
    go_simp
    first | done | with_reducible rfl
  try simp only [Act.put, List.setIfInBounds_toArray, List.set_cons_zero, List.set_cons_succ]
  refine wpAnyH_take (i := 3) (oi := ⟨some 69, _, _, _, _, _⟩) (v := ?_) rfl (by kernel_rfl) (by kernel_rfl) (by kernel_rfl) (fun _ _ _ h => h) (Or.inl ⟨by rfl, ?_⟩) hHeld ?_
  rotate_left
  · intro w hSw
    obtain ⟨⟨hbx, _, _⟩, hbw⟩ := hSw
    have k0 : w.cell? ⟨w1.heap.size, 0, none⟩ = some (.int .i64 r.id) := by rw [cell_of_row w _ 0 _ _ (0, 0) hbx]; rfl
    have k2 : w.cell? ⟨w1.heap.size, 2, none⟩ = some (.int .i64 r.frm) := by rw [cell_of_row w _ 2 _ _ (0, 0) hbx]; rfl
    have k3 : w.cell? ⟨w1.heap.size, 3, none⟩ = some (.int .i64 r.til) := by rw [cell_of_row w _ 3 _ _ (0, 0) hbx]; rfl
    go_simp
    first | done | with_reducible rfl
  try simp only [Act.put, List.setIfInBounds_toArray, List.set_cons_zero, List.set_cons_succ]
  refine wpAnyH_take (i := 4) (oi := ⟨some 70, _, _, _, _, _⟩) (v := ?_) rfl (by kernel_rfl) (by kernel_rfl) (by kernel_rfl) (fun _ _ _ h => h) (Or.inl ⟨by rfl, ?_⟩) hHeld ?_
  rotate_left
  · intro w hSw
    go_simp
    first | done | with_reducible rfl
  try simp only [Act.put, List.setIfInBounds_toArray, List.set_cons_zero, List.set_cons_succ]
  refine wpAnyH_take (i := 5) (oi := ⟨some 71, _, _, _, _, _⟩) (v := .bool true) rfl (by kernel_rfl) (by kernel_rfl) (by kernel_rfl) (fun _ _ _ h => h) (Or.inl ⟨by rfl, ?_⟩) hHeld ?_
  · intro w hSw
    go_simp
    first | done | omega | (simp [b5]; done) | (simp; omega)
  try simp only [Act.put, List.setIfInBounds_toArray, List.set_cons_zero, List.set_cons_succ]
  refine wpAnyH_take (i := 6) (oi := ⟨some 72, _, _, _, _, _⟩) (v := ?_) rfl (by kernel_rfl) (by kernel_rfl) (by kernel_rfl) (fun _ _ _ h => h) (Or.inl ⟨by rfl, ?_⟩) hHeld ?_
  rotate_left
  · intro w hSw
    go_simp
    first | done | with_reducible rfl
  try simp only [Act.put, List.setIfInBounds_toArray, List.set_cons_zero, List.set_cons_succ]
  refine wpAnyH_take (i := 7) (oi := ⟨some 73, _, _, _, _, _⟩) (v := ?_) rfl (by kernel_rfl) (by kernel_rfl) (by kernel_rfl) (fun _ _ _ h => h) (Or.inl ⟨by rfl, ?_⟩) hHeld ?_
  rotate_left
  · intro w hSw
    go_simp
    first | done | with_reducible rfl
  try simp only [Act.put, List.setIfInBounds_toArray, List.set_cons_zero, List.set_cons_succ]
  refine wpAnyH_take (i := 8) (oi := ⟨some 74, _, _, _, _, _⟩) (v := ?_) rfl (by kernel_rfl) (by kernel_rfl) (by kernel_rfl) (fun _ _ _ h => h) (Or.inl ⟨by rfl, ?_⟩) hHeld ?_
  rotate_left
  · intro w hSw
    go_simp
    first | done | with_reducible rfl
  try simp only [Act.put, List.setIfInBounds_toArray, List.set_cons_zero, List.set_cons_succ]
  refine wpAnyH_take (i := 9) (oi := ⟨some 75, _, _, _, _, _⟩) (v := ?_) rfl (by kernel_rfl) (by kernel_rfl) (by kernel_rfl) (fun _ _ _ h => h) (Or.inl ⟨by rfl, ?_⟩) hHeld ?_
  rotate_left
  · intro w hSw
    go_simp
    first | done | with_reducible rfl
  try simp only [Act.put, List.setIfInBounds_toArray, List.set_cons_zero, List.set_cons_succ]
  refine wpAnyH_take (i := 10) (oi := ⟨some 76, _, _, _, _, _⟩) (v := ?_) rfl (by kernel_rfl) (by kernel_rfl) (by kernel_rfl) (fun _ _ _ h => h) (Or.inl ⟨by rfl, ?_⟩) hHeld ?_
  rotate_left
  · intro w hSw
    obtain ⟨⟨hbx, _, _⟩, hbw⟩ := hSw
    have k0 : w.cell? ⟨w1.heap.size, 0, none⟩ = some (.int .i64 r.id) := by rw [cell_of_row w _ 0 _ _ (0, 0) hbx]; rfl
    have k2 : w.cell? ⟨w1.heap.size, 2, none⟩ = some (.int .i64 r.frm) := by rw [cell_of_row w _ 2 _ _ (0, 0) hbx]; rfl
    have k3 : w.cell? ⟨w1.heap.size, 3, none⟩ = some (.int .i64 r.til) := by rw [cell_of_row w _ 3 _ _ (0, 0) hbx]; rfl
    go_simp
    first | done | with_reducible rfl
  try simp only [Act.put, List.setIfInBounds_toArray, List.set_cons_zero, List.set_cons_succ]
  refine wpAnyH_take (i := 11) (oi := ⟨some 77, _, _, _, _, _⟩) (v := .bool true) rfl (by kernel_rfl) (by kernel_rfl) (by kernel_rfl) (fun _ _ _ h => h) (Or.inl ⟨by rfl, ?_⟩) hHeld ?_
  · intro w hSw
    go_simp
    first | done | omega | (simp [b6]; done) | (simp; omega)
  try simp only [Act.put, List.setIfInBounds_toArray, List.set_cons_zero, List.set_cons_succ]
  refine wpAnyH_take (i := 12) (oi := ⟨some 78, _, _, _, _, _⟩) (v := ?_) rfl (by kernel_rfl) (by kernel_rfl) (by kernel_rfl) (fun _ _ _ h => h) (Or.inl ⟨by rfl, ?_⟩) hHeld ?_
  rotate_left
  · intro w hSw
    go_simp
    first | done | with_reducible rfl
  try simp only [Act.put, List.setIfInBounds_toArray, List.set_cons_zero, List.set_cons_succ]
  refine wpAnyH_take (i := 13) (oi := ⟨some 79, _, _, _, _, _⟩) (v := ?_) rfl (by kernel_rfl) (by kernel_rfl) (by kernel_rfl) (fun _ _ _ h => h) (Or.inl ⟨by rfl, ?_⟩) hHeld ?_
  rotate_left
  · intro w hSw
    go_simp
    first | done | with_reducible rfl
  try simp only [Act.put, List.setIfInBounds_toArray, List.set_cons_zero, List.set_cons_succ]
  refine wpAnyH_take (i := 14) (oi := ⟨some 80, _, _, _, _, _⟩) (v := ?_) rfl (by kernel_rfl) (by kernel_rfl) (by kernel_rfl) (fun _ _ _ h => h) (Or.inl ⟨by rfl, ?_⟩) hHeld ?_
  rotate_left
  · intro w hSw
    go_simp
    first | done | with_reducible rfl
  try simp only [Act.put, List.setIfInBounds_toArray, List.set_cons_zero, List.set_cons_succ]
  refine wpAnyH_take (i := 15) (oi := ⟨some 81, _, _, _, _, _⟩) (v := ?_) rfl (by kernel_rfl) (by kernel_rfl) (by kernel_rfl) (fun _ _ _ h => h) (Or.inl ⟨by rfl, ?_⟩) hHeld ?_
  rotate_left
  · intro w hSw
    go_simp
    first | done | with_reducible rfl
  try simp only [Act.put, List.setIfInBounds_toArray, List.set_cons_zero, List.set_cons_succ]
  refine wpAnyH_take (i := 16) (oi := ⟨some 82, _, _, _, _, _⟩) (v := ?_) rfl (by kernel_rfl) (by kernel_rfl) (by kernel_rfl) (fun _ _ _ h => h) (Or.inl ⟨by rfl, ?_⟩) hHeld ?_
  rotate_left
  · intro w hSw
    go_simp
    first | done | with_reducible rfl
  try simp only [Act.put, List.setIfInBounds_toArray, List.set_cons_zero, List.set_cons_succ]
  refine wpAnyH_take (i := 17) (oi := ⟨some 83, _, _, _, _, _⟩) (v := ?_) rfl (by kernel_rfl) (by kernel_rfl) (by kernel_rfl) (fun _ _ _ h => h) (Or.inl ⟨by rfl, ?_⟩) hHeld ?_
  rotate_left
  · intro w hSw
    go_simp
    first | done | with_reducible rfl
  try simp only [Act.put, List.setIfInBounds_toArray, List.set_cons_zero, List.set_cons_succ]
  refine wpAnyH_take (i := 18) (oi := ⟨some 84, _, _, _, _, _⟩) (v := ?_) rfl (by kernel_rfl) (by kernel_rfl) (by kernel_rfl) (fun _ _ _ h => h) (Or.inl ⟨by rfl, ?_⟩) hHeld ?_
  rotate_left
  · intro w hSw
    go_simp
    first | done | with_reducible rfl
  try simp only [Act.put, List.setIfInBounds_toArray, List.set_cons_zero, List.set_cons_succ]
  refine wpAnyH_take (i := 19) (oi := ⟨some 85, _, _, _, _, _⟩) (v := ?_) rfl (by kernel_rfl) (by kernel_rfl) (by kernel_rfl) (fun _ _ _ h => h) (Or.inl ⟨by rfl, ?_⟩) hHeld ?_
  rotate_left
  · intro w hSw
    go_simp
    first | done | with_reducible rfl
  try simp only [Act.put, List.setIfInBounds_toArray, List.set_cons_zero, List.set_cons_succ]
  refine wpAnyH_take (i := 20) (oi := ⟨some 86, _, _, _, _, _⟩) (v := ?_) rfl (by kernel_rfl) (by kernel_rfl) (by kernel_rfl) (fun _ _ _ h => h) (Or.inl ⟨by rfl, ?_⟩) hHeld ?_
  rotate_left
  · intro w hSw
    go_simp
    first | done | with_reducible rfl
  try simp only [Act.put, List.setIfInBounds_toArray, List.set_cons_zero, List.set_cons_succ]
  refine wpAnyH_take (i := 21) (oi := ⟨some 87, _, _, _, _, _⟩) (v := ?_) rfl (by kernel_rfl) (by kernel_rfl) (by kernel_rfl) (fun _ _ _ h => h) (Or.inl ⟨by rfl, ?_⟩) hHeld ?_
  rotate_left
  · intro w hSw
    obtain ⟨_, hbw⟩ := hSw
    have hk6 := HK.out.below (by rw [add_block]; exact had) (Nat.le_refl _) hbw
    have d0 := hk6.c0
    clear hk6
    go_simp
    first | done | with_reducible rfl
  try simp only [Act.put, List.setIfInBounds_toArray, List.set_cons_zero, List.set_cons_succ]
  refine wpAnyH_take (i := 22) (oi := ⟨some 88, _, _, _, _, _⟩) (v := ?_) rfl (by kernel_rfl) (by kernel_rfl) (by kernel_rfl) (fun _ _ _ h => h) (Or.inl ⟨by rfl, ?_⟩) hHeld ?_
  rotate_left
  · intro w hSw
    go_simp
    first | done | with_reducible rfl
  try simp only [Act.put, List.setIfInBounds_toArray, List.set_cons_zero, List.set_cons_succ]
  refine wpAnyH_take (i := 23) (oi := ⟨some 89, _, _, _, _, _⟩) (v := ?_) rfl (by kernel_rfl) (by kernel_rfl) (by kernel_rfl) (fun _ _ _ h => h) (Or.inl ⟨by rfl, ?_⟩) hHeld ?_
  rotate_left
  · intro w hSw
    obtain ⟨⟨hbx, _, _⟩, hbw⟩ := hSw
    have k0 : w.cell? ⟨w1.heap.size, 0, none⟩ = some (.int .i64 r.id) := by rw [cell_of_row w _ 0 _ _ (0, 0) hbx]; rfl
    have k2 : w.cell? ⟨w1.heap.size, 2, none⟩ = some (.int .i64 r.frm) := by rw [cell_of_row w _ 2 _ _ (0, 0) hbx]; rfl
    have k3 : w.cell? ⟨w1.heap.size, 3, none⟩ = some (.int .i64 r.til) := by rw [cell_of_row w _ 3 _ _ (0, 0) hbx]; rfl
    go_simp
    first | done | with_reducible rfl
  try simp only [Act.put, List.setIfInBounds_toArray, List.set_cons_zero, List.set_cons_succ]
  refine wpAnyH_take (i := 24) (oi := ⟨some 90, _, _, _, _, _⟩) (v := .bool true) rfl (by kernel_rfl) (by kernel_rfl) (by kernel_rfl) (fun _ _ _ h => h) (Or.inl ⟨by rfl, ?_⟩) hHeld ?_
  · intro w hSw
    go_simp
    first | done | omega | (simp [b7]; done) | (simp; omega)
  try simp only [Act.put, List.setIfInBounds_toArray, List.set_cons_zero, List.set_cons_succ]
  refine wpAnyH_take (i := 25) (oi := ⟨some 91, _, _, _, _, _⟩) (v := ?_) rfl (by kernel_rfl) (by kernel_rfl) (by kernel_rfl) (fun _ _ _ h => h) (Or.inl ⟨by rfl, ?_⟩) hHeld ?_
  rotate_left
  · intro w hSw
    go_simp
    first | done | with_reducible rfl
  try simp only [Act.put, List.setIfInBounds_toArray, List.set_cons_zero, List.set_cons_succ]
  refine wpAnyH_take (i := 26) (oi := ⟨some 92, _, _, _, _, _⟩) (v := ?_) rfl (by kernel_rfl) (by kernel_rfl) (by kernel_rfl) (fun _ _ _ h => h) (Or.inl ⟨by rfl, ?_⟩) hHeld ?_
  rotate_left
  · intro w hSw
    go_simp
    first | done | with_reducible rfl
  try simp only [Act.put, List.setIfInBounds_toArray, List.set_cons_zero, List.set_cons_succ]
  refine wpAnyH_take (i := 27) (oi := ⟨some 6, _, _, _, _, _⟩) (v := ?_) rfl (by kernel_rfl) (by kernel_rfl) (by kernel_rfl) (fun _ _ _ h => h) (Or.inl ⟨by rfl, ?_⟩) hHeld ?_
  rotate_left
  · intro w hSw
    go_simp
    first | done | with_reducible rfl
  try simp only [Act.put, List.setIfInBounds_toArray, List.set_cons_zero, List.set_cons_succ]
  refine wpAnyH_done (by kernel_rfl) ?_ _
  go_wp2_with fail
  go_ret
  exact ⟨rfl, HBL.out⟩

set_option maxRecDepth 100000 in
set_option maxHeartbeats 400000 in
theorem days_unused1 (C : RC) (l : List K) (day : Int) (i : Nat) (n : Nat) (hn : n = l.length) (A : Option Addr) (c : Nat) (w : World) (hA : Ks w w.heap.size A l) (hs : Sl A n c) (h1 : n ≤ 9223372036854775807) (r : K) (hr : r = onK l day) (hE : 0 = onE l day) (hbig : bigR l = false) (hf1 : r = findK l r.id) (hg1 : 0 = findE l r.id) (hi : i < n) (b5 : r.frm ≤ day) (b6 : day ≤ r.til) (hu1 : day < (l.getD i K0).frm) :
    Calls Try.prog 6 #[.slice A n c, .int .i64 day, .int .i64 (i : Int)] w fun e w' => e = .returned (.bool true) ∧ Below w.heap.size w w' := by
  have L := Lib.hid hA
  have HBL := Lib.hid (Below.refl w.heap.size w)
  have HN := Lib.hid hn
  have HS := Lib.hid hs
  have HR := Lib.hid hr
  have HE := Lib.hid hE
  clear hA hn hs hr hE
  have HBIG := Lib.hid hbig
  clear hbig
  have HF1 := Lib.hid hf1
  have HG1 := Lib.hid hg1
  clear hf1 hg1
  obtain ⟨ad, S, cc, rfl, had, hk⟩ := L.out i (by rw [← HN.out]; exact hi)
  obtain ⟨x, hx⟩ : ∃ x, x = l.getD i K0 := ⟨_, rfl⟩
  rw [← hx] at hk
  have HK := Lib.hid hk
  rw [← hx] at hu1
  have bi0 : (0 : Int) ≤ (i : Int) := by omega
  have bi1 : (i : Int) < (n : Int) := by omega
  have b8 : ¬ (x.frm ≤ day) := by omega
  clear hk hx
  go_enter Try.func6, Try.ntmps6
  go_wp2_with fail
  refine (C.on l n day (some ad) c w r 0 HN.out HR.out HE.out HS.out L.out).mono ?_
  rintro e w1 ⟨S7, c7, rfl, hs, hb⟩
  replace L := Lib.hid (L.out.next hb)
  replace HBL := Lib.hid (HBL.out.trans (hb.mono HBL.out.size))
  have HSS := Lib.hid hs
  clear hs hb
  go_wp2_with ((with_reducible refine at_store 7 ?_); refine wpList_store_named (o := ⟨none, .store 26 (.tmp 7) (.tmp 16), _, _, _, _⟩) rfl 26 (.tmp 7) (.tmp 16) rfl w1.heap.size #[.int .i64 r.id, .slice S7 r.sec.length c7, .int .i64 r.frm, .int .i64 r.til] rfl rfl 26 #[.int .i64 0, .slice none 0 0, .int .i64 0, .int .i64 0] (heap_alloc_new w1 _) infoKey rfl (kc_one _ _ _ _ _ _) ?_)
  intro w2 hw
  obtain ⟨hx, hb⟩ := box_made (q := ⟨r, S7, c7⟩) hw.out HSS.out
  replace L := Lib.hid (L.out.next hb)
  replace HBL := Lib.hid (HBL.out.trans (hb.mono HBL.out.size))
  have X7 := Lib.hid hx
  clear hx hb hw HSS
  go_wp2_with fail
  refine (refbig_named l n HN.out false HBIG.out (some ad) c w2 L.out h1).mono ?_
  rintro e w3 ⟨rfl, hb⟩
  replace L := Lib.hid (L.out.next hb)
  replace X7 := Lib.hid (X7.out.next hb)
  replace HBL := Lib.hid (HBL.out.trans (hb.mono HBL.out.size))
  clear hb
  have x0 : w3.cell? ⟨w1.heap.size, 0, none⟩ = some (.int .i64 r.id) := by rw [cell_of_row w3 _ 0 _ _ (0, 0) X7.out.1]; rfl
  go_wp2_with fail
  clear x0
  refine (C.find l n r.id (some ad) c w3 r 0 HN.out HF1.out HG1.out HS.out L.out).mono ?_
  rintro e w4 ⟨S9, c9, rfl, hs, hb⟩
  replace L := Lib.hid (L.out.next hb)
  replace X7 := Lib.hid (X7.out.next hb)
  replace HBL := Lib.hid (HBL.out.trans (hb.mono HBL.out.size))
  have HSS := Lib.hid hs
  clear hs hb
  go_wp2_with ((with_reducible refine at_store 9 ?_); refine wpList_store_named (o := ⟨none, .store 26 (.tmp 9) (.tmp 30), _, _, _, _⟩) rfl 26 (.tmp 9) (.tmp 30) rfl w4.heap.size #[.int .i64 r.id, .slice S9 r.sec.length c9, .int .i64 r.frm, .int .i64 r.til] rfl rfl 26 #[.int .i64 0, .slice none 0 0, .int .i64 0, .int .i64 0] (heap_alloc_new w4 _) infoKey rfl (kc_one _ _ _ _ _ _) ?_)
  intro w5 hw
  obtain ⟨hx, hb⟩ := box_made (q := ⟨r, S9, c9⟩) hw.out HSS.out
  replace L := Lib.hid (L.out.next hb)
  replace X7 := Lib.hid (X7.out.next hb)
  replace HBL := Lib.hid (HBL.out.trans (hb.mono HBL.out.size))
  have X9 := Lib.hid hx
  clear hx hb hw HSS
  have hk6 := HK.out.below (by rw [add_block]; exact had) (Nat.le_refl _) HBL.out
  have d2 := hk6.c2
  have d3 := hk6.c3
  clear hk6
  go_wp2_with fail
  clear d2 d3
  refine wp_region_held_drew (S := fun w' => Box w' w1.heap.size ⟨r, S7, c7⟩ ∧ Below w.heap.size w w') (by kernel_rfl) (And.intro (X7.out.next (Below.refl _ _).drew) HBL.out.drew) (fun hHeld => ?_)
  refine wpAnyH_ready (rs := [0]) (by kernel_rfl) (by simp) ?_
  refine AllReadyH.cons (o := ⟨some 66, .call _, _, _, _, _⟩) rfl (fun K hK => ?_) AllReadyH.nil
  go_simp
  go_at_call 13
  refine (ringed_any C w5.drew).mono ?_
  rintro e w6 ⟨rfl, hb⟩
  go_wp2_with fail
  replace X7 := Lib.hid (X7.out.next ((Below.refl _ _).drew.trans hb))
  replace HBL := Lib.hid (HBL.out.trans (((Below.refl _ _).drew.trans hb).mono HBL.out.size))
  clear hb
  refine hK.out _ _ (And.intro X7.out HBL.out) (fun hHeld => ?_)
  clear hK K
  try simp only [Act.put, List.setIfInBounds_toArray, List.set_cons_zero, List.set_cons_succ]
  refine wpAnyH_take (i := 1) (oi := ⟨some 67, _, _, _, _, _⟩) (v := ?_) rfl (by kernel_rfl) (by kernel_rfl) (by kernel_rfl) (fun _ _ _ h => h) (Or.inl ⟨by rfl, ?_⟩) hHeld ?_
  rotate_left
  · intro w hSw
    go_simp
    first | done | with_reducible rfl
  try simp only [Act.put, List.setIfInBounds_toArray, List.set_cons_zero, List.set_cons_succ]
  refine wpAnyH_take (i := 2) (oi := ⟨some 68, _, _, _, _, _⟩) (v := ?_) rfl (by kernel_rfl) (by kernel_rfl) (by kernel_rfl) (fun _ _ _ h => h) (Or.inl ⟨by rfl, ?_⟩) hHeld ?_
  rotate_left
  · intro w hSw
    go_simp
    first | done | with_reducible rfl
  try simp only [Act.put, List.setIfInBounds_toArray, List.set_cons_zero, List.set_cons_succ]
  refine wpAnyH_take (i := 3) (oi := ⟨some 69, _, _, _, _, _⟩) (v := ?_) rfl (by kernel_rfl) (by kernel_rfl) (by kernel_rfl) (fun _ _ _ h => h) (Or.inl ⟨by rfl, ?_⟩) hHeld ?_
  rotate_left
  · intro w hSw
    obtain ⟨⟨hbx, _, _⟩, hbw⟩ := hSw
    have k0 : w.cell? ⟨w1.heap.size, 0, none⟩ = some (.int .i64 r.id) := by rw [cell_of_row w _ 0 _ _ (0, 0) hbx]; rfl
    have k2 : w.cell? ⟨w1.heap.size, 2, none⟩ = some (.int .i64 r.frm) := by rw [cell_of_row w _ 2 _ _ (0, 0) hbx]; rfl
    have k3 : w.cell? ⟨w1.heap.size, 3, none⟩ = some (.int .i64 r.til) := by rw [cell_of_row w _ 3 _ _ (0, 0) hbx]; rfl
    go_simp
    first | done | with_reducible rfl
  try simp only [Act.put, List.setIfInBounds_toArray, List.set_cons_zero, List.set_cons_succ]
  refine wpAnyH_take (i := 4) (oi := ⟨some 70, _, _, _, _, _⟩) (v := ?_) rfl (by kernel_rfl) (by kernel_rfl) (by kernel_rfl) (fun _ _ _ h => h) (Or.inl ⟨by rfl, ?_⟩) hHeld ?_
  rotate_left
  · intro w hSw
    go_simp
    first | done | with_reducible rfl
  try simp only [Act.put, List.setIfInBounds_toArray, List.set_cons_zero, List.set_cons_succ]
  refine wpAnyH_take (i := 5) (oi := ⟨some 71, _, _, _, _, _⟩) (v := .bool true) rfl (by kernel_rfl) (by kernel_rfl) (by kernel_rfl) (fun _ _ _ h => h) (Or.inl ⟨by rfl, ?_⟩) hHeld ?_
  · intro w hSw
    go_simp
    first | done | omega | (simp [b5]; done) | (simp; omega)
  try simp only [Act.put, List.setIfInBounds_toArray, List.set_cons_zero, List.set_cons_succ]
  refine wpAnyH_take (i := 6) (oi := ⟨some 72, _, _, _, _, _⟩) (v := ?_) rfl (by kernel_rfl) (by kernel_rfl) (by kernel_rfl) (fun _ _ _ h => h) (Or.inl ⟨by rfl, ?_⟩) hHeld ?_
  rotate_left
  · intro w hSw
    go_simp
    first | done | with_reducible rfl
  try simp only [Act.put, List.setIfInBounds_toArray, List.set_cons_zero, List.set_cons_succ]
  refine wpAnyH_take (i := 7) (oi := ⟨some 73, _, _, _, _, _⟩) (v := ?_) rfl (by kernel_rfl) (by kernel_rfl) (by kernel_rfl) (fun _ _ _ h => h) (Or.inl ⟨by rfl, ?_⟩) hHeld ?_
  rotate_left
  · intro w hSw
    go_simp
    first | done | with_reducible rfl
  try simp only [Act.put, List.setIfInBounds_toArray, List.set_cons_zero, List.set_cons_succ]
  refine wpAnyH_take (i := 8) (oi := ⟨some 74, _, _, _, _, _⟩) (v := ?_) rfl (by kernel_rfl) (by kernel_rfl) (by kernel_rfl) (fun _ _ _ h => h) (Or.inl ⟨by rfl, ?_⟩) hHeld ?_
  rotate_left
  · intro w hSw
    go_simp
    first | done | with_reducible rfl
  try simp only [Act.put, List.setIfInBounds_toArray, List.set_cons_zero, List.set_cons_succ]
  refine wpAnyH_take (i := 9) (oi := ⟨some 75, _, _, _, _, _⟩) (v := ?_) rfl (by kernel_rfl) (by kernel_rfl) (by kernel_rfl) (fun _ _ _ h => h) (Or.inl ⟨by rfl, ?_⟩) hHeld ?_
  rotate_left
  · intro w hSw
    go_simp
    first | done | with_reducible rfl
  try simp only [Act.put, List.setIfInBounds_toArray, List.set_cons_zero, List.set_cons_succ]
  refine wpAnyH_take (i := 10) (oi := ⟨some 76, _, _, _, _, _⟩) (v := ?_) rfl (by kernel_rfl) (by kernel_rfl) (by kernel_rfl) (fun _ _ _ h => h) (Or.inl ⟨by rfl, ?_⟩) hHeld ?_
  rotate_left
  · intro w hSw
    obtain ⟨⟨hbx, _, _⟩, hbw⟩ := hSw
    have k0 : w.cell? ⟨w1.heap.size, 0, none⟩ = some (.int .i64 r.id) := by rw [cell_of_row w _ 0 _ _ (0, 0) hbx]; rfl
    have k2 : w.cell? ⟨w1.heap.size, 2, none⟩ = some (.int .i64 r.frm) := by rw [cell_of_row w _ 2 _ _ (0, 0) hbx]; rfl
    have k3 : w.cell? ⟨w1.heap.size, 3, none⟩ = some (.int .i64 r.til) := by rw [cell_of_row w _ 3 _ _ (0, 0) hbx]; rfl
    go_simp
    first | done | with_reducible rfl
  try simp only [Act.put, List.setIfInBounds_toArray, List.set_cons_zero, List.set_cons_succ]
  refine wpAnyH_take (i := 11) (oi := ⟨some 77, _, _, _, _, _⟩) (v := .bool true) rfl (by kernel_rfl) (by kernel_rfl) (by kernel_rfl) (fun _ _ _ h => h) (Or.inl ⟨by rfl, ?_⟩) hHeld ?_
  · intro w hSw
    go_simp
    first | done | omega | (simp [b6]; done) | (simp; omega)
  try simp only [Act.put, List.setIfInBounds_toArray, List.set_cons_zero, List.set_cons_succ]
  refine wpAnyH_take (i := 12) (oi := ⟨some 78, _, _, _, _, _⟩) (v := ?_) rfl (by kernel_rfl) (by kernel_rfl) (by kernel_rfl) (fun _ _ _ h => h) (Or.inl ⟨by rfl, ?_⟩) hHeld ?_
  rotate_left
  · intro w hSw
    go_simp
    first | done | with_reducible rfl
  try simp only [Act.put, List.setIfInBounds_toArray, List.set_cons_zero, List.set_cons_succ]
  refine wpAnyH_take (i := 13) (oi := ⟨some 79, _, _, _, _, _⟩) (v := ?_) rfl (by kernel_rfl) (by kernel_rfl) (by kernel_rfl) (fun _ _ _ h => h) (Or.inl ⟨by rfl, ?_⟩) hHeld ?_
  rotate_left
  · intro w hSw
    go_simp
    first | done | with_reducible rfl
  try simp only [Act.put, List.setIfInBounds_toArray, List.set_cons_zero, List.set_cons_succ]
  refine wpAnyH_take (i := 14) (oi := ⟨some 80, _, _, _, _, _⟩) (v := ?_) rfl (by kernel_rfl) (by kernel_rfl) (by kernel_rfl) (fun _ _ _ h => h) (Or.inl ⟨by rfl, ?_⟩) hHeld ?_
  rotate_left
  · intro w hSw
    go_simp
    first | done | with_reducible rfl
  try simp only [Act.put, List.setIfInBounds_toArray, List.set_cons_zero, List.set_cons_succ]
  refine wpAnyH_take (i := 15) (oi := ⟨some 81, _, _, _, _, _⟩) (v := ?_) rfl (by kernel_rfl) (by kernel_rfl) (by kernel_rfl) (fun _ _ _ h => h) (Or.inl ⟨by rfl, ?_⟩) hHeld ?_
  rotate_left
  · intro w hSw
    go_simp
    first | done | with_reducible rfl
  try simp only [Act.put, List.setIfInBounds_toArray, List.set_cons_zero, List.set_cons_succ]
  refine wpAnyH_take (i := 16) (oi := ⟨some 82, _, _, _, _, _⟩) (v := ?_) rfl (by kernel_rfl) (by kernel_rfl) (by kernel_rfl) (fun _ _ _ h => h) (Or.inl ⟨by rfl, ?_⟩) hHeld ?_
  rotate_left
  · intro w hSw
    go_simp
    first | done | with_reducible rfl
  try simp only [Act.put, List.setIfInBounds_toArray, List.set_cons_zero, List.set_cons_succ]
  refine wpAnyH_take (i := 17) (oi := ⟨some 83, _, _, _, _, _⟩) (v := undef) rfl (by kernel_rfl) (by kernel_rfl) (by kernel_rfl) (fun _ _ _ h => h) (Or.inr ⟨by rfl, rfl⟩) hHeld ?_
  try simp only [Act.put, List.setIfInBounds_toArray, List.set_cons_zero, List.set_cons_succ]
  refine wpAnyH_take (i := 18) (oi := ⟨some 84, _, _, _, _, _⟩) (v := undef) rfl (by kernel_rfl) (by kernel_rfl) (by kernel_rfl) (fun _ _ _ h => h) (Or.inr ⟨by rfl, rfl⟩) hHeld ?_
  try simp only [Act.put, List.setIfInBounds_toArray, List.set_cons_zero, List.set_cons_succ]
  refine wpAnyH_take (i := 19) (oi := ⟨some 85, _, _, _, _, _⟩) (v := undef) rfl (by kernel_rfl) (by kernel_rfl) (by kernel_rfl) (fun _ _ _ h => h) (Or.inr ⟨by rfl, rfl⟩) hHeld ?_
  try simp only [Act.put, List.setIfInBounds_toArray, List.set_cons_zero, List.set_cons_succ]
  refine wpAnyH_take (i := 20) (oi := ⟨some 86, _, _, _, _, _⟩) (v := undef) rfl (by kernel_rfl) (by kernel_rfl) (by kernel_rfl) (fun _ _ _ h => h) (Or.inr ⟨by rfl, rfl⟩) hHeld ?_
  try simp only [Act.put, List.setIfInBounds_toArray, List.set_cons_zero, List.set_cons_succ]
  refine wpAnyH_take (i := 21) (oi := ⟨some 87, _, _, _, _, _⟩) (v := undef) rfl (by kernel_rfl) (by kernel_rfl) (by kernel_rfl) (fun _ _ _ h => h) (Or.inr ⟨by rfl, rfl⟩) hHeld ?_
  try simp only [Act.put, List.setIfInBounds_toArray, List.set_cons_zero, List.set_cons_succ]
  refine wpAnyH_take (i := 22) (oi := ⟨some 88, _, _, _, _, _⟩) (v := undef) rfl (by kernel_rfl) (by kernel_rfl) (by kernel_rfl) (fun _ _ _ h => h) (Or.inr ⟨by rfl, rfl⟩) hHeld ?_
  try simp only [Act.put, List.setIfInBounds_toArray, List.set_cons_zero, List.set_cons_succ]
  refine wpAnyH_take (i := 23) (oi := ⟨some 89, _, _, _, _, _⟩) (v := undef) rfl (by kernel_rfl) (by kernel_rfl) (by kernel_rfl) (fun _ _ _ h => h) (Or.inr ⟨by rfl, rfl⟩) hHeld ?_
  try simp only [Act.put, List.setIfInBounds_toArray, List.set_cons_zero, List.set_cons_succ]
  refine wpAnyH_take (i := 24) (oi := ⟨some 90, _, _, _, _, _⟩) (v := undef) rfl (by kernel_rfl) (by kernel_rfl) (by kernel_rfl) (fun _ _ _ h => h) (Or.inr ⟨by rfl, rfl⟩) hHeld ?_
  try simp only [Act.put, List.setIfInBounds_toArray, List.set_cons_zero, List.set_cons_succ]
  refine wpAnyH_take (i := 25) (oi := ⟨some 91, _, _, _, _, _⟩) (v := ?_) rfl (by kernel_rfl) (by kernel_rfl) (by kernel_rfl) (fun _ _ _ h => h) (Or.inl ⟨by rfl, ?_⟩) hHeld ?_
  rotate_left
  · intro w hSw
    go_simp
    first | done | with_reducible rfl
  try simp only [Act.put, List.setIfInBounds_toArray, List.set_cons_zero, List.set_cons_succ]
  refine wpAnyH_take (i := 26) (oi := ⟨some 92, _, _, _, _, _⟩) (v := ?_) rfl (by kernel_rfl) (by kernel_rfl) (by kernel_rfl) (fun _ _ _ h => h) (Or.inl ⟨by rfl, ?_⟩) hHeld ?_
  rotate_left
  · intro w hSw
    go_simp
    first | done | with_reducible rfl
  try simp only [Act.put, List.setIfInBounds_toArray, List.set_cons_zero, List.set_cons_succ]
  refine wpAnyH_take (i := 27) (oi := ⟨some 6, _, _, _, _, _⟩) (v := ?_) rfl (by kernel_rfl) (by kernel_rfl) (by kernel_rfl) (fun _ _ _ h => h) (Or.inl ⟨by rfl, ?_⟩) hHeld ?_
  rotate_left
  · intro w hSw
    go_simp
    first | done | with_reducible rfl
  try simp only [Act.put, List.setIfInBounds_toArray, List.set_cons_zero, List.set_cons_succ]
  refine wpAnyH_done (by kernel_rfl) ?_ _
  go_wp2_with fail
  go_ret
  exact ⟨rfl, HBL.out⟩

set_option maxRecDepth 100000 in
set_option maxHeartbeats 400000 in
theorem days_unused2 (C : RC) (l : List K) (day : Int) (i : Nat) (n : Nat) (hn : n = l.length) (A : Option Addr) (c : Nat) (w : World) (hA : Ks w w.heap.size A l) (hs : Sl A n c) (h1 : n ≤ 9223372036854775807) (r : K) (hr : r = onK l day) (hE : 0 = onE l day) (hbig : bigR l = false) (hf1 : r = findK l r.id) (hg1 : 0 = findE l r.id) (hi : i < n) (b5 : r.frm ≤ day) (b6 : day ≤ r.til) (hu1 : (l.getD i K0).frm ≤ day) (hu2 : (l.getD i K0).til < day) :
    Calls Try.prog 6 #[.slice A n c, .int .i64 day, .int .i64 (i : Int)] w fun e w' => e = .returned (.bool true) ∧ Below w.heap.size w w' := by
  have L := Lib.hid hA
  have HBL := Lib.hid (Below.refl w.heap.size w)
  have HN := Lib.hid hn
  have HS := Lib.hid hs
  have HR := Lib.hid hr
  have HE := Lib.hid hE
  clear hA hn hs hr hE
  have HBIG := Lib.hid hbig
  clear hbig
  have HF1 := Lib.hid hf1
  have HG1 := Lib.hid hg1
  clear hf1 hg1
  obtain ⟨ad, S, cc, rfl, had, hk⟩ := L.out i (by rw [← HN.out]; exact hi)
  obtain ⟨x, hx⟩ : ∃ x, x = l.getD i K0 := ⟨_, rfl⟩
  rw [← hx] at hk
  have HK := Lib.hid hk
  rw [← hx] at hu1 hu2
  have bi0 : (0 : Int) ≤ (i : Int) := by omega
  have bi1 : (i : Int) < (n : Int) := by omega
  have b8 : x.frm ≤ day := hu1
  have b9 : decide (day ≤ x.til) = false := by simp; omega
  clear hk hx
  go_enter Try.func6, Try.ntmps6
  go_wp2_with fail
  refine (C.on l n day (some ad) c w r 0 HN.out HR.out HE.out HS.out L.out).mono ?_
  rintro e w1 ⟨S7, c7, rfl, hs, hb⟩
  replace L := Lib.hid (L.out.next hb)
  replace HBL := Lib.hid (HBL.out.trans (hb.mono HBL.out.size))
  have HSS := Lib.hid hs
  clear hs hb
  go_wp2_with ((with_reducible refine at_store 7 ?_); refine wpList_store_named (o := ⟨none, .store 26 (.tmp 7) (.tmp 16), _, _, _, _⟩) rfl 26 (.tmp 7) (.tmp 16) rfl w1.heap.size #[.int .i64 r.id, .slice S7 r.sec.length c7, .int .i64 r.frm, .int .i64 r.til] rfl rfl 26 #[.int .i64 0, .slice none 0 0, .int .i64 0, .int .i64 0] (heap_alloc_new w1 _) infoKey rfl (kc_one _ _ _ _ _ _) ?_)
  intro w2 hw
  obtain ⟨hx, hb⟩ := box_made (q := ⟨r, S7, c7⟩) hw.out HSS.out
  replace L := Lib.hid (L.out.next hb)
  replace HBL := Lib.hid (HBL.out.trans (hb.mono HBL.out.size))
  have X7 := Lib.hid hx
  clear hx hb hw HSS
  go_wp2_with fail
  refine (refbig_named l n HN.out false HBIG.out (some ad) c w2 L.out h1).mono ?_
  rintro e w3 ⟨rfl, hb⟩
  replace L := Lib.hid (L.out.next hb)
  replace X7 := Lib.hid (X7.out.next hb)
  replace HBL := Lib.hid (HBL.out.trans (hb.mono HBL.out.size))
  clear hb
  have x0 : w3.cell? ⟨w1.heap.size, 0, none⟩ = some (.int .i64 r.id) := by rw [cell_of_row w3 _ 0 _ _ (0, 0) X7.out.1]; rfl
  go_wp2_with fail
  clear x0
  refine (C.find l n r.id (some ad) c w3 r 0 HN.out HF1.out HG1.out HS.out L.out).mono ?_
  rintro e w4 ⟨S9, c9, rfl, hs, hb⟩
  replace L := Lib.hid (L.out.next hb)
  replace X7 := Lib.hid (X7.out.next hb)
  replace HBL := Lib.hid (HBL.out.trans (hb.mono HBL.out.size))
  have HSS := Lib.hid hs
  clear hs hb
  go_wp2_with ((with_reducible refine at_store 9 ?_); refine wpList_store_named (o := ⟨none, .store 26 (.tmp 9) (.tmp 30), _, _, _, _⟩) rfl 26 (.tmp 9) (.tmp 30) rfl w4.heap.size #[.int .i64 r.id, .slice S9 r.sec.length c9, .int .i64 r.frm, .int .i64 r.til] rfl rfl 26 #[.int .i64 0, .slice none 0 0, .int .i64 0, .int .i64 0] (heap_alloc_new w4 _) infoKey rfl (kc_one _ _ _ _ _ _) ?_)
  intro w5 hw
  obtain ⟨hx, hb⟩ := box_made (q := ⟨r, S9, c9⟩) hw.out HSS.out
  replace L := Lib.hid (L.out.next hb)
  replace X7 := Lib.hid (X7.out.next hb)
  replace HBL := Lib.hid (HBL.out.trans (hb.mono HBL.out.size))
  have X9 := Lib.hid hx
  clear hx hb hw HSS
  have hk6 := HK.out.below (by rw [add_block]; exact had) (Nat.le_refl _) HBL.out
  have d2 := hk6.c2
  have d3 := hk6.c3
  clear hk6
  go_wp2_with fail
  clear d2 d3
  refine wp_region_held_drew (S := fun w' => Box w' w1.heap.size ⟨r, S7, c7⟩ ∧ Below w.heap.size w w') (by kernel_rfl) (And.intro (X7.out.next (Below.refl _ _).drew) HBL.out.drew) (fun hHeld => ?_)
  refine wpAnyH_ready (rs := [0]) (by kernel_rfl) (by simp) ?_
  refine AllReadyH.cons (o := ⟨some 66, .call _, _, _, _, _⟩) rfl (fun K hK => ?_) AllReadyH.nil
  go_simp
  go_at_call 13
  refine (ringed_any C w5.drew).mono ?_
  rintro e w6 ⟨rfl, hb⟩
  go_wp2_with fail
  replace X7 := Lib.hid (X7.out.next ((Below.refl _ _).drew.trans hb))
  replace HBL := Lib.hid (HBL.out.trans (((Below.refl _ _).drew.trans hb).mono HBL.out.size))
  clear hb
  refine hK.out _ _ (And.intro X7.out HBL.out) (fun hHeld => ?_)
  clear hK K
  try simp only [Act.put, List.setIfInBounds_toArray, List.set_cons_zero, List.set_cons_succ]
  refine wpAnyH_take (i := 1) (oi := ⟨some 67, _, _, _, _, _⟩) (v := ?_) rfl (by kernel_rfl) (by kernel_rfl) (by kernel_rfl) (fun _ _ _ h => h) (Or.inl ⟨by rfl, ?_⟩) hHeld ?_
  rotate_left
  · intro w hSw
    go_simp
    first | done | with_reducible rfl
  try simp only [Act.put, List.setIfInBounds_toArray, List.set_cons_zero, List.set_cons_succ]
  refine wpAnyH_take (i := 2) (oi := ⟨some 68, _, _, _, _, _⟩) (v := ?_) rfl (by kernel_rfl) (by kernel_rfl) (by kernel_rfl) (fun _ _ _ h => h) (Or.inl ⟨by rfl, ?_⟩) hHeld ?_
  rotate_left
  · intro w hSw
    go_simp
    first | done | with_reducible rfl
  try simp only [Act.put, List.setIfInBounds_toArray, List.set_cons_zero, List.set_cons_succ]
  refine wpAnyH_take (i := 3) (oi := ⟨some 69, _, _, _, _, _⟩) (v := ?_) rfl (by kernel_rfl) (by kernel_rfl) (by kernel_rfl) (fun _ _ _ h => h) (Or.inl ⟨by rfl, ?_⟩) hHeld ?_
  rotate_left
  · intro w hSw
    obtain ⟨⟨hbx, _, _⟩, hbw⟩ := hSw
    have k0 : w.cell? ⟨w1.heap.size, 0, none⟩ = some (.int .i64 r.id) := by rw [cell_of_row w _ 0 _ _ (0, 0) hbx]; rfl
    have k2 : w.cell? ⟨w1.heap.size, 2, none⟩ = some (.int .i64 r.frm) := by rw [cell_of_row w _ 2 _ _ (0, 0) hbx]; rfl
    have k3 : w.cell? ⟨w1.heap.size, 3, none⟩ = some (.int .i64 r.til) := by rw [cell_of_row w _ 3 _ _ (0, 0) hbx]; rfl
    go_simp
    first | done | with_reducible rfl
  try simp only [Act.put, List.setIfInBounds_toArray, List.set_cons_zero, List.set_cons_succ]
  refine wpAnyH_take (i := 4) (oi := ⟨some 70, _, _, _, _, _⟩) (v := ?_) rfl (by kernel_rfl) (by kernel_rfl) (by kernel_rfl) (fun _ _ _ h => h) (Or.inl ⟨by rfl, ?_⟩) hHeld ?_
  rotate_left
  · intro w hSw
    go_simp
    first | done | with_reducible rfl
  try simp only [Act.put, List.setIfInBounds_toArray, List.set_cons_zero, List.set_cons_succ]
  refine wpAnyH_take (i := 5) (oi := ⟨some 71, _, _, _, _, _⟩) (v := .bool true) rfl (by kernel_rfl) (by kernel_rfl) (by kernel_rfl) (fun _ _ _ h => h) (Or.inl ⟨by rfl, ?_⟩) hHeld ?_
  · intro w hSw
    go_simp
    first | done | omega | (simp [b5]; done) | (simp; omega)
  try simp only [Act.put, List.setIfInBounds_toArray, List.set_cons_zero, List.set_cons_succ]
  refine wpAnyH_take (i := 6) (oi := ⟨some 72, _, _, _, _, _⟩) (v := ?_) rfl (by kernel_rfl) (by kernel_rfl) (by kernel_rfl) (fun _ _ _ h => h) (Or.inl ⟨by rfl, ?_⟩) hHeld ?_
  rotate_left
  · intro w hSw
    go_simp
    first | done | with_reducible rfl
  try simp only [Act.put, List.setIfInBounds_toArray, List.set_cons_zero, List.set_cons_succ]
  refine wpAnyH_take (i := 7) (oi := ⟨some 73, _, _, _, _, _⟩) (v := ?_) rfl (by kernel_rfl) (by kernel_rfl) (by kernel_rfl) (fun _ _ _ h => h) (Or.inl ⟨by rfl, ?_⟩) hHeld ?_
  rotate_left
  · intro w hSw
    go_simp
    first | done | with_reducible rfl
  try simp only [Act.put, List.setIfInBounds_toArray, List.set_cons_zero, List.set_cons_succ]
  refine wpAnyH_take (i := 8) (oi := ⟨some 74, _, _, _, _, _⟩) (v := ?_) rfl (by kernel_rfl) (by kernel_rfl) (by kernel_rfl) (fun _ _ _ h => h) (Or.inl ⟨by rfl, ?_⟩) hHeld ?_
  rotate_left
  · intro w hSw
    go_simp
    first | done | with_reducible rfl
  try simp only [Act.put, List.setIfInBounds_toArray, List.set_cons_zero, List.set_cons_succ]
  refine wpAnyH_take (i := 9) (oi := ⟨some 75, _, _, _, _, _⟩) (v := ?_) rfl (by kernel_rfl) (by kernel_rfl) (by kernel_rfl) (fun _ _ _ h => h) (Or.inl ⟨by rfl, ?_⟩) hHeld ?_
  rotate_left
  · intro w hSw
    go_simp
    first | done | with_reducible rfl
  try simp only [Act.put, List.setIfInBounds_toArray, List.set_cons_zero, List.set_cons_succ]
  refine wpAnyH_take (i := 10) (oi := ⟨some 76, _, _, _, _, _⟩) (v := ?_) rfl (by kernel_rfl) (by kernel_rfl) (by kernel_rfl) (fun _ _ _ h => h) (Or.inl ⟨by rfl, ?_⟩) hHeld ?_
  rotate_left
  · intro w hSw
    obtain ⟨⟨hbx, _, _⟩, hbw⟩ := hSw
    have k0 : w.cell? ⟨w1.heap.size, 0, none⟩ = some (.int .i64 r.id) := by rw [cell_of_row w _ 0 _ _ (0, 0) hbx]; rfl
    have k2 : w.cell? ⟨w1.heap.size, 2, none⟩ = some (.int .i64 r.frm) := by rw [cell_of_row w _ 2 _ _ (0, 0) hbx]; rfl
    have k3 : w.cell? ⟨w1.heap.size, 3, none⟩ = some (.int .i64 r.til) := by rw [cell_of_row w _ 3 _ _ (0, 0) hbx]; rfl
    go_simp
    first | done | with_reducible rfl
  try simp only [Act.put, List.setIfInBounds_toArray, List.set_cons_zero, List.set_cons_succ]
  refine wpAnyH_take (i := 11) (oi := ⟨some 77, _, _, _, _, _⟩) (v := .bool true) rfl (by kernel_rfl) (by kernel_rfl) (by kernel_rfl) (fun _ _ _ h => h) (Or.inl ⟨by rfl, ?_⟩) hHeld ?_
  · intro w hSw
    go_simp
    first | done | omega | (simp [b6]; done) | (simp; omega)
  try simp only [Act.put, List.setIfInBounds_toArray, List.set_cons_zero, List.set_cons_succ]
  refine wpAnyH_take (i := 12) (oi := ⟨some 78, _, _, _, _, _⟩) (v := ?_) rfl (by kernel_rfl) (by kernel_rfl) (by kernel_rfl) (fun _ _ _ h => h) (Or.inl ⟨by rfl, ?_⟩) hHeld ?_
  rotate_left
  · intro w hSw
    go_simp
    first | done | with_reducible rfl
  try simp only [Act.put, List.setIfInBounds_toArray, List.set_cons_zero, List.set_cons_succ]
  refine wpAnyH_take (i := 13) (oi := ⟨some 79, _, _, _, _, _⟩) (v := ?_) rfl (by kernel_rfl) (by kernel_rfl) (by kernel_rfl) (fun _ _ _ h => h) (Or.inl ⟨by rfl, ?_⟩) hHeld ?_
  rotate_left
  · intro w hSw
    go_simp
    first | done | with_reducible rfl
  try simp only [Act.put, List.setIfInBounds_toArray, List.set_cons_zero, List.set_cons_succ]
  refine wpAnyH_take (i := 14) (oi := ⟨some 80, _, _, _, _, _⟩) (v := ?_) rfl (by kernel_rfl) (by kernel_rfl) (by kernel_rfl) (fun _ _ _ h => h) (Or.inl ⟨by rfl, ?_⟩) hHeld ?_
  rotate_left
  · intro w hSw
    go_simp
    first | done | with_reducible rfl
  try simp only [Act.put, List.setIfInBounds_toArray, List.set_cons_zero, List.set_cons_succ]
  refine wpAnyH_take (i := 15) (oi := ⟨some 81, _, _, _, _, _⟩) (v := ?_) rfl (by kernel_rfl) (by kernel_rfl) (by kernel_rfl) (fun _ _ _ h => h) (Or.inl ⟨by rfl, ?_⟩) hHeld ?_
  rotate_left
  · intro w hSw
    go_simp
    first | done | with_reducible rfl
  try simp only [Act.put, List.setIfInBounds_toArray, List.set_cons_zero, List.set_cons_succ]
  refine wpAnyH_take (i := 16) (oi := ⟨some 82, _, _, _, _, _⟩) (v := ?_) rfl (by kernel_rfl) (by kernel_rfl) (by kernel_rfl) (fun _ _ _ h => h) (Or.inl ⟨by rfl, ?_⟩) hHeld ?_
  rotate_left
  · intro w hSw
    go_simp
    first | done | with_reducible rfl
  try simp only [Act.put, List.setIfInBounds_toArray, List.set_cons_zero, List.set_cons_succ]
  refine wpAnyH_take (i := 17) (oi := ⟨some 83, _, _, _, _, _⟩) (v := undef) rfl (by kernel_rfl) (by kernel_rfl) (by kernel_rfl) (fun _ _ _ h => h) (Or.inr ⟨by rfl, rfl⟩) hHeld ?_
  try simp only [Act.put, List.setIfInBounds_toArray, List.set_cons_zero, List.set_cons_succ]
  refine wpAnyH_take (i := 18) (oi := ⟨some 84, _, _, _, _, _⟩) (v := undef) rfl (by kernel_rfl) (by kernel_rfl) (by kernel_rfl) (fun _ _ _ h => h) (Or.inr ⟨by rfl, rfl⟩) hHeld ?_
  try simp only [Act.put, List.setIfInBounds_toArray, List.set_cons_zero, List.set_cons_succ]
  refine wpAnyH_take (i := 19) (oi := ⟨some 85, _, _, _, _, _⟩) (v := undef) rfl (by kernel_rfl) (by kernel_rfl) (by kernel_rfl) (fun _ _ _ h => h) (Or.inr ⟨by rfl, rfl⟩) hHeld ?_
  try simp only [Act.put, List.setIfInBounds_toArray, List.set_cons_zero, List.set_cons_succ]
  refine wpAnyH_take (i := 20) (oi := ⟨some 86, _, _, _, _, _⟩) (v := undef) rfl (by kernel_rfl) (by kernel_rfl) (by kernel_rfl) (fun _ _ _ h => h) (Or.inr ⟨by rfl, rfl⟩) hHeld ?_
  try simp only [Act.put, List.setIfInBounds_toArray, List.set_cons_zero, List.set_cons_succ]
  refine wpAnyH_take (i := 21) (oi := ⟨some 87, _, _, _, _, _⟩) (v := undef) rfl (by kernel_rfl) (by kernel_rfl) (by kernel_rfl) (fun _ _ _ h => h) (Or.inr ⟨by rfl, rfl⟩) hHeld ?_
  try simp only [Act.put, List.setIfInBounds_toArray, List.set_cons_zero, List.set_cons_succ]
  refine wpAnyH_take (i := 22) (oi := ⟨some 88, _, _, _, _, _⟩) (v := undef) rfl (by kernel_rfl) (by kernel_rfl) (by kernel_rfl) (fun _ _ _ h => h) (Or.inr ⟨by rfl, rfl⟩) hHeld ?_
  try simp only [Act.put, List.setIfInBounds_toArray, List.set_cons_zero, List.set_cons_succ]
  refine wpAnyH_take (i := 23) (oi := ⟨some 89, _, _, _, _, _⟩) (v := undef) rfl (by kernel_rfl) (by kernel_rfl) (by kernel_rfl) (fun _ _ _ h => h) (Or.inr ⟨by rfl, rfl⟩) hHeld ?_
  try simp only [Act.put, List.setIfInBounds_toArray, List.set_cons_zero, List.set_cons_succ]
  refine wpAnyH_take (i := 24) (oi := ⟨some 90, _, _, _, _, _⟩) (v := undef) rfl (by kernel_rfl) (by kernel_rfl) (by kernel_rfl) (fun _ _ _ h => h) (Or.inr ⟨by rfl, rfl⟩) hHeld ?_
  try simp only [Act.put, List.setIfInBounds_toArray, List.set_cons_zero, List.set_cons_succ]
  refine wpAnyH_take (i := 25) (oi := ⟨some 91, _, _, _, _, _⟩) (v := ?_) rfl (by kernel_rfl) (by kernel_rfl) (by kernel_rfl) (fun _ _ _ h => h) (Or.inl ⟨by rfl, ?_⟩) hHeld ?_
  rotate_left
  · intro w hSw
    go_simp
    first | done | with_reducible rfl
  try simp only [Act.put, List.setIfInBounds_toArray, List.set_cons_zero, List.set_cons_succ]
  refine wpAnyH_take (i := 26) (oi := ⟨some 92, _, _, _, _, _⟩) (v := ?_) rfl (by kernel_rfl) (by kernel_rfl) (by kernel_rfl) (fun _ _ _ h => h) (Or.inl ⟨by rfl, ?_⟩) hHeld ?_
  rotate_left
  · intro w hSw
    go_simp
    first | done | with_reducible rfl
  try simp only [Act.put, List.setIfInBounds_toArray, List.set_cons_zero, List.set_cons_succ]
  refine wpAnyH_take (i := 27) (oi := ⟨some 6, _, _, _, _, _⟩) (v := ?_) rfl (by kernel_rfl) (by kernel_rfl) (by kernel_rfl) (fun _ _ _ h => h) (Or.inl ⟨by rfl, ?_⟩) hHeld ?_
  rotate_left
  · intro w hSw
    go_simp
    first | done | with_reducible rfl
  try simp only [Act.put, List.setIfInBounds_toArray, List.set_cons_zero, List.set_cons_succ]
  refine wpAnyH_done (by kernel_rfl) ?_ _
  go_wp2_with fail
  go_ret
  exact ⟨rfl, HBL.out⟩
end Go.Proofs.Ytedkgkokfaadfaa
