/-
  Proved: for all keys, any key and any number the law RingKeeps answers true, and leaves what came in as it was. Conditions: none beyond the statement's own.
-/
import Derived.Test.YtedkgkokfaadfaaRingNamed
namespace Go.Proofs.Ytedkgkokfaadfaa
set_option linter.unusedVariables false
open Go.ChangeShapes Go.WideShapes Go.ChangeAt Go.RowKit

set_option maxRecDepth 100000 in
set_option maxHeartbeats 800000 in
theorem keeps_big (C : RC) (l : List K) (q : KV) (id : Int) (n : Nat) (hn : n = l.length) (A : Option Addr) (c : Nat) (w : World) (hA : Ks w w.heap.size A l) (hs : Sl A n c) (hq : Bs w w.heap.size q.k.sec q.S q.c) (h1 : n ≤ 9223372036854775807) (R : List K) (E : Int) (m : Nat) (hR : R = addK l q.k) (hE : E = addE l q.k) (hm : m = R.length) (hbig : bigR l = true) :
    Calls Try.prog 5 #[.slice A n c, .agg #[.int .i64 q.k.id, .slice q.S q.k.sec.length q.c, .int .i64 q.k.frm, .int .i64 q.k.til], .int .i64 id] w fun e w' => e = .returned (.bool true) ∧ Below w.heap.size w w' := by
  have hbx := box_lit w q hq
  have B := Lib.hid hbx.1
  have HBL := Lib.hid hbx.2
  have L := Lib.hid (hA.next hbx.2)
  have HN := Lib.hid hn
  have HS := Lib.hid hs
  have HR := Lib.hid hR
  have HE := Lib.hid hE
  have HM := Lib.hid hm
  have hpl := hq.len
  have hpc := hq.cap
  clear hbx hA hn hs hq hR hE hm
  have HBIG := Lib.hid hbig
  clear hbig
  go_enter Try.func5, Try.ntmps5
  have x0 : (w.alloc (.cells #[.int .i64 q.k.id, .slice q.S q.k.sec.length q.c, .int .i64 q.k.frm, .int .i64 q.k.til] 26)).cell? ⟨w.heap.size, 0, none⟩ = some (.int .i64 q.k.id) := by rw [cell_of_row (w.alloc (.cells #[.int .i64 q.k.id, .slice q.S q.k.sec.length q.c, .int .i64 q.k.frm, .int .i64 q.k.til] 26)) _ 0 _ _ (0, 0) B.out.1]; rfl
  have x1 : (w.alloc (.cells #[.int .i64 q.k.id, .slice q.S q.k.sec.length q.c, .int .i64 q.k.frm, .int .i64 q.k.til] 26)).cell? ⟨w.heap.size, 1, none⟩ = some (.slice q.S q.k.sec.length q.c) := by rw [cell_of_row (w.alloc (.cells #[.int .i64 q.k.id, .slice q.S q.k.sec.length q.c, .int .i64 q.k.frm, .int .i64 q.k.til] 26)) _ 1 _ _ (0, 0) B.out.1]; rfl
  have x2 : (w.alloc (.cells #[.int .i64 q.k.id, .slice q.S q.k.sec.length q.c, .int .i64 q.k.frm, .int .i64 q.k.til] 26)).cell? ⟨w.heap.size, 2, none⟩ = some (.int .i64 q.k.frm) := by rw [cell_of_row (w.alloc (.cells #[.int .i64 q.k.id, .slice q.S q.k.sec.length q.c, .int .i64 q.k.frm, .int .i64 q.k.til] 26)) _ 2 _ _ (0, 0) B.out.1]; rfl
  have x3 : (w.alloc (.cells #[.int .i64 q.k.id, .slice q.S q.k.sec.length q.c, .int .i64 q.k.frm, .int .i64 q.k.til] 26)).cell? ⟨w.heap.size, 3, none⟩ = some (.int .i64 q.k.til) := by rw [cell_of_row (w.alloc (.cells #[.int .i64 q.k.id, .slice q.S q.k.sec.length q.c, .int .i64 q.k.frm, .int .i64 q.k.til] 26)) _ 3 _ _ (0, 0) B.out.1]; rfl
  go_wp2_with fail
  refine (C.add l q n A c _ R E m HN.out HR.out HE.out HM.out HS.out L.out B.out.2.2).mono ?_
  clear x0 x1 x2 x3
  rintro e w1 ⟨A2, c2, rfl, hk, hsl, hb⟩
  replace B := Lib.hid (B.out.next hb)
  replace L := Lib.hid (L.out.next hb)
  replace HBL := Lib.hid (HBL.out.trans (hb.mono HBL.out.size))
  have K2 := Lib.hid hk
  have SL2 := Lib.hid hsl
  clear hk hb hsl
  go_wp2_with fail
  refine (refbig_named l n HN.out true HBIG.out A c w1 L.out h1).mono ?_
  rintro e w2 ⟨rfl, hb⟩
  replace B := Lib.hid (B.out.next hb)
  replace L := Lib.hid (L.out.next hb)
  replace K2 := Lib.hid (K2.out.next hb)
  replace HBL := Lib.hid (HBL.out.trans (hb.mono HBL.out.size))
  clear hb
  go_wp2_with fail
  refine (ringed_any C w2).mono ?_
  rintro e w3 ⟨rfl, hb⟩
  replace B := Lib.hid (B.out.next hb)
  replace L := Lib.hid (L.out.next hb)
  replace K2 := Lib.hid (K2.out.next hb)
  replace HBL := Lib.hid (HBL.out.trans (hb.mono HBL.out.size))
  clear hb
  go_wp2_with fail
  go_ret
  exact ⟨rfl, HBL.out⟩

set_option maxRecDepth 100000 in
set_option maxHeartbeats 800000 in
theorem keeps_long (C : RC) (l : List K) (q : KV) (id : Int) (n : Nat) (hn : n = l.length) (A : Option Addr) (c : Nat) (w : World) (hA : Ks w w.heap.size A l) (hs : Sl A n c) (hq : Bs w w.heap.size q.k.sec q.S q.c) (h1 : n ≤ 9223372036854775807) (R : List K) (E : Int) (m : Nat) (hR : R = addK l q.k) (hE : E = addE l q.k) (hm : m = R.length) (hbig : bigR l = false) (h200 : 200 < q.k.sec.length) :
    Calls Try.prog 5 #[.slice A n c, .agg #[.int .i64 q.k.id, .slice q.S q.k.sec.length q.c, .int .i64 q.k.frm, .int .i64 q.k.til], .int .i64 id] w fun e w' => e = .returned (.bool true) ∧ Below w.heap.size w w' := by
  have hbx := box_lit w q hq
  have B := Lib.hid hbx.1
  have HBL := Lib.hid hbx.2
  have L := Lib.hid (hA.next hbx.2)
  have HN := Lib.hid hn
  have HS := Lib.hid hs
  have HR := Lib.hid hR
  have HE := Lib.hid hE
  have HM := Lib.hid hm
  have hpl := hq.len
  have hpc := hq.cap
  clear hbx hA hn hs hq hR hE hm
  have HBIG := Lib.hid hbig
  clear hbig
  have b200 : (200 : Int) < (q.k.sec.length : Int) := by omega
  go_enter Try.func5, Try.ntmps5
  have x0 : (w.alloc (.cells #[.int .i64 q.k.id, .slice q.S q.k.sec.length q.c, .int .i64 q.k.frm, .int .i64 q.k.til] 26)).cell? ⟨w.heap.size, 0, none⟩ = some (.int .i64 q.k.id) := by rw [cell_of_row (w.alloc (.cells #[.int .i64 q.k.id, .slice q.S q.k.sec.length q.c, .int .i64 q.k.frm, .int .i64 q.k.til] 26)) _ 0 _ _ (0, 0) B.out.1]; rfl
  have x1 : (w.alloc (.cells #[.int .i64 q.k.id, .slice q.S q.k.sec.length q.c, .int .i64 q.k.frm, .int .i64 q.k.til] 26)).cell? ⟨w.heap.size, 1, none⟩ = some (.slice q.S q.k.sec.length q.c) := by rw [cell_of_row (w.alloc (.cells #[.int .i64 q.k.id, .slice q.S q.k.sec.length q.c, .int .i64 q.k.frm, .int .i64 q.k.til] 26)) _ 1 _ _ (0, 0) B.out.1]; rfl
  have x2 : (w.alloc (.cells #[.int .i64 q.k.id, .slice q.S q.k.sec.length q.c, .int .i64 q.k.frm, .int .i64 q.k.til] 26)).cell? ⟨w.heap.size, 2, none⟩ = some (.int .i64 q.k.frm) := by rw [cell_of_row (w.alloc (.cells #[.int .i64 q.k.id, .slice q.S q.k.sec.length q.c, .int .i64 q.k.frm, .int .i64 q.k.til] 26)) _ 2 _ _ (0, 0) B.out.1]; rfl
  have x3 : (w.alloc (.cells #[.int .i64 q.k.id, .slice q.S q.k.sec.length q.c, .int .i64 q.k.frm, .int .i64 q.k.til] 26)).cell? ⟨w.heap.size, 3, none⟩ = some (.int .i64 q.k.til) := by rw [cell_of_row (w.alloc (.cells #[.int .i64 q.k.id, .slice q.S q.k.sec.length q.c, .int .i64 q.k.frm, .int .i64 q.k.til] 26)) _ 3 _ _ (0, 0) B.out.1]; rfl
  go_wp2_with fail
  refine (C.add l q n A c _ R E m HN.out HR.out HE.out HM.out HS.out L.out B.out.2.2).mono ?_
  clear x0 x1 x2 x3
  rintro e w1 ⟨A2, c2, rfl, hk, hsl, hb⟩
  replace B := Lib.hid (B.out.next hb)
  replace L := Lib.hid (L.out.next hb)
  replace HBL := Lib.hid (HBL.out.trans (hb.mono HBL.out.size))
  have K2 := Lib.hid hk
  have SL2 := Lib.hid hsl
  clear hk hb hsl
  go_wp2_with fail
  refine (refbig_named l n HN.out false HBIG.out A c w1 L.out h1).mono ?_
  rintro e w2 ⟨rfl, hb⟩
  replace B := Lib.hid (B.out.next hb)
  replace L := Lib.hid (L.out.next hb)
  replace K2 := Lib.hid (K2.out.next hb)
  replace HBL := Lib.hid (HBL.out.trans (hb.mono HBL.out.size))
  clear hb
  have x1 : w2.cell? ⟨w.heap.size, 1, none⟩ = some (.slice q.S q.k.sec.length q.c) := by rw [cell_of_row w2 _ 1 _ _ (0, 0) B.out.1]; rfl
  go_wp2_with fail
  refine (ringed_any C w2).mono ?_
  rintro e w3 ⟨rfl, hb⟩
  replace B := Lib.hid (B.out.next hb)
  replace L := Lib.hid (L.out.next hb)
  replace K2 := Lib.hid (K2.out.next hb)
  replace HBL := Lib.hid (HBL.out.trans (hb.mono HBL.out.size))
  clear hb
  go_wp2_with fail
  go_ret
  exact ⟨rfl, HBL.out⟩

set_option maxRecDepth 100000 in
set_option maxHeartbeats 800000 in
theorem keeps_bad (C : RC) (l : List K) (q : KV) (id : Int) (n : Nat) (hn : n = l.length) (A : Option Addr) (c : Nat) (w : World) (hA : Ks w w.heap.size A l) (hs : Sl A n c) (hq : Bs w w.heap.size q.k.sec q.S q.c) (h1 : n ≤ 9223372036854775807) (R : List K) (E : Int) (m : Nat) (hR : R = addK l q.k) (hE : E = addE l q.k) (hm : m = R.length) (hbig : bigR l = false) (h200 : q.k.sec.length ≤ 200) (h0 : (E == 0) = false) (h00 : (E != 0) = true) :
    Calls Try.prog 5 #[.slice A n c, .agg #[.int .i64 q.k.id, .slice q.S q.k.sec.length q.c, .int .i64 q.k.frm, .int .i64 q.k.til], .int .i64 id] w fun e w' => e = .returned (.bool true) ∧ Below w.heap.size w w' := by
  have hbx := box_lit w q hq
  have B := Lib.hid hbx.1
  have HBL := Lib.hid hbx.2
  have L := Lib.hid (hA.next hbx.2)
  have HN := Lib.hid hn
  have HS := Lib.hid hs
  have HR := Lib.hid hR
  have HE := Lib.hid hE
  have HM := Lib.hid hm
  have hpl := hq.len
  have hpc := hq.cap
  clear hbx hA hn hs hq hR hE hm
  have HBIG := Lib.hid hbig
  clear hbig
  have b200 : (q.k.sec.length : Int) ≤ 200 := by omega
  go_enter Try.func5, Try.ntmps5
  have x0 : (w.alloc (.cells #[.int .i64 q.k.id, .slice q.S q.k.sec.length q.c, .int .i64 q.k.frm, .int .i64 q.k.til] 26)).cell? ⟨w.heap.size, 0, none⟩ = some (.int .i64 q.k.id) := by rw [cell_of_row (w.alloc (.cells #[.int .i64 q.k.id, .slice q.S q.k.sec.length q.c, .int .i64 q.k.frm, .int .i64 q.k.til] 26)) _ 0 _ _ (0, 0) B.out.1]; rfl
  have x1 : (w.alloc (.cells #[.int .i64 q.k.id, .slice q.S q.k.sec.length q.c, .int .i64 q.k.frm, .int .i64 q.k.til] 26)).cell? ⟨w.heap.size, 1, none⟩ = some (.slice q.S q.k.sec.length q.c) := by rw [cell_of_row (w.alloc (.cells #[.int .i64 q.k.id, .slice q.S q.k.sec.length q.c, .int .i64 q.k.frm, .int .i64 q.k.til] 26)) _ 1 _ _ (0, 0) B.out.1]; rfl
  have x2 : (w.alloc (.cells #[.int .i64 q.k.id, .slice q.S q.k.sec.length q.c, .int .i64 q.k.frm, .int .i64 q.k.til] 26)).cell? ⟨w.heap.size, 2, none⟩ = some (.int .i64 q.k.frm) := by rw [cell_of_row (w.alloc (.cells #[.int .i64 q.k.id, .slice q.S q.k.sec.length q.c, .int .i64 q.k.frm, .int .i64 q.k.til] 26)) _ 2 _ _ (0, 0) B.out.1]; rfl
  have x3 : (w.alloc (.cells #[.int .i64 q.k.id, .slice q.S q.k.sec.length q.c, .int .i64 q.k.frm, .int .i64 q.k.til] 26)).cell? ⟨w.heap.size, 3, none⟩ = some (.int .i64 q.k.til) := by rw [cell_of_row (w.alloc (.cells #[.int .i64 q.k.id, .slice q.S q.k.sec.length q.c, .int .i64 q.k.frm, .int .i64 q.k.til] 26)) _ 3 _ _ (0, 0) B.out.1]; rfl
  go_wp2_with fail
  refine (C.add l q n A c _ R E m HN.out HR.out HE.out HM.out HS.out L.out B.out.2.2).mono ?_
  clear x0 x1 x2 x3
  rintro e w1 ⟨A2, c2, rfl, hk, hsl, hb⟩
  replace B := Lib.hid (B.out.next hb)
  replace L := Lib.hid (L.out.next hb)
  replace HBL := Lib.hid (HBL.out.trans (hb.mono HBL.out.size))
  have K2 := Lib.hid hk
  have SL2 := Lib.hid hsl
  clear hk hb hsl
  go_wp2_with fail
  refine (refbig_named l n HN.out false HBIG.out A c w1 L.out h1).mono ?_
  rintro e w2 ⟨rfl, hb⟩
  replace B := Lib.hid (B.out.next hb)
  replace L := Lib.hid (L.out.next hb)
  replace K2 := Lib.hid (K2.out.next hb)
  replace HBL := Lib.hid (HBL.out.trans (hb.mono HBL.out.size))
  clear hb
  have x1 : w2.cell? ⟨w.heap.size, 1, none⟩ = some (.slice q.S q.k.sec.length q.c) := by rw [cell_of_row w2 _ 1 _ _ (0, 0) B.out.1]; rfl
  go_wp2_with fail
  refine (ringed_any C w2).mono ?_
  rintro e w3 ⟨rfl, hb⟩
  replace B := Lib.hid (B.out.next hb)
  replace L := Lib.hid (L.out.next hb)
  replace K2 := Lib.hid (K2.out.next hb)
  replace HBL := Lib.hid (HBL.out.trans (hb.mono HBL.out.size))
  clear hb
  go_wp2_with fail
  go_ret
  exact ⟨rfl, HBL.out⟩

set_option maxRecDepth 100000 in
set_option maxHeartbeats 800000 in
theorem keeps_same (C : RC) (l : List K) (q : KV) (id : Int) (n : Nat) (hn : n = l.length) (A : Option Addr) (c : Nat) (w : World) (hA : Ks w w.heap.size A l) (hs : Sl A n c) (hq : Bs w w.heap.size q.k.sec q.S q.c) (h1 : n ≤ 9223372036854775807) (R : List K) (m : Nat) (hR : R = addK l q.k) (hE : 0 = addE l q.k) (hm : m = R.length) (hbig : bigR l = false) (h200 : q.k.sec.length ≤ 200) (hid : (id == q.k.id) = true) (hf1 : q.k = findK R id) (hg1 : 0 = findE R id) (hf2 : K0 = findK l id) (hg2 : 10 = findE l id) (his : isR R = true) :
    Calls Try.prog 5 #[.slice A n c, .agg #[.int .i64 q.k.id, .slice q.S q.k.sec.length q.c, .int .i64 q.k.frm, .int .i64 q.k.til], .int .i64 id] w fun e w' => e = .returned (.bool true) ∧ Below w.heap.size w w' := by
  have hbx := box_lit w q hq
  have B := Lib.hid hbx.1
  have HBL := Lib.hid hbx.2
  have L := Lib.hid (hA.next hbx.2)
  have HN := Lib.hid hn
  have HS := Lib.hid hs
  have HR := Lib.hid hR
  have HE := Lib.hid hE
  have HM := Lib.hid hm
  have hpl := hq.len
  have hpc := hq.cap
  clear hbx hA hn hs hq hR hE hm
  have HBIG := Lib.hid hbig
  clear hbig
  have b200 : (q.k.sec.length : Int) ≤ 200 := by omega
  have HF1 := Lib.hid hf1
  have HG1 := Lib.hid hg1
  have HF2 := Lib.hid hf2
  have HG2 := Lib.hid hg2
  have HIS := Lib.hid his
  clear hf1 hg1 hf2 hg2 his
  have HID := Lib.hid hid
  clear hid
  go_enter Try.func5, Try.ntmps5
  have x0 : (w.alloc (.cells #[.int .i64 q.k.id, .slice q.S q.k.sec.length q.c, .int .i64 q.k.frm, .int .i64 q.k.til] 26)).cell? ⟨w.heap.size, 0, none⟩ = some (.int .i64 q.k.id) := by rw [cell_of_row (w.alloc (.cells #[.int .i64 q.k.id, .slice q.S q.k.sec.length q.c, .int .i64 q.k.frm, .int .i64 q.k.til] 26)) _ 0 _ _ (0, 0) B.out.1]; rfl
  have x1 : (w.alloc (.cells #[.int .i64 q.k.id, .slice q.S q.k.sec.length q.c, .int .i64 q.k.frm, .int .i64 q.k.til] 26)).cell? ⟨w.heap.size, 1, none⟩ = some (.slice q.S q.k.sec.length q.c) := by rw [cell_of_row (w.alloc (.cells #[.int .i64 q.k.id, .slice q.S q.k.sec.length q.c, .int .i64 q.k.frm, .int .i64 q.k.til] 26)) _ 1 _ _ (0, 0) B.out.1]; rfl
  have x2 : (w.alloc (.cells #[.int .i64 q.k.id, .slice q.S q.k.sec.length q.c, .int .i64 q.k.frm, .int .i64 q.k.til] 26)).cell? ⟨w.heap.size, 2, none⟩ = some (.int .i64 q.k.frm) := by rw [cell_of_row (w.alloc (.cells #[.int .i64 q.k.id, .slice q.S q.k.sec.length q.c, .int .i64 q.k.frm, .int .i64 q.k.til] 26)) _ 2 _ _ (0, 0) B.out.1]; rfl
  have x3 : (w.alloc (.cells #[.int .i64 q.k.id, .slice q.S q.k.sec.length q.c, .int .i64 q.k.frm, .int .i64 q.k.til] 26)).cell? ⟨w.heap.size, 3, none⟩ = some (.int .i64 q.k.til) := by rw [cell_of_row (w.alloc (.cells #[.int .i64 q.k.id, .slice q.S q.k.sec.length q.c, .int .i64 q.k.frm, .int .i64 q.k.til] 26)) _ 3 _ _ (0, 0) B.out.1]; rfl
  go_wp2_with fail
  refine (C.add l q n A c _ R 0 m HN.out HR.out HE.out HM.out HS.out L.out B.out.2.2).mono ?_
  clear x0 x1 x2 x3
  rintro e w1 ⟨A2, c2, rfl, hk, hsl, hb⟩
  replace B := Lib.hid (B.out.next hb)
  replace L := Lib.hid (L.out.next hb)
  replace HBL := Lib.hid (HBL.out.trans (hb.mono HBL.out.size))
  have K2 := Lib.hid hk
  have SL2 := Lib.hid hsl
  clear hk hb hsl
  go_wp2_with fail
  refine (refbig_named l n HN.out false HBIG.out A c w1 L.out h1).mono ?_
  rintro e w2 ⟨rfl, hb⟩
  replace B := Lib.hid (B.out.next hb)
  replace L := Lib.hid (L.out.next hb)
  replace K2 := Lib.hid (K2.out.next hb)
  replace HBL := Lib.hid (HBL.out.trans (hb.mono HBL.out.size))
  clear hb
  have x1 : w2.cell? ⟨w.heap.size, 1, none⟩ = some (.slice q.S q.k.sec.length q.c) := by rw [cell_of_row w2 _ 1 _ _ (0, 0) B.out.1]; rfl
  go_wp2_with fail
  refine (C.find R m id A2 c2 w2 q.k 0 HM.out HF1.out HG1.out SL2.out K2.out).mono ?_
  rintro e w3 ⟨S9, c9, rfl, hs, hb⟩
  replace B := Lib.hid (B.out.next hb)
  replace L := Lib.hid (L.out.next hb)
  replace K2 := Lib.hid (K2.out.next hb)
  replace HBL := Lib.hid (HBL.out.trans (hb.mono HBL.out.size))
  have HSS := Lib.hid hs
  clear hs hb
  go_wp2_with ((with_reducible refine at_store 9 ?_); refine wpList_store_named (o := ⟨none, .store 26 (.tmp 9) (.tmp 36), _, _, _, _⟩) rfl 26 (.tmp 9) (.tmp 36) rfl w3.heap.size #[.int .i64 q.k.id, .slice S9 q.k.sec.length c9, .int .i64 q.k.frm, .int .i64 q.k.til] rfl rfl 26 #[.int .i64 0, .slice none 0 0, .int .i64 0, .int .i64 0] (heap_alloc_new w3 _) infoKey rfl (kc_one _ _ _ _ _ _) ?_)
  intro w4 hw
  obtain ⟨hx, hb⟩ := box_made (q := ⟨q.k, S9, c9⟩) hw.out HSS.out
  replace B := Lib.hid (B.out.next hb)
  replace L := Lib.hid (L.out.next hb)
  replace K2 := Lib.hid (K2.out.next hb)
  replace HBL := Lib.hid (HBL.out.trans (hb.mono HBL.out.size))
  have X9 := Lib.hid hx
  clear hx hb hw HSS
  go_wp2_with fail
  refine (C.find l n id A c w4 K0 10 HN.out HF2.out HG2.out HS.out L.out).mono ?_
  rintro e w5 ⟨S11, c11, rfl, hs, hb⟩
  replace B := Lib.hid (B.out.next hb)
  replace L := Lib.hid (L.out.next hb)
  replace K2 := Lib.hid (K2.out.next hb)
  replace X9 := Lib.hid (X9.out.next hb)
  replace HBL := Lib.hid (HBL.out.trans (hb.mono HBL.out.size))
  have HSS := Lib.hid hs
  clear hs hb
  go_wp2_with ((with_reducible refine at_store 11 ?_); refine wpList_store_named (o := ⟨none, .store 26 (.tmp 11) (.tmp 42), _, _, _, _⟩) rfl 26 (.tmp 11) (.tmp 42) rfl w5.heap.size #[.int .i64 K0.id, .slice S11 K0.sec.length c11, .int .i64 K0.frm, .int .i64 K0.til] rfl rfl 26 #[.int .i64 0, .slice none 0 0, .int .i64 0, .int .i64 0] (heap_alloc_new w5 _) infoKey rfl (kc_one _ _ _ _ _ _) ?_)
  intro w6 hw
  obtain ⟨hx, hb⟩ := box_made (q := ⟨K0, S11, c11⟩) hw.out HSS.out
  replace B := Lib.hid (B.out.next hb)
  replace L := Lib.hid (L.out.next hb)
  replace K2 := Lib.hid (K2.out.next hb)
  replace X9 := Lib.hid (X9.out.next hb)
  replace HBL := Lib.hid (HBL.out.trans (hb.mono HBL.out.size))
  have X11 := Lib.hid hx
  clear hx hb hw HSS
  have z0 : w6.cell? ⟨w.heap.size, 0, none⟩ = some (.int .i64 q.k.id) := by rw [cell_of_row w6 _ 0 _ _ (0, 0) B.out.1]; rfl
  have hid := HID.out
  go_wp2_with fail
  refine (ringed_any C w6).mono ?_
  rintro e w7 ⟨rfl, hb⟩
  replace B := Lib.hid (B.out.next hb)
  replace L := Lib.hid (L.out.next hb)
  replace K2 := Lib.hid (K2.out.next hb)
  replace X9 := Lib.hid (X9.out.next hb)
  replace X11 := Lib.hid (X11.out.next hb)
  replace HBL := Lib.hid (HBL.out.trans (hb.mono HBL.out.size))
  clear hb
  clear z0
  go_wp2_with fail
  refine (C.is R m true A2 c2 w7 HM.out HIS.out SL2.out K2.out).mono ?_
  rintro e w8 ⟨rfl, hb⟩
  replace B := Lib.hid (B.out.next hb)
  replace L := Lib.hid (L.out.next hb)
  replace K2 := Lib.hid (K2.out.next hb)
  replace X9 := Lib.hid (X9.out.next hb)
  replace X11 := Lib.hid (X11.out.next hb)
  replace HBL := Lib.hid (HBL.out.trans (hb.mono HBL.out.size))
  clear hb
  have y0 : w8.cell? ⟨w3.heap.size, 0, none⟩ = some (.int .i64 q.k.id) := by rw [cell_of_row w8 _ 0 _ _ (0, 0) X9.out.1]; rfl
  have y1 : w8.cell? ⟨w3.heap.size, 1, none⟩ = some (.slice S9 q.k.sec.length c9) := by rw [cell_of_row w8 _ 1 _ _ (0, 0) X9.out.1]; rfl
  have y2 : w8.cell? ⟨w3.heap.size, 2, none⟩ = some (.int .i64 q.k.frm) := by rw [cell_of_row w8 _ 2 _ _ (0, 0) X9.out.1]; rfl
  have y3 : w8.cell? ⟨w3.heap.size, 3, none⟩ = some (.int .i64 q.k.til) := by rw [cell_of_row w8 _ 3 _ _ (0, 0) X9.out.1]; rfl
  have z0 : w8.cell? ⟨w.heap.size, 0, none⟩ = some (.int .i64 q.k.id) := by rw [cell_of_row w8 _ 0 _ _ (0, 0) B.out.1]; rfl
  have z1 : w8.cell? ⟨w.heap.size, 1, none⟩ = some (.slice q.S q.k.sec.length q.c) := by rw [cell_of_row w8 _ 1 _ _ (0, 0) B.out.1]; rfl
  have z2 : w8.cell? ⟨w.heap.size, 2, none⟩ = some (.int .i64 q.k.frm) := by rw [cell_of_row w8 _ 2 _ _ (0, 0) B.out.1]; rfl
  have z3 : w8.cell? ⟨w.heap.size, 3, none⟩ = some (.int .i64 q.k.til) := by rw [cell_of_row w8 _ 3 _ _ (0, 0) B.out.1]; rfl
  go_wp2_with fail
  refine (samek_named q.k q.k.sec.length rfl S9 q.S c9 q.c w8 X9.out.2.2 B.out.2.2).mono ?_
  clear y0 y1 y2 y3 z0 z1 z2 z3
  rintro e w9 ⟨rfl, hb⟩
  replace B := Lib.hid (B.out.next hb)
  replace L := Lib.hid (L.out.next hb)
  replace K2 := Lib.hid (K2.out.next hb)
  replace X9 := Lib.hid (X9.out.next hb)
  replace X11 := Lib.hid (X11.out.next hb)
  replace HBL := Lib.hid (HBL.out.trans (hb.mono HBL.out.size))
  clear hb
  go_wp2_with fail
  go_ret
  exact ⟨rfl, HBL.out⟩

set_option maxRecDepth 100000 in
set_option maxHeartbeats 800000 in
theorem keeps_other (C : RC) (l : List K) (q : KV) (id : Int) (n : Nat) (hn : n = l.length) (A : Option Addr) (c : Nat) (w : World) (hA : Ks w w.heap.size A l) (hs : Sl A n c) (hq : Bs w w.heap.size q.k.sec q.S q.c) (h1 : n ≤ 9223372036854775807) (R : List K) (m : Nat) (hR : R = addK l q.k) (hE : 0 = addE l q.k) (hm : m = R.length) (hbig : bigR l = false) (h200 : q.k.sec.length ≤ 200) (hid : (id == q.k.id) = false) (r : K) (F : Int) (hf1 : r = findK R id) (hg1 : F = findE R id) (hf2 : r = findK l id) (hg2 : F = findE l id) (his : isR R = true) (hlen : (m : Int) = (n : Int) + 1) (hn100 : n ≤ 100) :
    Calls Try.prog 5 #[.slice A n c, .agg #[.int .i64 q.k.id, .slice q.S q.k.sec.length q.c, .int .i64 q.k.frm, .int .i64 q.k.til], .int .i64 id] w fun e w' => e = .returned (.bool true) ∧ Below w.heap.size w w' := by
  have hbx := box_lit w q hq
  have B := Lib.hid hbx.1
  have HBL := Lib.hid hbx.2
  have L := Lib.hid (hA.next hbx.2)
  have HN := Lib.hid hn
  have HS := Lib.hid hs
  have HR := Lib.hid hR
  have HE := Lib.hid hE
  have HM := Lib.hid hm
  have hpl := hq.len
  have hpc := hq.cap
  clear hbx hA hn hs hq hR hE hm
  have HBIG := Lib.hid hbig
  clear hbig
  have b200 : (q.k.sec.length : Int) ≤ 200 := by omega
  have HF1 := Lib.hid hf1
  have HG1 := Lib.hid hg1
  have HF2 := Lib.hid hf2
  have HG2 := Lib.hid hg2
  have HIS := Lib.hid his
  clear hf1 hg1 hf2 hg2 his
  have HID := Lib.hid hid
  have HLEN := Lib.hid hlen
  clear hid hlen
  go_enter Try.func5, Try.ntmps5
  have x0 : (w.alloc (.cells #[.int .i64 q.k.id, .slice q.S q.k.sec.length q.c, .int .i64 q.k.frm, .int .i64 q.k.til] 26)).cell? ⟨w.heap.size, 0, none⟩ = some (.int .i64 q.k.id) := by rw [cell_of_row (w.alloc (.cells #[.int .i64 q.k.id, .slice q.S q.k.sec.length q.c, .int .i64 q.k.frm, .int .i64 q.k.til] 26)) _ 0 _ _ (0, 0) B.out.1]; rfl
  have x1 : (w.alloc (.cells #[.int .i64 q.k.id, .slice q.S q.k.sec.length q.c, .int .i64 q.k.frm, .int .i64 q.k.til] 26)).cell? ⟨w.heap.size, 1, none⟩ = some (.slice q.S q.k.sec.length q.c) := by rw [cell_of_row (w.alloc (.cells #[.int .i64 q.k.id, .slice q.S q.k.sec.length q.c, .int .i64 q.k.frm, .int .i64 q.k.til] 26)) _ 1 _ _ (0, 0) B.out.1]; rfl
  have x2 : (w.alloc (.cells #[.int .i64 q.k.id, .slice q.S q.k.sec.length q.c, .int .i64 q.k.frm, .int .i64 q.k.til] 26)).cell? ⟨w.heap.size, 2, none⟩ = some (.int .i64 q.k.frm) := by rw [cell_of_row (w.alloc (.cells #[.int .i64 q.k.id, .slice q.S q.k.sec.length q.c, .int .i64 q.k.frm, .int .i64 q.k.til] 26)) _ 2 _ _ (0, 0) B.out.1]; rfl
  have x3 : (w.alloc (.cells #[.int .i64 q.k.id, .slice q.S q.k.sec.length q.c, .int .i64 q.k.frm, .int .i64 q.k.til] 26)).cell? ⟨w.heap.size, 3, none⟩ = some (.int .i64 q.k.til) := by rw [cell_of_row (w.alloc (.cells #[.int .i64 q.k.id, .slice q.S q.k.sec.length q.c, .int .i64 q.k.frm, .int .i64 q.k.til] 26)) _ 3 _ _ (0, 0) B.out.1]; rfl
  go_wp2_with fail
  refine (C.add l q n A c _ R 0 m HN.out HR.out HE.out HM.out HS.out L.out B.out.2.2).mono ?_
  clear x0 x1 x2 x3
  rintro e w1 ⟨A2, c2, rfl, hk, hsl, hb⟩
  replace B := Lib.hid (B.out.next hb)
  replace L := Lib.hid (L.out.next hb)
  replace HBL := Lib.hid (HBL.out.trans (hb.mono HBL.out.size))
  have K2 := Lib.hid hk
  have SL2 := Lib.hid hsl
  clear hk hb hsl
  go_wp2_with fail
  refine (refbig_named l n HN.out false HBIG.out A c w1 L.out h1).mono ?_
  rintro e w2 ⟨rfl, hb⟩
  replace B := Lib.hid (B.out.next hb)
  replace L := Lib.hid (L.out.next hb)
  replace K2 := Lib.hid (K2.out.next hb)
  replace HBL := Lib.hid (HBL.out.trans (hb.mono HBL.out.size))
  clear hb
  have x1 : w2.cell? ⟨w.heap.size, 1, none⟩ = some (.slice q.S q.k.sec.length q.c) := by rw [cell_of_row w2 _ 1 _ _ (0, 0) B.out.1]; rfl
  go_wp2_with fail
  refine (C.find R m id A2 c2 w2 r F HM.out HF1.out HG1.out SL2.out K2.out).mono ?_
  rintro e w3 ⟨S9, c9, rfl, hs, hb⟩
  replace B := Lib.hid (B.out.next hb)
  replace L := Lib.hid (L.out.next hb)
  replace K2 := Lib.hid (K2.out.next hb)
  replace HBL := Lib.hid (HBL.out.trans (hb.mono HBL.out.size))
  have HSS := Lib.hid hs
  clear hs hb
  go_wp2_with ((with_reducible refine at_store 9 ?_); refine wpList_store_named (o := ⟨none, .store 26 (.tmp 9) (.tmp 36), _, _, _, _⟩) rfl 26 (.tmp 9) (.tmp 36) rfl w3.heap.size #[.int .i64 r.id, .slice S9 r.sec.length c9, .int .i64 r.frm, .int .i64 r.til] rfl rfl 26 #[.int .i64 0, .slice none 0 0, .int .i64 0, .int .i64 0] (heap_alloc_new w3 _) infoKey rfl (kc_one _ _ _ _ _ _) ?_)
  intro w4 hw
  obtain ⟨hx, hb⟩ := box_made (q := ⟨r, S9, c9⟩) hw.out HSS.out
  replace B := Lib.hid (B.out.next hb)
  replace L := Lib.hid (L.out.next hb)
  replace K2 := Lib.hid (K2.out.next hb)
  replace HBL := Lib.hid (HBL.out.trans (hb.mono HBL.out.size))
  have X9 := Lib.hid hx
  clear hx hb hw HSS
  go_wp2_with fail
  refine (C.find l n id A c w4 r F HN.out HF2.out HG2.out HS.out L.out).mono ?_
  rintro e w5 ⟨S11, c11, rfl, hs, hb⟩
  replace B := Lib.hid (B.out.next hb)
  replace L := Lib.hid (L.out.next hb)
  replace K2 := Lib.hid (K2.out.next hb)
  replace X9 := Lib.hid (X9.out.next hb)
  replace HBL := Lib.hid (HBL.out.trans (hb.mono HBL.out.size))
  have HSS := Lib.hid hs
  clear hs hb
  go_wp2_with ((with_reducible refine at_store 11 ?_); refine wpList_store_named (o := ⟨none, .store 26 (.tmp 11) (.tmp 42), _, _, _, _⟩) rfl 26 (.tmp 11) (.tmp 42) rfl w5.heap.size #[.int .i64 r.id, .slice S11 r.sec.length c11, .int .i64 r.frm, .int .i64 r.til] rfl rfl 26 #[.int .i64 0, .slice none 0 0, .int .i64 0, .int .i64 0] (heap_alloc_new w5 _) infoKey rfl (kc_one _ _ _ _ _ _) ?_)
  intro w6 hw
  obtain ⟨hx, hb⟩ := box_made (q := ⟨r, S11, c11⟩) hw.out HSS.out
  replace B := Lib.hid (B.out.next hb)
  replace L := Lib.hid (L.out.next hb)
  replace K2 := Lib.hid (K2.out.next hb)
  replace X9 := Lib.hid (X9.out.next hb)
  replace HBL := Lib.hid (HBL.out.trans (hb.mono HBL.out.size))
  have X11 := Lib.hid hx
  clear hx hb hw HSS
  have z0 : w6.cell? ⟨w.heap.size, 0, none⟩ = some (.int .i64 q.k.id) := by rw [cell_of_row w6 _ 0 _ _ (0, 0) B.out.1]; rfl
  have hid := HID.out
  go_wp2_with fail
  refine (ringed_any C w6).mono ?_
  rintro e w7 ⟨rfl, hb⟩
  replace B := Lib.hid (B.out.next hb)
  replace L := Lib.hid (L.out.next hb)
  replace K2 := Lib.hid (K2.out.next hb)
  replace X9 := Lib.hid (X9.out.next hb)
  replace X11 := Lib.hid (X11.out.next hb)
  replace HBL := Lib.hid (HBL.out.trans (hb.mono HBL.out.size))
  clear hb
  clear z0
  go_wp2_with fail
  refine (C.is R m true A2 c2 w7 HM.out HIS.out SL2.out K2.out).mono ?_
  rintro e w8 ⟨rfl, hb⟩
  replace B := Lib.hid (B.out.next hb)
  replace L := Lib.hid (L.out.next hb)
  replace K2 := Lib.hid (K2.out.next hb)
  replace X9 := Lib.hid (X9.out.next hb)
  replace X11 := Lib.hid (X11.out.next hb)
  replace HBL := Lib.hid (HBL.out.trans (hb.mono HBL.out.size))
  clear hb
  have y0 : w8.cell? ⟨w3.heap.size, 0, none⟩ = some (.int .i64 r.id) := by rw [cell_of_row w8 _ 0 _ _ (0, 0) X9.out.1]; rfl
  have y1 : w8.cell? ⟨w3.heap.size, 1, none⟩ = some (.slice S9 r.sec.length c9) := by rw [cell_of_row w8 _ 1 _ _ (0, 0) X9.out.1]; rfl
  have y2 : w8.cell? ⟨w3.heap.size, 2, none⟩ = some (.int .i64 r.frm) := by rw [cell_of_row w8 _ 2 _ _ (0, 0) X9.out.1]; rfl
  have y3 : w8.cell? ⟨w3.heap.size, 3, none⟩ = some (.int .i64 r.til) := by rw [cell_of_row w8 _ 3 _ _ (0, 0) X9.out.1]; rfl
  have z0 : w8.cell? ⟨w5.heap.size, 0, none⟩ = some (.int .i64 r.id) := by rw [cell_of_row w8 _ 0 _ _ (0, 0) X11.out.1]; rfl
  have z1 : w8.cell? ⟨w5.heap.size, 1, none⟩ = some (.slice S11 r.sec.length c11) := by rw [cell_of_row w8 _ 1 _ _ (0, 0) X11.out.1]; rfl
  have z2 : w8.cell? ⟨w5.heap.size, 2, none⟩ = some (.int .i64 r.frm) := by rw [cell_of_row w8 _ 2 _ _ (0, 0) X11.out.1]; rfl
  have z3 : w8.cell? ⟨w5.heap.size, 3, none⟩ = some (.int .i64 r.til) := by rw [cell_of_row w8 _ 3 _ _ (0, 0) X11.out.1]; rfl
  go_wp2_with fail
  refine (samek_named r r.sec.length rfl S9 S11 c9 c11 w8 X9.out.2.2 X11.out.2.2).mono ?_
  clear y0 y1 y2 y3 z0 z1 z2 z3
  rintro e w9 ⟨rfl, hb⟩
  replace B := Lib.hid (B.out.next hb)
  replace L := Lib.hid (L.out.next hb)
  replace K2 := Lib.hid (K2.out.next hb)
  replace X9 := Lib.hid (X9.out.next hb)
  replace X11 := Lib.hid (X11.out.next hb)
  replace HBL := Lib.hid (HBL.out.trans (hb.mono HBL.out.size))
  clear hb
  have hlen := HLEN.out
  go_wp2_with fail
  go_ret
  exact ⟨by simp, HBL.out⟩
end Go.Proofs.Ytedkgkokfaadfaa
