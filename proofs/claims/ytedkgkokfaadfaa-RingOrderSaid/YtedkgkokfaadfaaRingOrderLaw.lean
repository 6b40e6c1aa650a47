/-
  Proved: for all keys and any two keys the law RingOrder answers true, and leaves what came in as it was. Conditions: none beyond the statement's own.
-/
import Derived.Test.YtedkgkokfaadfaaRingNamed
import Derived.Test.YtedkgkokfaadfaaRingOrderMath
namespace Go.Proofs.Ytedkgkokfaadfaa
set_option linter.unusedVariables false
open Go.ChangeShapes Go.WideShapes Go.ChangeAt Go.RowKit

set_option maxRecDepth 100000 in
set_option maxHeartbeats 800000 in
theorem order_big (C : RC) (l : List K) (p q : KV) (n : Nat) (hn : n = l.length) (A : Option Addr) (c : Nat) (w : World) (hA : Ks w w.heap.size A l) (hs : Sl A n c) (hp : Bs w w.heap.size p.k.sec p.S p.c) (hq : Bs w w.heap.size q.k.sec q.S q.c) (h1 : n ≤ 9223372036854775807) (hbig : bigR l = true) :
    Calls Try.prog 7 #[.slice A n c, .agg #[.int .i64 p.k.id, .slice p.S p.k.sec.length p.c, .int .i64 p.k.frm, .int .i64 p.k.til], .agg #[.int .i64 q.k.id, .slice q.S q.k.sec.length q.c, .int .i64 q.k.frm, .int .i64 q.k.til]] w fun e w' => e = .returned (.bool true) ∧ Below w.heap.size w w' := by
  have hbp := box_lit w p hp
  have hbq := box_lit (w.alloc (.cells #[.int .i64 p.k.id, .slice p.S p.k.sec.length p.c, .int .i64 p.k.frm, .int .i64 p.k.til] 26)) q (hq.next hbp.2)
  have hsz : (w.alloc (.cells #[.int .i64 p.k.id, .slice p.S p.k.sec.length p.c, .int .i64 p.k.frm, .int .i64 p.k.til] 26)).heap.size = w.heap.size + 1 := by simp
  have hBL := hbp.2.trans (hbq.2.mono hbp.2.size)
  have HBL := Lib.hid hBL
  have L := Lib.hid (hA.next hBL)
  have P := Lib.hid (hbp.1.next hbq.2)
  have Q := Lib.hid (show Box _ (w.heap.size + 1) q by rw [← hsz]; exact hbq.1)
  have HN := Lib.hid hn
  have HS := Lib.hid hs
  have hpl := hp.len
  have hpc := hp.cap
  have hql := hq.len
  have hqc := hq.cap
  clear hbp hbq hsz hBL hA hn hs hp hq
  have HBIG := Lib.hid hbig
  clear hbig
  go_enter Try.func7, Try.ntmps7
  go_wp2_with fail
  refine (refbig_named l n HN.out true HBIG.out A c _ L.out h1).mono ?_
  rintro e w1 ⟨rfl, hb⟩
  replace L := Lib.hid (L.out.next hb)
  replace P := Lib.hid (P.out.next hb)
  replace Q := Lib.hid (Q.out.next hb)
  replace HBL := Lib.hid (HBL.out.trans (hb.mono HBL.out.size))
  clear hb
  go_wp2_with fail
  go_ret
  exact ⟨rfl, HBL.out⟩

set_option maxRecDepth 100000 in
set_option maxHeartbeats 800000 in
theorem order_long1 (C : RC) (l : List K) (p q : KV) (n : Nat) (hn : n = l.length) (A : Option Addr) (c : Nat) (w : World) (hA : Ks w w.heap.size A l) (hs : Sl A n c) (hp : Bs w w.heap.size p.k.sec p.S p.c) (hq : Bs w w.heap.size q.k.sec q.S q.c) (h1 : n ≤ 9223372036854775807) (hbig : bigR l = false) (h200 : 200 < p.k.sec.length) :
    Calls Try.prog 7 #[.slice A n c, .agg #[.int .i64 p.k.id, .slice p.S p.k.sec.length p.c, .int .i64 p.k.frm, .int .i64 p.k.til], .agg #[.int .i64 q.k.id, .slice q.S q.k.sec.length q.c, .int .i64 q.k.frm, .int .i64 q.k.til]] w fun e w' => e = .returned (.bool true) ∧ Below w.heap.size w w' := by
  have hbp := box_lit w p hp
  have hbq := box_lit (w.alloc (.cells #[.int .i64 p.k.id, .slice p.S p.k.sec.length p.c, .int .i64 p.k.frm, .int .i64 p.k.til] 26)) q (hq.next hbp.2)
  have hsz : (w.alloc (.cells #[.int .i64 p.k.id, .slice p.S p.k.sec.length p.c, .int .i64 p.k.frm, .int .i64 p.k.til] 26)).heap.size = w.heap.size + 1 := by simp
  have hBL := hbp.2.trans (hbq.2.mono hbp.2.size)
  have HBL := Lib.hid hBL
  have L := Lib.hid (hA.next hBL)
  have P := Lib.hid (hbp.1.next hbq.2)
  have Q := Lib.hid (show Box _ (w.heap.size + 1) q by rw [← hsz]; exact hbq.1)
  have HN := Lib.hid hn
  have HS := Lib.hid hs
  have hpl := hp.len
  have hpc := hp.cap
  have hql := hq.len
  have hqc := hq.cap
  clear hbp hbq hsz hBL hA hn hs hp hq
  have HBIG := Lib.hid hbig
  clear hbig
  have b200 : (200 : Int) < (p.k.sec.length : Int) := by omega
  go_enter Try.func7, Try.ntmps7
  go_wp2_with fail
  refine (refbig_named l n HN.out false HBIG.out A c _ L.out h1).mono ?_
  rintro e w1 ⟨rfl, hb⟩
  replace L := Lib.hid (L.out.next hb)
  replace P := Lib.hid (P.out.next hb)
  replace Q := Lib.hid (Q.out.next hb)
  replace HBL := Lib.hid (HBL.out.trans (hb.mono HBL.out.size))
  clear hb
  have x1 : w1.cell? ⟨w.heap.size, 1, none⟩ = some (.slice p.S p.k.sec.length p.c) := by rw [cell_of_row w1 _ 1 _ _ (0, 0) P.out.1]; rfl
  have y1 : w1.cell? ⟨w.heap.size + 1, 1, none⟩ = some (.slice q.S q.k.sec.length q.c) := by rw [cell_of_row w1 _ 1 _ _ (0, 0) Q.out.1]; rfl
  go_wp2_with fail
  go_ret
  exact ⟨rfl, HBL.out⟩

set_option maxRecDepth 100000 in
set_option maxHeartbeats 800000 in
theorem order_long2 (C : RC) (l : List K) (p q : KV) (n : Nat) (hn : n = l.length) (A : Option Addr) (c : Nat) (w : World) (hA : Ks w w.heap.size A l) (hs : Sl A n c) (hp : Bs w w.heap.size p.k.sec p.S p.c) (hq : Bs w w.heap.size q.k.sec q.S q.c) (h1 : n ≤ 9223372036854775807) (hbig : bigR l = false) (h200 : p.k.sec.length ≤ 200) (h201 : 200 < q.k.sec.length) :
    Calls Try.prog 7 #[.slice A n c, .agg #[.int .i64 p.k.id, .slice p.S p.k.sec.length p.c, .int .i64 p.k.frm, .int .i64 p.k.til], .agg #[.int .i64 q.k.id, .slice q.S q.k.sec.length q.c, .int .i64 q.k.frm, .int .i64 q.k.til]] w fun e w' => e = .returned (.bool true) ∧ Below w.heap.size w w' := by
  have hbp := box_lit w p hp
  have hbq := box_lit (w.alloc (.cells #[.int .i64 p.k.id, .slice p.S p.k.sec.length p.c, .int .i64 p.k.frm, .int .i64 p.k.til] 26)) q (hq.next hbp.2)
  have hsz : (w.alloc (.cells #[.int .i64 p.k.id, .slice p.S p.k.sec.length p.c, .int .i64 p.k.frm, .int .i64 p.k.til] 26)).heap.size = w.heap.size + 1 := by simp
  have hBL := hbp.2.trans (hbq.2.mono hbp.2.size)
  have HBL := Lib.hid hBL
  have L := Lib.hid (hA.next hBL)
  have P := Lib.hid (hbp.1.next hbq.2)
  have Q := Lib.hid (show Box _ (w.heap.size + 1) q by rw [← hsz]; exact hbq.1)
  have HN := Lib.hid hn
  have HS := Lib.hid hs
  have hpl := hp.len
  have hpc := hp.cap
  have hql := hq.len
  have hqc := hq.cap
  clear hbp hbq hsz hBL hA hn hs hp hq
  have HBIG := Lib.hid hbig
  clear hbig
  have b200 : (p.k.sec.length : Int) ≤ 200 := by omega
  have b201 : (200 : Int) < (q.k.sec.length : Int) := by omega
  go_enter Try.func7, Try.ntmps7
  go_wp2_with fail
  refine (refbig_named l n HN.out false HBIG.out A c _ L.out h1).mono ?_
  rintro e w1 ⟨rfl, hb⟩
  replace L := Lib.hid (L.out.next hb)
  replace P := Lib.hid (P.out.next hb)
  replace Q := Lib.hid (Q.out.next hb)
  replace HBL := Lib.hid (HBL.out.trans (hb.mono HBL.out.size))
  clear hb
  have x1 : w1.cell? ⟨w.heap.size, 1, none⟩ = some (.slice p.S p.k.sec.length p.c) := by rw [cell_of_row w1 _ 1 _ _ (0, 0) P.out.1]; rfl
  have y1 : w1.cell? ⟨w.heap.size + 1, 1, none⟩ = some (.slice q.S q.k.sec.length q.c) := by rw [cell_of_row w1 _ 1 _ _ (0, 0) Q.out.1]; rfl
  go_wp2_with fail
  go_ret
  exact ⟨rfl, HBL.out⟩

set_option maxRecDepth 100000 in
set_option maxHeartbeats 800000 in
theorem order_bad1 (C : RC) (l : List K) (p q : KV) (n : Nat) (hn : n = l.length) (A : Option Addr) (c : Nat) (w : World) (hA : Ks w w.heap.size A l) (hs : Sl A n c) (hp : Bs w w.heap.size p.k.sec p.S p.c) (hq : Bs w w.heap.size q.k.sec q.S q.c) (h1 : n ≤ 9223372036854775807) (hbig : bigR l = false) (h200 : p.k.sec.length ≤ 200) (h201 : q.k.sec.length ≤ 200) (E1 : Int) (hE1 : E1 = addE l p.k) (h0 : (E1 == 0) = false) (h00 : (E1 != 0) = true) :
    Calls Try.prog 7 #[.slice A n c, .agg #[.int .i64 p.k.id, .slice p.S p.k.sec.length p.c, .int .i64 p.k.frm, .int .i64 p.k.til], .agg #[.int .i64 q.k.id, .slice q.S q.k.sec.length q.c, .int .i64 q.k.frm, .int .i64 q.k.til]] w fun e w' => e = .returned (.bool true) ∧ Below w.heap.size w w' := by
  have hbp := box_lit w p hp
  have hbq := box_lit (w.alloc (.cells #[.int .i64 p.k.id, .slice p.S p.k.sec.length p.c, .int .i64 p.k.frm, .int .i64 p.k.til] 26)) q (hq.next hbp.2)
  have hsz : (w.alloc (.cells #[.int .i64 p.k.id, .slice p.S p.k.sec.length p.c, .int .i64 p.k.frm, .int .i64 p.k.til] 26)).heap.size = w.heap.size + 1 := by simp
  have hBL := hbp.2.trans (hbq.2.mono hbp.2.size)
  have HBL := Lib.hid hBL
  have L := Lib.hid (hA.next hBL)
  have P := Lib.hid (hbp.1.next hbq.2)
  have Q := Lib.hid (show Box _ (w.heap.size + 1) q by rw [← hsz]; exact hbq.1)
  have HN := Lib.hid hn
  have HS := Lib.hid hs
  have hpl := hp.len
  have hpc := hp.cap
  have hql := hq.len
  have hqc := hq.cap
  clear hbp hbq hsz hBL hA hn hs hp hq
  have HBIG := Lib.hid hbig
  have b200 : (p.k.sec.length : Int) ≤ 200 := by omega
  have b201 : (q.k.sec.length : Int) ≤ 200 := by omega
  obtain ⟨R1, hR1⟩ : ∃ R, R = addK l p.k := ⟨_, rfl⟩
  obtain ⟨m1, hm1⟩ : ∃ m, m = R1.length := ⟨_, rfl⟩
  obtain ⟨R2, hR2⟩ : ∃ R, R = addK l q.k := ⟨_, rfl⟩
  obtain ⟨m2, hm2⟩ : ∃ m, m = R2.length := ⟨_, rfl⟩
  have HR1 := Lib.hid hR1
  have HM1 := Lib.hid hm1
  have HR2 := Lib.hid hR2
  have HM2 := Lib.hid hm2
  clear hbig hR1 hm1 hR2 hm2
  obtain ⟨E2, hE2⟩ : ∃ E, E = addE l q.k := ⟨_, rfl⟩
  have HE1 := Lib.hid hE1
  have HE2 := Lib.hid hE2
  clear hE1 hE2
  go_enter Try.func7, Try.ntmps7
  go_wp2_with fail
  refine (refbig_named l n HN.out false HBIG.out A c _ L.out h1).mono ?_
  rintro e w1 ⟨rfl, hb⟩
  replace L := Lib.hid (L.out.next hb)
  replace P := Lib.hid (P.out.next hb)
  replace Q := Lib.hid (Q.out.next hb)
  replace HBL := Lib.hid (HBL.out.trans (hb.mono HBL.out.size))
  clear hb
  have x0 : w1.cell? ⟨w.heap.size, 0, none⟩ = some (.int .i64 p.k.id) := by rw [cell_of_row w1 _ 0 _ _ (0, 0) P.out.1]; rfl
  have x1 : w1.cell? ⟨w.heap.size, 1, none⟩ = some (.slice p.S p.k.sec.length p.c) := by rw [cell_of_row w1 _ 1 _ _ (0, 0) P.out.1]; rfl
  have x2 : w1.cell? ⟨w.heap.size, 2, none⟩ = some (.int .i64 p.k.frm) := by rw [cell_of_row w1 _ 2 _ _ (0, 0) P.out.1]; rfl
  have x3 : w1.cell? ⟨w.heap.size, 3, none⟩ = some (.int .i64 p.k.til) := by rw [cell_of_row w1 _ 3 _ _ (0, 0) P.out.1]; rfl
  have y1 : w1.cell? ⟨w.heap.size + 1, 1, none⟩ = some (.slice q.S q.k.sec.length q.c) := by rw [cell_of_row w1 _ 1 _ _ (0, 0) Q.out.1]; rfl
  go_wp2_with fail
  refine (C.add l p n A c w1 R1 E1 m1 HN.out HR1.out HE1.out HM1.out HS.out L.out P.out.2.2).mono ?_
  clear x0 x1 x2 x3 y1
  rintro e w2 ⟨A2, c2, rfl, hk, hsl, hb⟩
  replace L := Lib.hid (L.out.next hb)
  replace P := Lib.hid (P.out.next hb)
  replace Q := Lib.hid (Q.out.next hb)
  replace HBL := Lib.hid (HBL.out.trans (hb.mono HBL.out.size))
  have K2 := Lib.hid hk
  have SL2 := Lib.hid hsl
  clear hk hb hsl
  have y0 : w2.cell? ⟨w.heap.size + 1, 0, none⟩ = some (.int .i64 q.k.id) := by rw [cell_of_row w2 _ 0 _ _ (0, 0) Q.out.1]; rfl
  have y1 : w2.cell? ⟨w.heap.size + 1, 1, none⟩ = some (.slice q.S q.k.sec.length q.c) := by rw [cell_of_row w2 _ 1 _ _ (0, 0) Q.out.1]; rfl
  have y2 : w2.cell? ⟨w.heap.size + 1, 2, none⟩ = some (.int .i64 q.k.frm) := by rw [cell_of_row w2 _ 2 _ _ (0, 0) Q.out.1]; rfl
  have y3 : w2.cell? ⟨w.heap.size + 1, 3, none⟩ = some (.int .i64 q.k.til) := by rw [cell_of_row w2 _ 3 _ _ (0, 0) Q.out.1]; rfl
  go_wp2_with fail
  refine (C.add l q n A c w2 R2 E2 m2 HN.out HR2.out HE2.out HM2.out HS.out L.out Q.out.2.2).mono ?_
  clear y0 y1 y2 y3
  rintro e w3 ⟨A3, c3, rfl, hk, hsl, hb⟩
  replace L := Lib.hid (L.out.next hb)
  replace P := Lib.hid (P.out.next hb)
  replace Q := Lib.hid (Q.out.next hb)
  replace K2 := Lib.hid (K2.out.next hb)
  replace HBL := Lib.hid (HBL.out.trans (hb.mono HBL.out.size))
  have K3 := Lib.hid hk
  have SL3 := Lib.hid hsl
  clear hk hb hsl
  go_wp2_with fail
  refine (ringed_any C w3).mono ?_
  rintro e w4 ⟨rfl, hb⟩
  replace L := Lib.hid (L.out.next hb)
  replace P := Lib.hid (P.out.next hb)
  replace Q := Lib.hid (Q.out.next hb)
  replace K2 := Lib.hid (K2.out.next hb)
  replace K3 := Lib.hid (K3.out.next hb)
  replace HBL := Lib.hid (HBL.out.trans (hb.mono HBL.out.size))
  clear hb
  go_wp2_with fail
  go_ret
  exact ⟨rfl, HBL.out⟩

set_option maxRecDepth 100000 in
set_option maxHeartbeats 800000 in
theorem order_bad2 (C : RC) (l : List K) (p q : KV) (n : Nat) (hn : n = l.length) (A : Option Addr) (c : Nat) (w : World) (hA : Ks w w.heap.size A l) (hs : Sl A n c) (hp : Bs w w.heap.size p.k.sec p.S p.c) (hq : Bs w w.heap.size q.k.sec q.S q.c) (h1 : n ≤ 9223372036854775807) (hbig : bigR l = false) (h200 : p.k.sec.length ≤ 200) (h201 : q.k.sec.length ≤ 200) (hE1 : 0 = addE l p.k) (E2 : Int) (hE2 : E2 = addE l q.k) (h0 : (E2 == 0) = false) (h00 : (E2 != 0) = true) :
    Calls Try.prog 7 #[.slice A n c, .agg #[.int .i64 p.k.id, .slice p.S p.k.sec.length p.c, .int .i64 p.k.frm, .int .i64 p.k.til], .agg #[.int .i64 q.k.id, .slice q.S q.k.sec.length q.c, .int .i64 q.k.frm, .int .i64 q.k.til]] w fun e w' => e = .returned (.bool true) ∧ Below w.heap.size w w' := by
  have hbp := box_lit w p hp
  have hbq := box_lit (w.alloc (.cells #[.int .i64 p.k.id, .slice p.S p.k.sec.length p.c, .int .i64 p.k.frm, .int .i64 p.k.til] 26)) q (hq.next hbp.2)
  have hsz : (w.alloc (.cells #[.int .i64 p.k.id, .slice p.S p.k.sec.length p.c, .int .i64 p.k.frm, .int .i64 p.k.til] 26)).heap.size = w.heap.size + 1 := by simp
  have hBL := hbp.2.trans (hbq.2.mono hbp.2.size)
  have HBL := Lib.hid hBL
  have L := Lib.hid (hA.next hBL)
  have P := Lib.hid (hbp.1.next hbq.2)
  have Q := Lib.hid (show Box _ (w.heap.size + 1) q by rw [← hsz]; exact hbq.1)
  have HN := Lib.hid hn
  have HS := Lib.hid hs
  have hpl := hp.len
  have hpc := hp.cap
  have hql := hq.len
  have hqc := hq.cap
  clear hbp hbq hsz hBL hA hn hs hp hq
  have HBIG := Lib.hid hbig
  have b200 : (p.k.sec.length : Int) ≤ 200 := by omega
  have b201 : (q.k.sec.length : Int) ≤ 200 := by omega
  obtain ⟨R1, hR1⟩ : ∃ R, R = addK l p.k := ⟨_, rfl⟩
  obtain ⟨m1, hm1⟩ : ∃ m, m = R1.length := ⟨_, rfl⟩
  obtain ⟨R2, hR2⟩ : ∃ R, R = addK l q.k := ⟨_, rfl⟩
  obtain ⟨m2, hm2⟩ : ∃ m, m = R2.length := ⟨_, rfl⟩
  have HR1 := Lib.hid hR1
  have HM1 := Lib.hid hm1
  have HR2 := Lib.hid hR2
  have HM2 := Lib.hid hm2
  clear hbig hR1 hm1 hR2 hm2
  have HE1 := Lib.hid hE1
  have HE2 := Lib.hid hE2
  clear hE1 hE2
  go_enter Try.func7, Try.ntmps7
  go_wp2_with fail
  refine (refbig_named l n HN.out false HBIG.out A c _ L.out h1).mono ?_
  rintro e w1 ⟨rfl, hb⟩
  replace L := Lib.hid (L.out.next hb)
  replace P := Lib.hid (P.out.next hb)
  replace Q := Lib.hid (Q.out.next hb)
  replace HBL := Lib.hid (HBL.out.trans (hb.mono HBL.out.size))
  clear hb
  have x0 : w1.cell? ⟨w.heap.size, 0, none⟩ = some (.int .i64 p.k.id) := by rw [cell_of_row w1 _ 0 _ _ (0, 0) P.out.1]; rfl
  have x1 : w1.cell? ⟨w.heap.size, 1, none⟩ = some (.slice p.S p.k.sec.length p.c) := by rw [cell_of_row w1 _ 1 _ _ (0, 0) P.out.1]; rfl
  have x2 : w1.cell? ⟨w.heap.size, 2, none⟩ = some (.int .i64 p.k.frm) := by rw [cell_of_row w1 _ 2 _ _ (0, 0) P.out.1]; rfl
  have x3 : w1.cell? ⟨w.heap.size, 3, none⟩ = some (.int .i64 p.k.til) := by rw [cell_of_row w1 _ 3 _ _ (0, 0) P.out.1]; rfl
  have y1 : w1.cell? ⟨w.heap.size + 1, 1, none⟩ = some (.slice q.S q.k.sec.length q.c) := by rw [cell_of_row w1 _ 1 _ _ (0, 0) Q.out.1]; rfl
  go_wp2_with fail
  refine (C.add l p n A c w1 R1 0 m1 HN.out HR1.out HE1.out HM1.out HS.out L.out P.out.2.2).mono ?_
  clear x0 x1 x2 x3 y1
  rintro e w2 ⟨A2, c2, rfl, hk, hsl, hb⟩
  replace L := Lib.hid (L.out.next hb)
  replace P := Lib.hid (P.out.next hb)
  replace Q := Lib.hid (Q.out.next hb)
  replace HBL := Lib.hid (HBL.out.trans (hb.mono HBL.out.size))
  have K2 := Lib.hid hk
  have SL2 := Lib.hid hsl
  clear hk hb hsl
  have y0 : w2.cell? ⟨w.heap.size + 1, 0, none⟩ = some (.int .i64 q.k.id) := by rw [cell_of_row w2 _ 0 _ _ (0, 0) Q.out.1]; rfl
  have y1 : w2.cell? ⟨w.heap.size + 1, 1, none⟩ = some (.slice q.S q.k.sec.length q.c) := by rw [cell_of_row w2 _ 1 _ _ (0, 0) Q.out.1]; rfl
  have y2 : w2.cell? ⟨w.heap.size + 1, 2, none⟩ = some (.int .i64 q.k.frm) := by rw [cell_of_row w2 _ 2 _ _ (0, 0) Q.out.1]; rfl
  have y3 : w2.cell? ⟨w.heap.size + 1, 3, none⟩ = some (.int .i64 q.k.til) := by rw [cell_of_row w2 _ 3 _ _ (0, 0) Q.out.1]; rfl
  go_wp2_with fail
  refine (C.add l q n A c w2 R2 E2 m2 HN.out HR2.out HE2.out HM2.out HS.out L.out Q.out.2.2).mono ?_
  clear y0 y1 y2 y3
  rintro e w3 ⟨A3, c3, rfl, hk, hsl, hb⟩
  replace L := Lib.hid (L.out.next hb)
  replace P := Lib.hid (P.out.next hb)
  replace Q := Lib.hid (Q.out.next hb)
  replace K2 := Lib.hid (K2.out.next hb)
  replace HBL := Lib.hid (HBL.out.trans (hb.mono HBL.out.size))
  have K3 := Lib.hid hk
  have SL3 := Lib.hid hsl
  clear hk hb hsl
  go_wp2_with fail
  refine (ringed_any C w3).mono ?_
  rintro e w4 ⟨rfl, hb⟩
  replace L := Lib.hid (L.out.next hb)
  replace P := Lib.hid (P.out.next hb)
  replace Q := Lib.hid (Q.out.next hb)
  replace K2 := Lib.hid (K2.out.next hb)
  replace K3 := Lib.hid (K3.out.next hb)
  replace HBL := Lib.hid (HBL.out.trans (hb.mono HBL.out.size))
  clear hb
  go_wp2_with fail
  go_ret
  exact ⟨rfl, HBL.out⟩

set_option maxRecDepth 100000 in
set_option maxHeartbeats 800000 in
theorem order_ok (C : RC) (l : List K) (p q : KV) (n : Nat) (hn : n = l.length) (A : Option Addr) (c : Nat) (w : World) (hA : Ks w w.heap.size A l) (hs : Sl A n c) (hp : Bs w w.heap.size p.k.sec p.S p.c) (hq : Bs w w.heap.size q.k.sec q.S q.c) (h1 : n ≤ 9223372036854775807) (hbig : bigR l = false) (h200 : p.k.sec.length ≤ 200) (h201 : q.k.sec.length ≤ 200) (hE1 : 0 = addE l p.k) (hE2 : 0 = addE l q.k) (R : List K) (E : Int) (m : Nat) (hR3 : R = addK (addK l p.k) q.k) (hE3 : E = addE (addK l p.k) q.k) (hR4 : R = addK (addK l q.k) p.k) (hE4 : E = addE (addK l q.k) p.k) (hm : m = R.length) (hlast : (E == 0) = (p.k.id != q.k.id)) (hmm : m ≤ 9223372036854775807) :
    Calls Try.prog 7 #[.slice A n c, .agg #[.int .i64 p.k.id, .slice p.S p.k.sec.length p.c, .int .i64 p.k.frm, .int .i64 p.k.til], .agg #[.int .i64 q.k.id, .slice q.S q.k.sec.length q.c, .int .i64 q.k.frm, .int .i64 q.k.til]] w fun e w' => e = .returned (.bool true) ∧ Below w.heap.size w w' := by
  have hbp := box_lit w p hp
  have hbq := box_lit (w.alloc (.cells #[.int .i64 p.k.id, .slice p.S p.k.sec.length p.c, .int .i64 p.k.frm, .int .i64 p.k.til] 26)) q (hq.next hbp.2)
  have hsz : (w.alloc (.cells #[.int .i64 p.k.id, .slice p.S p.k.sec.length p.c, .int .i64 p.k.frm, .int .i64 p.k.til] 26)).heap.size = w.heap.size + 1 := by simp
  have hBL := hbp.2.trans (hbq.2.mono hbp.2.size)
  have HBL := Lib.hid hBL
  have L := Lib.hid (hA.next hBL)
  have P := Lib.hid (hbp.1.next hbq.2)
  have Q := Lib.hid (show Box _ (w.heap.size + 1) q by rw [← hsz]; exact hbq.1)
  have HN := Lib.hid hn
  have HS := Lib.hid hs
  have hpl := hp.len
  have hpc := hp.cap
  have hql := hq.len
  have hqc := hq.cap
  clear hbp hbq hsz hBL hA hn hs hp hq
  have HBIG := Lib.hid hbig
  have b200 : (p.k.sec.length : Int) ≤ 200 := by omega
  have b201 : (q.k.sec.length : Int) ≤ 200 := by omega
  obtain ⟨R1, hR1⟩ : ∃ R, R = addK l p.k := ⟨_, rfl⟩
  obtain ⟨m1, hm1⟩ : ∃ m, m = R1.length := ⟨_, rfl⟩
  obtain ⟨R2, hR2⟩ : ∃ R, R = addK l q.k := ⟨_, rfl⟩
  obtain ⟨m2, hm2⟩ : ∃ m, m = R2.length := ⟨_, rfl⟩
  have HR1 := Lib.hid hR1
  have HM1 := Lib.hid hm1
  have HR2 := Lib.hid hR2
  have HM2 := Lib.hid hm2
  clear hbig hR1 hm1 hR2 hm2
  have HE1 := Lib.hid hE1
  have HE2 := Lib.hid hE2
  have HR3 := Lib.hid hR3
  have HE3 := Lib.hid hE3
  have HR4 := Lib.hid hR4
  have HE4 := Lib.hid hE4
  have HM := Lib.hid hm
  have HLA := Lib.hid hlast
  clear hE1 hE2 hR3 hE3 hR4 hE4 hm hlast
  go_enter Try.func7, Try.ntmps7
  go_wp2_with fail
  refine (refbig_named l n HN.out false HBIG.out A c _ L.out h1).mono ?_
  rintro e w1 ⟨rfl, hb⟩
  replace L := Lib.hid (L.out.next hb)
  replace P := Lib.hid (P.out.next hb)
  replace Q := Lib.hid (Q.out.next hb)
  replace HBL := Lib.hid (HBL.out.trans (hb.mono HBL.out.size))
  clear hb
  have x0 : w1.cell? ⟨w.heap.size, 0, none⟩ = some (.int .i64 p.k.id) := by rw [cell_of_row w1 _ 0 _ _ (0, 0) P.out.1]; rfl
  have x1 : w1.cell? ⟨w.heap.size, 1, none⟩ = some (.slice p.S p.k.sec.length p.c) := by rw [cell_of_row w1 _ 1 _ _ (0, 0) P.out.1]; rfl
  have x2 : w1.cell? ⟨w.heap.size, 2, none⟩ = some (.int .i64 p.k.frm) := by rw [cell_of_row w1 _ 2 _ _ (0, 0) P.out.1]; rfl
  have x3 : w1.cell? ⟨w.heap.size, 3, none⟩ = some (.int .i64 p.k.til) := by rw [cell_of_row w1 _ 3 _ _ (0, 0) P.out.1]; rfl
  have y1 : w1.cell? ⟨w.heap.size + 1, 1, none⟩ = some (.slice q.S q.k.sec.length q.c) := by rw [cell_of_row w1 _ 1 _ _ (0, 0) Q.out.1]; rfl
  go_wp2_with fail
  refine (C.add l p n A c w1 R1 0 m1 HN.out HR1.out HE1.out HM1.out HS.out L.out P.out.2.2).mono ?_
  clear x0 x1 x2 x3 y1
  rintro e w2 ⟨A2, c2, rfl, hk, hsl, hb⟩
  replace L := Lib.hid (L.out.next hb)
  replace P := Lib.hid (P.out.next hb)
  replace Q := Lib.hid (Q.out.next hb)
  replace HBL := Lib.hid (HBL.out.trans (hb.mono HBL.out.size))
  have K2 := Lib.hid hk
  have SL2 := Lib.hid hsl
  clear hk hb hsl
  have y0 : w2.cell? ⟨w.heap.size + 1, 0, none⟩ = some (.int .i64 q.k.id) := by rw [cell_of_row w2 _ 0 _ _ (0, 0) Q.out.1]; rfl
  have y1 : w2.cell? ⟨w.heap.size + 1, 1, none⟩ = some (.slice q.S q.k.sec.length q.c) := by rw [cell_of_row w2 _ 1 _ _ (0, 0) Q.out.1]; rfl
  have y2 : w2.cell? ⟨w.heap.size + 1, 2, none⟩ = some (.int .i64 q.k.frm) := by rw [cell_of_row w2 _ 2 _ _ (0, 0) Q.out.1]; rfl
  have y3 : w2.cell? ⟨w.heap.size + 1, 3, none⟩ = some (.int .i64 q.k.til) := by rw [cell_of_row w2 _ 3 _ _ (0, 0) Q.out.1]; rfl
  go_wp2_with fail
  refine (C.add l q n A c w2 R2 0 m2 HN.out HR2.out HE2.out HM2.out HS.out L.out Q.out.2.2).mono ?_
  clear y0 y1 y2 y3
  rintro e w3 ⟨A3, c3, rfl, hk, hsl, hb⟩
  replace L := Lib.hid (L.out.next hb)
  replace P := Lib.hid (P.out.next hb)
  replace Q := Lib.hid (Q.out.next hb)
  replace K2 := Lib.hid (K2.out.next hb)
  replace HBL := Lib.hid (HBL.out.trans (hb.mono HBL.out.size))
  have K3 := Lib.hid hk
  have SL3 := Lib.hid hsl
  clear hk hb hsl
  have y0 : w3.cell? ⟨w.heap.size + 1, 0, none⟩ = some (.int .i64 q.k.id) := by rw [cell_of_row w3 _ 0 _ _ (0, 0) Q.out.1]; rfl
  have y1 : w3.cell? ⟨w.heap.size + 1, 1, none⟩ = some (.slice q.S q.k.sec.length q.c) := by rw [cell_of_row w3 _ 1 _ _ (0, 0) Q.out.1]; rfl
  have y2 : w3.cell? ⟨w.heap.size + 1, 2, none⟩ = some (.int .i64 q.k.frm) := by rw [cell_of_row w3 _ 2 _ _ (0, 0) Q.out.1]; rfl
  have y3 : w3.cell? ⟨w.heap.size + 1, 3, none⟩ = some (.int .i64 q.k.til) := by rw [cell_of_row w3 _ 3 _ _ (0, 0) Q.out.1]; rfl
  go_wp2_with fail
  refine (C.add R1 q m1 A2 c2 w3 R E m HM1.out (by rw [HR1.out]; exact HR3.out) (by rw [HR1.out]; exact HE3.out) HM.out SL2.out K2.out Q.out.2.2).mono ?_
  clear y0 y1 y2 y3
  rintro e w4 ⟨A4, c4, rfl, hk, _, hb⟩
  replace L := Lib.hid (L.out.next hb)
  replace P := Lib.hid (P.out.next hb)
  replace Q := Lib.hid (Q.out.next hb)
  replace K2 := Lib.hid (K2.out.next hb)
  replace K3 := Lib.hid (K3.out.next hb)
  replace HBL := Lib.hid (HBL.out.trans (hb.mono HBL.out.size))
  have K4 := Lib.hid hk
  clear hk hb
  have x0 : w4.cell? ⟨w.heap.size, 0, none⟩ = some (.int .i64 p.k.id) := by rw [cell_of_row w4 _ 0 _ _ (0, 0) P.out.1]; rfl
  have x1 : w4.cell? ⟨w.heap.size, 1, none⟩ = some (.slice p.S p.k.sec.length p.c) := by rw [cell_of_row w4 _ 1 _ _ (0, 0) P.out.1]; rfl
  have x2 : w4.cell? ⟨w.heap.size, 2, none⟩ = some (.int .i64 p.k.frm) := by rw [cell_of_row w4 _ 2 _ _ (0, 0) P.out.1]; rfl
  have x3 : w4.cell? ⟨w.heap.size, 3, none⟩ = some (.int .i64 p.k.til) := by rw [cell_of_row w4 _ 3 _ _ (0, 0) P.out.1]; rfl
  go_wp2_with fail
  refine (C.add R2 p m2 A3 c3 w4 R E m HM2.out (by rw [HR2.out]; exact HR4.out) (by rw [HR2.out]; exact HE4.out) HM.out SL3.out K3.out P.out.2.2).mono ?_
  clear x0 x1 x2 x3
  rintro e w5 ⟨A5, c5, rfl, hk, _, hb⟩
  replace L := Lib.hid (L.out.next hb)
  replace P := Lib.hid (P.out.next hb)
  replace Q := Lib.hid (Q.out.next hb)
  replace K2 := Lib.hid (K2.out.next hb)
  replace K3 := Lib.hid (K3.out.next hb)
  replace K4 := Lib.hid (K4.out.next hb)
  replace HBL := Lib.hid (HBL.out.trans (hb.mono HBL.out.size))
  have K5 := Lib.hid hk
  clear hk hb
  go_wp2_with fail
  refine (ringed_any C w5).mono ?_
  rintro e w6 ⟨rfl, hb⟩
  replace L := Lib.hid (L.out.next hb)
  replace P := Lib.hid (P.out.next hb)
  replace Q := Lib.hid (Q.out.next hb)
  replace K2 := Lib.hid (K2.out.next hb)
  replace K3 := Lib.hid (K3.out.next hb)
  replace K4 := Lib.hid (K4.out.next hb)
  replace K5 := Lib.hid (K5.out.next hb)
  replace HBL := Lib.hid (HBL.out.trans (hb.mono HBL.out.size))
  clear hb
  go_wp2_with fail
  refine (refsames_eq R m HM.out A4 A5 c4 c5 w6 K4.out K5.out hmm).mono ?_
  rintro e w7 ⟨rfl, hb⟩
  replace L := Lib.hid (L.out.next hb)
  replace P := Lib.hid (P.out.next hb)
  replace Q := Lib.hid (Q.out.next hb)
  replace K2 := Lib.hid (K2.out.next hb)
  replace K3 := Lib.hid (K3.out.next hb)
  replace K4 := Lib.hid (K4.out.next hb)
  replace K5 := Lib.hid (K5.out.next hb)
  replace HBL := Lib.hid (HBL.out.trans (hb.mono HBL.out.size))
  clear hb
  have x0 : w7.cell? ⟨w.heap.size, 0, none⟩ = some (.int .i64 p.k.id) := by rw [cell_of_row w7 _ 0 _ _ (0, 0) P.out.1]; rfl
  have y0 : w7.cell? ⟨w.heap.size + 1, 0, none⟩ = some (.int .i64 q.k.id) := by rw [cell_of_row w7 _ 0 _ _ (0, 0) Q.out.1]; rfl
  have hla := HLA.out
  go_wp2_with fail
  go_ret
  exact ⟨by simp, HBL.out⟩
end Go.Proofs.Ytedkgkokfaadfaa
