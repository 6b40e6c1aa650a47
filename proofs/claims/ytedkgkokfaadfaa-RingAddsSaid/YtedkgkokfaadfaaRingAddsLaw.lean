/-
  Proved: for all keys and any key the law RingAdds answers true, and leaves what came in as it was. Conditions: none beyond the statement's own.
-/
import Derived.Test.YtedkgkokfaadfaaRingNamed
namespace Go.Proofs.Ytedkgkokfaadfaa
set_option linter.unusedVariables false
open Go.ChangeShapes Go.WideShapes Go.ChangeAt Go.RowKit

set_option maxRecDepth 100000 in
set_option maxHeartbeats 800000 in
theorem adds_any (C : RC) (l : List K) (q : KV) (n : Nat) (hn : n = l.length) (A : Option Addr) (c : Nat) (w : World) (hA : Ks w w.heap.size A l) (hs : Sl A n c) (hq : Bs w w.heap.size q.k.sec q.S q.c) (hbig : bigR l = false) (h200 : q.k.sec.length ≤ 200) (h1 : n ≤ 9223372036854775807) :
    Calls Try.prog 4 #[.slice A n c, .agg #[.int .i64 q.k.id, .slice q.S q.k.sec.length q.c, .int .i64 q.k.frm, .int .i64 q.k.til]] w fun e w' => e = .returned (.bool true) ∧ Below w.heap.size w w' := by
  obtain ⟨R, hR⟩ : ∃ R, R = addK l q.k := ⟨_, rfl⟩
  obtain ⟨E, hE⟩ : ∃ E, E = addE l q.k := ⟨_, rfl⟩
  obtain ⟨m, hm⟩ : ∃ m, m = R.length := ⟨_, rfl⟩
  have hbx := box_lit w q hq
  have HR := Lib.hid hR
  have HE := Lib.hid hE
  have HM := Lib.hid hm
  have HN := Lib.hid hn
  have HS := Lib.hid hs
  have HBIG := Lib.hid hbig
  have B := Lib.hid hbx.1
  have L := Lib.hid (hA.next hbx.2)
  have HBL := Lib.hid hbx.2
  have b200 : (q.k.sec.length : Int) ≤ 200 := by omega
  clear hR hE hm hn hs hbig hbx hA hq
  go_enter Try.func4, Try.ntmps4
  go_wp2_with fail
  refine (refbig_named l n HN.out false HBIG.out A c _ L.out h1).mono ?_
  rintro e w1 ⟨rfl, hb⟩
  replace B := Lib.hid (B.out.next hb)
  replace L := Lib.hid (L.out.next hb)
  replace HBL := Lib.hid (HBL.out.trans (hb.mono HBL.out.size))
  clear hb
  have x0 : w1.cell? ⟨w.heap.size, 0, none⟩ = some (.int .i64 q.k.id) := by rw [cell_of_row w1 _ 0 _ _ (0, 0) B.out.1]; rfl
  have x1 : w1.cell? ⟨w.heap.size, 1, none⟩ = some (.slice q.S q.k.sec.length q.c) := by rw [cell_of_row w1 _ 1 _ _ (0, 0) B.out.1]; rfl
  have x2 : w1.cell? ⟨w.heap.size, 2, none⟩ = some (.int .i64 q.k.frm) := by rw [cell_of_row w1 _ 2 _ _ (0, 0) B.out.1]; rfl
  have x3 : w1.cell? ⟨w.heap.size, 3, none⟩ = some (.int .i64 q.k.til) := by rw [cell_of_row w1 _ 3 _ _ (0, 0) B.out.1]; rfl
  go_wp2_with fail
  refine (C.add l q n A c w1 R E m HN.out HR.out HE.out HM.out HS.out L.out B.out.2.2).mono ?_
  rintro e w2 ⟨A2, c2, rfl, hk, _, hb⟩
  clear x0 x1 x2 x3
  replace B := Lib.hid (B.out.next hb)
  replace L := Lib.hid (L.out.next hb)
  replace HBL := Lib.hid (HBL.out.trans (hb.mono HBL.out.size))
  have K2 := Lib.hid hk
  clear hk hb
  have x0 : w2.cell? ⟨w.heap.size, 0, none⟩ = some (.int .i64 q.k.id) := by rw [cell_of_row w2 _ 0 _ _ (0, 0) B.out.1]; rfl
  have x1 : w2.cell? ⟨w.heap.size, 1, none⟩ = some (.slice q.S q.k.sec.length q.c) := by rw [cell_of_row w2 _ 1 _ _ (0, 0) B.out.1]; rfl
  have x2 : w2.cell? ⟨w.heap.size, 2, none⟩ = some (.int .i64 q.k.frm) := by rw [cell_of_row w2 _ 2 _ _ (0, 0) B.out.1]; rfl
  have x3 : w2.cell? ⟨w.heap.size, 3, none⟩ = some (.int .i64 q.k.til) := by rw [cell_of_row w2 _ 3 _ _ (0, 0) B.out.1]; rfl
  go_wp2_with fail
  refine (refadd_any l q n HN.out A c w2 L.out B.out.2.2 h1 R E m HR.out HE.out HM.out).mono ?_
  rintro e w3 ⟨A3, c3, rfl, hk, hb⟩
  clear x0 x1 x2 x3
  replace B := Lib.hid (B.out.next hb)
  replace L := Lib.hid (L.out.next hb)
  replace K2 := Lib.hid (K2.out.next hb)
  replace HBL := Lib.hid (HBL.out.trans (hb.mono HBL.out.size))
  have K3 := Lib.hid hk
  clear hk hb
  go_wp2_with fail
  refine (ringed_any C w3).mono ?_
  rintro e w4 ⟨rfl, hb⟩
  replace B := Lib.hid (B.out.next hb)
  replace L := Lib.hid (L.out.next hb)
  replace K2 := Lib.hid (K2.out.next hb)
  replace K3 := Lib.hid (K3.out.next hb)
  replace HBL := Lib.hid (HBL.out.trans (hb.mono HBL.out.size))
  clear hb
  go_wp2_with fail
  refine (refsames_eq R m HM.out A2 A3 c2 c3 w4 K2.out K3.out (by rw [HM.out, HR.out]; exact addK_len l q.k (by rw [← HN.out]; exact h1))).mono ?_
  rintro e w5 ⟨rfl, hb⟩
  replace HBL := Lib.hid (HBL.out.trans (hb.mono HBL.out.size))
  clear hb
  go_wp2_with fail
  go_ret
  exact ⟨by simp, HBL.out⟩

set_option maxRecDepth 100000 in
theorem adds_big (l : List K) (q : KV) (n : Nat) (hn : n = l.length) (A : Option Addr) (c : Nat) (w : World) (hA : Ks w w.heap.size A l) (hq : Bs w w.heap.size q.k.sec q.S q.c) (hbig : bigR l = true) (h1 : n ≤ 9223372036854775807) :
    Calls Try.prog 4 #[.slice A n c, .agg #[.int .i64 q.k.id, .slice q.S q.k.sec.length q.c, .int .i64 q.k.frm, .int .i64 q.k.til]] w fun e w' => e = .returned (.bool true) ∧ Below w.heap.size w w' := by
  have hbx := box_lit w q hq
  have HBL := Lib.hid hbx.2
  have L := Lib.hid (hA.next hbx.2)
  have HN := Lib.hid hn
  have HBIG := Lib.hid hbig
  clear hbx hA hq hn hbig
  go_enter Try.func4, Try.ntmps4
  go_wp2_with fail
  refine (refbig_named l n HN.out true HBIG.out A c _ L.out h1).mono ?_
  rintro e w1 ⟨rfl, hb⟩
  replace HBL := Lib.hid (HBL.out.trans (hb.mono HBL.out.size))
  clear hb
  go_wp2_with fail
  go_ret
  exact ⟨rfl, HBL.out⟩

set_option maxRecDepth 100000 in
theorem adds_long (l : List K) (q : KV) (n : Nat) (hn : n = l.length) (A : Option Addr) (c : Nat) (w : World) (hA : Ks w w.heap.size A l) (hq : Bs w w.heap.size q.k.sec q.S q.c) (hbig : bigR l = false) (h200 : 200 < q.k.sec.length) (h1 : n ≤ 9223372036854775807) :
    Calls Try.prog 4 #[.slice A n c, .agg #[.int .i64 q.k.id, .slice q.S q.k.sec.length q.c, .int .i64 q.k.frm, .int .i64 q.k.til]] w fun e w' => e = .returned (.bool true) ∧ Below w.heap.size w w' := by
  have hbx := box_lit w q hq
  have HBL := Lib.hid hbx.2
  have L := Lib.hid (hA.next hbx.2)
  have B := Lib.hid hbx.1
  have b200 : (200 : Int) < (q.k.sec.length : Int) := by omega
  have hcap := hq.len
  have hcap2 := hq.cap
  have HN := Lib.hid hn
  have HBIG := Lib.hid hbig
  clear hbx hA hq hn hbig
  go_enter Try.func4, Try.ntmps4
  go_wp2_with fail
  refine (refbig_named l n HN.out false HBIG.out A c _ L.out h1).mono ?_
  rintro e w1 ⟨rfl, hb⟩
  replace HBL := Lib.hid (HBL.out.trans (hb.mono HBL.out.size))
  replace B := Lib.hid (B.out.next hb)
  clear hb
  have x1 : w1.cell? ⟨w.heap.size, 1, none⟩ = some (.slice q.S q.k.sec.length q.c) := by rw [cell_of_row w1 _ 1 _ _ (0, 0) B.out.1]; rfl
  go_wp2_with fail
  go_ret
  exact ⟨rfl, HBL.out⟩
end Go.Proofs.Ytedkgkokfaadfaa
