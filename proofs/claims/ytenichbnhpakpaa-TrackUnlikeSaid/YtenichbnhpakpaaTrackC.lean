/-
  What the laws of layer 11 want of the four functions of package track, as one premise; the laws' constant check out of it. Conditions: none.
-/
import Derived.Test.YtenichbnhpakpaaTrackPutMath
import Derived.Test.YtenichbnhpakpaaSameBits
import Derived.Test.YtenichbnhpakpaaSameAny
namespace Go.Proofs.Ytenichbnhpakpaa
set_option linter.unusedVariables false
open Go.ChangeShapes Go.WideShapes Go.ChangeAt Go.RowKit

structure TC : Prop where
  pack : ∀ (l : List Bool) (n : Nat) (A : Option Addr) (c : Nat) (w : World), n = l.length → n ≤ 400000 → Vs w w.heap.size l A c → Calls Try.prog 10 #[.slice A n c] w fun e w' => ∃ A' c', e = .returned (.slice A' ((n + 7) / 8) c') ∧ Bs w' w'.heap.size (packL l) A' c' ∧ Below w.heap.size w w'
  unpack : ∀ (b : List Nat) (n : Nat) (A : Option Addr) (c : Nat) (w : World), n = b.length → n ≤ 1000 → Bs w w.heap.size b A c → Calls Try.prog 13 #[.slice A n c] w fun e w' => ∃ A' c', e = .returned (.slice A' ((8 * n : Nat)) c') ∧ Vs w' w'.heap.size (unpackL b) A' c' ∧ Below w.heap.size w w'
  put : ∀ (d : List Nat) (n : Nat) (E : Int) (p : List Nat) (A : Option Addr) (c : Nat) (w : World), n = d.length → n ≤ 1000 → putE d = E → putL d = p → Bs w w.heap.size d A c → Calls Try.prog 15 #[.slice A n c] w fun e w' => ∃ A' c', e = .returned (.tuple #[.slice A' (p.length : Nat) c', .int .i64 E]) ∧ Bs w' w'.heap.size p A' c' ∧ Below w.heap.size w w'
  get : ∀ (b : List Nat) (n : Nat) (E : Int) (p : List Nat) (A : Option Addr) (c : Nat) (w : World), n = b.length → n ≤ 1000 → getE b = E → getL b = p → Bs w w.heap.size b A c → Calls Try.prog 17 #[.slice A n c] w fun e w' => ∃ A' c', e = .returned (.tuple #[.slice A' (p.length : Nat) c', .int .i64 E]) ∧ Bs w' w'.heap.size p A' c' ∧ Below w.heap.size w w'
theorem Vs.nxt {w w' : World} {l : List Bool} {A : Option Addr} {c : Nat} (h : Vs w w.heap.size l A c) (hb : Below w.heap.size w w') : Vs w' w'.heap.size l A c := h.next hb
theorem bs_lit (w : World) (cs : Array Value) (s : List Nat) (n : Nat) (h : cs.toList = U8 s) (hn : n = s.length) (h1 : n ≤ 1000) (h2 : ∀ x ∈ s, x < 256) : Bs (w.alloc (.cells cs 5)) (w.alloc (.cells cs 5)).heap.size s (some ⟨w.heap.size, 0, none⟩) n :=
  ⟨by rw [← h]; exact rd_lit w cs _, by simp, by omega, by omega, h2⟩
set_option maxRecDepth 100000 in
set_option maxHeartbeats 1600000 in
theorem same_true (s : List Nat) (n n' : Nat) (hn : n = s.length) (hn' : n' = s.length) (A A' : Option Addr) (c c' : Nat) (w : World) (hA : Bs w w.heap.size s A c) (hA' : Bs w w.heap.size s A' c') : Calls Try.prog 9 #[.slice A n c, .slice A' n' c'] w fun e w' => e = .returned (.bool true) ∧ Below w.heap.size w w' := by
  have h1 := hA.len
  have h2 := hA.cap
  have := same_any s s n n' hn hn' A A' c c' w.heap.size w hA.rd hA'.rd (by omega) (by omega)
  simpa using this
set_option maxRecDepth 100000 in
set_option maxHeartbeats 1600000 in
theorem same_told (s s' : List Nat) (t : Bool) (ht : (s == s') = t) (n n' : Nat) (hn : n = s.length) (hn' : n' = s'.length) (A A' : Option Addr) (c c' : Nat) (w : World) (hA : Bs w w.heap.size s A c) (hA' : Bs w w.heap.size s' A' c') : Calls Try.prog 9 #[.slice A n c, .slice A' n' c'] w fun e w' => e = .returned (.bool t) ∧ Below w.heap.size w w' := by
  have h1 := hA.len
  have h2 := hA.cap
  have h3 := hA'.len
  have h4 := hA'.cap
  rw [← ht]
  exact same_any s s' n n' hn hn' A A' c c' w.heap.size w hA.rd hA'.rd (by omega) (by omega)
set_option maxRecDepth 100000 in
set_option maxHeartbeats 1600000 in
theorem samebits_true (l : List Bool) (n n' : Nat) (hn : n = l.length) (hn' : n' = l.length) (A A' : Option Addr) (c c' : Nat) (w : World) (hA : Vs w w.heap.size l A c) (hA' : Vs w w.heap.size l A' c') : Calls Try.prog 12 #[.slice A n c, .slice A' n' c'] w fun e w' => e = .returned (.bool true) ∧ Below w.heap.size w w' := by
  have h1 := hA.len
  have h2 := hA.cap
  subst hn hn'
  exact samebits_eq l A A' c c' w.heap.size w hA.rd hA'.rd (by unfold maxLen; omega)
theorem tracked_c : putE [1, 9] = 0 ∧ putL [1, 9] = [212, 39, 243, 128] ∧ getE [212, 39, 243, 128] = 0 ∧ getL [212, 39, 243, 128] = [1, 9] ∧ putE [10] = 7 ∧ putL [10] = [] ∧ getE [0, 0] = 4 ∧ getL [0, 0] = [] ∧ getE [208] = 14 ∧ getL [208] = [] ∧ getE [208, 0, 0] = 3 ∧ getL [208, 0, 0] = [] ∧ packL [true, false, true] = [160] ∧ unpackL [3] = [false, false, false, false, false, false, true, true] := ⟨by kernel_rfl, by kernel_rfl, by kernel_rfl, by kernel_rfl, by kernel_rfl, by kernel_rfl, by kernel_rfl, by kernel_rfl, by kernel_rfl, by kernel_rfl, by kernel_rfl, by kernel_rfl, by kernel_rfl, by kernel_rfl⟩
set_option linter.unusedVariables false
open Go.ChangeShapes Go.WideShapes Go.ChangeAt Go.RowKit

set_option maxRecDepth 100000 in
set_option maxHeartbeats 1600000 in
theorem tracked_any (C : TC) (w : World) : Calls Try.prog 8 #[] w fun e w' => e = .returned (.bool true) ∧ Below w.heap.size w w' := by
  have HBL := Lib.hid (Below.refl w.heap.size w)
  go_enter Try.func8, Try.ntmps8
  go_wp2_with fail
  obtain ⟨w1, hw⟩ : ∃ w1, w1 = w.alloc (.cells #[.int .u8 1, .int .u8 9] 5) := ⟨_, rfl⟩
  rw [← hw]
  have hx : Bs w1 w1.heap.size [1, 9] (some ⟨w.heap.size, 0, none⟩) 2 := by rw [hw]; exact bs_lit w _ [1, 9] 2 rfl rfl (by omega) (by decide)
  have hb : Below w.heap.size w w1 := by rw [hw]; exact below_lit w _ _
  replace HBL := Lib.hid (HBL.out.trans (hb.mono HBL.out.size))
  have L1 := Lib.hid hx
  clear hx hb hw
  refine (C.put [1, 9] 2 0 [212, 39, 243, 128] _ 2 w1 rfl (by omega) tracked_c.1 tracked_c.2.1 L1.out).mono ?_
  rintro e w2 ⟨AP1, cP1, rfl, hs, hb⟩
  replace L1 := Lib.hid (L1.out.next hb)
  replace HBL := Lib.hid (HBL.out.trans (hb.mono HBL.out.size))
  have P1 := Lib.hid hs
  clear hb hs
  go_wp2_with fail
  refine (C.get [212, 39, 243, 128] 4 0 [1, 9] AP1 cP1 w2 rfl (by omega) tracked_c.2.2.1 tracked_c.2.2.2.1 P1.out).mono ?_
  rintro e w3 ⟨AG1, cG1, rfl, hs, hb⟩
  replace L1 := Lib.hid (L1.out.next hb)
  replace P1 := Lib.hid (P1.out.next hb)
  replace HBL := Lib.hid (HBL.out.trans (hb.mono HBL.out.size))
  have G1 := Lib.hid hs
  clear hb hs
  go_wp2_with fail
  obtain ⟨w4, hw⟩ : ∃ w4, w4 = w3.alloc (.cells #[.int .u8 10] 5) := ⟨_, rfl⟩
  rw [← hw]
  have hx : Bs w4 w4.heap.size [10] (some ⟨w3.heap.size, 0, none⟩) 1 := by rw [hw]; exact bs_lit w3 _ [10] 1 rfl rfl (by omega) (by decide)
  have hb : Below w3.heap.size w3 w4 := by rw [hw]; exact below_lit w3 _ _
  replace L1 := Lib.hid (L1.out.next hb)
  replace P1 := Lib.hid (P1.out.next hb)
  replace G1 := Lib.hid (G1.out.next hb)
  replace HBL := Lib.hid (HBL.out.trans (hb.mono HBL.out.size))
  have L2 := Lib.hid hx
  clear hx hb hw
  refine (C.put [10] 1 7 [] _ 1 w4 rfl (by omega) tracked_c.2.2.2.2.1 tracked_c.2.2.2.2.2.1 L2.out).mono ?_
  rintro e w5 ⟨AP2, cP2, rfl, hs, hb⟩
  replace L1 := Lib.hid (L1.out.next hb)
  replace P1 := Lib.hid (P1.out.next hb)
  replace G1 := Lib.hid (G1.out.next hb)
  replace L2 := Lib.hid (L2.out.next hb)
  replace HBL := Lib.hid (HBL.out.trans (hb.mono HBL.out.size))
  have P2 := Lib.hid hs
  clear hb hs
  go_wp2_with fail
  obtain ⟨w6, hw⟩ : ∃ w6, w6 = w5.alloc (.cells #[.int .u8 0, .int .u8 0] 5) := ⟨_, rfl⟩
  rw [← hw]
  have hx : Bs w6 w6.heap.size [0, 0] (some ⟨w5.heap.size, 0, none⟩) 2 := by rw [hw]; exact bs_lit w5 _ [0, 0] 2 rfl rfl (by omega) (by decide)
  have hb : Below w5.heap.size w5 w6 := by rw [hw]; exact below_lit w5 _ _
  replace L1 := Lib.hid (L1.out.next hb)
  replace P1 := Lib.hid (P1.out.next hb)
  replace G1 := Lib.hid (G1.out.next hb)
  replace L2 := Lib.hid (L2.out.next hb)
  replace P2 := Lib.hid (P2.out.next hb)
  replace HBL := Lib.hid (HBL.out.trans (hb.mono HBL.out.size))
  have L3 := Lib.hid hx
  clear hx hb hw
  refine (C.get [0, 0] 2 4 [] _ 2 w6 rfl (by omega) tracked_c.2.2.2.2.2.2.1 tracked_c.2.2.2.2.2.2.2.1 L3.out).mono ?_
  rintro e w7 ⟨AG2, cG2, rfl, hs, hb⟩
  replace L1 := Lib.hid (L1.out.next hb)
  replace P1 := Lib.hid (P1.out.next hb)
  replace G1 := Lib.hid (G1.out.next hb)
  replace L2 := Lib.hid (L2.out.next hb)
  replace P2 := Lib.hid (P2.out.next hb)
  replace L3 := Lib.hid (L3.out.next hb)
  replace HBL := Lib.hid (HBL.out.trans (hb.mono HBL.out.size))
  have G2 := Lib.hid hs
  clear hb hs
  go_wp2_with fail
  obtain ⟨w8, hw⟩ : ∃ w8, w8 = w7.alloc (.cells #[.int .u8 208] 5) := ⟨_, rfl⟩
  rw [← hw]
  have hx : Bs w8 w8.heap.size [208] (some ⟨w7.heap.size, 0, none⟩) 1 := by rw [hw]; exact bs_lit w7 _ [208] 1 rfl rfl (by omega) (by decide)
  have hb : Below w7.heap.size w7 w8 := by rw [hw]; exact below_lit w7 _ _
  replace L1 := Lib.hid (L1.out.next hb)
  replace P1 := Lib.hid (P1.out.next hb)
  replace G1 := Lib.hid (G1.out.next hb)
  replace L2 := Lib.hid (L2.out.next hb)
  replace P2 := Lib.hid (P2.out.next hb)
  replace L3 := Lib.hid (L3.out.next hb)
  replace G2 := Lib.hid (G2.out.next hb)
  replace HBL := Lib.hid (HBL.out.trans (hb.mono HBL.out.size))
  have L4 := Lib.hid hx
  clear hx hb hw
  refine (C.get [208] 1 14 [] _ 1 w8 rfl (by omega) tracked_c.2.2.2.2.2.2.2.2.1 tracked_c.2.2.2.2.2.2.2.2.2.1 L4.out).mono ?_
  rintro e w9 ⟨AG3, cG3, rfl, hs, hb⟩
  replace L1 := Lib.hid (L1.out.next hb)
  replace P1 := Lib.hid (P1.out.next hb)
  replace G1 := Lib.hid (G1.out.next hb)
  replace L2 := Lib.hid (L2.out.next hb)
  replace P2 := Lib.hid (P2.out.next hb)
  replace L3 := Lib.hid (L3.out.next hb)
  replace G2 := Lib.hid (G2.out.next hb)
  replace L4 := Lib.hid (L4.out.next hb)
  replace HBL := Lib.hid (HBL.out.trans (hb.mono HBL.out.size))
  have G3 := Lib.hid hs
  clear hb hs
  go_wp2_with fail
  obtain ⟨w10, hw⟩ : ∃ w10, w10 = w9.alloc (.cells #[.int .u8 208, .int .u8 0, .int .u8 0] 5) := ⟨_, rfl⟩
  rw [← hw]
  have hx : Bs w10 w10.heap.size [208, 0, 0] (some ⟨w9.heap.size, 0, none⟩) 3 := by rw [hw]; exact bs_lit w9 _ [208, 0, 0] 3 rfl rfl (by omega) (by decide)
  have hb : Below w9.heap.size w9 w10 := by rw [hw]; exact below_lit w9 _ _
  replace L1 := Lib.hid (L1.out.next hb)
  replace P1 := Lib.hid (P1.out.next hb)
  replace G1 := Lib.hid (G1.out.next hb)
  replace L2 := Lib.hid (L2.out.next hb)
  replace P2 := Lib.hid (P2.out.next hb)
  replace L3 := Lib.hid (L3.out.next hb)
  replace G2 := Lib.hid (G2.out.next hb)
  replace L4 := Lib.hid (L4.out.next hb)
  replace G3 := Lib.hid (G3.out.next hb)
  replace HBL := Lib.hid (HBL.out.trans (hb.mono HBL.out.size))
  have L5 := Lib.hid hx
  clear hx hb hw
  refine (C.get [208, 0, 0] 3 3 [] _ 3 w10 rfl (by omega) tracked_c.2.2.2.2.2.2.2.2.2.2.1 tracked_c.2.2.2.2.2.2.2.2.2.2.2.1 L5.out).mono ?_
  rintro e w11 ⟨AG4, cG4, rfl, hs, hb⟩
  replace L1 := Lib.hid (L1.out.next hb)
  replace P1 := Lib.hid (P1.out.next hb)
  replace G1 := Lib.hid (G1.out.next hb)
  replace L2 := Lib.hid (L2.out.next hb)
  replace P2 := Lib.hid (P2.out.next hb)
  replace L3 := Lib.hid (L3.out.next hb)
  replace G2 := Lib.hid (G2.out.next hb)
  replace L4 := Lib.hid (L4.out.next hb)
  replace G3 := Lib.hid (G3.out.next hb)
  replace L5 := Lib.hid (L5.out.next hb)
  replace HBL := Lib.hid (HBL.out.trans (hb.mono HBL.out.size))
  have G4 := Lib.hid hs
  clear hb hs
  go_wp2_with fail
  obtain ⟨w12, hw⟩ : ∃ w12, w12 = w11.alloc (.cells #[.int .u8 212, .int .u8 39, .int .u8 243, .int .u8 128] 5) := ⟨_, rfl⟩
  rw [← hw]
  have hx : Bs w12 w12.heap.size [212, 39, 243, 128] (some ⟨w11.heap.size, 0, none⟩) 4 := by rw [hw]; exact bs_lit w11 _ [212, 39, 243, 128] 4 rfl rfl (by omega) (by decide)
  have hb : Below w11.heap.size w11 w12 := by rw [hw]; exact below_lit w11 _ _
  replace L1 := Lib.hid (L1.out.next hb)
  replace P1 := Lib.hid (P1.out.next hb)
  replace G1 := Lib.hid (G1.out.next hb)
  replace L2 := Lib.hid (L2.out.next hb)
  replace P2 := Lib.hid (P2.out.next hb)
  replace L3 := Lib.hid (L3.out.next hb)
  replace G2 := Lib.hid (G2.out.next hb)
  replace L4 := Lib.hid (L4.out.next hb)
  replace G3 := Lib.hid (G3.out.next hb)
  replace L5 := Lib.hid (L5.out.next hb)
  replace G4 := Lib.hid (G4.out.next hb)
  replace HBL := Lib.hid (HBL.out.trans (hb.mono HBL.out.size))
  have L6 := Lib.hid hx
  clear hx hb hw
  refine (same_true [212, 39, 243, 128] 4 4 rfl rfl AP1 _ cP1 4 w12 P1.out L6.out).mono ?_
  rintro e w13 ⟨rfl, hb⟩
  replace L1 := Lib.hid (L1.out.next hb)
  replace P1 := Lib.hid (P1.out.next hb)
  replace G1 := Lib.hid (G1.out.next hb)
  replace L2 := Lib.hid (L2.out.next hb)
  replace P2 := Lib.hid (P2.out.next hb)
  replace L3 := Lib.hid (L3.out.next hb)
  replace G2 := Lib.hid (G2.out.next hb)
  replace L4 := Lib.hid (L4.out.next hb)
  replace G3 := Lib.hid (G3.out.next hb)
  replace L5 := Lib.hid (L5.out.next hb)
  replace G4 := Lib.hid (G4.out.next hb)
  replace L6 := Lib.hid (L6.out.next hb)
  replace HBL := Lib.hid (HBL.out.trans (hb.mono HBL.out.size))
  clear hb
  go_wp2_with fail
  obtain ⟨w14, hw⟩ : ∃ w14, w14 = w13.alloc (.cells #[.int .u8 1, .int .u8 9] 5) := ⟨_, rfl⟩
  rw [← hw]
  have hx : Bs w14 w14.heap.size [1, 9] (some ⟨w13.heap.size, 0, none⟩) 2 := by rw [hw]; exact bs_lit w13 _ [1, 9] 2 rfl rfl (by omega) (by decide)
  have hb : Below w13.heap.size w13 w14 := by rw [hw]; exact below_lit w13 _ _
  replace L1 := Lib.hid (L1.out.next hb)
  replace P1 := Lib.hid (P1.out.next hb)
  replace G1 := Lib.hid (G1.out.next hb)
  replace L2 := Lib.hid (L2.out.next hb)
  replace P2 := Lib.hid (P2.out.next hb)
  replace L3 := Lib.hid (L3.out.next hb)
  replace G2 := Lib.hid (G2.out.next hb)
  replace L4 := Lib.hid (L4.out.next hb)
  replace G3 := Lib.hid (G3.out.next hb)
  replace L5 := Lib.hid (L5.out.next hb)
  replace G4 := Lib.hid (G4.out.next hb)
  replace L6 := Lib.hid (L6.out.next hb)
  replace HBL := Lib.hid (HBL.out.trans (hb.mono HBL.out.size))
  have L7 := Lib.hid hx
  clear hx hb hw
  refine (same_true [1, 9] 2 2 rfl rfl AG1 _ cG1 2 w14 G1.out L7.out).mono ?_
  rintro e w15 ⟨rfl, hb⟩
  replace L1 := Lib.hid (L1.out.next hb)
  replace P1 := Lib.hid (P1.out.next hb)
  replace G1 := Lib.hid (G1.out.next hb)
  replace L2 := Lib.hid (L2.out.next hb)
  replace P2 := Lib.hid (P2.out.next hb)
  replace L3 := Lib.hid (L3.out.next hb)
  replace G2 := Lib.hid (G2.out.next hb)
  replace L4 := Lib.hid (L4.out.next hb)
  replace G3 := Lib.hid (G3.out.next hb)
  replace L5 := Lib.hid (L5.out.next hb)
  replace G4 := Lib.hid (G4.out.next hb)
  replace L6 := Lib.hid (L6.out.next hb)
  replace L7 := Lib.hid (L7.out.next hb)
  replace HBL := Lib.hid (HBL.out.trans (hb.mono HBL.out.size))
  clear hb
  go_wp2_with fail
  obtain ⟨w16, hw⟩ : ∃ w16, w16 = w15.alloc (.cells #[.bool true, .bool false, .bool true] 4) := ⟨_, rfl⟩
  rw [← hw]
  have hx : Vs w16 w16.heap.size [true, false, true] (some ⟨w15.heap.size, 0, none⟩) 3 := by rw [hw]; exact vs_lit w15 _ [true, false, true] 3 rfl rfl (by omega)
  have hb : Below w15.heap.size w15 w16 := by rw [hw]; exact below_lit w15 _ _
  replace L1 := Lib.hid (L1.out.next hb)
  replace P1 := Lib.hid (P1.out.next hb)
  replace G1 := Lib.hid (G1.out.next hb)
  replace L2 := Lib.hid (L2.out.next hb)
  replace P2 := Lib.hid (P2.out.next hb)
  replace L3 := Lib.hid (L3.out.next hb)
  replace G2 := Lib.hid (G2.out.next hb)
  replace L4 := Lib.hid (L4.out.next hb)
  replace G3 := Lib.hid (G3.out.next hb)
  replace L5 := Lib.hid (L5.out.next hb)
  replace G4 := Lib.hid (G4.out.next hb)
  replace L6 := Lib.hid (L6.out.next hb)
  replace L7 := Lib.hid (L7.out.next hb)
  replace HBL := Lib.hid (HBL.out.trans (hb.mono HBL.out.size))
  have L8 := Lib.hid hx
  clear hx hb hw
  refine (C.pack [true, false, true] 3 _ 3 w16 rfl (by omega) L8.out).mono ?_
  rintro e w17 ⟨AP3, cP3, rfl, hs, hb⟩
  replace L1 := Lib.hid (L1.out.next hb)
  replace P1 := Lib.hid (P1.out.next hb)
  replace G1 := Lib.hid (G1.out.next hb)
  replace L2 := Lib.hid (L2.out.next hb)
  replace P2 := Lib.hid (P2.out.next hb)
  replace L3 := Lib.hid (L3.out.next hb)
  replace G2 := Lib.hid (G2.out.next hb)
  replace L4 := Lib.hid (L4.out.next hb)
  replace G3 := Lib.hid (G3.out.next hb)
  replace L5 := Lib.hid (L5.out.next hb)
  replace G4 := Lib.hid (G4.out.next hb)
  replace L6 := Lib.hid (L6.out.next hb)
  replace L7 := Lib.hid (L7.out.next hb)
  replace L8 := Lib.hid (L8.out.next hb)
  replace HBL := Lib.hid (HBL.out.trans (hb.mono HBL.out.size))
  have P3 := Lib.hid hs
  clear hb hs
  rw [tracked_c.2.2.2.2.2.2.2.2.2.2.2.2.1] at P3
  rw [show (3 + 7) / 8 = 1 from rfl]
  go_wp2_with fail
  obtain ⟨w18, hw⟩ : ∃ w18, w18 = w17.alloc (.cells #[.int .u8 160] 5) := ⟨_, rfl⟩
  rw [← hw]
  have hx : Bs w18 w18.heap.size [160] (some ⟨w17.heap.size, 0, none⟩) 1 := by rw [hw]; exact bs_lit w17 _ [160] 1 rfl rfl (by omega) (by decide)
  have hb : Below w17.heap.size w17 w18 := by rw [hw]; exact below_lit w17 _ _
  replace L1 := Lib.hid (L1.out.next hb)
  replace P1 := Lib.hid (P1.out.next hb)
  replace G1 := Lib.hid (G1.out.next hb)
  replace L2 := Lib.hid (L2.out.next hb)
  replace P2 := Lib.hid (P2.out.next hb)
  replace L3 := Lib.hid (L3.out.next hb)
  replace G2 := Lib.hid (G2.out.next hb)
  replace L4 := Lib.hid (L4.out.next hb)
  replace G3 := Lib.hid (G3.out.next hb)
  replace L5 := Lib.hid (L5.out.next hb)
  replace G4 := Lib.hid (G4.out.next hb)
  replace L6 := Lib.hid (L6.out.next hb)
  replace L7 := Lib.hid (L7.out.next hb)
  replace L8 := Lib.hid (L8.out.next hb)
  replace P3 := Lib.hid (P3.out.next hb)
  replace HBL := Lib.hid (HBL.out.trans (hb.mono HBL.out.size))
  have L9 := Lib.hid hx
  clear hx hb hw
  refine (same_true [160] 1 1 rfl rfl AP3 _ cP3 1 w18 P3.out L9.out).mono ?_
  rintro e w19 ⟨rfl, hb⟩
  replace L1 := Lib.hid (L1.out.next hb)
  replace P1 := Lib.hid (P1.out.next hb)
  replace G1 := Lib.hid (G1.out.next hb)
  replace L2 := Lib.hid (L2.out.next hb)
  replace P2 := Lib.hid (P2.out.next hb)
  replace L3 := Lib.hid (L3.out.next hb)
  replace G2 := Lib.hid (G2.out.next hb)
  replace L4 := Lib.hid (L4.out.next hb)
  replace G3 := Lib.hid (G3.out.next hb)
  replace L5 := Lib.hid (L5.out.next hb)
  replace G4 := Lib.hid (G4.out.next hb)
  replace L6 := Lib.hid (L6.out.next hb)
  replace L7 := Lib.hid (L7.out.next hb)
  replace L8 := Lib.hid (L8.out.next hb)
  replace P3 := Lib.hid (P3.out.next hb)
  replace L9 := Lib.hid (L9.out.next hb)
  replace HBL := Lib.hid (HBL.out.trans (hb.mono HBL.out.size))
  clear hb
  go_wp2_with fail
  obtain ⟨w20, hw⟩ : ∃ w20, w20 = w19.alloc (.cells #[.int .u8 3] 5) := ⟨_, rfl⟩
  rw [← hw]
  have hx : Bs w20 w20.heap.size [3] (some ⟨w19.heap.size, 0, none⟩) 1 := by rw [hw]; exact bs_lit w19 _ [3] 1 rfl rfl (by omega) (by decide)
  have hb : Below w19.heap.size w19 w20 := by rw [hw]; exact below_lit w19 _ _
  replace L1 := Lib.hid (L1.out.next hb)
  replace P1 := Lib.hid (P1.out.next hb)
  replace G1 := Lib.hid (G1.out.next hb)
  replace L2 := Lib.hid (L2.out.next hb)
  replace P2 := Lib.hid (P2.out.next hb)
  replace L3 := Lib.hid (L3.out.next hb)
  replace G2 := Lib.hid (G2.out.next hb)
  replace L4 := Lib.hid (L4.out.next hb)
  replace G3 := Lib.hid (G3.out.next hb)
  replace L5 := Lib.hid (L5.out.next hb)
  replace G4 := Lib.hid (G4.out.next hb)
  replace L6 := Lib.hid (L6.out.next hb)
  replace L7 := Lib.hid (L7.out.next hb)
  replace L8 := Lib.hid (L8.out.next hb)
  replace P3 := Lib.hid (P3.out.next hb)
  replace L9 := Lib.hid (L9.out.next hb)
  replace HBL := Lib.hid (HBL.out.trans (hb.mono HBL.out.size))
  have L10 := Lib.hid hx
  clear hx hb hw
  refine (C.unpack [3] 1 _ 1 w20 rfl (by omega) L10.out).mono ?_
  rintro e w21 ⟨AU1, cU1, rfl, hs, hb⟩
  replace L1 := Lib.hid (L1.out.next hb)
  replace P1 := Lib.hid (P1.out.next hb)
  replace G1 := Lib.hid (G1.out.next hb)
  replace L2 := Lib.hid (L2.out.next hb)
  replace P2 := Lib.hid (P2.out.next hb)
  replace L3 := Lib.hid (L3.out.next hb)
  replace G2 := Lib.hid (G2.out.next hb)
  replace L4 := Lib.hid (L4.out.next hb)
  replace G3 := Lib.hid (G3.out.next hb)
  replace L5 := Lib.hid (L5.out.next hb)
  replace G4 := Lib.hid (G4.out.next hb)
  replace L6 := Lib.hid (L6.out.next hb)
  replace L7 := Lib.hid (L7.out.next hb)
  replace L8 := Lib.hid (L8.out.next hb)
  replace P3 := Lib.hid (P3.out.next hb)
  replace L9 := Lib.hid (L9.out.next hb)
  replace L10 := Lib.hid (L10.out.next hb)
  replace HBL := Lib.hid (HBL.out.trans (hb.mono HBL.out.size))
  have U1 := Lib.hid hs
  clear hb hs
  rw [tracked_c.2.2.2.2.2.2.2.2.2.2.2.2.2] at U1
  rw [show 8 * 1 = 8 from rfl]
  go_wp2_with fail
  obtain ⟨w22, hw⟩ : ∃ w22, w22 = w21.alloc (.cells #[.bool false, .bool false, .bool false, .bool false, .bool false, .bool false, .bool true, .bool true] 4) := ⟨_, rfl⟩
  rw [← hw]
  have hx : Vs w22 w22.heap.size [false, false, false, false, false, false, true, true] (some ⟨w21.heap.size, 0, none⟩) 8 := by rw [hw]; exact vs_lit w21 _ [false, false, false, false, false, false, true, true] 8 rfl rfl (by omega)
  have hb : Below w21.heap.size w21 w22 := by rw [hw]; exact below_lit w21 _ _
  replace L1 := Lib.hid (L1.out.next hb)
  replace P1 := Lib.hid (P1.out.next hb)
  replace G1 := Lib.hid (G1.out.next hb)
  replace L2 := Lib.hid (L2.out.next hb)
  replace P2 := Lib.hid (P2.out.next hb)
  replace L3 := Lib.hid (L3.out.next hb)
  replace G2 := Lib.hid (G2.out.next hb)
  replace L4 := Lib.hid (L4.out.next hb)
  replace G3 := Lib.hid (G3.out.next hb)
  replace L5 := Lib.hid (L5.out.next hb)
  replace G4 := Lib.hid (G4.out.next hb)
  replace L6 := Lib.hid (L6.out.next hb)
  replace L7 := Lib.hid (L7.out.next hb)
  replace L8 := Lib.hid (L8.out.next hb)
  replace P3 := Lib.hid (P3.out.next hb)
  replace L9 := Lib.hid (L9.out.next hb)
  replace L10 := Lib.hid (L10.out.next hb)
  replace U1 := Lib.hid (U1.out.next hb)
  replace HBL := Lib.hid (HBL.out.trans (hb.mono HBL.out.size))
  have L11 := Lib.hid hx
  clear hx hb hw
  refine (samebits_true [false, false, false, false, false, false, true, true] 8 8 rfl rfl AU1 _ cU1 8 w22 U1.out L11.out).mono ?_
  rintro e w23 ⟨rfl, hb⟩
  replace L1 := Lib.hid (L1.out.next hb)
  replace P1 := Lib.hid (P1.out.next hb)
  replace G1 := Lib.hid (G1.out.next hb)
  replace L2 := Lib.hid (L2.out.next hb)
  replace P2 := Lib.hid (P2.out.next hb)
  replace L3 := Lib.hid (L3.out.next hb)
  replace G2 := Lib.hid (G2.out.next hb)
  replace L4 := Lib.hid (L4.out.next hb)
  replace G3 := Lib.hid (G3.out.next hb)
  replace L5 := Lib.hid (L5.out.next hb)
  replace G4 := Lib.hid (G4.out.next hb)
  replace L6 := Lib.hid (L6.out.next hb)
  replace L7 := Lib.hid (L7.out.next hb)
  replace L8 := Lib.hid (L8.out.next hb)
  replace P3 := Lib.hid (P3.out.next hb)
  replace L9 := Lib.hid (L9.out.next hb)
  replace L10 := Lib.hid (L10.out.next hb)
  replace U1 := Lib.hid (U1.out.next hb)
  replace L11 := Lib.hid (L11.out.next hb)
  replace HBL := Lib.hid (HBL.out.trans (hb.mono HBL.out.size))
  clear hb
  go_wp2
  go_ret
  exact ⟨rfl, HBL.out⟩
end Go.Proofs.Ytenichbnhpakpaa
