/-
  Contract for slices.Backward over keys: the keys from the last to the first, each with its place, whatever the loop's body does that keeps what lay. Conditions: at most 1000 keys.
-/
import Derived.RangeFuncNested
import Derived.RangeFuncBound
import Derived.RangeFuncLeaves
import Derived.Shelf.Abstract
import Derived.WalkKit
import Derived.OwnWalkIn
import Derived.TacticsInMore
import Derived.LoopNIn
import Derived.LoopIn
import Derived.Test.YtedkgkokfaadfaaRingC
namespace Go.Proofs.Ytedkgkokfaadfaa
set_option linter.unusedVariables false
open Go.ChangeShapes Go.WideShapes Go.ChangeAt Go.RowKit Go.Shelf
attribute [local go_sem] Oper.semAt_some

def KV0 : KV := ⟨K0, none, 0⟩
/-- The kth of the keys from behind, with its place. -/
def back (L : List KV) (k : Nat) : Nat × KV := (L.length - 1 - k, L.getD (L.length - 1 - k) KV0)
def upto (L : List KV) (k : Nat) : List (Nat × KV) := (List.range k).map (back L)
theorem upto_succ (L : List KV) (k : Nat) : upto L (k + 1) = upto L k ++ [back L k] := by simp [upto, List.range_succ]
theorem upto_length (L : List KV) (k : Nat) : (upto L k).length = k := by simp [upto]
def encB (x : Nat × KV) : Array Value := #[.int .i64 (x.1 : Int), .agg #[.int .i64 x.2.k.id, .slice x.2.S x.2.k.sec.length x.2.c, .int .i64 x.2.k.frm, .int .i64 x.2.k.til]]
theorem KVs.below {w w' : World} {B : Nat} {A : Option Addr} {L : List KV} (h : KVs w B A L) (hb : Below B w w') : KVs w' B A L := by
  intro i q hq
  obtain ⟨ad, e, hlt, hk⟩ := h i q hq
  exact ⟨ad, e, hlt, hk.below (by rw [add_block]; exact hlt) (Nat.le_refl _) hb⟩

set_option maxRecDepth 100000 in
set_option maxHeartbeats 2000000 in
theorem back1_in (F : Fence) (n : Nat) (hf : F.fn 30) (hro : F.round = none) (hn : 1 ≤ n) (l Bx n₀ : Nat) (A : Option Addr) (m c : Nat) (L : List KV) (hm : m = L.length) (h100 : m ≤ 1000) (hBx : Bx < n₀) (J Jx : List (Nat × KV) → World → Prop)
    (hY : ∀ pre x W, J pre W → pre.length < m → YieldAt F (n - 1) Try.prog l (encB x) W fun e W' =>
      (e = .returned (.bool true) ∧ J (pre ++ [x]) W' ∧ Below n₀ W W') ∨ (e = .returned (.bool false) ∧ Jx (pre ++ [x]) W'))
    (W : World) (hc : W.cell? ⟨Bx, 0, none⟩ = some (.slice A m c)) (hL : KVs W n₀ A L) (h0 : J [] W) :
    CallsIn F n Try.prog 30 #[.func (.yield l) #[] #[], .pointer (some ⟨Bx, 0, none⟩)] W fun e W' => (∃ v, e = .returned v) ∧
      ((∃ ys, ys = upto L m ∧ J ys W') ∨ (∃ pre, (∃ k, k ≤ m ∧ pre = upto L k) ∧ Jx pre W')) := by
  have HM := Lib.hid hm
  have HL := Lib.hid hL
  have HC := Lib.hid hc
  clear hm hL
  refine callsIn_of_wp Try.func30 rfl hf ?_ hro
  simp only [Try.ntmps30, List.size_toArray, List.length_cons, List.length_nil, Nat.reduceAdd, Nat.reduceSub, Array.replicate_succ, Array.replicate_zero, List.push_toArray, List.append_toArray, List.nil_append, List.cons_append]
  gi_wp2
  gi_loopw [3] (fun i wr => ∃ k : Nat, k ≤ m ∧ i = .int .i64 ((m : Int) - 1 - k) ∧ J (upto L k) wr ∧ Below n₀ W wr)
    (fun i _ => (intOf i + 1).toNat)
  case atStart =>
    exact ⟨0, Nat.zero_le _, by go_num, h0, Below.refl _ _⟩
  case round =>
    obtain ⟨k, hk, rfl, hJs, hnx⟩ := hrel
    by_cases hlt : k < m
    · obtain ⟨j, hj⟩ : ∃ j : Nat, j = m - 1 - k := ⟨_, rfl⟩
      have e : (m : Int) - 1 - (k : Int) = (j : Int) := by omega
      rw [e]
      have hjl : j < L.length := by rw [← HM.out]; omega
      obtain ⟨ad, rfl, had, hk4⟩ := (HL.out.below hnx) j _ (List.getElem?_eq_getElem hjl)
      have hbk : back L k = (j, L[j]) := by
        have : L.length - 1 - k = j := by rw [← HM.out]; omega
        rw [back, this, List.getD_eq_getElem?_getD, List.getElem?_eq_getElem hjl]; rfl
      obtain ⟨fn, tmps, assign, body, hy, hR⟩ := hY _ (j, L[j]) wr hJs (by rw [upto_length]; exact hlt)
      have HBK := Lib.hid hbk
      generalize L[j] = x at *
      dsimp only [encB] at hy
      have hcx : wr.cell? ⟨Bx, 0, none⟩ = some (.slice (some ad) m c) := (hnx.cell (p := ⟨Bx, 0, none⟩) hBx).trans HC.out
      have hc0 := hk4.c0
      have hc1 := hk4.c1
      have hc2 := hk4.c2
      have hc3 := hk4.c3
      have b1 : (0 : Int) ≤ (j : Int) := by omega
      have b2 : (j : Int) < (m : Int) := by omega
      have HNX := Lib.hid hnx
      have HJ := Lib.hid hj
      clear hk4 hnx hbk hj e
      gi_wp2
      refine hR.mono ?_
      rintro e' W3 (⟨rfl, hJ3, hk3⟩ | ⟨rfl, hJx3⟩)
      · gi_wp2
        go_roundw
        case rel => exact ⟨k + 1, by omega, by have := HJ.out; go_num, by rw [upto_succ, HBK.out]; exact hJ3, HNX.out.trans hk3⟩
        case measure => have := HJ.out; simp [intOf] <;> omega
      · gi_wp2
        refine bodyPost_ret (results_none rfl _ _ _) rfl ?_
        exact ⟨⟨_, rfl⟩, .inr ⟨_, ⟨k + 1, by omega, by rw [upto_succ, HBK.out]⟩, hJx3⟩⟩
    · obtain rfl : k = m := by omega
      have e : (k : Int) - 1 - (k : Int) = -1 := by omega
      rw [e]
      gi_wp2
      go_end0
      exact ⟨⟨_, rfl⟩, .inl ⟨_, rfl, hJs⟩⟩
end Go.Proofs.Ytedkgkokfaadfaa
