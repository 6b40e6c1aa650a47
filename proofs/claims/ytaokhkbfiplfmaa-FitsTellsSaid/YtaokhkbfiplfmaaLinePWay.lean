/-
  Contracts for the landed Is and for the function that tells the stations of a way, from the lower to the higher, whatever the loop's body does that keeps what lay. Conditions: the way's ends are stations.
-/
import Derived.RangeFuncNested
import Derived.RangeFuncBound
import Derived.RangeFuncLeaves
import Derived.RangeFuncBox
import Derived.Shelf.Abstract
import Derived.WalkKit
import Derived.OwnWalkIn
import Derived.TacticsInMore
import Derived.LoopNIn
import Derived.LoopIn
import Derived.Maps.OwnIn
import Derived.Maps.AppendAt
import Derived.Maps.Views
import Derived.Test.YtaokhkbfiplfmaaMem
import Derived.Test.YtaokhkbfiplfmaaLineMath
import Derived.Test.YtaokhkbfiplfmaaIn64
namespace Go.Proofs.Ytaokhkbfiplfmaa
set_option linter.unusedVariables false
open Go.ChangeShapes Go.WideShapes Go.ChangeAt Go.RowKit Go.Shelf
attribute [local go_sem] Oper.semAt_some

theorem pisn_any (s : Int) (b : Bool) (hb : isN s = b) (w : World) : Calls Try.prog 31 #[.int .i64 s] w fun e w' => e = .returned (.bool b) ∧ w' = w := by
  have HB := Lib.hid hb
  clear hb
  cases h0 : decide (0 ≤ s) <;> cases h1 : decide (s ≤ 39)
  all_goals
    have H0 := Lib.hid h0
    have H1 := Lib.hid h1
    go_enter Try.func31, Try.ntmps31
    go_wp2
    go_ret
    refine ⟨congrArg Ending.returned (congrArg Value.bool ?_), rfl⟩
    rw [← HB.out, isN, H0.out, H1.out]
    rfl

/-- k stations from the lo-th on. -/
def stt (j : Nat) : Fin 40 := ⟨j % 40, Nat.mod_lt _ (by decide)⟩
theorem stt_eq {j : Nat} (h : j < 40) : stt j = ⟨j, h⟩ := by simp [stt, Nat.mod_eq_of_lt h]
def upw (lo k : Nat) : List (Fin 40) := (List.range k).map (fun j => stt (lo + j))
theorem upw_succ (lo k : Nat) : upw lo (k + 1) = upw lo k ++ [stt (lo + k)] := by simp [upw, List.range_succ]
theorem upw_length (lo k : Nat) : (upw lo k).length = k := by simp [upw]
def encS (x : Fin 40) : Array Value := #[.int .i64 (x.val : Int)]

/-- The two boxes that the function value has captured hold what they held. -/
def KpAB (BA BB : Nat) (W W' : World) : Prop := ∀ k v, (k = BA ∨ k = BB) → W.cell? ⟨k, 0, none⟩ = some v → W'.cell? ⟨k, 0, none⟩ = some v
theorem KpAB.refl (BA BB : Nat) (W : World) : KpAB BA BB W W := fun _ _ _ h => h
theorem KpAB.trans {BA BB : Nat} {X Y Z : World} (h : KpAB BA BB X Y) (g : KpAB BA BB Y Z) : KpAB BA BB X Z := fun k v hk hv => g k v hk (h k v hk hv)
theorem KpAB.below {BA BB n₀ : Nat} {W W' : World} (hA : BA < n₀) (hB : BB < n₀) (h : Below n₀ W W') : KpAB BA BB W W' := fun k v hk hv => (h.cell (p := ⟨k, 0, none⟩) (by show k < n₀; rcases hk with rfl | rfl <;> omega)).trans hv
theorem KpAB.put {BA BB : Nat} (W : World) (l : Nat) (o o' : Obj) (hl : W.heap[l]? = some o) (ho : o.isCells = false) : KpAB BA BB W (W.putObj l o') := fun k v _ hv => cell_kept hv (grownBy_putObj' W l o') (fun r e => by cases e; exact ⟨o, hl, ho⟩)
theorem way_in (F : Fence) (n : Nat) (hf : F.fn 42) (hro : F.round = none) (a b : Int) (w : World) :
    CallsIn F n Try.prog 42 #[.int .i64 a, .int .i64 b] w fun e w' => e = .returned (.func (.func 45) #[] #[.pointer (some ⟨w.heap.size, 0, none⟩), .pointer (some ⟨w.heap.size + 1, 0, none⟩)]) ∧ w' = (w.alloc (.cells #[.int .i64 a] 3)).alloc (.cells #[.int .i64 b] 3) := by
  refine callsIn_of_wp Try.func42 rfl hf ?_ hro
  simp only [Try.ntmps42, List.size_toArray, List.length_cons, List.length_nil, Nat.reduceAdd, Nat.reduceSub, Array.replicate_succ, Array.replicate_zero, List.push_toArray, List.append_toArray, List.nil_append, List.cons_append]
  gi_wp2
  go_ret
  exact ⟨rfl, rfl⟩

set_option maxRecDepth 100000 in
set_option maxHeartbeats 2000000 in
theorem way1_in (F : Fence) (n : Nat) (hf : F.fn 45) (hro : F.round = none) (hn : 1 ≤ n) (l BA BB : Nat) (a b : Int) (lo m : Nat) (hlo : mn a b = (lo : Int)) (hhi : mx a b = (lo : Int) + (m : Int) - 1) (h40 : lo + m ≤ 40) (J Jx : List (Fin 40) → World → Prop)
    (hY : ∀ pre x W, J pre W → pre.length < m → YieldAt F (n - 1) Try.prog l (encS x) W fun e W' =>
      (e = .returned (.bool true) ∧ J (pre ++ [x]) W' ∧ KpAB BA BB W W') ∨ (e = .returned (.bool false) ∧ Jx (pre ++ [x]) W'))
    (W : World) (hA : W.cell? ⟨BA, 0, none⟩ = some (.int .i64 a)) (hB : W.cell? ⟨BB, 0, none⟩ = some (.int .i64 b)) (h0 : J [] W) :
    CallsIn F n Try.prog 45 #[.func (.yield l) #[] #[], .pointer (some ⟨BA, 0, none⟩), .pointer (some ⟨BB, 0, none⟩)] W fun e W' => (∃ v, e = .returned v) ∧
      ((∃ ys, ys = upw lo m ∧ J ys W') ∨ (∃ pre, (∃ k, k ≤ m ∧ pre = upw lo k) ∧ Jx pre W')) := by
  have HA := Lib.hid hA
  have HB := Lib.hid hB
  have hmn : (if b < a then b else a) = (lo : Int) := hlo
  have hmx : (if a < b then b else a) = (lo : Int) + (m : Int) - 1 := hhi
  refine callsIn_of_wp Try.func45 rfl hf ?_ hro
  simp only [Try.ntmps45, List.size_toArray, List.length_cons, List.length_nil, Nat.reduceAdd, Nat.reduceSub, Array.replicate_succ, Array.replicate_zero, List.push_toArray, List.append_toArray, List.nil_append, List.cons_append]
  gi_wp2
  gi_loopw [4] (fun i wr => ∃ j : Nat, lo ≤ j ∧ j ≤ lo + m ∧ i = .int .i64 (j : Int) ∧ J (upw lo (j - lo)) wr ∧ KpAB BA BB W wr)
    (fun i _ => (((lo + m : Nat) : Int) - intOf i).toNat)
  case atStart =>
    exact ⟨lo, Nat.le_refl _, by omega, rfl, by rw [Nat.sub_self]; exact h0, KpAB.refl _ _ _⟩
  case round =>
    obtain ⟨j, hj, hjm, rfl, hJs, hnx⟩ := hrel
    have hcA : wr.cell? ⟨BA, 0, none⟩ = some (.int .i64 a) := hnx BA _ (.inl rfl) HA.out
    have hcB : wr.cell? ⟨BB, 0, none⟩ = some (.int .i64 b) := hnx BB _ (.inr rfl) HB.out
    by_cases hlt : j < lo + m
    · have hjl : j < 40 := by omega
      have hst : upw lo (j + 1 - lo) = upw lo (j - lo) ++ [⟨j, hjl⟩] := by
        rw [show j + 1 - lo = (j - lo) + 1 by omega, upw_succ, show lo + (j - lo) = j by omega, stt_eq hjl]
      obtain ⟨fn, tmps, assign, body, hy, hR⟩ := hY _ ⟨j, hjl⟩ wr hJs (by rw [upw_length]; omega)
      dsimp only [encS] at hy
      have b1 : (j : Int) ≤ (lo : Int) + (m : Int) - 1 := by omega
      have w1 : IntKind.i64.wrap ((j : Int) + 1) = (j : Int) + 1 := IntWalk.i64_in _ (by omega)
      have HNX := Lib.hid hnx
      have HJ := Lib.hid hst
      have HL := Lib.hid hlt
      clear hnx hst hlt
      gi_wp2
      refine hR.mono ?_
      rintro e' W3 (⟨rfl, hJ3, hk3⟩ | ⟨rfl, hJx3⟩)
      · gi_wp2
        go_roundw
        case rel => exact ⟨j + 1, by omega, by have := HL.out; omega, by go_num, by rw [HJ.out]; exact hJ3, HNX.out.trans hk3⟩
        case measure => have := HL.out; simp [intOf] <;> omega
      · gi_wp2
        refine bodyPost_ret (results_none rfl _ _ _) rfl ?_
        exact ⟨⟨_, rfl⟩, .inr ⟨_, ⟨j + 1 - lo, by have := HL.out; omega, HJ.out.symm⟩, hJx3⟩⟩
    · obtain rfl : j = lo + m := by omega
      have b1 : ¬ (((lo + m : Nat) : Int) ≤ (lo : Int) + (m : Int) - 1) := by omega
      gi_wp2
      go_end0
      have hJe : J (upw lo m) wr := by rw [show lo + m - lo = m by omega] at hJs; exact hJs
      exact ⟨⟨_, rfl⟩, .inl hJe⟩
theorem way_stops (F : Fence) (n : Nat) (hf : F.fn 45) (hro : F.round = none) (hn : 1 ≤ n) (BA BB : Nat) (a b : Int) (lo m : Nat) (hlo : mn a b = (lo : Int)) (hhi : mx a b = (lo : Int) + (m : Int) - 1) (h40 : lo + m ≤ 40) (w : World) (hBA : BA < w.heap.size) (hBB : BB < w.heap.size)
    (hA : w.cell? ⟨BA, 0, none⟩ = some (.int .i64 a)) (hB : w.cell? ⟨BB, 0, none⟩ = some (.int .i64 b)) :
    SeqStopsK F n Try.prog 45 #[.pointer (some ⟨BA, 0, none⟩), .pointer (some ⟨BB, 0, none⟩)] encS (KpAB BA BB) (fun ys => ys = upw lo m) (fun pre => ∃ k, k ≤ m ∧ pre = upw lo k) m w := fun l J Jx W hW _ _ hY h0 =>
  way1_in F n hf hro hn l BA BB a b lo m hlo hhi h40 J Jx hY W ((hW.cell (p := ⟨BA, 0, none⟩) hBA).trans hA) ((hW.cell (p := ⟨BB, 0, none⟩) hBB).trans hB) h0
end Go.Proofs.Ytaokhkbfiplfmaa
