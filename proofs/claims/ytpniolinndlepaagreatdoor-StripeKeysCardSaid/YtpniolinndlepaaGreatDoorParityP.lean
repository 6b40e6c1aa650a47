/-
  Contracts of package parity.
-/
import Derived.Test.YtpniolinndlepaaGreatDoorBase
import Derived.Test.YtpniolinndlepaaGreatDoorTrackM
import Derived.Laws.EntriesVeiled
import Derived.Deep.RegionWith
namespace Go.Proofs.YtpniolinndlepaaGreatDoor
set_option linter.unusedVariables false
open Go.ChangeShapes Go.WideShapes Go.ChangeAt Go.RowKit

theorem infoB5 : (Tryz.prog.info? 127).map (·.size) = some 5 := by kernel_rfl
theorem infoB1 : (Tryz.prog.info? 4).map (·.size) = some 1 := by kernel_rfl
theorem b5_one (x0 x1 x2 x3 x4 : Bool) : (#[Value.bool x0, .bool x1, .bool x2, .bool x3, .bool x4] : Array Value).all (·.oneCell') = true := by
  rw [Array.all_eq_true_iff_forall_mem]
  intro u hu
  simp at hu
  rcases hu with rfl | rfl | rfl | rfl | rfl <;> rfl
def BBox (w : World) (b : Nat) (d : B5) : Prop := w.heap[b]? = some (.cells #[.bool d.b0, .bool d.b1, .bool d.b2, .bool d.b3, .bool d.b4] 127 (0, 0))
theorem BBox.lt {w : World} {b : Nat} {d : B5} (h : BBox w b d) : b < w.heap.size := (Array.getElem?_eq_some_iff.1 h).1
theorem BBox.next {w w' : World} {b : Nat} {d : B5} (h : BBox w b d) (hb : Below w.heap.size w w') : BBox w' b d := (hb.block _ h.lt).trans h
theorem BBox.cells {w : World} {b : Nat} {d : B5} (h : BBox w b d) : w.cell? ⟨b, 0, none⟩ = some (.bool d.b0) ∧ w.cell? ⟨b, 1, none⟩ = some (.bool d.b1) ∧ w.cell? ⟨b, 2, none⟩ = some (.bool d.b2) ∧ w.cell? ⟨b, 3, none⟩ = some (.bool d.b3) ∧ w.cell? ⟨b, 4, none⟩ = some (.bool d.b4) :=
  ⟨by rw [cell_of_row w b 0 _ _ (0, 0) h]; rfl, by rw [cell_of_row w b 1 _ _ (0, 0) h]; rfl, by rw [cell_of_row w b 2 _ _ (0, 0) h]; rfl, by rw [cell_of_row w b 3 _ _ (0, 0) h]; rfl, by rw [cell_of_row w b 4 _ _ (0, 0) h]; rfl⟩
theorem BBox.some {w : World} {b : Nat} {d : B5} (h : BBox w b d) (j : Nat) (hj : j < 5) : (w.cell? ⟨b, j, none⟩).isSome = true := by
  rcases (show j = 0 ∨ j = 1 ∨ j = 2 ∨ j = 3 ∨ j = 4 by omega) with rfl | rfl | rfl | rfl | rfl
  · rw [h.cells.1]; rfl
  · rw [h.cells.2.1]; rfl
  · rw [h.cells.2.2.1]; rfl
  · rw [h.cells.2.2.2.1]; rfl
  · rw [h.cells.2.2.2.2]; rfl
theorem BBox.frozen {w : World} {b : Nat} {d : B5} (h : BBox w b d) (j : Nat) : w.frozen? ⟨b, j, none⟩ = false := frozen_of_row w b j _ _ h
def setB (d : B5) (v : Bool) : Nat → B5
  | 0 => { d with b0 := v }
  | 1 => { d with b1 := v }
  | 2 => { d with b2 := v }
  | 3 => { d with b3 := v }
  | _ => { d with b4 := v }
def getB (d : B5) : Nat → Bool
  | 0 => d.b0
  | 1 => d.b1
  | 2 => d.b2
  | 3 => d.b3
  | _ => d.b4
theorem BBox.set {w : World} {b : Nat} {d : B5} (h : BBox w b d) (v : Bool) (j : Nat) (hj : j < 5) : BBox (w.setCell ⟨b, j, none⟩ (.bool v)) b (setB d v j) := by
  rcases (show j = 0 ∨ j = 1 ∨ j = 2 ∨ j = 3 ∨ j = 4 by omega) with rfl | rfl | rfl | rfl | rfl <;> exact heap_setCell_same w b _ _ _ _ h
theorem BBox.get {w : World} {b : Nat} {d : B5} (h : BBox w b d) (j : Nat) (hj : j < 5) : w.cell? ⟨b, j, none⟩ = Option.some (.bool (getB d j)) := by
  rcases (show j = 0 ∨ j = 1 ∨ j = 2 ∨ j = 3 ∨ j = 4 by omega) with rfl | rfl | rfl | rfl | rfl
  · exact h.cells.1
  · exact h.cells.2.1
  · exact h.cells.2.2.1
  · exact h.cells.2.2.2.1
  · exact h.cells.2.2.2.2
theorem BBox.setAt {w : World} {b b' j : Nat} {d : B5} (h : BBox w b d) (v : Value) (hne : b ≠ b') : BBox (w.setCell ⟨b', j, none⟩ v) b d := (heap_setCell_other w _ _ v hne).trans h
theorem BBox.new (w : World) (d : B5) : BBox (w.alloc (.cells #[.bool d.b0, .bool d.b1, .bool d.b2, .bool d.b3, .bool d.b4] 127)) w.heap.size d := heap_alloc_new w _
/-- The first k bits of n, the others not set. -/
def upB (n k : Nat) : B5 := ⟨decide (0 < k) && bitB n 0, decide (1 < k) && bitB n 1, decide (2 < k) && bitB n 2, decide (3 < k) && bitB n 3, decide (4 < k) && bitB n 4⟩
theorem upB_step (n k : Nat) (hk : k < 5) : setB (upB n k) (bitB n k) k = upB n (k + 1) := by
  rcases (show k = 0 ∨ k = 1 ∨ k = 2 ∨ k = 3 ∨ k = 4 by omega) with rfl | rfl | rfl | rfl | rfl <;> simp [setB, upB]
theorem upB_all {c : Int} (h : isC c = true) : upB c.toNat 5 = bitsB c := by rw [bitsB, if_pos h]; simp [upB]
set_option linter.unusedVariables false
open Go.ChangeShapes Go.WideShapes Go.ChangeAt Go.RowKit

set_option maxRecDepth 100000 in
set_option maxHeartbeats 1600000 in
theorem refones_any (n k : Nat) (hn : n < 32) (hk : ones5 n = k) (w : World) : Calls Tryz.prog 139 #[.int .i64 (n : Int)] w fun e w' => e = .returned (.int .i64 (k : Int)) ∧ w' = w := by
  have HN := Lib.hid hn
  have HK := Lib.hid hk
  have hk5 : k ≤ 5 := by rw [← hk]; exact ones5_le n
  clear hn hk
  go_enter Tryz.func139, Tryz.ntmps139
  go_wp2
  go_loop [0, 3] (fun a b => ∃ m j : Nat, a = .int .i64 m ∧ b = .int .i64 j ∧ m < 32 ∧ j + ones5 m = k) (fun a _ => (intOf a).toNat)
  case atStart => exact ⟨n, 0, rfl, rfl, HN.out, by rw [HK.out, Nat.zero_add]⟩
  case round =>
    obtain ⟨m, j, rfl, rfl, hm, hj⟩ := hrel
    have hst := ones5_step hm
    have hle := ones5_le m
    have HJ := Lib.hid hj
    have HM := Lib.hid hm
    by_cases h0 : 0 < m
    · have b1 : (0 : Int) < (m : Int) := by omega
      have wj : IntKind.i64.wrap ((j : Int) + (m : Int) % 2) = (j : Int) + (m : Int) % 2 := IntWalk.i64_in _ (by omega)
      have wq : wrap64 ((m : Int) / 2) = (m : Int) / 2 := by unfold wrap64; omega
      have hq : ((m : Int) / 2) = ((m / 2 : Nat) : Int) := by omega
      have hj2 : (j : Int) + (m : Int) % 2 = ((j + m % 2 : Nat) : Int) := by omega
      have HQ := Lib.hid hq
      have HJ2 := Lib.hid hj2
      clear hq hj2
      have HS := Lib.hid hst
      clear hj hm hst hle
      go_wp2
      go_round
      case rel => exact ⟨m / 2, j + m % 2, by first | (rw [wq, HQ.out]; done) | (rw [HQ.out]; done), by first | (rw [wj, HJ2.out]; done) | (rw [HJ2.out]; done), by have := HM.out; omega, by have := HJ.out; have := HS.out; omega⟩
      case measure => (try rw [wq]); simp [intOf]; omega
    · have e : m = 0 := by omega
      subst e
      have hjk : j = k := by have := HJ.out; simp [ones5] at this; exact this
      clear hj hm hst hle h0
      go_wp2
      go_ret
      exact ⟨rfl, rfl⟩
set_option maxRecDepth 100000 in
set_option maxHeartbeats 1600000 in
theorem refvalue_any (c x E : Int) (hv : valV c = x) (hE : valE c = E) (w : World) : Calls Tryz.prog 112 #[.int .i64 c] w fun e w' => e = .returned (.tuple #[.int .i64 x, .int .i64 E]) ∧ w' = w := by
  cases h : isC c with
  | false =>
    have e1 : x = 0 := by rw [← hv, valV, h]; rfl
    have e2 : E = 1 := by rw [← hE, valE, h]; rfl
    subst e1 e2
    clear hv hE
    cases q1 : decide (c < 0)
    case true =>
      clear h
      go_enter Tryz.func112, Tryz.ntmps112
      go_wp2
      go_ret2
      exact ⟨rfl, rfl⟩
    case false =>
      have q2 : decide (31 < c) = true := by
        rw [decide_eq_false_iff_not] at q1
        refine decide_eq_true ?_
        rcases Int.lt_or_le 31 c with h1 | h1
        · exact h1
        · rw [(isC_iff c).2 ⟨by omega, h1⟩] at h; cases h
      clear h
      go_enter Tryz.func112, Tryz.ntmps112
      go_wp2
      go_ret2
      exact ⟨rfl, rfl⟩
  | true =>
    have hs := (isC_iff c).1 h
    have q1 : decide (c < 0) = false := decide_eq_false (by omega)
    have q2 : decide (31 < c) = false := decide_eq_false (by omega)
    obtain ⟨n, hn⟩ : ∃ n : Nat, c = (n : Int) := ⟨c.toNat, by omega⟩
    subst hn
    have ht : (n : Int).toNat = n := by omega
    have HN := Lib.hid (show n < 32 by omega)
    obtain ⟨k, hk⟩ : ∃ k, ones5 n = k := ⟨_, rfl⟩
    have HK := Lib.hid hk
    have hx : (if k % 2 = 0 then 0 else (n : Int) % 16) = x := by rw [← hv, valV, if_pos h, ht, hk]
    have hE2 : (if k % 2 = 0 then 3 else 0) = E := by rw [← hE, valE, if_pos h, ht, hk]
    by_cases hk2 : k % 2 = 0
    · have q3 : ((k : Int) % 2 == 0) = true := by rw [beq_iff_eq]; omega
      rw [if_pos hk2] at hx hE2
      subst hx hE2
      clear hv hE h hs hk hk2
      go_enter Tryz.func112, Tryz.ntmps112
      go_wp2_with (go_at_call 139; refine (refones_any n k HN.out HK.out _).mono ?_; rintro e w1 ⟨rfl, rfl⟩)
      go_ret2
      exact ⟨rfl, rfl⟩
    · have q3 : ((k : Int) % 2 == 0) = false := by rw [beq_eq_false_iff_ne]; omega
      rw [if_neg hk2] at hx hE2
      subst hE2
      have HX := Lib.hid hx
      clear hv hE h hs hk hk2 hx
      go_enter Tryz.func112, Tryz.ntmps112
      go_wp2_with (go_at_call 139; refine (refones_any n k HN.out HK.out _).mono ?_; rintro e w1 ⟨rfl, rfl⟩)
      go_ret2
      exact ⟨by rw [← HX.out]; rfl, rfl⟩
set_option linter.unusedVariables false
open Go.ChangeShapes Go.WideShapes Go.ChangeAt Go.RowKit

theorem xor_small : ∀ a : Nat, a < 16 → ∀ b : Nat, b < 16 → bits BinOp.xor IntKind.i64 (a : Int) (b : Int) = ((a ^^^ b : Nat) : Int) := by decide
theorem sum_bad {l : List Int} {k : Nat} {z : Int} (hz : l[k]? = some z) (h : isV z = false) : sumOk l = false := by
  cases hs : sumOk l with
  | false => rfl
  | true =>
    have := (List.all_eq_true.1 hs) z (List.mem_of_getElem? hz)
    rw [h] at this; cases this
set_option maxRecDepth 100000 in
set_option maxHeartbeats 1600000 in
theorem refsum_any (l : List Int) (n : Nat) (hn : n = l.length) (A : Option Addr) (c : Nat) (x E : Int) (hv : sumV l = x) (hE : sumE l = E) (w : World) (hA : Zs w w.heap.size l A c) : Calls Tryz.prog 73 #[.slice A n c] w fun e w' => e = .returned (.tuple #[.int .i64 x, .int .i64 E]) ∧ w' = w := by
  have HN := Lib.hid hn
  have HV := Lib.hid hv
  have HE := Lib.hid hE
  have HA := Lib.hid hA
  have hc := hA.cap
  have hlc := hA.len
  have hn3 : n ≤ 9223372036854775807 := by omega
  clear hn hv hE hA hc hlc
  go_enter Tryz.func73, Tryz.ntmps73
  go_wp2
  go_loop [4, 5] (fun s i => ∃ k : Nat, k ≤ n ∧ i = .int .i64 k ∧ s = .int .i64 (sumX (l.take k) : Nat) ∧ sumOk (l.take k) = true) (fun _ i => n - (intOf i).toNat)
  case atStart => exact ⟨0, by omega, rfl, rfl, rfl⟩
  case round =>
    obtain ⟨k, hk, rfl, rfl, hok⟩ := hrel
    have HO := Lib.hid hok
    clear hok
    by_cases hlt : k < n
    · have hkl : k < l.length := by rw [← HN.out]; exact hlt
      obtain ⟨z, hz⟩ : ∃ z, l[k]? = some z := ⟨_, List.getElem?_eq_getElem hkl⟩
      obtain ⟨ad, rfl, hadl, hc⟩ := HA.out.at hz
      have b1 : (k : Int) < (n : Int) := by omega
      have b0 : (0 : Int) ≤ (k : Int) := by omega
      have HZ := Lib.hid hz
      clear hz hkl hadl
      cases q1 : decide (z < 0)
      case false =>
        cases q2 : decide (15 < z)
        case false =>
          have hvz : isV z = true := by rw [decide_eq_false_iff_not] at q1 q2; exact (isV_iff z).2 ⟨by omega, by omega⟩
          obtain ⟨m, hm⟩ : ∃ m : Nat, z = (m : Int) := ⟨z.toNat, by have := (isV_iff z).1 hvz; omega⟩
          have hx : bits BinOp.xor IntKind.i64 ((sumX (l.take k) : Nat) : Int) z = ((sumX (l.take (k + 1)) : Nat) : Int) := by
            rw [sumX_take HZ.out, hm]
            exact xor_small _ (sumX_lt _ HO.out) m (by have := (isV_iff z).1 hvz; omega)
          have HS := Lib.hid hx
          have HO2 := Lib.hid (show sumOk (l.take (k + 1)) = true by rw [sumOk_take HZ.out, HO.out, hvz]; rfl)
          clear hlt hm hx hvz
          go_wp2
          case roundEnd => exact ⟨⟨k + 1, by omega, by go_num, by rw [HS.out], HO2.out⟩, by simp [intOf]; omega⟩
        case true =>
          have hb : isV z = false := by
            cases hb : isV z with
            | false => rfl
            | true => have h1 := (isV_iff z).1 hb; rw [decide_eq_true_iff] at q2; omega
          have hs := sum_bad HZ.out hb
          have e1 : x = 0 := by rw [← HV.out, sumV, hs]; rfl
          have e2 : E = 1 := by rw [← HE.out, sumE, hs]; rfl
          subst e1 e2
          clear hb hs
          go_wp2
          go_ret2
          exact ⟨rfl, rfl⟩
      case true =>
        have hb : isV z = false := by
          cases hb : isV z with
          | false => rfl
          | true => have h1 := (isV_iff z).1 hb; rw [decide_eq_true_iff] at q1; omega
        have hs := sum_bad HZ.out hb
        have e1 : x = 0 := by rw [← HV.out, sumV, hs]; rfl
        have e2 : E = 1 := by rw [← HE.out, sumE, hs]; rfl
        subst e1 e2
        clear hb hs
        go_wp2
        go_ret2
        exact ⟨rfl, rfl⟩
    · have e : k = n := by omega
      have ht : l.take k = l := by rw [e, HN.out]; exact List.take_length
      have hs : sumOk l = true := by have := HO.out; rwa [ht] at this
      have e1 : ((sumX l : Nat) : Int) = x := by rw [← HV.out, sumV, if_pos hs]
      have e2 : E = 0 := by rw [← HE.out, sumE, if_pos hs]
      subst e2
      have hnb : ¬ ((k : Int) < (n : Int)) := by omega
      rw [ht, e1]
      clear ht hs e1 hlt e
      go_wp2
      go_ret2
      exact ⟨rfl, rfl⟩

/-- How many of the first k bits are 1. -/
def cntUp (b : B5) : Nat → Nat
  | 0 => 0
  | k + 1 => cntUp b k + (getB b k).toNat
/-- The number of the first k bits. -/
def orUp (b : B5) : Nat → Nat
  | 0 => 0
  | k + 1 => if getB b k = true then orUp b k ||| 2 ^ k else orUp b k
/-- The bits of n below the fifth, and the fifth that makes their number odd. -/
def gB (n : Nat) : B5 := setB (upB n 5) (cntUp (upB n 5) 5 % 2 == 0) 4
theorem cntUp_le (b : B5) (k : Nat) : cntUp b k ≤ k := by
  induction k with
  | zero => exact Nat.le_refl 0
  | succ k ih =>
    show cntUp b k + (getB b k).toNat ≤ k + 1
    cases getB b k
    · show cntUp b k + 0 ≤ k + 1; omega
    · show cntUp b k + 1 ≤ k + 1; omega
theorem orUp_lt (b : B5) {k : Nat} (hk : k ≤ 5) : orUp b k < 32 := by
  obtain ⟨b0, b1, b2, b3, b4⟩ := b
  rcases (show k = 0 ∨ k = 1 ∨ k = 2 ∨ k = 3 ∨ k = 4 ∨ k = 5 by omega) with rfl | rfl | rfl | rfl | rfl | rfl <;> cases b0 <;> cases b1 <;> cases b2 <;> cases b3 <;> cases b4 <;> decide
theorem orUp_all (b : B5) : ((orUp b 5 : Nat) : Int) = ofB b := by
  obtain ⟨b0, b1, b2, b3, b4⟩ := b
  cases b0 <;> cases b1 <;> cases b2 <;> cases b3 <;> cases b4 <;> decide
theorem gB_char : ∀ n : Nat, n < 16 → ofB (gB n) = charV (n : Int) := by decide
theorem gB_value : ∀ n : Nat, n < 32 → (upB n 5 = gB (n % 16)) = (ones5 n % 2 = 1) := by
  intro n hn
  have : ∀ n : Nat, n < 32 → (decide (upB n 5 = gB (n % 16)) = decide (ones5 n % 2 = 1)) := by decide
  simpa using this n hn
theorem or_small : ∀ a : Nat, a < 32 → ∀ k : Nat, k < 5 → bits BinOp.or IntKind.i64 (a : Int) (2 ^ k) = ((a ||| 2 ^ k : Nat) : Int) := by decide
theorem and_small : ∀ n : Nat, n < 32 → ∀ k : Nat, k < 5 → (bits BinOp.and IntKind.i64 ((n : Int) / 2 ^ k) 1 == 1) = bitB n k := by decide
theorem shl_small : ∀ k : Nat, k < 5 → IntKind.i64.wrap ((1 : Int) * 2 ^ k) = 2 ^ k := by decide
set_option linter.unusedVariables false
open Go.ChangeShapes Go.WideShapes Go.ChangeAt Go.RowKit

theorem pisvalue_any (v : Int) (b : Bool) (hb : isV v = b) (w : World) : Calls Tryz.prog 137 #[.int .i64 v] w fun e w' => e = .returned (.bool b) ∧ w' = w := by
  have hb2 : (decide (0 ≤ v) && decide (v < 16)) = b := by
    rw [← hb]
    cases h : isV v
    · rcases Int.lt_or_le v 0 with h1 | h1
      · simp; intro h2; omega
      · rcases Int.lt_or_le v 16 with h2 | h2
        · rw [(isV_iff v).2 ⟨h1, by omega⟩] at h; cases h
        · simp; intro h3; omega
    · have := (isV_iff v).1 h
      simp; omega
  have HB := Lib.hid hb2
  clear hb hb2
  cases h0 : decide (0 ≤ v) <;> cases h1 : decide (v < 16)
  all_goals
    have H0 := Lib.hid h0
    have H1 := Lib.hid h1
    go_enter Tryz.func137, Tryz.ntmps137
    go_wp2
    go_ret
    refine ⟨congrArg Ending.returned (congrArg Value.bool ?_), rfl⟩
    rw [← HB.out, H0.out, H1.out]
    rfl
set_option maxRecDepth 100000 in
set_option maxHeartbeats 1600000 in
theorem psplit_any (n : Nat) (b : B5) (hn : n < 32) (hb : upB n 5 = b) (w : World) : Calls Tryz.prog 136 #[.int .i64 (n : Int)] w fun e w' => e = .returned (.agg #[.bool b.b0, .bool b.b1, .bool b.b2, .bool b.b3, .bool b.b4]) ∧ Below w.heap.size w w' := by
  obtain ⟨w1, hw1⟩ : ∃ w1, w1 = w.alloc (.cells #[.bool false, .bool false, .bool false, .bool false, .bool false] 127) := ⟨_, rfl⟩
  obtain ⟨w2, hw2⟩ : ∃ w2, w2 = w1.alloc (.cells #[.bool false, .bool false, .bool false, .bool false, .bool false] 127) := ⟨_, rfl⟩
  have hsz : w1.heap.size = w.heap.size + 1 := by rw [hw1]; exact Array.size_push ..
  have HB : Hid (Below w.heap.size w w2) := Lib.hid (by rw [hw2, hw1]; exact (below_lit w _ _).trans ((below_lit _ _ _).mono (below_lit w _ _).size))
  have HR : Hid (BBox w2 w.heap.size noB) := Lib.hid (by rw [hw2]; exact BBox.next (by rw [hw1]; exact BBox.new w noB) (below_lit w1 _ _))
  have HX : Hid (BBox w2 (w.heap.size + 1) noB) := Lib.hid (by rw [hw2, ← hsz]; exact BBox.new w1 noB)
  have HW : Hid ((w.alloc (.cells #[.bool false, .bool false, .bool false, .bool false, .bool false] 127)).alloc (.cells #[.bool false, .bool false, .bool false, .bool false, .bool false] 127) = w2) := Lib.hid (by rw [hw2, hw1])
  have HBB := Lib.hid hb
  have HN := Lib.hid hn
  clear hw1 hw2 hsz w1 hb hn
  go_enter Tryz.func136, Tryz.ntmps136
  go_wp2
  rw [HW.out]
  go_loopw [6] (fun i wr => ∃ k : Nat, k ≤ 5 ∧ i = .int .i64 k ∧ BBox wr (w.heap.size + 1) (upB n k) ∧ BBox wr w.heap.size noB ∧ Below w.heap.size w wr) (fun i _ => 5 - (intOf i).toNat)
  case atStart => exact ⟨0, by omega, rfl, HX.out, HR.out, HB.out⟩
  case round =>
    obtain ⟨k, hk, rfl, hx, hr, hbel⟩ := hrel
    replace HX := Lib.hid hx
    replace HR := Lib.hid hr
    replace HB := Lib.hid hbel
    clear hx hr hbel
    by_cases hlt : k < 5
    · have hbit := and_small n HN.out k hlt
      have HBIT := Lib.hid hbit
      have b1 : (k : Int) < 5 := by omega
      have b0 : (0 : Int) ≤ (k : Int) := by omega
      have b2 : (k : Int) ≤ 64 := by omega
      clear hbit
      have fz := HX.out.frozen k
      have hsm := HX.out.get k hlt
      go_wp2
      case roundEnd => exact ⟨⟨k + 1, by omega, by go_num, by rw [HBIT.out, ← upB_step n k hlt]; exact HX.out.set _ k hlt, HR.out.setAt _ (by omega), HB.out.setCell (p := ⟨w.heap.size + 1, k, none⟩) (by simp) _⟩, by simp [intOf]; omega⟩
    · have e : k = 5 := by omega
      subst e
      have hb1 : ¬ (((5 : Nat) : Int) < 5) := by omega
      rw [HBB.out] at HX
      obtain ⟨c0, c1, c2, c3, c4⟩ := HX.out.cells
      clear hlt hk
      go_wp2_with ((with_reducible refine at_store 2 ?_); refine wpList_store_named (o := ⟨none, .store 127 (.tmp 2) (.tmp 17), _, _, _, _⟩) rfl 127 (.tmp 2) (.tmp 17) rfl w.heap.size #[.bool b.b0, .bool b.b1, .bool b.b2, .bool b.b3, .bool b.b4] rfl rfl 127 #[.bool false, .bool false, .bool false, .bool false, .bool false] HR.out infoB5 rfl (b5_one _ _ _ _ _) ?_; intro w5 hw5)
      have hr5 := setRow_heap wr w.heap.size #[.bool false, .bool false, .bool false, .bool false, .bool false] #[.bool b.b0, .bool b.b1, .bool b.b2, .bool b.b3, .bool b.b4] 127 (0, 0) HR.out
      rw [← hw5.out] at hr5
      have hb5 := below_row hw5.out (Nat.le_refl w.heap.size)
      refine bodyPost_ret (results_row Tryz.results136 _ w5 w.heap.size 127 #[.bool b.b0, .bool b.b1, .bool b.b2, .bool b.b3, .bool b.b4] (0, 0) _ rfl hr5 Tryz.underlying127 rfl infoB5) rfl ⟨rfl, HB.out.trans hb5⟩
set_option linter.unusedVariables false
open Go.ChangeShapes Go.WideShapes Go.ChangeAt Go.RowKit

/-- A box of one int. -/
def IBox (w : World) (b : Nat) (x : Int) : Prop := w.heap[b]? = some (.cells #[.int .i64 x] 3 (0, 0))
theorem IBox.lt {w : World} {b : Nat} {x : Int} (h : IBox w b x) : b < w.heap.size := lt_of_block h
theorem IBox.next {w w' : World} {b : Nat} {x : Int} (h : IBox w b x) (hb : Below w.heap.size w w') : IBox w' b x := (hb.block _ h.lt).trans h
theorem IBox.new (w : World) (x : Int) : IBox (w.alloc (.cells #[.int .i64 x] 3)) w.heap.size x := heap_alloc_new w _
theorem IBox.set {w : World} {b : Nat} {x : Int} (h : IBox w b x) (y : Int) : IBox (w.setCell ⟨b, 0, none⟩ (.int .i64 y)) b y := one_setCell h
theorem run_index_b5 (b : B5) : ∀ k : Nat, k < 5 → ∀ w : World, (Instr.index 127 (.agg #[.bool b.b0, .bool b.b1, .bool b.b2, .bool b.b3, .bool b.b4]) (.int .i64 (k : Int))).run Tryz.prog w = .ok (.bool (getB b k)) w
  | 0, _ => fun w => by kernel_rfl
  | 1, _ => fun w => by kernel_rfl
  | 2, _ => fun w => by kernel_rfl
  | 3, _ => fun w => by kernel_rfl
  | 4, _ => fun w => by kernel_rfl
  | k + 5, h => absurd h (by omega)
set_option maxRecDepth 100000 in
set_option maxHeartbeats 1600000 in
theorem pof1_any (k m : Nat) (hk : k < 5) (hm : m < 32) (C : Nat) (w : World) (hC : IBox w C m) : Calls Tryz.prog 156 #[.int .i64 (k : Int), .pointer (some ⟨C, 0, none⟩)] w fun e w' => e = .returned (.tuple #[]) ∧ IBox w' C ((m ||| 2 ^ k : Nat) : Int) ∧ Below C w w' := by
  have c0 := cell_of_one hC
  have f0 := free_of_one hC
  have b0 : (0 : Int) ≤ (k : Int) := by omega
  have b1 : (k : Int) ≤ 64 := by omega
  have w1 : IntKind.i64.wrap (1 * 2 ^ k) = 2 ^ k := shl_small k hk
  have w2 : IntKind.i64.wrap (2 ^ k) = 2 ^ k := by have := shl_small k hk; rwa [Int.one_mul] at this
  have o1 := or_small m hm k hk
  have HO := Lib.hid o1
  have HI := Lib.hid hC
  clear o1 hC hk hm
  go_enter Tryz.func156, Tryz.ntmps156
  go_wp2
  go_region
  all_goals (try go_wp2)
  all_goals (try go_end0)
  all_goals
    rw [HO.out]
    exact ⟨rfl, HI.out.set _, below_drewN ((Below.refl C w).setCell (p := ⟨C, 0, none⟩) (Nat.le_refl _) _) 1⟩
set_option maxRecDepth 100000 in
set_option maxHeartbeats 1600000 in
theorem pones1_any (k m : Nat) (hm : m < 32) (C : Nat) (w : World) (hC : IBox w C m) : Calls Tryz.prog 184 #[.int .i64 (k : Int), .pointer (some ⟨C, 0, none⟩)] w fun e w' => e = .returned (.tuple #[]) ∧ IBox w' C ((m + 1 : Nat) : Int) ∧ Below C w w' := by
  have c0 := cell_of_one hC
  have f0 := free_of_one hC
  have w1 : IntKind.i64.wrap ((m : Int) + 1) = (m : Int) + 1 := IntWalk.i64_in _ (by omega)
  have HI := Lib.hid hC
  clear hC hm
  go_enter Tryz.func184, Tryz.ntmps184
  go_wp2
  go_end0
  exact ⟨rfl, HI.out.set _, (Below.refl C w).setCell (p := ⟨C, 0, none⟩) (Nat.le_refl _) _⟩
set_option maxRecDepth 100000 in
set_option maxHeartbeats 1600000 in
theorem peachof_any (b : B5) (C : Nat) (w : World) (hC : IBox w C 0) : Calls Tryz.prog 155 #[.agg #[.bool b.b0, .bool b.b1, .bool b.b2, .bool b.b3, .bool b.b4], .func (.func 156) #[] #[.pointer (some ⟨C, 0, none⟩)]] w fun e w' => e = .returned (.tuple #[]) ∧ IBox w' C ((orUp b 5 : Nat) : Int) ∧ Below C w w' := by
  obtain ⟨w1, hw1⟩ : ∃ w1, w1 = w.alloc (.cells #[.bool b.b0, .bool b.b1, .bool b.b2, .bool b.b3, .bool b.b4] 127) := ⟨_, rfl⟩
  have hbel := (below_lit w #[.bool b.b0, .bool b.b1, .bool b.b2, .bool b.b3, .bool b.b4] 127)
  rw [← hw1] at hbel
  have HI : Hid (IBox w1 C 0) := Lib.hid (hC.next hbel)
  have HB : Hid (Below C w w1) := Lib.hid (hbel.mono (Nat.le_of_lt hC.lt))
  have HX : Hid (BBox w1 w.heap.size b) := Lib.hid (by rw [hw1]; exact BBox.new w b)
  have HW : Hid (w.alloc (.cells #[.bool b.b0, .bool b.b1, .bool b.b2, .bool b.b3, .bool b.b4] 127) = w1) := Lib.hid hw1.symm
  obtain ⟨c0, c1, c2, c3, c4⟩ := HX.out.cells
  clear hw1 hbel hC
  go_enter Tryz.func155, Tryz.ntmps155
  go_wp2
  rw [HW.out]
  go_wp2
  go_loopw [7] (fun i wr => ∃ k : Nat, k ≤ 5 ∧ i = .int .i64 k ∧ IBox wr C ((orUp b k : Nat) : Int) ∧ Below C w wr) (fun i _ => 5 - (intOf i).toNat)
  case atStart => exact ⟨0, by omega, rfl, HI.out, HB.out⟩
  case round =>
    obtain ⟨k, hk, rfl, hx, hbel⟩ := hrel
    replace HI := Lib.hid hx
    replace HB := Lib.hid hbel
    clear hx hbel
    by_cases hlt : k < 5
    · have HL := Lib.hid hlt
      have b1 : (k : Int) < 5 := by omega
      have hidx := run_index_b5 b k hlt
      clear hlt
      cases hg : getB b k
      case false =>
        have HS := Lib.hid (show orUp b (k + 1) = orUp b k by simp only [orUp, hg]; rfl)
        rw [hg] at hidx
        clear hg
        go_wp2
        case roundEnd => exact ⟨⟨k + 1, HL.out, by go_num, by rw [HS.out]; exact HI.out, HB.out⟩, by have := HL.out; simp [intOf]; omega⟩
      case true =>
        have HS := Lib.hid (show orUp b (k + 1) = orUp b k ||| 2 ^ k by simp only [orUp, hg]; rfl)
        rw [hg] at hidx
        clear hg
        go_wp2_with (go_at_call 156; refine (pof1_any k (orUp b k) HL.out (orUp_lt b (Nat.le_of_lt HL.out)) C _ HI.out).mono ?_; rintro e w2 ⟨rfl, hi2, hb2⟩)
        case roundEnd => exact ⟨⟨k + 1, HL.out, by go_num, by rw [HS.out]; exact hi2, HB.out.trans hb2⟩, by have := HL.out; simp [intOf]; omega⟩
    · have e : k = 5 := by omega
      subst e
      have hb1 : ¬ (((5 : Nat) : Int) < 5) := by omega
      clear hlt hk
      go_wp2
      go_end0
      exact ⟨rfl, HI.out, HB.out⟩
set_option maxRecDepth 100000 in
set_option maxHeartbeats 1600000 in
theorem peachones_any (b : B5) (C : Nat) (w : World) (hC : IBox w C 0) : Calls Tryz.prog 155 #[.agg #[.bool b.b0, .bool b.b1, .bool b.b2, .bool b.b3, .bool b.b4], .func (.func 184) #[] #[.pointer (some ⟨C, 0, none⟩)]] w fun e w' => e = .returned (.tuple #[]) ∧ IBox w' C ((cntUp b 5 : Nat) : Int) ∧ Below C w w' := by
  obtain ⟨w1, hw1⟩ : ∃ w1, w1 = w.alloc (.cells #[.bool b.b0, .bool b.b1, .bool b.b2, .bool b.b3, .bool b.b4] 127) := ⟨_, rfl⟩
  have hbel := (below_lit w #[.bool b.b0, .bool b.b1, .bool b.b2, .bool b.b3, .bool b.b4] 127)
  rw [← hw1] at hbel
  have HI : Hid (IBox w1 C 0) := Lib.hid (hC.next hbel)
  have HB : Hid (Below C w w1) := Lib.hid (hbel.mono (Nat.le_of_lt hC.lt))
  have HX : Hid (BBox w1 w.heap.size b) := Lib.hid (by rw [hw1]; exact BBox.new w b)
  have HW : Hid (w.alloc (.cells #[.bool b.b0, .bool b.b1, .bool b.b2, .bool b.b3, .bool b.b4] 127) = w1) := Lib.hid hw1.symm
  obtain ⟨c0, c1, c2, c3, c4⟩ := HX.out.cells
  clear hw1 hbel hC
  go_enter Tryz.func155, Tryz.ntmps155
  go_wp2
  rw [HW.out]
  go_wp2
  go_loopw [7] (fun i wr => ∃ k : Nat, k ≤ 5 ∧ i = .int .i64 k ∧ IBox wr C ((cntUp b k : Nat) : Int) ∧ Below C w wr) (fun i _ => 5 - (intOf i).toNat)
  case atStart => exact ⟨0, by omega, rfl, HI.out, HB.out⟩
  case round =>
    obtain ⟨k, hk, rfl, hx, hbel⟩ := hrel
    replace HI := Lib.hid hx
    replace HB := Lib.hid hbel
    clear hx hbel
    by_cases hlt : k < 5
    · have HL := Lib.hid hlt
      have b1 : (k : Int) < 5 := by omega
      have hidx := run_index_b5 b k hlt
      clear hlt
      cases hg : getB b k
      case false =>
        have HS := Lib.hid (show cntUp b (k + 1) = cntUp b k by simp only [cntUp, hg]; rfl)
        rw [hg] at hidx
        clear hg
        go_wp2
        case roundEnd => exact ⟨⟨k + 1, HL.out, by go_num, by rw [HS.out]; exact HI.out, HB.out⟩, by have := HL.out; simp [intOf]; omega⟩
      case true =>
        have HS := Lib.hid (show cntUp b (k + 1) = cntUp b k + 1 by simp only [cntUp, hg]; rfl)
        rw [hg] at hidx
        clear hg
        go_wp2_with (go_at_call 184; refine (pones1_any k (cntUp b k) (by have := cntUp_le b k; have := HL.out; omega) C _ HI.out).mono ?_; rintro e w2 ⟨rfl, hi2, hb2⟩)
        case roundEnd => exact ⟨⟨k + 1, HL.out, by go_num, by rw [HS.out]; exact hi2, HB.out.trans hb2⟩, by have := HL.out; simp [intOf]; omega⟩
    · have e : k = 5 := by omega
      subst e
      have hb1 : ¬ (((5 : Nat) : Int) < 5) := by omega
      clear hlt hk
      go_wp2
      go_end0
      exact ⟨rfl, HI.out, HB.out⟩
set_option maxRecDepth 100000 in
set_option maxHeartbeats 1600000 in
theorem pof_any (b : B5) (v : Int) (hv : ofB b = v) (w : World) : Calls Tryz.prog 123 #[.agg #[.bool b.b0, .bool b.b1, .bool b.b2, .bool b.b3, .bool b.b4]] w fun e w' => e = .returned (.int .i64 v) ∧ Below w.heap.size w w' := by
  obtain ⟨w1, hw1⟩ : ∃ w1, w1 = w.alloc (.cells #[.bool b.b0, .bool b.b1, .bool b.b2, .bool b.b3, .bool b.b4] 127) := ⟨_, rfl⟩
  obtain ⟨w2, hw2⟩ : ∃ w2, w2 = w1.alloc (.cells #[.int .i64 0] 3) := ⟨_, rfl⟩
  have hsz : w1.heap.size = w.heap.size + 1 := by rw [hw1]; exact Array.size_push ..
  have HB : Hid (Below w.heap.size w w2) := Lib.hid (by rw [hw2, hw1]; exact (below_lit w _ _).trans ((below_lit _ _ _).mono (below_lit w _ _).size))
  have HX : Hid (BBox w2 w.heap.size b) := Lib.hid (by rw [hw2]; exact BBox.next (by rw [hw1]; exact BBox.new w b) (below_lit w1 _ _))
  have HI : Hid (IBox w2 (w.heap.size + 1) 0) := Lib.hid (by rw [hw2, ← hsz]; exact IBox.new w1 0)
  have HW : Hid ((w.alloc (.cells #[.bool b.b0, .bool b.b1, .bool b.b2, .bool b.b3, .bool b.b4] 127)).alloc (.cells #[.int .i64 0] 3) = w2) := Lib.hid (by rw [hw2, hw1])
  obtain ⟨c0, c1, c2, c3, c4⟩ := HX.out.cells
  have HV : Hid (((orUp b 5 : Nat) : Int) = v) := Lib.hid ((orUp_all b).trans hv)
  clear hw1 hw2 hsz w1 hv
  go_enter Tryz.func123, Tryz.ntmps123
  go_wp2_with (go_at_call 155; refine (peachof_any b (w.heap.size + 1) _ (by rw [HW.out]; exact HI.out)).mono ?_; rintro e w3 ⟨rfl, hi3, hb3⟩; rw [HV.out] at hi3; have cC := cell_of_one hi3)
  go_ret
  refine ⟨rfl, HB.out.trans (Below.mono ?_ (Nat.le_succ _))⟩
  rw [← HW.out]
  exact hb3
set_option maxRecDepth 100000 in
set_option maxHeartbeats 1600000 in
theorem pones_any (b : B5) (v : Int) (hv : ((cntUp b 5 : Nat) : Int) = v) (w : World) : Calls Tryz.prog 175 #[.agg #[.bool b.b0, .bool b.b1, .bool b.b2, .bool b.b3, .bool b.b4]] w fun e w' => e = .returned (.int .i64 v) ∧ Below w.heap.size w w' := by
  obtain ⟨w1, hw1⟩ : ∃ w1, w1 = w.alloc (.cells #[.bool b.b0, .bool b.b1, .bool b.b2, .bool b.b3, .bool b.b4] 127) := ⟨_, rfl⟩
  obtain ⟨w2, hw2⟩ : ∃ w2, w2 = w1.alloc (.cells #[.int .i64 0] 3) := ⟨_, rfl⟩
  have hsz : w1.heap.size = w.heap.size + 1 := by rw [hw1]; exact Array.size_push ..
  have HB : Hid (Below w.heap.size w w2) := Lib.hid (by rw [hw2, hw1]; exact (below_lit w _ _).trans ((below_lit _ _ _).mono (below_lit w _ _).size))
  have HX : Hid (BBox w2 w.heap.size b) := Lib.hid (by rw [hw2]; exact BBox.next (by rw [hw1]; exact BBox.new w b) (below_lit w1 _ _))
  have HI : Hid (IBox w2 (w.heap.size + 1) 0) := Lib.hid (by rw [hw2, ← hsz]; exact IBox.new w1 0)
  have HW : Hid ((w.alloc (.cells #[.bool b.b0, .bool b.b1, .bool b.b2, .bool b.b3, .bool b.b4] 127)).alloc (.cells #[.int .i64 0] 3) = w2) := Lib.hid (by rw [hw2, hw1])
  obtain ⟨c0, c1, c2, c3, c4⟩ := HX.out.cells
  have HV : Hid (((cntUp b 5 : Nat) : Int) = v) := Lib.hid (hv)
  clear hw1 hw2 hsz w1 hv
  go_enter Tryz.func175, Tryz.ntmps175
  go_wp2_with (go_at_call 155; refine (peachones_any b (w.heap.size + 1) _ (by rw [HW.out]; exact HI.out)).mono ?_; rintro e w3 ⟨rfl, hi3, hb3⟩; rw [HV.out] at hi3; have cC := cell_of_one hi3)
  go_ret
  refine ⟨rfl, HB.out.trans (Below.mono ?_ (Nat.le_succ _))⟩
  rw [← HW.out]
  exact hb3
set_option linter.unusedVariables false
open Go.ChangeShapes Go.WideShapes Go.ChangeAt Go.RowKit

set_option maxRecDepth 100000 in
set_option maxHeartbeats 1600000 in
theorem pguarded_any (n : Nat) (b : B5) (hn : n < 16) (hb : gB n = b) (w : World) : Calls Tryz.prog 157 #[.int .i64 (n : Int)] w fun e w' => e = .returned (.agg #[.bool b.b0, .bool b.b1, .bool b.b2, .bool b.b3, .bool b.b4]) ∧ Below w.heap.size w w' := by
  obtain ⟨d, hd⟩ : ∃ d, upB n 5 = d := ⟨_, rfl⟩
  obtain ⟨k, hk⟩ : ∃ k, cntUp d 5 = k := ⟨_, rfl⟩
  have hk5 : k ≤ 5 := by rw [← hk]; exact cntUp_le d 5
  obtain ⟨w1, hw1⟩ : ∃ w1, w1 = w.alloc (.cells #[.bool false, .bool false, .bool false, .bool false, .bool false] 127) := ⟨_, rfl⟩
  have HB : Hid (Below w.heap.size w w1) := Lib.hid (by rw [hw1]; exact below_lit w _ _)
  have HR : Hid (BBox w1 w.heap.size noB) := Lib.hid (by rw [hw1]; exact BBox.new w noB)
  have HW : Hid (w.alloc (.cells #[.bool false, .bool false, .bool false, .bool false, .bool false] 127) = w1) := Lib.hid hw1.symm
  have hsz1 : w.heap.size < w1.heap.size := HR.out.lt
  have HS1 := Lib.hid hsz1
  have HD := Lib.hid hd
  have HK := Lib.hid hk
  have HN := Lib.hid hn
  have HG : Hid (setB d (k % 2 == 0) 4 = b) := Lib.hid (by rw [← hb, gB, hd, hk])
  clear hw1 hsz1 hd hk hn hb
  cases q : ((k : Int) % 2 == 0)
  case false =>
    have HQ : Hid (setB d _ 4 = b) := Lib.hid (show setB d (decide ((k : Int) % 2 = 0)) 4 = b by rw [← HG.out]; congr 1; rw [Bool.eq_iff_iff]; simp; omega)
    have hq2 : decide ((k : Int) % 2 = 0) = _ := q
    rw [hq2] at HQ
    clear hq2
    go_enter Tryz.func157, Tryz.ntmps157
    go_wp2_with (first
      | (go_at_call 136; rw [HW.out]; refine (psplit_any n d (Nat.lt_trans HN.out (by decide)) HD.out _).mono ?_; rintro e w2 ⟨rfl, hb2⟩; have HX2 := BBox.new w2 d; have hr2 := (HR.out.next hb2).next (below_lit w2 #[.bool d.b0, .bool d.b1, .bool d.b2, .bool d.b3, .bool d.b4] 127); obtain ⟨c0, c1, c2, c3, c4⟩ := HX2.cells)
      | (go_at_call 175; refine (pones_any d k (by rw [HK.out]) _).mono ?_; rintro e w4 ⟨rfl, hb4⟩; clear c0 c1 c2 c3 c4; have HX4 := HX2.next hb4; have hne : w.heap.size ≠ w2.heap.size := (by have := HS1.out; have := hb2.size; omega); have f4 := HX4.frozen 4; have s4 := HX4.get 4 (by decide); have HX5 := HX4.set false 4 (by decide); rw [HQ.out] at HX5; have hr5 := (hr2.next hb4).setAt (.bool false) (j := 4) hne; obtain ⟨c0, c1, c2, c3, c4⟩ := HX5.cells)
      | ((with_reducible refine at_store 2 ?_); refine wpList_store_named (o := ⟨none, .store 127 (.tmp 2) (.tmp 11), _, _, _, _⟩) rfl 127 (.tmp 2) (.tmp 11) rfl w.heap.size #[.bool b.b0, .bool b.b1, .bool b.b2, .bool b.b3, .bool b.b4] rfl rfl 127 #[.bool false, .bool false, .bool false, .bool false, .bool false] hr5 infoB5 rfl (b5_one _ _ _ _ _) ?_; intro w6 hw6))
    have hr6 := setRow_heap (w4.setCell ⟨w2.heap.size, 4, none⟩ (.bool false)) w.heap.size #[.bool false, .bool false, .bool false, .bool false, .bool false] #[.bool b.b0, .bool b.b1, .bool b.b2, .bool b.b3, .bool b.b4] 127 (0, 0) hr5
    rw [← hw6.out] at hr6
    have hb6 := below_row hw6.out (Nat.le_refl w.heap.size)
    have hle1 := HS1.out
    have hle2 := hb2.size
    have hal := below_lit w2 #[.bool d.b0, .bool d.b1, .bool d.b2, .bool d.b3, .bool d.b4] 127
    have h1 := (HB.out.trans (hb2.mono (Nat.le_of_lt hle1))).trans (hal.mono (by omega))
    have h2 := (h1.trans (hb4.mono (by have := hal.size; omega))).setCell (p := ⟨w2.heap.size, 4, none⟩) (by show w.heap.size ≤ w2.heap.size; omega) (.bool false)
    refine bodyPost_ret (results_row Tryz.results157 _ w6 w.heap.size 127 #[.bool b.b0, .bool b.b1, .bool b.b2, .bool b.b3, .bool b.b4] (0, 0) _ rfl hr6 Tryz.underlying127 rfl infoB5) rfl ⟨rfl, h2.trans hb6⟩
  case true =>
    have HQ : Hid (setB d _ 4 = b) := Lib.hid (show setB d (decide ((k : Int) % 2 = 0)) 4 = b by rw [← HG.out]; congr 1; rw [Bool.eq_iff_iff]; simp; omega)
    have hq2 : decide ((k : Int) % 2 = 0) = _ := q
    rw [hq2] at HQ
    clear hq2
    go_enter Tryz.func157, Tryz.ntmps157
    go_wp2_with (first
      | (go_at_call 136; rw [HW.out]; refine (psplit_any n d (Nat.lt_trans HN.out (by decide)) HD.out _).mono ?_; rintro e w2 ⟨rfl, hb2⟩; have HX2 := BBox.new w2 d; have hr2 := (HR.out.next hb2).next (below_lit w2 #[.bool d.b0, .bool d.b1, .bool d.b2, .bool d.b3, .bool d.b4] 127); obtain ⟨c0, c1, c2, c3, c4⟩ := HX2.cells)
      | (go_at_call 175; refine (pones_any d k (by rw [HK.out]) _).mono ?_; rintro e w4 ⟨rfl, hb4⟩; clear c0 c1 c2 c3 c4; have HX4 := HX2.next hb4; have hne : w.heap.size ≠ w2.heap.size := (by have := HS1.out; have := hb2.size; omega); have f4 := HX4.frozen 4; have s4 := HX4.get 4 (by decide); have HX5 := HX4.set true 4 (by decide); rw [HQ.out] at HX5; have hr5 := (hr2.next hb4).setAt (.bool true) (j := 4) hne; obtain ⟨c0, c1, c2, c3, c4⟩ := HX5.cells)
      | ((with_reducible refine at_store 2 ?_); refine wpList_store_named (o := ⟨none, .store 127 (.tmp 2) (.tmp 11), _, _, _, _⟩) rfl 127 (.tmp 2) (.tmp 11) rfl w.heap.size #[.bool b.b0, .bool b.b1, .bool b.b2, .bool b.b3, .bool b.b4] rfl rfl 127 #[.bool false, .bool false, .bool false, .bool false, .bool false] hr5 infoB5 rfl (b5_one _ _ _ _ _) ?_; intro w6 hw6))
    have hr6 := setRow_heap (w4.setCell ⟨w2.heap.size, 4, none⟩ (.bool true)) w.heap.size #[.bool false, .bool false, .bool false, .bool false, .bool false] #[.bool b.b0, .bool b.b1, .bool b.b2, .bool b.b3, .bool b.b4] 127 (0, 0) hr5
    rw [← hw6.out] at hr6
    have hb6 := below_row hw6.out (Nat.le_refl w.heap.size)
    have hle1 := HS1.out
    have hle2 := hb2.size
    have hal := below_lit w2 #[.bool d.b0, .bool d.b1, .bool d.b2, .bool d.b3, .bool d.b4] 127
    have h1 := (HB.out.trans (hb2.mono (Nat.le_of_lt hle1))).trans (hal.mono (by omega))
    have h2 := (h1.trans (hb4.mono (by have := hal.size; omega))).setCell (p := ⟨w2.heap.size, 4, none⟩) (by show w.heap.size ≤ w2.heap.size; omega) (.bool true)
    refine bodyPost_ret (results_row Tryz.results157 _ w6 w.heap.size 127 #[.bool b.b0, .bool b.b1, .bool b.b2, .bool b.b3, .bool b.b4] (0, 0) _ rfl hr6 Tryz.underlying127 rfl infoB5) rfl ⟨rfl, h2.trans hb6⟩
set_option linter.unusedVariables false
open Go.ChangeShapes Go.WideShapes Go.ChangeAt Go.RowKit

set_option maxRecDepth 100000 in
set_option maxHeartbeats 1600000 in
theorem pchar_any (v x E : Int) (hv : charV v = x) (hE : charE v = E) (w : World) : Calls Tryz.prog 124 #[.int .i64 v] w fun e w' => e = .returned (.tuple #[.int .i64 x, .int .i64 E]) ∧ Below w.heap.size w w' := by
  cases h : isV v with
  | false =>
    have e1 : x = 0 := by rw [← hv, charV, h]; rfl
    have e2 : E = 1 := by rw [← hE, charE, h]; rfl
    subst e1 e2
    have HV := Lib.hid h
    clear hv hE h
    go_enter Tryz.func124, Tryz.ntmps124
    go_wp2_with (go_at_call 137; refine (pisvalue_any v false HV.out _).mono ?_; rintro e w1 ⟨rfl, rfl⟩)
    go_ret2
    exact ⟨rfl, Below.refl _ _⟩
  | true =>
    have hs := (isV_iff v).1 h
    obtain ⟨n, hn⟩ : ∃ n : Nat, v = (n : Int) := ⟨v.toNat, by omega⟩
    subst hn
    have e2 : E = 0 := by rw [← hE, charE, h]; rfl
    subst e2
    have HN := Lib.hid (show n < 16 by omega)
    obtain ⟨b, hb⟩ : ∃ b, gB n = b := ⟨_, rfl⟩
    have HB := Lib.hid hb
    have HO : Hid (ofB b = x) := Lib.hid (by rw [← hb, gB_char n HN.out, hv])
    have HV := Lib.hid h
    clear hv hE h hs hb
    go_enter Tryz.func124, Tryz.ntmps124
    go_wp2_with (first
      | (go_at_call 137; refine (pisvalue_any n true HV.out _).mono ?_; rintro e w1 ⟨rfl, rfl⟩)
      | (go_at_call 157; refine (pguarded_any n b HN.out HB.out _).mono ?_; rintro e w2 ⟨rfl, hb2⟩)
      | (go_at_call 123; refine (pof_any b x HO.out _).mono ?_; rintro e w3 ⟨rfl, hb3⟩))
    go_ret2
    exact ⟨rfl, hb2.trans (hb3.mono hb2.size)⟩
set_option maxRecDepth 100000 in
set_option maxHeartbeats 1600000 in
theorem pbits_any (c : Int) (b : B5) (E : Int) (hb : bitsB c = b) (hE : bitsE c = E) (w : World) : Calls Tryz.prog 98 #[.int .i64 c] w fun e w' => e = .returned (.tuple #[.agg #[.bool b.b0, .bool b.b1, .bool b.b2, .bool b.b3, .bool b.b4], .int .i64 E]) ∧ Below w.heap.size w w' := by
  obtain ⟨w1, hw1⟩ : ∃ w1, w1 = w.alloc (.cells #[.bool false, .bool false, .bool false, .bool false, .bool false] 127) := ⟨_, rfl⟩
  have HB : Hid (Below w.heap.size w w1) := Lib.hid (by rw [hw1]; exact below_lit w _ _)
  have HR : Hid (BBox w1 w.heap.size noB) := Lib.hid (by rw [hw1]; exact BBox.new w noB)
  have HW : Hid (w.alloc (.cells #[.bool false, .bool false, .bool false, .bool false, .bool false] 127) = w1) := Lib.hid hw1.symm
  clear hw1
  cases h : isC c with
  | false =>
    have e1 : b = noB := by rw [← hb, bitsB, h]; rfl
    have e2 : E = 1 := by rw [← hE, bitsE, h]; rfl
    subst e1 e2
    clear hb hE
    cases q1 : decide (c < 0)
    case true =>
      clear h
      go_enter Tryz.func98, Tryz.ntmps98
      go_wp2_with ((with_reducible refine at_store 2 ?_); (try rw [HW.out]); refine wpList_store_named (o := ⟨none, .store 127 (.tmp 2) (.tmp 10), _, _, _, _⟩) rfl 127 (.tmp 2) (.tmp 10) rfl w.heap.size #[.bool false, .bool false, .bool false, .bool false, .bool false] rfl rfl 127 #[.bool false, .bool false, .bool false, .bool false, .bool false] HR.out infoB5 rfl (b5_one false false false false false) ?_; intro w6 hw6)
      have hr6 := setRow_heap w1 w.heap.size #[.bool false, .bool false, .bool false, .bool false, .bool false] #[.bool false, .bool false, .bool false, .bool false, .bool false] 127 (0, 0) HR.out
      rw [← hw6.out] at hr6
      have hb6 := below_row hw6.out (Nat.le_refl w.heap.size)
      refine bodyPost_ret (results_row_tmp' Tryz.results98 _ w6 w.heap.size 127 #[.bool false, .bool false, .bool false, .bool false, .bool false] (0, 0) _ rfl hr6 Tryz.underlying127 rfl infoB5) rfl ⟨rfl, HB.out.trans hb6⟩
    case false =>
      have q2 : decide (32 ≤ c) = true := by
        rw [decide_eq_false_iff_not] at q1
        refine decide_eq_true ?_
        rcases Int.lt_or_le 31 c with h1 | h1
        · omega
        · rw [(isC_iff c).2 ⟨by omega, h1⟩] at h; cases h
      clear h
      go_enter Tryz.func98, Tryz.ntmps98
      go_wp2_with ((with_reducible refine at_store 2 ?_); (try rw [HW.out]); refine wpList_store_named (o := ⟨none, .store 127 (.tmp 2) (.tmp 10), _, _, _, _⟩) rfl 127 (.tmp 2) (.tmp 10) rfl w.heap.size #[.bool false, .bool false, .bool false, .bool false, .bool false] rfl rfl 127 #[.bool false, .bool false, .bool false, .bool false, .bool false] HR.out infoB5 rfl (b5_one false false false false false) ?_; intro w6 hw6)
      have hr6 := setRow_heap w1 w.heap.size #[.bool false, .bool false, .bool false, .bool false, .bool false] #[.bool false, .bool false, .bool false, .bool false, .bool false] 127 (0, 0) HR.out
      rw [← hw6.out] at hr6
      have hb6 := below_row hw6.out (Nat.le_refl w.heap.size)
      refine bodyPost_ret (results_row_tmp' Tryz.results98 _ w6 w.heap.size 127 #[.bool false, .bool false, .bool false, .bool false, .bool false] (0, 0) _ rfl hr6 Tryz.underlying127 rfl infoB5) rfl ⟨rfl, HB.out.trans hb6⟩
  | true =>
    have hs := (isC_iff c).1 h
    have q1 : decide (c < 0) = false := decide_eq_false (by omega)
    have q2 : decide (32 ≤ c) = false := decide_eq_false (by omega)
    have e2 : E = 0 := by rw [← hE, bitsE, if_pos h]
    have hbb := (upB_all h).trans hb
    obtain ⟨n, hn⟩ : ∃ n : Nat, c = (n : Int) := ⟨c.toNat, by omega⟩
    subst hn e2
    have ht : (n : Int).toNat = n := by omega
    rw [ht] at hbb
    have HBB := Lib.hid hbb
    have HN := Lib.hid (show n < 32 by omega)
    clear hb hE h hs hbb ht
    go_enter Tryz.func98, Tryz.ntmps98
    go_wp2_with (first
      | (go_at_call 136; rw [HW.out]; refine (psplit_any n b HN.out HBB.out _).mono ?_; rintro e w2 ⟨rfl, hb2⟩; have hr2 := HR.out.next hb2)
      | ((with_reducible refine at_store 2 ?_); refine wpList_store_named (o := ⟨none, .store 127 (.tmp 2) (.tmp 12), _, _, _, _⟩) rfl 127 (.tmp 2) (.tmp 12) rfl w.heap.size #[.bool b.b0, .bool b.b1, .bool b.b2, .bool b.b3, .bool b.b4] rfl rfl 127 #[.bool false, .bool false, .bool false, .bool false, .bool false] hr2 infoB5 rfl (b5_one _ _ _ _ _) ?_; intro w6 hw6))
    have hr6 := setRow_heap w2 w.heap.size #[.bool false, .bool false, .bool false, .bool false, .bool false] #[.bool b.b0, .bool b.b1, .bool b.b2, .bool b.b3, .bool b.b4] 127 (0, 0) hr2
    rw [← hw6.out] at hr6
    have hb6 := below_row hw6.out (Nat.le_refl w.heap.size)
    refine bodyPost_ret (results_row_tmp' Tryz.results98 _ w6 w.heap.size 127 #[.bool b.b0, .bool b.b1, .bool b.b2, .bool b.b3, .bool b.b4] (0, 0) _ rfl hr6 Tryz.underlying127 rfl infoB5) rfl ⟨rfl, (HB.out.trans (hb2.mono HB.out.size)).trans hb6⟩
set_option linter.unusedVariables false
open Go.ChangeShapes Go.WideShapes Go.ChangeAt Go.RowKit

set_option maxRecDepth 100000 in
set_option maxHeartbeats 1600000 in
theorem psum_any (l : List Int) (n : Nat) (hn : n = l.length) (A : Option Addr) (c : Nat) (x E : Int) (hv : sumV l = x) (hE : sumE l = E) (w : World) (hA : Zs w w.heap.size l A c) : Calls Tryz.prog 99 #[.slice A n c] w fun e w' => e = .returned (.tuple #[.int .i64 x, .int .i64 E]) ∧ w' = w := by
  have HN := Lib.hid hn
  have HV := Lib.hid hv
  have HE := Lib.hid hE
  have HA := Lib.hid hA
  have hc := hA.cap
  have hlc := hA.len
  have hn3 : n ≤ 9223372036854775807 := by omega
  clear hn hv hE hA hc hlc
  go_enter Tryz.func99, Tryz.ntmps99
  go_wp2
  go_loop [4, 9] (fun s i => ∃ k : Nat, k ≤ n ∧ i = .int .i64 k ∧ s = .int .i64 (sumX (l.take k) : Nat) ∧ sumOk (l.take k) = true) (fun _ i => n - (intOf i).toNat)
  case atStart => exact ⟨0, by omega, rfl, rfl, rfl⟩
  case round =>
    obtain ⟨k, hk, rfl, rfl, hok⟩ := hrel
    have HO := Lib.hid hok
    clear hok
    by_cases hlt : k < n
    · have hkl : k < l.length := by rw [← HN.out]; exact hlt
      obtain ⟨z, hz⟩ : ∃ z, l[k]? = some z := ⟨_, List.getElem?_eq_getElem hkl⟩
      obtain ⟨ad, rfl, hadl, hc⟩ := HA.out.at hz
      have b1 : (k : Int) < (n : Int) := by omega
      have b0 : (0 : Int) ≤ (k : Int) := by omega
      have HZ := Lib.hid hz
      clear hz hkl hadl
      cases hvz : isV z
      case true =>
        obtain ⟨m, hm⟩ : ∃ m : Nat, z = (m : Int) := ⟨z.toNat, by have := (isV_iff z).1 hvz; omega⟩
        have hx : bits BinOp.xor IntKind.i64 ((sumX (l.take k) : Nat) : Int) z = ((sumX (l.take (k + 1)) : Nat) : Int) := by
          rw [sumX_take HZ.out, hm]
          exact xor_small _ (sumX_lt _ HO.out) m (by have := (isV_iff z).1 hvz; omega)
        have HS := Lib.hid hx
        have HO2 := Lib.hid (show sumOk (l.take (k + 1)) = true by rw [sumOk_take HZ.out, HO.out, hvz]; rfl)
        have HV2 := Lib.hid hvz
        clear hlt hm hx hvz
        go_wp2_with (go_at_call 137; refine (pisvalue_any z true HV2.out _).mono ?_; rintro e w1 ⟨rfl, rfl⟩)
        case roundEnd => exact ⟨⟨k + 1, by omega, by go_num, by rw [HS.out], HO2.out⟩, by simp [intOf]; omega⟩
      case false =>
        have hb := hvz
        have HV2 := Lib.hid hvz
        have hs := sum_bad HZ.out hb
        have e1 : x = 0 := by rw [← HV.out, sumV, hs]; rfl
        have e2 : E = 1 := by rw [← HE.out, sumE, hs]; rfl
        subst e1 e2
        clear hb hs hvz
        go_wp2_with (go_at_call 137; refine (pisvalue_any z false HV2.out _).mono ?_; rintro e w1 ⟨rfl, rfl⟩)
        go_ret2
        exact ⟨rfl, rfl⟩
    · have e : k = n := by omega
      have ht : l.take k = l := by rw [e, HN.out]; exact List.take_length
      have hs : sumOk l = true := by have := HO.out; rwa [ht] at this
      have e1 : ((sumX l : Nat) : Int) = x := by rw [← HV.out, sumV, if_pos hs]
      have e2 : E = 0 := by rw [← HE.out, sumE, if_pos hs]
      subst e2
      have hnb : ¬ ((k : Int) < (n : Int)) := by omega
      rw [ht, e1]
      clear ht hs e1 hlt e
      go_wp2
      go_ret2
      exact ⟨rfl, rfl⟩
set_option linter.unusedVariables false
open Go.ChangeShapes Go.WideShapes Go.ChangeAt Go.RowKit

section
variable {P : Program} (w : World)
end
theorem sizeRunBool (w : World) : (sizeOf 4).run Tryz.prog w = .ok 1 w := by kernel_rfl
set_option linter.unusedVariables false
open Go.ChangeShapes Go.WideShapes Go.ChangeAt Go.RowKit

section
variable {P : Program} (w : World)
theorem run_equalIn_bools2 (d : Nat) (t e : TypeId) (n : Nat) (ht : P.underlying t = some (.array n e)) (he : P.underlying e = some .bool) (hsz : ∀ w, (sizeOf e).run P w = .ok 1 w)
    (xs ys : List Bool) (hx : xs.length = n) (hy : ys.length = n) :
    (Op.equalIn (d + 2) t (.agg (xs.map Value.bool).toArray) (.agg (ys.map Value.bool).toArray)).run P w = .ok (decide (∀ i ∈ List.range' 0 n 1, xs.getD i false = ys.getD i false)) w := by
  rw [Op.equalIn]
  simp only [Sem.run_bind, run_underlying ht, Result.andThen_ok, hsz, Std.Legacy.Range.forIn_eq_forIn_range', Std.Legacy.Range.size, Nat.sub_zero, Nat.add_sub_cancel, Nat.div_one]
  have hl : ∀ i ∈ List.range' 0 n 1, i < n := fun i hi => by simpa using (List.mem_range'_1.1 hi).2
  generalize List.range' 0 n 1 = l at hl ⊢
  induction l with
  | nil => simp
  | cons i l ih =>
    have hi : i < n := hl i (by simp)
    have px : (part e (xs.map Value.bool).toArray (i * 1)).run P w = .ok (.bool (xs.getD i false)) w := by
      simp [part, isAgg, run_underlying he, List.getD, List.getElem?_eq_getElem (show i < xs.length by omega)]
    have py : (part e (ys.map Value.bool).toArray (i * 1)).run P w = .ok (.bool (ys.getD i false)) w := by
      simp [part, isAgg, run_underlying he, List.getD, List.getElem?_eq_getElem (show i < ys.length by omega)]
    have pe := run_equalIn_bool w d e (xs.getD i false) (ys.getD i false) he
    simp only [List.forIn_cons, Sem.run_bind, px, py, pe, Result.andThen_ok]
    by_cases hxy : xs.getD i false = ys.getD i false
    · have hb : (xs.getD i false == ys.getD i false) = true := by rw [beq_iff_eq]; exact hxy
      rw [hb]
      simp only [Bool.not_true, Bool.false_eq_true, if_false, Sem.run_pure, Result.andThen_ok]
      rw [ih fun j hj => hl j (by simp [hj])]
      congr 1
      rw [decide_eq_decide]
      simp only [List.forall_mem_cons]
      exact ⟨fun h => ⟨hxy, h⟩, fun h => h.2⟩
    · have hb : (xs.getD i false == ys.getD i false) = false := by rw [beq_eq_false_iff_ne]; exact hxy
      rw [hb]
      have hf : decide (∀ j ∈ i :: l, xs.getD j false = ys.getD j false) = false := by
        rw [decide_eq_false_iff_not]
        intro h
        exact hxy (h i (by simp))
      rw [hf]
      simp
end
theorem b5_all (b g : B5) : decide (∀ i ∈ List.range' 0 5 1, [b.b0, b.b1, b.b2, b.b3, b.b4].getD i false = [g.b0, g.b1, g.b2, g.b3, g.b4].getD i false) = decide (b = g) := by
  rw [decide_eq_decide]
  obtain ⟨b0, b1, b2, b3, b4⟩ := b
  obtain ⟨g0, g1, g2, g3, g4⟩ := g
  constructor
  · intro h
    have h0 := h 0 (by decide)
    have h1 := h 1 (by decide)
    have h2 := h 2 (by decide)
    have h3 := h 3 (by decide)
    have h4 := h 4 (by decide)
    simp at h0 h1 h2 h3 h4
    rw [h0, h1, h2, h3, h4]
  · intro h
    rw [h]
    intro i _
    rfl
theorem b5_equal (b g : B5) (w : World) : (Op.equalIn 10000 127 (.agg #[.bool b.b0, .bool b.b1, .bool b.b2, .bool b.b3, .bool b.b4]) (.agg #[.bool g.b0, .bool g.b1, .bool g.b2, .bool g.b3, .bool g.b4])).run Tryz.prog w = .ok (decide (b = g)) w := by
  rw [← b5_all b g]
  exact run_equalIn_bools2 w 9998 127 4 5 Tryz.underlying127 Tryz.underlying4 sizeRunBool [b.b0, b.b1, b.b2, b.b3, b.b4] [g.b0, g.b1, g.b2, g.b3, g.b4] rfl rfl
set_option linter.unusedVariables false
open Go.ChangeShapes Go.WideShapes Go.ChangeAt Go.RowKit

set_option maxRecDepth 100000 in
set_option maxHeartbeats 1600000 in
theorem pvalue_any (c x E : Int) (hv : valV c = x) (hE : valE c = E) (w : World) : Calls Tryz.prog 125 #[.int .i64 c] w fun e w' => e = .returned (.tuple #[.int .i64 x, .int .i64 E]) ∧ Below w.heap.size w w' := by
  cases h : isC c with
  | false =>
    have e1 : x = 0 := by rw [← hv, valV, h]; rfl
    have e2 : E = 1 := by rw [← hE, valE, h]; rfl
    subst e1 e2
    have HB : Hid (bitsB c = noB) := Lib.hid (by rw [bitsB, h]; rfl)
    have HE : Hid (bitsE c = 1) := Lib.hid (by rw [bitsE, h]; rfl)
    clear hv hE h
    go_enter Tryz.func125, Tryz.ntmps125
    go_wp2_with (go_at_call 98; refine (pbits_any c noB 1 HB.out HE.out _).mono ?_; rintro e w1 ⟨rfl, hb1⟩)
    go_ret2
    exact ⟨rfl, hb1.trans ((below_lit w1 #[.bool noB.b0, .bool noB.b1, .bool noB.b2, .bool noB.b3, .bool noB.b4] 127).mono hb1.size)⟩
  | true =>
    have hs := (isC_iff c).1 h
    obtain ⟨n, hn⟩ : ∃ n : Nat, c = (n : Int) := ⟨c.toNat, by omega⟩
    subst hn
    have ht : (n : Int).toNat = n := by omega
    have hn32 : n < 32 := by omega
    obtain ⟨b, hb⟩ : ∃ b, upB n 5 = b := ⟨_, rfl⟩
    obtain ⟨g, hg⟩ : ∃ g, gB (n % 16) = g := ⟨_, rfl⟩
    obtain ⟨m, hm⟩ : ∃ m, n % 16 = m := ⟨_, rfl⟩
    have hm16 : m < 16 := by omega
    have HM : Hid ((n : Int) % 16 = (m : Int)) := Lib.hid (by omega)
    have HM16 := Lib.hid hm16
    have hgm : gB m = g := by rw [← hm]; exact hg
    have HG := Lib.hid hgm
    have HB : Hid (bitsB (n : Int) = b) := Lib.hid (by rw [← upB_all h, ht]; exact hb)
    have HE : Hid (bitsE (n : Int) = 0) := Lib.hid (by rw [bitsE, if_pos h])
    have hvv := gB_value n hn32
    rw [hb, hg] at hvv
    have hne := b5_equal b g
    have hx : (if ones5 n % 2 = 0 then 0 else (m : Int)) = x := by rw [← hv, valV, if_pos h, ht, HM.out]
    have hE2 : (if ones5 n % 2 = 0 then 3 else 0) = E := by rw [← hE, valE, if_pos h, ht]
    have hmod : ((n : Int) % 16) = (m : Int) := HM.out
    have htm : Int.tmod (n : Int) 16 = (m : Int) := by rw [Int.tmod_eq_emod_of_nonneg (by omega)]; exact hmod
    clear hv hE h hs ht hb hg hm hm16 hgm hn32
    by_cases ho : ones5 n % 2 = 0
    · rw [if_pos ho] at hx hE2
      subst hx hE2
      have hdec : decide (b = g) = false := by
        refine decide_eq_false ?_
        rw [hvv]
        omega
      rw [hdec] at hne
      clear hvv ho hdec
      go_enter Tryz.func125, Tryz.ntmps125
      go_wp2_with (go_at_call 98; refine (pbits_any n b 0 HB.out HE.out _).mono ?_; rintro e w1 ⟨rfl, hb1⟩; have HX := BBox.new w1 b; obtain ⟨c0, c1, c2, c3, c4⟩ := HX.cells; have hbl := hb1.trans ((below_lit w1 #[.bool b.b0, .bool b.b1, .bool b.b2, .bool b.b3, .bool b.b4] 127).mono hb1.size))
      have HXd : BBox (w1.alloc (.cells #[.bool b.b0, .bool b.b1, .bool b.b2, .bool b.b3, .bool b.b4] 127)).drew w1.heap.size b := HX
      go_region_with (go_at_call 157; refine (pguarded_any m g HM16.out HG.out _).mono ?_; rintro e w2 ⟨rfl, hb2⟩; have HX2 := HXd.next hb2; obtain ⟨d0, d1, d2, d3, d4⟩ := HX2.cells)
      all_goals go_wp2
      all_goals go_ret2
      all_goals exact ⟨rfl, hbl.drew.trans (hb2.mono hbl.size)⟩
    · rw [if_neg ho] at hx hE2
      subst hx hE2
      have hdec : decide (b = g) = true := by
        refine decide_eq_true ?_
        rw [hvv]
        omega
      rw [hdec] at hne
      clear hvv ho hdec
      go_enter Tryz.func125, Tryz.ntmps125
      go_wp2_with (go_at_call 98; refine (pbits_any n b 0 HB.out HE.out _).mono ?_; rintro e w1 ⟨rfl, hb1⟩; have HX := BBox.new w1 b; obtain ⟨c0, c1, c2, c3, c4⟩ := HX.cells; have hbl := hb1.trans ((below_lit w1 #[.bool b.b0, .bool b.b1, .bool b.b2, .bool b.b3, .bool b.b4] 127).mono hb1.size))
      have HXd : BBox (w1.alloc (.cells #[.bool b.b0, .bool b.b1, .bool b.b2, .bool b.b3, .bool b.b4] 127)).drew w1.heap.size b := HX
      go_region_with (go_at_call 157; refine (pguarded_any m g HM16.out HG.out _).mono ?_; rintro e w2 ⟨rfl, hb2⟩; have HX2 := HXd.next hb2; obtain ⟨d0, d1, d2, d3, d4⟩ := HX2.cells)
      all_goals go_wp2
      all_goals go_ret2
      all_goals exact ⟨rfl, hbl.drew.trans (hb2.mono hbl.size)⟩
end Go.Proofs.YtpniolinndlepaaGreatDoor
