/-
  Plain facts for layer 10 (parity): characters, sums, bits. No memory and no program here.
-/
import Derived.Test.YtjlcaobffhihhaaMath
namespace Go.Proofs.Ytjlcaobffhihhaa

/-- How many of the five lowest bits are 1. -/
def ones5 (n : Nat) : Nat := n % 2 + n / 2 % 2 + n / 4 % 2 + n / 8 % 2 + n / 16 % 2
theorem ones5_step {n : Nat} (h : n < 32) : ones5 n = n % 2 + ones5 (n / 2) := by unfold ones5; omega
theorem ones5_le (n : Nat) : ones5 n ≤ 5 := by unfold ones5; omega
def isV (v : Int) : Bool := decide (0 ≤ v) && decide (v ≤ 15)
def isC (c : Int) : Bool := decide (0 ≤ c) && decide (c ≤ 31)
theorem isV_iff (v : Int) : isV v = true ↔ 0 ≤ v ∧ v ≤ 15 := by simp [isV]
theorem isC_iff (c : Int) : isC c = true ↔ 0 ≤ c ∧ c ≤ 31 := by simp [isC]
def charV (v : Int) : Int := if isV v = true then (if ones5 v.toNat % 2 = 0 then v + 16 else v) else 0
def charE (v : Int) : Int := if isV v = true then 0 else 1
def valV (c : Int) : Int := if isC c = true then (if ones5 c.toNat % 2 = 0 then 0 else c % 16) else 0
def valE (c : Int) : Int := if isC c = true then (if ones5 c.toNat % 2 = 0 then 3 else 0) else 1
/-- Five bits. -/
structure B5 where
  b0 : Bool
  b1 : Bool
  b2 : Bool
  b3 : Bool
  b4 : Bool
deriving DecidableEq
def bitB (n i : Nat) : Bool := n / 2 ^ i % 2 == 1
def noB : B5 := ⟨false, false, false, false, false⟩
def bitsB (c : Int) : B5 := if isC c = true then ⟨bitB c.toNat 0, bitB c.toNat 1, bitB c.toNat 2, bitB c.toNat 3, bitB c.toNat 4⟩ else noB
def bitsE (c : Int) : Int := if isC c = true then 0 else 1
def ofB (b : B5) : Int := ((b.b0.toNat + 2 * b.b1.toNat + 4 * b.b2.toNat + 8 * b.b3.toNat + 16 * b.b4.toNat : Nat) : Int)
def flipB (b : B5) : Nat → B5
  | 0 => { b with b0 := !b.b0 }
  | 1 => { b with b1 := !b.b1 }
  | 2 => { b with b2 := !b.b2 }
  | 3 => { b with b3 := !b.b3 }
  | _ => { b with b4 := !b.b4 }
theorem back_nat : ∀ n : Nat, n < 16 → isC (charV n) = true ∧ valE (charV n) = 0 ∧ valV (charV n) = n := by decide
theorem char_back {v : Int} (h : isV v = true) : isC (charV v) = true ∧ valE (charV v) = 0 ∧ valV (charV v) = v := by
  have h2 := (isV_iff v).1 h
  have e : ((v.toNat : Nat) : Int) = v := by omega
  have := back_nat v.toNat (by omega)
  rw [e] at this
  exact this
theorem of_facts (b : B5) : isC (ofB b) = true ∧ bitsB (ofB b) = b ∧ bitsE (ofB b) = 0 := by
  obtain ⟨b0, b1, b2, b3, b4⟩ := b
  cases b0 <;> cases b1 <;> cases b2 <;> cases b3 <;> cases b4 <;> decide
theorem flip_nat : ∀ n : Nat, n < 16 → ∀ i : Nat, i < 5 → valE (ofB (flipB (bitsB (charV n)) i)) = 3 := by decide
theorem char_flip {v : Int} (h : isV v = true) {i : Nat} (hi : i < 5) : valE (ofB (flipB (bitsB (charV v)) i)) = 3 := by
  have h2 := (isV_iff v).1 h
  have e : ((v.toNat : Nat) : Int) = v := by omega
  have := flip_nat v.toNat (by omega) i hi
  rw [e] at this
  exact this
theorem charE_of (v : Int) : (charE v = 0 ↔ isV v = true) := by unfold charE; split <;> simp_all
/-- Are all of them values? -/
def sumOk (l : List Int) : Bool := l.all isV
def sumX (l : List Int) : Nat := l.foldl (fun n x => n ^^^ x.toNat) 0
def sumV (l : List Int) : Int := if sumOk l = true then (sumX l : Int) else 0
def sumE (l : List Int) : Int := if sumOk l = true then 0 else 1
theorem sumX_snoc (l : List Int) (x : Int) : sumX (l ++ [x]) = sumX l ^^^ x.toNat := by simp [sumX, List.foldl_append]
theorem take_snoc {l : List Int} {k : Nat} {x : Int} (h : l[k]? = some x) : l.take (k + 1) = l.take k ++ [x] := by
  rw [List.take_add_one, h]; rfl
theorem sumX_take {l : List Int} {k : Nat} {x : Int} (h : l[k]? = some x) : sumX (l.take (k + 1)) = sumX (l.take k) ^^^ x.toNat := by rw [take_snoc h, sumX_snoc]
theorem foldl_xor (l : List Int) : ∀ a : Nat, l.foldl (fun n x => n ^^^ x.toNat) a = a ^^^ sumX l := by
  induction l with
  | nil => intro a; simp [sumX]
  | cons y l ih =>
    intro a
    show l.foldl _ (a ^^^ y.toNat) = a ^^^ l.foldl _ (0 ^^^ y.toNat)
    rw [ih, ih, Nat.zero_xor, Nat.xor_assoc]
theorem sumX_cons (y : Int) (l : List Int) : sumX (y :: l) = y.toNat ^^^ sumX l := by
  show l.foldl _ (0 ^^^ y.toNat) = _
  rw [foldl_xor, Nat.zero_xor]
theorem sumX_lt (l : List Int) (h : sumOk l = true) : sumX l < 16 := by
  induction l with
  | nil => decide
  | cons y l ih =>
    rw [sumOk, List.all_cons, Bool.and_eq_true] at h
    rw [sumX_cons]
    have := (isV_iff y).1 h.1
    exact Nat.xor_lt_two_pow (n := 4) (by omega) (ih h.2)
theorem sumX_set (l : List Int) : ∀ (i : Nat) (x v : Int), l[i]? = some x → sumX (l.set i v) ^^^ x.toNat = sumX l ^^^ v.toNat := by
  induction l with
  | nil => intro i x v h; simp at h
  | cons y l ih =>
    intro i x v h
    cases i with
    | zero =>
      simp at h
      subst h
      rw [List.set_cons_zero, sumX_cons, sumX_cons, Nat.xor_comm (v.toNat) (sumX l), Nat.xor_assoc, Nat.xor_comm v.toNat, ← Nat.xor_assoc, Nat.xor_comm (sumX l)]
    | succ i =>
      rw [List.set_cons_succ, sumX_cons, sumX_cons, Nat.xor_assoc, ih i x v (by simpa using h), Nat.xor_assoc]
theorem sumOk_set {l : List Int} (h : sumOk l = true) {i : Nat} {v : Int} (hv : isV v = true) : sumOk (l.set i v) = true := by
  rw [sumOk, List.all_eq_true] at *
  intro x hx
  rcases List.mem_or_eq_of_mem_set hx with h1 | h1
  · exact h x h1
  · rw [h1]; exact hv
theorem xor_left {a b c : Nat} (h : a ^^^ b = a ^^^ c) : b = c := by
  have := congrArg (a ^^^ ·) h
  simp only [← Nat.xor_assoc, Nat.xor_self, Nat.zero_xor] at this
  exact this
theorem sum_tells {l : List Int} (h : sumOk l = true) {i : Nat} {x v : Int} (hx : l[i]? = some x) (hv : isV v = true) : sumX l = sumX (l.set i v) ↔ v = x := by
  have hs := sumX_set l i x v hx
  have hxv := (isV_iff x).1 ((List.all_eq_true.1 h) x (List.mem_of_getElem? hx))
  have hvv := (isV_iff v).1 hv
  constructor
  · intro e
    rw [← e] at hs
    have := xor_left hs
    omega
  · intro e
    subst e
    rw [Nat.xor_comm, Nat.xor_comm (sumX l)] at hs
    exact (xor_left hs).symm
theorem sumOk_take {l : List Int} {k : Nat} {x : Int} (hx : l[k]? = some x) : sumOk (l.take (k + 1)) = (sumOk (l.take k) && isV x) := by
  rw [take_snoc hx, sumOk, sumOk, List.all_append]; simp
end Go.Proofs.Ytjlcaobffhihhaa
