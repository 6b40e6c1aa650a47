/-
  Package sha's smaller functions.
-/
import Derived.Test.YtpniolinndlepaaGreatDoorBase
namespace Go.Proofs.YtpniolinndlepaaGreatDoor

/-- Three turns by exclusive or. -/
def threeN (x i j k : Nat) : Nat := itr i x ^^^ itr j x ^^^ itr k x
/-- Two turns and a move, by exclusive or. -/
def twoN (x i j d : Nat) : Nat := itr i x ^^^ itr j x ^^^ x / d
/-- Of the first n bits: f's where e's is 1, else g's. -/
def pk (e f g : Nat) : Nat → Nat
  | 0 => 0
  | i + 1 => pk e f g i + (if e / 2 ^ i % 2 = 1 then f else g) / 2 ^ i % 2 * 2 ^ i
/-- Of the first n bits: what most of three have. -/
def mj (a b c : Nat) : Nat → Nat
  | 0 => 0
  | i + 1 => mj a b c i + if 2 ≤ a / 2 ^ i % 2 + b / 2 ^ i % 2 + c / 2 ^ i % 2 then 2 ^ i else 0

theorem xor_lt32 {a b : Nat} (ha : a < 4294967296) (hb : b < 4294967296) : a ^^^ b < 4294967296 := Nat.xor_lt_two_pow (n := 32) ha hb
theorem sbit_le (x i : Nat) : x / 2 ^ i % 2 ≤ 1 := by omega
theorem pk_lt (e f g n : Nat) : pk e f g n < 2 ^ n := by
  induction n with
  | zero => simp [pk]
  | succ n ih =>
    have h := sbit_le (if e / 2 ^ n % 2 = 1 then f else g) n
    have h2 : (if e / 2 ^ n % 2 = 1 then f else g) / 2 ^ n % 2 * 2 ^ n ≤ 1 * 2 ^ n := Nat.mul_le_mul_right _ h
    rw [pk, Nat.pow_succ]
    omega
theorem mj_lt (a b c n : Nat) : mj a b c n < 2 ^ n := by
  induction n with
  | zero => simp [mj]
  | succ n ih =>
    rw [mj, Nat.pow_succ]
    split <;> omega

/-- A bit more on top. -/
theorem testBit_top (x b n j : Nat) (hx : x < 2 ^ n) (hb : b ≤ 1) : (x + b * 2 ^ n).testBit j = if j < n then x.testBit j else if j = n then decide (b = 1) else false := by
  rw [Nat.add_comm, Nat.mul_comm, Nat.testBit_two_pow_mul_add b hx j]
  split
  · rfl
  · next h =>
    rcases (show b = 0 ∨ b = 1 by omega) with rfl | rfl
    · simp
    · by_cases e : j = n
      · subst e; simp
      · obtain ⟨k, hk⟩ : ∃ k, j - n = k + 1 := ⟨j - n - 1, by omega⟩
        rw [if_neg e, hk, Nat.testBit_succ]
        simp
theorem bit_test (x i : Nat) : decide (x / 2 ^ i % 2 = 1) = x.testBit i := by
  rw [Nat.testBit_eq_decide_div_mod_eq]

theorem testBit_pk (e f g n j : Nat) : (pk e f g n).testBit j = (decide (j < n) && (if e.testBit j then f.testBit j else g.testBit j)) := by
  induction n with
  | zero => simp [pk]
  | succ n ih =>
    rw [pk, testBit_top _ _ _ _ (pk_lt e f g n) (sbit_le _ _), ih]
    by_cases h : j < n
    · simp [h, show j < n + 1 by omega]
    · rw [if_neg h]
      by_cases h2 : j = n
      · subst h2
        rw [if_pos rfl, bit_test]
        simp only [← bit_test e j]
        by_cases h3 : e / 2 ^ j % 2 = 1 <;> simp [h3]
      · rw [if_neg h2]
        simp [show ¬ j < n + 1 by omega]
theorem testBit_mj (a b c n j : Nat) : (mj a b c n).testBit j = (decide (j < n) && ((a.testBit j && b.testBit j) || (a.testBit j && c.testBit j) || (b.testBit j && c.testBit j))) := by
  induction n with
  | zero => simp [mj]
  | succ n ih =>
    have e : (if 2 ≤ a / 2 ^ n % 2 + b / 2 ^ n % 2 + c / 2 ^ n % 2 then 2 ^ n else 0) = (if 2 ≤ a / 2 ^ n % 2 + b / 2 ^ n % 2 + c / 2 ^ n % 2 then 1 else 0) * 2 ^ n := by split <;> simp
    rw [mj, e, testBit_top _ _ _ _ (mj_lt a b c n) (by split <;> omega), ih]
    by_cases h : j < n
    · simp [h, show j < n + 1 by omega]
    · rw [if_neg h]
      by_cases h2 : j = n
      · subst h2
        rw [if_pos rfl, ← bit_test a j, ← bit_test b j, ← bit_test c j]
        rcases (show a / 2 ^ j % 2 = 0 ∨ a / 2 ^ j % 2 = 1 by omega) with ha | ha <;> rcases (show b / 2 ^ j % 2 = 0 ∨ b / 2 ^ j % 2 = 1 by omega) with hb | hb <;> rcases (show c / 2 ^ j % 2 = 0 ∨ c / 2 ^ j % 2 = 1 by omega) with hc | hc <;> simp [ha, hb, hc]
      · rw [if_neg h2]
        simp [show ¬ j < n + 1 by omega]
set_option linter.unusedVariables false
open Go.ChangeShapes Go.WideShapes Go.ChangeAt Go.RowKit

theorem ret_int {k : IntKind} {a b : Int} (h : a = b) : Ending.returned (.int k a) = .returned (.int k b) := by rw [h]
theorem rot_bits (x : Nat) (n : Int) (hx : x < 4294967296) :
    bits BinOp.or IntKind.u32 ((x : Int) / 2 ^ (n % 32).toNat) ((x : Int) * 2 ^ (32 - n % 32).toNat % 4294967296) = ((itr (n % 32).toNat x : Nat) : Int) := by
  obtain ⟨k, hk⟩ : ∃ k : Nat, k = (n % 32).toNat := ⟨_, rfl⟩
  have e2 : (32 - n % 32).toNat = 32 - k := by omega
  rw [← hk, e2]
  have h1 : (x : Int) / 2 ^ k = ((x / 2 ^ k : Nat) : Int) := by simp
  have h2 : (x : Int) * 2 ^ (32 - k) % 4294967296 = ((x * 2 ^ (32 - k) % 4294967296 : Nat) : Int) := by simp
  rw [h1, h2, u32_or_nat _ _ (Nat.lt_of_le_of_lt (Nat.div_le_self _ _) hx) (Nat.mod_lt _ (by omega)), or_rot x k hx (by omega)]

theorem rot_any (x : Nat) (n : Int) (w : World) (hx : x < 4294967296) (hn0 : -9223372036854775808 ≤ n) (hn1 : n ≤ 9223372036854775807) :
    Calls Tryz.prog 183 #[.int .u32 x, .int .i64 n] w fun e w' => e = .returned (.int .u32 ((itr (n % 32).toNat x : Nat) : Int)) ∧ w = w' := by
  have hx' : (x : Int) ≤ 4294967295 := by omega
  go_enter Tryz.func183, Tryz.ntmps183
  go_wp2
  go_ret
  refine ⟨ret_int ?_, rfl⟩
  exact rot_bits x n hx

theorem stp_one {y : Nat} (h : ((y : Int) % 2 == 1) = true) : (y : Int) / 2 + 2147483648 = ((stp y : Nat) : Int) := by
  simp only [beq_iff_eq] at h
  unfold stp
  omega
theorem stp_zero {y : Nat} (h : ((y : Int) % 2 == 1) = false) : (y : Int) / 2 = ((stp y : Nat) : Int) := by
  simp only [beq_eq_false_iff_ne, ne_eq] at h
  unfold stp
  omega

theorem refrot_any (x : Nat) (n : Int) (w : World) (hx : x < 4294967296) (hn0 : -9223372036854775808 ≤ n) (hn1 : n ≤ 9223372036854775807) :
    Calls Tryz.prog 174 #[.int .u32 x, .int .i64 n] w fun e w' => e = .returned (.int .u32 ((itr (n % 32).toNat x : Nat) : Int)) ∧ w = w' := by
  have ht := Int.tmod_lt_of_pos n (show (0 : Int) < 32 by omega)
  have ht2 := Int.lt_tmod_of_pos n (show (0 : Int) < 32 by omega)
  have hd := Int.mul_tdiv_add_tmod n 32
  have hK0 : ∀ K : Nat, (K : Int) = n.tmod 32 ∨ (K : Int) = n.tmod 32 + 32 ∧ n.tmod 32 < 0 → K < 32 → (n % 32).toNat = K := by intro K h hk; omega
  have HK := Lib.hid hK0
  clear hd hK0
  by_cases hneg : n.tmod 32 < 0
  · obtain ⟨K, hK⟩ : ∃ K : Nat, (K : Int) = n.tmod 32 + 32 := ⟨(n.tmod 32 + 32).toNat, by omega⟩
    have eK := HK.out K (.inr ⟨hK, hneg⟩) (by omega)
    have hK31 : K < 32 := by omega
    rw [eK]
    clear eK HK
    have HK' := Lib.hid hK
    clear hK
    go_enter Tryz.func174, Tryz.ntmps174
    go_wp2
    rw [← HK'.out]
    go_loop [0, 6] (fun y i => ∃ k : Nat, k ≤ K ∧ i = .int .i64 k ∧ y = .int .u32 ((itr k x : Nat) : Int)) (fun _ i => K - (intOf i).toNat)
    case atStart => exact ⟨0, Nat.zero_le _, rfl, rfl⟩
    case round =>
      obtain ⟨k, hk, rfl, rfl⟩ := hrel
      have hlt := itr_lt k hx
      obtain ⟨y, hy⟩ : ∃ y, y = itr k x := ⟨_, rfl⟩
      have HS : Hid (itr (k + 1) x = stp y) := by rw [hy]; rfl
      have HY := Lib.hid hy
      rw [← hy] at hlt ⊢
      clear hy
      go_wp2
      · go_round
        case rel => exact ⟨k + 1, by omega, by go_num, by rw [HS.out, ← stp_one (by assumption)]⟩
        case measure => simp [intOf]; omega
      · go_round
        case rel => exact ⟨k + 1, by omega, by go_num, by rw [HS.out, ← stp_zero (by assumption)]⟩
        case measure => simp [intOf]; omega
      · have hlt : ¬ k < K := by assumption
        have hkk : k = K := by omega
        go_ret
        exact ⟨ret_int (by rw [HY.out, hkk]), rfl⟩
  · obtain ⟨K, hK⟩ : ∃ K : Nat, (K : Int) = n.tmod 32 := ⟨(n.tmod 32).toNat, by omega⟩
    have eK := HK.out K (.inl hK) (by omega)
    have hK31 : K < 32 := by omega
    rw [eK]
    clear eK HK
    have HK' := Lib.hid hK
    clear hK
    have hneg' : 0 ≤ n.tmod 32 := by omega
    go_enter Tryz.func174, Tryz.ntmps174
    go_wp2
    rw [← HK'.out]
    go_loop [0, 6] (fun y i => ∃ k : Nat, k ≤ K ∧ i = .int .i64 k ∧ y = .int .u32 ((itr k x : Nat) : Int)) (fun _ i => K - (intOf i).toNat)
    case atStart => exact ⟨0, Nat.zero_le _, rfl, rfl⟩
    case round =>
      obtain ⟨k, hk, rfl, rfl⟩ := hrel
      have hlt := itr_lt k hx
      obtain ⟨y, hy⟩ : ∃ y, y = itr k x := ⟨_, rfl⟩
      have HS : Hid (itr (k + 1) x = stp y) := by rw [hy]; rfl
      have HY := Lib.hid hy
      rw [← hy] at hlt ⊢
      clear hy
      go_wp2
      · go_round
        case rel => exact ⟨k + 1, by omega, by go_num, by rw [HS.out, ← stp_one (by assumption)]⟩
        case measure => simp [intOf]; omega
      · go_round
        case rel => exact ⟨k + 1, by omega, by go_num, by rw [HS.out, ← stp_zero (by assumption)]⟩
        case measure => simp [intOf]; omega
      · have hlt : ¬ k < K := by assumption
        have hkk : k = K := by omega
        go_ret
        exact ⟨ret_int (by rw [HY.out, hkk]), rfl⟩
set_option linter.unusedVariables false
open Go.ChangeShapes Go.WideShapes Go.ChangeAt Go.RowKit

theorem xor32 (a b : Nat) (ha : a < 4294967296) (hb : b < 4294967296) : bits BinOp.xor IntKind.u32 (a : Int) (b : Int) = ((a ^^^ b : Nat) : Int) := u32_xor_nat a b ha hb

theorem three_any (x : Nat) (i j k : Int) (w : World) (hx : x < 4294967296) (hi0 : 0 ≤ i) (hi : i < 32) (hj0 : 0 ≤ j) (hj : j < 32) (hk0 : 0 ≤ k) (hk : k < 32) :
    Calls Tryz.prog 152 #[.int .u32 x, .int .i64 i, .int .i64 j, .int .i64 k] w fun e w' => e = .returned (.int .u32 ((threeN x i.toNat j.toNat k.toNat : Nat) : Int)) ∧ w = w' := by
  have ei : (i % 32).toNat = i.toNat := by omega
  have ej : (j % 32).toNat = j.toNat := by omega
  have ek : (k % 32).toNat = k.toNat := by omega
  have EI := Lib.hid ei
  have EJ := Lib.hid ej
  have EK := Lib.hid ek
  clear ei ej ek
  have ha := itr_lt i.toNat hx
  have hb := itr_lt j.toNat hx
  have hc := itr_lt k.toNat hx
  go_enter Tryz.func152, Tryz.ntmps152
  go_wp2_with fail
  refine (refrot_any x i _ hx (by omega) (by omega)).mono ?_
  rintro e w' ⟨rfl, rfl⟩
  rw [EI.out]
  go_wp2_with fail
  refine (refrot_any x j _ hx (by omega) (by omega)).mono ?_
  rintro e w' ⟨rfl, rfl⟩
  rw [EJ.out]
  go_wp2_with fail
  refine (refrot_any x k _ hx (by omega) (by omega)).mono ?_
  rintro e w' ⟨rfl, rfl⟩
  rw [EK.out]
  go_wp2_with fail
  go_ret
  refine ⟨ret_int ?_, rfl⟩
  rw [xor32 _ _ ha hb, xor32 _ _ (xor_lt32 ha hb) hc]
  rfl

theorem refrot_small (x : Nat) (n : Int) (W : World) (hx : x < 4294967296) (h0 : 0 ≤ n) (h : n < 32) :
    Calls Tryz.prog 174 #[.int .u32 x, .int .i64 n] W fun e w' => e = .returned (.int .u32 ((itr n.toNat x : Nat) : Int)) ∧ w' = W := by
  have h := refrot_any x n W hx (by omega) (by omega)
  rw [show (n % 32).toNat = n.toNat by omega] at h
  exact h.mono fun _ _ ⟨a, b⟩ => ⟨a, b.symm⟩

theorem two_any (x : Nat) (i j : Int) (d : Nat) (w : World) (hx : x < 4294967296) (hi0 : 0 ≤ i) (hi : i < 32) (hj0 : 0 ≤ j) (hj : j < 32) (hd : 1 ≤ d) (hd2 : d < 4294967296) :
    Calls Tryz.prog 150 #[.int .u32 x, .int .i64 i, .int .i64 j, .int .u32 d] w fun e w' => e = .returned (.int .u32 ((twoN x i.toNat j.toNat d : Nat) : Int)) ∧ ∃ n, w' = w.drewN n := by
  have ha := itr_lt i.toNat hx
  have hb := itr_lt j.toNat hx
  have hq : x / d < 4294967296 := Nat.lt_of_le_of_lt (Nat.div_le_self _ _) hx
  have hd0 : ¬ (d : Int) = 0 := by omega
  go_enter Tryz.func150, Tryz.ntmps150
  go_wp2_with fail
  go_quiet ((go_at_call 174; exact Calls.quiet_of_same (refrot_small _ _ _ hx (by assumption) (by assumption))))
  go_wp2_with fail
  go_ret
  refine ⟨ret_int ?_, _, rfl⟩
  have e : (x : Int) / (d : Int) % 4294967296 = ((x / d : Nat) : Int) := by
    rw [← Int.natCast_ediv]; exact Int.emod_eq_of_lt (Int.natCast_nonneg _) (Int.ofNat_lt.2 hq)
  rw [xor32 _ _ ha hb, e, xor32 _ _ (xor_lt32 ha hb) hq]
  rfl

/-- The bit of a loop that goes through all 32, one place further up each time, and ends at 0. -/
def bitOf (k : Nat) : Nat := if k = 32 then 0 else 2 ^ k
def leftN (n : Nat) : Nat := if n = 0 then 0 else 4294967296 - n
def left (v : Value) : Nat := leftN (intOf v).toNat
theorem left_nat (k : IntKind) (n : Nat) : left (.int k (n : Int)) = leftN n := rfl

theorem bitOf_lt {k : Nat} (h : k < 32) : bitOf k = 2 ^ k := by unfold bitOf; rw [if_neg (by omega)]
theorem pow_le31 {k : Nat} (h : k < 32) : 1 ≤ 2 ^ k ∧ 2 ^ k ≤ 2147483648 := ⟨Nat.one_le_two_pow, Nat.pow_le_pow_right (n := 2) (by omega) (show k ≤ 31 by omega)⟩
theorem bit_next {k : Nat} (h : k < 32) : 2 * ((2 ^ k : Nat) : Int) % 4294967296 = ((bitOf (k + 1) : Nat) : Int) := by
  have e : 2 ^ (k + 1) = 2 * 2 ^ k := by rw [Nat.pow_succ, Nat.mul_comm]
  unfold bitOf
  by_cases h1 : k + 1 = 32
  · have : k = 31 := by omega
    subst this
    decide
  · rw [if_neg h1, e]
    have := (pow_le31 (k := k + 1) (by omega)).2
    omega
theorem left_next {k : Nat} (h : k < 32) : left (.int .u32 ((bitOf (k + 1) : Nat) : Int)) < left (.int .u32 ((2 ^ k : Nat) : Int)) := by
  have hp := pow_le31 h
  have e : 2 ^ (k + 1) = 2 * 2 ^ k := by rw [Nat.pow_succ, Nat.mul_comm]
  rw [left_nat, left_nat]
  unfold leftN bitOf
  by_cases h1 : k + 1 = 32
  · rw [if_pos h1, if_pos rfl, if_neg (by omega)]
    omega
  · rw [if_neg h1, if_neg (by omega), if_neg (by omega)]
    omega

theorem cast_bit (x k : Nat) : (x : Int) / ((2 ^ k : Nat) : Int) % 2 = ((x / 2 ^ k % 2 : Nat) : Int) := by simp

set_option maxRecDepth 20000 in
theorem pick_any (e f g : Nat) (w : World) (he : e < 4294967296) (hf : f < 4294967296) (hg : g < 4294967296) :
    Calls Tryz.prog 153 #[.int .u32 e, .int .u32 f, .int .u32 g] w fun en w' => en = .returned (.int .u32 ((pk e f g 32 : Nat) : Int)) ∧ w = w' := by
  go_enter Tryz.func153, Tryz.ntmps153
  go_wp2
  go_loop [7, 8] (fun o b => ∃ k : Nat, k ≤ 32 ∧ b = .int .u32 ((bitOf k : Nat) : Int) ∧ o = .int .u32 ((pk e f g k : Nat) : Int)) (fun _ b => left b)
  case atStart => exact ⟨0, Nat.zero_le _, rfl, rfl⟩
  case round =>
    obtain ⟨k, hk, rfl, rfl⟩ := hrel
    by_cases hlt : k < 32
    · have hp := pow_le31 hlt
      have hpk := pk_lt e f g k
      have hn := bit_next hlt
      have hl := left_next hlt
      have ce := cast_bit e k
      have cf := cast_bit f k
      have cg := cast_bit g k
      have hs : pk e f g (k + 1) = pk e f g k + (if e / 2 ^ k % 2 = 1 then f / 2 ^ k % 2 else g / 2 ^ k % 2) * 2 ^ k := by rw [pk]; split <;> rfl
      have be := sbit_le e k
      have bf := sbit_le f k
      have bg := sbit_le g k
      rw [bitOf_lt hlt]
      generalize 2 ^ k = p at *
      generalize pk e f g k = y at *
      generalize e / p % 2 = be' at *
      generalize f / p % 2 = bf' at *
      generalize g / p % 2 = bg' at *
      rcases (show be' = 0 ∨ be' = 1 by omega) with rfl | rfl
      · rcases (show bg' = 0 ∨ bg' = 1 by omega) with rfl | rfl
        all_goals
          simp only [Nat.zero_ne_one, if_false, Nat.zero_mul, Nat.one_mul, Nat.add_zero] at hs
          have HS := Lib.hid hs
          have HN := Lib.hid hn
          have HL := Lib.hid hl
          clear hs hn hl
          go_wp2
          go_round
          case rel => exact ⟨k + 1, by omega, by rw [HN.out], by rw [HS.out]; try go_num⟩
          case measure => rw [HN.out]; exact HL.out
      · rcases (show bf' = 0 ∨ bf' = 1 by omega) with rfl | rfl
        all_goals
          simp only [if_true, Nat.zero_mul, Nat.one_mul, Nat.add_zero] at hs
          have HS := Lib.hid hs
          have HN := Lib.hid hn
          have HL := Lib.hid hl
          clear hs hn hl
          go_wp2
          go_round
          case rel => exact ⟨k + 1, by omega, by rw [HN.out], by rw [HS.out]; try go_num⟩
          case measure => rw [HN.out]; exact HL.out
    · have ek : k = 32 := by omega
      subst ek
      have hz : bitOf 32 = 0 := rfl
      go_wp2
      go_ret
      exact ⟨rfl, rfl⟩

set_option maxRecDepth 20000 in
theorem most_any (a b c : Nat) (w : World) (ha : a < 4294967296) (hb : b < 4294967296) (hc : c < 4294967296) :
    Calls Tryz.prog 154 #[.int .u32 a, .int .u32 b, .int .u32 c] w fun en w' => en = .returned (.int .u32 ((mj a b c 32 : Nat) : Int)) ∧ ∃ n, w' = w.drewN n := by
  go_enter Tryz.func154, Tryz.ntmps154
  go_wp2
  go_loopw [7, 8] (fun o b' wr => ∃ k n : Nat, k ≤ 32 ∧ b' = .int .u32 ((bitOf k : Nat) : Int) ∧ o = .int .u32 ((mj a b c k : Nat) : Int) ∧ wr = w.drewN n) (fun _ b' _ => left b')
  case atStart => exact ⟨0, 0, Nat.zero_le _, rfl, rfl, rfl⟩
  case round =>
    obtain ⟨k, n, hk, rfl, rfl, rfl⟩ := hrel
    by_cases hlt : k < 32
    · have hp := pow_le31 hlt
      have hmj := mj_lt a b c k
      have hn := bit_next hlt
      have hl := left_next hlt
      have ca := cast_bit a k
      have cb := cast_bit b k
      have cc := cast_bit c k
      have hs : mj a b c (k + 1) = mj a b c k + if 2 ≤ a / 2 ^ k % 2 + b / 2 ^ k % 2 + c / 2 ^ k % 2 then 2 ^ k else 0 := rfl
      have ba := sbit_le a k
      have bb := sbit_le b k
      have bc := sbit_le c k
      rw [bitOf_lt hlt]
      generalize 2 ^ k = p at *
      generalize mj a b c k = y at *
      generalize a / p % 2 = a' at *
      generalize b / p % 2 = b' at *
      generalize c / p % 2 = c' at *
      have hp0 : ¬ (p : Int) = 0 := by omega
      have HN := Lib.hid hn
      have HL := Lib.hid hl
      clear hn hl
      rcases (show a' = 0 ∨ a' = 1 by omega) with rfl | rfl <;> rcases (show b' = 0 ∨ b' = 1 by omega) with rfl | rfl <;> rcases (show c' = 0 ∨ c' = 1 by omega) with rfl | rfl
      all_goals
        simp only [Nat.reduceAdd, Nat.reduceLeDiff, if_true, if_false, Nat.add_zero] at hs
        have HS := Lib.hid hs
        clear hs
        go_wp2
        go_quiet (fail)
        go_wp2
        go_roundw
        case rel => exact ⟨k + 1, _, by omega, by rw [HN.out], by rw [HS.out]; try go_num, rfl⟩
        case measure => rw [HN.out]; exact HL.out
    · have ek : k = 32 := by omega
      subst ek
      have hz : bitOf 32 = 0 := rfl
      go_wp2
      go_ret
      exact ⟨rfl, _, rfl⟩
set_option linter.unusedVariables false
open Go.ChangeShapes Go.WideShapes Go.ChangeAt Go.RowKit

theorem rot_small (x : Nat) (n : Int) (w : World) (hx : x < 4294967296) (h0 : 0 ≤ n) (h : n < 32) :
    Calls Tryz.prog 183 #[.int .u32 x, .int .i64 n] w fun e w' => e = .returned (.int .u32 ((itr n.toNat x : Nat) : Int)) ∧ w = w' := by
  have h := rot_any x n w hx (by omega) (by omega)
  rw [show (n % 32).toNat = n.toNat by omega] at h
  exact h

theorem stirEarly_any (x : Nat) (w : World) (hx : x < 4294967296) :
    Calls Tryz.prog 168 #[.int .u32 x] w fun e w' => e = .returned (.int .u32 ((twoN x 7 18 8 : Nat) : Int)) ∧ w = w' := by
  have ha := itr_lt 7 hx
  have hb := itr_lt 18 hx
  have hq : x / 8 < 4294967296 := by omega
  go_enter Tryz.func168, Tryz.ntmps168
  go_wp2_with fail
  refine (rot_small x 7 _ hx (by omega) (by omega)).mono ?_
  rintro e w' ⟨rfl, rfl⟩
  go_wp2_with fail
  refine (rot_small x 18 _ hx (by omega) (by omega)).mono ?_
  rintro e w' ⟨rfl, rfl⟩
  go_wp2_with fail
  go_ret
  refine ⟨ret_int ?_, rfl⟩
  rw [show (x : Int) / 8 = ((x / 8 : Nat) : Int) by omega, xor32 _ _ ha hb, xor32 _ _ (xor_lt32 ha hb) hq]
  rfl

theorem stirLate_any (x : Nat) (w : World) (hx : x < 4294967296) :
    Calls Tryz.prog 169 #[.int .u32 x] w fun e w' => e = .returned (.int .u32 ((twoN x 17 19 1024 : Nat) : Int)) ∧ w = w' := by
  have ha := itr_lt 17 hx
  have hb := itr_lt 19 hx
  have hq : x / 1024 < 4294967296 := by omega
  go_enter Tryz.func169, Tryz.ntmps169
  go_wp2_with fail
  refine (rot_small x 17 _ hx (by omega) (by omega)).mono ?_
  rintro e w' ⟨rfl, rfl⟩
  go_wp2_with fail
  refine (rot_small x 19 _ hx (by omega) (by omega)).mono ?_
  rintro e w' ⟨rfl, rfl⟩
  go_wp2_with fail
  go_ret
  refine ⟨ret_int ?_, rfl⟩
  rw [show (x : Int) / 1024 = ((x / 1024 : Nat) : Int) by omega, xor32 _ _ ha hb, xor32 _ _ (xor_lt32 ha hb) hq]
  rfl

theorem turnLow_any (x : Nat) (w : World) (hx : x < 4294967296) :
    Calls Tryz.prog 170 #[.int .u32 x] w fun e w' => e = .returned (.int .u32 ((threeN x 6 11 25 : Nat) : Int)) ∧ w = w' := by
  have ha := itr_lt 6 hx
  have hb := itr_lt 11 hx
  have hc := itr_lt 25 hx
  go_enter Tryz.func170, Tryz.ntmps170
  go_wp2_with fail
  refine (rot_small x 6 _ hx (by omega) (by omega)).mono ?_
  rintro e w' ⟨rfl, rfl⟩
  go_wp2_with fail
  refine (rot_small x 11 _ hx (by omega) (by omega)).mono ?_
  rintro e w' ⟨rfl, rfl⟩
  go_wp2_with fail
  refine (rot_small x 25 _ hx (by omega) (by omega)).mono ?_
  rintro e w' ⟨rfl, rfl⟩
  go_wp2_with fail
  go_ret
  refine ⟨ret_int ?_, rfl⟩
  rw [xor32 _ _ ha hb, xor32 _ _ (xor_lt32 ha hb) hc]
  rfl

theorem turnHigh_any (x : Nat) (w : World) (hx : x < 4294967296) :
    Calls Tryz.prog 172 #[.int .u32 x] w fun e w' => e = .returned (.int .u32 ((threeN x 2 13 22 : Nat) : Int)) ∧ w = w' := by
  have ha := itr_lt 2 hx
  have hb := itr_lt 13 hx
  have hc := itr_lt 22 hx
  go_enter Tryz.func172, Tryz.ntmps172
  go_wp2_with fail
  refine (rot_small x 2 _ hx (by omega) (by omega)).mono ?_
  rintro e w' ⟨rfl, rfl⟩
  go_wp2_with fail
  refine (rot_small x 13 _ hx (by omega) (by omega)).mono ?_
  rintro e w' ⟨rfl, rfl⟩
  go_wp2_with fail
  refine (rot_small x 22 _ hx (by omega) (by omega)).mono ?_
  rintro e w' ⟨rfl, rfl⟩
  go_wp2_with fail
  go_ret
  refine ⟨ret_int ?_, rfl⟩
  rw [xor32 _ _ ha hb, xor32 _ _ (xor_lt32 ha hb) hc]
  rfl

theorem choose_nat (e f g : Nat) (he : e < 4294967296) (hf : f < 4294967296) (hg : g < 4294967296) : (e &&& f) ||| ((4294967295 ^^^ e) &&& g) = pk e f g 32 := by
  apply Nat.eq_of_testBit_eq
  intro j
  rw [testBit_pk, Nat.testBit_or, Nat.testBit_and, Nat.testBit_and, Nat.testBit_xor, show 4294967295 = 2 ^ 32 - 1 by rfl, Nat.testBit_two_pow_sub_one]
  by_cases h : j < 32
  · simp only [h, decide_true, Bool.true_and]
    cases e.testBit j <;> simp
  · have z : ∀ x : Nat, x < 4294967296 → x.testBit j = false := fun x hx => Nat.testBit_lt_two_pow (Nat.lt_of_lt_of_le hx (Nat.pow_le_pow_right (n := 2) (by omega) (show 32 ≤ j by omega)))
    simp [h, z e he, z f hf, z g hg]
theorem most_nat (a b c : Nat) (ha : a < 4294967296) (hb : b < 4294967296) (hc : c < 4294967296) : (a &&& b) ||| (a &&& c) ||| (b &&& c) = mj a b c 32 := by
  apply Nat.eq_of_testBit_eq
  intro j
  rw [testBit_mj]
  simp only [Nat.testBit_or, Nat.testBit_and]
  by_cases h : j < 32
  · simp only [h, decide_true, Bool.true_and]
  · have z : ∀ x : Nat, x < 4294967296 → x.testBit j = false := fun x hx => Nat.testBit_lt_two_pow (Nat.lt_of_lt_of_le hx (Nat.pow_le_pow_right (n := 2) (by omega) (show 32 ≤ j by omega)))
    simp [h, z a ha, z b hb, z c hc]

theorem and_lt32 {a b : Nat} (ha : a < 4294967296) : a &&& b < 4294967296 := Nat.lt_of_le_of_lt Nat.and_le_left ha
theorem or_lt32 {a b : Nat} (ha : a < 4294967296) (hb : b < 4294967296) : a ||| b < 4294967296 := Nat.or_lt_two_pow (n := 32) ha hb

theorem choose_any (e f g : Nat) (w : World) (he : e < 4294967296) (hf : f < 4294967296) (hg : g < 4294967296) :
    Calls Tryz.prog 171 #[.int .u32 e, .int .u32 f, .int .u32 g] w fun en w' => en = .returned (.int .u32 ((pk e f g 32 : Nat) : Int)) ∧ w = w' := by
  go_enter Tryz.func171, Tryz.ntmps171
  go_wp2
  go_ret
  refine ⟨ret_int ?_, rfl⟩
  have hm : IntKind.u32.max = ((4294967295 : Nat) : Int) := rfl
  rw [hm, xor32 _ _ (by omega) he, u32_and_nat _ _ he hf, u32_and_nat _ _ (xor_lt32 (by omega) he) hg, u32_or_nat _ _ (and_lt32 he) (and_lt32 (xor_lt32 (by omega) he)), choose_nat e f g he hf hg]

theorem pmost_any (a b c : Nat) (w : World) (ha : a < 4294967296) (hb : b < 4294967296) (hc : c < 4294967296) :
    Calls Tryz.prog 173 #[.int .u32 a, .int .u32 b, .int .u32 c] w fun en w' => en = .returned (.int .u32 ((mj a b c 32 : Nat) : Int)) ∧ w = w' := by
  go_enter Tryz.func173, Tryz.ntmps173
  go_wp2
  go_ret
  refine ⟨ret_int ?_, rfl⟩
  rw [u32_and_nat _ _ ha hb, u32_and_nat _ _ ha hc, u32_and_nat _ _ hb hc, u32_or_nat _ _ (and_lt32 ha) (and_lt32 ha), u32_or_nat _ _ (or_lt32 (and_lt32 ha) (and_lt32 ha)) (and_lt32 hb), most_nat a b c ha hb hc]

/-- The table of constants. -/
def kTab : List Nat := [1116352408, 1899447441, 3049323471, 3921009573, 961987163, 1508970993, 2453635748, 2870763221, 3624381080, 310598401, 607225278, 1426881987, 1925078388, 2162078206, 2614888103, 3248222580, 3835390401, 4022224774, 264347078, 604807628, 770255983, 1249150122, 1555081692, 1996064986, 2554220882, 2821834349, 2952996808, 3210313671, 3336571891, 3584528711, 113926993, 338241895, 666307205, 773529912, 1294757372, 1396182291, 1695183700, 1986661051, 2177026350, 2456956037, 2730485921, 2820302411, 3259730800, 3345764771, 3516065817, 3600352804, 4094571909, 275423344, 430227734, 506948616, 659060556, 883997877, 958139571, 1322822218, 1537002063, 1747873779, 1955562222, 2024104815, 2227730452, 2361852424, 2428436474, 2756734187, 3204031479, 3329325298]
theorem length_kTab : kTab.length = 64 := rfl
theorem kTab_lt : ∀ x ∈ kTab, x < 4294967296 := by decide

/-- The word of place t, by the words ahead of it. -/
def wNext (w l : List Nat) (t : Nat) : Nat := if t < 16 then w.getD t 0 else (l.getD (t - 16) 0 + twoN (l.getD (t - 15) 0) 7 18 8 + l.getD (t - 7) 0 + twoN (l.getD (t - 2) 0) 17 19 1024) % 4294967296
/-- The first t words of a block. -/
def wl (w : List Nat) : Nat → List Nat
  | 0 => []
  | t + 1 => wl w t ++ [wNext w (wl w t) t]
theorem length_wl (w : List Nat) (t : Nat) : (wl w t).length = t := by
  induction t with
  | zero => rfl
  | succ t ih => simp [wl, ih]
theorem wl_lt (w : List Nat) (hw : ∀ x ∈ w, x < 4294967296) (t : Nat) : ∀ x ∈ wl w t, x < 4294967296 := by
  induction t with
  | zero => intro x hx; simp [wl] at hx
  | succ t ih =>
    intro x hx
    rw [wl, List.mem_append, List.mem_singleton] at hx
    rcases hx with hx | rfl
    · exact ih x hx
    · unfold wNext
      split
      · rw [List.getD_eq_getElem?_getD]
        rcases h : w[t]? with _ | y
        · simp
        · exact hw y (List.mem_of_getElem? h)
      · omega

/-- Eight words. -/
structure St where
  a : Nat
  b : Nat
  c : Nat
  d : Nat
  e : Nat
  f : Nat
  g : Nat
  h : Nat
def St.ok (v : St) : Prop := v.a < 4294967296 ∧ v.b < 4294967296 ∧ v.c < 4294967296 ∧ v.d < 4294967296 ∧ v.e < 4294967296 ∧ v.f < 4294967296 ∧ v.g < 4294967296 ∧ v.h < 4294967296
def St.list (v : St) : List Nat := [v.a, v.b, v.c, v.d, v.e, v.f, v.g, v.h]
def t1N (v : St) (k w : Nat) : Nat := (v.h + threeN v.e 6 11 25 + pk v.e v.f v.g 32 + k + w) % 4294967296
def t2N (v : St) : Nat := (threeN v.a 2 13 22 + mj v.a v.b v.c 32) % 4294967296
/-- One round. -/
def rnd (v : St) (k w : Nat) : St := ⟨(t1N v k w + t2N v) % 4294967296, v.a, v.b, v.c, (v.d + t1N v k w) % 4294967296, v.e, v.f, v.g⟩
def rnds (v : St) (l : List Nat) : Nat → St
  | 0 => v
  | t + 1 => rnd (rnds v l t) (kTab.getD t 0) (l.getD t 0)
/-- The sums of each place. -/
def sumSt (v h : St) : St := ⟨(v.a + h.a) % 4294967296, (v.b + h.b) % 4294967296, (v.c + h.c) % 4294967296, (v.d + h.d) % 4294967296, (v.e + h.e) % 4294967296, (v.f + h.f) % 4294967296, (v.g + h.g) % 4294967296, (v.h + h.h) % 4294967296⟩
def blockN (h : St) (w : List Nat) : St := sumSt (rnds h (wl w 64) 64) h
theorem rnd_ok {v : St} (h : v.ok) (k w : Nat) : (rnd v k w).ok := by
  obtain ⟨h1, h2, h3, h4, h5, h6, h7, h8⟩ := h
  exact ⟨Nat.mod_lt _ (by omega), h1, h2, h3, Nat.mod_lt _ (by omega), h5, h6, h7⟩
theorem rnds_ok {v : St} (h : v.ok) (l : List Nat) (t : Nat) : (rnds v l t).ok := by
  induction t with
  | zero => exact h
  | succ t ih => exact rnd_ok ih _ _
theorem sumSt_ok (v h : St) : (sumSt v h).ok := ⟨Nat.mod_lt _ (by omega), Nat.mod_lt _ (by omega), Nat.mod_lt _ (by omega), Nat.mod_lt _ (by omega), Nat.mod_lt _ (by omega), Nat.mod_lt _ (by omega), Nat.mod_lt _ (by omega), Nat.mod_lt _ (by omega)⟩
theorem St.list_lt {v : St} (h : v.ok) : ∀ x ∈ v.list, x < 4294967296 := by
  obtain ⟨h1, h2, h3, h4, h5, h6, h7, h8⟩ := h
  intro x hx
  simp only [St.list, List.mem_cons, List.not_mem_nil, or_false] at hx
  rcases hx with rfl | rfl | rfl | rfl | rfl | rfl | rfl | rfl <;> assumption
set_option linter.unusedVariables false
open Go.ChangeShapes Go.WideShapes Go.ChangeAt Go.RowKit

def St.val (v : St) : Value := .agg #[.int .u32 v.a, .int .u32 v.b, .int .u32 v.c, .int .u32 v.d, .int .u32 v.e, .int .u32 v.f, .int .u32 v.g, .int .u32 v.h]
/-- The beginning. -/
def beginN : St := ⟨1779033703, 3144134277, 1013904242, 2773480762, 1359893119, 2600822924, 528734635, 1541459225⟩

set_option maxRecDepth 100000 in
theorem consts_any (w : World) : Calls Tryz.prog 151 #[] w fun e w' => ∃ g cap, e = .returned (.slice (some ⟨g, 0, none⟩) 64 cap) ∧ w'.ownsRow w.heap.size 134 1 (.slice (some ⟨g, 0, none⟩) 64 cap) 64 (U32 kTab) ∧ Below w.heap.size w w' := by
  go_enter Tryz.func151, Tryz.ntmps151
  go_wp2
  go_ret
  exact ⟨_, _, rfl, World.ownsRow_lit w (U32 kTab).toArray 64 (Nat.le_refl _) (by decide) rfl, (Below.refl _ _).alloc (Nat.le_refl _) _⟩

set_option maxRecDepth 100000 in
theorem begin_any (w : World) : Calls Tryz.prog 119 #[] w fun e w' => e = .returned beginN.val ∧ Below w.heap.size w w' := by
  go_enter Tryz.func119, Tryz.ntmps119
  go_wp2
  exact bodyPost_ret (v := beginN.val) (by simp [results, Tryz.results119, go_sem, St.val, beginN]) rfl ⟨rfl, (Below.refl _ _).alloc (Nat.le_refl _) _⟩
set_option linter.unusedVariables false
open Go.ChangeShapes Go.WideShapes Go.ChangeAt Go.RowKit

/-- A round, by the sum of its constant and its word. -/
def rndS (v : St) (kw : Nat) : St :=
  ⟨(v.h + threeN v.e 6 11 25 + pk v.e v.f v.g 32 + kw + (threeN v.a 2 13 22 + mj v.a v.b v.c 32)) % 4294967296, v.a, v.b, v.c, (v.d + (v.h + threeN v.e 6 11 25 + pk v.e v.f v.g 32 + kw)) % 4294967296, v.e, v.f, v.g⟩
theorem rndS_eq (v : St) (k w : Nat) : rndS v ((k + w) % 4294967296) = rnd v k w := by
  unfold rndS rnd t1N t2N
  congr 1
  · omega
  · omega
set_option maxRecDepth 100000 in
theorem round_any (V : St) (kw : Nat) (w : World) (hV : V.ok) (hk : kw < 4294967296) :
    Calls Tryz.prog 147 #[V.val, .int .u32 kw] w fun e w' => e = .returned (rndS V kw).val ∧ Below w.heap.size w w' := by
  obtain ⟨ba, bb, bc, bd, be, bf, bg, bh⟩ := hV
  unfold St.val
  go_enter Tryz.func147, Tryz.ntmps147
  go_wp2_with fail
  go_quiet (fail)
  go_wp2_with fail
  refine (turnLow_any _ _ be).mono ?_
  rintro e w' ⟨rfl, rfl⟩
  go_wp2_with fail
  refine (choose_any _ _ _ _ be bf bg).mono ?_
  rintro e w' ⟨rfl, rfl⟩
  go_wp2_with fail
  refine (turnHigh_any _ _ ba).mono ?_
  rintro e w' ⟨rfl, rfl⟩
  go_wp2_with fail
  refine (pmost_any _ _ _ _ ba bb bc).mono ?_
  rintro e w' ⟨rfl, rfl⟩
  go_wp2_with fail
  have ea : ((V.h : Int) + (threeN V.e 6 11 25 : Nat) + (pk V.e V.f V.g 32 : Nat) + (kw : Int) + ((threeN V.a 2 13 22 : Nat) + (mj V.a V.b V.c 32 : Nat))) % 4294967296 = (((rndS V kw).a : Nat) : Int) := by
    show _ = (((_ : Nat) % 4294967296 : Nat) : Int); omega
  have ee : ((V.d : Int) + ((V.h : Int) + (threeN V.e 6 11 25 : Nat) + (pk V.e V.f V.g 32 : Nat) + (kw : Int))) % 4294967296 = (((rndS V kw).e : Nat) : Int) := by
    show _ = (((_ : Nat) % 4294967296 : Nat) : Int); omega
  rw [ea, ee]
  have hle : w.heap.size ≤ w.heap.size + 1 := by omega
  refine bodyPost_ret (v := (rndS V kw).val) (by simp [results, Tryz.results147, go_sem, St.val, rndS]) rfl ⟨rfl, ?_⟩
  exact (((((((((below_drewN (((Below.refl _ _).alloc (Nat.le_refl _) _).alloc (by simp) _) _).setCell hle _).setCell hle _).setCell hle _).setCell hle _).setCell hle _).setCell hle _).setCell hle _).setCell hle _)
end Go.Proofs.YtpniolinndlepaaGreatDoor
