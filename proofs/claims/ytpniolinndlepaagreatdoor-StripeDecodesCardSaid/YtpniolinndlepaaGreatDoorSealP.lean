/-
  Package seal: Cut, Digits, Same.
-/
import Derived.Test.YtpniolinndlepaaGreatDoorBase
import Derived.OneCell
import Derived.StillTailTactics
namespace Go.Proofs.YtpniolinndlepaaGreatDoor
set_option maxRecDepth 100000
set_option linter.unusedVariables false
open Go.ChangeShapes Go.WideShapes Go.ChangeAt Go.RowKit

theorem valB_take (l : List Nat) (k : Nat) (h : k < l.length) : valB (l.take (k + 1)) = valB (l.take k) * 256 + l[k] := by
  rw [List.take_succ_eq_append_getElem h, valB_snoc]
theorem valB_take_lt (l : List Nat) (hl : ∀ x ∈ l, x < 256) (k : Nat) (h : k < 8) : valB (l.take k) < 72057594037927936 := by
  have h1 := valB_lt (l.take k) (fun x hx => hl x (List.mem_of_mem_take hx))
  have h2 : 256 ^ (l.take k).length ≤ 256 ^ 7 := Nat.pow_le_pow_right (by omega) (by simp; omega)
  omega
theorem valB_lt63 (l : List Nat) (hl : ∀ x ∈ l, x < 256) (h8 : l.length ≤ 8) (h0 : l.length = 8 → l.getD 0 0 < 128) : valB l < 9223372036854775808 := by
  rcases l with _ | ⟨x, l⟩
  · simp [valB]
  · have h1 := valB_lt l (fun y hy => hl y (by simp [hy]))
    have h2 := hl x (by simp)
    rw [valB_cons]
    simp at h8 h0
    by_cases e : l.length = 7
    · have := h0 e
      rw [e] at h1 ⊢
      omega
    · have h3 : 256 ^ l.length ≤ 256 ^ 6 := Nat.pow_le_pow_right (by omega) (by omega)
      have h4 : x * 256 ^ l.length ≤ 255 * 256 ^ 6 := Nat.mul_le_mul (by omega) h3
      omega
theorem valB_step_lt (l : List Nat) (hl : ∀ x ∈ l, x < 256) (k : Nat) (h : k < l.length) (h8 : l.length ≤ 8) (h63 : valB l < 9223372036854775808) : valB (l.take k) * 256 + l[k] ≤ 9223372036854775807 := by
  rw [← valB_take l k h]
  by_cases e : k + 1 < 8
  · have := valB_take_lt l hl (k + 1) e
    omega
  · rw [List.take_of_length_le (by omega)]; omega
set_option maxRecDepth 20000 in
theorem refget_ok (l : List Nat) (A : Option Addr) (c B : Nat) (w : World) (hA : Rd w B A (U8 l)) (hb : ∀ x ∈ l, x < 256) (h8 : l.length ≤ 8) (h0 : l.length = 8 → l.getD 0 0 < 128) :
    Calls Tryz.prog 85 #[.slice A l.length c] w fun e w' => e = .returned (.tuple #[.int .i64 (valB l : Nat), .int .i64 0]) ∧ w = w' := by
  have h63 := valB_lt63 l hb h8 h0
  obtain ⟨n, hn⟩ : ∃ n, n = l.length := ⟨_, rfl⟩
  have hn8 : n ≤ 8 := by omega
  have HB := Lib.hid hb
  have hcase : n < 8 ∨ 8 ≤ n ∧ ∃ (ad : Addr) (x : Nat), A = some ad ∧ w.cell? ad = some (.int .u8 (x : Int)) ∧ (x : Int) < 128 := by
    by_cases e8 : n < 8
    · exact .inl e8
    · obtain ⟨ad, rfl, _, hc⟩ := hA 0 _ (U8_at l 0 (by omega))
      have e0 : l.getD 0 0 = l[0] := by rw [List.getD_eq_getElem?_getD, List.getElem?_eq_getElem (by omega)]; rfl
      have := h0 (by omega)
      rw [add_zero'] at hc
      exact .inr ⟨by omega, ad, _, rfl, hc, by omega⟩
  rw [← hn]
  have HN := Lib.hid hn
  have H63 := Lib.hid h63
  clear hn h0 hb h8 h63
  rcases hcase with h | ⟨h, ad0, x0, rfl, hc0, hx0⟩
  all_goals
    go_enter Tryz.func85, Tryz.ntmps85
    go_wp2
    go_loop [4, 5] (fun t i => ∃ k : Nat, k ≤ n ∧ i = .int .i64 k ∧ t = .int .i64 (valB (l.take k) : Nat)) (fun _ i => n - (intOf i).toNat)
    case atStart => exact ⟨0, Nat.zero_le _, rfl, rfl⟩
    case round =>
      obtain ⟨k, hk, rfl, rfl⟩ := hrel
      by_cases hlt : k < n
      · have hkl : k < l.length := by rw [← HN.out]; exact hlt
        obtain ⟨ad, hsome, _, hc⟩ := hA k _ (U8_at l k hkl)
        cases hsome
        have hv := valB_take_lt l HB.out k (by omega)
        have hs := valB_take l k hkl
        have hv2 := valB_step_lt l HB.out k hkl (by rw [← HN.out]; exact hn8) H63.out
        have hx := HB.out _ (List.getElem_mem hkl)
        generalize l[k] = x at *
        generalize valB (l.take k) = y at *
        have HS := Lib.hid hs
        clear hA hkl hs
        go_wp2
        go_round
        case rel => exact ⟨k + 1, by omega, by go_num, by rw [HS.out]; go_num⟩
        case measure => simp [intOf]; omega
      · have e : l.take k = l := List.take_of_length_le (by rw [← HN.out]; omega)
        rw [e]
        clear e
        have h63 := H63.out
        go_wp2
        go_ret2
        exact ⟨rfl, rfl⟩
set_option linter.unusedVariables false
open Go.ChangeShapes Go.WideShapes Go.ChangeAt Go.RowKit

theorem cinfo32 : (Tryz.prog.info? 63).map (·.size) = some 32 := by kernel_rfl
/-- A row of bytes, as a slice of its first cells reads. -/
theorem rd_first {w : World} {g : Nat} {F : Array Value} {l : List Nat} {t : TypeId} (n : Nat) (h : w.heap[g]? = some (.cells F t (0, 0))) (hF : F = (U8 l).toArray) : Rd w w.heap.size (some ⟨g, 0, none⟩) (U8 (l.take n)) := by
  intro k u hu
  refine ⟨_, rfl, (Array.getElem?_eq_some_iff.1 h).1, ?_⟩
  rw [at_add, cell_of_row w _ k _ _ (0, 0) h, hF]
  have hk : (U8 (l.take n))[k]? = (U8 l)[k]? ∨ (U8 (l.take n))[k]? = none := by
    simp only [U8, List.map_take, List.getElem?_take]
    split
    · exact .inl rfl
    · exact .inr rfl
  rcases hk with hk | hk
  · rw [hk] at hu; simpa using hu
  · rw [hk] at hu; cases hu

theorem refget4 (l : List Nat) (hl : l.length = 4) (A : Option Addr) (c B : Nat) (w : World) (hA : Rd w B A (U8 l)) (hb : ∀ x ∈ l, x < 256) :
    Calls Tryz.prog 85 #[.slice A 4 c] w fun e w' => e = .returned (.tuple #[.int .i64 (valB l : Nat), .int .i64 0]) ∧ w = w' := by
  have h := refget_ok l A c B w hA hb (by omega) (by omega)
  rw [hl] at h
  exact h

set_option maxRecDepth 20000 in
theorem refcut_any (l : List Nat) (F : Array Value) (hF : F = (U8 l).toArray) (w : World) (hb : ∀ x ∈ l, x < 256) (hl : l.length = 32) :
    Calls Tryz.prog 44 #[.agg F] w fun e w' => e = .returned (.int .i64 (valB (l.take 4) : Nat)) ∧ Below w.heap.size w w' := by
  have hsF : F.size = 32 := by rw [hF]; simp [U8, hl]
  have hiF : (Tryz.prog.info? 63).map (·.size) = some F.size := by rw [hsF]; exact cinfo32
  have hoF : F.all (·.oneCell') = true := by rw [hF]; exact all_one8 _
  have HIF := Lib.hid hiF
  have HOF := Lib.hid hoF
  have HSF := Lib.hid hsF
  have HF := Lib.hid hF
  have HB := Lib.hid hb
  have HL := Lib.hid hl
  clear hiF hoF hsF hF hb hl
  go_enter Tryz.func44, Tryz.ntmps44
  go_wp2_with fail
  refine (refget4 (l.take 4) (by rw [List.length_take, HL.out]; rfl) _ 32 _ (w.alloc (.cells F 63)) (rd_first 4 (heap_alloc_new w _) HF.out) (fun x hx => HB.out x (List.mem_of_mem_take hx))).mono ?_
  rintro e w1 ⟨rfl, rfl⟩
  go_wp2
  go_ret
  exact ⟨rfl, (Below.refl _ _).alloc (Nat.le_refl _) _⟩

theorem valB_to (l : List Nat) (k : Nat) (h : k < l.length) : valB (l.take (k + 1)) = valB (l.take k) * 256 + l.getD k 0 := by
  rw [List.take_succ_eq_append_getElem h, valB_snoc, List.getD_eq_getElem?_getD, List.getElem?_eq_getElem h]; rfl
theorem valB_small (l : List Nat) (h : ∀ x ∈ l, x < 256) (k : Nat) (hk : k ≤ 4) : valB (l.take k) < 4294967296 := by
  have h1 := valB_lt (l.take k) (fun x hx => h x (List.mem_of_mem_take hx))
  have h2 : 256 ^ (l.take k).length ≤ 256 ^ 4 := Nat.pow_le_pow_right (by omega) (by simp; omega)
  omega

theorem or_byte63 (a b : Nat) (ha : a < 16777216) (hb : b < 256) : bits .or .i64 ((a : Int) * 256) (b : Int) = ((a * 256 + b : Nat) : Int) := by
  have e : (a : Int) * 256 = ((a * 256 : Nat) : Int) := by omega
  have h := Nat.two_pow_add_eq_or_of_lt (i := 8) (b := b) (by omega) a
  simp only [Nat.reducePow] at h
  have hab : a * 256 ||| b = a * 256 + b := by rw [Nat.mul_comm, ← h, Nat.mul_comm]
  rw [e]
  show IntKind.i64.wrap ((BitVec.ofInt 64 ((a * 256 : Nat) : Int) ||| BitVec.ofInt 64 (b : Int)).toNat : Int) = _
  rw [BitVec.toNat_or, ofInt_u64 _ (by omega), ofInt_u64 b (by omega), hab]
  exact IntWalk.i64_in _ (by omega)

set_option maxRecDepth 20000 in
theorem cut_any (l : List Nat) (F : Array Value) (hF : F = (U8 l).toArray) (w : World) (hb : ∀ x ∈ l, x < 256) (hl : l.length = 32) :
    Calls Tryz.prog 42 #[.agg F] w fun e w' => e = .returned (.int .i64 (valB (l.take 4) : Nat)) ∧ Below w.heap.size w w' := by
  have hsF : F.size = 32 := by rw [hF]; simp [U8, hl]
  have hiF : (Tryz.prog.info? 63).map (·.size) = some F.size := by rw [hsF]; exact cinfo32
  have hoF : F.all (·.oneCell') = true := by rw [hF]; exact all_one8 _
  have hrd := rd_first 4 (heap_alloc_new w (.cells F 63)) hF
  have HRD := Lib.hid hrd
  have HIF := Lib.hid hiF
  have HOF := Lib.hid hoF
  have HSF := Lib.hid hsF
  have HF := Lib.hid hF
  have HB := Lib.hid hb
  have HL := Lib.hid hl
  clear hiF hoF hsF hF hb hl hrd
  go_enter Tryz.func42, Tryz.ntmps42
  go_wp2
  go_loop [3, 5, 8] (fun t _ i => ∃ k : Nat, k ≤ 4 ∧ i = .int .i64 k ∧ t = .int .i64 (valB (l.take k) : Nat)) (fun _ _ i => 4 - (intOf i).toNat)
  case atStart => exact ⟨0, Nat.zero_le _, rfl, rfl⟩
  case round =>
    obtain ⟨k, hk, rfl, rfl⟩ := hrel
    by_cases hlt : k < 4
    · have hkl : k < (l.take 4).length := by rw [List.length_take, HL.out]; omega
      obtain ⟨ad, e, _, hc⟩ := HRD.out k _ (U8_at (l.take 4) k hkl)
      cases e
      have hx : (l.take 4)[k] < 256 := HB.out _ (List.mem_of_mem_take (List.getElem_mem hkl))
      have hv := valB_to l k (by rw [HL.out]; omega)
      have e0 : l.getD k 0 = (l.take 4)[k] := by
        rw [List.getD_eq_getElem?_getD, List.getElem?_eq_getElem (by rw [HL.out]; omega), List.getElem_take]; rfl
      rw [e0] at hv
      have hy := valB_small l HB.out k (by omega)
      rw [at_add] at hc
      have hy2 : valB (l.take k) < 16777216 := by
        have h1 := valB_lt (l.take k) (fun x hx => HB.out x (List.mem_of_mem_take hx))
        have h2 : 256 ^ (l.take k).length ≤ 256 ^ 3 := Nat.pow_le_pow_right (by omega) (by simp; omega)
        omega
      have HV := Lib.hid hv
      clear e0 hv
      generalize (l.take 4)[k] = x at *
      generalize valB (l.take k) = y at *
      clear hkl
      go_wp2
      go_round
      case rel => exact ⟨k + 1, by omega, by go_num, by rw [HV.out, or_byte63 y x hy2 hx]⟩
      case measure => simp [intOf]; omega
    · have e : k = 4 := by omega
      subst e
      go_wp2
      go_ret
      exact ⟨rfl, (Below.refl _ _).alloc (Nat.le_refl _) _⟩

/-- The bits in which the first k bytes differ. -/
def dn (a b : List Nat) : Nat → Nat
  | 0 => 0
  | k + 1 => dn a b k ||| (a.getD k 0 ^^^ b.getD k 0)
theorem seal_getD_lt {l : List Nat} (h : ∀ x ∈ l, x < 256) (k : Nat) : l.getD k 0 < 256 := by
  rw [List.getD_eq_getElem?_getD]
  rcases Nat.lt_or_ge k l.length with hk | hk
  · rw [List.getElem?_eq_getElem hk]; exact h _ (List.getElem_mem hk)
  · rw [List.getElem?_eq_none hk]; decide
theorem dn_lt {a b : List Nat} (ha : ∀ x ∈ a, x < 256) (hb : ∀ x ∈ b, x < 256) (k : Nat) : dn a b k < 256 := by
  induction k with
  | zero => exact (by decide : 0 < 256)
  | succ k ih => exact Nat.or_lt_two_pow (n := 8) ih (Nat.xor_lt_two_pow (n := 8) (seal_getD_lt ha k) (seal_getD_lt hb k))
theorem or_zero_iff (a b : Nat) : a ||| b = 0 ↔ a = 0 ∧ b = 0 := by
  constructor
  · intro h
    constructor
    · apply Nat.eq_of_testBit_eq; intro i
      have := congrArg (fun z => z.testBit i) h
      simp at this ⊢; exact this.1
    · apply Nat.eq_of_testBit_eq; intro i
      have := congrArg (fun z => z.testBit i) h
      simp at this ⊢; exact this.2
  · rintro ⟨rfl, rfl⟩; rfl
theorem xor_zero_iff (a b : Nat) : a ^^^ b = 0 ↔ a = b := by
  constructor
  · intro h
    apply Nat.eq_of_testBit_eq; intro i
    have := congrArg (fun z => z.testBit i) h
    simpa using this
  · rintro rfl; exact Nat.xor_self a
theorem dn_zero_iff (a b : List Nat) (k : Nat) : dn a b k = 0 ↔ ∀ i, i < k → a.getD i 0 = b.getD i 0 := by
  induction k with
  | zero => simp [dn]
  | succ k ih =>
    rw [dn, or_zero_iff, xor_zero_iff, ih]
    constructor
    · rintro ⟨h1, h2⟩ i hi
      rcases Nat.lt_or_ge i k with h | h
      · exact h1 i h
      · have : i = k := by omega
        subst this; exact h2
    · intro h
      exact ⟨fun i hi => h i (by omega), h k (by omega)⟩
/-- Two rows are told the same just if they are. -/
theorem dn_same (a b : List Nat) : ((a.length == b.length) && (dn a b (min a.length b.length) == 0)) = (a == b) := by
  by_cases hl : a.length = b.length
  · by_cases h : a = b
    · subst h
      have h0 : dn a a (min a.length a.length) = 0 := (dn_zero_iff _ _ _).2 fun _ _ => rfl
      rw [h0]
      simp
    · have h2 : dn a b (min a.length b.length) ≠ 0 := by
        intro h0
        apply h
        have := (dn_zero_iff _ _ _).1 h0
        apply List.ext_getElem hl
        intro i h1 h2
        have h3 := this i (by omega)
        rwa [List.getD_eq_getElem?_getD, List.getD_eq_getElem?_getD, List.getElem?_eq_getElem h1, List.getElem?_eq_getElem h2] at h3
      have e1 : (a == b) = false := by simpa using h
      have e2 : (dn a b (min a.length b.length) == 0) = false := by simpa using h2
      rw [e1, e2, Bool.and_false]
  · have e1 : (a == b) = false := by simp; rintro rfl; exact hl rfl
    have e2 : (a.length == b.length) = false := by simpa using hl
    rw [e1, e2, Bool.false_and]
/-- The digits of n, ten of them, the highest one first. -/
def digit (n i : Nat) : Nat := n / 10 ^ (9 - i) % 10
def dec (n : Nat) : List Nat := (List.range 10).map (digit n)
theorem length_dec (n : Nat) : (dec n).length = 10 := by simp [dec]
theorem digit_lt (n i : Nat) : digit n i < 10 := Nat.mod_lt _ (by decide)
theorem dec_lt10 (n : Nat) : ∀ x ∈ dec n, x < 10 := by
  intro x hx
  simp only [dec, List.mem_map] at hx
  obtain ⟨i, _, rfl⟩ := hx
  exact digit_lt n i
theorem dec_lt (n : Nat) : ∀ x ∈ dec n, x < 256 := fun x hx => Nat.lt_of_lt_of_le (dec_lt10 n x hx) (by decide)
/-- The digits that are laid from behind, i of them. -/
def decUpto (n i : Nat) : List Nat := (List.range 10).map fun t => if 10 ≤ t + i then digit n t else 0
theorem length_decUpto (n i : Nat) : (decUpto n i).length = 10 := by simp [decUpto]
theorem decUpto_zero (n : Nat) : decUpto n 0 = List.replicate 10 0 := by
  apply List.ext_getElem
  · simp [decUpto]
  · intro j h1 h2
    simp only [decUpto, List.length_map, List.length_range] at h1
    rw [List.getElem_replicate]
    simp only [decUpto, List.getElem_map, List.getElem_range]
    rw [if_neg (by omega)]
theorem decUpto_set (n i : Nat) (hi : i < 10) : (decUpto n i).set (9 - i) (n / 10 ^ i % 10) = decUpto n (i + 1) := by
  apply List.ext_getElem
  · simp [decUpto]
  · intro j h1 h2
    simp [decUpto] at h1
    rw [List.getElem_set]
    simp only [decUpto, List.getElem_map, List.getElem_range]
    split
    · next h => subst h; rw [if_pos (by omega), digit, show 9 - (9 - i) = i by omega]
    · next h =>
      by_cases h3 : 10 ≤ j + i
      · rw [if_pos h3, if_pos (by omega)]
      · rw [if_neg h3, if_neg (by omega)]
theorem decUpto_all (n : Nat) : decUpto n 10 = dec n := by
  apply List.ext_getElem
  · simp [decUpto, dec]
  · intro j h1 h2
    simp [decUpto, dec]
/-- The first k digits. -/
def decTo (n k : Nat) : List Nat := (List.range k).map (digit n)
theorem decTo_succ (n k : Nat) : decTo n (k + 1) = decTo n k ++ [digit n k] := by simp [decTo, List.range_succ]
theorem ten_by (k : Nat) (hk : k ≤ 9) : 1000000000 / 10 ^ k = 10 ^ (9 - k) := by
  have : (1000000000 : Nat) = 10 ^ (9 - k) * 10 ^ k := by rw [← Nat.pow_add, show 9 - k + k = 9 by omega]
  rw [this, Nat.mul_div_cancel _ (Nat.pow_pos (by decide))]
set_option linter.unusedVariables false
open Go.ChangeShapes Go.WideShapes Go.ChangeAt Go.RowKit

theorem digits_ok (n : Nat) (w : World) (hn : n ≤ 4294967295) :
    Calls Tryz.prog 41 #[.int .i64 n] w fun e w' => ∃ g cap, e = .returned (.tuple #[.slice (some ⟨g, 0, none⟩) 10 cap, .int .i64 0]) ∧
      Rd w' w'.heap.size (some ⟨g, 0, none⟩) (U8 (dec n)) ∧ Below w.heap.size w w' := by
  obtain ⟨i0, hi, hz0, hz1, hz2⟩ := info_parts infoU8
  go_enter Tryz.func41, Tryz.ntmps41
  go_wp2_with (at_make; refine wpList_make_full _ rfl _ _ 30 rfl w.heap.size 5 i0 (.int .u8 0) 1 Tryz.underlying30 hi hz0 hz1 _ _ _ _ 10 rfl rfl (by omega) (by omega) ?b2 ?b3 (Nat.le_refl _) ?_)
  case b2 => rw [hz2]; omega
  case b3 => unfold maxLen; omega
  intro w1 hown hg
  have hown1 : w1.ownsRow w.heap.size 5 1 (.slice (some ⟨w.heap.size, 0, none⟩) 10 10) 10 (U8 (decUpto n 0)) := by
    rw [toList_madeCells_one] at hown
    rw [decUpto_zero, U8, List.map_replicate]
    exact hown
  have hbel : Below w.heap.size w w1 := (Below.refl _ _).grown hg (Nat.le_refl _) (by simp)
  clear hown hg
  go_wp2
  go_loopw [0, 5, 13] (fun m _ i wr => ∃ k : Nat, k ≤ 10 ∧ i = .int .i64 k ∧ m = .int .i64 (n / 10 ^ k : Nat) ∧ wr.ownsRow w.heap.size 5 1 (.slice (some ⟨w.heap.size, 0, none⟩) 10 10) 10 (U8 (decUpto n k)) ∧ Below w.heap.size w wr) (fun _ _ i _ => 10 - (intOf i).toNat)
  case atStart => exact ⟨0, Nat.zero_le _, rfl, by simp, hown1, hbel⟩
  case round =>
    clear hown1 hbel
    obtain ⟨k, hk, rfl, rfl, hown, hbel⟩ := hrel
    by_cases hlt : k < 10
    · have hc2 : ∃ v, wr.cell? ⟨w.heap.size, 9 - k, none⟩ = some v := by
        rw [hown.cellAt (9 - k) (by omega), U8, List.getElem?_map]
        rw [List.getElem?_eq_getElem (by rw [length_decUpto]; omega)]
        exact ⟨_, rfl⟩
      obtain ⟨v2, hc2⟩ := hc2
      have hf := hown.frozenAt (9 - k)
      have hst := (hown.stored (9 - k) (.int .u8 ((n / 10 ^ k % 10 : Nat) : Int))).1
      have hset : (U8 (decUpto n k)).set (9 - k) (.int .u8 ((n / 10 ^ k % 10 : Nat) : Int)) = U8 (decUpto n (k + 1)) := by
        rw [← decUpto_set n k hlt, U8, U8, List.map_set]
      rw [hset] at hst
      have hnx : n / 10 ^ (k + 1) = n / 10 ^ k / 10 := by rw [Nat.pow_succ, Nat.div_div_eq_div_mul]
      have hy : n / 10 ^ k ≤ 4294967295 := Nat.le_trans (Nat.div_le_self _ _) hn
      have HNX := Lib.hid hnx
      clear hset hnx
      generalize n / 10 ^ k = y at *
      have HST := Lib.hid hst
      have HOW := Lib.hid hown
      clear hst hown
      have f1 : ((9 : Int) - (k : Int)).toNat = 9 - k := by omega
      have f2 : IntKind.i64.wrap ((9 : Int) - (k : Int)) = 9 - (k : Int) := IntWalk.i64_in _ (by omega)
      have f3 : (0 : Int) ≤ 9 - (k : Int) := by omega
      have f4 : 9 - (k : Int) < 10 := by omega
      go_wp2
      go_roundw
      case rel =>
        refine ⟨k + 1, by omega, by go_num, ?_, ?_, hbel.setCell (Nat.le_refl _) _⟩
        · rw [HNX.out]; go_num
        · exact HST.out
      case measure => simp [intOf]; omega
    · have e1 : k = 10 := by omega
      subst e1
      rw [decUpto_all] at hown
      go_wp2
      go_ret2
      exact ⟨_, _, rfl, Rd.of_own hown, hbel⟩
set_option linter.unusedVariables false
open Go.ChangeShapes Go.WideShapes Go.ChangeAt Go.RowKit

/-- What has been gathered behind k rounds. -/
def GatheredD (wr : World) (base n k : Nat) (v : Value) : Prop := ∃ g cap, v = .slice (some ⟨g, 0, none⟩) k cap ∧ wr.ownsRow base 5 1 (.slice (some ⟨g, 0, none⟩) k cap) k (U8 (decTo n k))

set_option maxRecDepth 20000 in
theorem refdigits_ok (n : Nat) (w : World) (hn : n ≤ 4294967295) :
    Calls Tryz.prog 43 #[.int .i64 n] w fun e w' => ∃ g cap, e = .returned (.tuple #[.slice (some ⟨g, 0, none⟩) 10 cap, .int .i64 0]) ∧
      Rd w' w'.heap.size (some ⟨g, 0, none⟩) (U8 (dec n)) ∧ Below w.heap.size w w' := by
  obtain ⟨i0, hi, hz0, hz1, hz2⟩ := info_parts infoU8
  go_enter Tryz.func43, Tryz.ntmps43
  go_wp2
  go_loopw [4, 5, 6] (fun v t i wr => ∃ k : Nat, k ≤ 10 ∧ i = .int .i64 k ∧ t = .int .i64 (1000000000 / 10 ^ k : Nat) ∧ GatheredD wr w.heap.size n k v ∧ Below w.heap.size w wr) (fun _ _ i _ => 10 - (intOf i).toNat)
  case atStart => exact ⟨0, Nat.zero_le _, rfl, by simp, ⟨_, _, rfl, World.ownsRow_lit w #[] 0 (Nat.le_refl _) (by decide) rfl⟩, (Below.refl _ _).alloc (Nat.le_refl _) _⟩
  case round =>
    obtain ⟨k, hk, rfl, rfl, ⟨g, cap, rfl, hown⟩, hbel⟩ := hrel
    by_cases hlt : k < 10
    · have hy2 : 1000000000 / 10 ^ (k + 1) = 1000000000 / 10 ^ k / 10 := by rw [Nat.pow_succ, Nat.div_div_eq_div_mul]
      have hb1 : 1 ≤ 1000000000 / 10 ^ k := by rw [ten_by k (by omega)]; exact Nat.pow_pos (by decide)
      have hb2 : 1000000000 / 10 ^ k ≤ 1000000000 := Nat.div_le_self _ _
      have hp : decTo n (k + 1) = decTo n k ++ [n / (1000000000 / 10 ^ k) % 10] := by rw [decTo_succ, digit, ten_by k (by omega)]
      generalize 1000000000 / 10 ^ k = y at *
      obtain ⟨q, hq⟩ : ∃ q, q = n / y := ⟨_, rfl⟩
      have hqlt : q ≤ 4294967295 := by rw [hq]; exact Nat.le_trans (Nat.div_le_self _ _) hn
      have hcast : ((n : Int) / (y : Int)) = (q : Int) := by rw [hq]; simp
      rw [← hq] at hp
      have HY := Lib.hid hy2
      have HP := Lib.hid hp
      clear hy2 hp hq
      have y1 : (1 : Int) ≤ (y : Int) := by omega
      have q1 : (n : Int) / (y : Int) ≤ 4294967295 := by rw [hcast]; omega
      have q0 : 0 ≤ (n : Int) / (y : Int) := by rw [hcast]; omega
      have hbs := hbel.size
      have HOWN := Lib.hid (own_below hown (below_lit wr #[.int .u8 ((q : Int) % 10)] 5))
      have hrdl := rd_lit wr #[.int .u8 ((q : Int) % 10)] 5
      have HRD := Lib.hid hrdl
      have hone : ∀ u ∈ [Value.int .u8 ((q : Int) % 10)], u.oneCell' = true := by
        intro u hu
        simp only [List.mem_cons, List.not_mem_nil, or_false] at hu
        subst hu; rfl
      clear hown hrdl
      go_wp2_with (at_builtin; refine wpList_append_rd _ rfl _ _ 30 rfl w.heap.size 5 i0 (.int .u8 0) 1 Tryz.underlying30 hi hz0 hz1 hz2 rfl _ k (U8 (decTo n k)) rfl HOWN.out _ _ 1 1 [.int .u8 ((q : Int) % 10)] rfl HRD.out rfl (fun h => by cases h) hone ?c3 ?c4 ?c5 ?_)
      case c3 => unfold maxLen; omega
      case c4 => omega
      case c5 => first | omega | exact Nat.le_trans hbs (below_lit wr _ _).size
      intro v' w1 hown' hgrow
      have hbel1 : Below w.heap.size w w1 := (hbel.alloc hbs _).grown hgrow (by simp; omega) (fun j hj => own_ge HOWN.out hj)
      have hown1 : w1.ownsRow w.heap.size 5 1 v' (k + 1) (U8 (decTo n (k + 1))) := by
        rw [HP.out, U8, List.map_append, List.map_cons, List.map_nil]
        have e : Value.int .u8 ((q % 10 : Nat) : Int) = .int .u8 ((q : Int) % 10) := by simp
        rw [e]
        exact hown'
      have hga : GatheredD w1 w.heap.size n (k + 1) v' := by
        obtain ⟨g', cap', e, _⟩ := hown1.form (by omega)
        subst e
        exact ⟨g', cap', rfl, hown1⟩
      have HG := Lib.hid hga
      clear hown' hgrow hown1 hga hbel
      go_wp2
      go_roundw
      case rel => exact ⟨k + 1, by omega, by go_num, by rw [HY.out]; go_num, HG.out, hbel1⟩
      case measure => simp [intOf]; omega
    · have ek : k = 10 := by omega
      subst ek
      have hall : decTo n 10 = dec n := rfl
      rw [hall] at hown
      have HR := Lib.hid (Rd.of_own hown)
      clear hown
      go_wp2
      go_ret2
      exact ⟨_, _, rfl, HR.out, hbel⟩
set_option linter.unusedVariables false
open Go.ChangeShapes Go.WideShapes Go.ChangeAt Go.RowKit

theorem seal_at {w : World} {B : Nat} {A : Option Addr} {l : List Nat} (h : Rd w B A (U8 l)) (k : Nat) (hk : k < l.length) : ∃ ad, A = some ad ∧ ad.block < B ∧ w.cell? (ad.add k) = some (.int .u8 ((l.getD k 0 : Nat) : Int)) := by
  obtain ⟨ad, e, hlt, hc⟩ := h k _ (U8_at l k hk)
  refine ⟨ad, e, hlt, ?_⟩
  rw [hc, List.getD_eq_getElem?_getD, List.getElem?_eq_getElem hk]
  rfl

theorem gather_any (x y d Bk : Nat) (w : World) (hv : w.heap[Bk]? = some (.cells #[.int .u8 (d : Int)] 5 (0, 0))) (hx : x < 256) (hy : y < 256) (hd : d < 256) :
    Calls Tryz.prog 109 #[.int .u8 x, .int .u8 y, .pointer (some ⟨Bk, 0, none⟩)] w fun e w' => e = .returned (.tuple #[]) ∧ w' = w.setCell ⟨Bk, 0, none⟩ (.int .u8 ((d ||| (x ^^^ y) : Nat) : Int)) := by
  have h1 := cell_of_one hv
  have h2 := free_of_one hv
  have hxy : x ^^^ y < 256 := Nat.xor_lt_two_pow (n := 8) hx hy
  have e1 := u8_xor_nat x y hx hy
  have e2 := u8_or_nat d (x ^^^ y) hd hxy
  clear hv
  go_enter Tryz.func109, Tryz.ntmps109
  go_wp2
  go_end0
  exact ⟨rfl, rfl⟩

theorem eq_cast (n m : Nat) : ((n : Int) == (m : Int)) = (n == m) := by
  by_cases h : n = m
  · subst h; simp
  · rw [(by simpa using h : (n == m) = false)]; simp; omega

theorem diff_any (a b : List Nat) (n m : Nat) (hn : n = a.length) (hm : m = b.length) (A A' : Option Addr) (c c' : Nat) (w : World) (hA : Rd w w.heap.size A (U8 a)) (hA' : Rd w w.heap.size A' (U8 b)) (ha : ∀ x ∈ a, x < 256) (hb : ∀ x ∈ b, x < 256) (h1 : n ≤ 9223372036854775807) (h2 : m ≤ 9223372036854775807) :
    Calls Tryz.prog 77 #[.slice A n c, .slice A' m c'] w fun e w' => e = .returned (.tuple #[.int .u8 (dn a b (min n m) : Nat), .bool (n == m)]) ∧ Below w.heap.size w w' := by
  have HN := Lib.hid hn
  have HM := Lib.hid hm
  have HA := Lib.hid ha
  have HB := Lib.hid hb
  clear hn hm ha hb
  rcases Nat.lt_or_ge m n with hmn | hmn
  all_goals
    go_enter Tryz.func77, Tryz.ntmps77
    go_wp2
    go_loopw [8, 15] (fun _ i wr => ∃ k : Nat, k ≤ n ∧ k ≤ m ∧ i = .int .i64 k ∧ wr.heap[w.heap.size]? = some (.cells #[.int .u8 (dn a b k : Nat)] 5 (0, 0)) ∧ Below w.heap.size w wr) (fun _ i _ => n - (intOf i).toNat)
    case atStart => exact ⟨0, Nat.zero_le _, Nat.zero_le _, rfl, heap_alloc_new w _, (Below.refl _ _).alloc (Nat.le_refl _) _⟩
    case round =>
      obtain ⟨k, hk, hk', rfl, hv, hbel⟩ := hrel
      by_cases hlt : k < n ∧ k < m
      · obtain ⟨hlt, hlt'⟩ := hlt
        obtain ⟨ad, rfl, had, hc⟩ := seal_at (hA.below hbel) k (by rw [← HN.out]; exact hlt)
        obtain ⟨ad', rfl, had', hc'⟩ := seal_at (hA'.below hbel) k (by rw [← HM.out]; exact hlt')
        have hx := seal_getD_lt HA.out k
        have hy := seal_getD_lt HB.out k
        have hd := dn_lt HA.out HB.out k
        have hnx : dn a b (k + 1) = dn a b k ||| (a.getD k 0 ^^^ b.getD k 0) := rfl
        have HNX := Lib.hid hnx
        clear hA hA' hnx
        generalize a.getD k 0 = x at *
        generalize b.getD k 0 = y at *
        generalize dn a b k = z at *
        have b1 : (0 : Int) ≤ (k : Int) := by omega
        have b2 : (k : Int) < (n : Int) := by omega
        have b3 : (k : Int) < (m : Int) := by omega
        have HV := Lib.hid hv
        have HBL := Lib.hid hbel
        clear hv hbel
        go_wp2
        refine wp_region_still_tail 9 (by kernel_rfl) (by kernel_rfl) ?_
        simp only [List.take_succ_cons, List.take_zero, List.drop_succ_cons, List.drop_zero]
        repeat still_step
        refine wpStill_nil ?_
        change wpList _ _ _ _ _ wr.drew
        go_wp2_with fail
        refine (gather_any x y z w.heap.size wr.drew HV.out hx hy hd).mono ?_
        rintro e w1 ⟨rfl, rfl⟩
        go_wp2
        go_roundw
        case rel => exact ⟨k + 1, by omega, by omega, by go_num, by rw [HNX.out]; exact one_setCell HV.out, (HBL.out.drew).setCell (Nat.le_refl _) _⟩
        case measure => simp [intOf]; omega
      · have hmin : k = min n m := by omega
        have hcell := cell_of_one hv
        have HMIN := Lib.hid hmin
        have c2 : k = n ∨ k = m := by omega
        have c1 : ¬ (k < min n m) := by omega
        clear hmin hlt hv
        rcases c2 with rfl | rfl
        all_goals
          go_wp2 <;> (go_ret2; exact ⟨by rw [eq_cast, ← HMIN.out]; rfl, hbel⟩)
set_option linter.unusedVariables false
open Go.ChangeShapes Go.WideShapes Go.ChangeAt Go.RowKit

/-- Diff, its answers under names. -/
theorem diff_named (a b : List Nat) (n m : Nat) (hn : n = a.length) (hm : m = b.length) (A A' : Option Addr) (c c' : Nat) (w : World) (hA : Rd w w.heap.size A (U8 a)) (hA' : Rd w w.heap.size A' (U8 b)) (ha : ∀ x ∈ a, x < 256) (hb : ∀ x ∈ b, x < 256) (h1 : n ≤ 9223372036854775807) (h2 : m ≤ 9223372036854775807)
    (d : Nat) (q : Bool) (hd : d = dn a b (min n m)) (hq : q = (n == m)) :
    Calls Tryz.prog 77 #[.slice A n c, .slice A' m c'] w fun e w' => e = .returned (.tuple #[.int .u8 (d : Int), .bool q]) ∧ Below w.heap.size w w' := by
  subst hd hq
  exact diff_any a b n m hn hm A A' c c' w hA hA' ha hb h1 h2

theorem sealsame_any (a b : List Nat) (n m : Nat) (hn : n = a.length) (hm : m = b.length) (A A' : Option Addr) (c c' : Nat) (w : World) (hA : Rd w w.heap.size A (U8 a)) (hA' : Rd w w.heap.size A' (U8 b)) (ha : ∀ x ∈ a, x < 256) (hb : ∀ x ∈ b, x < 256) (h1 : n ≤ 9223372036854775807) (h2 : m ≤ 9223372036854775807) :
    Calls Tryz.prog 36 #[.slice A n c, .slice A' m c'] w fun e w' => e = .returned (.bool (a == b)) ∧ Below w.heap.size w w' := by
  have hs := dn_same a b
  rw [← hn, ← hm] at hs
  have HS := Lib.hid hs
  have HN := Lib.hid hn
  have HM := Lib.hid hm
  have HA := Lib.hid ha
  have HB := Lib.hid hb
  clear hs hn hm ha hb
  obtain ⟨d, hd⟩ : ∃ d, d = dn a b (min n m) := ⟨_, rfl⟩
  obtain ⟨q, hq⟩ : ∃ q, q = (n == m) := ⟨_, rfl⟩
  rw [← hd, ← hq] at HS
  have HD := Lib.hid hd
  have HQ := Lib.hid hq
  have e1 : ((d : Int) == 0) = (d == 0) := eq_cast d 0
  clear hd hq
  cases q with
  | true =>
    rw [Bool.true_and] at HS
    go_enter Tryz.func36, Tryz.ntmps36
    go_wp2_with fail
    refine (diff_named a b n m HN.out HM.out A A' c c' w hA hA' HA.out HB.out h1 h2 d true HD.out HQ.out).mono ?_
    rintro e w1 ⟨rfl, hb⟩
    go_wp2
    go_ret
    exact ⟨by rw [← HS.out, ← e1]; rfl, hb⟩
  | false =>
    rw [Bool.false_and] at HS
    go_enter Tryz.func36, Tryz.ntmps36
    go_wp2_with fail
    refine (diff_named a b n m HN.out HM.out A A' c c' w hA hA' HA.out HB.out h1 h2 d false HD.out HQ.out).mono ?_
    rintro e w1 ⟨rfl, hb⟩
    go_wp2
    go_ret
    exact ⟨by rw [← HS.out]; rfl, hb⟩
end Go.Proofs.YtpniolinndlepaaGreatDoor
