/-
  Contracts for the landed ofBytes, asSigns, asBytes: a group's number, its signs, its bytes; and a byte of the constant of the signs. Conditions: three of them at most.
-/
import Derived.Test.YtmedfelkoknadaaFortyMath
import Derived.Test.YtmedfelkoknadaaBsRow
namespace Go.Proofs.Ytmedfelkoknadaa
set_option linter.unusedVariables false
open Go.ChangeShapes Go.WideShapes Go.ChangeAt Go.RowKit

theorem run_index_sg : ∀ k : Nat, k < 45 → ∀ w : World, (Instr.index 9 (.string { data := #[48, 49, 50, 51, 52, 53, 54, 55, 56, 57, 65, 66, 67, 68, 69, 70, 71, 72, 73, 74, 75, 76, 77, 78, 79, 80, 81, 82, 83, 84, 85, 86, 87, 88, 89, 90, 32, 36, 37, 42, 43, 45, 46, 47, 58] }) (.int .i64 (k : Int))).run Try.prog w = .ok (.int .u8 ((sg k : Nat) : Int)) w
  | 0, _ => fun w => by kernel_rfl
  | 1, _ => fun w => by kernel_rfl
  | 2, _ => fun w => by kernel_rfl
  | 3, _ => fun w => by kernel_rfl
  | 4, _ => fun w => by kernel_rfl
  | 5, _ => fun w => by kernel_rfl
  | 6, _ => fun w => by kernel_rfl
  | 7, _ => fun w => by kernel_rfl
  | 8, _ => fun w => by kernel_rfl
  | 9, _ => fun w => by kernel_rfl
  | 10, _ => fun w => by kernel_rfl
  | 11, _ => fun w => by kernel_rfl
  | 12, _ => fun w => by kernel_rfl
  | 13, _ => fun w => by kernel_rfl
  | 14, _ => fun w => by kernel_rfl
  | 15, _ => fun w => by kernel_rfl
  | 16, _ => fun w => by kernel_rfl
  | 17, _ => fun w => by kernel_rfl
  | 18, _ => fun w => by kernel_rfl
  | 19, _ => fun w => by kernel_rfl
  | 20, _ => fun w => by kernel_rfl
  | 21, _ => fun w => by kernel_rfl
  | 22, _ => fun w => by kernel_rfl
  | 23, _ => fun w => by kernel_rfl
  | 24, _ => fun w => by kernel_rfl
  | 25, _ => fun w => by kernel_rfl
  | 26, _ => fun w => by kernel_rfl
  | 27, _ => fun w => by kernel_rfl
  | 28, _ => fun w => by kernel_rfl
  | 29, _ => fun w => by kernel_rfl
  | 30, _ => fun w => by kernel_rfl
  | 31, _ => fun w => by kernel_rfl
  | 32, _ => fun w => by kernel_rfl
  | 33, _ => fun w => by kernel_rfl
  | 34, _ => fun w => by kernel_rfl
  | 35, _ => fun w => by kernel_rfl
  | 36, _ => fun w => by kernel_rfl
  | 37, _ => fun w => by kernel_rfl
  | 38, _ => fun w => by kernel_rfl
  | 39, _ => fun w => by kernel_rfl
  | 40, _ => fun w => by kernel_rfl
  | 41, _ => fun w => by kernel_rfl
  | 42, _ => fun w => by kernel_rfl
  | 43, _ => fun w => by kernel_rfl
  | 44, _ => fun w => by kernel_rfl
  | k + 45, h => absurd h (by omega)

/-- The number that bytes are. -/
def nOf (l : List Nat) : Nat := l.foldl (fun a b => a * 256 + b) 0
theorem nOf_snoc (l : List Nat) (x : Nat) : nOf (l ++ [x]) = nOf l * 256 + x := by simp [nOf]
theorem nOf_lt : ∀ (l : List Nat), l.length ≤ 2 → (∀ x ∈ l, x < 256) → nOf l < 65536
  | [], _, _ => by decide
  | [a], _, h => by have := h a (by simp); simp [nOf]; omega
  | [a, b], _, h => by have := h a (by simp); have := h b (by simp); simp [nOf]; omega
  | _ :: _ :: _ :: _, h, _ => by simp at h
theorem u8_small (r : Nat) (h : r < 256) : IntKind.u8.wrap (r : Int) = (r : Int) := by simp [IntKind.wrap, IntKind.signed, IntKind.bits]; omega
theorem take_snoc' {l : List Nat} {k x : Nat} (h : l[k]? = some x) : l.take (k + 1) = l.take k ++ [x] := by
  obtain ⟨hk, rfl⟩ := List.getElem?_eq_some_iff.1 h
  rw [List.take_append_getElem]
set_option maxHeartbeats 800000 in
theorem pofBytes_any (l : List Nat) (n : Nat) (hn : n = l.length) (h2 : n ≤ 2) (A : Option Addr) (c : Nat) (w : World) (hA : Bs w w.heap.size l A c) :
    Calls Try.prog 16 #[.slice A n c] w fun e w' => e = .returned (.int .i64 (nOf l : Nat)) ∧ w = w' := by
  have HN := Lib.hid hn
  have HA := Lib.hid hA
  clear hn hA
  go_enter Try.func16, Try.ntmps16
  go_wp2
  go_loop [3, 5, 8] (fun t _ i => ∃ k : Nat, k ≤ n ∧ i = .int .i64 k ∧ t = .int .i64 (nOf (l.take k) : Nat)) (fun _ _ i => n - (intOf i).toNat)
  case atStart => exact ⟨0, Nat.zero_le _, rfl, rfl⟩
  case round =>
    obtain ⟨k, hk, rfl, rfl⟩ := hrel
    by_cases hlt : k < n
    · have hkl : k < l.length := by rw [← HN.out]; exact hlt
      obtain ⟨x, hx⟩ : ∃ x, l[k]? = some x := ⟨_, List.getElem?_eq_getElem hkl⟩
      obtain ⟨ad, rfl, hb, hc⟩ := HA.out.rd k (.int .u8 (x : Int)) (by rw [U8, List.getElem?_map, hx]; rfl)
      have hst : nOf (l.take (k + 1)) = nOf (l.take k) * 256 + x := by rw [take_snoc' hx, nOf_snoc]
      have hx2 : x < 256 := HA.out.lt x (List.mem_of_getElem? hx)
      have hlt2 := nOf_lt (l.take k) (by rw [List.length_take]; omega) (fun y hy => HA.out.lt y (List.mem_of_mem_take hy))
      have HST := Lib.hid hst
      generalize nOf (l.take k) = a at *
      have w1 : IntKind.i64.wrap ((a : Int) * 256) = (a : Int) * 256 := IntWalk.i64_in _ (by omega)
      have w2 : IntKind.i64.wrap ((a : Int) * 256 + (x : Int)) = (a : Int) * 256 + (x : Int) := IntWalk.i64_in _ (by omega)
      have b1 : (0 : Int) ≤ (k : Int) := by omega
      have b2 : (k : Int) < (n : Int) := by omega
      clear hst hkl hx
      go_wp2
      go_round
      case rel => exact ⟨k + 1, by omega, by go_num, by rw [HST.out]; go_num⟩
      case measure => simp [intOf]; omega
    · obtain rfl : k = n := by omega
      have e : l.take k = l := List.take_of_length_le (by rw [← HN.out]; omega)
      rw [e]
      clear e
      go_wp2
      go_ret
      exact ⟨rfl, rfl⟩

/-- So many signs of a number, the lowest one first. -/
def sgs (n : Nat) : Nat → List Nat
  | 0 => []
  | k + 1 => sgs n k ++ [sg (n / 45 ^ k % 45)]
def sgsTo (n m k : Nat) : List Nat := sgs n k ++ List.replicate (m - k) 0
theorem sgs_len (n : Nat) : ∀ k, (sgs n k).length = k
  | 0 => rfl
  | k + 1 => by rw [sgs, List.length_append, sgs_len n k]; rfl
theorem sgsTo_zero (n m : Nat) : sgsTo n m 0 = List.replicate m 0 := by simp [sgsTo, sgs]
theorem sgsTo_all (n m : Nat) : sgsTo n m m = sgs n m := by simp [sgsTo]
theorem sgsTo_len (n m k : Nat) (h : k ≤ m) : (sgsTo n m k).length = m := by rw [sgsTo, List.length_append, sgs_len, List.length_replicate]; omega
theorem sgsTo_set (n m k : Nat) (h : k < m) : (sgsTo n m k).set k (sg (n / 45 ^ k % 45)) = sgsTo n m (k + 1) := by
  obtain ⟨j, hj⟩ : ∃ j, m - k = j + 1 := ⟨m - k - 1, by omega⟩
  have hj2 : m - (k + 1) = j := by omega
  rw [sgsTo, sgsTo, hj, hj2, List.set_append_right _ _ (by rw [sgs_len]; omega), sgs_len, Nat.sub_self, List.replicate_succ, List.set_cons_zero, sgs, List.append_assoc]
  rfl
theorem sgs_lt (n : Nat) : ∀ k, ∀ x ∈ sgs n k, x < 256
  | 0, x, hx => by simp [sgs] at hx
  | k + 1, x, hx => by
    rw [sgs, List.mem_append] at hx
    rcases hx with hx | hx
    · exact sgs_lt n k x hx
    · simp only [List.mem_singleton] at hx; subst hx; exact sg_lt _
theorem sgs_put : ∀ (l : List Nat), 1 ≤ l.length → l.length ≤ 2 → (∀ x ∈ l, x < 256) → sgs (nOf l) (l.length + 1) = putG l
  | [], h, _, _ => by simp at h
  | [a], _, _, h => by
    have := h a (by simp)
    have e : nOf [a] = a := by simp [nOf]
    rw [e]
    simp only [sgs, putG, put2, List.length_cons, List.length_nil, List.nil_append, List.cons_append, Nat.zero_add, Nat.pow_zero, Nat.pow_one, Nat.div_one]
    rw [Nat.mod_eq_of_lt (show a / 45 < 45 by omega)]
  | [a, b], _, _, h => by
    have := h a (by simp)
    have := h b (by simp)
    have e : nOf [a, b] = a * 256 + b := by simp [nOf]
    rw [e]
    simp only [sgs, putG, put3, List.length_cons, List.length_nil, List.nil_append, List.cons_append, Nat.zero_add, Nat.pow_zero, Nat.pow_one, Nat.div_one]
    rw [Nat.mod_eq_of_lt (show (a * 256 + b) / 45 ^ 2 < 45 by omega)]
  | _ :: _ :: _ :: _, _, h, _ => by simp at h
set_option maxRecDepth 100000 in
set_option maxHeartbeats 1600000 in
theorem pasSigns_any (N s : Nat) (p : List Nat) (hp : sgs N s = p) (w : World) (hN : N < 65536) (hs : s ≤ 3) :
    Calls Try.prog 15 #[.int .i64 N, .int .i64 s] w fun e w' => e = .returned (.slice (some ⟨w.heap.size, 0, none⟩) s s) ∧ Bs w' w'.heap.size p (some ⟨w.heap.size, 0, none⟩) s ∧ Below w.heap.size w w' := by
  obtain ⟨i0, hi, hz0, hz1, hz2⟩ := info_parts infoU8
  have HP := Lib.hid hp
  clear hp
  go_enter Try.func15, Try.ntmps15
  go_wp2_with (at_make; refine wpList_make_full _ rfl _ _ 22 rfl w.heap.size 5 i0 (.int .u8 0) 1 Try.underlying22 hi hz0 hz1 _ _ _ _ s rfl rfl (by omega) (by omega) ?b2 ?b3 (Nat.le_refl _) ?_)
  case b2 => rw [hz2]; omega
  case b3 => unfold maxLen; omega
  intro w1 hown hg
  have hown1 : w1.ownsRow w.heap.size 5 1 (.slice (some ⟨w.heap.size, 0, none⟩) s s) s (U8 (sgsTo N s 0)) := by
    rw [toList_madeCells_one] at hown
    rw [sgsTo_zero, U8, List.map_replicate]
    exact hown
  have hbel : Below w.heap.size w w1 := (Below.refl _ _).grown hg (Nat.le_refl _) (by simp)
  clear hown hg
  go_wp2
  go_loopw [0, 11] (fun m i wr => ∃ k : Nat, k ≤ s ∧ i = .int .i64 (k : Int) ∧ m = .int .i64 (N / 45 ^ k : Nat) ∧ wr.ownsRow w.heap.size 5 1 (.slice (some ⟨w.heap.size, 0, none⟩) s s) s (U8 (sgsTo N s k)) ∧ Below w.heap.size w wr) (fun _ i _ => s - (intOf i).toNat)
  case atStart => exact ⟨0, Nat.zero_le _, by simp, by simp, hown1, hbel⟩
  case round =>
    clear hown1 hbel
    obtain ⟨k, hk, rfl, rfl, hown, hbel⟩ := hrel
    have hy : N / 45 ^ k < 65536 := Nat.lt_of_le_of_lt (Nat.div_le_self _ _) hN
    by_cases hlt : k < s
    · have hc2 : ∃ v, wr.cell? ⟨w.heap.size, k, none⟩ = some v := by
        rw [hown.cellAt k (by omega), U8, List.getElem?_map]
        rw [List.getElem?_eq_getElem (by rw [sgsTo_len _ _ _ hk]; omega)]
        exact ⟨_, rfl⟩
      obtain ⟨v2, hc2⟩ := hc2
      have hf := hown.frozenAt k
      have hst := (hown.stored k (.int .u8 ((sg (N / 45 ^ k % 45) : Nat) : Int))).1
      have hset : (U8 (sgsTo N s k)).set k (.int .u8 ((sg (N / 45 ^ k % 45) : Nat) : Int)) = U8 (sgsTo N s (k + 1)) := by
        rw [← sgsTo_set N s k hlt, U8, U8, List.map_set]
      rw [hset] at hst
      have hnx : N / 45 ^ (k + 1) = N / 45 ^ k / 45 := by rw [Nat.pow_succ, Nat.div_div_eq_div_mul]
      have HNX := Lib.hid hnx
      clear hset hnx
      generalize N / 45 ^ k = y at *
      obtain ⟨r, hr⟩ : ∃ r, r = y % 45 := ⟨_, rfl⟩
      obtain ⟨q, hq⟩ : ∃ q, q = y / 45 := ⟨_, rfl⟩
      have hr45 : r < 45 := by omega
      have t1 : (y : Int).tmod 45 = (r : Int) := by rw [Int.tmod_eq_emod_of_nonneg (by omega)]; omega
      have t2 : (y : Int).tdiv 45 = (q : Int) := by rw [Int.tdiv_eq_ediv_of_nonneg (by omega)]; omega
      have w1 : IntKind.i64.wrap (r : Int) = (r : Int) := IntWalk.i64_in _ (by omega)
      have w2 : IntKind.i64.wrap (q : Int) = (q : Int) := IntWalk.i64_in _ (by omega)
      have hix := run_index_sg r hr45
      rw [← hr] at hst
      rw [← hq] at HNX
      have HST := Lib.hid hst
      have HOW := Lib.hid hown
      clear hst hown hr hq
      have b1 : (0 : Int) ≤ (k : Int) := by omega
      have b2 : (k : Int) < (s : Int) := by omega
      go_wp2
      go_roundw
      case rel =>
        refine ⟨k + 1, by omega, by go_num, ?_, ?_, hbel.setCell (Nat.le_refl _) _⟩
        · rw [HNX.out]
        · exact HST.out
      case measure => simp only [intOf]; omega
    · obtain rfl : k = s := by omega
      rw [sgsTo_all, HP.out] at hown
      have hl : p.length = k := by rw [← HP.out, sgs_len]
      have hpx : ∀ x ∈ p, x < 256 := by rw [← HP.out]; exact sgs_lt N k
      have HO := Lib.hid hown
      have HL := Lib.hid hl
      have HX := Lib.hid hpx
      clear hown hl hpx hy
      generalize N / 45 ^ k = y at *
      go_wp2
      go_ret
      exact ⟨rfl, ⟨Rd.of_own HO.out, by simp, by rw [HL.out]; omega, by omega, HX.out⟩, hbel⟩

/-- A number as so many bytes, the highest one first. -/
def bysH (n : Nat) : Nat → List Nat
  | 0 => []
  | k + 1 => (n / 256 ^ k % 256) :: bysH n k
def bysTo (n m k : Nat) : List Nat := List.replicate (m - k) 0 ++ bysH n k
theorem bysH_len (n : Nat) : ∀ k, (bysH n k).length = k
  | 0 => rfl
  | k + 1 => by rw [bysH, List.length_cons, bysH_len n k]
theorem bysH_lt (n : Nat) : ∀ k, ∀ x ∈ bysH n k, x < 256
  | 0, x, hx => by simp [bysH] at hx
  | k + 1, x, hx => by
    rw [bysH, List.mem_cons] at hx
    rcases hx with rfl | hx
    · exact Nat.mod_lt _ (by omega)
    · exact bysH_lt n k x hx
theorem bysTo_zero (n m : Nat) : bysTo n m 0 = List.replicate m 0 := by simp [bysTo, bysH]
theorem bysTo_all (n m : Nat) : bysTo n m m = bysH n m := by simp [bysTo]
theorem bysTo_len (n m k : Nat) (h : k ≤ m) : (bysTo n m k).length = m := by rw [bysTo, List.length_append, bysH_len, List.length_replicate]; omega
theorem rep_set (j : Nat) (v : Nat) : (List.replicate (j + 1) 0).set j v = List.replicate j 0 ++ [v] := by
  induction j with
  | zero => rfl
  | succ j ih => rw [List.replicate_succ, List.set_cons_succ, ih, List.replicate_succ]; rfl
theorem bysTo_set (n m k : Nat) (h : k < m) : (bysTo n m k).set (m - 1 - k) (n / 256 ^ k % 256) = bysTo n m (k + 1) := by
  obtain ⟨j, hj⟩ : ∃ j, m - k = j + 1 := ⟨m - k - 1, by omega⟩
  have hj2 : m - (k + 1) = j := by omega
  have hj3 : m - 1 - k = j := by omega
  rw [bysTo, bysTo, hj, hj2, hj3, List.set_append_left _ _ (by rw [List.length_replicate]; omega), rep_set, bysH, List.append_assoc]
  rfl
set_option maxRecDepth 100000 in
set_option maxHeartbeats 1600000 in
theorem pasBytes_any (N s R : Nat) (p : List Nat) (hp : bysH N s = p) (hR : N / 256 ^ s = R) (w : World) (hN : N < 1000000) (hs : s ≤ 3) :
    Calls Try.prog 20 #[.int .i64 N, .int .i64 s] w fun e w' => e = .returned (.tuple #[.slice (some ⟨w.heap.size, 0, none⟩) s s, .int .i64 R]) ∧ Bs w' w'.heap.size p (some ⟨w.heap.size, 0, none⟩) s ∧ Below w.heap.size w w' := by
  obtain ⟨i0, hi, hz0, hz1, hz2⟩ := info_parts infoU8
  have HP := Lib.hid hp
  have HRR := Lib.hid hR
  clear hp hR
  go_enter Try.func20, Try.ntmps20
  go_wp2_with (at_make; refine wpList_make_full _ rfl _ _ 22 rfl w.heap.size 5 i0 (.int .u8 0) 1 Try.underlying22 hi hz0 hz1 _ _ _ _ s rfl rfl (by omega) (by omega) ?b2 ?b3 (Nat.le_refl _) ?_)
  case b2 => rw [hz2]; omega
  case b3 => unfold maxLen; omega
  intro w1 hown hg
  have hown1 : w1.ownsRow w.heap.size 5 1 (.slice (some ⟨w.heap.size, 0, none⟩) s s) s (U8 (bysTo N s 0)) := by
    rw [toList_madeCells_one] at hown
    rw [bysTo_zero, U8, List.map_replicate]
    exact hown
  have hbel : Below w.heap.size w w1 := (Below.refl _ _).grown hg (Nat.le_refl _) (by simp)
  clear hown hg
  have s1 : IntKind.i64.wrap ((s : Int) - 1) = (s : Int) - 1 := IntWalk.i64_in _ (by omega)
  go_wp2
  go_loopw [0, 11] (fun m i wr => ∃ k : Nat, k ≤ s ∧ i = .int .i64 (k : Int) ∧ m = .int .i64 (N / 256 ^ k : Nat) ∧ wr.ownsRow w.heap.size 5 1 (.slice (some ⟨w.heap.size, 0, none⟩) s s) s (U8 (bysTo N s k)) ∧ Below w.heap.size w wr) (fun _ i _ => s - (intOf i).toNat)
  case atStart => exact ⟨0, Nat.zero_le _, by simp, by simp, hown1, hbel⟩
  case round =>
    clear hown1 hbel
    obtain ⟨k, hk, rfl, rfl, hown, hbel⟩ := hrel
    have hy : N / 256 ^ k < 1000000 := Nat.lt_of_le_of_lt (Nat.div_le_self _ _) hN
    by_cases hlt : k < s
    · have hc2 : ∃ v, wr.cell? ⟨w.heap.size, s - 1 - k, none⟩ = some v := by
        rw [hown.cellAt (s - 1 - k) (by omega), U8, List.getElem?_map]
        rw [List.getElem?_eq_getElem (by rw [bysTo_len _ _ _ hk]; omega)]
        exact ⟨_, rfl⟩
      obtain ⟨v2, hc2⟩ := hc2
      have hf := hown.frozenAt (s - 1 - k)
      have hst := (hown.stored (s - 1 - k) (.int .u8 ((N / 256 ^ k % 256 : Nat) : Int))).1
      have hset : (U8 (bysTo N s k)).set (s - 1 - k) (.int .u8 ((N / 256 ^ k % 256 : Nat) : Int)) = U8 (bysTo N s (k + 1)) := by
        rw [← bysTo_set N s k hlt, U8, U8, List.map_set]
      rw [hset] at hst
      have hnx : N / 256 ^ (k + 1) = N / 256 ^ k / 256 := by rw [Nat.pow_succ, Nat.div_div_eq_div_mul]
      have HNX := Lib.hid hnx
      clear hset hnx
      generalize N / 256 ^ k = y at *
      obtain ⟨r, hr⟩ : ∃ r, r = y % 256 := ⟨_, rfl⟩
      obtain ⟨q, hq⟩ : ∃ q, q = y / 256 := ⟨_, rfl⟩
      have t1 : (y : Int).tmod 256 = (r : Int) := by rw [Int.tmod_eq_emod_of_nonneg (by omega)]; omega
      have t2 : (y : Int).tdiv 256 = (q : Int) := by rw [Int.tdiv_eq_ediv_of_nonneg (by omega)]; omega
      have w1 : IntKind.i64.wrap (r : Int) = (r : Int) := IntWalk.i64_in _ (by omega)
      have w2 : IntKind.i64.wrap (q : Int) = (q : Int) := IntWalk.i64_in _ (by omega)
      have w3 : IntKind.u8.wrap (r : Int) = (r : Int) := u8_small r (by omega)
      rw [← hr] at hst
      rw [← hq] at HNX
      obtain ⟨j, hj⟩ : ∃ j : Nat, j = s - 1 - k := ⟨_, rfl⟩
      have hj2 : (s : Int) - 1 - (k : Int) = (j : Int) := by omega
      have hjs : (j : Int) < (s : Int) := by omega
      have hj3 : IntKind.i64.wrap ((s : Int) - 1 - (k : Int)) = (j : Int) := by rw [hj2]; exact IntWalk.i64_in _ (by omega)
      have hj0 : (0 : Int) ≤ (j : Int) := by omega
      rw [← hj] at hc2 hf hst
      have HST := Lib.hid hst
      have HOW := Lib.hid hown
      clear hst hown hr hq hj hj2
      have b1 : (0 : Int) ≤ (k : Int) := by omega
      have b2 : (k : Int) < (s : Int) := by omega
      go_wp2
      go_roundw
      case rel =>
        refine ⟨k + 1, by omega, by go_num, ?_, ?_, hbel.setCell (Nat.le_refl _) _⟩
        · rw [HNX.out]
        · exact HST.out
      case measure => simp only [intOf]; omega
    · obtain rfl : k = s := by omega
      rw [bysTo_all, HP.out] at hown
      have hl : p.length = k := by rw [← HP.out, bysH_len]
      have hpx : ∀ x ∈ p, x < 256 := by rw [← HP.out]; exact bysH_lt N k
      have HO := Lib.hid hown
      have HL := Lib.hid hl
      have HX := Lib.hid hpx
      rw [HRR.out] at hy ⊢
      clear hown hl hpx HRR
      go_wp2
      go_ret2
      exact ⟨rfl, ⟨Rd.of_own HO.out, by simp, by rw [HL.out]; omega, by omega, HX.out⟩, hbel⟩
end Go.Proofs.Ytmedfelkoknadaa
