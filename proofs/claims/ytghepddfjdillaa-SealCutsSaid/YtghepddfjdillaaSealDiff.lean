/-
  Contracts for Diff of package seal, for its closure, and for the reference's Diff. Conditions: the slices read as bytes; their lengths fit an int.
-/
import Derived.Test.YtghepddfjdillaaMem
import Derived.Test.YtghepddfjdillaaSealMath
import Derived.OneCell
import Derived.StillTailTactics
namespace Go.Proofs.Ytghepddfjdillaa
set_option linter.unusedVariables false
open Go.ChangeShapes Go.WideShapes Go.ChangeAt Go.RowKit

theorem seal_at {w : World} {B : Nat} {A : Option Addr} {l : List Nat} (h : Rd w B A (U8 l)) (k : Nat) (hk : k < l.length) : ∃ ad, A = some ad ∧ ad.block < B ∧ w.cell? (ad.add k) = some (.int .u8 ((l.getD k 0 : Nat) : Int)) := by
  obtain ⟨ad, e, hlt, hc⟩ := h k _ (U8_at l k hk)
  refine ⟨ad, e, hlt, ?_⟩
  rw [hc, List.getD_eq_getElem?_getD, List.getElem?_eq_getElem hk]
  rfl

theorem gather_any (x y d Bk : Nat) (w : World) (hv : w.heap[Bk]? = some (.cells #[.int .u8 (d : Int)] 5 (0, 0))) (hx : x < 256) (hy : y < 256) (hd : d < 256) :
    Calls Try.prog 16 #[.int .u8 x, .int .u8 y, .pointer (some ⟨Bk, 0, none⟩)] w fun e w' => e = .returned (.tuple #[]) ∧ w' = w.setCell ⟨Bk, 0, none⟩ (.int .u8 ((d ||| (x ^^^ y) : Nat) : Int)) := by
  have h1 := cell_of_one hv
  have h2 := free_of_one hv
  have hxy : x ^^^ y < 256 := Nat.xor_lt_two_pow (n := 8) hx hy
  have e1 := u8_xor_nat x y hx hy
  have e2 := u8_or_nat d (x ^^^ y) hd hxy
  clear hv
  go_enter Try.func16, Try.ntmps16
  go_wp2
  go_end0
  exact ⟨rfl, rfl⟩

theorem eq_cast (n m : Nat) : ((n : Int) == (m : Int)) = (n == m) := by
  by_cases h : n = m
  · subst h; simp
  · rw [(by simpa using h : (n == m) = false)]; simp; omega

theorem refdiff_any (a b : List Nat) (n m : Nat) (hn : n = a.length) (hm : m = b.length) (A A' : Option Addr) (c c' B : Nat) (w : World) (hA : Rd w B A (U8 a)) (hA' : Rd w B A' (U8 b)) (ha : ∀ x ∈ a, x < 256) (hb : ∀ x ∈ b, x < 256) (h1 : n ≤ 9223372036854775807) (h2 : m ≤ 9223372036854775807) :
    Calls Try.prog 8 #[.slice A n c, .slice A' m c'] w fun e w' => e = .returned (.tuple #[.int .u8 (dn a b (min n m) : Nat), .bool (n == m)]) ∧ Below w.heap.size w w' := by
  have HN := Lib.hid hn
  have HM := Lib.hid hm
  have HA := Lib.hid ha
  have HB := Lib.hid hb
  clear hn hm ha hb
  go_enter Try.func8, Try.ntmps8
  go_wp2
  go_loopw [6, 7] (fun v i wr => ∃ k d : Nat, k ≤ n ∧ k ≤ m ∧ i = .int .i64 k ∧ v = .int .u8 (dn a b k : Nat) ∧ wr = w.drewN d) (fun _ i _ => n - (intOf i).toNat)
  case atStart => exact ⟨0, 0, Nat.zero_le _, Nat.zero_le _, rfl, rfl, rfl⟩
  case round =>
    obtain ⟨k, d, hk, hk', rfl, rfl, rfl⟩ := hrel
    by_cases hlt : k < n ∧ k < m
    · obtain ⟨hlt, hlt'⟩ := hlt
      obtain ⟨ad, rfl, _, hc⟩ := seal_at hA k (by rw [← HN.out]; exact hlt)
      obtain ⟨ad', rfl, _, hc'⟩ := seal_at hA' k (by rw [← HM.out]; exact hlt')
      have hx := seal_getD_lt HA.out k
      have hy := seal_getD_lt HB.out k
      have hd := dn_lt HA.out HB.out k
      have hnx : dn a b (k + 1) = dn a b k ||| (a.getD k 0 ^^^ b.getD k 0) := rfl
      have HNX := Lib.hid hnx
      clear hA hA' hnx
      generalize a.getD k 0 = x at *
      generalize b.getD k 0 = y at *
      generalize dn a b k = z at *
      have hxy : x ^^^ y < 256 := Nat.xor_lt_two_pow (n := 8) hx hy
      have e1 := u8_xor_nat x y hx hy
      have e2 := u8_or_nat z (x ^^^ y) hd hxy
      have b1 : (0 : Int) ≤ (k : Int) := by omega
      have b2 : (k : Int) < (n : Int) := by omega
      have b3 : (k : Int) < (m : Int) := by omega
      go_wp2
      go_quiet (fail)
      go_wp2
      go_roundw
      case rel => exact ⟨k + 1, _, by omega, by omega, by go_num, by rw [HNX.out], rfl⟩
      case measure => simp [intOf]; omega
    · have hmin : k = min n m := by omega
      have HMIN := Lib.hid hmin
      clear hmin
      rcases (show k = n ∨ (k < n ∧ k = m) by omega) with e | ⟨e, e'⟩
      · have c1 : ¬ ((k : Int) < (n : Int)) := by omega
        clear hlt
        go_wp2
        go_ret2
        exact ⟨by rw [eq_cast, ← HMIN.out, e]; rfl, below_drewN (Below.refl _ _) _⟩
      · have c1 : ((k : Int) < (n : Int)) := by omega
        have c2 : ¬ ((k : Int) < (m : Int)) := by omega
        clear hlt
        go_wp2
        go_ret2
        exact ⟨by rw [eq_cast, ← HMIN.out, e']; rfl, below_drewN (Below.refl _ _) _⟩

theorem diff_any (a b : List Nat) (n m : Nat) (hn : n = a.length) (hm : m = b.length) (A A' : Option Addr) (c c' : Nat) (w : World) (hA : Rd w w.heap.size A (U8 a)) (hA' : Rd w w.heap.size A' (U8 b)) (ha : ∀ x ∈ a, x < 256) (hb : ∀ x ∈ b, x < 256) (h1 : n ≤ 9223372036854775807) (h2 : m ≤ 9223372036854775807) :
    Calls Try.prog 7 #[.slice A n c, .slice A' m c'] w fun e w' => e = .returned (.tuple #[.int .u8 (dn a b (min n m) : Nat), .bool (n == m)]) ∧ Below w.heap.size w w' := by
  have HN := Lib.hid hn
  have HM := Lib.hid hm
  have HA := Lib.hid ha
  have HB := Lib.hid hb
  clear hn hm ha hb
  rcases Nat.lt_or_ge m n with hmn | hmn
  all_goals
    go_enter Try.func7, Try.ntmps7
    go_wp2
    go_loopw [8, 15] (fun _ i wr => ∃ k : Nat, k ≤ n ∧ k ≤ m ∧ i = .int .i64 k ∧ wr.heap[w.heap.size]? = some (.cells #[.int .u8 (dn a b k : Nat)] 5 (0, 0)) ∧ Below w.heap.size w wr) (fun _ i _ => n - (intOf i).toNat)
    case atStart => exact ⟨0, Nat.zero_le _, Nat.zero_le _, rfl, heap_alloc_new w _, (Below.refl _ _).alloc (Nat.le_refl _) _⟩
    case round =>
      obtain ⟨k, hk, hk', rfl, hv, hbel⟩ := hrel
      by_cases hlt : k < n ∧ k < m
      · obtain ⟨hlt, hlt'⟩ := hlt
        obtain ⟨ad, rfl, had, hc⟩ := seal_at (hA.below hbel) k (by rw [← HN.out]; exact hlt)
        obtain ⟨ad', rfl, had', hc'⟩ := seal_at (hA'.below hbel) k (by rw [← HM.out]; exact hlt')
        have hx := seal_getD_lt HA.out k
        have hy := seal_getD_lt HB.out k
        have hd := dn_lt HA.out HB.out k
        have hnx : dn a b (k + 1) = dn a b k ||| (a.getD k 0 ^^^ b.getD k 0) := rfl
        have HNX := Lib.hid hnx
        clear hA hA' hnx
        generalize a.getD k 0 = x at *
        generalize b.getD k 0 = y at *
        generalize dn a b k = z at *
        have b1 : (0 : Int) ≤ (k : Int) := by omega
        have b2 : (k : Int) < (n : Int) := by omega
        have b3 : (k : Int) < (m : Int) := by omega
        have HV := Lib.hid hv
        have HBL := Lib.hid hbel
        clear hv hbel
        go_wp2
        refine wp_region_still_tail 9 (by kernel_rfl) (by kernel_rfl) ?_
        simp only [List.take_succ_cons, List.take_zero, List.drop_succ_cons, List.drop_zero]
        repeat still_step
        refine wpStill_nil ?_
        change wpList _ _ _ _ _ wr.drew
        go_wp2_with fail
        refine (gather_any x y z w.heap.size wr.drew HV.out hx hy hd).mono ?_
        rintro e w1 ⟨rfl, rfl⟩
        go_wp2
        go_roundw
        case rel => exact ⟨k + 1, by omega, by omega, by go_num, by rw [HNX.out]; exact one_setCell HV.out, (HBL.out.drew).setCell (Nat.le_refl _) _⟩
        case measure => simp [intOf]; omega
      · have hmin : k = min n m := by omega
        have hcell := cell_of_one hv
        have HMIN := Lib.hid hmin
        have c2 : k = n ∨ k = m := by omega
        have c1 : ¬ (k < min n m) := by omega
        clear hmin hlt hv
        rcases c2 with rfl | rfl
        all_goals
          go_wp2 <;> (go_ret2; exact ⟨by rw [eq_cast, ← HMIN.out]; rfl, hbel⟩)
end Go.Proofs.Ytghepddfjdillaa
