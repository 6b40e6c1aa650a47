/-
  Contracts for the reference's Stations and Same. Conditions: for Same: the slices read as the same ints.
-/
import Derived.Test.YtnfdglejhmekeaaLineRefZones
import Derived.Test.YtnfdglejhmekeaaNats
import Derived.BigQuiet
namespace Go.Proofs.Ytnfdglejhmekeaa
set_option linter.unusedVariables false
open Go.ChangeShapes Go.WideShapes Go.ChangeAt Go.RowKit

set_option maxRecDepth 20000 in
theorem refstations_any (low high E : Int) (l : List Nat) (n : Nat) (hl : stV low high = l) (hn : n = l.length) (hE : stE low high = E) (w : World) : Calls Try.prog 18 #[.int .i64 low, .int .i64 high] w fun e w' => ∃ A c, e = .returned (.tuple #[.slice A n c, .int .i64 E]) ∧ Ns w' w'.heap.size l A c ∧ Below w.heap.size w w' := by
  obtain ⟨i0, hi, hz0, hz1, hz2⟩ := info_parts infoI64
  have HL := Lib.hid hl
  have HN := Lib.hid hn
  have HE := Lib.hid hE
  clear hl hn hE
  by_cases hok : okZ low high = true
  · have h3 := (okZ_iff _ _).1 hok
    have e0 : E = 0 := by rw [← HE.out, stE, if_pos hok]
    have HL2 := Lib.hid (show l = stL low high 40 by rw [← HL.out, stV, if_pos hok])
    subst e0
    have q1 : decide (low < 1) = false := decide_eq_false (by omega)
    have q2 : decide (high < low) = false := decide_eq_false (by omega)
    have q3 : decide (6 < high) = false := decide_eq_false (by omega)
    clear hok h3
    go_enter Try.func18, Try.ntmps18
    go_wp2
    go_loopw [6, 7] (fun v i wr => ∃ k : Nat, k ≤ 40 ∧ i = .int .i64 k ∧ wr.ownsRow w.heap.size 3 1 v (stL low high k).length (N64 (stL low high k)) ∧ Below w.heap.size w wr) (fun _ i _ => 40 - (intOf i).toNat)
    case atStart => exact ⟨0, by omega, rfl, World.ownsRow_lit w #[] 0 (Nat.le_refl _) (by decide) rfl, below_lit w _ _⟩
    case round =>
      obtain ⟨k, hk, rfl, hown, hbel⟩ := hrel
      by_cases hlt : k < 40
      · have hkN : isN (k : Int) = true := (isN_iff _).2 (by omega)
        have HZ := Lib.hid (show zoneV (k : Int) = zn (k : Int) by rw [zoneV, if_pos hkN])
        have HZE := Lib.hid (show zoneE (k : Int) = 0 by rw [zoneE, if_pos hkN])
        have b1 : (k : Int) < 40 := by omega
        have hlen := stL_len low high k
        have HOW := Lib.hid hown
        have HBL := Lib.hid hbel
        have hS := stL_succ low high k
        cases p1 : decide (low ≤ zn (k : Int)) <;> cases p2 : decide (zn (k : Int) ≤ high)
        all_goals
          have hin : inZ low high k = (decide (low ≤ zn (k : Int)) && decide (zn (k : Int) ≤ high)) := rfl
          rw [p1, p2] at hin
          rw [hin] at hS
          have HSS := Lib.hid hS
          clear hkN hown hbel hin hS
        case true.true =>
          obtain ⟨m, hm⟩ : ∃ m, m = (stL low high k).length := ⟨_, rfl⟩
          rw [← hm] at HOW
          have hm1 : m + 1 ≤ maxLen := by unfold maxLen; omega
          have hm2 : (m + 1) * 8 ≤ 140737488355328 := by omega
          have HM := Lib.hid hm
          clear hm
          have hsz := HBL.out.size
          go_wp2_with (first | (go_at_call 9; refine (refzone_any _ _ _ HZ.out HZE.out _).mono ?_; rintro e w1 ⟨rfl, rfl⟩) | (at_builtin; refine wpList_append_own _ rfl (.tmp 39) (.tmp 41) 32 rfl w.heap.size 3 i0 (.int .i64 0) 1 8 Try.underlying32 hi hz0 hz1 hz2 rfl (by decide) _ m (N64 (stL low high k)) rfl (HOW.out.alloc _) ⟨_, 0, none⟩ 1 1 [.int .i64 (k : Int)] rfl rfl (int_lit _ _) (int_one _) hm1 hm2 (by simp; omega) ?_))
          intro v8 w8 hown8 hg8 _
          have HO8 := Lib.hid (show w8.ownsRow w.heap.size 3 1 v8 (stL low high (k + 1)).length (N64 (stL low high (k + 1))) by
            rw [HSS.out]
            show w8.ownsRow w.heap.size 3 1 v8 (stL low high k ++ [k]).length (N64 (stL low high k ++ [k]))
            rw [N64_append, List.length_append, ← HM.out]
            exact hown8)
          have HB8 := Lib.hid ((HBL.out.alloc HBL.out.size _).grown hg8 (by simp; omega) (fun q hq => own_ge HOW.out hq))
          clear hown8 hg8
          go_wp2
          go_roundw
          case rel => exact ⟨k + 1, by omega, by go_num, HO8.out, HB8.out⟩
          case measure => simp [intOf]; omega
        all_goals
          go_wp2_with (go_at_call 9; refine (refzone_any _ _ _ HZ.out HZE.out _).mono ?_; rintro e w1 ⟨rfl, rfl⟩)
          go_roundw
          case rel => exact ⟨k + 1, by omega, by go_num, by rw [HSS.out]; exact HOW.out, HBL.out⟩
          case measure => simp [intOf]; omega
      · have e : k = 40 := by omega
        subst e
        obtain ⟨A, c, rfl, hlen, hns⟩ := ns_of_own hown
        have HNS := Lib.hid hns
        have hnn : (stL low high 40).length = n := by rw [HN.out, HL2.out]
        rw [hnn]
        have HBL := Lib.hid hbel
        clear hns hown hlen hbel hnn
        go_wp2
        go_ret2
        exact ⟨A, c, rfl, by rw [HL2.out]; exact HNS.out, HBL.out⟩
  · have e0 : E = 1 := by rw [← HE.out, stE, if_neg hok]
    have e1 : l = [] := by rw [← HL.out, stV, if_neg hok]
    have e2 : n = 0 := by rw [HN.out, e1]; rfl
    subst e0 e1 e2
    have hno : low < 1 ∨ (¬ low < 1 ∧ high < low) ∨ (¬ low < 1 ∧ ¬ high < low ∧ 6 < high) := by
      have : ¬ (1 ≤ low ∧ low ≤ high ∧ high ≤ 6) := fun h => hok ((okZ_iff _ _).2 h)
      omega
    clear hok
    have hend : ∀ w' : World, Below w.heap.size w w' → ∃ A c, Ending.returned (Value.tuple #[.slice none 0 0, .int .i64 1]) = .returned (.tuple #[.slice A 0 c, .int .i64 1]) ∧ Ns w' w'.heap.size [] A c ∧ Below w.heap.size w w' :=
      fun w' hb => ⟨none, 0, rfl, ⟨by intro k u hu; simp [N64] at hu, fun _ => rfl, by simp, by omega⟩, hb⟩
    have HEND := Lib.hid hend
    clear hend
    rcases hno with h | ⟨h, h2⟩ | ⟨h, h2, h4⟩
    all_goals
      go_enter Try.func18, Try.ntmps18
      go_wp2
      go_ret2
      exact HEND.out _ (Below.refl _ _)
set_option maxRecDepth 20000 in
theorem refsamen_eq (l : List Nat) (n : Nat) (hn : n = l.length) (A A' : Option Addr) (c c' : Nat) (w : World) (hA : Ns w w.heap.size l A c) (hA' : Ns w w.heap.size l A' c') :
    Calls Try.prog 19 #[.slice A n c, .slice A' n c'] w fun e w' => e = .returned (.bool true) ∧ Below w.heap.size w w' := by
  have HN := Lib.hid hn
  have HA := Lib.hid hA
  have HA' := Lib.hid hA'
  have h1 : n ≤ 9223372036854775807 := by have := hA.len; have := hA.cap; omega
  clear hn hA hA'
  go_enter Try.func19, Try.ntmps19
  go_wp2
  go_loopw [5] (fun i wr => ∃ k q : Nat, k ≤ n ∧ i = .int .i64 k ∧ wr = w.drewN q) (fun i _ => n - (intOf i).toNat)
  case atStart => exact ⟨0, 0, Nat.zero_le _, rfl, rfl⟩
  case round =>
    obtain ⟨k, q, hk, rfl, rfl⟩ := hrel
    by_cases hlt : k < n
    · obtain ⟨x, hx⟩ : ∃ x, l[k]? = some x := ⟨_, List.getElem?_eq_getElem (by rw [← HN.out]; exact hlt)⟩
      obtain ⟨ad, rfl, _, hc⟩ := HA.out.at hx
      obtain ⟨ad', rfl, _, hc'⟩ := HA'.out.at hx
      have b1 : (0 : Int) ≤ (k : Int) := by omega
      have b2 : (k : Int) < (n : Int) := by omega
      clear hx
      go_wp2
      go_quiet (fail)
      go_wp2
      go_roundw
      case rel => exact ⟨k + 1, _, by omega, by go_num, rfl⟩
      case measure => simp [intOf]; omega
    · have e : k = n := by omega
      go_wp2
      go_ret
      exact ⟨rfl, below_drewN (Below.refl _ _) _⟩
end Go.Proofs.Ytnfdglejhmekeaa
