/-
  Contract for the reference's Words: just the words that bits.Words gives. Conditions: at most 4000 bytes.
-/
import Derived.Test.YtdpijlkhcagfaaaDoorMem
namespace Go.Proofs.YtdpijlkhcagfaaaDoor
set_option linter.unusedVariables false
open Go.ChangeShapes Go.WideShapes Go.ChangeAt Go.RowKit

theorem refwords_bad (l : List Nat) (A : Option Addr) (c : Nat) (w : World) (hl : l.length ≤ 4000) (h4 : l.length % 4 ≠ 0) :
    Calls Tryd.prog 46 #[.slice A l.length c] w fun e w' => e = .returned (.tuple #[.slice none 0 0, .int .i64 1]) ∧ w = w' := by
  go_enter Tryd.func46, Tryd.ntmps46
  go_wp2
  go_ret2
  exact ⟨rfl, rfl⟩

theorem valB_step (l : List Nat) (k j : Nat) (hj : j < 4) (h : 4 * k + 4 ≤ l.length) : valB ((l.drop (4 * k)).take (j + 1)) = valB ((l.drop (4 * k)).take j) * 256 + l[4 * k + j] := by
  rw [List.take_succ_eq_append_getElem (by simp; omega), valB_snoc]
  simp
theorem valB_room (l : List Nat) (hl : ∀ x ∈ l, x < 256) (k j : Nat) (hj : j < 4) : valB ((l.drop (4 * k)).take j) < 16777216 := by
  have h := valB_lt ((l.drop (4 * k)).take j) (fun x hx => hl x (List.mem_of_mem_drop (List.mem_of_mem_take hx)))
  have h2 : 256 ^ ((l.drop (4 * k)).take j).length ≤ 256 ^ 3 := Nat.pow_le_pow_right (by omega) (by simp; omega)
  omega
theorem wordAt_whole (l : List Nat) (k : Nat) : wordAt l l.length k = valB ((l.drop (4 * k)).take 4) := by
  unfold wordAt; rw [List.take_length]

theorem refwords_ok (l : List Nat) (A : Option Addr) (c : Nat) (w : World) (hA : Rd w w.heap.size A (U8 l)) (hb : ∀ x ∈ l, x < 256) (hl : l.length ≤ 4000) (h4 : l.length % 4 = 0) :
    Calls Tryd.prog 46 #[.slice A l.length c] w fun e w' => ∃ v, e = .returned (.tuple #[v, .int .i64 0]) ∧
      w'.ownsRow w.heap.size 22 1 v (l.length / 4) (U32 (wordsOf l)) ∧ Below w.heap.size w w' := by
  obtain ⟨i0, hi, hz0, hz1, hz2⟩ := info_parts infoU32
  obtain ⟨n, hn⟩ : ∃ n, n = l.length := ⟨_, rfl⟩
  rw [← hn] at hl h4 ⊢
  obtain ⟨m, hm⟩ : ∃ m, m = n / 4 := ⟨_, rfl⟩
  have HN := Lib.hid hn
  have HM := Lib.hid hm
  have HB := Lib.hid hb
  have hmn : 4 * m ≤ n := by omega
  have hnm : n ≤ 4 * m := by omega
  rw [← hm]
  clear hn hm hb
  have hb4 : ((n : Int) % 4 != 0) = false := by simp; omega
  go_enter Tryd.func46, Tryd.ntmps46
  go_wp2
  go_loopw [4, 5] (fun v i wr => ∃ k : Nat, k ≤ m ∧ i = .int .i64 (4 * k : Nat) ∧ wr.ownsRow w.heap.size 22 1 v k (U32 (wordsUpto l k n)) ∧ Below w.heap.size w wr) (fun _ i _ => n - (intOf i).toNat)
  case atStart => exact ⟨0, Nat.zero_le _, rfl, World.ownsRow_lit w #[] 0 (Nat.le_refl _) (by decide) rfl, (Below.refl _ _).alloc (Nat.le_refl _) _⟩
  case round =>
    obtain ⟨k, hk, rfl, hown, hbel⟩ := hrel
    by_cases hlt : k < m
    · have hkn : 4 * k + 4 ≤ n := by omega
      go_wp2
      go_loop [6, 7] (fun x t => ∃ j : Nat, j ≤ 4 ∧ t = .int .i64 j ∧ x = .int .u32 (valB ((l.drop (4 * k)).take j) : Nat)) (fun _ t => 4 - (intOf t).toNat)
      case atStart => exact ⟨0, Nat.zero_le _, rfl, rfl⟩
      case round =>
        obtain ⟨j, hj, rfl, rfl⟩ := hrel
        by_cases hj4 : j < 4
        · have hkl : 4 * k + j < l.length := by rw [← HN.out]; omega
          obtain ⟨ad, rfl, hab, hc0⟩ := hA (4 * k + j) _ (U8_at l (4 * k + j) hkl)
          have hc : wr.cell? (ad.add (4 * k + j)) = some (.int .u8 (l[4 * k + j] : Nat)) := (hbel.cell (by rw [add_block]; exact hab)).trans hc0
          have hx := HB.out _ (List.getElem_mem hkl)
          have hy := valB_room l HB.out k j hj4
          have hs := valB_step l k j hj4 (by rw [← HN.out]; exact hkn)
          generalize l[4 * k + j] = x at *
          generalize valB ((l.drop (4 * k)).take j) = y at *
          have HS := Lib.hid hs
          clear hs hc0 hA
          go_wp2
          go_round
          case rel => exact ⟨j + 1, by omega, by go_num, by rw [HS.out]; go_num⟩
          case measure => simp [intOf]; omega
        · have e4 : j = 4 := by omega
          subst e4
          obtain ⟨y, hy⟩ : ∃ y, y = valB ((l.drop (4 * k)).take 4) := ⟨_, rfl⟩
          have HY := Lib.hid hy
          rw [← hy]
          clear hy
          go_wp2_with (at_builtin; refine wpList_append_own _ rfl _ _ 32 rfl w.heap.size 22 i0 (.int .u32 0) 1 4 Tryd.underlying32 hi hz0 hz1 hz2 rfl (by decide) _ _ _ rfl (hown.alloc _) ⟨wr.heap.size, 0, none⟩ 1 1 [.int .u32 (y : Int)] rfl rfl ?c1 ?c2 ?c3 ?c4 ?c5 ?_)
          case c2 => first | rfl | (intro u hu; simp at hu; subst hu; rfl)
          case c3 => unfold maxLen; omega
          case c4 => omega
          case c5 => have := hbel.size; simp; omega
          intro v' w1 hown' hgrow _
          have hbel1 : Below w.heap.size w w1 := (hbel.alloc hbel.size _).grown hgrow (by have := hbel.size; simp; omega) (fun g hg => own_ge hown hg)
          have hown1 : w1.ownsRow w.heap.size 22 1 v' (k + 1) (U32 (wordsUpto l (k + 1) n)) := by
            rw [wordsUpto_succ, U32, List.map_append]
            rw [HN.out, wordAt_whole, ← HY.out, ← HN.out]
            exact hown'
          clear hown' hgrow hown hbel
          go_wp2
          go_roundw
          case rel => exact ⟨k + 1, by omega, by go_num, hown1, hbel1⟩
          case measure => simp [intOf]; omega
    · have e : wordsUpto l k n = wordsOf l := by
        have e1 : k = m := by omega
        rw [e1, HM.out, HN.out]; rfl
      have ek : k = m := by omega
      rw [e, ek] at hown
      have HO := Lib.hid hown
      clear e ek hown
      go_wp2
      go_ret2
      exact ⟨_, rfl, HO.out, hbel⟩
end Go.Proofs.YtdpijlkhcagfaaaDoor
