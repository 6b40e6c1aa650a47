/-
  Contract for the reference's Digits, where the number has digits: just these ten. Conditions: the number is at most 4294967295.
-/
import Derived.Test.YtghepddfjdillaaDigits
namespace Go.Proofs.Ytghepddfjdillaa
set_option linter.unusedVariables false
open Go.ChangeShapes Go.WideShapes Go.ChangeAt Go.RowKit

/-- What has been gathered behind k rounds. -/
def GatheredD (wr : World) (base n k : Nat) (v : Value) : Prop := ∃ g cap, v = .slice (some ⟨g, 0, none⟩) k cap ∧ wr.ownsRow base 5 1 (.slice (some ⟨g, 0, none⟩) k cap) k (U8 (decTo n k))

set_option maxRecDepth 20000 in
theorem refdigits_ok (n : Nat) (w : World) (hn : n ≤ 4294967295) :
    Calls Try.prog 13 #[.int .i64 n] w fun e w' => ∃ g cap, e = .returned (.tuple #[.slice (some ⟨g, 0, none⟩) 10 cap, .int .i64 0]) ∧
      Rd w' w'.heap.size (some ⟨g, 0, none⟩) (U8 (dec n)) ∧ Below w.heap.size w w' := by
  obtain ⟨i0, hi, hz0, hz1, hz2⟩ := info_parts infoU8
  go_enter Try.func13, Try.ntmps13
  go_wp2
  go_loopw [4, 5, 6] (fun v t i wr => ∃ k : Nat, k ≤ 10 ∧ i = .int .i64 k ∧ t = .int .i64 (1000000000 / 10 ^ k : Nat) ∧ GatheredD wr w.heap.size n k v ∧ Below w.heap.size w wr) (fun _ _ i _ => 10 - (intOf i).toNat)
  case atStart => exact ⟨0, Nat.zero_le _, rfl, by simp, ⟨_, _, rfl, World.ownsRow_lit w #[] 0 (Nat.le_refl _) (by decide) rfl⟩, (Below.refl _ _).alloc (Nat.le_refl _) _⟩
  case round =>
    obtain ⟨k, hk, rfl, rfl, ⟨g, cap, rfl, hown⟩, hbel⟩ := hrel
    by_cases hlt : k < 10
    · have hy2 : 1000000000 / 10 ^ (k + 1) = 1000000000 / 10 ^ k / 10 := by rw [Nat.pow_succ, Nat.div_div_eq_div_mul]
      have hb1 : 1 ≤ 1000000000 / 10 ^ k := by rw [ten_by k (by omega)]; exact Nat.pow_pos (by decide)
      have hb2 : 1000000000 / 10 ^ k ≤ 1000000000 := Nat.div_le_self _ _
      have hp : decTo n (k + 1) = decTo n k ++ [n / (1000000000 / 10 ^ k) % 10] := by rw [decTo_succ, digit, ten_by k (by omega)]
      generalize 1000000000 / 10 ^ k = y at *
      obtain ⟨q, hq⟩ : ∃ q, q = n / y := ⟨_, rfl⟩
      have hqlt : q ≤ 4294967295 := by rw [hq]; exact Nat.le_trans (Nat.div_le_self _ _) hn
      have hcast : ((n : Int) / (y : Int)) = (q : Int) := by rw [hq]; simp
      rw [← hq] at hp
      have HY := Lib.hid hy2
      have HP := Lib.hid hp
      clear hy2 hp hq
      have y1 : (1 : Int) ≤ (y : Int) := by omega
      have q1 : (n : Int) / (y : Int) ≤ 4294967295 := by rw [hcast]; omega
      have q0 : 0 ≤ (n : Int) / (y : Int) := by rw [hcast]; omega
      have hbs := hbel.size
      have HOWN := Lib.hid (own_below hown (below_lit wr #[.int .u8 ((q : Int) % 10)] 5))
      have hrdl := rd_lit wr #[.int .u8 ((q : Int) % 10)] 5
      have HRD := Lib.hid hrdl
      have hone : ∀ u ∈ [Value.int .u8 ((q : Int) % 10)], u.oneCell' = true := by
        intro u hu
        simp only [List.mem_cons, List.not_mem_nil, or_false] at hu
        subst hu; rfl
      clear hown hrdl
      go_wp2_with (at_builtin; refine wpList_append_rd _ rfl _ _ 22 rfl w.heap.size 5 i0 (.int .u8 0) 1 Try.underlying22 hi hz0 hz1 hz2 rfl _ k (U8 (decTo n k)) rfl HOWN.out _ _ 1 1 [.int .u8 ((q : Int) % 10)] rfl HRD.out rfl (fun h => by cases h) hone ?c3 ?c4 ?c5 ?_)
      case c3 => unfold maxLen; omega
      case c4 => omega
      case c5 => first | omega | exact Nat.le_trans hbs (below_lit wr _ _).size
      intro v' w1 hown' hgrow
      have hbel1 : Below w.heap.size w w1 := (hbel.alloc hbs _).grown hgrow (by simp; omega) (fun j hj => own_ge HOWN.out hj)
      have hown1 : w1.ownsRow w.heap.size 5 1 v' (k + 1) (U8 (decTo n (k + 1))) := by
        rw [HP.out, U8, List.map_append, List.map_cons, List.map_nil]
        have e : Value.int .u8 ((q % 10 : Nat) : Int) = .int .u8 ((q : Int) % 10) := by simp
        rw [e]
        exact hown'
      have hga : GatheredD w1 w.heap.size n (k + 1) v' := by
        obtain ⟨g', cap', e, _⟩ := hown1.form (by omega)
        subst e
        exact ⟨g', cap', rfl, hown1⟩
      have HG := Lib.hid hga
      clear hown' hgrow hown1 hga hbel
      go_wp2
      go_roundw
      case rel => exact ⟨k + 1, by omega, by go_num, by rw [HY.out]; go_num, HG.out, hbel1⟩
      case measure => simp [intOf]; omega
    · have ek : k = 10 := by omega
      subst ek
      have hall : decTo n 10 = dec n := rfl
      rw [hall] at hown
      have HR := Lib.hid (Rd.of_own hown)
      clear hown
      go_wp2
      go_ret2
      exact ⟨_, _, rfl, HR.out, hbel⟩
end Go.Proofs.Ytghepddfjdillaa
