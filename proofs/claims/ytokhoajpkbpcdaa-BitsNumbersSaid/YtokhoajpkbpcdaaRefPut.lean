/-
  Contract for the reference's Put: just the bytes that bits.Put gives, or the same error. Conditions: the numbers fit an int.
-/
import Derived.Test.YtokhoajpkbpcdaaRefWords
import Derived.Deep.AppendLies
namespace Go.Proofs.Ytokhoajpkbpcdaa
set_option linter.unusedVariables false
open Go.ChangeShapes Go.WideShapes Go.ChangeAt Go.RowKit

theorem refput_arg (n size : Int) (w : World) (h : size < 0 ∨ 8 < size ∨ n < 0) :
    Calls Try.prog 18 #[.int .i64 n, .int .i64 size] w fun e w' => e = .returned (.tuple #[.slice none 0 0, .int .i64 1]) ∧ w = w' := by
  by_cases h1 : size < 0
  · go_enter Try.func18, Try.ntmps18
    go_wp2
    go_ret2
    exact ⟨rfl, rfl⟩
  · by_cases h2 : 8 < size
    · clear h
      have h1' : 0 ≤ size := by omega
      go_enter Try.func18, Try.ntmps18
      go_wp2
      go_ret2
      exact ⟨rfl, rfl⟩
    · have h3 : n < 0 := by omega
      have h1' : 0 ≤ size := by omega
      have h2' : size ≤ 8 := by omega
      clear h h1 h2
      go_enter Try.func18, Try.ntmps18
      go_wp2
      go_ret2
      exact ⟨rfl, rfl⟩

/-- What Put has gathered behind k rounds. -/
def Gathered (wr : World) (base N k : Nat) (v : Value) : Prop := ∃ g cap, v = .slice (some ⟨g, 0, none⟩) k cap ∧ wr.ownsRow base 5 1 (.slice (some ⟨g, 0, none⟩) k cap) k (U8 (putB N k))

theorem refput_ok (N size : Nat) (w : World) (hN : N < 9223372036854775808) (hs : size ≤ 8) :
    Calls Try.prog 18 #[.int .i64 N, .int .i64 size] w fun e w' => (256 ^ size ≤ N ∧ e = .returned (.tuple #[.slice none 0 0, .int .i64 23]) ∨
      N < 256 ^ size ∧ ∃ g cap, e = .returned (.tuple #[.slice (some ⟨g, 0, none⟩) size cap, .int .i64 0]) ∧ w'.ownsRow w.heap.size 5 1 (.slice (some ⟨g, 0, none⟩) size cap) size (U8 (putB N size))) ∧ Below w.heap.size w w' := by
  obtain ⟨i0, hi, hz0, hz1, hz2⟩ := info_parts info5
  go_enter Try.func18, Try.ntmps18
  go_wp2
  go_loopw [0, 6, 7] (fun t v i wr => ∃ k : Nat, k ≤ size ∧ i = .int .i64 k ∧ t = .int .i64 (N / 256 ^ k : Nat) ∧ Gathered wr w.heap.size N k v ∧ Below w.heap.size w wr) (fun _ _ i _ => size - (intOf i).toNat)
  case atStart => exact ⟨0, Nat.zero_le _, rfl, by simp, ⟨_, _, rfl, World.ownsRow_lit w #[] 0 (Nat.le_refl _) (by decide) rfl⟩, (Below.refl _ _).alloc (Nat.le_refl _) _⟩
  case round =>
    obtain ⟨k, hk, rfl, rfl, ⟨g, cap, rfl, hown⟩, hbel⟩ := hrel
    have hy : N / 256 ^ k < 9223372036854775808 := Nat.lt_of_le_of_lt (Nat.div_le_self _ _) hN
    have hy2 : N / 256 ^ (k + 1) = N / 256 ^ k / 256 := by rw [Nat.pow_succ, Nat.div_div_eq_div_mul]
    have hp : putB N (k + 1) = N / 256 ^ k % 256 :: putB N k := rfl
    by_cases hlt : k < size
    · generalize N / 256 ^ k = y at *
      have HY := Lib.hid hy2
      have HP := Lib.hid hp
      clear hy2 hp
      have hrd := Rd.of_own hown
      have hnews : ∀ j u, (U8 (putB N k))[j]? = some u → (wr.alloc (.cells #[.int .u8 ((y : Int) % 256)] 5)).cell? ((⟨g, 0, none⟩ : Addr).add j) = some u := by
        intro j u hu
        obtain ⟨ad, e, hb1, hc1⟩ := hrd j u hu
        cases e
        rw [World.cell?_alloc_lt _ _ _ (by rw [add_block]; exact hb1)]
        exact hc1
      have hlen : (U8 (putB N k)).length = k * 1 := by simp [U8, length_putB]
      have hone : ∀ u ∈ U8 (putB N k), u.oneCell' = true := by
        intro u hu
        simp only [U8, List.mem_map] at hu
        obtain ⟨x, _, rfl⟩ := hu
        rfl
      have HL := Lib.hid hlen
      have HNW := Lib.hid hnews
      have hbs := hbel.size
      clear hlen hnews hrd
      go_wp2_with (at_builtin; refine wpList_append_own _ rfl _ _ 26 rfl w.heap.size 5 i0 (.int .u8 0) 1 1 Try.underlying26 hi hz0 hz1 hz2 rfl (by decide) _ 1 [.int .u8 ((y : Int) % 256)] rfl (World.ownsRow_lit wr #[.int .u8 ((y : Int) % 256)] 1 hbs (by decide) rfl) ⟨g, 0, none⟩ k cap (U8 (putB N k)) rfl HL.out HNW.out hone ?c3 ?c4 ?c5 ?_)
      case c3 => unfold maxLen; omega
      case c4 => omega
      case c5 => simp; omega
      intro v' w1 hown' hgrow hnil
      have hbel1 : Below w.heap.size w w1 := (hbel.alloc hbs _).grown hgrow (by simp; omega) (fun g hg => by simp [Value.ownBlock] at hg; omega)
      have hown1 : w1.ownsRow w.heap.size 5 1 v' (k + 1) (U8 (putB N (k + 1))) := by
        rw [HP.out, U8, List.map_cons, Nat.add_comm k 1]
        have e : Value.int .u8 ((y % 256 : Nat) : Int) = .int .u8 ((y : Int) % 256) := by simp
        rw [e]
        exact hown'
      have hga : Gathered w1 w.heap.size N (k + 1) v' := by
        obtain ⟨g', cap', e, _⟩ := hown1.form (by omega)
        subst e
        exact ⟨g', cap', rfl, hown1⟩
      have HG := Lib.hid hga
      clear hown' hgrow hnil hown hown1 hga hbel
      go_wp2
      go_roundw
      case rel => exact ⟨k + 1, by omega, by go_num, by rw [HY.out]; go_num, HG.out, hbel1⟩
      case measure => simp [intOf]; omega
    · have ek : k = size := by omega
      subst ek
      have ho : Hid (0 < N / 256 ^ k → 256 ^ k ≤ N) := fun h => by
        rcases Nat.lt_or_ge N (256 ^ k) with h1 | h1
        · rw [Nat.div_eq_of_lt h1] at h; omega
        · exact h1
      have ho2 : Hid (N / 256 ^ k = 0 → N < 256 ^ k) := fun h => by
        rcases Nat.lt_or_ge N (256 ^ k) with h1 | h1
        · exact h1
        · have := Nat.div_pos h1 (Nat.pow_pos (by omega)); omega
      generalize N / 256 ^ k = y at *
      by_cases hpos : 0 < y
      · clear hp hy2
        go_wp2
        go_ret2
        exact ⟨.inl ⟨ho.out hpos, rfl⟩, hbel⟩
      · have hz : y = 0 := by omega
        have HZ := ho2.out hz
        subst hz
        clear hp hy2 ho ho2 hpos
        have HZ2 := Lib.hid HZ
        have HO := Lib.hid hown
        clear HZ hown
        go_wp2
        go_ret2
        exact ⟨.inr ⟨HZ2.out, _, _, rfl, HO.out⟩, hbel⟩
end Go.Proofs.Ytokhoajpkbpcdaa
