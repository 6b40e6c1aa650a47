/-
  Contract for the reference's Put: the digits, or the document's error. Conditions: the number fits an int.
-/
import Derived.Test.YtekgoleadblhhaaBcdVals
namespace Go.Proofs.Ytekgoleadblhhaa
set_option linter.unusedVariables false
open Go.ChangeShapes Go.WideShapes Go.ChangeAt Go.RowKit

theorem rput_arg (n s : Int) (w : World) (h : n < 0 ∨ s < 0 ∨ 18 < s) : Calls Try.prog 9 #[.int .i64 n, .int .i64 s] w fun e w' => e = .returned (.tuple #[.slice none 0 0, .int .i64 1]) ∧ w = w' := by
  by_cases h1 : n < 0
  · clear h
    go_enter Try.func9, Try.ntmps9
    go_wp2
    go_ret2
    exact ⟨rfl, rfl⟩
  by_cases h2 : s < 0
  · have h1' : 0 ≤ n := by omega
    clear h h1
    go_enter Try.func9, Try.ntmps9
    go_wp2
    go_ret2
    exact ⟨rfl, rfl⟩
  have h1' : 0 ≤ n := by omega
  have h2' : 0 ≤ s := by omega
  have h3 : 18 < s := by omega
  clear h h1 h2
  go_enter Try.func9, Try.ntmps9
  go_wp2
  go_ret2
  exact ⟨rfl, rfl⟩
/-- What Put has gathered behind k rounds. -/
def GathD (wr : World) (base N k : Nat) (v : Value) : Prop := ∃ g cap, v = .slice (some ⟨g, 0, none⟩) k cap ∧ wr.ownsRow base 5 1 (.slice (some ⟨g, 0, none⟩) k cap) k (U8 (dg N k))
set_option maxRecDepth 100000 in
set_option maxHeartbeats 1600000 in
theorem rput_fit (N s : Nat) (E : Int) (p : List Nat) (hE : putE N s = E) (hp : putL N s = p) (w : World) (hN : N < 9223372036854775808) (hs : s ≤ 18) :
    Calls Try.prog 9 #[.int .i64 N, .int .i64 s] w fun e w' => ∃ A c, e = .returned (.tuple #[.slice A (p.length : Nat) c, .int .i64 E]) ∧ Bs w' w'.heap.size p A c ∧ Below w.heap.size w w' := by
  obtain ⟨i0, hi, hz0, hz1, hz2⟩ := info_parts infoU8
  have HE := Lib.hid hE
  have HP := Lib.hid hp
  clear hE hp
  go_enter Try.func9, Try.ntmps9
  go_wp2
  go_loopw [0, 6, 7] (fun t v i wr => ∃ k : Nat, k ≤ s ∧ i = .int .i64 k ∧ t = .int .i64 (N / 10 ^ k : Nat) ∧ GathD wr w.heap.size N k v ∧ Below w.heap.size w wr) (fun _ _ i _ => s - (intOf i).toNat)
  case atStart => exact ⟨0, Nat.zero_le _, rfl, by simp, ⟨_, _, rfl, World.ownsRow_lit w #[] 0 (Nat.le_refl _) (by decide) rfl⟩, (Below.refl _ _).alloc (Nat.le_refl _) _⟩
  case round =>
    obtain ⟨k, hk, rfl, rfl, ⟨g, cap, rfl, hown⟩, hbel⟩ := hrel
    have hy : N / 10 ^ k < 9223372036854775808 := Nat.lt_of_le_of_lt (Nat.div_le_self _ _) hN
    have hy2 : N / 10 ^ (k + 1) = N / 10 ^ k / 10 := by rw [Nat.pow_succ, Nat.div_div_eq_div_mul]
    have hp : dg N (k + 1) = N / 10 ^ k % 10 :: dg N k := rfl
    by_cases hlt : k < s
    · generalize N / 10 ^ k = y at *
      have HY := Lib.hid hy2
      have HPP := Lib.hid hp
      clear hy2 hp
      have hrd := Rd.of_own hown
      have hnews : ∀ j u, (U8 (dg N k))[j]? = some u → (wr.alloc (.cells #[.int .u8 ((y : Int) % 10)] 5)).cell? ((⟨g, 0, none⟩ : Addr).add j) = some u := by
        intro j u hu
        obtain ⟨ad, e, hb1, hc1⟩ := hrd j u hu
        cases e
        rw [World.cell?_alloc_lt _ _ _ (by rw [add_block]; exact hb1)]
        exact hc1
      have hlen : (U8 (dg N k)).length = k * 1 := by simp [U8, dg_len]
      have HL := Lib.hid hlen
      have HNW := Lib.hid hnews
      have hbs := hbel.size
      clear hlen hnews hrd
      go_wp2_with (at_builtin; refine wpList_append_own _ rfl _ _ 22 rfl w.heap.size 5 i0 (.int .u8 0) 1 1 Try.underlying22 hi hz0 hz1 hz2 rfl (by decide) _ 1 [.int .u8 ((y : Int) % 10)] rfl (World.ownsRow_lit wr #[.int .u8 ((y : Int) % 10)] 1 hbs (by decide) rfl) ⟨g, 0, none⟩ k cap (U8 (dg N k)) rfl HL.out HNW.out (U8_one _) ?c3 ?c4 ?c5 ?_)
      case c3 => unfold maxLen; omega
      case c4 => omega
      case c5 => simp; omega
      intro v' w1 hown' hgrow hnil
      have hbel1 : Below w.heap.size w w1 := (hbel.alloc hbs _).grown hgrow (by simp; omega) (fun g hg => by simp [Value.ownBlock] at hg; omega)
      have hown1 : w1.ownsRow w.heap.size 5 1 v' (k + 1) (U8 (dg N (k + 1))) := by
        rw [HPP.out, U8, List.map_cons, Nat.add_comm k 1]
        have e : Value.int .u8 ((y % 10 : Nat) : Int) = .int .u8 ((y : Int) % 10) := by simp
        rw [e]
        exact hown'
      have hga : GathD w1 w.heap.size N (k + 1) v' := by
        obtain ⟨g', cap', e, _⟩ := hown1.form (by omega)
        subst e
        exact ⟨g', cap', rfl, hown1⟩
      have HG := Lib.hid hga
      clear hown' hgrow hnil hown hown1 hga hbel
      go_wp2
      go_roundw
      case rel => exact ⟨k + 1, by omega, by go_num, by rw [HY.out]; go_num, HG.out, hbel1⟩
      case measure => simp [intOf]; omega
    · have ek : k = s := by omega
      subst ek
      have HO := Lib.hid hown
      clear hp hy2 hown
      by_cases hov : 10 ^ k ≤ N
      · have hpos : 0 < N / 10 ^ k := Nat.div_pos hov (pow_pos10 k)
        obtain ⟨e1, e2⟩ := put_over hs hov
        obtain rfl : E = 23 := by rw [← HE.out, e1]
        obtain rfl : p = [] := by rw [← HP.out, e2]
        clear HE HP e1 e2 hov
        generalize N / 10 ^ k = y at *
        go_wp2
        go_ret2
        exact ⟨none, 0, rfl, bs_nil _, hbel⟩
      · have hz : N / 10 ^ k = 0 := Nat.div_eq_of_lt (by omega)
        obtain ⟨e1, e2⟩ := put_ok hs (show N < 10 ^ k by omega)
        obtain rfl : E = 0 := by rw [← HE.out, e1]
        have hpl : p = dg N k := by rw [← HP.out, e2]
        have hl : p.length = k := by rw [hpl, dg_len]
        have HPL := Lib.hid hpl
        have HL := Lib.hid hl
        rw [hz]
        clear HE HP e1 e2 hov hpl hl hz
        go_wp2
        go_ret2
        refine ⟨some ⟨g, 0, none⟩, cap, by rw [HL.out]; rfl, ?_, hbel⟩
        rw [HPL.out]
        exact bs_own HO.out (fun x hx => by have := dg_lt N k x hx; omega)
theorem rput_any (n s : Int) (E : Int) (p : List Nat) (hE : putE n s = E) (hp : putL n s = p) (w : World) (hn : n ≤ 9223372036854775807) :
    Calls Try.prog 9 #[.int .i64 n, .int .i64 s] w fun e w' => ∃ A c, e = .returned (.tuple #[.slice A (p.length : Nat) c, .int .i64 E]) ∧ Bs w' w'.heap.size p A c ∧ Below w.heap.size w w' := by
  by_cases h : n < 0 ∨ s < 0 ∨ 18 < s
  · obtain ⟨e1, e2⟩ := put_arg h
    obtain rfl : E = 1 := by rw [← hE, e1]
    obtain rfl : p = [] := by rw [← hp, e2]
    refine (rput_arg n s w h).mono ?_
    rintro e w1 ⟨rfl, rfl⟩
    exact ⟨none, 0, rfl, bs_nil _, Below.refl _ _⟩
  · obtain ⟨N, rfl⟩ : ∃ N : Nat, n = N := ⟨n.toNat, by omega⟩
    obtain ⟨S, rfl⟩ : ∃ S : Nat, s = S := ⟨s.toNat, by omega⟩
    exact rput_fit N S E p hE hp w (by omega) (by omega)
end Go.Proofs.Ytekgoleadblhhaa
