/-
  Contracts for the landed values and ofSigns: the map of the signs' values; the number that signs are. Conditions: three signs at most.
-/
import Derived.Test.YtmedfelkoknadaaFortyPSmall
import Derived.Maps.OwnIn
import Derived.Maps.OwnSet
import Derived.Maps.Views
namespace Go.Proofs.Ytmedfelkoknadaa
set_option linter.unusedVariables false
set_option linter.unusedSimpArgs false
open Go.ChangeShapes Go.WideShapes Go.ChangeAt Go.RowKit

/-- The signs' values as a map that is filled sign by sign. -/
def sD {H : Type} : Nat → DataW H
  | 0 => .map []
  | k + 1 => (sD k).put (.int .u8 ((sg k : Nat) : Int)) (.lit (.int .i64 (k : Int)))
theorem sD_map {H : Type} : ∀ k, Maps.IsMap (sD (H := H) k)
  | 0 => Maps.isMap_empty
  | k + 1 => (sD_map k).put _ _
theorem skey_ne {s x : Nat} (h : s ≠ x) : Lit.int .u8 (s : Int) ≠ Lit.int .u8 (x : Int) := by
  intro e
  injection e with _ e
  exact h (by omega)
theorem sD_at {H : Type} (c : Nat) (z : DataW H) : ∀ k, k ≤ 45 → vl c < k → (sD k).atKey (.int .u8 (c : Int)) z = .lit (.int .i64 ((vl c : Nat) : Int))
  | 0, _, h => absurd h (by omega)
  | k + 1, hk, h => by
    by_cases e : vl c = k
    · have hs : sg k = c := by rw [← e]; exact sg_vl (by omega)
      rw [sD, hs, e]
      exact Maps.atKey_put_same (sD_map k) (by simp [WideAt.IsKeyLit]) _ _
    · have hs : c ≠ sg k := by rintro rfl; exact e (vl_sg k (by omega))
      rw [sD]
      exact (Maps.atKey_put_other (skey_ne hs) _ _).trans (sD_at c z k (by omega) (by omega))
theorem sD_has {H : Type} (c : Nat) : ∀ k, k ≤ 45 → Maps.has (sD (H := H) k) (.int .u8 (c : Int)) = decide (vl c < k)
  | 0, _ => rfl
  | k + 1, hk => by
    by_cases e : vl c = k
    · have hs : sg k = c := by rw [← e]; exact sg_vl (by omega)
      rw [sD, hs, Maps.has_put_same (sD_map k) (by simp [WideAt.IsKeyLit]), e]
      simp
    · have hs : c ≠ sg k := by rintro rfl; exact e (vl_sg k (by omega))
      rw [sD, Maps.has_put_other (skey_ne hs), sD_has c k (by omega)]
      have : (vl c < k) = (vl c < k + 1) := by apply propext; omega
      simp only [this]
def sMap {H : Type} : DataW H := sD 45
theorem sMap_has {H : Type} (c : Nat) : Maps.has (sMap (H := H)) (.int .u8 (c : Int)) = okS c := sD_has c 45 (Nat.le_refl _)
theorem sMap_at {H : Type} {c : Nat} (h : okS c = true) (z : DataW H) : (sMap (H := H)).atKey (.int .u8 (c : Int)) z = .lit (.int .i64 ((vl c : Nat) : Int)) := sD_at c z 45 (Nat.le_refl _) (okS_lt h)
theorem u8_wf {s : Nat} (h : s < 256) : (Lit.int .u8 (s : Int)).wf = true := by
  simp [Lit.wf, IntKind.min, IntKind.max, IntKind.signed, IntKind.bits]
  omega
theorem si64_wf {s : Nat} (h : s < 9223372036854775808) : (Lit.int .i64 (s : Int)).wf = true := by
  simp only [Lit.wf, IntKind.min, IntKind.max, IntKind.signed, IntKind.bits, Bool.and_eq_true, decide_eq_true_eq, if_true]
  omega
/-- The map of the signs lies in block g. -/
abbrev SMap (w : World) (g : Nat) : Prop := w.ownsMap Try.prog 5 (plainElem (H := Unit) Try.prog 3) g 45 sMap
set_option maxRecDepth 100000 in
set_option maxHeartbeats 1600000 in
theorem pvalues_any (w : World) : Calls Try.prog 18 #[] w fun e w' => e = .returned (.map (some w.heap.size)) ∧ SMap w' w.heap.size ∧ Below w.heap.size w w' := by
  have hmm := @run_makeMap Try.prog
  go_enter Try.func18, Try.ntmps18
  go_wp2
  go_loopw [4] (fun i wr => ∃ k : Nat, k ≤ 45 ∧ i = .int .i64 (k : Int) ∧ wr.ownsMap Try.prog 5 (plainElem (H := Unit) Try.prog 3) w.heap.size k (sD k) ∧ Below w.heap.size w wr) (fun i _ => 45 - (intOf i).toNat)
  case atStart => exact ⟨0, by omega, rfl, World.ownsMap_made w Try.prog 5 (plainElem (H := Unit) Try.prog 3), (Below.refl _ w).alloc (Nat.le_refl _) _⟩
  case round =>
    obtain ⟨k, hk, rfl, hown, hbel⟩ := hrel
    by_cases hlt : k < 45
    · have hkey := Maps.keyOf_int_mk (P := Try.prog) Try.underlying5 (u8_wf (sg_lt k))
      have hix := run_index_sg k hlt
      have hwf := si64_wf (s := k) (by omega)
      have HBL := Lib.hid hbel
      clear hbel
      go_wp2_with (at_mapUpdate; refine wpList_mapUpdate_own _ rfl _ _ _ 36 rfl 5 3 (Maps.int_keyed Try.underlying5) Try.underlying36 _ w.heap.size k _ rfl hown (by unfold maxLen; omega) _ _ _ rfl rfl hkey _ [] (plainElem_int Try.underlying3 hwf) ?_; intro w1 hown1 hgrow1)
      have HO := Lib.hid hown1
      have HB := Lib.hid (HBL.out.grown hgrow1 HBL.out.size (fun k e => by cases e; exact Nat.le_refl _))
      clear hown1 hgrow1 hown HBL
      go_wp2
      go_roundw
      case rel => exact ⟨k + 1, by omega, by go_num, HO.out, HB.out⟩
      case measure => simp [intOf]; omega
    · obtain rfl : k = 45 := by omega
      have HO := Lib.hid hown
      have HB := Lib.hid hbel
      clear hown hbel
      go_wp2
      go_ret
      exact ⟨rfl, HO.out, HB.out⟩

/-- The number that signs are, the lowest one first. -/
def nS : List Nat → Nat
  | [] => 0
  | c :: r => vl c + 45 * nS r
def okL (l : List Nat) : Bool := l.all okS
theorem nS_snoc : ∀ (l : List Nat) (c : Nat), nS (l ++ [c]) = nS l + 45 ^ l.length * vl c
  | [], c => by simp [nS]
  | x :: l, c => by
    rw [List.cons_append, nS, nS, nS_snoc l c, List.length_cons, Nat.pow_succ, Nat.mul_add, ← Nat.add_assoc, ← Nat.mul_assoc, Nat.mul_comm 45 (45 ^ l.length)]
theorem nS_lt : ∀ (l : List Nat), l.length ≤ 3 → nS l < 100000
  | [], _ => by decide
  | [a], _ => by have := vl_le a; simp [nS]; omega
  | [a, b], _ => by have := vl_le a; have := vl_le b; simp [nS]; omega
  | [a, b, c], _ => by have := vl_le a; have := vl_le b; have := vl_le c; simp [nS]; omega
  | _ :: _ :: _ :: _ :: _, h => by simp at h
theorem okL_snoc (l : List Nat) (c : Nat) : okL (l ++ [c]) = (okL l && okS c) := by simp [okL]
theorem okL_bad {l : List Nat} {k c : Nat} (h : l[k]? = some c) (hc : okS c = false) : okL l = false := by
  cases h1 : okL l with
  | false => rfl
  | true => rw [okL, List.all_eq_true] at h1; rw [h1 c (List.mem_of_getElem? h)] at hc; cases hc
set_option maxRecDepth 100000 in
set_option maxHeartbeats 1600000 in
theorem pofSigns_any (l : List Nat) (n : Nat) (hn : n = l.length) (h3 : n ≤ 3) (E : Bool) (N : Nat) (hE : okL l = E) (hN : (if E then nS l else 0) = N) (A : Option Addr) (c g : Nat) (w : World) (hA : Bs w w.heap.size l A c) (hown : SMap w g) :
    Calls Try.prog 19 #[.slice A n c, .map (some g)] w fun e w' => e = .returned (.tuple #[.int .i64 N, .bool E]) ∧ w = w' := by
  have HN := Lib.hid hn
  have HA := Lib.hid hA
  have HE := Lib.hid hE
  have HNN := Lib.hid hN
  clear hn hA hE hN
  go_enter Try.func19, Try.ntmps19
  go_wp2
  go_loop [6, 7, 9, 14] (fun t p _ i => ∃ k : Nat, k ≤ n ∧ i = .int .i64 k ∧ t = .int .i64 (nS (l.take k) : Nat) ∧ p = .int .i64 (45 ^ k : Nat) ∧ okL (l.take k) = true) (fun _ _ _ i => n - (intOf i).toNat)
  case atStart => exact ⟨0, Nat.zero_le _, rfl, rfl, rfl, rfl⟩
  case round =>
    obtain ⟨k, hk, rfl, rfl, rfl, hok⟩ := hrel
    have HOK := Lib.hid hok
    clear hok
    by_cases hlt : k < n
    · have hkl : k < l.length := by rw [← HN.out]; exact hlt
      obtain ⟨x, hx⟩ : ∃ x, l[k]? = some x := ⟨_, List.getElem?_eq_getElem hkl⟩
      obtain ⟨ad, rfl, hb, hc⟩ := HA.out.rd k (.int .u8 (x : Int)) (by rw [U8, List.getElem?_map, hx]; rfl)
      have hx2 : x < 256 := HA.out.lt x (List.mem_of_getElem? hx)
      have hkey := Maps.keyOf_int_mk (P := Try.prog) Try.underlying5 (u8_wf hx2)
      have HK := Lib.hid hkey
      have HX := Lib.hid hx
      have b1 : (0 : Int) ≤ (k : Int) := by omega
      have b2 : (k : Int) < (n : Int) := by omega
      have hl := nS_lt (l.take k) (by rw [List.length_take]; omega)
      have hl2 := nS_lt (l.take (k + 1)) (by rw [List.length_take]; omega)
      have hst : nS (l.take (k + 1)) = nS (l.take k) + 45 ^ k * vl x := by rw [take_snoc' hx, nS_snoc, List.length_take, Nat.min_eq_left (by omega)]
      have hp : 45 ^ k ≤ 2025 := Nat.le_trans (Nat.pow_le_pow_right (by omega) (show k ≤ 2 by omega)) (by decide)
      have hp2 : 45 ^ (k + 1) = 45 ^ k * 45 := Nat.pow_succ 45 k
      have hokn : okL (l.take (k + 1)) = okS x := by rw [take_snoc' hx, okL_snoc, HOK.out, Bool.true_and]
      have HOKN := Lib.hid hokn
      have HP2 := Lib.hid hp2
      rw [hst] at hl2
      have HST := Lib.hid hst
      clear hkey hx hkl hst hp2 hokn
      generalize nS (l.take k) = a at *
      generalize 45 ^ k = p at *
      cases hs : okS x with
      | true =>
        have hh : Maps.has (sMap (H := Unit)) (.int .u8 (x : Int)) = true := by rw [sMap_has, hs]
        have ha := sMap_at (H := Unit) hs (.lit (.int .i64 0))
        have hvl := okS_lt hs
        have HS := Lib.hid hs
        generalize vl x = y at *
        have HAT := Lib.hid ha
        obtain ⟨m, hm⟩ : ∃ m, m = p * y := ⟨_, rfl⟩
        rw [← hm] at HST hl2
        have hpm : (p : Int) * (y : Int) = (m : Int) := by rw [hm]; push_cast; rfl
        have w1 : IntKind.i64.wrap (m : Int) = (m : Int) := IntWalk.i64_in _ (by omega)
        have w2 : IntKind.i64.wrap ((a : Int) + (m : Int)) = (a : Int) + (m : Int) := IntWalk.i64_in _ (by omega)
        have w3 : IntKind.i64.wrap ((p : Int) * 45) = (p : Int) * 45 := IntWalk.i64_in _ (by omega)
        clear hs ha hm
        go_wp2_with (at_lookup; refine wpList_lookup_own_ok_int _ rfl _ _ 36 rfl 5 3 .i64 (Maps.int_keyed Try.underlying5) Try.underlying36 Try.underlying3 (Try.zeroValue3 _) g 45 _ rfl hown _ _ rfl HK.out ?_; intro c hat hwc; obtain rfl : (y : Int) = c := (by have := HAT.out.symm.trans hat; simpa using this); rw [hh]; clear hat hwc)
        go_round
        case rel => exact ⟨k + 1, by omega, by go_num, by rw [HST.out]; go_num, by rw [HP2.out]; go_num, by rw [HOKN.out]; exact HS.out⟩
        case measure => simp [intOf]; omega
      | false =>
        have hh : Maps.has (sMap (H := Unit)) (.int .u8 (x : Int)) = false := by rw [sMap_has, hs]
        obtain rfl : E = false := by rw [← HE.out]; exact okL_bad HX.out hs
        obtain rfl : N = 0 := by rw [← HNN.out]; rfl
        clear hs HE HNN HST HP2 HOKN
        go_wp2_with (at_lookup; refine wpList_lookup_own_ok_int _ rfl _ _ 36 rfl 5 3 .i64 (Maps.int_keyed Try.underlying5) Try.underlying36 Try.underlying3 (Try.zeroValue3 _) g 45 _ rfl hown _ _ rfl HK.out ?_; intro c hat hwc; rw [hh]; clear hat hwc)
        go_ret2
        exact ⟨rfl, rfl⟩
    · obtain rfl : k = n := by omega
      have e : l.take k = l := List.take_of_length_le (by rw [← HN.out]; omega)
      have h1 := HOK.out
      rw [e] at h1 ⊢
      obtain rfl : E = true := by rw [← HE.out]; exact h1
      have h2 : nS l = N := by rw [← HNN.out]; rfl
      rw [h2]
      clear e h1 h2 HE HNN HOK
      go_wp2
      go_ret2
      exact ⟨rfl, rfl⟩
end Go.Proofs.Ytmedfelkoknadaa
