/-
  Contract for the reference’s Join: the digits of the numbers, one behind the other, or the first error. Conditions: the numbers fit an int.
-/
import Derived.Test.YtekgoleadblhhaaBcdRefPut
import Derived.Test.YtekgoleadblhhaaBcdVals
import Derived.BigRegionIn
import Derived.BigQuiet
namespace Go.Proofs.Ytekgoleadblhhaa
set_option linter.unusedVariables false
open Go.ChangeShapes Go.WideShapes Go.ChangeAt Go.RowKit

set_option maxRecDepth 100000 in
set_option maxHeartbeats 1600000 in
theorem rjoin_any (vs ws : List Int) (n m : Nat) (hn : n = vs.length) (hm : m = ws.length) (E : Int) (p : List Nat) (hE : joinX vs ws = (E, p)) (A A' : Option Addr) (c c' : Nat) (w : World) (hA : Zs w w.heap.size vs A c) (hA' : Zs w w.heap.size ws A' c') (hv : ∀ v ∈ vs, In64 v) :
    Calls Try.prog 15 #[.slice A n c, .slice A' m c'] w fun e w' => ∃ A2 c2, e = .returned (.tuple #[.slice A2 (p.length : Nat) c2, .int .i64 E]) ∧ Bs w' w'.heap.size p A2 c2 ∧ Below w.heap.size w w' := by
  obtain ⟨i0, hi, hz0, hz1, hz2⟩ := info_parts infoU8
  have h63 : n ≤ 9223372036854775807 := by have := hA.len; have := hA.cap; omega
  have h63' : m ≤ 9223372036854775807 := by have := hA'.len; have := hA'.cap; omega
  have HN := Lib.hid hn
  have HM := Lib.hid hm
  have HA := Lib.hid hA
  have HA' := Lib.hid hA'
  have HE := Lib.hid hE
  have HV := Lib.hid hv
  clear hn hm hA hA' hE hv
  by_cases h1 : n ≠ m ∨ 20 < n
  · have h2 : joinX vs ws = (1, []) := by rw [joinX, if_pos (by rw [← HN.out, ← HM.out]; exact h1)]
    obtain ⟨rfl, rfl⟩ : E = 1 ∧ p = [] := by have := HE.out; rw [h2] at this; exact ⟨(Prod.mk.inj this).1.symm, (Prod.mk.inj this).2.symm⟩
    clear HE h2
    by_cases h3 : n ≠ m
    · have b1 : ((n : Int) != (m : Int)) = true := by simp; omega
      have b2 : (n != m) = true := by simpa using h3
      clear h1
      go_enter Try.func15, Try.ntmps15
      go_wp2
      go_ret2
      exact ⟨none, 0, rfl, bs_nil _, Below.refl _ _⟩
    · obtain rfl : n = m := by omega
      have h4 : 20 < n := by omega
      clear h1 h3
      go_enter Try.func15, Try.ntmps15
      go_wp2
      go_ret2
      exact ⟨none, 0, rfl, bs_nil _, Below.refl _ _⟩
  obtain rfl : n = m := by omega
  have h20 : n ≤ 20 := by omega
  have HR := Lib.hid (show joinR vs ws [] = (E, p) by rw [← HE.out, joinX, if_neg (by rw [← HN.out, ← HM.out]; exact h1)])
  clear h1 HE
  go_enter Try.func15, Try.ntmps15
  go_wp2
  go_loopw [6, 7] (fun v i wr => ∃ (k : Nat) (out : List Nat), k ≤ n ∧ i = .int .i64 k ∧ wr.ownsRow w.heap.size 5 1 v out.length (U8 out) ∧ (∀ x ∈ out, x ≤ 9) ∧ out.length ≤ 18 * k ∧ joinR (vs.drop k) (ws.drop k) out = (E, p) ∧ Below w.heap.size w wr) (fun _ i _ => n - (intOf i).toNat)
  case atStart => exact ⟨0, [], Nat.zero_le _, rfl, World.ownsRow_lit w #[] 0 (Nat.le_refl _) (by decide) rfl, by simp, by simp, HR.out, (Below.refl _ _).alloc (Nat.le_refl _) _⟩
  case round =>
    obtain ⟨k, out, hk, rfl, hown, h9, hlen, hjr, hbel⟩ := hrel
    have HO := Lib.hid hown
    have H9 := Lib.hid h9
    have HBL := Lib.hid hbel
    have HJR := Lib.hid hjr
    clear hown h9 hjr hbel
    by_cases hlt : k < n
    · have hkv : k < vs.length := by rw [← HN.out]; exact hlt
      have hkw : k < ws.length := by rw [← HM.out]; exact hlt
      obtain ⟨x, hx⟩ : ∃ x, vs[k]? = some x := ⟨_, List.getElem?_eq_getElem hkv⟩
      obtain ⟨y, hy⟩ : ∃ y, ws[k]? = some y := ⟨_, List.getElem?_eq_getElem hkw⟩
      have hdv : vs.drop k = x :: vs.drop (k + 1) := by rw [drop_at hkv]; congr 1; rw [List.getElem?_eq_getElem hkv] at hx; exact Option.some.inj hx
      have hdw : ws.drop k = y :: ws.drop (k + 1) := by rw [drop_at hkw]; congr 1; rw [List.getElem?_eq_getElem hkw] at hy; exact Option.some.inj hy
      have hx64 : In64 x := HV.out x (List.mem_of_getElem? hx)
      obtain ⟨ad, rfl, hb, hc⟩ := (HA.out.next HBL.out).at hx
      obtain ⟨ad', rfl, hb', hc'⟩ := (HA'.out.next HBL.out).at hy
      have HX := Lib.hid hx64
      have hj := HJR.out
      rw [hdv, hdw, joinR, List.headD_cons, List.tail_cons] at hj
      have b1 : (0 : Int) ≤ (k : Int) := by omega
      have b2 : (k : Int) < (n : Int) := by omega
      clear hkv hkw hx hy hdv hdw HJR
      by_cases h0 : putE x y = 0
      · rw [if_pos h0] at hj
        have HJ := Lib.hid hj
        clear hj
        obtain ⟨q, hq⟩ : ∃ q, q = putL x y := ⟨_, rfl⟩
        have hq18 : q.length ≤ 18 := by rw [hq]; exact put_le x y
        have hq9 : ∀ z ∈ q, z ≤ 9 := by rw [hq]; exact put_lt x y
        have HQ9 := Lib.hid hq9
        have HP0 := Lib.hid h0
        have HQ := Lib.hid hq
        rw [← hq] at HJ
        clear hq9 h0 hq
        go_wp2
        rename_i K hK
        have HKK := Lib.hid hK
        clear hK
        go_region_with (go_at_call 9; refine (rput_any x y 0 q HP0.out HQ.out.symm _ HX.out.2).mono ?_; rintro e w1 ⟨A1, c1, rfl, hb1, hbd⟩; have HB1 := Lib.hid hb1; have HBD := Lib.hid ((below_drewN (Below.refl _ _) _).trans (hbd.mono (Nat.le_refl _))); have HBL1 := Lib.hid (HBL.out.trans (HBD.out.mono HBL.out.size)); clear hb1 hbd)
        all_goals
          have hK := HKK.out
          go_wp2_with (at_builtin; refine wpList_append_rd _ rfl _ _ 22 rfl w.heap.size 5 i0 (.int .u8 0) 1 Try.underlying22 hi hz0 hz1 hz2 rfl _ out.length (U8 out) rfl (own_below HO.out HBD.out) _ _ q.length c1 (U8 q) rfl HB1.out.rd (by simp [U8]) HB1.out.nil (U8_one _) (by unfold maxLen; omega) (by omega) (by have := HBL1.out.size; omega) ?_; intro v' w2 hown' hgrow; have HO2 := Lib.hid hown'; have HB2 := Lib.hid (HBL1.out.grown hgrow HBL1.out.size (fun j hj => own_ge (own_below HO.out HBD.out) hj)); clear hown' hgrow)
          go_roundw
          case rel => exact ⟨k + 1, out ++ q, by omega, by go_num, by rw [List.length_append, U8, List.map_append]; exact HO2.out, fun z hz => (List.mem_append.1 hz).elim (H9.out z) (HQ9.out z), by rw [List.length_append]; omega, HJ.out, HB2.out⟩
          case measure => simp [intOf]; omega
      · rw [if_neg h0] at hj
        have hEE : putE x y = E := (Prod.mk.inj hj).1
        obtain rfl : p = [] := (Prod.mk.inj hj).2.symm
        obtain ⟨q, hq⟩ : ∃ q, q = putL x y := ⟨_, rfl⟩
        have hne : (E != 0) = true := by rw [← hEE]; simpa using h0
        have HEE := Lib.hid hEE
        have HQ := Lib.hid hq
        clear h0 hj hEE hq
        go_wp2
        go_region_with (go_at_call 9; refine (rput_any x y E q HEE.out HQ.out.symm _ HX.out.2).mono ?_; rintro e w1 ⟨A1, c1, rfl, hb1, hbd⟩; have HBD := Lib.hid ((below_drewN (Below.refl _ _) _).trans (hbd.mono (Nat.le_refl _))); have HBL1 := Lib.hid (HBL.out.trans (HBD.out.mono HBL.out.size)); clear hb1 hbd)
        all_goals go_wp2
        all_goals go_ret2
        all_goals exact ⟨none, 0, rfl, bs_nil _, HBL1.out⟩
    · have e1 : k = n := by omega
      subst e1
      have hj := HJR.out
      rw [List.drop_of_length_le (by rw [← HN.out]; omega), joinR] at hj
      obtain ⟨rfl, rfl⟩ : E = 0 ∧ p = out := ⟨(Prod.mk.inj hj).1.symm, (Prod.mk.inj hj).2.symm⟩
      obtain ⟨A2, c2, rfl, hbs⟩ := bs_of_own HO.out (fun x hx => by have := H9.out x hx; omega)
      have HBS := Lib.hid hbs
      clear HJR hj hbs
      go_wp2
      go_ret2
      exact ⟨A2, c2, rfl, HBS.out, HBL.out⟩
end Go.Proofs.Ytekgoleadblhhaa
