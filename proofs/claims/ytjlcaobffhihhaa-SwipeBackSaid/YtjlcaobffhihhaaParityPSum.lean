/-
  Contract for the landed Sum. Conditions: none.
-/
import Derived.Test.YtjlcaobffhihhaaParityPSmall
import Derived.Test.YtjlcaobffhihhaaParityRefSum
namespace Go.Proofs.Ytjlcaobffhihhaa
set_option linter.unusedVariables false
open Go.ChangeShapes Go.WideShapes Go.ChangeAt Go.RowKit

set_option maxRecDepth 100000 in
set_option maxHeartbeats 1600000 in
theorem psum_any (l : List Int) (n : Nat) (hn : n = l.length) (A : Option Addr) (c : Nat) (x E : Int) (hv : sumV l = x) (hE : sumE l = E) (w : World) (hA : Zs w w.heap.size l A c) : Calls Try.prog 35 #[.slice A n c] w fun e w' => e = .returned (.tuple #[.int .i64 x, .int .i64 E]) ∧ w' = w := by
  have HN := Lib.hid hn
  have HV := Lib.hid hv
  have HE := Lib.hid hE
  have HA := Lib.hid hA
  have hc := hA.cap
  have hlc := hA.len
  have hn3 : n ≤ 9223372036854775807 := by omega
  clear hn hv hE hA hc hlc
  go_enter Try.func35, Try.ntmps35
  go_wp2
  go_loop [4, 9] (fun s i => ∃ k : Nat, k ≤ n ∧ i = .int .i64 k ∧ s = .int .i64 (sumX (l.take k) : Nat) ∧ sumOk (l.take k) = true) (fun _ i => n - (intOf i).toNat)
  case atStart => exact ⟨0, by omega, rfl, rfl, rfl⟩
  case round =>
    obtain ⟨k, hk, rfl, rfl, hok⟩ := hrel
    have HO := Lib.hid hok
    clear hok
    by_cases hlt : k < n
    · have hkl : k < l.length := by rw [← HN.out]; exact hlt
      obtain ⟨z, hz⟩ : ∃ z, l[k]? = some z := ⟨_, List.getElem?_eq_getElem hkl⟩
      obtain ⟨ad, rfl, hadl, hc⟩ := HA.out.at hz
      have b1 : (k : Int) < (n : Int) := by omega
      have b0 : (0 : Int) ≤ (k : Int) := by omega
      have HZ := Lib.hid hz
      clear hz hkl hadl
      cases hvz : isV z
      case true =>
        obtain ⟨m, hm⟩ : ∃ m : Nat, z = (m : Int) := ⟨z.toNat, by have := (isV_iff z).1 hvz; omega⟩
        have hx : bits BinOp.xor IntKind.i64 ((sumX (l.take k) : Nat) : Int) z = ((sumX (l.take (k + 1)) : Nat) : Int) := by
          rw [sumX_take HZ.out, hm]
          exact xor_small _ (sumX_lt _ HO.out) m (by have := (isV_iff z).1 hvz; omega)
        have HS := Lib.hid hx
        have HO2 := Lib.hid (show sumOk (l.take (k + 1)) = true by rw [sumOk_take HZ.out, HO.out, hvz]; rfl)
        have HV2 := Lib.hid hvz
        clear hlt hm hx hvz
        go_wp2_with (go_at_call 42; refine (pisvalue_any z true HV2.out _).mono ?_; rintro e w1 ⟨rfl, rfl⟩)
        case roundEnd => exact ⟨⟨k + 1, by omega, by go_num, by rw [HS.out], HO2.out⟩, by simp [intOf]; omega⟩
      case false =>
        have hb := hvz
        have HV2 := Lib.hid hvz
        have hs := sum_bad HZ.out hb
        have e1 : x = 0 := by rw [← HV.out, sumV, hs]; rfl
        have e2 : E = 1 := by rw [← HE.out, sumE, hs]; rfl
        subst e1 e2
        clear hb hs hvz
        go_wp2_with (go_at_call 42; refine (pisvalue_any z false HV2.out _).mono ?_; rintro e w1 ⟨rfl, rfl⟩)
        go_ret2
        exact ⟨rfl, rfl⟩
    · have e : k = n := by omega
      have ht : l.take k = l := by rw [e, HN.out]; exact List.take_length
      have hs : sumOk l = true := by have := HO.out; rwa [ht] at this
      have e1 : ((sumX l : Nat) : Int) = x := by rw [← HV.out, sumV, if_pos hs]
      have e2 : E = 0 := by rw [← HE.out, sumE, if_pos hs]
      subst e2
      have hnb : ¬ ((k : Int) < (n : Int)) := by omega
      rw [ht, e1]
      clear ht hs e1 hlt e
      go_wp2
      go_ret2
      exact ⟨rfl, rfl⟩
end Go.Proofs.Ytjlcaobffhihhaa
