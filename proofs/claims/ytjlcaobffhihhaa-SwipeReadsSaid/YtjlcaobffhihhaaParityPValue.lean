/-
  Contract for the landed Value. Conditions: none.
-/
import Derived.Test.YtjlcaobffhihhaaParityPBits
import Derived.Test.YtjlcaobffhihhaaBitsNe
import Derived.Deep.RegionWith
namespace Go.Proofs.Ytjlcaobffhihhaa
set_option linter.unusedVariables false
open Go.ChangeShapes Go.WideShapes Go.ChangeAt Go.RowKit

set_option maxRecDepth 100000 in
set_option maxHeartbeats 1600000 in
theorem pvalue_any (c x E : Int) (hv : valV c = x) (hE : valE c = E) (w : World) : Calls Try.prog 44 #[.int .i64 c] w fun e w' => e = .returned (.tuple #[.int .i64 x, .int .i64 E]) ∧ Below w.heap.size w w' := by
  cases h : isC c with
  | false =>
    have e1 : x = 0 := by rw [← hv, valV, h]; rfl
    have e2 : E = 1 := by rw [← hE, valE, h]; rfl
    subst e1 e2
    have HB : Hid (bitsB c = noB) := Lib.hid (by rw [bitsB, h]; rfl)
    have HE : Hid (bitsE c = 1) := Lib.hid (by rw [bitsE, h]; rfl)
    clear hv hE h
    go_enter Try.func44, Try.ntmps44
    go_wp2_with (go_at_call 33; refine (pbits_any c noB 1 HB.out HE.out _).mono ?_; rintro e w1 ⟨rfl, hb1⟩)
    go_ret2
    exact ⟨rfl, hb1.trans ((below_lit w1 #[.bool noB.b0, .bool noB.b1, .bool noB.b2, .bool noB.b3, .bool noB.b4] 50).mono hb1.size)⟩
  | true =>
    have hs := (isC_iff c).1 h
    obtain ⟨n, hn⟩ : ∃ n : Nat, c = (n : Int) := ⟨c.toNat, by omega⟩
    subst hn
    have ht : (n : Int).toNat = n := by omega
    have hn32 : n < 32 := by omega
    obtain ⟨b, hb⟩ : ∃ b, upB n 5 = b := ⟨_, rfl⟩
    obtain ⟨g, hg⟩ : ∃ g, gB (n % 16) = g := ⟨_, rfl⟩
    obtain ⟨m, hm⟩ : ∃ m, n % 16 = m := ⟨_, rfl⟩
    have hm16 : m < 16 := by omega
    have HM : Hid ((n : Int) % 16 = (m : Int)) := Lib.hid (by omega)
    have HM16 := Lib.hid hm16
    have hgm : gB m = g := by rw [← hm]; exact hg
    have HG := Lib.hid hgm
    have HB : Hid (bitsB (n : Int) = b) := Lib.hid (by rw [← upB_all h, ht]; exact hb)
    have HE : Hid (bitsE (n : Int) = 0) := Lib.hid (by rw [bitsE, if_pos h])
    have hvv := gB_value n hn32
    rw [hb, hg] at hvv
    have hne := b5_equal b g
    have hx : (if ones5 n % 2 = 0 then 0 else (m : Int)) = x := by rw [← hv, valV, if_pos h, ht, HM.out]
    have hE2 : (if ones5 n % 2 = 0 then 3 else 0) = E := by rw [← hE, valE, if_pos h, ht]
    have hmod : ((n : Int) % 16) = (m : Int) := HM.out
    have htm : Int.tmod (n : Int) 16 = (m : Int) := by rw [Int.tmod_eq_emod_of_nonneg (by omega)]; exact hmod
    clear hv hE h hs ht hb hg hm hm16 hgm hn32
    by_cases ho : ones5 n % 2 = 0
    · rw [if_pos ho] at hx hE2
      subst hx hE2
      have hdec : decide (b = g) = false := by
        refine decide_eq_false ?_
        rw [hvv]
        omega
      rw [hdec] at hne
      clear hvv ho hdec
      go_enter Try.func44, Try.ntmps44
      go_wp2_with (go_at_call 33; refine (pbits_any n b 0 HB.out HE.out _).mono ?_; rintro e w1 ⟨rfl, hb1⟩; have HX := BBox.new w1 b; obtain ⟨c0, c1, c2, c3, c4⟩ := HX.cells; have hbl := hb1.trans ((below_lit w1 #[.bool b.b0, .bool b.b1, .bool b.b2, .bool b.b3, .bool b.b4] 50).mono hb1.size))
      have HXd : BBox (w1.alloc (.cells #[.bool b.b0, .bool b.b1, .bool b.b2, .bool b.b3, .bool b.b4] 50)).drew w1.heap.size b := HX
      go_region_with (go_at_call 45; refine (pguarded_any m g HM16.out HG.out _).mono ?_; rintro e w2 ⟨rfl, hb2⟩; have HX2 := HXd.next hb2; obtain ⟨d0, d1, d2, d3, d4⟩ := HX2.cells)
      all_goals go_wp2
      all_goals go_ret2
      all_goals exact ⟨rfl, hbl.drew.trans (hb2.mono hbl.size)⟩
    · rw [if_neg ho] at hx hE2
      subst hx hE2
      have hdec : decide (b = g) = true := by
        refine decide_eq_true ?_
        rw [hvv]
        omega
      rw [hdec] at hne
      clear hvv ho hdec
      go_enter Try.func44, Try.ntmps44
      go_wp2_with (go_at_call 33; refine (pbits_any n b 0 HB.out HE.out _).mono ?_; rintro e w1 ⟨rfl, hb1⟩; have HX := BBox.new w1 b; obtain ⟨c0, c1, c2, c3, c4⟩ := HX.cells; have hbl := hb1.trans ((below_lit w1 #[.bool b.b0, .bool b.b1, .bool b.b2, .bool b.b3, .bool b.b4] 50).mono hb1.size))
      have HXd : BBox (w1.alloc (.cells #[.bool b.b0, .bool b.b1, .bool b.b2, .bool b.b3, .bool b.b4] 50)).drew w1.heap.size b := HX
      go_region_with (go_at_call 45; refine (pguarded_any m g HM16.out HG.out _).mono ?_; rintro e w2 ⟨rfl, hb2⟩; have HX2 := HXd.next hb2; obtain ⟨d0, d1, d2, d3, d4⟩ := HX2.cells)
      all_goals go_wp2
      all_goals go_ret2
      all_goals exact ⟨rfl, hbl.drew.trans (hb2.mono hbl.size)⟩
end Go.Proofs.Ytjlcaobffhihhaa
