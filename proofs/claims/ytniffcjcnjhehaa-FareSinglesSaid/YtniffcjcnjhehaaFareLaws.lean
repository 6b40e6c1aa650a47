/-
  The six laws of layer 8 walked, out of the contracts: each answers true. Conditions: the numbers fit an int.
-/
import Derived.Test.YtniffcjcnjhehaaPriced
namespace Go.Proofs.Ytniffcjcnjhehaa
set_option linter.unusedVariables false
open Go.ChangeShapes Go.WideShapes Go.ChangeAt Go.RowKit

set_option maxRecDepth 100000 in
set_option maxHeartbeats 1600000 in
theorem cuts_any (C : FC) (z p c : Int) (jz : In64 z) (jp : In64 p) (jc : In64 c) (w : World) : Calls Try.prog 3 #[.int .i64 z, .int .i64 p, .int .i64 c] w fun e w' => e = .returned (.bool true) ∧ Below w.heap.size w w' := by
  have Rz := Lib.hid jz
  clear jz
  have Rp := Lib.hid jp
  clear jp
  have Rc := Lib.hid jc
  clear jc
  obtain ⟨v, hv⟩ : ∃ v, baseV z = v := ⟨_, rfl⟩
  have HV := Lib.hid hv
  clear hv
  obtain ⟨E, hE⟩ : ∃ E, baseE z = E := ⟨_, rfl⟩
  have HE := Lib.hid hE
  clear hE
  obtain ⟨x, hx⟩ : ∃ x, cutV p c = x := ⟨_, rfl⟩
  have HX := Lib.hid hx
  clear hx
  obtain ⟨G, hG⟩ : ∃ G, cutE p c = G := ⟨_, rfl⟩
  have HG := Lib.hid hG
  clear hG
  have HBL := Lib.hid (Below.refl w.heap.size w)
  go_enter Try.func3, Try.ntmps3
  go_wp2_with fail
  refine (C.base z v E w Rz.out HV.out HE.out).mono ?_
  rintro e w1 ⟨rfl, hb⟩
  replace HBL := Lib.hid (HBL.out.trans (hb.mono HBL.out.size))
  clear hb
  go_wp2_with fail
  refine (refbase_any z v E HV.out HE.out w1).mono ?_
  rintro e w2 ⟨rfl, hb⟩
  replace HBL := Lib.hid (HBL.out.trans (hb.mono HBL.out.size))
  clear hb
  go_wp2_with fail
  refine (C.cut p c x G w2 Rp.out Rc.out HX.out HG.out).mono ?_
  rintro e w3 ⟨rfl, hb⟩
  replace HBL := Lib.hid (HBL.out.trans (hb.mono HBL.out.size))
  clear hb
  go_wp2_with fail
  refine (refcut_any p c x G HX.out HG.out w3).mono ?_
  rintro e w4 ⟨rfl, hb⟩
  replace HBL := Lib.hid (HBL.out.trans (hb.mono HBL.out.size))
  clear hb
  go_wp2_with fail
  refine (priced_any C w4).mono ?_
  rintro e w5 ⟨rfl, hb⟩
  replace HBL := Lib.hid (HBL.out.trans (hb.mono HBL.out.size))
  clear hb
  go_wp2
  go_ret
  exact ⟨rfl, HBL.out⟩
set_option maxRecDepth 100000 in
set_option maxHeartbeats 1600000 in
theorem singles_any (C : FC) (f t cl c : Int) (jf : In64 f) (jt : In64 t) (jcl : In64 cl) (jc : In64 c) (w : World) : Calls Try.prog 4 #[.int .i64 f, .int .i64 t, .int .i64 cl, .int .i64 c] w fun e w' => e = .returned (.bool true) ∧ Below w.heap.size w w' := by
  have Rf := Lib.hid jf
  clear jf
  have Rt := Lib.hid jt
  clear jt
  have Rcl := Lib.hid jcl
  clear jcl
  have Rc := Lib.hid jc
  clear jc
  obtain ⟨v, hv⟩ : ∃ v, singleV f t cl c = v := ⟨_, rfl⟩
  have HV := Lib.hid hv
  clear hv
  obtain ⟨E, hE⟩ : ∃ E, singleE f t cl c = E := ⟨_, rfl⟩
  have HE := Lib.hid hE
  clear hE
  have HBL := Lib.hid (Below.refl w.heap.size w)
  go_enter Try.func4, Try.ntmps4
  go_wp2_with fail
  refine (C.single f t cl c v E w Rf.out Rt.out Rcl.out Rc.out HV.out HE.out).mono ?_
  rintro e w1 ⟨rfl, hb⟩
  replace HBL := Lib.hid (HBL.out.trans (hb.mono HBL.out.size))
  clear hb
  go_wp2_with fail
  refine (refsingle_any f t cl c v E HV.out HE.out w1).mono ?_
  rintro e w2 ⟨rfl, hb⟩
  replace HBL := Lib.hid (HBL.out.trans (hb.mono HBL.out.size))
  clear hb
  go_wp2_with fail
  refine (priced_any C w2).mono ?_
  rintro e w3 ⟨rfl, hb⟩
  replace HBL := Lib.hid (HBL.out.trans (hb.mono HBL.out.size))
  clear hb
  go_wp2
  go_ret
  exact ⟨rfl, HBL.out⟩
set_option maxRecDepth 100000 in
set_option maxHeartbeats 1600000 in
theorem backs_any (C : FC) (p l a : Int) (jp : In64 p) (jl : In64 l) (ja : In64 a) (w : World) : Calls Try.prog 5 #[.int .i64 p, .int .i64 l, .int .i64 a] w fun e w' => e = .returned (.bool true) ∧ Below w.heap.size w w' := by
  have Rp := Lib.hid jp
  clear jp
  have Rl := Lib.hid jl
  clear jl
  have Ra := Lib.hid ja
  clear ja
  obtain ⟨v, hv⟩ : ∃ v, backV p l a = v := ⟨_, rfl⟩
  have HV := Lib.hid hv
  clear hv
  obtain ⟨E, hE⟩ : ∃ E, backE p l a = E := ⟨_, rfl⟩
  have HE := Lib.hid hE
  clear hE
  have HBL := Lib.hid (Below.refl w.heap.size w)
  go_enter Try.func5, Try.ntmps5
  go_wp2_with fail
  refine (C.back p l a v E w Rp.out Rl.out Ra.out HV.out HE.out).mono ?_
  rintro e w1 ⟨rfl, hb⟩
  replace HBL := Lib.hid (HBL.out.trans (hb.mono HBL.out.size))
  clear hb
  go_wp2_with fail
  refine (refback_any p l a v E HV.out HE.out w1).mono ?_
  rintro e w2 ⟨rfl, hb⟩
  replace HBL := Lib.hid (HBL.out.trans (hb.mono HBL.out.size))
  clear hb
  go_wp2_with fail
  refine (priced_any C w2).mono ?_
  rintro e w3 ⟨rfl, hb⟩
  replace HBL := Lib.hid (HBL.out.trans (hb.mono HBL.out.size))
  clear hb
  go_wp2
  go_ret
  exact ⟨rfl, HBL.out⟩
set_option maxRecDepth 100000 in
set_option maxHeartbeats 1600000 in
theorem order8_any (C : FC) (f t cl c : Int) (jf : In64 f) (jt : In64 t) (jcl : In64 cl) (jc : In64 c) (w : World) : Calls Try.prog 6 #[.int .i64 f, .int .i64 t, .int .i64 cl, .int .i64 c] w fun e w' => e = .returned (.bool true) ∧ Below w.heap.size w w' := by
  have Rf := Lib.hid jf
  clear jf
  have Rt := Lib.hid jt
  clear jt
  have Rcl := Lib.hid jcl
  clear jcl
  have Rc := Lib.hid jc
  clear jc
  have K1 := Lib.hid (show In64 1 by unfold In64; decide)
  have K0 := Lib.hid (show In64 0 by unfold In64; decide)
  obtain ⟨v, hv⟩ : ∃ v, singleV f t cl c = v := ⟨_, rfl⟩
  have HV := Lib.hid hv
  clear hv
  obtain ⟨x, hx⟩ : ∃ x, singleV f t 1 c = x := ⟨_, rfl⟩
  have HX := Lib.hid hx
  clear hx
  obtain ⟨y, hy⟩ : ∃ y, singleV f t cl 0 = y := ⟨_, rfl⟩
  have HY := Lib.hid hy
  clear hy
  have HV2 := Lib.hid ((single_swap f t cl c).1.trans HV.out)
  cases h : okS f t cl c with
  | false =>
    have HE := Lib.hid (show singleE f t cl c = 1 by rw [singleE, h]; rfl)
    have HE2 := Lib.hid ((single_swap f t cl c).2.trans HE.out)
    obtain ⟨G, hG⟩ : ∃ G, singleE f t 1 c = G := ⟨_, rfl⟩
    have HG := Lib.hid hG
    clear hG
    obtain ⟨H, hH⟩ : ∃ H, singleE f t cl 0 = H := ⟨_, rfl⟩
    have HH := Lib.hid hH
    clear hH
    clear h
    have HBL := Lib.hid (Below.refl w.heap.size w)
    go_enter Try.func6, Try.ntmps6
    go_wp2_with fail
    refine (C.single f t cl c v 1 w Rf.out Rt.out Rcl.out Rc.out HV.out HE.out).mono ?_
    rintro e w1 ⟨rfl, hb⟩
    replace HBL := Lib.hid (HBL.out.trans (hb.mono HBL.out.size))
    clear hb
    go_wp2_with fail
    refine (C.single t f cl c v 1 w1 Rt.out Rf.out Rcl.out Rc.out HV2.out HE2.out).mono ?_
    rintro e w2 ⟨rfl, hb⟩
    replace HBL := Lib.hid (HBL.out.trans (hb.mono HBL.out.size))
    clear hb
    go_wp2_with fail
    refine (C.single f t 1 c x G w2 Rf.out Rt.out K1.out Rc.out HX.out HG.out).mono ?_
    rintro e w3 ⟨rfl, hb⟩
    replace HBL := Lib.hid (HBL.out.trans (hb.mono HBL.out.size))
    clear hb
    go_wp2_with fail
    refine (C.single f t cl 0 y H w3 Rf.out Rt.out Rcl.out K0.out HY.out HH.out).mono ?_
    rintro e w4 ⟨rfl, hb⟩
    replace HBL := Lib.hid (HBL.out.trans (hb.mono HBL.out.size))
    clear hb
    go_wp2_with fail
    refine (priced_any C w4).mono ?_
    rintro e w5 ⟨rfl, hb⟩
    replace HBL := Lib.hid (HBL.out.trans (hb.mono HBL.out.size))
    clear hb
    go_wp2
    go_ret
    exact ⟨rfl, HBL.out⟩
  | true =>
    have HE := Lib.hid (show singleE f t cl c = 0 by rw [singleE, h]; rfl)
    have HE2 := Lib.hid ((single_swap f t cl c).2.trans HE.out)
    obtain ⟨f1, f2, f3, f4, f5⟩ := order_facts8 h
    rw [HV.out, HX.out] at f3
    rw [HV.out, HY.out] at f4
    rw [HV.out] at f5
    have HG := Lib.hid f1
    have HH := Lib.hid f2
    have q3 : decide (v ≤ x) = true := decide_eq_true f3
    have q4 : decide (v ≤ y) = true := decide_eq_true f4
    have q5 : decide (90 ≤ v) = true := decide_eq_true f5
    clear f1 f2 f3 f4 f5 h
    have HBL := Lib.hid (Below.refl w.heap.size w)
    go_enter Try.func6, Try.ntmps6
    go_wp2_with fail
    refine (C.single f t cl c v 0 w Rf.out Rt.out Rcl.out Rc.out HV.out HE.out).mono ?_
    rintro e w1 ⟨rfl, hb⟩
    replace HBL := Lib.hid (HBL.out.trans (hb.mono HBL.out.size))
    clear hb
    go_wp2_with fail
    refine (C.single t f cl c v 0 w1 Rt.out Rf.out Rcl.out Rc.out HV2.out HE2.out).mono ?_
    rintro e w2 ⟨rfl, hb⟩
    replace HBL := Lib.hid (HBL.out.trans (hb.mono HBL.out.size))
    clear hb
    go_wp2_with fail
    refine (C.single f t 1 c x 0 w2 Rf.out Rt.out K1.out Rc.out HX.out HG.out).mono ?_
    rintro e w3 ⟨rfl, hb⟩
    replace HBL := Lib.hid (HBL.out.trans (hb.mono HBL.out.size))
    clear hb
    go_wp2_with fail
    refine (C.single f t cl 0 y 0 w3 Rf.out Rt.out Rcl.out K0.out HY.out HH.out).mono ?_
    rintro e w4 ⟨rfl, hb⟩
    replace HBL := Lib.hid (HBL.out.trans (hb.mono HBL.out.size))
    clear hb
    go_wp2_with fail
    refine (priced_any C w4).mono ?_
    rintro e w5 ⟨rfl, hb⟩
    replace HBL := Lib.hid (HBL.out.trans (hb.mono HBL.out.size))
    clear hb
    go_wp2
    go_ret
    exact ⟨rfl, HBL.out⟩
set_option maxRecDepth 100000 in
set_option maxHeartbeats 1600000 in
theorem less_any (C : FC) (p l a : Int) (jp : In64 p) (jl : In64 l) (ja : In64 a) (w : World) : Calls Try.prog 7 #[.int .i64 p, .int .i64 l, .int .i64 a] w fun e w' => e = .returned (.bool true) ∧ Below w.heap.size w w' := by
  have Rp := Lib.hid jp
  clear jp
  have Rl := Lib.hid jl
  clear jl
  have Ra := Lib.hid ja
  clear ja
  obtain ⟨v, hv⟩ : ∃ v, backV p l a = v := ⟨_, rfl⟩
  have HV := Lib.hid hv
  clear hv
  obtain ⟨b, hb⟩ : ∃ b, backV p a a = b := ⟨_, rfl⟩
  have HB := Lib.hid hb
  clear hb
  cases h : okK p l a with
  | false =>
    have HE := Lib.hid (show backE p l a = 1 by rw [backE, h]; rfl)
    clear h
    have HBL := Lib.hid (Below.refl w.heap.size w)
    go_enter Try.func7, Try.ntmps7
    go_wp2_with fail
    refine (C.back p l a v 1 w Rp.out Rl.out Ra.out HV.out HE.out).mono ?_
    rintro e w1 ⟨rfl, hb⟩
    replace HBL := Lib.hid (HBL.out.trans (hb.mono HBL.out.size))
    clear hb
    go_wp2_with fail
    refine (priced_any C w1).mono ?_
    rintro e w2 ⟨rfl, hb⟩
    replace HBL := Lib.hid (HBL.out.trans (hb.mono HBL.out.size))
    clear hb
    go_wp2
    go_ret
    exact ⟨rfl, HBL.out⟩
  | true =>
    have HE := Lib.hid (show backE p l a = 0 by rw [backE, h]; rfl)
    obtain ⟨f1, f2, f3, f4, f5, f6⟩ := less_facts h
    have hk := (okK_iff _ _ _).1 h
    rw [HV.out] at f2 f3 f5 f6
    rw [HB.out] at f3 f4
    have HF := Lib.hid f1
    by_cases hl : l = 0
    · have q0 : (l == 0) = true := by rw [beq_iff_eq]; exact hl
      have e0 := f5 hl
      subst e0
      clear f1 f2 f3 f4 f5 f6 h hk hl
      have HBL := Lib.hid (Below.refl w.heap.size w)
      go_enter Try.func7, Try.ntmps7
      go_wp2_with fail
      refine (C.back p l a 0 0 w Rp.out Rl.out Ra.out HV.out HE.out).mono ?_
      rintro e w1 ⟨rfl, hb⟩
      replace HBL := Lib.hid (HBL.out.trans (hb.mono HBL.out.size))
      clear hb
      go_wp2_with fail
      refine (C.back p a a b 0 w1 Rp.out Ra.out Ra.out HB.out HF.out).mono ?_
      rintro e w2 ⟨rfl, hb⟩
      replace HBL := Lib.hid (HBL.out.trans (hb.mono HBL.out.size))
      clear hb
      go_wp2_with fail
      refine (priced_any C w2).mono ?_
      rintro e w3 ⟨rfl, hb⟩
      replace HBL := Lib.hid (HBL.out.trans (hb.mono HBL.out.size))
      clear hb
      go_wp2
      go_ret
      exact ⟨rfl, HBL.out⟩
    · have q0 : (l == 0) = false := by rw [beq_eq_false_iff_ne]; exact hl
      obtain ⟨g1, g2⟩ := f6 hl
      obtain ⟨x, hx⟩ : ∃ x, backV p (l - 1) a = x := ⟨_, rfl⟩
      rw [hx] at g2
      have HX := Lib.hid hx
      have HG := Lib.hid g1
      have Rl1 := Lib.hid (show In64 (l - 1) by unfold In64; omega)
      have wl : IntKind.i64.wrap (l - 1) = l - 1 := IntWalk.i64_in _ (by omega)
      have q1 : decide (0 ≤ v) = true := decide_eq_true f2
      have q2 : decide (x ≤ v) = true := decide_eq_true g2
      have q3 : decide (v ≤ b) = true := decide_eq_true f3
      have q4 : decide (b ≤ p) = true := decide_eq_true f4
      clear f1 f2 f3 f4 f5 f6 g1 g2 h hk hl hx
      have HBL := Lib.hid (Below.refl w.heap.size w)
      go_enter Try.func7, Try.ntmps7
      go_wp2_with fail
      refine (C.back p l a v 0 w Rp.out Rl.out Ra.out HV.out HE.out).mono ?_
      rintro e w1 ⟨rfl, hb⟩
      replace HBL := Lib.hid (HBL.out.trans (hb.mono HBL.out.size))
      clear hb
      go_wp2_with fail
      refine (C.back p a a b 0 w1 Rp.out Ra.out Ra.out HB.out HF.out).mono ?_
      rintro e w2 ⟨rfl, hb⟩
      replace HBL := Lib.hid (HBL.out.trans (hb.mono HBL.out.size))
      clear hb
      go_wp2_with fail
      refine (C.back p (l - 1) a x 0 w2 Rp.out Rl1.out Ra.out HX.out HG.out).mono ?_
      rintro e w3 ⟨rfl, hb⟩
      replace HBL := Lib.hid (HBL.out.trans (hb.mono HBL.out.size))
      clear hb
      go_wp2_with fail
      refine (priced_any C w3).mono ?_
      rintro e w4 ⟨rfl, hb⟩
      replace HBL := Lib.hid (HBL.out.trans (hb.mono HBL.out.size))
      clear hb
      go_wp2
      go_ret
      exact ⟨rfl, HBL.out⟩
set_option maxRecDepth 100000 in
set_option maxHeartbeats 1600000 in
theorem far_any (C : FC) (f t a b cl c : Int) (jf : In64 f) (jt : In64 t) (ja : In64 a) (jb : In64 b) (jcl : In64 cl) (jc : In64 c) (w : World) : Calls Try.prog 8 #[.int .i64 f, .int .i64 t, .int .i64 a, .int .i64 b, .int .i64 cl, .int .i64 c] w fun e w' => e = .returned (.bool true) ∧ Below w.heap.size w w' := by
  have Rf := Lib.hid jf
  clear jf
  have Rt := Lib.hid jt
  clear jt
  have Ra := Lib.hid ja
  clear ja
  have Rb := Lib.hid jb
  clear jb
  have Rcl := Lib.hid jcl
  clear jcl
  have Rc := Lib.hid jc
  clear jc
  obtain ⟨n, hn⟩ : ∃ n, singleV f t cl c = n := ⟨_, rfl⟩
  have HN := Lib.hid hn
  clear hn
  obtain ⟨m, hm⟩ : ∃ m, singleV a b cl c = m := ⟨_, rfl⟩
  have HM := Lib.hid hm
  clear hm
  cases h : okS f t cl c with
  | false =>
    have HE := Lib.hid (show singleE f t cl c = 1 by rw [singleE, h]; rfl)
    obtain ⟨F, hF⟩ : ∃ F, singleE a b cl c = F := ⟨_, rfl⟩
    have HF := Lib.hid hF
    clear hF
    obtain ⟨x, hx⟩ : ∃ x, betV f t a = x := ⟨_, rfl⟩
    have HX := Lib.hid hx
    clear hx
    obtain ⟨G, hG⟩ : ∃ G, betE f t a = G := ⟨_, rfl⟩
    have HG := Lib.hid hG
    clear hG
    obtain ⟨y, hy⟩ : ∃ y, betV f t b = y := ⟨_, rfl⟩
    have HY := Lib.hid hy
    clear hy
    obtain ⟨H, hH⟩ : ∃ H, betE f t b = H := ⟨_, rfl⟩
    have HH := Lib.hid hH
    clear hH
    clear h
    have HBL := Lib.hid (Below.refl w.heap.size w)
    go_enter Try.func8, Try.ntmps8
    go_wp2_with fail
    refine (C.single f t cl c n 1 w Rf.out Rt.out Rcl.out Rc.out HN.out HE.out).mono ?_
    rintro e w1 ⟨rfl, hb⟩
    replace HBL := Lib.hid (HBL.out.trans (hb.mono HBL.out.size))
    clear hb
    go_wp2_with fail
    refine (C.single a b cl c m F w1 Ra.out Rb.out Rcl.out Rc.out HM.out HF.out).mono ?_
    rintro e w2 ⟨rfl, hb⟩
    replace HBL := Lib.hid (HBL.out.trans (hb.mono HBL.out.size))
    clear hb
    go_wp2_with fail
    refine (C.bet f t a x G w2 Rf.out Rt.out Ra.out HX.out HG.out).mono ?_
    rintro e w3 ⟨rfl, hb⟩
    replace HBL := Lib.hid (HBL.out.trans (hb.mono HBL.out.size))
    clear hb
    go_wp2_with fail
    refine (C.bet f t b y H w3 Rf.out Rt.out Rb.out HY.out HH.out).mono ?_
    rintro e w4 ⟨rfl, hb⟩
    replace HBL := Lib.hid (HBL.out.trans (hb.mono HBL.out.size))
    clear hb
    go_wp2_with fail
    refine (priced_any C w4).mono ?_
    rintro e w5 ⟨rfl, hb⟩
    replace HBL := Lib.hid (HBL.out.trans (hb.mono HBL.out.size))
    clear hb
    go_wp2
    go_ret
    exact ⟨rfl, HBL.out⟩
  | true =>
    have HE := Lib.hid (show singleE f t cl c = 0 by rw [singleE, h]; rfl)
    cases h2 : okS a b cl c with
    | false =>
      have HF := Lib.hid (show singleE a b cl c = 1 by rw [singleE, h2]; rfl)
      obtain ⟨x, hx⟩ : ∃ x, betV f t a = x := ⟨_, rfl⟩
      have HX := Lib.hid hx
      clear hx
      obtain ⟨G, hG⟩ : ∃ G, betE f t a = G := ⟨_, rfl⟩
      have HG := Lib.hid hG
      clear hG
      obtain ⟨y, hy⟩ : ∃ y, betV f t b = y := ⟨_, rfl⟩
      have HY := Lib.hid hy
      clear hy
      obtain ⟨H, hH⟩ : ∃ H, betE f t b = H := ⟨_, rfl⟩
      have HH := Lib.hid hH
      clear hH
      clear h h2
      have HBL := Lib.hid (Below.refl w.heap.size w)
      go_enter Try.func8, Try.ntmps8
      go_wp2_with fail
      refine (C.single f t cl c n 0 w Rf.out Rt.out Rcl.out Rc.out HN.out HE.out).mono ?_
      rintro e w1 ⟨rfl, hb⟩
      replace HBL := Lib.hid (HBL.out.trans (hb.mono HBL.out.size))
      clear hb
      go_wp2_with fail
      refine (C.single a b cl c m 1 w1 Ra.out Rb.out Rcl.out Rc.out HM.out HF.out).mono ?_
      rintro e w2 ⟨rfl, hb⟩
      replace HBL := Lib.hid (HBL.out.trans (hb.mono HBL.out.size))
      clear hb
      go_wp2_with fail
      refine (C.bet f t a x G w2 Rf.out Rt.out Ra.out HX.out HG.out).mono ?_
      rintro e w3 ⟨rfl, hb⟩
      replace HBL := Lib.hid (HBL.out.trans (hb.mono HBL.out.size))
      clear hb
      go_wp2_with fail
      refine (C.bet f t b y H w3 Rf.out Rt.out Rb.out HY.out HH.out).mono ?_
      rintro e w4 ⟨rfl, hb⟩
      replace HBL := Lib.hid (HBL.out.trans (hb.mono HBL.out.size))
      clear hb
      go_wp2_with fail
      refine (priced_any C w4).mono ?_
      rintro e w5 ⟨rfl, hb⟩
      replace HBL := Lib.hid (HBL.out.trans (hb.mono HBL.out.size))
      clear hb
      go_wp2
      go_ret
      exact ⟨rfl, HBL.out⟩
    | true =>
      have HF := Lib.hid (show singleE a b cl c = 0 by rw [singleE, h2]; rfl)
      have s1 := (is2_iff _ _).1 ((okS_iff _ _ _ _).1 h).1
      have s2 := (is2_iff _ _).1 ((okS_iff _ _ _ _).1 h2).1
      have t1 : is3 f t a = true := (is3_iff _ _ _).2 ⟨s1.1, s1.2, s2.1⟩
      have t2 : is3 f t b = true := (is3_iff _ _ _).2 ⟨s1.1, s1.2, s2.2⟩
      have HG := Lib.hid (show betE f t a = 0 by rw [betE, if_pos t1])
      have HH := Lib.hid (show betE f t b = 0 by rw [betE, if_pos t2])
      have vx : betV f t a = between f t a := by rw [betV, if_pos t1]
      have vy : betV f t b = between f t b := by rw [betV, if_pos t2]
      cases hx : between f t a with
      | false =>
        have HX := Lib.hid (vx.trans hx)
        obtain ⟨y, hy⟩ : ∃ y, betV f t b = y := ⟨_, rfl⟩
        have HY := Lib.hid hy
        clear hy
        clear h h2 s1 s2 t1 t2 vx vy hx
        have HBL := Lib.hid (Below.refl w.heap.size w)
        go_enter Try.func8, Try.ntmps8
        go_wp2_with fail
        refine (C.single f t cl c n 0 w Rf.out Rt.out Rcl.out Rc.out HN.out HE.out).mono ?_
        rintro e w1 ⟨rfl, hb⟩
        replace HBL := Lib.hid (HBL.out.trans (hb.mono HBL.out.size))
        clear hb
        go_wp2_with fail
        refine (C.single a b cl c m 0 w1 Ra.out Rb.out Rcl.out Rc.out HM.out HF.out).mono ?_
        rintro e w2 ⟨rfl, hb⟩
        replace HBL := Lib.hid (HBL.out.trans (hb.mono HBL.out.size))
        clear hb
        go_wp2_with fail
        refine (C.bet f t a false 0 w2 Rf.out Rt.out Ra.out HX.out HG.out).mono ?_
        rintro e w3 ⟨rfl, hb⟩
        replace HBL := Lib.hid (HBL.out.trans (hb.mono HBL.out.size))
        clear hb
        go_wp2_with fail
        refine (C.bet f t b y 0 w3 Rf.out Rt.out Rb.out HY.out HH.out).mono ?_
        rintro e w4 ⟨rfl, hb⟩
        replace HBL := Lib.hid (HBL.out.trans (hb.mono HBL.out.size))
        clear hb
        go_wp2_with fail
        refine (priced_any C w4).mono ?_
        rintro e w5 ⟨rfl, hb⟩
        replace HBL := Lib.hid (HBL.out.trans (hb.mono HBL.out.size))
        clear hb
        go_wp2
        go_ret
        exact ⟨rfl, HBL.out⟩
      | true =>
        have HX := Lib.hid (vx.trans hx)
        cases hy : between f t b with
        | false =>
          have HY := Lib.hid (vy.trans hy)
          clear h h2 s1 s2 t1 t2 vx vy hx hy
          have HBL := Lib.hid (Below.refl w.heap.size w)
          go_enter Try.func8, Try.ntmps8
          go_wp2_with fail
          refine (C.single f t cl c n 0 w Rf.out Rt.out Rcl.out Rc.out HN.out HE.out).mono ?_
          rintro e w1 ⟨rfl, hb⟩
          replace HBL := Lib.hid (HBL.out.trans (hb.mono HBL.out.size))
          clear hb
          go_wp2_with fail
          refine (C.single a b cl c m 0 w1 Ra.out Rb.out Rcl.out Rc.out HM.out HF.out).mono ?_
          rintro e w2 ⟨rfl, hb⟩
          replace HBL := Lib.hid (HBL.out.trans (hb.mono HBL.out.size))
          clear hb
          go_wp2_with fail
          refine (C.bet f t a true 0 w2 Rf.out Rt.out Ra.out HX.out HG.out).mono ?_
          rintro e w3 ⟨rfl, hb⟩
          replace HBL := Lib.hid (HBL.out.trans (hb.mono HBL.out.size))
          clear hb
          go_wp2_with fail
          refine (C.bet f t b false 0 w3 Rf.out Rt.out Rb.out HY.out HH.out).mono ?_
          rintro e w4 ⟨rfl, hb⟩
          replace HBL := Lib.hid (HBL.out.trans (hb.mono HBL.out.size))
          clear hb
          go_wp2_with fail
          refine (priced_any C w4).mono ?_
          rintro e w5 ⟨rfl, hb⟩
          replace HBL := Lib.hid (HBL.out.trans (hb.mono HBL.out.size))
          clear hb
          go_wp2
          go_ret
          exact ⟨rfl, HBL.out⟩
        | true =>
          have HY := Lib.hid (vy.trans hy)
          have hle := far_facts h h2 hx hy
          rw [HN.out, HM.out] at hle
          have q : decide (m ≤ n) = true := decide_eq_true hle
          clear h h2 s1 s2 t1 t2 vx vy hx hy hle
          have HBL := Lib.hid (Below.refl w.heap.size w)
          go_enter Try.func8, Try.ntmps8
          go_wp2_with fail
          refine (C.single f t cl c n 0 w Rf.out Rt.out Rcl.out Rc.out HN.out HE.out).mono ?_
          rintro e w1 ⟨rfl, hb⟩
          replace HBL := Lib.hid (HBL.out.trans (hb.mono HBL.out.size))
          clear hb
          go_wp2_with fail
          refine (C.single a b cl c m 0 w1 Ra.out Rb.out Rcl.out Rc.out HM.out HF.out).mono ?_
          rintro e w2 ⟨rfl, hb⟩
          replace HBL := Lib.hid (HBL.out.trans (hb.mono HBL.out.size))
          clear hb
          go_wp2_with fail
          refine (C.bet f t a true 0 w2 Rf.out Rt.out Ra.out HX.out HG.out).mono ?_
          rintro e w3 ⟨rfl, hb⟩
          replace HBL := Lib.hid (HBL.out.trans (hb.mono HBL.out.size))
          clear hb
          go_wp2_with fail
          refine (C.bet f t b true 0 w3 Rf.out Rt.out Rb.out HY.out HH.out).mono ?_
          rintro e w4 ⟨rfl, hb⟩
          replace HBL := Lib.hid (HBL.out.trans (hb.mono HBL.out.size))
          clear hb
          go_wp2_with fail
          refine (priced_any C w4).mono ?_
          rintro e w5 ⟨rfl, hb⟩
          replace HBL := Lib.hid (HBL.out.trans (hb.mono HBL.out.size))
          clear hb
          go_wp2
          go_ret
          exact ⟨rfl, HBL.out⟩
end Go.Proofs.Ytniffcjcnjhehaa
