/-
  Contract for the landed fill: what the fields tell stands at the numbers' places. Conditions: the fields are right and read as such ahead of the reading's block.
-/
import Derived.Test.YtaldpioahnbkgaaFieldsA
import Derived.Test.YtaldpioahnbkgaaTlvMem
import Derived.Test.YtaldpioahnbkgaaTlvNum
namespace Go.Proofs.Ytaldpioahnbkgaa
set_option linter.unusedVariables false
open Go.ChangeShapes Go.WideShapes Go.ChangeAt Go.RowKit

theorem fdFill_must {a : List Int} {l : List Tf} {k : Nat} (h : k < l.length) (q : 128 ≤ (l.getD k TF0).tag) : fdFill a (l.drop k) = (16, a) := by
  have e : l.drop k = l.getD k TF0 :: l.drop (k + 1) := by rw [List.getD_eq_getElem?_getD, List.getElem?_eq_getElem h, Option.getD_some, List.getElem_cons_drop]
  rw [e, fdFill, if_pos q]
theorem fdFill_unknown {a : List Int} {l : List Tf} {k : Nat} (h : k < l.length) (q : ¬ 128 ≤ (l.getD k TF0).tag) (q2 : 13 < (l.getD k TF0).tag) : fdFill a (l.drop k) = (15, a) := by
  have e : l.drop k = l.getD k TF0 :: l.drop (k + 1) := by rw [List.getD_eq_getElem?_getD, List.getElem?_eq_getElem h, Option.getD_some, List.getElem_cons_drop]
  rw [e, fdFill, if_neg q, if_pos q2]
theorem fdFill_value {a : List Int} {l : List Tf} {k : Nat} (h : k < l.length) (q2 : ¬ 13 < (l.getD k TF0).tag) {v E : Nat} (hv : valT (l.getD k TF0).val = (v, E)) (hE : E ≠ 0) : fdFill a (l.drop k) = (E, a) := by
  have e : l.drop k = l.getD k TF0 :: l.drop (k + 1) := by rw [List.getD_eq_getElem?_getD, List.getElem?_eq_getElem h, Option.getD_some, List.getElem_cons_drop]
  rw [e, fdFill, if_neg (by omega), if_neg q2, hv, if_pos hE]
theorem fdFill_step {a : List Int} {l : List Tf} {k : Nat} (h : k < l.length) (q2 : ¬ 13 < (l.getD k TF0).tag) {v : Nat} (hv : valT (l.getD k TF0).val = (v, 0)) : fdFill a (l.drop k) = fdFill (a.set ((l.getD k TF0).tag.toNat - 1) (v : Nat)) (l.drop (k + 1)) := by
  have e : l.drop k = l.getD k TF0 :: l.drop (k + 1) := by rw [List.getD_eq_getElem?_getD, List.getElem?_eq_getElem h, Option.getD_some, List.getElem_cons_drop]
  rw [e, fdFill, if_neg (by omega), if_neg q2, hv, if_neg (by simp)]
theorem fdFill_len : ∀ (l : List Tf) (a : List Int), (fdFill a l).2.length = a.length
  | [], a => rfl
  | f :: l, a => by
    rw [fdFill]
    split
    · rfl
    · split
      · rfl
      · split
        · rfl
        · rw [fdFill_len l, List.length_set]
theorem isT_pos {l : List Tf} (h : isT 0 l = true) {k : Nat} (hk : k < l.length) : 0 < (l.getD k TF0).tag := by
  have hm : l.getD k TF0 ∈ l := by
    rw [List.getD_eq_getElem?_getD, List.getElem?_eq_getElem hk]
    exact List.getElem_mem _
  exact ((isT_short h (by omega) (by omega)).2 _ hm).2.1
set_option maxRecDepth 100000 in
set_option maxHeartbeats 1600000 in
theorem pfill_any (l : List Tf) (n : Nat) (hn : n = l.length) (hi : isT 0 l = true) (a : List Int) (ha : a.length = 13) (E : Nat) (a' : List Int) (hE : fdFill a l = (E, a')) (X : Nat) (A : Option Addr) (c : Nat) (w : World) (hX : FBox w X (rgL (rdL a))) (hA : Ts w X l A c) :
    Calls Try.prog 32 #[.func (.func 23) #[.pointer (some ⟨X, 0, none⟩)] #[], .slice A n c] w fun e w' => e = .returned (.int .i64 (E : Int)) ∧ FBox w' X (rgL (rdL a')) ∧ w.grownBy w' (some X) := by
  have h1 : n ≤ 9223372036854775807 := by have h1 := hA.len; have h2 := hA.cap; omega
  have hXw := hX.lt
  have HX := Lib.hid hX
  have HN := Lib.hid hn
  have HI := Lib.hid hi
  have HA := Lib.hid hA
  have HE := Lib.hid hE
  clear hX hn hi hA hE
  go_enter Try.func32, Try.ntmps32
  go_wp2
  go_loopw [12] (fun i wr => ∃ (k : Nat) (b : List Int), k ≤ n ∧ i = .int .i64 k ∧ b.length = 13 ∧ fdFill b (l.drop k) = (E, a') ∧ FBox wr X (rgL (rdL b)) ∧ w.grownBy wr (some X)) (fun i _ => n - (intOf i).toNat)
  case atStart => exact ⟨0, a, Nat.zero_le _, rfl, ha, HE.out, HX.out, World.grownBy.refl _ _⟩
  case round =>
    obtain ⟨k, b, hk, rfl, hbl, hfill, hbox, hg⟩ := hrel
    have HF := Lib.hid hfill
    have HB := Lib.hid hbox
    have HG := Lib.hid hg
    have HL := Lib.hid hbl
    have hsz := hg.size
    have hXr := hbox.lt
    clear hfill hbox hg hbl
    by_cases hlt : k < n
    · obtain ⟨ad, S, cc, rfl, had, hk4⟩ := (HA.out.below (below_grownR HG.out (Nat.le_refl _) (Nat.le_of_lt hXw))).rd k (by rw [← HN.out]; exact hlt)
      have hc0 := hk4.c0
      have hc1 := hk4.c1
      have hcap := hk4.bs.len
      have hcap2 := hk4.bs.cap
      have HKL := Lib.hid (show k < l.length by rw [← HN.out]; exact hlt)
      have h0 := isT_pos HI.out HKL.out
      have b1 : (0 : Int) ≤ (k : Int) := by omega
      have b2 : (k : Int) < (n : Int) := by omega
      have F1 := Lib.hid (fun q => fdFill_must (a := b) HKL.out q)
      have F2 := Lib.hid (fun q q2 => fdFill_unknown (a := b) HKL.out q q2)
      have F3 := Lib.hid (fun q2 (v E : Nat) hv hE => fdFill_value (a := b) HKL.out q2 (v := v) (E := E) hv hE)
      have F4 := Lib.hid (fun q2 (v : Nat) hv => fdFill_step (a := b) HKL.out q2 (v := v) hv)
      obtain ⟨x, hx⟩ : ∃ x, x = l.getD k TF0 := ⟨_, rfl⟩
      rw [← hx] at hc0 hc1 hcap h0 F1 F2 F3 F4
      have HBS := Lib.hid (show Bs wr X x.val S cc by rw [hx]; exact hk4.bs)
      obtain ⟨wb, hwb⟩ : ∃ wb, wb = wr.alloc (.cells #[.int .i64 x.tag, .slice S x.val.length cc] 56) := ⟨_, rfl⟩
      have hlit : Below wr.heap.size wr wb := by rw [hwb]; exact below_lit wr _ _
      have HGB := Lib.hid (show w.grownBy wb (some X) from grownR_trans HG.out (grownR_below _ hlit))
      have HBB := Lib.hid (show FBox wb X (rgL (rdL b)) from HB.out.next hlit)
      have HBS2 := Lib.hid ((HBS.out.below (hlit.mono (Nat.le_of_lt hXr))).more (Nat.le_of_lt HBB.out.lt))
      clear hx hk4 HBS hlit
      by_cases q1 : 128 ≤ x.tag
      · have e := F1.out q1
        rw [HF.out] at e
        obtain ⟨e1, e2⟩ := Prod.mk.inj e
        have HE1 := Lib.hid e1
        have HE2 := Lib.hid e2
        clear e e1 e2
        rw [hwb] at HGB HBB
        clear hwb HBS2
        go_wp2
        go_ret
        exact ⟨by rw [HE1.out]; rfl, by rw [HE2.out]; exact HBB.out, HGB.out⟩
      by_cases q2 : 13 < x.tag
      · have e := F2.out q1 q2
        rw [HF.out] at e
        obtain ⟨e1, e2⟩ := Prod.mk.inj e
        have HE1 := Lib.hid e1
        have HE2 := Lib.hid e2
        clear e e1 e2
        rw [hwb] at HGB HBB
        clear hwb HBS2
        go_wp2_with fail
        refine (pnum_none X x.tag q2 _).mono ?_
        rintro e w1 ⟨rfl, rfl⟩
        go_wp2
        go_ret
        exact ⟨by rw [HE1.out]; rfl, by rw [HE2.out]; exact HBB.out, HGB.out⟩
      obtain ⟨t, ht⟩ : ∃ t : Nat, x.tag = (t : Int) := ⟨x.tag.toNat, by omega⟩
      obtain ⟨m, hm⟩ : ∃ m : Nat, x.val.length = m := ⟨_, rfl⟩
      obtain ⟨v, Ev, hv⟩ : ∃ v Ev, valT x.val = (v, Ev) := ⟨_, _, rfl⟩
      have HV := Lib.hid hv
      have HM := Lib.hid hm
      have HT := Lib.hid (show 1 ≤ t ∧ t ≤ 13 by omega)
      rw [hm] at hc1 hcap hwb
      rw [ht] at hc0 hwb
      have G3 := F3.out q2 v Ev hv
      have G4 := F4.out q2 v
      rw [ht, Int.toNat_natCast] at G4
      have HG3 := Lib.hid G3
      have HG4 := Lib.hid G4
      have b3 : ¬ ((128 : Int) ≤ (t : Int)) := by omega
      rw [hwb] at HGB HBB HBS2
      clear hv hm G3 G4 F1 F2 F3 F4 hwb q1 q2 ht h0
      obtain ⟨o, ho⟩ : ∃ o, o = posN t := ⟨_, rfl⟩
      obtain ⟨y, hy⟩ : ∃ y, (rgL (rdL b))[o]? = some y := ⟨_, by rw [ho]; exact pos_at (rdL b) HT.out.1 HT.out.2⟩
      have hcy := HBB.out.cell hy
      have hfy := HBB.out.frozen o
      have HPO := Lib.hid ho.symm
      have HST := Lib.hid (show (rgL (rdL b)).set o (v : Int) = rgL (rdL (b.set (t - 1) (v : Int))) by rw [ho]; exact pos_set HL.out HT.out.1 HT.out.2 _)
      clear hy ho
      go_wp2_with fail
      refine (pnum_any X t HT.out.1 HT.out.2 _).mono ?_
      rintro e w1 ⟨rfl, rfl⟩
      rw [HPO.out]
      go_wp2_with fail
      refine (tpvalue_any x.val m HM.out.symm v Ev HV.out S cc _ HBS2.out).mono ?_
      rintro e w1 ⟨rfl, rfl⟩
      by_cases hE0 : Ev = 0
      · subst hE0
        have e := HG4.out HV.out
        rw [HF.out] at e
        have HE4 := Lib.hid e.symm
        clear e
        go_wp2
        go_roundw
        case rel =>
          refine ⟨k + 1, b.set (t - 1) (v : Int), by omega, by go_num, by rw [List.length_set]; exact HL.out, HE4.out, ?_, ?_⟩
          · rw [← HST.out]
            exact (HB.out.set o (v : Int)).alloc _
          · exact grownR_trans (grownR_trans HG.out (grown_cell wr X o (.int .i64 (v : Int)))) (grownR_below (some X) (below_lit _ _ _))
        case measure => simp [intOf]; omega
      · have e := HG3.out hE0
        rw [HF.out] at e
        obtain ⟨e1, e2⟩ := Prod.mk.inj e
        have HE1 := Lib.hid e1
        have HE2 := Lib.hid e2
        have s1 : ((Ev : Int) == 0) = false := by rw [beq_eq_false_iff_ne]; omega
        have s2 : ((Ev : Int) != 0) = true := by rw [bne_iff_ne]; omega
        have s3 : (Ev == 0) = false := by rw [beq_eq_false_iff_ne]; exact hE0
        have s4 : (Ev != 0) = true := by rw [bne_iff_ne]; exact hE0
        clear e e1 e2 hE0
        go_wp2
        go_ret
        exact ⟨by rw [HE1.out]; rfl, by rw [HE2.out]; exact HBB.out, HGB.out⟩
    · have e : k = n := by omega
      have e2 : l.drop k = [] := List.drop_eq_nil_of_le (by rw [← HN.out]; omega)
      have e3 := HF.out
      rw [e2, fdFill] at e3
      obtain ⟨rfl, e4⟩ := Prod.mk.inj e3
      have HE4 := Lib.hid e4
      clear e2 e3 e4
      go_wp2
      go_ret
      exact ⟨rfl, by rw [← HE4.out]; exact HB.out, HG.out⟩
end Go.Proofs.Ytaldpioahnbkgaa
