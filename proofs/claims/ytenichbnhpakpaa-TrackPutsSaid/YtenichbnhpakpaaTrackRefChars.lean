/-
  Contract for the reference's chars. Conditions: the slice reads as values; at most 1003 of them.
-/
import Derived.Test.YtenichbnhpakpaaTrackVals
import Derived.Test.YtenichbnhpakpaaParityRefBits
namespace Go.Proofs.Ytenichbnhpakpaa
set_option linter.unusedVariables false
open Go.ChangeShapes Go.WideShapes Go.ChangeAt Go.RowKit

set_option maxRecDepth 100000 in
set_option maxHeartbeats 1600000 in
theorem refchars_any (vs : List Nat) (hv : ∀ v ∈ vs, v < 16) (n : Nat) (hn : n = vs.length) (hn2 : n ≤ 2000) (A : Option Addr) (c : Nat) (w : World) (hA : Zs w w.heap.size (NZ vs) A c) : Calls Try.prog 23 #[.slice A n c] w fun e w' => ∃ A' c', e = .returned (.slice A' ((5 * n : Nat)) c') ∧ Vs w' w'.heap.size (charsL vs) A' c' ∧ Below w.heap.size w w' := by
  obtain ⟨i0, hi, hz0, hz1, hz2⟩ := info_parts infoBoolT
  have HN := Lib.hid hn
  have HA := Lib.hid hA
  have HV := Lib.hid hv
  have hn3 : n ≤ 9223372036854775807 := by omega
  clear hn hA hv
  go_enter Try.func23, Try.ntmps23
  go_wp2
  go_loopw [3, 4] (fun v i wr => ∃ k : Nat, k ≤ n ∧ i = .int .i64 k ∧ wr.ownsRow w.heap.size 4 1 v (5 * k) (BL (charsL (vs.take k))) ∧ Below w.heap.size w wr) (fun _ i _ => n - (intOf i).toNat)
  case atStart => exact ⟨0, by omega, rfl, World.ownsRow_lit w #[] 0 (Nat.le_refl _) (by decide) rfl, below_lit w _ _⟩
  case round =>
    obtain ⟨k, hk, rfl, hown, hbel⟩ := hrel
    by_cases hlt : k < n
    · obtain ⟨x, hx⟩ : ∃ x, vs[k]? = some x := ⟨_, List.getElem?_eq_getElem (by rw [← HN.out]; exact hlt)⟩
      have hx16 : x < 16 := HV.out x (List.mem_of_getElem? hx)
      obtain ⟨ad, rfl, hadl, hc0⟩ := HA.out.at (NZ_at hx)
      have hc : wr.cell? (ad.add k) = some (.int .i64 (x : Int)) := (hbel.cell (by rw [add_block]; exact hadl)).trans hc0
      have HX := Lib.hid hx
      have HOW := Lib.hid hown
      have HBL := Lib.hid hbel
      have cf := char_facts x hx16
      obtain ⟨ch, hch⟩ : ∃ ch, charN x = ch := ⟨_, rfl⟩
      rw [hch] at cf
      obtain ⟨b, hb⟩ : ∃ b, bitsB (ch : Int) = b := ⟨_, rfl⟩
      rw [hb] at cf
      have HCF := Lib.hid cf
      have HB := Lib.hid hb
      have b0 : (0 : Int) ≤ (k : Int) := by omega
      have b1 : (k : Int) < (n : Int) := by omega
      clear hown hbel hx hadl hc0 cf hb hch
      go_wp2_with (go_at_call 33; refine (refchar_any _ _ _ HCF.out.1 HCF.out.2.1 _).mono ?_; rintro e w2 ⟨rfl, rfl⟩)
      go_wp2_with (go_at_call 34; refine (refbits_any _ b 0 HB.out HCF.out.2.2.1 _).mono ?_; rintro e w3 ⟨rfl, hb3⟩)
      have HO3 := Lib.hid (own_below HOW.out hb3)
      have HB3 := Lib.hid (HBL.out.trans (hb3.mono HBL.out.size))
      obtain ⟨w4, hw⟩ : ∃ w4, w4 = w3.alloc (.cells #[.bool b.b0, .bool b.b1, .bool b.b2, .bool b.b3, .bool b.b4] 46) := ⟨_, rfl⟩
      have HX4 := Lib.hid (show BBox w4 w3.heap.size b by rw [hw]; exact BBox.new w3 b)
      have hb4 : Below w3.heap.size w3 w4 := by rw [hw]; exact below_lit w3 _ _
      replace HOW := Lib.hid (own_below HO3.out hb4)
      replace HBL := Lib.hid (HB3.out.trans (hb4.mono HB3.out.size))
      have hsx : w3.heap.size = w3.heap.size := rfl
      clear hb3 hb4 HO3 HB3 hc
      try rw [← hw]
      clear hw
      obtain ⟨X, hXe⟩ : ∃ X, w3.heap.size = X := ⟨_, rfl⟩
      rw [hXe] at HX4 ⊢
      clear hXe hsx
      go_loopw [3, 9] (fun v j wr => ∃ q : Nat, q ≤ 5 ∧ j = .int .i64 q ∧ wr.ownsRow w.heap.size 4 1 v (5 * k + q) (BL (charsL (vs.take k) ++ (B5L b).take q)) ∧ BBox wr X b ∧ Below w.heap.size w wr) (fun _ j _ => 5 - (intOf j).toNat)
      case atStart => exact ⟨0, by omega, rfl, by simpa using HOW.out, HX4.out, HBL.out⟩
      case round =>
        obtain ⟨q, hq, rfl, hown, hbx, hbel⟩ := hrel
        replace HOW := Lib.hid hown
        replace HX4 := Lib.hid hbx
        replace HBL := Lib.hid hbel
        clear hown hbx hbel
        by_cases hq5 : q < 5
        · have hc := HX4.out.get q hq5
          have HT := Lib.hid (B5L_take b q hq5)
          obtain ⟨t, ht⟩ : ∃ t, getB b q = t := ⟨_, rfl⟩
          rw [ht] at hc HT
          have hsz := HBL.out.size
          have hxs := HX4.out.lt
          have hm1 : 5 * k + q + 1 ≤ maxLen := by unfold maxLen; omega
          have hm2 : (5 * k + q + 1) * 1 ≤ 140737488355328 := by omega
          have c0 : (0 : Int) ≤ (q : Int) := by omega
          have c1 : (q : Int) < 5 := by omega
          clear ht
          go_wp2_with (at_builtin; refine wpList_append_own _ rfl (.tmp 34) (.tmp 38) 22 rfl w.heap.size 4 i0 (.bool false) 1 1 Try.underlying22 hi hz0 hz1 hz2 rfl (by decide) _ (5 * k + q) (BL (charsL (vs.take k) ++ (B5L b).take q)) rfl (HOW.out.alloc _) ⟨_, 0, none⟩ 1 1 [.bool t] rfl rfl (bool_lit _ _) (bool_one _) hm1 hm2 (by simp; omega) ?_)
          intro v8 w8 hown8 hg8 _
          have HO8 := Lib.hid (show w8.ownsRow w.heap.size 4 1 v8 (5 * k + (q + 1)) (BL (charsL (vs.take k) ++ (B5L b).take (q + 1))) by
            rw [HT.out, ← List.append_assoc, BL_append, ← Nat.add_assoc]
            exact hown8)
          have HB8 := Lib.hid ((HBL.out.alloc HBL.out.size _).grown hg8 (by simp; omega) (fun p hp => own_ge HOW.out hp))
          have HX8 := Lib.hid (BBox.grown (HX4.out.next (below_lit _ _ _)) (HOW.out.alloc _) hg8)
          clear hown8 hg8 hc HX4 HOW HBL
          go_wp2
          go_roundw
          case rel => exact ⟨q + 1, by omega, by go_num, HO8.out, HX8.out, HB8.out⟩
          case measure => simp [intOf]; omega
        · have e : q = 5 := by omega
          have hb2 : ¬ ((q : Int) < 5) := by omega
          have HOK := Lib.hid (show wr.ownsRow w.heap.size 4 1 u3 (5 * (k + 1)) (BL (charsL (vs.take (k + 1)))) by
            rw [charsL_take HX.out, ← HCF.out.2.2.2, ← show (B5L b).take q = B5L b by rw [e]; rfl, show 5 * (k + 1) = 5 * k + q by omega]
            exact HOW.out)
          clear HOW
          go_wp2
          go_roundw
          case rel => exact ⟨k + 1, by omega, by go_num, HOK.out, HBL.out⟩
          case measure => simp [intOf]; omega
    · have e : k = n := by omega
      have hb : ¬ ((k : Int) < (n : Int)) := by omega
      have ht : charsL (vs.take k) = charsL vs := by rw [e, HN.out, List.take_length]
      rw [ht, e] at hown
      clear ht hlt
      obtain ⟨A', c', hv, _, hbs⟩ := vs_of_own hown
      subst hv
      go_wp2
      go_ret
      exact ⟨_, _, rfl, hbs, hbel⟩
end Go.Proofs.Ytenichbnhpakpaa
