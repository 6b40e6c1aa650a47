/-
  Contracts for the landed charOf, sumOf, bitsOf. Conditions: values below 16.
-/
import Derived.Test.YtjlcaobffhihhaaTrackVals
import Derived.Test.YtjlcaobffhihhaaParityPBits
import Derived.Test.YtjlcaobffhihhaaParityPSum
namespace Go.Proofs.Ytjlcaobffhihhaa
set_option linter.unusedVariables false
open Go.ChangeShapes Go.WideShapes Go.ChangeAt Go.RowKit

set_option maxRecDepth 100000 in
set_option maxHeartbeats 1600000 in
theorem pcharof_any (v c : Nat) (hv : v < 16) (hc : charN v = c) (w : World) : Calls Try.prog 34 #[.int .i64 (v : Int)] w fun e w' => e = .returned (.int .i64 (c : Int)) ∧ Below w.heap.size w w' := by
  have cf := char_facts v hv
  rw [hc] at cf
  have HCF := Lib.hid cf
  clear cf hc
  go_enter Try.func34, Try.ntmps34
  go_wp2_with (go_at_call 41; refine (pchar_any _ _ _ HCF.out.1 HCF.out.2.1 _).mono ?_; rintro e w2 ⟨rfl, hb⟩)
  go_ret
  exact ⟨rfl, hb⟩
set_option maxRecDepth 100000 in
set_option maxHeartbeats 1600000 in
theorem psumof_any (vs : List Nat) (hv : ∀ v ∈ vs, v < 16) (n : Nat) (hn : n = vs.length) (A : Option Addr) (c : Nat) (x : Nat) (hx : xorL vs = x) (w : World) (hA : Zs w w.heap.size (NZ vs) A c) : Calls Try.prog 24 #[.slice A n c] w fun e w' => e = .returned (.int .i64 (x : Int)) ∧ w' = w := by
  have cf := sum_nz hv
  rw [hx] at cf
  have HCF := Lib.hid cf
  have HN := Lib.hid (show n = (NZ vs).length by rw [NZ_len]; exact hn)
  have HA := Lib.hid hA
  clear cf hx hn hA
  go_enter Try.func24, Try.ntmps24
  go_wp2_with (go_at_call 35; refine (psum_any _ _ HN.out _ _ _ _ HCF.out.1 HCF.out.2 _ HA.out).mono ?_; rintro e w2 ⟨rfl, rfl⟩)
  go_ret
  exact ⟨rfl, rfl⟩
set_option maxRecDepth 100000 in
set_option maxHeartbeats 1600000 in
theorem pbitsof_any (vs : List Nat) (hv : ∀ v ∈ vs, v < 16) (n : Nat) (hn : n = vs.length) (hn2 : n ≤ 2000) (A : Option Addr) (c : Nat) (w : World) (hA : Zs w w.heap.size (NZ vs) A c) : Calls Try.prog 23 #[.slice A n c] w fun e w' => ∃ A' c', e = .returned (.slice A' ((5 * n : Nat)) c') ∧ Vs w' w'.heap.size (charsL vs) A' c' ∧ Below w.heap.size w w' := by
  obtain ⟨i0, hi, hz0, hz1, hz2⟩ := info_parts infoBoolT
  have HN := Lib.hid hn
  have HA := Lib.hid hA
  have HV := Lib.hid hv
  have hn3 : n ≤ 9223372036854775807 := by omega
  clear hn hA hv
  go_enter Try.func23, Try.ntmps23
  go_wp2
  go_loopw [3, 11] (fun v i wr => ∃ k : Nat, k ≤ n ∧ i = .int .i64 k ∧ wr.ownsRow w.heap.size 4 1 v (5 * k) (BL (charsL (vs.take k))) ∧ Below w.heap.size w wr) (fun _ i _ => n - (intOf i).toNat)
  case atStart => exact ⟨0, by omega, rfl, World.ownsRow_lit w #[] 0 (Nat.le_refl _) (by decide) rfl, below_lit w _ _⟩
  case round =>
    obtain ⟨k, hk, rfl, hown, hbel⟩ := hrel
    by_cases hlt : k < n
    · obtain ⟨x, hx⟩ : ∃ x, vs[k]? = some x := ⟨_, List.getElem?_eq_getElem (by rw [← HN.out]; exact hlt)⟩
      have hx16 : x < 16 := HV.out x (List.mem_of_getElem? hx)
      obtain ⟨ad, rfl, hadl, hc0⟩ := HA.out.at (NZ_at hx)
      have hc : wr.cell? (ad.add k) = some (.int .i64 (x : Int)) := (hbel.cell (by rw [add_block]; exact hadl)).trans hc0
      have HX := Lib.hid hx
      have HOW := Lib.hid hown
      have HBL := Lib.hid hbel
      have cf := char_facts x hx16
      obtain ⟨ch, hch⟩ : ∃ ch, charN x = ch := ⟨_, rfl⟩
      rw [hch] at cf
      obtain ⟨b, hb⟩ : ∃ b, bitsB (ch : Int) = b := ⟨_, rfl⟩
      rw [hb] at cf
      have HCF := Lib.hid cf
      have HB := Lib.hid hb
      have HCH := Lib.hid hch
      have b0 : (0 : Int) ≤ (k : Int) := by omega
      have b1 : (k : Int) < (n : Int) := by omega
      clear hown hbel hx hadl hc0 cf hb hch
      go_wp2_with (go_at_call 34; refine (pcharof_any x ch hx16 HCH.out _).mono ?_; rintro e w2 ⟨rfl, hb2⟩)
      have HO2 := Lib.hid (own_below HOW.out hb2)
      have HB2 := Lib.hid (HBL.out.trans (hb2.mono HBL.out.size))
      clear hb2 hc
      have hm1 : 5 * k + 5 ≤ maxLen := by unfold maxLen; omega
      have hm2 : (5 * k + 5) * 1 ≤ 140737488355328 := by omega
      have hsz := HB2.out.size
      go_wp2_with (first | (go_at_call 33; refine (pbits_any _ b 0 HB.out HCF.out.2.2.1 _).mono ?_; rintro e w3 ⟨rfl, hb3⟩) | (at_builtin; refine wpList_append_own _ rfl (.tmp 21) (.tmp 22) 32 rfl w.heap.size 4 i0 (.bool false) 1 1 Try.underlying32 hi hz0 hz1 hz2 rfl (by decide) _ (5 * k) (BL (charsL (vs.take k))) rfl (own_below (own_below HO2.out hb3) (below_lit w3 _ _)) ⟨w3.heap.size, 0, none⟩ 5 5 (BL (B5L b)) rfl rfl (bbox_rd (BBox.new w3 b)) (BL_one _) hm1 hm2 (by have := hb3.size; simp; omega) ?_))
      have hszA : w.heap.size ≤ w3.heap.size := Nat.le_trans hsz hb3.size
      replace HOW := Lib.hid (own_below (own_below HO2.out hb3) (below_lit w3 #[.bool b.b0, .bool b.b1, .bool b.b2, .bool b.b3, .bool b.b4] 50))
      replace HBL := Lib.hid ((HB2.out.trans (hb3.mono HB2.out.size)).trans ((below_lit w3 #[.bool b.b0, .bool b.b1, .bool b.b2, .bool b.b3, .bool b.b4] 50).mono hszA))
      clear hb3 HO2 HB2 hsz
      intro v8 w8 hown8 hg8 _
      have HO8 := Lib.hid (show w8.ownsRow w.heap.size 4 1 v8 (5 * (k + 1)) (BL (charsL (vs.take (k + 1)))) by
        rw [charsL_take HX.out, ← HCF.out.2.2.2, BL_append, show 5 * (k + 1) = 5 * k + 5 by omega]
        exact hown8)
      have HB8 := Lib.hid (HBL.out.grown hg8 (by simp; omega) (fun p hp => own_ge HOW.out hp))
      clear hown8 hg8 HOW HBL
      go_wp2
      go_roundw
      case rel => exact ⟨k + 1, by omega, by go_num, HO8.out, HB8.out⟩
      case measure => simp [intOf]; omega
    · have e : k = n := by omega
      have hb : ¬ ((k : Int) < (n : Int)) := by omega
      have ht : charsL (vs.take k) = charsL vs := by rw [e, HN.out, List.take_length]
      rw [ht, e] at hown
      clear ht hlt
      obtain ⟨A', c', hv, _, hbs⟩ := vs_of_own hown
      subst hv
      go_wp2
      go_ret
      exact ⟨_, _, rfl, hbs, hbel⟩
end Go.Proofs.Ytjlcaobffhihhaa
