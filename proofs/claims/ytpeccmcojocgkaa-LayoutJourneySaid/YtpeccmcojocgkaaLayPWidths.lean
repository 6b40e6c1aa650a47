/-
  Contract for the landed Widths. Conditions: none.
-/
import Derived.Test.YtpeccmcojocgkaaLayPFields
import Derived.Test.YtpeccmcojocgkaaBcdVals
import Derived.OwnWalk
namespace Go.Proofs.Ytpeccmcojocgkaa
set_option linter.unusedVariables false
open Go.ChangeShapes Go.WideShapes Go.ChangeAt Go.RowKit

theorem int_lit2 (w : World) (o : Obj) (x : Int) : ∀ j u, ([.int .i64 x] : List Value)[j]? = some u → ((w.alloc o).alloc (.cells #[.int .i64 x] 3)).cell? ((⟨w.heap.size + 1, 0, none⟩ : Addr).add j) = some u := by
  have h := int_lit (w.alloc o) x
  rw [show (w.alloc o).heap.size = w.heap.size + 1 by simp] at h
  exact h
theorem one_int (x : Int) : ∀ u ∈ ([.int .i64 x] : List Value), u.oneCell' = true := by
  intro u hu
  simp only [List.mem_singleton] at hu
  subst hu; rfl
theorem take_snoc {α : Type} {l : List α} {k : Nat} {x : α} (h : l[k]? = some x) : l.take (k + 1) = l.take k ++ [x] := by rw [List.take_add_one, h]; rfl
set_option maxRecDepth 100000 in
set_option maxHeartbeats 1600000 in
theorem pwidths_no (k : Int) (hk : ¬ (1 ≤ k ∧ k ≤ 4)) (w : World) : Calls Try.prog 10 #[.int .i64 k] w fun e w' => e = .returned (.tuple #[.slice none 0 0, .int .i64 8]) ∧ Below w.heap.size w w' := by
  have hn : 0 = (fieldsL k).length := by rw [fieldsL_len, widL, if_neg hk]; rfl
  have HN := Lib.hid hn
  clear hn
  go_enter Try.func10, Try.ntmps10
  go_wp2_with (go_at_call 21; refine (pfields_any k 0 HN.out _ _).mono ?_; rintro e w1 ⟨A, c, rfl, -, hb⟩; have HB := Lib.hid hb; clear hb)
  go_ret2
  exact ⟨rfl, (below_lit w _ _).trans (HB.out.mono (by simp))⟩
set_option maxRecDepth 100000 in
set_option maxHeartbeats 1600000 in
theorem pwidths_yes (k : Int) (hk : 1 ≤ k ∧ k ≤ 4) (n : Nat) (hn : n = (widL k).length) (w : World) : Calls Try.prog 10 #[.int .i64 k] w fun e w' => ∃ A c, e = .returned (.tuple #[.slice A n c, .int .i64 0]) ∧ Zs w' w'.heap.size (widL k) A c ∧ Below w.heap.size w w' := by
  obtain ⟨i0, hi, hz0, hz1, hz2⟩ := info_parts infoInt
  have h13 : n ≤ 13 := by rw [hn]; exact widL_le k
  have h12 : 12 ≤ n := by rw [hn, widL_len hk]; split <;> omega
  have hnf : n = (fieldsL k).length := by rw [fieldsL_len, hn]
  have HN := Lib.hid hn
  have HF := Lib.hid hnf
  have hz : ((n : Int) == 0) = false := by rw [beq_eq_false_iff_ne]; omega
  have hz' : (n == 0) = false := by rw [beq_eq_false_iff_ne]; omega
  clear hn hnf hk
  go_enter Try.func10, Try.ntmps10
  go_wp2_with (first | (go_at_call 21; refine (pfields_any k n HF.out _ _).mono ?_; rintro e w1 ⟨A, c, rfl, hfs, hb⟩; have HB := Lib.hid hb; have HFS := Lib.hid hfs; clear hb hfs) | (at_make; refine wpList_make_own _ rfl _ _ 32 rfl w1.heap.size 3 i0 (.int .i64 0) 1 Try.underlying32 hi hz0 hz1 _ _ _ n rfl rfl rfl ?b2 ?b3 ?b4 ?_))
  case b2 => rw [hz2]; omega
  case b3 => unfold maxLen; omega
  case b4 => exact Nat.le_refl _
  intro w2 hown hgr
  have HO0 := Lib.hid hown
  have HB2 := Lib.hid (show Below w1.heap.size w1 w2 from (Below.refl _ _).grown hgr (Nat.le_refl _) (fun j hj => by cases hj))
  clear hown hgr
  go_wp2
  go_loopw [6, 8, 19] (fun v _ i wr => ∃ j : Nat, j ≤ n ∧ i = .int .i64 j ∧ wr.ownsRow w1.heap.size 3 1 v j (I64 ((widL k).take j)) ∧ Below w1.heap.size w1 wr) (fun _ _ i _ => n - (intOf i).toNat)
  case atStart => exact ⟨0, Nat.zero_le _, rfl, HO0.out, HB2.out⟩
  case round =>
    obtain ⟨j, hj, rfl, hown, hbel⟩ := hrel
    have HO := Lib.hid hown
    have HBL := Lib.hid hbel
    clear hown hbel
    by_cases hlt : j < n
    · have hjl : j < (fieldsL k).length := by rw [← HF.out]; exact hlt
      obtain ⟨⟨o, wd⟩, hx⟩ : ∃ x, (fieldsL k)[j]? = some x := ⟨_, List.getElem?_eq_getElem hjl⟩
      obtain ⟨g, rfl, hb, hc, hc'⟩ := (HFS.out.next HBL.out).at hx
      have hw : (widL k)[j]? = some wd := by rw [← fieldsL_wid, List.getElem?_map, hx]; rfl
      have HW := Lib.hid hw
      have b1 : (0 : Int) ≤ (j : Int) := by omega
      have b2 : (j : Int) < (n : Int) := by omega
      clear hjl hx hw
      go_wp2_with (at_builtin; refine wpList_append_own _ rfl _ _ 32 rfl w1.heap.size 3 i0 (.int .i64 0) 1 8 Try.underlying32 hi hz0 hz1 hz2 rfl (by decide) _ j _ rfl ((HO.out.alloc _).alloc _) ⟨wr.heap.size + 1, 0, none⟩ 1 1 [.int .i64 wd] rfl rfl (int_lit2 _ _ _) (one_int _) (by unfold maxLen; omega) (by omega) (by have := HBL.out.size; simp; omega) ?_; intro v' w3 hown' hgrow _)
      have hbel2 : Below w1.heap.size w1 w3 := (((HBL.out.alloc HBL.out.size _).alloc (by have := HBL.out.size; simp; omega) _)).grown hgrow (by have := HBL.out.size; simp; omega) (fun j hj => own_ge HO.out hj)
      have HO2 : Hid (w3.ownsRow w1.heap.size 3 1 v' (j + 1) (I64 ((widL k).take (j + 1)))) := Lib.hid (by rw [take_snoc HW.out, I64_append]; exact hown')
      clear hown' hgrow
      go_wp2
      go_roundw
      case rel => exact ⟨j + 1, by omega, by go_num, HO2.out, hbel2⟩
      case measure => simp [intOf]; omega
    · have e1 : j = n := by omega
      subst e1
      have e2 : (widL k).take j = widL k := List.take_of_length_le (by rw [← HN.out]; omega)
      have ho := HO.out
      rw [e2] at ho
      obtain ⟨A2, c2, rfl, _, hzs⟩ := zs_of_own ho
      have HZ := Lib.hid hzs
      have HB3 := Lib.hid (((below_lit w _ _).trans (HB.out.mono (by simp))).trans (HBL.out.mono (by have := HB.out.size; simp at this; omega)))
      clear e2 ho hzs
      go_wp2
      go_ret2
      exact ⟨A2, c2, rfl, HZ.out, HB3.out⟩
theorem pwidths_any (k E : Int) (l : List Int) (n : Nat) (hn : n = l.length) (hE : widE k = E) (hl : widL k = l) (w : World) : Calls Try.prog 10 #[.int .i64 k] w fun e w' => ∃ A c, e = .returned (.tuple #[.slice A n c, .int .i64 E]) ∧ Zs w' w'.heap.size l A c ∧ Below w.heap.size w w' := by
  by_cases hk : 1 ≤ k ∧ k ≤ 4
  · obtain rfl : E = 0 := by rw [← hE, widE, if_pos hk]
    subst hl
    exact pwidths_yes k hk n hn w
  · obtain rfl : E = 8 := by rw [← hE, widE, if_neg hk]
    obtain rfl : l = [] := by rw [← hl, widL, if_neg hk]
    subst hn
    refine (pwidths_no k hk w).mono ?_
    rintro e w' ⟨rfl, hb⟩
    exact ⟨none, 0, rfl, zs_nil _, hb⟩
end Go.Proofs.Ytpeccmcojocgkaa
