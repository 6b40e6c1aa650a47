/-
  Law ParitySums walked, out of the contracts: it answers true. Conditions: the slice reads as ints that fit an int; the number fits an int.
-/
import Derived.Test.YtmkhkiddiimmjaaParityBackLaw
import Derived.Test.YtmkhkiddiimmjaaBitsEq
namespace Go.Proofs.Ytmkhkiddiimmjaa
set_option linter.unusedVariables false
open Go.ChangeShapes Go.WideShapes Go.ChangeAt Go.RowKit

set_option maxRecDepth 100000 in
set_option maxHeartbeats 1600000 in
theorem sums_any (C : PC) (l : List Int) (n : Nat) (hn : n = l.length) (A : Option Addr) (cc : Nat) (c : Int) (b : B5) (jl : ∀ z ∈ l, In64 z) (jc : In64 c) (w : World) (hA : Zs w w.heap.size l A cc) : Calls Try.prog 4 #[.slice A n cc, .int .i64 c, .agg #[.bool b.b0, .bool b.b1, .bool b.b2, .bool b.b3, .bool b.b4]] w fun e w' => e = .returned (.bool true) ∧ Below w.heap.size w w' := by
  have RL := Lib.hid jl
  have RC := Lib.hid jc
  have HN := Lib.hid hn
  have L1 := Lib.hid hA
  have hc := hA.cap
  have hlc := hA.len
  have hn3 : n ≤ 9223372036854775807 := by omega
  clear jl hn hA hc hlc jc
  obtain ⟨x, hx⟩ : ∃ x, sumV l = x := ⟨_, rfl⟩
  have HX := Lib.hid hx
  clear hx
  obtain ⟨E, hE⟩ : ∃ E, sumE l = E := ⟨_, rfl⟩
  have HE := Lib.hid hE
  clear hE
  obtain ⟨d, hd⟩ : ∃ d, bitsB c = d := ⟨_, rfl⟩
  have HD := Lib.hid hd
  clear hd
  obtain ⟨F, hF⟩ : ∃ F, bitsE c = F := ⟨_, rfl⟩
  have HF := Lib.hid hF
  clear hF
  obtain ⟨o, ho⟩ : ∃ o, ofB b = o := ⟨_, rfl⟩
  have HO := Lib.hid ho
  clear ho
  have heq := b5_same d
  have HBL := Lib.hid (Below.refl w.heap.size w)
  cases q0 : decide (1000 < n)
  case true =>
    have p0 : decide ((1000 : Int) < (n : Int)) = true := by rw [decide_eq_true_iff] at q0; exact decide_eq_true (by omega)
    have p1 : 1000 < n := by rw [decide_eq_true_iff] at q0; exact q0
    go_enter Try.func4, Try.ntmps4
    go_wp2
    go_ret
    exact ⟨rfl, below_lit w _ _⟩
  case false =>
    have p0 : decide ((1000 : Int) < (n : Int)) = false := by rw [decide_eq_false_iff_not] at q0; exact decide_eq_false (by omega)
    have p1 : ¬ (1000 < n) := by rw [decide_eq_false_iff_not] at q0; exact q0
    clear q0
    go_enter Try.func4, Try.ntmps4
    go_wp2_with fail
    obtain ⟨w1, hw⟩ : ∃ w1, w1 = w.alloc (.cells #[.bool b.b0, .bool b.b1, .bool b.b2, .bool b.b3, .bool b.b4] 28) := ⟨_, rfl⟩
    rw [← hw]
    have hx : BBox w1 w.heap.size (b) := by rw [hw]; exact BBox.new w (b)
    have hb : Below w.heap.size w w1 := by rw [hw]; exact below_lit w _ _
    replace L1 := Lib.hid (L1.out.next hb)
    replace HBL := Lib.hid (HBL.out.trans (hb.mono HBL.out.size))
    have X1 := Lib.hid hx
    clear hx hb hw
    refine (C.sum l n A cc x E w1 HN.out RL.out HX.out HE.out L1.out).mono ?_
    rintro e w2 ⟨rfl, hb⟩
    replace L1 := Lib.hid (L1.out.next hb)
    replace X1 := Lib.hid (X1.out.next hb)
    replace HBL := Lib.hid (HBL.out.trans (hb.mono HBL.out.size))
    clear hb
    go_wp2_with fail
    refine (refsum_any l n HN.out A cc x E HX.out HE.out w2 L1.out).mono ?_
    rintro e w9 ⟨rfl, e1⟩
    rw [e1]
    clear e1 w9
    go_wp2_with fail
    refine (C.bits c d F w2 RC.out HD.out HF.out).mono ?_
    rintro e w3 ⟨rfl, hb⟩
    replace L1 := Lib.hid (L1.out.next hb)
    replace X1 := Lib.hid (X1.out.next hb)
    replace HBL := Lib.hid (HBL.out.trans (hb.mono HBL.out.size))
    clear hb
    go_wp2_with fail
    obtain ⟨w4, hw⟩ : ∃ w4, w4 = w3.alloc (.cells #[.bool d.b0, .bool d.b1, .bool d.b2, .bool d.b3, .bool d.b4] 28) := ⟨_, rfl⟩
    rw [← hw]
    have hx : BBox w4 w3.heap.size (d) := by rw [hw]; exact BBox.new w3 (d)
    have hb : Below w3.heap.size w3 w4 := by rw [hw]; exact below_lit w3 _ _
    replace L1 := Lib.hid (L1.out.next hb)
    replace X1 := Lib.hid (X1.out.next hb)
    replace HBL := Lib.hid (HBL.out.trans (hb.mono HBL.out.size))
    have X2 := Lib.hid hx
    clear hx hb hw
    refine (refbits_any c d F HD.out HF.out w4).mono ?_
    rintro e w5 ⟨rfl, hb⟩
    replace L1 := Lib.hid (L1.out.next hb)
    replace X1 := Lib.hid (X1.out.next hb)
    replace X2 := Lib.hid (X2.out.next hb)
    replace HBL := Lib.hid (HBL.out.trans (hb.mono HBL.out.size))
    clear hb
    go_wp2
    obtain ⟨w6, hw⟩ : ∃ w6, w6 = w5.alloc (.cells #[.bool d.b0, .bool d.b1, .bool d.b2, .bool d.b3, .bool d.b4] 28) := ⟨_, rfl⟩
    rw [← hw]
    have hx : BBox w6 w5.heap.size (d) := by rw [hw]; exact BBox.new w5 (d)
    have hb : Below w5.heap.size w5 w6 := by rw [hw]; exact below_lit w5 _ _
    replace L1 := Lib.hid (L1.out.next hb)
    replace X1 := Lib.hid (X1.out.next hb)
    replace X2 := Lib.hid (X2.out.next hb)
    replace HBL := Lib.hid (HBL.out.trans (hb.mono HBL.out.size))
    have X3 := Lib.hid hx
    clear hx hb hw
    have HS := Lib.hid (show BBox w6.drew w.heap.size b ∧ BBox w6.drew w3.heap.size d ∧ BBox w6.drew w5.heap.size d from ⟨X1.out, X2.out, X3.out⟩)
    replace HBL := Lib.hid HBL.out.drew
    refine wp_region_held_drew (S := fun w' => BBox w' w.heap.size b ∧ BBox w' w3.heap.size d ∧ BBox w' w5.heap.size d) (by kernel_rfl) HS.out (fun hHeld => ?_)
    refine wpAnyH_ready (rs := [0]) (by kernel_rfl) (by simp) ?_
    refine AllReadyH.cons (o := ⟨some 38, .call _, _, _, _, _⟩) rfl (fun K hK => ?_) AllReadyH.nil
    go_simp
    go_at_call 12
    refine (odd_any C _).mono ?_
    rintro e v ⟨rfl, hb⟩
    go_wp2_with fail
    replace HS := Lib.hid (And.intro (HS.out.1.next hb) (And.intro (HS.out.2.1.next hb) (HS.out.2.2.next hb)))
    replace HBL := Lib.hid (HBL.out.trans (hb.mono HBL.out.size))
    clear hb
    refine hK.out _ _ HS.out (fun hHeld => ?_)
    clear hK K
    try simp only [Act.put, List.setIfInBounds_toArray, List.set_cons_zero, List.set_cons_succ]
    refine wpAnyH_take (i := 1) (oi := ⟨some 39, _, _, _, _, _⟩) (v := ?_) rfl (by kernel_rfl) (by kernel_rfl) (by kernel_rfl) (fun _ _ _ h => h) (Or.inl ⟨by rfl, ?_⟩) hHeld ?_
    rotate_left
    · intro w hSw
      go_simp
      first | done | with_reducible rfl
    try simp only [Act.put, List.setIfInBounds_toArray, List.set_cons_zero, List.set_cons_succ]
    refine wpAnyH_take (i := 2) (oi := ⟨some 40, _, _, _, _, _⟩) (v := ?_) rfl (by kernel_rfl) (by kernel_rfl) (by kernel_rfl) (fun _ _ _ h => h) (Or.inl ⟨by rfl, ?_⟩) hHeld ?_
    rotate_left
    · intro w hSw
      go_simp
      first | done | with_reducible rfl
    try simp only [Act.put, List.setIfInBounds_toArray, List.set_cons_zero, List.set_cons_succ]
    refine wpAnyH_take (i := 3) (oi := ⟨some 41, _, _, _, _, _⟩) (v := ?_) rfl (by kernel_rfl) (by kernel_rfl) (by kernel_rfl) (fun _ _ _ h => h) (Or.inl ⟨by rfl, ?_⟩) hHeld ?_
    rotate_left
    · intro w hSw
      go_simp
      first | done | with_reducible rfl
    try simp only [Act.put, List.setIfInBounds_toArray, List.set_cons_zero, List.set_cons_succ]
    refine wpAnyH_take (i := 4) (oi := ⟨some 42, _, _, _, _, _⟩) (v := .bool true) rfl (by kernel_rfl) (by kernel_rfl) (by kernel_rfl) (fun _ _ _ h => h) (Or.inl ⟨by rfl, ?_⟩) hHeld ?_
    · intro w hSw
      go_simp
      first | done | omega | (simp [beq_self_eq_true]; done) | (simp; omega)
    try simp only [Act.put, List.setIfInBounds_toArray, List.set_cons_zero, List.set_cons_succ]
    refine wpAnyH_take (i := 5) (oi := ⟨some 43, _, _, _, _, _⟩) (v := ?_) rfl (by kernel_rfl) (by kernel_rfl) (by kernel_rfl) (fun _ _ _ h => h) (Or.inl ⟨by rfl, ?_⟩) hHeld ?_
    rotate_left
    · intro w hSw
      go_simp
      first | done | with_reducible rfl
    try simp only [Act.put, List.setIfInBounds_toArray, List.set_cons_zero, List.set_cons_succ]
    refine wpAnyH_take (i := 6) (oi := ⟨some 44, _, _, _, _, _⟩) (v := ?_) rfl (by kernel_rfl) (by kernel_rfl) (by kernel_rfl) (fun _ _ _ h => h) (Or.inl ⟨by rfl, ?_⟩) hHeld ?_
    rotate_left
    · intro w hSw
      go_simp
      first | done | with_reducible rfl
    try simp only [Act.put, List.setIfInBounds_toArray, List.set_cons_zero, List.set_cons_succ]
    refine wpAnyH_take (i := 7) (oi := ⟨some 45, _, _, _, _, _⟩) (v := ?_) rfl (by kernel_rfl) (by kernel_rfl) (by kernel_rfl) (fun _ _ _ h => h) (Or.inl ⟨by rfl, ?_⟩) hHeld ?_
    rotate_left
    · intro w hSw
      go_simp
      first | done | with_reducible rfl
    try simp only [Act.put, List.setIfInBounds_toArray, List.set_cons_zero, List.set_cons_succ]
    refine wpAnyH_take (i := 8) (oi := ⟨some 46, _, _, _, _, _⟩) (v := ?_) rfl (by kernel_rfl) (by kernel_rfl) (by kernel_rfl) (fun _ _ _ h => h) (Or.inl ⟨by rfl, ?_⟩) hHeld ?_
    rotate_left
    · intro w hSw
      go_simp
      first | done | with_reducible rfl
    try simp only [Act.put, List.setIfInBounds_toArray, List.set_cons_zero, List.set_cons_succ]
    refine wpAnyH_take (i := 9) (oi := ⟨some 47, _, _, _, _, _⟩) (v := .bool true) rfl (by kernel_rfl) (by kernel_rfl) (by kernel_rfl) (fun _ _ _ h => h) (Or.inl ⟨by rfl, ?_⟩) hHeld ?_
    · intro w hSw
      go_simp
      first | done | omega | (simp [beq_self_eq_true]; done) | (simp; omega)
    try simp only [Act.put, List.setIfInBounds_toArray, List.set_cons_zero, List.set_cons_succ]
    refine wpAnyH_take (i := 10) (oi := ⟨some 48, _, _, _, _, _⟩) (v := ?_) rfl (by kernel_rfl) (by kernel_rfl) (by kernel_rfl) (fun _ _ _ h => h) (Or.inl ⟨by rfl, ?_⟩) hHeld ?_
    rotate_left
    · intro w hSw
      go_simp
      first | done | with_reducible rfl
    try simp only [Act.put, List.setIfInBounds_toArray, List.set_cons_zero, List.set_cons_succ]
    refine wpAnyH_take (i := 11) (oi := ⟨some 49, _, _, _, _, _⟩) (v := ?_) rfl (by kernel_rfl) (by kernel_rfl) (by kernel_rfl) (fun _ _ _ h => h) (Or.inl ⟨by rfl, ?_⟩) hHeld ?_
    rotate_left
    · intro w hSw
      go_simp
      first | done | with_reducible rfl
    try simp only [Act.put, List.setIfInBounds_toArray, List.set_cons_zero, List.set_cons_succ]
    refine wpAnyH_take (i := 12) (oi := ⟨some 50, _, _, _, _, _⟩) (v := ?_) rfl (by kernel_rfl) (by kernel_rfl) (by kernel_rfl) (fun _ _ _ h => h) (Or.inl ⟨by rfl, ?_⟩) hHeld ?_
    rotate_left
    · intro w hSw
      obtain ⟨h0, h1, h2, h3, h4⟩ := BBox.cells hSw.2.1
      go_simp
      first | done | with_reducible rfl
    try simp only [Act.put, List.setIfInBounds_toArray, List.set_cons_zero, List.set_cons_succ]
    refine wpAnyH_take (i := 13) (oi := ⟨some 51, _, _, _, _, _⟩) (v := ?_) rfl (by kernel_rfl) (by kernel_rfl) (by kernel_rfl) (fun _ _ _ h => h) (Or.inl ⟨by rfl, ?_⟩) hHeld ?_
    rotate_left
    · intro w hSw
      obtain ⟨h0, h1, h2, h3, h4⟩ := BBox.cells hSw.2.2
      go_simp
      first | done | with_reducible rfl
    try simp only [Act.put, List.setIfInBounds_toArray, List.set_cons_zero, List.set_cons_succ]
    refine wpAnyH_take (i := 14) (oi := ⟨some 52, _, _, _, _, _⟩) (v := .bool true) rfl (by kernel_rfl) (by kernel_rfl) (by kernel_rfl) (fun _ _ _ h => h) (Or.inl ⟨by rfl, ?_⟩) hHeld ?_
    · intro w hSw
      go_simp
      first | done | omega | (simp [heq, beq_self_eq_true]; done) | (simp; omega)
    try simp only [Act.put, List.setIfInBounds_toArray, List.set_cons_zero, List.set_cons_succ]
    refine wpAnyH_take (i := 15) (oi := ⟨some 53, _, _, _, _, _⟩) (v := ?_) rfl (by kernel_rfl) (by kernel_rfl) (by kernel_rfl) (fun _ _ _ h => h) (Or.inl ⟨by rfl, ?_⟩) hHeld ?_
    rotate_left
    · intro w hSw
      go_simp
      first | done | with_reducible rfl
    try simp only [Act.put, List.setIfInBounds_toArray, List.set_cons_zero, List.set_cons_succ]
    refine wpAnyH_take (i := 16) (oi := ⟨some 54, _, _, _, _, _⟩) (v := ?_) rfl (by kernel_rfl) (by kernel_rfl) (by kernel_rfl) (fun _ _ _ h => h) (Or.inl ⟨by rfl, ?_⟩) hHeld ?_
    rotate_left
    · intro w hSw
      go_simp
      first | done | with_reducible rfl
    try simp only [Act.put, List.setIfInBounds_toArray, List.set_cons_zero, List.set_cons_succ]
    refine wpAnyH_take (i := 17) (oi := ⟨some 55, _, _, _, _, _⟩) (v := ?_) rfl (by kernel_rfl) (by kernel_rfl) (by kernel_rfl) (fun _ _ _ h => h) (Or.inl ⟨by rfl, ?_⟩) hHeld ?_
    rotate_left
    · intro w hSw
      go_simp
      first | done | with_reducible rfl
    try simp only [Act.put, List.setIfInBounds_toArray, List.set_cons_zero, List.set_cons_succ]
    refine wpAnyH_take (i := 18) (oi := ⟨some 56, _, _, _, _, _⟩) (v := ?_) rfl (by kernel_rfl) (by kernel_rfl) (by kernel_rfl) (fun _ _ _ h => h) (Or.inl ⟨by rfl, ?_⟩) hHeld ?_
    rotate_left
    · intro w hSw
      go_simp
      first | done | with_reducible rfl
    try simp only [Act.put, List.setIfInBounds_toArray, List.set_cons_zero, List.set_cons_succ]
    refine wpAnyH_take (i := 19) (oi := ⟨some 57, _, _, _, _, _⟩) (v := .bool true) rfl (by kernel_rfl) (by kernel_rfl) (by kernel_rfl) (fun _ _ _ h => h) (Or.inl ⟨by rfl, ?_⟩) hHeld ?_
    · intro w hSw
      go_simp
      first | done | omega | (simp [beq_self_eq_true]; done) | (simp; omega)
    try simp only [Act.put, List.setIfInBounds_toArray, List.set_cons_zero, List.set_cons_succ]
    refine wpAnyH_take (i := 20) (oi := ⟨some 58, _, _, _, _, _⟩) (v := ?_) rfl (by kernel_rfl) (by kernel_rfl) (by kernel_rfl) (fun _ _ _ h => h) (Or.inl ⟨by rfl, ?_⟩) hHeld ?_
    rotate_left
    · intro w hSw
      go_simp
      first | done | with_reducible rfl
    try simp only [Act.put, List.setIfInBounds_toArray, List.set_cons_zero, List.set_cons_succ]
    refine wpAnyH_take (i := 21) (oi := ⟨some 59, _, _, _, _, _⟩) (v := ?_) rfl (by kernel_rfl) (by kernel_rfl) (by kernel_rfl) (fun _ _ _ h => h) (Or.inl ⟨by rfl, ?_⟩) hHeld ?_
    rotate_left
    · intro w hSw
      go_simp
      first | done | with_reducible rfl
    try simp only [Act.put, List.setIfInBounds_toArray, List.set_cons_zero, List.set_cons_succ]
    refine wpAnyH_take (i := 22) (oi := ⟨some 60, _, _, _, _, _⟩) (v := ?_) rfl (by kernel_rfl) (by kernel_rfl) (by kernel_rfl) (fun _ _ _ h => h) (Or.inl ⟨by rfl, ?_⟩) hHeld ?_
    rotate_left
    · intro w hSw
      obtain ⟨h0, h1, h2, h3, h4⟩ := BBox.cells hSw.1
      go_simp
      first | done | with_reducible rfl
    try simp only [Act.put, List.setIfInBounds_toArray, List.set_cons_zero, List.set_cons_succ]
    refine wpAnyH_take (i := 24) (oi := ⟨some 62, _, _, _, _, _⟩) (v := ?_) rfl (by kernel_rfl) (by kernel_rfl) (by kernel_rfl) (fun _ _ _ h => h) (Or.inl ⟨by rfl, ?_⟩) hHeld ?_
    rotate_left
    · intro w hSw
      obtain ⟨h0, h1, h2, h3, h4⟩ := BBox.cells hSw.1
      go_simp
      first | done | with_reducible rfl
    try simp only [Act.put, List.setIfInBounds_toArray, List.set_cons_zero, List.set_cons_succ]
    refine wpAnyH_ready (rs := [23]) (by kernel_rfl) (by simp) ?_
    refine AllReadyH.cons (o := ⟨some 61, .call _, _, _, _, _⟩) rfl (fun K hK => ?_) AllReadyH.nil
    go_simp
    go_at_call 17
    refine (C.of b o _ HO.out).mono ?_
    rintro e v ⟨rfl, hb⟩
    go_wp2_with fail
    replace HS := Lib.hid (And.intro (HS.out.1.next hb) (And.intro (HS.out.2.1.next hb) (HS.out.2.2.next hb)))
    replace HBL := Lib.hid (HBL.out.trans (hb.mono HBL.out.size))
    clear hb
    refine hK.out _ _ HS.out (fun hHeld => ?_)
    clear hK K
    try simp only [Act.put, List.setIfInBounds_toArray, List.set_cons_zero, List.set_cons_succ]
    refine wpAnyH_ready (rs := [25]) (by kernel_rfl) (by simp) ?_
    refine AllReadyH.cons (o := ⟨some 63, .call _, _, _, _, _⟩) rfl (fun K hK => ?_) AllReadyH.nil
    go_simp
    go_at_call 18
    refine (refof_any b o HO.out _).mono ?_
    rintro e v ⟨rfl, hb⟩
    go_wp2_with fail
    replace HS := Lib.hid (And.intro (HS.out.1.next hb) (And.intro (HS.out.2.1.next hb) (HS.out.2.2.next hb)))
    replace HBL := Lib.hid (HBL.out.trans (hb.mono HBL.out.size))
    clear hb
    refine hK.out _ _ HS.out (fun hHeld => ?_)
    clear hK K
    try simp only [Act.put, List.setIfInBounds_toArray, List.set_cons_zero, List.set_cons_succ]
    refine wpAnyH_take (i := 26) (oi := ⟨some 64, _, _, _, _, _⟩) (v := .bool true) rfl (by kernel_rfl) (by kernel_rfl) (by kernel_rfl) (fun _ _ _ h => h) (Or.inl ⟨by rfl, ?_⟩) hHeld ?_
    · intro w hSw
      go_simp
      first | done | omega | (simp [beq_self_eq_true]; done) | (simp; omega)
    try simp only [Act.put, List.setIfInBounds_toArray, List.set_cons_zero, List.set_cons_succ]
    refine wpAnyH_take (i := 27) (oi := ⟨some 65, _, _, _, _, _⟩) (v := ?_) rfl (by kernel_rfl) (by kernel_rfl) (by kernel_rfl) (fun _ _ _ h => h) (Or.inl ⟨by rfl, ?_⟩) hHeld ?_
    rotate_left
    · intro w hSw
      go_simp
      first | done | with_reducible rfl
    try simp only [Act.put, List.setIfInBounds_toArray, List.set_cons_zero, List.set_cons_succ]
    refine wpAnyH_take (i := 28) (oi := ⟨some 6, _, _, _, _, _⟩) (v := ?_) rfl (by kernel_rfl) (by kernel_rfl) (by kernel_rfl) (fun _ _ _ h => h) (Or.inl ⟨by rfl, ?_⟩) hHeld ?_
    rotate_left
    · intro w hSw
      go_simp
      first | done | with_reducible rfl
    try simp only [Act.put, List.setIfInBounds_toArray, List.set_cons_zero, List.set_cons_succ]
    refine wpAnyH_done (by kernel_rfl) ?_ _
    go_wp2
    go_ret
    exact ⟨rfl, HBL.out⟩
end Go.Proofs.Ytmkhkiddiimmjaa
