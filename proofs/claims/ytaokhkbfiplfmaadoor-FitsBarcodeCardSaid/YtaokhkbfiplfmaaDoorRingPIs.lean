/-
  Contract for the landed Is: whether keys are a ring. Conditions: the slice reads as keys.
  Contract for slices.Backward over keys: the keys from the last to the first, each with its place, whatever the loop's body does that keeps what lay. Conditions: at most 1000 keys.
  Contract for the landed last: the last place of a list of keys whose key fits, or -1. Conditions: at most 1000 keys; the function value's contract.
-/
import Derived.Test.YtaokhkbfiplfmaaDoorFitsP
import Derived.Test.YtaokhkbfiplfmaaDoorMacBlock
import Derived.RangeFuncNested
import Derived.RangeFuncBound
import Derived.RangeFuncLeaves
import Derived.Shelf.Abstract
import Derived.WalkKit
import Derived.OwnWalkIn
import Derived.TacticsInMore
import Derived.LoopNIn
import Derived.LoopIn
section
namespace Go.Proofs.YtaokhkbfiplfmaaDoor
set_option linter.unusedVariables false
open Go.ChangeShapes Go.WideShapes Go.ChangeAt Go.RowKit

/-- A key in a box of its own, by its four cells. -/
def InBox (w : World) (b : Nat) (k : K) (S : Option Addr) (c : Nat) : Prop :=
  w.cell? ⟨b, 0, none⟩ = some (.int .i64 k.id) ∧ w.cell? ⟨b, 1, none⟩ = some (.slice S k.sec.length c) ∧ w.cell? ⟨b, 2, none⟩ = some (.int .i64 k.frm) ∧ w.cell? ⟨b, 3, none⟩ = some (.int .i64 k.til)
theorem inBox_of {w : World} {b : Nat} {k : K} {S : Option Addr} {c : Nat} (h : w.heap[b]? = some (.cells #[.int .i64 k.id, .slice S k.sec.length c, .int .i64 k.frm, .int .i64 k.til] 26 (0, 0))) : InBox w b k S c :=
  ⟨by rw [cell_of_row w b 0 _ _ (0, 0) h]; rfl, by rw [cell_of_row w b 1 _ _ (0, 0) h]; rfl, by rw [cell_of_row w b 2 _ _ (0, 0) h]; rfl, by rw [cell_of_row w b 3 _ _ (0, 0) h]; rfl⟩
theorem InBox.below {w w' : World} {b B : Nat} {k : K} {S : Option Addr} {c : Nat} (h : InBox w b k S c) (hb : b < B) (hB : Below B w w') : InBox w' b k S c :=
  ⟨(hB.cell (p := ⟨b, 0, none⟩) hb).trans h.1, (hB.cell (p := ⟨b, 1, none⟩) hb).trans h.2.1, (hB.cell (p := ⟨b, 2, none⟩) hb).trans h.2.2.1, (hB.cell (p := ⟨b, 3, none⟩) hb).trans h.2.2.2⟩
theorem pright_k (k : K) (n : Nat) (hn : n = k.sec.length) (b : Bool) (hb : k.right = b) (A : Option Addr) (c : Nat) (w : World) (h1 : n ≤ 9223372036854775807) :
    Calls Tryd.prog 19 #[.agg #[.int .i64 k.id, .slice A n c, .int .i64 k.frm, .int .i64 k.til]] w fun e w' => e = .returned (.bool b) ∧ Below w.heap.size w w' := by
  subst hb hn
  exact pright_any k.id k.frm k.til k.sec.length A c w h1

set_option maxRecDepth 20000 in
set_option maxHeartbeats 1600000 in
theorem pis_any (l : List K) (n : Nat) (hn : n = l.length) (A : Option Addr) (c : Nat) (w : World) (hA : Ks w w.heap.size A l) (h1 : n ≤ 9223372036854775807) :
    Calls Tryd.prog 10 #[.slice A n c] w fun e w' => e = .returned (.bool (isR l)) ∧ Below w.heap.size w w' := by
  have HN := Lib.hid hn
  clear hn
  go_enter Tryd.func10, Tryd.ntmps10
  go_wp2
  go_loopw [7] (fun i wr => ∃ k : Nat, k ≤ n ∧ i = .int .i64 k ∧ Below w.heap.size w wr ∧ ∀ j, j < k → goodAt l j = true) (fun i _ => n - (intOf i).toNat)
  case atStart => exact ⟨0, Nat.zero_le _, rfl, Below.refl _ _, by omega⟩
  case round =>
    obtain ⟨k, hk, rfl, hbel, hall⟩ := hrel
    by_cases hlt : k < n
    · have HA := Lib.hid hA
      obtain ⟨ad, S, cc, rfl, had, hk4⟩ := (hA.below hbel) k (by rw [← HN.out]; exact hlt)
      have HLEN := Lib.hid (Nat.le_trans hk4.bs.len hk4.bs.cap)
      have b1 : (0 : Int) ≤ (k : Int) := by omega
      have b2 : (k : Int) < (n : Int) := by omega
      have HH := Lib.hid hall
      have HBL := Lib.hid hbel
      have hkl : k < l.length := by rw [← HN.out]; exact hlt
      have HKL := Lib.hid hkl
      clear hall hA hkl hbel
      obtain ⟨x, hx⟩ : ∃ x, x = l.getD k K0 := ⟨_, rfl⟩
      rw [← hx] at hk4 HLEN
      have HX := Lib.hid hx
      clear hx
      have hc0 := hk4.c0
      have hc1 := hk4.c1
      have hc2 := hk4.c2
      have hc3 := hk4.c3
      clear hk4
      have HBX0 : Hid (Below w.heap.size w (wr.alloc (.cells #[.int .i64 x.id, .slice S x.sec.length cc, .int .i64 x.frm, .int .i64 x.til] 26))) := Lib.hid (HBL.out.trans ((below_lit wr _ _).mono HBL.out.size))
      have HBXw : Hid (InBox (wr.alloc (.cells #[.int .i64 x.id, .slice S x.sec.length cc, .int .i64 x.frm, .int .i64 x.til] 26)).drew wr.heap.size x S cc) := Lib.hid (inBox_of (heap_alloc_new wr _))
      have hlw : wr.heap.size < (wr.alloc (.cells #[.int .i64 x.id, .slice S x.sec.length cc, .int .i64 x.frm, .int .i64 x.til] 26)).drew.heap.size := by show _ < (wr.alloc _).heap.size; simp
      have HLW := Lib.hid hlw
      clear hlw
      cases hr : x.right with
      | false =>
        have HIS := Lib.hid (isR_false k HKL.out (by rw [goodAt, ← HX.out, hr, Bool.false_and]))
        have HRT := Lib.hid hr
        have HS := HBXw
        clear hr
        go_wp2
        refine wp_region_held_drew (S := fun w' => InBox w' wr.heap.size x S cc) (by kernel_rfl) HS.out (fun hHeld => ?_)
        refine wpAnyH_take (i := 0) (oi := ⟨some 12, _, _, _, _, _⟩) (v := ?_) rfl (by kernel_rfl) (by kernel_rfl) (by kernel_rfl) (fun _ _ _ h => h) (Or.inl ⟨by rfl, ?_⟩) hHeld ?_
        rotate_left
        · intro w hSw
          obtain ⟨h0, h1, h2, h3⟩ := hSw
          go_simp
          first | done | with_reducible rfl
        try simp only [Act.put, List.setIfInBounds_toArray, List.set_cons_zero, List.set_cons_succ]
        refine wpAnyH_ready (rs := [1]) (by kernel_rfl) (by simp) ?_
        refine AllReadyH.cons (o := ⟨some 13, .call _, _, _, _, _⟩) rfl (fun K hK => ?_) AllReadyH.nil
        go_simp
        go_at_call 19
        refine (pright_k x x.sec.length rfl false HRT.out S cc (wr.alloc (.cells #[.int .i64 x.id, .slice S x.sec.length cc, .int .i64 x.frm, .int .i64 x.til] 26)).drew HLEN.out).mono ?_
        rintro e w3 ⟨rfl, hb3⟩
        go_wp2_with fail
        have HB3 := Lib.hid (HBX0.out.drew.trans (hb3.mono HBX0.out.drew.size))
        have HS3 := Lib.hid (HS.out.below HLW.out hb3)
        clear hb3
        refine hK.out _ _ HS3.out (fun hHeld => ?_)
        clear hK K
        try simp only [Act.put, List.setIfInBounds_toArray, List.set_cons_zero, List.set_cons_succ]
        refine wpAnyH_take (i := 2) (oi := ⟨some 14, _, _, _, _, _⟩) (v := ?_) rfl (by kernel_rfl) (by kernel_rfl) (by kernel_rfl) (fun _ _ _ h => h) (Or.inl ⟨by rfl, ?_⟩) hHeld ?_
        rotate_left
        · intro w hSw
          go_simp
          first | done | with_reducible rfl
        try simp only [Act.put, List.setIfInBounds_toArray, List.set_cons_zero, List.set_cons_succ]
        refine wpAnyH_take (i := 3) (oi := ⟨some 15, _, _, _, _, _⟩) (v := ?_) rfl (by kernel_rfl) (by kernel_rfl) (by kernel_rfl) (fun _ _ _ h => h) (Or.inl ⟨by rfl, ?_⟩) hHeld ?_
        rotate_left
        · intro w hSw
          go_simp
          first | done | with_reducible rfl
        try simp only [Act.put, List.setIfInBounds_toArray, List.set_cons_zero, List.set_cons_succ]
        refine wpAnyH_take (i := 4) (oi := ⟨some 16, _, _, _, _, _⟩) (v := undef) rfl (by kernel_rfl) (by kernel_rfl) (by kernel_rfl) (fun _ _ _ h => h) (Or.inr ⟨by rfl, rfl⟩) hHeld ?_
        try simp only [Act.put, List.setIfInBounds_toArray, List.set_cons_zero, List.set_cons_succ]
        refine wpAnyH_take (i := 5) (oi := ⟨some 17, _, _, _, _, _⟩) (v := undef) rfl (by kernel_rfl) (by kernel_rfl) (by kernel_rfl) (fun _ _ _ h => h) (Or.inr ⟨by rfl, rfl⟩) hHeld ?_
        try simp only [Act.put, List.setIfInBounds_toArray, List.set_cons_zero, List.set_cons_succ]
        refine wpAnyH_take (i := 6) (oi := ⟨some 18, _, _, _, _, _⟩) (v := undef) rfl (by kernel_rfl) (by kernel_rfl) (by kernel_rfl) (fun _ _ _ h => h) (Or.inr ⟨by rfl, rfl⟩) hHeld ?_
        try simp only [Act.put, List.setIfInBounds_toArray, List.set_cons_zero, List.set_cons_succ]
        refine wpAnyH_take (i := 7) (oi := ⟨some 19, _, _, _, _, _⟩) (v := undef) rfl (by kernel_rfl) (by kernel_rfl) (by kernel_rfl) (fun _ _ _ h => h) (Or.inr ⟨by rfl, rfl⟩) hHeld ?_
        try simp only [Act.put, List.setIfInBounds_toArray, List.set_cons_zero, List.set_cons_succ]
        refine wpAnyH_take (i := 8) (oi := ⟨some 20, _, _, _, _, _⟩) (v := undef) rfl (by kernel_rfl) (by kernel_rfl) (by kernel_rfl) (fun _ _ _ h => h) (Or.inr ⟨by rfl, rfl⟩) hHeld ?_
        try simp only [Act.put, List.setIfInBounds_toArray, List.set_cons_zero, List.set_cons_succ]
        refine wpAnyH_take (i := 9) (oi := ⟨some 21, _, _, _, _, _⟩) (v := undef) rfl (by kernel_rfl) (by kernel_rfl) (by kernel_rfl) (fun _ _ _ h => h) (Or.inr ⟨by rfl, rfl⟩) hHeld ?_
        try simp only [Act.put, List.setIfInBounds_toArray, List.set_cons_zero, List.set_cons_succ]
        refine wpAnyH_take (i := 10) (oi := ⟨some 22, _, _, _, _, _⟩) (v := undef) rfl (by kernel_rfl) (by kernel_rfl) (by kernel_rfl) (fun _ _ _ h => h) (Or.inr ⟨by rfl, rfl⟩) hHeld ?_
        try simp only [Act.put, List.setIfInBounds_toArray, List.set_cons_zero, List.set_cons_succ]
        refine wpAnyH_take (i := 11) (oi := ⟨some 23, _, _, _, _, _⟩) (v := undef) rfl (by kernel_rfl) (by kernel_rfl) (by kernel_rfl) (fun _ _ _ h => h) (Or.inr ⟨by rfl, rfl⟩) hHeld ?_
        try simp only [Act.put, List.setIfInBounds_toArray, List.set_cons_zero, List.set_cons_succ]
        refine wpAnyH_take (i := 12) (oi := ⟨some 24, _, _, _, _, _⟩) (v := undef) rfl (by kernel_rfl) (by kernel_rfl) (by kernel_rfl) (fun _ _ _ h => h) (Or.inr ⟨by rfl, rfl⟩) hHeld ?_
        try simp only [Act.put, List.setIfInBounds_toArray, List.set_cons_zero, List.set_cons_succ]
        refine wpAnyH_take (i := 13) (oi := ⟨some 25, _, _, _, _, _⟩) (v := undef) rfl (by kernel_rfl) (by kernel_rfl) (by kernel_rfl) (fun _ _ _ h => h) (Or.inr ⟨by rfl, rfl⟩) hHeld ?_
        try simp only [Act.put, List.setIfInBounds_toArray, List.set_cons_zero, List.set_cons_succ]
        refine wpAnyH_take (i := 14) (oi := ⟨some 26, _, _, _, _, _⟩) (v := undef) rfl (by kernel_rfl) (by kernel_rfl) (by kernel_rfl) (fun _ _ _ h => h) (Or.inr ⟨by rfl, rfl⟩) hHeld ?_
        try simp only [Act.put, List.setIfInBounds_toArray, List.set_cons_zero, List.set_cons_succ]
        refine wpAnyH_take (i := 15) (oi := ⟨some 27, _, _, _, _, _⟩) (v := undef) rfl (by kernel_rfl) (by kernel_rfl) (by kernel_rfl) (fun _ _ _ h => h) (Or.inr ⟨by rfl, rfl⟩) hHeld ?_
        try simp only [Act.put, List.setIfInBounds_toArray, List.set_cons_zero, List.set_cons_succ]
        refine wpAnyH_take (i := 16) (oi := ⟨some 28, _, _, _, _, _⟩) (v := undef) rfl (by kernel_rfl) (by kernel_rfl) (by kernel_rfl) (fun _ _ _ h => h) (Or.inr ⟨by rfl, rfl⟩) hHeld ?_
        try simp only [Act.put, List.setIfInBounds_toArray, List.set_cons_zero, List.set_cons_succ]
        refine wpAnyH_take (i := 17) (oi := ⟨some 29, _, _, _, _, _⟩) (v := ?_) rfl (by kernel_rfl) (by kernel_rfl) (by kernel_rfl) (fun _ _ _ h => h) (Or.inl ⟨by rfl, ?_⟩) hHeld ?_
        rotate_left
        · intro w hSw
          go_simp
          first | done | with_reducible rfl
        try simp only [Act.put, List.setIfInBounds_toArray, List.set_cons_zero, List.set_cons_succ]
        refine wpAnyH_done (by kernel_rfl) ?_ _
        go_wp2
        go_ret
        exact ⟨by rw [HIS.out]; rfl, HB3.out⟩
      | true =>
        have HRT := Lib.hid hr
        clear hr
        by_cases h0 : k = 0
        · have HG := Lib.hid (show ∀ i, i < k + 1 → goodAt l i = true from by
            intro i hi
            have e : i = k := by omega
            subst e
            subst h0
            rw [goodAt, ← HX.out, HRT.out]; rfl)
          have HS := HBXw
          have b3 : ¬ ((0 : Int) < (k : Int)) := by omega
          clear h0
          go_wp2
          refine wp_region_held_drew (S := fun w' => InBox w' wr.heap.size x S cc) (by kernel_rfl) HS.out (fun hHeld => ?_)
          refine wpAnyH_take (i := 0) (oi := ⟨some 12, _, _, _, _, _⟩) (v := ?_) rfl (by kernel_rfl) (by kernel_rfl) (by kernel_rfl) (fun _ _ _ h => h) (Or.inl ⟨by rfl, ?_⟩) hHeld ?_
          rotate_left
          · intro w hSw
            obtain ⟨h0, h1, h2, h3⟩ := hSw
            go_simp
            first | done | with_reducible rfl
          try simp only [Act.put, List.setIfInBounds_toArray, List.set_cons_zero, List.set_cons_succ]
          refine wpAnyH_ready (rs := [1]) (by kernel_rfl) (by simp) ?_
          refine AllReadyH.cons (o := ⟨some 13, .call _, _, _, _, _⟩) rfl (fun K hK => ?_) AllReadyH.nil
          go_simp
          go_at_call 19
          refine (pright_k x x.sec.length rfl true HRT.out S cc (wr.alloc (.cells #[.int .i64 x.id, .slice S x.sec.length cc, .int .i64 x.frm, .int .i64 x.til] 26)).drew HLEN.out).mono ?_
          rintro e w3 ⟨rfl, hb3⟩
          go_wp2_with fail
          have HB3 := Lib.hid (HBX0.out.drew.trans (hb3.mono HBX0.out.drew.size))
          have HS3 := Lib.hid (HS.out.below HLW.out hb3)
          clear hb3
          refine hK.out _ _ HS3.out (fun hHeld => ?_)
          clear hK K
          try simp only [Act.put, List.setIfInBounds_toArray, List.set_cons_zero, List.set_cons_succ]
          refine wpAnyH_take (i := 2) (oi := ⟨some 14, _, _, _, _, _⟩) (v := ?_) rfl (by kernel_rfl) (by kernel_rfl) (by kernel_rfl) (fun _ _ _ h => h) (Or.inl ⟨by rfl, ?_⟩) hHeld ?_
          rotate_left
          · intro w hSw
            go_simp
            first | done | with_reducible rfl
          try simp only [Act.put, List.setIfInBounds_toArray, List.set_cons_zero, List.set_cons_succ]
          refine wpAnyH_take (i := 3) (oi := ⟨some 15, _, _, _, _, _⟩) (v := ?_) rfl (by kernel_rfl) (by kernel_rfl) (by kernel_rfl) (fun _ _ _ h => h) (Or.inl ⟨by rfl, ?_⟩) hHeld ?_
          rotate_left
          · intro w hSw
            go_simp
            first | done | with_reducible rfl
          try simp only [Act.put, List.setIfInBounds_toArray, List.set_cons_zero, List.set_cons_succ]
          refine wpAnyH_take (i := 4) (oi := ⟨some 16, _, _, _, _, _⟩) (v := ?_) rfl (by kernel_rfl) (by kernel_rfl) (by kernel_rfl) (fun _ _ _ h => h) (Or.inl ⟨by rfl, ?_⟩) hHeld ?_
          rotate_left
          · intro w hSw
            go_simp
            first | done | with_reducible rfl
          try simp only [Act.put, List.setIfInBounds_toArray, List.set_cons_zero, List.set_cons_succ]
          refine wpAnyH_take (i := 5) (oi := ⟨some 17, _, _, _, _, _⟩) (v := .bool false) rfl (by kernel_rfl) (by kernel_rfl) (by kernel_rfl) (fun _ _ _ h => h) (Or.inl ⟨by rfl, ?_⟩) hHeld ?_
          · intro w hSw
            go_simp
            first | done | omega | (simp [b3]; done) | (simp; omega)
          try simp only [Act.put, List.setIfInBounds_toArray, List.set_cons_zero, List.set_cons_succ]
          refine wpAnyH_take (i := 6) (oi := ⟨some 18, _, _, _, _, _⟩) (v := ?_) rfl (by kernel_rfl) (by kernel_rfl) (by kernel_rfl) (fun _ _ _ h => h) (Or.inl ⟨by rfl, ?_⟩) hHeld ?_
          rotate_left
          · intro w hSw
            go_simp
            first | done | with_reducible rfl
          try simp only [Act.put, List.setIfInBounds_toArray, List.set_cons_zero, List.set_cons_succ]
          refine wpAnyH_take (i := 7) (oi := ⟨some 19, _, _, _, _, _⟩) (v := undef) rfl (by kernel_rfl) (by kernel_rfl) (by kernel_rfl) (fun _ _ _ h => h) (Or.inr ⟨by rfl, rfl⟩) hHeld ?_
          try simp only [Act.put, List.setIfInBounds_toArray, List.set_cons_zero, List.set_cons_succ]
          refine wpAnyH_take (i := 8) (oi := ⟨some 20, _, _, _, _, _⟩) (v := undef) rfl (by kernel_rfl) (by kernel_rfl) (by kernel_rfl) (fun _ _ _ h => h) (Or.inr ⟨by rfl, rfl⟩) hHeld ?_
          try simp only [Act.put, List.setIfInBounds_toArray, List.set_cons_zero, List.set_cons_succ]
          refine wpAnyH_take (i := 9) (oi := ⟨some 21, _, _, _, _, _⟩) (v := undef) rfl (by kernel_rfl) (by kernel_rfl) (by kernel_rfl) (fun _ _ _ h => h) (Or.inr ⟨by rfl, rfl⟩) hHeld ?_
          try simp only [Act.put, List.setIfInBounds_toArray, List.set_cons_zero, List.set_cons_succ]
          refine wpAnyH_take (i := 10) (oi := ⟨some 22, _, _, _, _, _⟩) (v := undef) rfl (by kernel_rfl) (by kernel_rfl) (by kernel_rfl) (fun _ _ _ h => h) (Or.inr ⟨by rfl, rfl⟩) hHeld ?_
          try simp only [Act.put, List.setIfInBounds_toArray, List.set_cons_zero, List.set_cons_succ]
          refine wpAnyH_take (i := 11) (oi := ⟨some 23, _, _, _, _, _⟩) (v := undef) rfl (by kernel_rfl) (by kernel_rfl) (by kernel_rfl) (fun _ _ _ h => h) (Or.inr ⟨by rfl, rfl⟩) hHeld ?_
          try simp only [Act.put, List.setIfInBounds_toArray, List.set_cons_zero, List.set_cons_succ]
          refine wpAnyH_take (i := 12) (oi := ⟨some 24, _, _, _, _, _⟩) (v := undef) rfl (by kernel_rfl) (by kernel_rfl) (by kernel_rfl) (fun _ _ _ h => h) (Or.inr ⟨by rfl, rfl⟩) hHeld ?_
          try simp only [Act.put, List.setIfInBounds_toArray, List.set_cons_zero, List.set_cons_succ]
          refine wpAnyH_take (i := 13) (oi := ⟨some 25, _, _, _, _, _⟩) (v := undef) rfl (by kernel_rfl) (by kernel_rfl) (by kernel_rfl) (fun _ _ _ h => h) (Or.inr ⟨by rfl, rfl⟩) hHeld ?_
          try simp only [Act.put, List.setIfInBounds_toArray, List.set_cons_zero, List.set_cons_succ]
          refine wpAnyH_take (i := 14) (oi := ⟨some 26, _, _, _, _, _⟩) (v := undef) rfl (by kernel_rfl) (by kernel_rfl) (by kernel_rfl) (fun _ _ _ h => h) (Or.inr ⟨by rfl, rfl⟩) hHeld ?_
          try simp only [Act.put, List.setIfInBounds_toArray, List.set_cons_zero, List.set_cons_succ]
          refine wpAnyH_take (i := 15) (oi := ⟨some 27, _, _, _, _, _⟩) (v := undef) rfl (by kernel_rfl) (by kernel_rfl) (by kernel_rfl) (fun _ _ _ h => h) (Or.inr ⟨by rfl, rfl⟩) hHeld ?_
          try simp only [Act.put, List.setIfInBounds_toArray, List.set_cons_zero, List.set_cons_succ]
          refine wpAnyH_take (i := 16) (oi := ⟨some 28, _, _, _, _, _⟩) (v := ?_) rfl (by kernel_rfl) (by kernel_rfl) (by kernel_rfl) (fun _ _ _ h => h) (Or.inl ⟨by rfl, ?_⟩) hHeld ?_
          rotate_left
          · intro w hSw
            go_simp
            first | done | with_reducible rfl
          try simp only [Act.put, List.setIfInBounds_toArray, List.set_cons_zero, List.set_cons_succ]
          refine wpAnyH_take (i := 17) (oi := ⟨some 29, _, _, _, _, _⟩) (v := ?_) rfl (by kernel_rfl) (by kernel_rfl) (by kernel_rfl) (fun _ _ _ h => h) (Or.inl ⟨by rfl, ?_⟩) hHeld ?_
          rotate_left
          · intro w hSw
            go_simp
            first | done | with_reducible rfl
          try simp only [Act.put, List.setIfInBounds_toArray, List.set_cons_zero, List.set_cons_succ]
          refine wpAnyH_done (by kernel_rfl) ?_ _
          go_wp2
          go_roundw
          case rel => exact ⟨k + 1, by omega, by go_num, HB3.out, HG.out⟩
          case measure => simp [intOf]; omega
        · obtain ⟨j, hj⟩ : ∃ j, k = j + 1 := ⟨k - 1, by omega⟩
          obtain ⟨ad', S', cc', e, _, hj4⟩ := (HA.out.below HBX0.out) j (by have := HKL.out; omega)
          cases e
          obtain ⟨y, hy⟩ : ∃ y, y = l.getD j K0 := ⟨_, rfl⟩
          rw [← hy] at hj4
          have HY := Lib.hid hy
          have HJ := Lib.hid hj
          have HS : Hid (InBox (wr.alloc (.cells #[.int .i64 x.id, .slice S x.sec.length cc, .int .i64 x.frm, .int .i64 x.til] 26)).drew wr.heap.size x S cc ∧ KAt (wr.alloc (.cells #[.int .i64 x.id, .slice S x.sec.length cc, .int .i64 x.frm, .int .i64 x.til] 26)).drew w.heap.size (ad.add (j * 4)) y S' cc') := Lib.hid ⟨HBXw.out, hj4.below (by rw [add_block]; exact Nat.lt_of_lt_of_le had HBX0.out.size) HBX0.out.size (Below.refl _ _).drew⟩
          have b3 : (0 : Int) < (k : Int) := by omega
          have hkj : (k : Int) - 1 = (j : Int) := by omega
          have bj : (0 : Int) ≤ (j : Int) := by omega
          have hwj : IntKind.i64.wrap (j : Int) = (j : Int) := IntWalk.i64_in _ (by omega)
          have bj2 : (j : Int) < (n : Int) := by omega
          clear hj4 hy h0 hj
          by_cases hxy : x.id ≤ y.id
          · have HIS := Lib.hid (isR_false k HKL.out (by
              have e1 : (decide (y.id < x.id)) = false := by simp; omega
              rw [goodAt, HJ.out, Nat.add_sub_cancel, ← HJ.out, ← HX.out, ← HY.out, e1, Bool.or_false]
              have e2 : (k == 0) = false := by simp; omega
              rw [e2, Bool.and_false]))
            go_wp2
            refine wp_region_held_drew (S := fun w' => InBox w' wr.heap.size x S cc ∧ KAt w' w.heap.size (ad.add (j * 4)) y S' cc') (by kernel_rfl) HS.out (fun hHeld => ?_)
            refine wpAnyH_take (i := 0) (oi := ⟨some 12, _, _, _, _, _⟩) (v := ?_) rfl (by kernel_rfl) (by kernel_rfl) (by kernel_rfl) (fun _ _ _ h => h) (Or.inl ⟨by rfl, ?_⟩) hHeld ?_
            rotate_left
            · intro w hSw
              obtain ⟨⟨h0, h1, h2, h3⟩, _⟩ := hSw
              go_simp
              first | done | with_reducible rfl
            try simp only [Act.put, List.setIfInBounds_toArray, List.set_cons_zero, List.set_cons_succ]
            refine wpAnyH_ready (rs := [1]) (by kernel_rfl) (by simp) ?_
            refine AllReadyH.cons (o := ⟨some 13, .call _, _, _, _, _⟩) rfl (fun K hK => ?_) AllReadyH.nil
            go_simp
            go_at_call 19
            refine (pright_k x x.sec.length rfl true HRT.out S cc (wr.alloc (.cells #[.int .i64 x.id, .slice S x.sec.length cc, .int .i64 x.frm, .int .i64 x.til] 26)).drew HLEN.out).mono ?_
            rintro e w3 ⟨rfl, hb3⟩
            go_wp2_with fail
            have HB3 := Lib.hid (HBX0.out.drew.trans (hb3.mono HBX0.out.drew.size))
            have HS3 := Lib.hid (And.intro (HS.out.1.below HLW.out hb3) (HS.out.2.below (by rw [add_block]; exact Nat.lt_of_lt_of_le had HBX0.out.drew.size) HBX0.out.drew.size hb3))
            clear hb3
            refine hK.out _ _ HS3.out (fun hHeld => ?_)
            clear hK K
            try simp only [Act.put, List.setIfInBounds_toArray, List.set_cons_zero, List.set_cons_succ]
            refine wpAnyH_take (i := 2) (oi := ⟨some 14, _, _, _, _, _⟩) (v := ?_) rfl (by kernel_rfl) (by kernel_rfl) (by kernel_rfl) (fun _ _ _ h => h) (Or.inl ⟨by rfl, ?_⟩) hHeld ?_
            rotate_left
            · intro w hSw
              go_simp
              first | done | with_reducible rfl
            try simp only [Act.put, List.setIfInBounds_toArray, List.set_cons_zero, List.set_cons_succ]
            refine wpAnyH_take (i := 3) (oi := ⟨some 15, _, _, _, _, _⟩) (v := ?_) rfl (by kernel_rfl) (by kernel_rfl) (by kernel_rfl) (fun _ _ _ h => h) (Or.inl ⟨by rfl, ?_⟩) hHeld ?_
            rotate_left
            · intro w hSw
              go_simp
              first | done | with_reducible rfl
            try simp only [Act.put, List.setIfInBounds_toArray, List.set_cons_zero, List.set_cons_succ]
            refine wpAnyH_take (i := 4) (oi := ⟨some 16, _, _, _, _, _⟩) (v := ?_) rfl (by kernel_rfl) (by kernel_rfl) (by kernel_rfl) (fun _ _ _ h => h) (Or.inl ⟨by rfl, ?_⟩) hHeld ?_
            rotate_left
            · intro w hSw
              go_simp
              first | done | with_reducible rfl
            try simp only [Act.put, List.setIfInBounds_toArray, List.set_cons_zero, List.set_cons_succ]
            refine wpAnyH_take (i := 5) (oi := ⟨some 17, _, _, _, _, _⟩) (v := .bool true) rfl (by kernel_rfl) (by kernel_rfl) (by kernel_rfl) (fun _ _ _ h => h) (Or.inl ⟨by rfl, ?_⟩) hHeld ?_
            · intro w hSw
              go_simp
              first | done | omega | (simp [b3]; done) | (simp; omega)
            try simp only [Act.put, List.setIfInBounds_toArray, List.set_cons_zero, List.set_cons_succ]
            refine wpAnyH_take (i := 6) (oi := ⟨some 18, _, _, _, _, _⟩) (v := ?_) rfl (by kernel_rfl) (by kernel_rfl) (by kernel_rfl) (fun _ _ _ h => h) (Or.inl ⟨by rfl, ?_⟩) hHeld ?_
            rotate_left
            · intro w hSw
              go_simp
              first | done | with_reducible rfl
            try simp only [Act.put, List.setIfInBounds_toArray, List.set_cons_zero, List.set_cons_succ]
            refine wpAnyH_take (i := 7) (oi := ⟨some 19, _, _, _, _, _⟩) (v := ?_) rfl (by kernel_rfl) (by kernel_rfl) (by kernel_rfl) (fun _ _ _ h => h) (Or.inl ⟨by rfl, ?_⟩) hHeld ?_
            rotate_left
            · intro w hSw
              go_simp
              first | done | with_reducible rfl
            try simp only [Act.put, List.setIfInBounds_toArray, List.set_cons_zero, List.set_cons_succ]
            refine wpAnyH_take (i := 8) (oi := ⟨some 20, _, _, _, _, _⟩) (v := ?_) rfl (by kernel_rfl) (by kernel_rfl) (by kernel_rfl) (fun _ _ _ h => h) (Or.inl ⟨by rfl, ?_⟩) hHeld ?_
            rotate_left
            · intro w hSw
              go_simp
              first | done | with_reducible rfl
            try simp only [Act.put, List.setIfInBounds_toArray, List.set_cons_zero, List.set_cons_succ]
            refine wpAnyH_take (i := 9) (oi := ⟨some 21, _, _, _, _, _⟩) (v := .int .i64 (j : Int)) rfl (by kernel_rfl) (by kernel_rfl) (by kernel_rfl) (fun _ _ _ h => h) (Or.inl ⟨by rfl, ?_⟩) hHeld ?_
            · intro w hSw
              go_simp
              first | done | omega | (simp [hkj, hwj]; done) | (simp; omega)
            try simp only [Act.put, List.setIfInBounds_toArray, List.set_cons_zero, List.set_cons_succ]
            refine wpAnyH_take (i := 10) (oi := ⟨some 22, _, _, _, _, _⟩) (v := ?_) rfl (by kernel_rfl) (by kernel_rfl) (by kernel_rfl) (fun _ _ _ h => h) (Or.inl ⟨by rfl, ?_⟩) hHeld ?_
            rotate_left
            · intro w hSw
              go_simp
              first | done | with_reducible rfl
            try simp only [Act.put, List.setIfInBounds_toArray, List.set_cons_zero, List.set_cons_succ]
            refine wpAnyH_take (i := 11) (oi := ⟨some 23, _, _, _, _, _⟩) (v := ?_) rfl (by kernel_rfl) (by kernel_rfl) (by kernel_rfl) (fun _ _ _ h => h) (Or.inl ⟨by rfl, ?_⟩) hHeld ?_
            rotate_left
            · intro w hSw
              go_simp
              first | done | with_reducible rfl
            try simp only [Act.put, List.setIfInBounds_toArray, List.set_cons_zero, List.set_cons_succ]
            refine wpAnyH_take (i := 12) (oi := ⟨some 24, _, _, _, _, _⟩) (v := ?_) rfl (by kernel_rfl) (by kernel_rfl) (by kernel_rfl) (fun _ _ _ h => h) (Or.inl ⟨by rfl, ?_⟩) hHeld ?_
            rotate_left
            · intro w hSw
              obtain ⟨_, ⟨k0, k1, k2, k3, _⟩⟩ := hSw
              go_simp
              first | done | with_reducible rfl
            try simp only [Act.put, List.setIfInBounds_toArray, List.set_cons_zero, List.set_cons_succ]
            refine wpAnyH_take (i := 13) (oi := ⟨some 25, _, _, _, _, _⟩) (v := ?_) rfl (by kernel_rfl) (by kernel_rfl) (by kernel_rfl) (fun _ _ _ h => h) (Or.inl ⟨by rfl, ?_⟩) hHeld ?_
            rotate_left
            · intro w hSw
              go_simp
              first | done | with_reducible rfl
            try simp only [Act.put, List.setIfInBounds_toArray, List.set_cons_zero, List.set_cons_succ]
            refine wpAnyH_take (i := 14) (oi := ⟨some 26, _, _, _, _, _⟩) (v := ?_) rfl (by kernel_rfl) (by kernel_rfl) (by kernel_rfl) (fun _ _ _ h => h) (Or.inl ⟨by rfl, ?_⟩) hHeld ?_
            rotate_left
            · intro w hSw
              obtain ⟨⟨h0, h1, h2, h3⟩, _⟩ := hSw
              go_simp
              first | done | with_reducible rfl
            try simp only [Act.put, List.setIfInBounds_toArray, List.set_cons_zero, List.set_cons_succ]
            refine wpAnyH_take (i := 15) (oi := ⟨some 27, _, _, _, _, _⟩) (v := .bool true) rfl (by kernel_rfl) (by kernel_rfl) (by kernel_rfl) (fun _ _ _ h => h) (Or.inl ⟨by rfl, ?_⟩) hHeld ?_
            · intro w hSw
              go_simp
              first | done | omega | (simp [hxy]; done) | (simp; omega)
            try simp only [Act.put, List.setIfInBounds_toArray, List.set_cons_zero, List.set_cons_succ]
            refine wpAnyH_take (i := 16) (oi := ⟨some 28, _, _, _, _, _⟩) (v := ?_) rfl (by kernel_rfl) (by kernel_rfl) (by kernel_rfl) (fun _ _ _ h => h) (Or.inl ⟨by rfl, ?_⟩) hHeld ?_
            rotate_left
            · intro w hSw
              go_simp
              first | done | with_reducible rfl
            try simp only [Act.put, List.setIfInBounds_toArray, List.set_cons_zero, List.set_cons_succ]
            refine wpAnyH_take (i := 17) (oi := ⟨some 29, _, _, _, _, _⟩) (v := ?_) rfl (by kernel_rfl) (by kernel_rfl) (by kernel_rfl) (fun _ _ _ h => h) (Or.inl ⟨by rfl, ?_⟩) hHeld ?_
            rotate_left
            · intro w hSw
              go_simp
              first | done | with_reducible rfl
            try simp only [Act.put, List.setIfInBounds_toArray, List.set_cons_zero, List.set_cons_succ]
            refine wpAnyH_done (by kernel_rfl) ?_ _
            go_wp2
            go_ret
            exact ⟨by rw [HIS.out]; rfl, HB3.out⟩
          · have HG := Lib.hid (show ∀ i, i < k + 1 → goodAt l i = true from by
              intro i hi
              rcases Nat.lt_or_ge i k with h | h
              · exact HH.out i h
              · have e : i = k := by omega
                subst e
                have e1 : (decide (y.id < x.id)) = true := by simp; omega
                rw [goodAt, HJ.out, Nat.add_sub_cancel, ← HJ.out, ← HX.out, ← HY.out, HRT.out, e1, Bool.or_true]; rfl)
            go_wp2
            refine wp_region_held_drew (S := fun w' => InBox w' wr.heap.size x S cc ∧ KAt w' w.heap.size (ad.add (j * 4)) y S' cc') (by kernel_rfl) HS.out (fun hHeld => ?_)
            refine wpAnyH_take (i := 0) (oi := ⟨some 12, _, _, _, _, _⟩) (v := ?_) rfl (by kernel_rfl) (by kernel_rfl) (by kernel_rfl) (fun _ _ _ h => h) (Or.inl ⟨by rfl, ?_⟩) hHeld ?_
            rotate_left
            · intro w hSw
              obtain ⟨⟨h0, h1, h2, h3⟩, _⟩ := hSw
              go_simp
              first | done | with_reducible rfl
            try simp only [Act.put, List.setIfInBounds_toArray, List.set_cons_zero, List.set_cons_succ]
            refine wpAnyH_ready (rs := [1]) (by kernel_rfl) (by simp) ?_
            refine AllReadyH.cons (o := ⟨some 13, .call _, _, _, _, _⟩) rfl (fun K hK => ?_) AllReadyH.nil
            go_simp
            go_at_call 19
            refine (pright_k x x.sec.length rfl true HRT.out S cc (wr.alloc (.cells #[.int .i64 x.id, .slice S x.sec.length cc, .int .i64 x.frm, .int .i64 x.til] 26)).drew HLEN.out).mono ?_
            rintro e w3 ⟨rfl, hb3⟩
            go_wp2_with fail
            have HB3 := Lib.hid (HBX0.out.drew.trans (hb3.mono HBX0.out.drew.size))
            have HS3 := Lib.hid (And.intro (HS.out.1.below HLW.out hb3) (HS.out.2.below (by rw [add_block]; exact Nat.lt_of_lt_of_le had HBX0.out.drew.size) HBX0.out.drew.size hb3))
            clear hb3
            refine hK.out _ _ HS3.out (fun hHeld => ?_)
            clear hK K
            try simp only [Act.put, List.setIfInBounds_toArray, List.set_cons_zero, List.set_cons_succ]
            refine wpAnyH_take (i := 2) (oi := ⟨some 14, _, _, _, _, _⟩) (v := ?_) rfl (by kernel_rfl) (by kernel_rfl) (by kernel_rfl) (fun _ _ _ h => h) (Or.inl ⟨by rfl, ?_⟩) hHeld ?_
            rotate_left
            · intro w hSw
              go_simp
              first | done | with_reducible rfl
            try simp only [Act.put, List.setIfInBounds_toArray, List.set_cons_zero, List.set_cons_succ]
            refine wpAnyH_take (i := 3) (oi := ⟨some 15, _, _, _, _, _⟩) (v := ?_) rfl (by kernel_rfl) (by kernel_rfl) (by kernel_rfl) (fun _ _ _ h => h) (Or.inl ⟨by rfl, ?_⟩) hHeld ?_
            rotate_left
            · intro w hSw
              go_simp
              first | done | with_reducible rfl
            try simp only [Act.put, List.setIfInBounds_toArray, List.set_cons_zero, List.set_cons_succ]
            refine wpAnyH_take (i := 4) (oi := ⟨some 16, _, _, _, _, _⟩) (v := ?_) rfl (by kernel_rfl) (by kernel_rfl) (by kernel_rfl) (fun _ _ _ h => h) (Or.inl ⟨by rfl, ?_⟩) hHeld ?_
            rotate_left
            · intro w hSw
              go_simp
              first | done | with_reducible rfl
            try simp only [Act.put, List.setIfInBounds_toArray, List.set_cons_zero, List.set_cons_succ]
            refine wpAnyH_take (i := 5) (oi := ⟨some 17, _, _, _, _, _⟩) (v := .bool true) rfl (by kernel_rfl) (by kernel_rfl) (by kernel_rfl) (fun _ _ _ h => h) (Or.inl ⟨by rfl, ?_⟩) hHeld ?_
            · intro w hSw
              go_simp
              first | done | omega | (simp [b3]; done) | (simp; omega)
            try simp only [Act.put, List.setIfInBounds_toArray, List.set_cons_zero, List.set_cons_succ]
            refine wpAnyH_take (i := 6) (oi := ⟨some 18, _, _, _, _, _⟩) (v := ?_) rfl (by kernel_rfl) (by kernel_rfl) (by kernel_rfl) (fun _ _ _ h => h) (Or.inl ⟨by rfl, ?_⟩) hHeld ?_
            rotate_left
            · intro w hSw
              go_simp
              first | done | with_reducible rfl
            try simp only [Act.put, List.setIfInBounds_toArray, List.set_cons_zero, List.set_cons_succ]
            refine wpAnyH_take (i := 7) (oi := ⟨some 19, _, _, _, _, _⟩) (v := ?_) rfl (by kernel_rfl) (by kernel_rfl) (by kernel_rfl) (fun _ _ _ h => h) (Or.inl ⟨by rfl, ?_⟩) hHeld ?_
            rotate_left
            · intro w hSw
              go_simp
              first | done | with_reducible rfl
            try simp only [Act.put, List.setIfInBounds_toArray, List.set_cons_zero, List.set_cons_succ]
            refine wpAnyH_take (i := 8) (oi := ⟨some 20, _, _, _, _, _⟩) (v := ?_) rfl (by kernel_rfl) (by kernel_rfl) (by kernel_rfl) (fun _ _ _ h => h) (Or.inl ⟨by rfl, ?_⟩) hHeld ?_
            rotate_left
            · intro w hSw
              go_simp
              first | done | with_reducible rfl
            try simp only [Act.put, List.setIfInBounds_toArray, List.set_cons_zero, List.set_cons_succ]
            refine wpAnyH_take (i := 9) (oi := ⟨some 21, _, _, _, _, _⟩) (v := .int .i64 (j : Int)) rfl (by kernel_rfl) (by kernel_rfl) (by kernel_rfl) (fun _ _ _ h => h) (Or.inl ⟨by rfl, ?_⟩) hHeld ?_
            · intro w hSw
              go_simp
              first | done | omega | (simp [hkj, hwj]; done) | (simp; omega)
            try simp only [Act.put, List.setIfInBounds_toArray, List.set_cons_zero, List.set_cons_succ]
            refine wpAnyH_take (i := 10) (oi := ⟨some 22, _, _, _, _, _⟩) (v := ?_) rfl (by kernel_rfl) (by kernel_rfl) (by kernel_rfl) (fun _ _ _ h => h) (Or.inl ⟨by rfl, ?_⟩) hHeld ?_
            rotate_left
            · intro w hSw
              go_simp
              first | done | with_reducible rfl
            try simp only [Act.put, List.setIfInBounds_toArray, List.set_cons_zero, List.set_cons_succ]
            refine wpAnyH_take (i := 11) (oi := ⟨some 23, _, _, _, _, _⟩) (v := ?_) rfl (by kernel_rfl) (by kernel_rfl) (by kernel_rfl) (fun _ _ _ h => h) (Or.inl ⟨by rfl, ?_⟩) hHeld ?_
            rotate_left
            · intro w hSw
              go_simp
              first | done | with_reducible rfl
            try simp only [Act.put, List.setIfInBounds_toArray, List.set_cons_zero, List.set_cons_succ]
            refine wpAnyH_take (i := 12) (oi := ⟨some 24, _, _, _, _, _⟩) (v := ?_) rfl (by kernel_rfl) (by kernel_rfl) (by kernel_rfl) (fun _ _ _ h => h) (Or.inl ⟨by rfl, ?_⟩) hHeld ?_
            rotate_left
            · intro w hSw
              obtain ⟨_, ⟨k0, k1, k2, k3, _⟩⟩ := hSw
              go_simp
              first | done | with_reducible rfl
            try simp only [Act.put, List.setIfInBounds_toArray, List.set_cons_zero, List.set_cons_succ]
            refine wpAnyH_take (i := 13) (oi := ⟨some 25, _, _, _, _, _⟩) (v := ?_) rfl (by kernel_rfl) (by kernel_rfl) (by kernel_rfl) (fun _ _ _ h => h) (Or.inl ⟨by rfl, ?_⟩) hHeld ?_
            rotate_left
            · intro w hSw
              go_simp
              first | done | with_reducible rfl
            try simp only [Act.put, List.setIfInBounds_toArray, List.set_cons_zero, List.set_cons_succ]
            refine wpAnyH_take (i := 14) (oi := ⟨some 26, _, _, _, _, _⟩) (v := ?_) rfl (by kernel_rfl) (by kernel_rfl) (by kernel_rfl) (fun _ _ _ h => h) (Or.inl ⟨by rfl, ?_⟩) hHeld ?_
            rotate_left
            · intro w hSw
              obtain ⟨⟨h0, h1, h2, h3⟩, _⟩ := hSw
              go_simp
              first | done | with_reducible rfl
            try simp only [Act.put, List.setIfInBounds_toArray, List.set_cons_zero, List.set_cons_succ]
            refine wpAnyH_take (i := 15) (oi := ⟨some 27, _, _, _, _, _⟩) (v := .bool false) rfl (by kernel_rfl) (by kernel_rfl) (by kernel_rfl) (fun _ _ _ h => h) (Or.inl ⟨by rfl, ?_⟩) hHeld ?_
            · intro w hSw
              go_simp
              first | done | omega | (simp [hxy]; done) | (simp; omega)
            try simp only [Act.put, List.setIfInBounds_toArray, List.set_cons_zero, List.set_cons_succ]
            refine wpAnyH_take (i := 16) (oi := ⟨some 28, _, _, _, _, _⟩) (v := ?_) rfl (by kernel_rfl) (by kernel_rfl) (by kernel_rfl) (fun _ _ _ h => h) (Or.inl ⟨by rfl, ?_⟩) hHeld ?_
            rotate_left
            · intro w hSw
              go_simp
              first | done | with_reducible rfl
            try simp only [Act.put, List.setIfInBounds_toArray, List.set_cons_zero, List.set_cons_succ]
            refine wpAnyH_take (i := 17) (oi := ⟨some 29, _, _, _, _, _⟩) (v := ?_) rfl (by kernel_rfl) (by kernel_rfl) (by kernel_rfl) (fun _ _ _ h => h) (Or.inl ⟨by rfl, ?_⟩) hHeld ?_
            rotate_left
            · intro w hSw
              go_simp
              first | done | with_reducible rfl
            try simp only [Act.put, List.setIfInBounds_toArray, List.set_cons_zero, List.set_cons_succ]
            refine wpAnyH_done (by kernel_rfl) ?_ _
            go_wp2
            go_roundw
            case rel => exact ⟨k + 1, by omega, by go_num, HB3.out, HG.out⟩
            case measure => simp [intOf]; omega
    · have e : k = n := by omega
      have HB := Lib.hid (isR_true.2 (by rw [← HN.out, ← e]; exact hall))
      clear hall
      go_wp2
      go_ret
      exact ⟨by rw [HB.out]; rfl, hbel⟩
theorem pis_named (l : List K) (n : Nat) (hn : n = l.length) (b : Bool) (hb : isR l = b) (A : Option Addr) (c : Nat) (w : World) (hA : Ks w w.heap.size A l) (h1 : n ≤ 9223372036854775807) :
    Calls Tryd.prog 10 #[.slice A n c] w fun e w' => e = .returned (.bool b) ∧ Below w.heap.size w w' := by
  subst hb
  exact pis_any l n hn A c w hA h1
end Go.Proofs.YtaokhkbfiplfmaaDoor
end
section
namespace Go.Proofs.YtaokhkbfiplfmaaDoor
set_option linter.unusedVariables false
open Go.ChangeShapes Go.WideShapes Go.ChangeAt Go.RowKit Go.Shelf
attribute [local go_sem] Oper.semAt_some

def KV0 : KV := ⟨K0, none, 0⟩
/-- The kth of the keys from behind, with its place. -/
def back (L : List KV) (k : Nat) : Nat × KV := (L.length - 1 - k, L.getD (L.length - 1 - k) KV0)
def upto (L : List KV) (k : Nat) : List (Nat × KV) := (List.range k).map (back L)
theorem upto_succ (L : List KV) (k : Nat) : upto L (k + 1) = upto L k ++ [back L k] := by simp [upto, List.range_succ]
theorem upto_length (L : List KV) (k : Nat) : (upto L k).length = k := by simp [upto]
def encB (x : Nat × KV) : Array Value := #[.int .i64 (x.1 : Int), .agg #[.int .i64 x.2.k.id, .slice x.2.S x.2.k.sec.length x.2.c, .int .i64 x.2.k.frm, .int .i64 x.2.k.til]]
theorem KVs.below {w w' : World} {B : Nat} {A : Option Addr} {L : List KV} (h : KVs w B A L) (hb : Below B w w') : KVs w' B A L := by
  intro i q hq
  obtain ⟨ad, e, hlt, hk⟩ := h i q hq
  exact ⟨ad, e, hlt, hk.below (by rw [add_block]; exact hlt) (Nat.le_refl _) hb⟩

set_option maxRecDepth 100000 in
set_option maxHeartbeats 2000000 in
theorem back1_in (F : Fence) (n : Nat) (hf : F.fn 51) (hro : F.round = none) (hn : 1 ≤ n) (l Bx n₀ : Nat) (A : Option Addr) (m c : Nat) (L : List KV) (hm : m = L.length) (h100 : m ≤ 1000) (hBx : Bx < n₀) (J Jx : List (Nat × KV) → World → Prop)
    (hY : ∀ pre x W, J pre W → pre.length < m → YieldAt F (n - 1) Tryd.prog l (encB x) W fun e W' =>
      (e = .returned (.bool true) ∧ J (pre ++ [x]) W' ∧ Below n₀ W W') ∨ (e = .returned (.bool false) ∧ Jx (pre ++ [x]) W'))
    (W : World) (hc : W.cell? ⟨Bx, 0, none⟩ = some (.slice A m c)) (hL : KVs W n₀ A L) (h0 : J [] W) :
    CallsIn F n Tryd.prog 51 #[.func (.yield l) #[] #[], .pointer (some ⟨Bx, 0, none⟩)] W fun e W' => (∃ v, e = .returned v) ∧
      ((∃ ys, ys = upto L m ∧ J ys W') ∨ (∃ pre, (∃ k, k ≤ m ∧ pre = upto L k) ∧ Jx pre W')) := by
  have HM := Lib.hid hm
  have HL := Lib.hid hL
  have HC := Lib.hid hc
  clear hm hL
  refine callsIn_of_wp Tryd.func51 rfl hf ?_ hro
  simp only [Tryd.ntmps51, List.size_toArray, List.length_cons, List.length_nil, Nat.reduceAdd, Nat.reduceSub, Array.replicate_succ, Array.replicate_zero, List.push_toArray, List.append_toArray, List.nil_append, List.cons_append]
  gi_wp2
  gi_loopw [3] (fun i wr => ∃ k : Nat, k ≤ m ∧ i = .int .i64 ((m : Int) - 1 - k) ∧ J (upto L k) wr ∧ Below n₀ W wr)
    (fun i _ => (intOf i + 1).toNat)
  case atStart =>
    exact ⟨0, Nat.zero_le _, by go_num, h0, Below.refl _ _⟩
  case round =>
    obtain ⟨k, hk, rfl, hJs, hnx⟩ := hrel
    by_cases hlt : k < m
    · obtain ⟨j, hj⟩ : ∃ j : Nat, j = m - 1 - k := ⟨_, rfl⟩
      have e : (m : Int) - 1 - (k : Int) = (j : Int) := by omega
      rw [e]
      have hjl : j < L.length := by rw [← HM.out]; omega
      obtain ⟨ad, rfl, had, hk4⟩ := (HL.out.below hnx) j _ (List.getElem?_eq_getElem hjl)
      have hbk : back L k = (j, L[j]) := by
        have : L.length - 1 - k = j := by rw [← HM.out]; omega
        rw [back, this, List.getD_eq_getElem?_getD, List.getElem?_eq_getElem hjl]; rfl
      obtain ⟨fn, tmps, assign, body, hy, hR⟩ := hY _ (j, L[j]) wr hJs (by rw [upto_length]; exact hlt)
      have HBK := Lib.hid hbk
      generalize L[j] = x at *
      dsimp only [encB] at hy
      have hcx : wr.cell? ⟨Bx, 0, none⟩ = some (.slice (some ad) m c) := (hnx.cell (p := ⟨Bx, 0, none⟩) hBx).trans HC.out
      have hc0 := hk4.c0
      have hc1 := hk4.c1
      have hc2 := hk4.c2
      have hc3 := hk4.c3
      have b1 : (0 : Int) ≤ (j : Int) := by omega
      have b2 : (j : Int) < (m : Int) := by omega
      have HNX := Lib.hid hnx
      have HJ := Lib.hid hj
      clear hk4 hnx hbk hj e
      gi_wp2
      refine hR.mono ?_
      rintro e' W3 (⟨rfl, hJ3, hk3⟩ | ⟨rfl, hJx3⟩)
      · gi_wp2
        go_roundw
        case rel => exact ⟨k + 1, by omega, by have := HJ.out; go_num, by rw [upto_succ, HBK.out]; exact hJ3, HNX.out.trans hk3⟩
        case measure => have := HJ.out; simp [intOf] <;> omega
      · gi_wp2
        refine bodyPost_ret (results_none rfl _ _ _) rfl ?_
        exact ⟨⟨_, rfl⟩, .inr ⟨_, ⟨k + 1, by omega, by rw [upto_succ, HBK.out]⟩, hJx3⟩⟩
    · obtain rfl : k = m := by omega
      have e : (k : Int) - 1 - (k : Int) = -1 := by omega
      rw [e]
      gi_wp2
      go_end0
      exact ⟨⟨_, rfl⟩, .inl ⟨_, rfl, hJs⟩⟩
end Go.Proofs.YtaokhkbfiplfmaaDoor
end
section
namespace Go.Proofs.YtaokhkbfiplfmaaDoor
set_option linter.unusedVariables false
open Go.ChangeShapes Go.WideShapes Go.ChangeAt Go.RowKit Go.Shelf
attribute [local go_sem] Oper.semAt_some

theorem back_in (F : Fence) (n : Nat) (hf : F.fn 40) (hro : F.round = none) (A : Option Addr) (m c : Nat) (w : World) :
    CallsIn F n Tryd.prog 40 #[.slice A m c] w fun e w' => e = .returned (.func (.func 51) #[] #[.pointer (some ⟨w.heap.size, 0, none⟩)]) ∧ w' = w.alloc (.cells #[.slice A m c] 28) := by
  refine callsIn_of_wp Tryd.func40 rfl hf ?_ hro
  simp only [Tryd.ntmps40, List.size_toArray, List.length_cons, List.length_nil, Nat.reduceAdd, Nat.reduceSub, Array.replicate_succ, Array.replicate_zero, List.push_toArray, List.append_toArray, List.nil_append, List.cons_append]
  gi_wp2
  go_ret
  exact ⟨rfl, rfl⟩

theorem back_stops (F : Fence) (n : Nat) (hf : F.fn 51) (hro : F.round = none) (hn : 1 ≤ n) (Bx n₀ : Nat) (A : Option Addr) (m c : Nat) (L : List KV) (hm : m = L.length) (h100 : m ≤ 1000) (hBx : Bx < n₀) (w : World) (hn₀ : n₀ ≤ w.heap.size)
    (hc : w.cell? ⟨Bx, 0, none⟩ = some (.slice A m c)) (hL : KVs w n₀ A L) :
    SeqStopsK F n Tryd.prog 51 #[.pointer (some ⟨Bx, 0, none⟩)] encB (Below n₀) (fun ys => ys = upto L m) (fun pre => ∃ k, k ≤ m ∧ pre = upto L k) m w := fun l J Jx W hW _ _ hY h0 =>
  back1_in F n hf hro hn l Bx n₀ A m c L hm h100 hBx J Jx hY W ((hW.cell (p := ⟨Bx, 0, none⟩) (Nat.lt_of_lt_of_le hBx hn₀)).trans hc) (hL.below (hW.mono hn₀)) h0

/-- The last of the first n places that fits, or -1. -/
def lastIx (p : Nat → Bool) : Nat → Int
  | 0 => -1
  | n + 1 => if p n = true then (n : Int) else lastIx p n
theorem lastIx_none {p : Nat → Bool} : ∀ n : Nat, (∀ j, j < n → p j = false) → lastIx p n = -1
  | 0, _ => rfl
  | n + 1, h => by rw [lastIx, h n (by omega)]; simpa using lastIx_none n (fun j hj => h j (by omega))
theorem lastIx_at {p : Nat → Bool} : ∀ (n k : Nat), k < n → p k = true → (∀ j, k < j → j < n → p j = false) → lastIx p n = (k : Int)
  | 0, k, hk, _, _ => by omega
  | n + 1, k, hk, hp, h => by
    by_cases e : k = n
    · subst e; rw [lastIx, if_pos hp]
    · rw [lastIx, h n (by omega) (by omega)]; simpa using lastIx_at n k (by omega) hp (fun j h1 h2 => h j h1 (by omega))
theorem lastIx_cases (p : Nat → Bool) : ∀ n : Nat, (lastIx p n = -1 ∧ ∀ j, j < n → p j = false) ∨ ∃ k : Nat, k < n ∧ lastIx p n = (k : Int) ∧ p k = true ∧ ∀ j, k < j → j < n → p j = false
  | 0 => .inl ⟨rfl, by omega⟩
  | n + 1 => by
    by_cases hp : p n = true
    · exact .inr ⟨n, by omega, by rw [lastIx, if_pos hp], hp, by omega⟩
    · have hf : p n = false := by simpa using hp
      rcases lastIx_cases p n with ⟨h1, h2⟩ | ⟨k, h1, h2, h3, h4⟩
      · refine .inl ⟨by rw [lastIx, hf]; simpa using h1, fun j hj => ?_⟩
        rcases Nat.lt_or_ge j n with h | h
        · exact h2 j h
        · have : j = n := by omega
          subst this; exact hf
      · refine .inr ⟨k, by omega, by rw [lastIx, hf]; simpa using h2, h3, fun j hj1 hj2 => ?_⟩
        rcases Nat.lt_or_ge j n with h | h
        · exact h4 j hj1 h
        · have : j = n := by omega
          subst this; exact hf

theorem getD_k {l : List K} {L : List KV} (h : L.map (·.k) = l) (j : Nat) : l.getD j K0 = (L.getD j KV0).k := by
  subst h
  rw [List.getD_eq_getElem?_getD, List.getD_eq_getElem?_getD, List.getElem?_map]
  cases L[j]? <;> rfl
theorem upto_none {l : List K} {L : List KV} {p : K → Bool} (h : L.map (·.k) = l) (k : Nat) (hk : k ≤ L.length) (hall : ∀ x ∈ upto L k, p x.2.k = false) : ∀ j, L.length - k ≤ j → j < L.length → p (l.getD j K0) = false := by
  intro j h1 h2
  have hm : back L (L.length - 1 - j) ∈ upto L k := by
    simp only [upto, List.mem_map, List.mem_range]
    exact ⟨_, by omega, rfl⟩
  have := hall _ hm
  rw [back, show L.length - 1 - (L.length - 1 - j) = j by omega] at this
  rw [getD_k h]
  exact this
theorem keeps_call {B : Nat} {W W' : World} (hb : Below W.heap.size W W') : KeepsFrom B W W' := ⟨hb.size, fun k o _ hk _ => (hb.block k (Array.getElem?_eq_some_iff.1 hk).1).trans hk⟩
/-- What the function value must do: tell of a key whether it fits. -/
def Fits (g : Nat) (lb : Array Value) (p : K → Bool) (w : World) : Prop :=
  ∀ (W : World) (q : KV), Below w.heap.size w W → Calls Tryd.prog g (#[.agg #[.int .i64 q.k.id, .slice q.S q.k.sec.length q.c, .int .i64 q.k.frm, .int .i64 q.k.til]] ++ lb) W fun e w' => e = .returned (.bool (p q.k)) ∧ Below W.heap.size W w'

set_option maxRecDepth 100000 in
set_option maxHeartbeats 2000000 in
theorem last_any (p : K → Bool) (l : List K) (m : Nat) (hm : m = l.length) (h100 : m ≤ 1000) (g : Nat) (lb : Array Value) (eg : ∀ args w, (callFunc g args).run Tryd.prog w = .ok (.enter g args) w) (A : Option Addr) (c : Nat) (w : World) (hA : Ks w w.heap.size A l) (hp : Fits g lb p w) :
    Calls Tryd.prog 27 #[.slice A m c, .func (.func g) #[] lb] w fun e w' => e = .returned (.int .i64 (lastIx (fun j => p (l.getD j K0)) m)) ∧ Below w.heap.size w w' := by
  obtain ⟨L, hL, hKV, _⟩ := kvs_of_ks hA
  have hmL : m = L.length := by rw [hm, ← hL, List.length_map]
  have HM := Lib.hid hm
  have HL := Lib.hid hL
  have HKV := Lib.hid hKV
  have HP := Lib.hid hp
  have HML := Lib.hid hmL
  clear hm hL hKV hp hmL hA
  refine (callsIn_wide (n := 3)).1 ?_
  refine callsIn_of_wp_marks Tryd.func27 rfl trivial ?_ rfl
  simp only [Tryd.ntmps27, List.size_toArray, List.length_cons, List.length_nil, Nat.reduceAdd, Nat.reduceSub, Array.replicate_succ, Array.replicate_zero, List.push_toArray, List.append_toArray, List.nil_append, List.cons_append]
  gi_wp2_with (refine ⟨trivial, ?_⟩; gi_at_call 40; refine (back_in Fence.wide _ trivial rfl _ _ _ _).mono ?_; rintro e w' ⟨rfl, rfl⟩)
  have bF := ((Boxed.new w 54 (.func (.func g) #[] lb)).alloc (.cells #[.int .i64 0] 3)).alloc (.cells #[.slice A m c] 28)
  have bR := (Boxed.new (w.alloc (.cells #[.func (.func g) #[] lb] 54)) 3 (.int .i64 0)).alloc (.cells #[.slice A m c] 28)
  have bS := Boxed.new ((w.alloc (.cells #[.func (.func g) #[] lb] 54)).alloc (.cells #[.int .i64 0] 3)) 28 (.slice A m c)
  simp only [World.size_alloc] at bR bS
  have hB0 : Below w.heap.size w (((w.alloc (.cells #[.func (.func g) #[] lb] 54)).alloc (.cells #[.int .i64 0] 3)).alloc (.cells #[.slice A m c] 28)) := (((Below.refl _ w).alloc (Nat.le_refl _) _).alloc (by simp) _).alloc (by simp; omega) _
  have hsz : (((w.alloc (.cells #[.func (.func g) #[] lb] 54)).alloc (.cells #[.int .i64 0] 3)).alloc (.cells #[.slice A m c] 28)).heap.size = w.heap.size + 3 := by simp
  obtain ⟨W0, hW0⟩ : ∃ W0, ((w.alloc (.cells #[.func (.func g) #[] lb] 54)).alloc (.cells #[.int .i64 0] 3)).alloc (.cells #[.slice A m c] 28) = W0 := ⟨_, rfl⟩
  rw [hW0] at bF bR bS hB0 hsz ⊢
  clear hW0
  have hKV0 : KVs W0 (w.heap.size + 3) A L := fun i q hq => by
    obtain ⟨ad, e, hlt, hk⟩ := (HKV.out.below hB0) i q hq
    exact ⟨ad, e, by omega, hk.more (by omega)⟩
  refine wpIn_rangeFunc_ownH rfl (by omega) (gf := 51) (lb := #[.pointer (some ⟨w.heap.size + 1 + 1, 0, none⟩)]) rfl trivial (enters_of Tryd.func51 (by kernel_rfl) rfl)
    (back_stops Fence.wide _ trivial rfl (by omega) (w.heap.size + 1 + 1) (w.heap.size + 3) A m c L HML.out h100 (by omega) W0 (by omega) bS.cell hKV0) belowK_t (belowK_b (by omega)) (Below.refl _ _) (fun _ => rfl)
    (fun pre W => ((∀ x ∈ pre, p x.2.k = false) ∧ Boxed W w.heap.size 54 (.func (.func g) #[] lb) ∧ Boxed W (w.heap.size + 1) 3 (.int .i64 0) ∧ w.heap.size + 3 ≤ W.heap.size) ∧ Below w.heap.size w W)
    (fun c pre W => (c = .ret ∧ ∃ (ini : List (Nat × KV)) (z : Nat × KV), pre = ini ++ [z] ∧ (∀ x ∈ ini, p x.2.k = false) ∧ p z.2.k = true ∧ Boxed W (w.heap.size + 1) 3 (.int .i64 (z.1 : Int))) ∧ Below w.heap.size w W)
    (OwnFrom.and (Own.from (fun s A B row hs hg hr => ⟨hs.1, hs.2.1.kept hg (fun e => by obtain ⟨o, h1, h2⟩ := hr _ e.symm; rw [show A.heap[w.heap.size]? = _ from hs.2.1] at h1; cases h1; cases h2), hs.2.2.1.kept hg (fun e => by obtain ⟨o, h1, h2⟩ := hr _ e.symm; rw [show A.heap[w.heap.size + 1]? = _ from hs.2.2.1] at h1; cases h1; cases h2), Nat.le_trans hs.2.2.2 hg.size⟩) _) (ownFrom_below (Nat.le_refl _) (by omega)))
    (fun c => OwnFrom.and (Own.from (fun s A B row hs hg hr => by
      obtain ⟨hc, ini, z, e1, e2, e3, e4⟩ := hs
      exact ⟨hc, ini, z, e1, e2, e3, e4.kept hg (fun e => by obtain ⟨o, h1, h2⟩ := hr _ e.symm; rw [show A.heap[w.heap.size + 1]? = _ from e4] at h1; cases h1; cases h2)⟩) _) (ownFrom_below (Nat.le_refl _) (by omega)))
    ⟨⟨by simp, bF, bR, by omega⟩, hB0⟩
    (fun x a' W => ∃ Bx, w.heap.size + 2 < Bx ∧ W.heap[Bx]? = some (.cells #[.int .i64 x.2.k.id, .slice x.2.S x.2.k.sec.length x.2.c, .int .i64 x.2.k.frm, .int .i64 x.2.k.til] 26 (0, 0)) ∧ a' = { tmps := #[.slice A m c, .func (.func g) #[] lb, undef, .pointer (some ⟨w.heap.size, 0, none⟩), .pointer (some ⟨w.heap.size + 1, 0, none⟩), .int .i64 (x.1 : Int), .pointer (some ⟨Bx, 0, none⟩), .slice A m c, .func (.func 51) #[] #[.pointer (some ⟨w.heap.size + 1 + 1, 0, none⟩)], .int .i64 (x.1 : Int), .agg #[.int .i64 x.2.k.id, .slice x.2.S x.2.k.sec.length x.2.c, .int .i64 x.2.k.frm, .int .i64 x.2.k.til], undef, undef, undef, undef], defers := [] })
    ?hax ?assign ?body ?done ?stop
  case hax =>
    intro x a' s X Y row hs hg hr
    obtain ⟨Bx, h1, h2, h3⟩ := hs
    refine ⟨Bx, h1, (hg.block Bx (Array.getElem?_eq_some_iff.1 h2).1 (fun e => ?_)).trans h2, h3⟩
    obtain ⟨o, h4, h5⟩ := (hr Bx e.symm).2
    rw [h2] at h4
    cases h4
    cases h5
  case assign =>
    rintro l pre x W K ⟨⟨hall, hF, hR, h3⟩, hB⟩ hK
    have HK := Lib.hid hK
    clear hK
    dsimp only [encB]
    gi_wp2
    exact HK.out _ _ ((KeepsOthers.alloc _ _).from _) ((Below.refl _ W).alloc h3 _) ⟨⟨hall, hF.alloc _, hR.alloc _, by simp; omega⟩, hB.alloc (by omega) _⟩ ⟨W.heap.size, by omega, World.alloc_heap_new W _, rfl⟩
  case body =>
    rintro l pre x a' W hl ⟨r, hr⟩ ⟨⟨hall, hF, hR, h3⟩, hB⟩ ⟨Bx, hBx, hX, rfl⟩ hlt
    have hX0 : W.cell? ⟨Bx, 0, none⟩ = some (.int .i64 x.2.k.id) := by rw [cell_of_row W Bx 0 _ _ (0, 0) hX]; rfl
    have hX1 : W.cell? ⟨Bx, 1, none⟩ = some (.slice x.2.S x.2.k.sec.length x.2.c) := by rw [cell_of_row W Bx 1 _ _ (0, 0) hX]; rfl
    have hX2 : W.cell? ⟨Bx, 2, none⟩ = some (.int .i64 x.2.k.frm) := by rw [cell_of_row W Bx 2 _ _ (0, 0) hX]; rfl
    have hX3 : W.cell? ⟨Bx, 3, none⟩ = some (.int .i64 x.2.k.til) := by rw [cell_of_row W Bx 3 _ _ (0, 0) hX]; rfl
    have hcF := hF.cell
    have hfit := HP.out W x.2 hB
    have HF := Lib.hid hF
    have HR := Lib.hid hR
    have HALL := Lib.hid hall
    clear hX hF hR hall
    cases hpx : p x.2.k with
    | true =>
      rw [hpx] at hfit
      gi_wp2_with (refine ⟨trivial, ?_⟩; refine (CallsIn.inRound l (callsIn_wide.2 hfit)).mono ?_; rintro e w' ⟨rfl, hb⟩; have hR1 : Boxed w' (w.heap.size + 1) 3 (.int .i64 0) := (hb.block _ HR.out.lt).trans HR.out; have hc1 := hR1.cell; have hf1 := hR1.frozen; have HR1 := Lib.hid hR1; have HB1 := Lib.hid hb; clear hR1 hb)
      exact ⟨(keeps_call HB1.out).trans ((KeepsOthers.setCell _ _ _).from _), ⟨rfl, pre, x, rfl, HALL.out, hpx, HR1.out.set _⟩, (hB.trans (HB1.out.mono hB.size)).setCell (p := ⟨w.heap.size + 1, 0, none⟩) (by simp) _⟩
    | false =>
      rw [hpx] at hfit
      gi_wp2_with (refine ⟨trivial, ?_⟩; refine (CallsIn.inRound l (callsIn_wide.2 hfit)).mono ?_; rintro e w' ⟨rfl, hb⟩; have HB1 := Lib.hid hb; clear hb)
      exact ⟨keeps_call HB1.out, HB1.out.mono h3, ⟨fun y hy => (List.mem_append.1 hy).elim (HALL.out y) (fun e => by simp at e; subst e; exact hpx), (HB1.out.block _ HF.out.lt).trans HF.out, (HB1.out.block _ HR.out.lt).trans HR.out, Nat.le_trans h3 HB1.out.size⟩, hB.trans (HB1.out.mono hB.size)⟩
  case done =>
    rintro D ys W hD rfl ⟨⟨hall, hF, hR, h3⟩, hB⟩ hK
    have hcr := hR.cell
    have hfr := hR.frozen
    have HALL := Lib.hid hall
    clear hall
    gi_wp2
    have hK' := (KeepsOthers.setCell W ⟨w.heap.size + 1, 0, none⟩ (.int .i64 (-1))).same D _ hK rfl
    refine ⟨by simp, .inl ⟨_, _, rfl, run_takeDeferred hK', ?_⟩⟩
    have hc5 := cell_kept (World.cell?_setCell_same' W ⟨w.heap.size + 1, 0, none⟩ (.int .i64 (-1)) (by rw [hcr]; rfl)) (grownBy_putObj' _ D (.deferred none)) (fun r e => by cases e; exact ⟨_, hK', rfl⟩)
    have hix : lastIx (fun j => p (l.getD j K0)) m = -1 := lastIx_none m (fun j hj => by
      have := HML.out
      exact upto_none HL.out m (by omega) HALL.out j (by omega) (by omega))
    refine ⟨.int .i64 (-1), ?_, by rw [hix], (hB.setCell (p := ⟨w.heap.size + 1, 0, none⟩) (by simp) _).trans (belowK_b (w := w) (Nat.le_refl _) _ D _ _ (by omega) hK' rfl rfl)⟩
    simp [results, Tryd.results27, go_sem, hc5]
  case stop =>
    rintro D cc pre W hD ⟨k, hk, rfl⟩ ⟨⟨rfl, ini, z, e1, e2, e3, hR⟩, hB⟩ hK
    have hcr := hR.cell
    gi_wp2
    refine ⟨by simp, .inl ⟨_, _, rfl, run_takeDeferred hK, ?_⟩⟩
    have hc5 := cell_kept hcr (grownBy_putObj' _ D (.deferred none)) (fun r e => by cases e; exact ⟨_, hK, rfl⟩)
    obtain ⟨k', rfl⟩ : ∃ k', k = k' + 1 := by
      cases k with
      | zero => simp [upto] at e1
      | succ k' => exact ⟨k', rfl⟩
    rw [upto_succ] at e1
    obtain ⟨rfl, e5⟩ := List.append_inj' e1 rfl
    obtain rfl : back L k' = z := by simpa using e5
    have hml := HML.out
    have hix : lastIx (fun j => p (l.getD j K0)) m = ((L.length - 1 - k' : Nat) : Int) := lastIx_at m _ (by omega) (by
      have := e3
      rw [back] at this
      show p (l.getD (L.length - 1 - k') K0) = true
      rw [getD_k HL.out]
      exact this) (fun j h1 h2 => upto_none HL.out k' (by omega) e2 j (by omega) (by omega))
    refine ⟨.int .i64 ((L.length - 1 - k' : Nat) : Int), ?_, by rw [hix], hB.trans (belowK_b (w := w) (Nat.le_refl _) W D _ _ (by omega) hK rfl rfl)⟩
    have hc6 := hc5
    simp only [back] at hc6
    simp [results, Tryd.results27, go_sem, hc6]
end Go.Proofs.YtaokhkbfiplfmaaDoor
end
