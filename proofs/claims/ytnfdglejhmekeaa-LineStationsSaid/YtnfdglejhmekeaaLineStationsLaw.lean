/-
  LineStations walked, out of the five contracts: it answers true. Conditions: the numbers fit an int.
-/
import Derived.Test.YtnfdglejhmekeaaLineLaws
import Derived.Deep.RegionHeld3
namespace Go.Proofs.Ytnfdglejhmekeaa
set_option linter.unusedVariables false
open Go.ChangeShapes Go.WideShapes Go.ChangeAt Go.RowKit

set_option maxRecDepth 100000 in
set_option maxHeartbeats 1600000 in
theorem stations_any (C : LC) (low high s : Int) (il : In64 low) (ih : In64 high) (is : In64 s) (w : World) : Calls Try.prog 6 #[.int .i64 low, .int .i64 high, .int .i64 s] w fun e w' => e = .returned (.bool true) ∧ Below w.heap.size w w' := by
  have Rl := Lib.hid il
  have Rh := Lib.hid ih
  have Rs := Lib.hid is
  clear il ih is
  obtain ⟨l, hl⟩ : ∃ l, stV low high = l := ⟨_, rfl⟩
  obtain ⟨n, hn⟩ : ∃ n, n = l.length := ⟨_, rfl⟩
  have HL := Lib.hid hl
  have HN := Lib.hid hn
  by_cases hok : okZ low high = true ∧ isN s = true
  · obtain ⟨ho, hs⟩ := hok
    have hs2 := (isN_iff s).1 hs
    obtain ⟨S, rfl⟩ : ∃ S : Nat, s = (S : Int) := ⟨s.toNat, by omega⟩
    have HE := Lib.hid (show stE low high = 0 by rw [stE, if_pos ho])
    have HF := Lib.hid (show zoneE (S : Int) = 0 by rw [zoneE, if_pos hs])
    obtain ⟨z, hz⟩ : ∃ z, zn (S : Int) = z := ⟨_, rfl⟩
    have HZ := Lib.hid (show zoneV (S : Int) = z by rw [zoneV, if_pos hs]; exact hz)
    have hll : l = stL low high 40 := by rw [← hl, stV, if_pos ho]
    have HLL := Lib.hid hll
    have h40 : n ≤ 40 := by rw [hn, ← hl]; exact stV_len low high
    have hcnt : cntN l S n = if (decide (low ≤ z) && decide (z ≤ high)) = true then 1 else 0 := by
      rw [hn, hll, cnt_all (by omega), inZ, hz]
    have HC := Lib.hid hcnt
    have hc0 : cntN l S 0 = 0 := rfl
    have HC0 := Lib.hid hc0
    clear hl hn ho hs hs2 hz hll hcnt hc0
    have HBL := Lib.hid (Below.refl w.heap.size w)
    go_enter Try.func6, Try.ntmps6
    go_wp2_with fail
    refine (C.stations low high 0 l n w Rl.out Rh.out HL.out HN.out HE.out).mono ?_
    rintro e w1 ⟨A, c, rfl, hs, hb⟩
    replace HBL := Lib.hid (HBL.out.trans (hb.mono HBL.out.size))
    have L1 := Lib.hid hs
    clear hs
    clear hb
    go_wp2_with fail
    refine (C.zone (S : Int) z 0 w1 Rs.out HZ.out HF.out).mono ?_
    rintro e w2 ⟨rfl, hb⟩
    replace L1 := Lib.hid (L1.out.next hb)
    replace HBL := Lib.hid (HBL.out.trans (hb.mono HBL.out.size))
    clear hb
    go_wp2
    go_loopw [11, 12] (fun m i wr => ∃ k : Nat, k ≤ n ∧ i = .int .i64 k ∧ m = .int .i64 (cntN l S k : Nat) ∧ Ns wr wr.heap.size l A c ∧ Below w.heap.size w wr) (fun _ i _ => n - (intOf i).toNat)
    case atStart => exact ⟨0, Nat.zero_le _, rfl, by rw [HC0.out]; rfl, L1.out, HBL.out⟩
    case round =>
      obtain ⟨k, hk, rfl, rfl, hns, hbel⟩ := hrel
      by_cases hlt : k < n
      · have hkl : k < l.length := by rw [← HN.out]; exact hlt
        obtain ⟨x, hx⟩ : ∃ x, l[k]? = some x := ⟨_, List.getElem?_eq_getElem hkl⟩
        obtain ⟨ad, rfl, hadl, hc⟩ := hns.at hx
        have HLT := Lib.hid hadl
        clear hadl
        have hmx : x ∈ stL low high 40 := by rw [← HLL.out]; exact List.mem_of_getElem? hx
        have hxN : isN (x : Int) = true := (isN_iff _).2 (by have := (mem_stL.1 hmx).1; omega)
        have HXN := Lib.hid hxN
        have Rx := Lib.hid (show In64 (x : Int) from in64_nat (by have := (mem_stL.1 hmx).1; omega))
        have hcs := cntN_succ (s := S) hx
        have HNS := Lib.hid hns
        have HBL2 := Lib.hid hbel
        have b1 : (0 : Int) ≤ (k : Int) := by omega
        have b2 : (k : Int) < (n : Int) := by omega
        have hck : cntN l S k ≤ k := by unfold cntN; exact Nat.le_trans List.count_le_length (by simp; omega)
        have wc : IntKind.i64.wrap ((cntN l S k : Nat) + 1 : Int) = ((cntN l S k : Nat) : Int) + 1 := IntWalk.i64_in _ (by omega)
        have hsz := Below.refl wr.heap.size wr
        clear hmx hxN hkl hns hbel hck
        by_cases h0 : k = 0
        · have q0 : ¬ ((0 : Int) < (k : Int)) := by omega
          have HX := Lib.hid hx
          clear hx h0
          go_wp2
          have HS := Lib.hid (show wr.drew.cell? (ad.add k) = some (.int .i64 (x : Int)) from hc)
          clear hc
          refine wp_region_held_drew (S := fun w' => w'.cell? (ad.add k) = some (.int .i64 (x : Int))) (by kernel_rfl) HS.out (fun hHeld => ?_)
          refine wpAnyH_take (i := 0) (oi := ⟨some 46, _, _, _, _, _⟩) (v := ?_) rfl (by kernel_rfl) (by kernel_rfl) (by kernel_rfl) (fun _ _ _ h => h) (Or.inl ⟨by rfl, ?_⟩) hHeld ?_
          rotate_left
          · intro w hSw
            go_simp
            first | done | with_reducible rfl
          try simp only [Act.put, List.setIfInBounds_toArray, List.set_cons_zero, List.set_cons_succ]
          refine wpAnyH_take (i := 1) (oi := ⟨some 47, _, _, _, _, _⟩) (v := .bool false) rfl (by kernel_rfl) (by kernel_rfl) (by kernel_rfl) (fun _ _ _ h => h) (Or.inl ⟨by rfl, ?_⟩) hHeld ?_
          · intro w hSw
            go_simp
            first | done | omega | (simp [q0]; done) | (simp; omega)
          try simp only [Act.put, List.setIfInBounds_toArray, List.set_cons_zero, List.set_cons_succ]
          refine wpAnyH_take (i := 2) (oi := ⟨some 48, _, _, _, _, _⟩) (v := ?_) rfl (by kernel_rfl) (by kernel_rfl) (by kernel_rfl) (fun _ _ _ h => h) (Or.inl ⟨by rfl, ?_⟩) hHeld ?_
          rotate_left
          · intro w hSw
            go_simp
            first | done | with_reducible rfl
          try simp only [Act.put, List.setIfInBounds_toArray, List.set_cons_zero, List.set_cons_succ]
          refine wpAnyH_take (i := 3) (oi := ⟨some 49, _, _, _, _, _⟩) (v := undef) rfl (by kernel_rfl) (by kernel_rfl) (by kernel_rfl) (fun _ _ _ h => h) (Or.inr ⟨by rfl, rfl⟩) hHeld ?_
          try simp only [Act.put, List.setIfInBounds_toArray, List.set_cons_zero, List.set_cons_succ]
          refine wpAnyH_take (i := 4) (oi := ⟨some 50, _, _, _, _, _⟩) (v := undef) rfl (by kernel_rfl) (by kernel_rfl) (by kernel_rfl) (fun _ _ _ h => h) (Or.inr ⟨by rfl, rfl⟩) hHeld ?_
          try simp only [Act.put, List.setIfInBounds_toArray, List.set_cons_zero, List.set_cons_succ]
          refine wpAnyH_take (i := 5) (oi := ⟨some 51, _, _, _, _, _⟩) (v := undef) rfl (by kernel_rfl) (by kernel_rfl) (by kernel_rfl) (fun _ _ _ h => h) (Or.inr ⟨by rfl, rfl⟩) hHeld ?_
          try simp only [Act.put, List.setIfInBounds_toArray, List.set_cons_zero, List.set_cons_succ]
          refine wpAnyH_take (i := 6) (oi := ⟨some 52, _, _, _, _, _⟩) (v := undef) rfl (by kernel_rfl) (by kernel_rfl) (by kernel_rfl) (fun _ _ _ h => h) (Or.inr ⟨by rfl, rfl⟩) hHeld ?_
          try simp only [Act.put, List.setIfInBounds_toArray, List.set_cons_zero, List.set_cons_succ]
          refine wpAnyH_take (i := 7) (oi := ⟨some 53, _, _, _, _, _⟩) (v := undef) rfl (by kernel_rfl) (by kernel_rfl) (by kernel_rfl) (fun _ _ _ h => h) (Or.inr ⟨by rfl, rfl⟩) hHeld ?_
          try simp only [Act.put, List.setIfInBounds_toArray, List.set_cons_zero, List.set_cons_succ]
          refine wpAnyH_take (i := 8) (oi := ⟨some 54, _, _, _, _, _⟩) (v := undef) rfl (by kernel_rfl) (by kernel_rfl) (by kernel_rfl) (fun _ _ _ h => h) (Or.inr ⟨by rfl, rfl⟩) hHeld ?_
          try simp only [Act.put, List.setIfInBounds_toArray, List.set_cons_zero, List.set_cons_succ]
          refine wpAnyH_take (i := 9) (oi := ⟨some 55, _, _, _, _, _⟩) (v := undef) rfl (by kernel_rfl) (by kernel_rfl) (by kernel_rfl) (fun _ _ _ h => h) (Or.inr ⟨by rfl, rfl⟩) hHeld ?_
          try simp only [Act.put, List.setIfInBounds_toArray, List.set_cons_zero, List.set_cons_succ]
          refine wpAnyH_take (i := 10) (oi := ⟨some 56, _, _, _, _, _⟩) (v := undef) rfl (by kernel_rfl) (by kernel_rfl) (by kernel_rfl) (fun _ _ _ h => h) (Or.inr ⟨by rfl, rfl⟩) hHeld ?_
          try simp only [Act.put, List.setIfInBounds_toArray, List.set_cons_zero, List.set_cons_succ]
          refine wpAnyH_take (i := 11) (oi := ⟨some 57, _, _, _, _, _⟩) (v := undef) rfl (by kernel_rfl) (by kernel_rfl) (by kernel_rfl) (fun _ _ _ h => h) (Or.inr ⟨by rfl, rfl⟩) hHeld ?_
          try simp only [Act.put, List.setIfInBounds_toArray, List.set_cons_zero, List.set_cons_succ]
          refine wpAnyH_take (i := 12) (oi := ⟨some 58, _, _, _, _, _⟩) (v := undef) rfl (by kernel_rfl) (by kernel_rfl) (by kernel_rfl) (fun _ _ _ h => h) (Or.inr ⟨by rfl, rfl⟩) hHeld ?_
          try simp only [Act.put, List.setIfInBounds_toArray, List.set_cons_zero, List.set_cons_succ]
          refine wpAnyH_take (i := 13) (oi := ⟨some 59, _, _, _, _, _⟩) (v := ?_) rfl (by kernel_rfl) (by kernel_rfl) (by kernel_rfl) (fun _ _ _ h => h) (Or.inl ⟨by rfl, ?_⟩) hHeld ?_
          rotate_left
          · intro w hSw
            go_simp
            first | done | with_reducible rfl
          try simp only [Act.put, List.setIfInBounds_toArray, List.set_cons_zero, List.set_cons_succ]
          refine wpAnyH_take (i := 14) (oi := ⟨some 60, _, _, _, _, _⟩) (v := ?_) rfl (by kernel_rfl) (by kernel_rfl) (by kernel_rfl) (fun _ _ _ h => h) (Or.inl ⟨by rfl, ?_⟩) hHeld ?_
          rotate_left
          · intro w hSw
            go_simp
            first | done | with_reducible rfl
          try simp only [Act.put, List.setIfInBounds_toArray, List.set_cons_zero, List.set_cons_succ]
          refine wpAnyH_take (i := 15) (oi := ⟨some 61, _, _, _, _, _⟩) (v := ?_) rfl (by kernel_rfl) (by kernel_rfl) (by kernel_rfl) (fun _ _ _ h => h) (Or.inl ⟨by rfl, ?_⟩) hHeld ?_
          rotate_left
          · intro w hSw
            go_simp
            first | done | with_reducible rfl
          try simp only [Act.put, List.setIfInBounds_toArray, List.set_cons_zero, List.set_cons_succ]
          refine wpAnyH_take (i := 16) (oi := ⟨some 62, _, _, _, _, _⟩) (v := ?_) rfl (by kernel_rfl) (by kernel_rfl) (by kernel_rfl) (fun _ _ _ h => h) (Or.inl ⟨by rfl, ?_⟩) hHeld ?_
          rotate_left
          · intro w hSw
            go_simp
            first | done | with_reducible rfl
          try simp only [Act.put, List.setIfInBounds_toArray, List.set_cons_zero, List.set_cons_succ]
          refine wpAnyH_take (i := 17) (oi := ⟨some 63, _, _, _, _, _⟩) (v := ?_) rfl (by kernel_rfl) (by kernel_rfl) (by kernel_rfl) (fun _ _ _ h => h) (Or.inl ⟨by rfl, ?_⟩) hHeld ?_
          rotate_left
          · intro w hSw
            go_simp
            first | done | with_reducible rfl
          try simp only [Act.put, List.setIfInBounds_toArray, List.set_cons_zero, List.set_cons_succ]
          refine wpAnyH_take (i := 18) (oi := ⟨some 64, _, _, _, _, _⟩) (v := ?_) rfl (by kernel_rfl) (by kernel_rfl) (by kernel_rfl) (fun _ _ _ h => h) (Or.inl ⟨by rfl, ?_⟩) hHeld ?_
          rotate_left
          · intro w hSw
            obtain h0 := hSw
            go_simp
            first | done | with_reducible rfl
          try simp only [Act.put, List.setIfInBounds_toArray, List.set_cons_zero, List.set_cons_succ]
          refine wpAnyH_ready (rs := [19]) (by kernel_rfl) (by simp) ?_
          refine AllReadyH.cons (o := ⟨some 65, .call _, _, _, _, _⟩) rfl (fun K hK => ?_) AllReadyH.nil
          go_simp
          go_at_call 13
          refine (C.is (x : Int) true wr.drew Rx.out HXN.out).mono ?_
          rintro e w5 ⟨rfl, hb⟩
          go_wp2_with fail
          have HNS5 := Lib.hid (HNS.out.next (hsz.drew.trans (hb.mono (Nat.le_refl _))))
          have HBL5 := Lib.hid (HBL2.out.drew.trans (hb.mono HBL2.out.size))
          replace HS := Lib.hid ((hb.cell (by rw [add_block]; exact HLT.out)).trans HS.out)
          clear hb
          refine hK.out _ _ HS.out (fun hHeld => ?_)
          clear hK K
          try simp only [Act.put, List.setIfInBounds_toArray, List.set_cons_zero, List.set_cons_succ]
          refine wpAnyH_take (i := 20) (oi := ⟨some 66, _, _, _, _, _⟩) (v := ?_) rfl (by kernel_rfl) (by kernel_rfl) (by kernel_rfl) (fun _ _ _ h => h) (Or.inl ⟨by rfl, ?_⟩) hHeld ?_
          rotate_left
          · intro w hSw
            go_simp
            first | done | with_reducible rfl
          try simp only [Act.put, List.setIfInBounds_toArray, List.set_cons_zero, List.set_cons_succ]
          refine wpAnyH_take (i := 21) (oi := ⟨some 67, _, _, _, _, _⟩) (v := ?_) rfl (by kernel_rfl) (by kernel_rfl) (by kernel_rfl) (fun _ _ _ h => h) (Or.inl ⟨by rfl, ?_⟩) hHeld ?_
          rotate_left
          · intro w hSw
            go_simp
            first | done | with_reducible rfl
          try simp only [Act.put, List.setIfInBounds_toArray, List.set_cons_zero, List.set_cons_succ]
          refine wpAnyH_done (by kernel_rfl) ?_ _
          obtain ⟨ad', e5, _, hc5⟩ := HNS5.out.at HX.out
          cases e5
          by_cases hxs : x = S
          · have qx : ((x : Int) == (S : Int)) = true := by rw [beq_iff_eq]; omega
            rw [if_pos hxs] at hcs
            have HCS := Lib.hid hcs
            clear hcs hxs
            go_wp2
            go_roundw
            case rel => exact ⟨k + 1, by omega, by go_num, by rw [HCS.out]; go_num, HNS5.out, HBL5.out⟩
            case measure => simp [intOf]; omega
          · have qx : ((x : Int) == (S : Int)) = false := by rw [beq_eq_false_iff_ne]; omega
            rw [if_neg hxs] at hcs
            have HCS := Lib.hid hcs
            clear hcs hxs
            go_wp2
            go_roundw
            case rel => exact ⟨k + 1, by omega, by go_num, by rw [HCS.out], HNS5.out, HBL5.out⟩
            case measure => simp [intOf]; omega
        · obtain ⟨j, hj⟩ : ∃ j, k = j + 1 := ⟨k - 1, by omega⟩
          obtain ⟨y, hy⟩ : ∃ y, l[j]? = some y := ⟨_, List.getElem?_eq_getElem (by have := (List.getElem?_eq_some_iff.1 hx).1; omega)⟩
          obtain ⟨ad2, e2, _, hd⟩ := HNS.out.at hy
          cases e2
          have hyx : y < x := by
            refine stL_lt (low := low) (high := high) (k := 40) (i := j) ?_ ?_
            · rw [← HLL.out]; exact hy
            · rw [← HLL.out, ← hj]; exact hx
          have q0 : (0 : Int) < (k : Int) := by omega
          have q1 : ¬ ((x : Int) ≤ (y : Int)) := by omega
          have hkj : (k : Int) - 1 = (j : Int) := by omega
          have bj : (0 : Int) ≤ (j : Int) := by omega
          have bj2 : (j : Int) < (n : Int) := by omega
          have hwj : IntKind.i64.wrap (j : Int) = (j : Int) := IntWalk.i64_in _ (by omega)
          have HX := Lib.hid hx
          clear hx hy h0 hj hyx
          go_wp2
          have HS := Lib.hid (show wr.drew.cell? (ad.add k) = some (.int .i64 (x : Int)) ∧ wr.drew.cell? (ad.add j) = some (.int .i64 (y : Int)) from ⟨hc, hd⟩)
          clear hc hd
          refine wp_region_held_drew (S := fun w' => w'.cell? (ad.add k) = some (.int .i64 (x : Int)) ∧ w'.cell? (ad.add j) = some (.int .i64 (y : Int))) (by kernel_rfl) HS.out (fun hHeld => ?_)
          refine wpAnyH_take (i := 0) (oi := ⟨some 46, _, _, _, _, _⟩) (v := ?_) rfl (by kernel_rfl) (by kernel_rfl) (by kernel_rfl) (fun _ _ _ h => h) (Or.inl ⟨by rfl, ?_⟩) hHeld ?_
          rotate_left
          · intro w hSw
            go_simp
            first | done | with_reducible rfl
          try simp only [Act.put, List.setIfInBounds_toArray, List.set_cons_zero, List.set_cons_succ]
          refine wpAnyH_take (i := 1) (oi := ⟨some 47, _, _, _, _, _⟩) (v := .bool true) rfl (by kernel_rfl) (by kernel_rfl) (by kernel_rfl) (fun _ _ _ h => h) (Or.inl ⟨by rfl, ?_⟩) hHeld ?_
          · intro w hSw
            go_simp
            first | done | omega | (simp [q0]; done) | (simp; omega)
          try simp only [Act.put, List.setIfInBounds_toArray, List.set_cons_zero, List.set_cons_succ]
          refine wpAnyH_take (i := 2) (oi := ⟨some 48, _, _, _, _, _⟩) (v := ?_) rfl (by kernel_rfl) (by kernel_rfl) (by kernel_rfl) (fun _ _ _ h => h) (Or.inl ⟨by rfl, ?_⟩) hHeld ?_
          rotate_left
          · intro w hSw
            go_simp
            first | done | with_reducible rfl
          try simp only [Act.put, List.setIfInBounds_toArray, List.set_cons_zero, List.set_cons_succ]
          refine wpAnyH_take (i := 3) (oi := ⟨some 49, _, _, _, _, _⟩) (v := ?_) rfl (by kernel_rfl) (by kernel_rfl) (by kernel_rfl) (fun _ _ _ h => h) (Or.inl ⟨by rfl, ?_⟩) hHeld ?_
          rotate_left
          · intro w hSw
            go_simp
            first | done | with_reducible rfl
          try simp only [Act.put, List.setIfInBounds_toArray, List.set_cons_zero, List.set_cons_succ]
          refine wpAnyH_take (i := 4) (oi := ⟨some 50, _, _, _, _, _⟩) (v := ?_) rfl (by kernel_rfl) (by kernel_rfl) (by kernel_rfl) (fun _ _ _ h => h) (Or.inl ⟨by rfl, ?_⟩) hHeld ?_
          rotate_left
          · intro w hSw
            go_simp
            first | done | with_reducible rfl
          try simp only [Act.put, List.setIfInBounds_toArray, List.set_cons_zero, List.set_cons_succ]
          refine wpAnyH_take (i := 5) (oi := ⟨some 51, _, _, _, _, _⟩) (v := ?_) rfl (by kernel_rfl) (by kernel_rfl) (by kernel_rfl) (fun _ _ _ h => h) (Or.inl ⟨by rfl, ?_⟩) hHeld ?_
          rotate_left
          · intro w hSw
            go_simp
            first | done | with_reducible rfl
          try simp only [Act.put, List.setIfInBounds_toArray, List.set_cons_zero, List.set_cons_succ]
          refine wpAnyH_take (i := 6) (oi := ⟨some 52, _, _, _, _, _⟩) (v := ?_) rfl (by kernel_rfl) (by kernel_rfl) (by kernel_rfl) (fun _ _ _ h => h) (Or.inl ⟨by rfl, ?_⟩) hHeld ?_
          rotate_left
          · intro w hSw
            obtain ⟨h0, h1⟩ := hSw
            go_simp
            first | done | with_reducible rfl
          try simp only [Act.put, List.setIfInBounds_toArray, List.set_cons_zero, List.set_cons_succ]
          refine wpAnyH_take (i := 7) (oi := ⟨some 53, _, _, _, _, _⟩) (v := ?_) rfl (by kernel_rfl) (by kernel_rfl) (by kernel_rfl) (fun _ _ _ h => h) (Or.inl ⟨by rfl, ?_⟩) hHeld ?_
          rotate_left
          · intro w hSw
            go_simp
            first | done | with_reducible rfl
          try simp only [Act.put, List.setIfInBounds_toArray, List.set_cons_zero, List.set_cons_succ]
          refine wpAnyH_take (i := 8) (oi := ⟨some 54, _, _, _, _, _⟩) (v := ?_) rfl (by kernel_rfl) (by kernel_rfl) (by kernel_rfl) (fun _ _ _ h => h) (Or.inl ⟨by rfl, ?_⟩) hHeld ?_
          rotate_left
          · intro w hSw
            go_simp
            first | done | with_reducible rfl
          try simp only [Act.put, List.setIfInBounds_toArray, List.set_cons_zero, List.set_cons_succ]
          refine wpAnyH_take (i := 9) (oi := ⟨some 55, _, _, _, _, _⟩) (v := .int .i64 (j : Int)) rfl (by kernel_rfl) (by kernel_rfl) (by kernel_rfl) (fun _ _ _ h => h) (Or.inl ⟨by rfl, ?_⟩) hHeld ?_
          · intro w hSw
            go_simp
            first | done | omega | (simp [hkj, hwj]; done) | (simp; omega)
          try simp only [Act.put, List.setIfInBounds_toArray, List.set_cons_zero, List.set_cons_succ]
          refine wpAnyH_take (i := 10) (oi := ⟨some 56, _, _, _, _, _⟩) (v := ?_) rfl (by kernel_rfl) (by kernel_rfl) (by kernel_rfl) (fun _ _ _ h => h) (Or.inl ⟨by rfl, ?_⟩) hHeld ?_
          rotate_left
          · intro w hSw
            go_simp
            first | done | with_reducible rfl
          try simp only [Act.put, List.setIfInBounds_toArray, List.set_cons_zero, List.set_cons_succ]
          refine wpAnyH_take (i := 11) (oi := ⟨some 57, _, _, _, _, _⟩) (v := ?_) rfl (by kernel_rfl) (by kernel_rfl) (by kernel_rfl) (fun _ _ _ h => h) (Or.inl ⟨by rfl, ?_⟩) hHeld ?_
          rotate_left
          · intro w hSw
            obtain ⟨h0, h1⟩ := hSw
            go_simp
            first | done | with_reducible rfl
          try simp only [Act.put, List.setIfInBounds_toArray, List.set_cons_zero, List.set_cons_succ]
          refine wpAnyH_take (i := 12) (oi := ⟨some 58, _, _, _, _, _⟩) (v := .bool false) rfl (by kernel_rfl) (by kernel_rfl) (by kernel_rfl) (fun _ _ _ h => h) (Or.inl ⟨by rfl, ?_⟩) hHeld ?_
          · intro w hSw
            go_simp
            first | done | omega | (simp [q1]; done) | (simp; omega)
          try simp only [Act.put, List.setIfInBounds_toArray, List.set_cons_zero, List.set_cons_succ]
          refine wpAnyH_take (i := 13) (oi := ⟨some 59, _, _, _, _, _⟩) (v := ?_) rfl (by kernel_rfl) (by kernel_rfl) (by kernel_rfl) (fun _ _ _ h => h) (Or.inl ⟨by rfl, ?_⟩) hHeld ?_
          rotate_left
          · intro w hSw
            go_simp
            first | done | with_reducible rfl
          try simp only [Act.put, List.setIfInBounds_toArray, List.set_cons_zero, List.set_cons_succ]
          refine wpAnyH_take (i := 14) (oi := ⟨some 60, _, _, _, _, _⟩) (v := ?_) rfl (by kernel_rfl) (by kernel_rfl) (by kernel_rfl) (fun _ _ _ h => h) (Or.inl ⟨by rfl, ?_⟩) hHeld ?_
          rotate_left
          · intro w hSw
            go_simp
            first | done | with_reducible rfl
          try simp only [Act.put, List.setIfInBounds_toArray, List.set_cons_zero, List.set_cons_succ]
          refine wpAnyH_take (i := 15) (oi := ⟨some 61, _, _, _, _, _⟩) (v := ?_) rfl (by kernel_rfl) (by kernel_rfl) (by kernel_rfl) (fun _ _ _ h => h) (Or.inl ⟨by rfl, ?_⟩) hHeld ?_
          rotate_left
          · intro w hSw
            go_simp
            first | done | with_reducible rfl
          try simp only [Act.put, List.setIfInBounds_toArray, List.set_cons_zero, List.set_cons_succ]
          refine wpAnyH_take (i := 16) (oi := ⟨some 62, _, _, _, _, _⟩) (v := ?_) rfl (by kernel_rfl) (by kernel_rfl) (by kernel_rfl) (fun _ _ _ h => h) (Or.inl ⟨by rfl, ?_⟩) hHeld ?_
          rotate_left
          · intro w hSw
            go_simp
            first | done | with_reducible rfl
          try simp only [Act.put, List.setIfInBounds_toArray, List.set_cons_zero, List.set_cons_succ]
          refine wpAnyH_take (i := 17) (oi := ⟨some 63, _, _, _, _, _⟩) (v := ?_) rfl (by kernel_rfl) (by kernel_rfl) (by kernel_rfl) (fun _ _ _ h => h) (Or.inl ⟨by rfl, ?_⟩) hHeld ?_
          rotate_left
          · intro w hSw
            go_simp
            first | done | with_reducible rfl
          try simp only [Act.put, List.setIfInBounds_toArray, List.set_cons_zero, List.set_cons_succ]
          refine wpAnyH_take (i := 18) (oi := ⟨some 64, _, _, _, _, _⟩) (v := ?_) rfl (by kernel_rfl) (by kernel_rfl) (by kernel_rfl) (fun _ _ _ h => h) (Or.inl ⟨by rfl, ?_⟩) hHeld ?_
          rotate_left
          · intro w hSw
            obtain ⟨h0, h1⟩ := hSw
            go_simp
            first | done | with_reducible rfl
          try simp only [Act.put, List.setIfInBounds_toArray, List.set_cons_zero, List.set_cons_succ]
          refine wpAnyH_ready (rs := [19]) (by kernel_rfl) (by simp) ?_
          refine AllReadyH.cons (o := ⟨some 65, .call _, _, _, _, _⟩) rfl (fun K hK => ?_) AllReadyH.nil
          go_simp
          go_at_call 13
          refine (C.is (x : Int) true wr.drew Rx.out HXN.out).mono ?_
          rintro e w5 ⟨rfl, hb⟩
          go_wp2_with fail
          have HNS5 := Lib.hid (HNS.out.next (hsz.drew.trans (hb.mono (Nat.le_refl _))))
          have HBL5 := Lib.hid (HBL2.out.drew.trans (hb.mono HBL2.out.size))
          replace HS := Lib.hid (And.intro ((hb.cell (by rw [add_block]; exact HLT.out)).trans HS.out.1) ((hb.cell (by rw [add_block]; exact HLT.out)).trans HS.out.2))
          clear hb
          refine hK.out _ _ HS.out (fun hHeld => ?_)
          clear hK K
          try simp only [Act.put, List.setIfInBounds_toArray, List.set_cons_zero, List.set_cons_succ]
          refine wpAnyH_take (i := 20) (oi := ⟨some 66, _, _, _, _, _⟩) (v := ?_) rfl (by kernel_rfl) (by kernel_rfl) (by kernel_rfl) (fun _ _ _ h => h) (Or.inl ⟨by rfl, ?_⟩) hHeld ?_
          rotate_left
          · intro w hSw
            go_simp
            first | done | with_reducible rfl
          try simp only [Act.put, List.setIfInBounds_toArray, List.set_cons_zero, List.set_cons_succ]
          refine wpAnyH_take (i := 21) (oi := ⟨some 67, _, _, _, _, _⟩) (v := ?_) rfl (by kernel_rfl) (by kernel_rfl) (by kernel_rfl) (fun _ _ _ h => h) (Or.inl ⟨by rfl, ?_⟩) hHeld ?_
          rotate_left
          · intro w hSw
            go_simp
            first | done | with_reducible rfl
          try simp only [Act.put, List.setIfInBounds_toArray, List.set_cons_zero, List.set_cons_succ]
          refine wpAnyH_done (by kernel_rfl) ?_ _
          obtain ⟨ad', e5, _, hc5⟩ := HNS5.out.at HX.out
          cases e5
          by_cases hxs : x = S
          · have qx : ((x : Int) == (S : Int)) = true := by rw [beq_iff_eq]; omega
            rw [if_pos hxs] at hcs
            have HCS := Lib.hid hcs
            clear hcs hxs
            go_wp2
            go_roundw
            case rel => exact ⟨k + 1, by omega, by go_num, by rw [HCS.out]; go_num, HNS5.out, HBL5.out⟩
            case measure => simp [intOf]; omega
          · have qx : ((x : Int) == (S : Int)) = false := by rw [beq_eq_false_iff_ne]; omega
            rw [if_neg hxs] at hcs
            have HCS := Lib.hid hcs
            clear hcs hxs
            go_wp2
            go_roundw
            case rel => exact ⟨k + 1, by omega, by go_num, by rw [HCS.out], HNS5.out, HBL5.out⟩
            case measure => simp [intOf]; omega
      · have e : k = n := by omega
        subst e
        have HCC := Lib.hid HC.out
        cases p1 : decide (low ≤ z) <;> cases p2 : decide (z ≤ high)
        all_goals
          have hcc := HC.out
          rw [p1, p2] at hcc
          simp only [Bool.and_self, Bool.and_true, Bool.and_false, Bool.false_eq_true, if_true, if_false] at hcc
          have HBL2 := Lib.hid hbel
          have hcc2 : ((cntN l S k : Nat) : Int) = _ := congrArg Nat.cast hcc
          rw [hcc]
          clear hcc hcc2 hbel hns
          go_wp2_with fail
          refine (lined_any C wr).mono ?_
          rintro e w7 ⟨rfl, hb⟩
          have HBL7 := Lib.hid (HBL2.out.trans (hb.mono HBL2.out.size))
          clear hb
          go_wp2
          go_ret
          exact ⟨rfl, HBL7.out⟩
  · obtain ⟨z, hz⟩ : ∃ z, zoneV s = z := ⟨_, rfl⟩
    have HZ := Lib.hid hz
    cases ho : okZ low high with
    | false =>
      have HE := Lib.hid (show stE low high = 1 by rw [stE, ho]; rfl)
      obtain ⟨F, hF⟩ : ∃ F, zoneE s = F := ⟨_, rfl⟩
      have HF := Lib.hid hF
      have e0 : l = [] := by rw [← hl, stV, ho]; rfl
      have e1 : n = 0 := by rw [hn, e0]; rfl
      subst e1
      clear hF hz hl hn hok ho e0
      have HBL := Lib.hid (Below.refl w.heap.size w)
      go_enter Try.func6, Try.ntmps6
      go_wp2_with fail
      refine (C.stations low high 1 l 0 w Rl.out Rh.out HL.out HN.out HE.out).mono ?_
      rintro e w1 ⟨A, c, rfl, _, hb⟩
      replace HBL := Lib.hid (HBL.out.trans (hb.mono HBL.out.size))
      clear hb
      go_wp2_with fail
      refine (C.zone s z F w1 Rs.out HZ.out HF.out).mono ?_
      rintro e w2 ⟨rfl, hb⟩
      replace HBL := Lib.hid (HBL.out.trans (hb.mono HBL.out.size))
      clear hb
      go_wp2_with fail
      refine (lined_any C w2).mono ?_
      rintro e w3 ⟨rfl, hb⟩
      replace HBL := Lib.hid (HBL.out.trans (hb.mono HBL.out.size))
      clear hb
      go_wp2
      go_ret
      exact ⟨rfl, HBL.out⟩
    | true =>
      have hs : isN s = false := by
        cases h : isN s
        · rfl
        · exact absurd ⟨ho, h⟩ hok
      have HE := Lib.hid (show stE low high = 0 by rw [stE, ho]; rfl)
      have HF := Lib.hid (show zoneE s = 1 by rw [zoneE, hs]; rfl)
      clear hz hl hn hok ho hs
      cases q : ((n : Int) == 0)
      · skip
        have HBL := Lib.hid (Below.refl w.heap.size w)
        go_enter Try.func6, Try.ntmps6
        go_wp2_with fail
        refine (C.stations low high 0 l n w Rl.out Rh.out HL.out HN.out HE.out).mono ?_
        rintro e w1 ⟨A, c, rfl, _, hb⟩
        replace HBL := Lib.hid (HBL.out.trans (hb.mono HBL.out.size))
        clear hb
        go_wp2_with fail
        refine (C.zone s z 1 w1 Rs.out HZ.out HF.out).mono ?_
        rintro e w2 ⟨rfl, hb⟩
        replace HBL := Lib.hid (HBL.out.trans (hb.mono HBL.out.size))
        clear hb
        go_wp2_with fail
        refine (lined_any C w2).mono ?_
        rintro e w3 ⟨rfl, hb⟩
        replace HBL := Lib.hid (HBL.out.trans (hb.mono HBL.out.size))
        clear hb
        go_wp2
        go_ret
        exact ⟨rfl, HBL.out⟩
      · skip
        have HBL := Lib.hid (Below.refl w.heap.size w)
        go_enter Try.func6, Try.ntmps6
        go_wp2_with fail
        refine (C.stations low high 0 l n w Rl.out Rh.out HL.out HN.out HE.out).mono ?_
        rintro e w1 ⟨A, c, rfl, _, hb⟩
        replace HBL := Lib.hid (HBL.out.trans (hb.mono HBL.out.size))
        clear hb
        go_wp2_with fail
        refine (C.zone s z 1 w1 Rs.out HZ.out HF.out).mono ?_
        rintro e w2 ⟨rfl, hb⟩
        replace HBL := Lib.hid (HBL.out.trans (hb.mono HBL.out.size))
        clear hb
        go_wp2_with fail
        refine (lined_any C w2).mono ?_
        rintro e w3 ⟨rfl, hb⟩
        replace HBL := Lib.hid (HBL.out.trans (hb.mono HBL.out.size))
        clear hb
        go_wp2
        go_ret
        exact ⟨rfl, HBL.out⟩
end Go.Proofs.Ytnfdglejhmekeaa
