/-
  The reference's Put of track.
-/
import Derived.Test.YtpniolinndlepaaGreatDoorParityP
import Derived.Test.YtpniolinndlepaaGreatDoorTrackA
namespace Go.Proofs.YtpniolinndlepaaGreatDoor
set_option linter.unusedVariables false
open Go.ChangeShapes Go.WideShapes Go.ChangeAt Go.RowKit

set_option maxRecDepth 100000 in
set_option maxHeartbeats 1600000 in
theorem refbits_any (c : Int) (b : B5) (E : Int) (hb : bitsB c = b) (hE : bitsE c = E) (w : World) : Calls Tryz.prog 104 #[.int .i64 c] w fun e w' => e = .returned (.tuple #[.agg #[.bool b.b0, .bool b.b1, .bool b.b2, .bool b.b3, .bool b.b4], .int .i64 E]) ∧ Below w.heap.size w w' := by
  obtain ⟨w1, hw1⟩ : ∃ w1, w1 = w.alloc (.cells #[.bool false, .bool false, .bool false, .bool false, .bool false] 127) := ⟨_, rfl⟩
  obtain ⟨w2, hw2⟩ : ∃ w2, w2 = w1.alloc (.cells #[.bool false, .bool false, .bool false, .bool false, .bool false] 127) := ⟨_, rfl⟩
  have hsz : w1.heap.size = w.heap.size + 1 := by rw [hw1]; exact Array.size_push ..
  have HB : Hid (Below w.heap.size w w2) := Lib.hid (by rw [hw2, hw1]; exact (below_lit w _ _).trans ((below_lit _ _ _).mono (below_lit w _ _).size))
  have HR : Hid (BBox w2 w.heap.size noB) := Lib.hid (by rw [hw2]; exact BBox.next (by rw [hw1]; exact BBox.new w noB) (below_lit w1 _ _))
  have HX : Hid (BBox w2 (w.heap.size + 1) noB) := Lib.hid (by rw [hw2, ← hsz]; exact BBox.new w1 noB)
  have HW : Hid ((w.alloc (.cells #[.bool false, .bool false, .bool false, .bool false, .bool false] 127)).alloc (.cells #[.bool false, .bool false, .bool false, .bool false, .bool false] 127) = w2) := Lib.hid (by rw [hw2, hw1])
  clear hw1 hw2 hsz w1
  cases h : isC c with
  | false =>
    have e1 : b = noB := by rw [← hb, bitsB, h]; rfl
    have e2 : E = 1 := by rw [← hE, bitsE, h]; rfl
    subst e1 e2
    clear hb hE
    cases q1 : decide (c < 0)
    case true =>
      clear h
      go_enter Tryz.func104, Tryz.ntmps104
      go_wp2
      rw [HW.out]
      refine bodyPost_ret (results_row_tmp' Tryz.results104 _ w2 w.heap.size 127 #[.bool false, .bool false, .bool false, .bool false, .bool false] (0, 0) _ rfl HR.out Tryz.underlying127 rfl infoB5) rfl ⟨rfl, HB.out⟩
    case false =>
      have q2 : decide (31 < c) = true := by
        rw [decide_eq_false_iff_not] at q1
        refine decide_eq_true ?_
        rcases Int.lt_or_le 31 c with h1 | h1
        · exact h1
        · rw [(isC_iff c).2 ⟨by omega, h1⟩] at h; cases h
      clear h
      go_enter Tryz.func104, Tryz.ntmps104
      go_wp2
      rw [HW.out]
      refine bodyPost_ret (results_row_tmp' Tryz.results104 _ w2 w.heap.size 127 #[.bool false, .bool false, .bool false, .bool false, .bool false] (0, 0) _ rfl HR.out Tryz.underlying127 rfl infoB5) rfl ⟨rfl, HB.out⟩
  | true =>
    have hs := (isC_iff c).1 h
    have q1 : decide (c < 0) = false := decide_eq_false (by omega)
    have q2 : decide (31 < c) = false := decide_eq_false (by omega)
    have e2 : E = 0 := by rw [← hE, bitsE, if_pos h]
    have hbb := (upB_all h).trans hb
    obtain ⟨n, hn⟩ : ∃ n : Nat, c = (n : Int) := ⟨c.toNat, by omega⟩
    subst hn e2
    have ht : (n : Int).toNat = n := by omega
    rw [ht] at hbb
    have HBB := Lib.hid hbb
    have HN := Lib.hid (show n < 32 by omega)
    clear hb hE h hs hbb ht
    go_enter Tryz.func104, Tryz.ntmps104
    go_wp2
    rw [HW.out]
    go_loopw [0, 5] (fun a i wr => ∃ k : Nat, k ≤ 5 ∧ i = .int .i64 k ∧ a = .int .i64 (n / 2 ^ k : Nat) ∧ BBox wr (w.heap.size + 1) (upB n k) ∧ BBox wr w.heap.size noB ∧ Below w.heap.size w wr) (fun _ i _ => 5 - (intOf i).toNat)
    case atStart => exact ⟨0, by omega, rfl, by simp, HX.out, HR.out, HB.out⟩
    case round =>
      obtain ⟨k, hk, rfl, rfl, hx, hr, hbel⟩ := hrel
      replace HX := Lib.hid hx
      replace HR := Lib.hid hr
      replace HB := Lib.hid hbel
      clear hx hr hbel
      by_cases hlt : k < 5
      · obtain ⟨m, hm⟩ : ∃ m, n / 2 ^ k = m := ⟨_, rfl⟩
        have hle : m ≤ n := by rw [← hm]; exact Nat.div_le_self _ _
        have hnx : n / 2 ^ (k + 1) = m / 2 := by rw [Nat.pow_succ, ← Nat.div_div_eq_div_mul, hm]
        have hbit : ((m : Int) % 2 == 1) = bitB n k := by
          rw [bitB, hm]
          cases hq : (m % 2 == 1)
          · rw [beq_eq_false_iff_ne] at hq ⊢; omega
          · rw [beq_iff_eq] at hq ⊢; omega
        have wq : wrap64 ((m : Int) / 2) = (m : Int) / 2 := by have := HN.out; unfold wrap64; omega
        have HQ := Lib.hid (show ((m : Int) / 2) = ((m / 2 : Nat) : Int) by omega)
        have b1 : (k : Int) < 5 := by omega
        have b0 : (0 : Int) ≤ (k : Int) := by omega
        have HNX := Lib.hid hnx
        have HBIT := Lib.hid hbit
        rw [hm]
        clear hm hle hnx hbit
        have fz := HX.out.frozen k
        have hsm := HX.out.get k hlt
        go_wp2
        case roundEnd => exact ⟨⟨k + 1, by omega, by go_num, by rw [wq, HQ.out, HNX.out], by rw [HBIT.out, ← upB_step n k hlt]; exact HX.out.set _ k hlt, HR.out.setAt _ (by omega), HB.out.setCell (p := ⟨w.heap.size + 1, k, none⟩) (by simp) _⟩, by simp [intOf]; omega⟩
      · have e : k = 5 := by omega
        subst e
        have hb1 : ¬ (((5 : Nat) : Int) < 5) := by omega
        rw [HBB.out] at HX
        obtain ⟨c0, c1, c2, c3, c4⟩ := HX.out.cells
        clear hlt hk
        go_wp2_with ((with_reducible refine at_store 2 ?_); refine wpList_store_named (o := ⟨none, .store 127 (.tmp 2) (.tmp 25), _, _, _, _⟩) rfl 127 (.tmp 2) (.tmp 25) rfl w.heap.size #[.bool b.b0, .bool b.b1, .bool b.b2, .bool b.b3, .bool b.b4] rfl rfl 127 #[.bool false, .bool false, .bool false, .bool false, .bool false] HR.out infoB5 rfl (b5_one _ _ _ _ _) ?_; intro w5 hw5)
        have hr5 := setRow_heap wr w.heap.size #[.bool false, .bool false, .bool false, .bool false, .bool false] #[.bool b.b0, .bool b.b1, .bool b.b2, .bool b.b3, .bool b.b4] 127 (0, 0) HR.out
        rw [← hw5.out] at hr5
        have hb5 := below_row hw5.out (Nat.le_refl w.heap.size)
        refine bodyPost_ret (results_row_tmp' Tryz.results104 _ w5 w.heap.size 127 #[.bool b.b0, .bool b.b1, .bool b.b2, .bool b.b3, .bool b.b4] (0, 0) _ rfl hr5 Tryz.underlying127 rfl infoB5) rfl ⟨rfl, HB.out.trans hb5⟩
set_option linter.unusedVariables false
open Go.ChangeShapes Go.WideShapes Go.ChangeAt Go.RowKit

set_option maxRecDepth 100000 in
set_option maxHeartbeats 1600000 in
theorem refchar_any (v x E : Int) (hv : charV v = x) (hE : charE v = E) (w : World) : Calls Tryz.prog 103 #[.int .i64 v] w fun e w' => e = .returned (.tuple #[.int .i64 x, .int .i64 E]) ∧ w' = w := by
  cases h : isV v with
  | false =>
    have e1 : x = 0 := by rw [← hv, charV, h]; rfl
    have e2 : E = 1 := by rw [← hE, charE, h]; rfl
    subst e1 e2
    clear hv hE
    cases q1 : decide (v < 0)
    case true =>
      clear h
      go_enter Tryz.func103, Tryz.ntmps103
      go_wp2
      go_ret2
      exact ⟨rfl, rfl⟩
    case false =>
      have q2 : decide (15 < v) = true := by
        rw [decide_eq_false_iff_not] at q1
        refine decide_eq_true ?_
        rcases Int.lt_or_le 15 v with h1 | h1
        · exact h1
        · rw [(isV_iff v).2 ⟨by omega, h1⟩] at h; cases h
      clear h
      go_enter Tryz.func103, Tryz.ntmps103
      go_wp2
      go_ret2
      exact ⟨rfl, rfl⟩
  | true =>
    have hs := (isV_iff v).1 h
    have q1 : decide (v < 0) = false := decide_eq_false (by omega)
    have q2 : decide (15 < v) = false := decide_eq_false (by omega)
    obtain ⟨n, hn⟩ : ∃ n : Nat, v = (n : Int) := ⟨v.toNat, by omega⟩
    subst hn
    have ht : (n : Int).toNat = n := by omega
    have HN := Lib.hid (show n < 32 by omega)
    obtain ⟨k, hk⟩ : ∃ k, ones5 n = k := ⟨_, rfl⟩
    have HK := Lib.hid hk
    have e2 : E = 0 := by rw [← hE, charE, if_pos h]
    subst e2
    have hx : (if k % 2 = 0 then (n : Int) + 16 else (n : Int)) = x := by rw [← hv, charV, if_pos h, ht, hk]
    have w1 : IntKind.i64.wrap ((n : Int) + 16) = (n : Int) + 16 := IntWalk.i64_in _ (by omega)
    by_cases hk2 : k % 2 = 0
    · have q3 : ((k : Int) % 2 == 0) = true := by rw [beq_iff_eq]; omega
      rw [if_pos hk2] at hx
      have HX := Lib.hid hx
      clear hv hE h hs hk hk2 hx
      go_enter Tryz.func103, Tryz.ntmps103
      go_wp2_with (go_at_call 139; refine (refones_any n k HN.out HK.out _).mono ?_; rintro e w1 ⟨rfl, rfl⟩)
      go_ret2
      exact ⟨by rw [← HX.out]; rfl, rfl⟩
    · have q3 : ((k : Int) % 2 == 0) = false := by rw [beq_eq_false_iff_ne]; omega
      rw [if_neg hk2] at hx
      have HX := Lib.hid hx
      clear hv hE h hs hk hk2 hx
      go_enter Tryz.func103, Tryz.ntmps103
      go_wp2_with (go_at_call 139; refine (refones_any n k HN.out HK.out _).mono ?_; rintro e w1 ⟨rfl, rfl⟩)
      go_ret2
      exact ⟨by rw [← HX.out]; rfl, rfl⟩
set_option linter.unusedVariables false
open Go.ChangeShapes Go.WideShapes Go.ChangeAt Go.RowKit

set_option maxRecDepth 100000 in
set_option maxHeartbeats 1600000 in
theorem refchars_any (vs : List Nat) (hv : ∀ v ∈ vs, v < 16) (n : Nat) (hn : n = vs.length) (hn2 : n ≤ 2000) (A : Option Addr) (c : Nat) (w : World) (hA : Zs w w.heap.size (NZ vs) A c) : Calls Tryz.prog 75 #[.slice A n c] w fun e w' => ∃ A' c', e = .returned (.slice A' ((5 * n : Nat)) c') ∧ Vs w' w'.heap.size (charsL vs) A' c' ∧ Below w.heap.size w w' := by
  obtain ⟨i0, hi, hz0, hz1, hz2⟩ := info_parts infoBoolT
  have HN := Lib.hid hn
  have HA := Lib.hid hA
  have HV := Lib.hid hv
  have hn3 : n ≤ 9223372036854775807 := by omega
  clear hn hA hv
  go_enter Tryz.func75, Tryz.ntmps75
  go_wp2
  go_loopw [3, 4] (fun v i wr => ∃ k : Nat, k ≤ n ∧ i = .int .i64 k ∧ wr.ownsRow w.heap.size 4 1 v (5 * k) (BL (charsL (vs.take k))) ∧ Below w.heap.size w wr) (fun _ i _ => n - (intOf i).toNat)
  case atStart => exact ⟨0, by omega, rfl, World.ownsRow_lit w #[] 0 (Nat.le_refl _) (by decide) rfl, below_lit w _ _⟩
  case round =>
    obtain ⟨k, hk, rfl, hown, hbel⟩ := hrel
    by_cases hlt : k < n
    · obtain ⟨x, hx⟩ : ∃ x, vs[k]? = some x := ⟨_, List.getElem?_eq_getElem (by rw [← HN.out]; exact hlt)⟩
      have hx16 : x < 16 := HV.out x (List.mem_of_getElem? hx)
      obtain ⟨ad, rfl, hadl, hc0⟩ := HA.out.at (NZ_at hx)
      have hc : wr.cell? (ad.add k) = some (.int .i64 (x : Int)) := (hbel.cell (by rw [add_block]; exact hadl)).trans hc0
      have HX := Lib.hid hx
      have HOW := Lib.hid hown
      have HBL := Lib.hid hbel
      have cf := char_facts x hx16
      obtain ⟨ch, hch⟩ : ∃ ch, charN x = ch := ⟨_, rfl⟩
      rw [hch] at cf
      obtain ⟨b, hb⟩ : ∃ b, bitsB (ch : Int) = b := ⟨_, rfl⟩
      rw [hb] at cf
      have HCF := Lib.hid cf
      have HB := Lib.hid hb
      have b0 : (0 : Int) ≤ (k : Int) := by omega
      have b1 : (k : Int) < (n : Int) := by omega
      clear hown hbel hx hadl hc0 cf hb hch
      go_wp2_with (go_at_call 103; refine (refchar_any _ _ _ HCF.out.1 HCF.out.2.1 _).mono ?_; rintro e w2 ⟨rfl, rfl⟩)
      go_wp2_with (go_at_call 104; refine (refbits_any _ b 0 HB.out HCF.out.2.2.1 _).mono ?_; rintro e w3 ⟨rfl, hb3⟩)
      have HO3 := Lib.hid (own_below HOW.out hb3)
      have HB3 := Lib.hid (HBL.out.trans (hb3.mono HBL.out.size))
      obtain ⟨w4, hw⟩ : ∃ w4, w4 = w3.alloc (.cells #[.bool b.b0, .bool b.b1, .bool b.b2, .bool b.b3, .bool b.b4] 127) := ⟨_, rfl⟩
      have HX4 := Lib.hid (show BBox w4 w3.heap.size b by rw [hw]; exact BBox.new w3 b)
      have hb4 : Below w3.heap.size w3 w4 := by rw [hw]; exact below_lit w3 _ _
      replace HOW := Lib.hid (own_below HO3.out hb4)
      replace HBL := Lib.hid (HB3.out.trans (hb4.mono HB3.out.size))
      have hsx : w3.heap.size = w3.heap.size := rfl
      clear hb3 hb4 HO3 HB3 hc
      try rw [← hw]
      clear hw
      obtain ⟨X, hXe⟩ : ∃ X, w3.heap.size = X := ⟨_, rfl⟩
      rw [hXe] at HX4 ⊢
      clear hXe hsx
      go_loopw [3, 9] (fun v j wr => ∃ q : Nat, q ≤ 5 ∧ j = .int .i64 q ∧ wr.ownsRow w.heap.size 4 1 v (5 * k + q) (BL (charsL (vs.take k) ++ (B5L b).take q)) ∧ BBox wr X b ∧ Below w.heap.size w wr) (fun _ j _ => 5 - (intOf j).toNat)
      case atStart => exact ⟨0, by omega, rfl, by simpa using HOW.out, HX4.out, HBL.out⟩
      case round =>
        obtain ⟨q, hq, rfl, hown, hbx, hbel⟩ := hrel
        replace HOW := Lib.hid hown
        replace HX4 := Lib.hid hbx
        replace HBL := Lib.hid hbel
        clear hown hbx hbel
        by_cases hq5 : q < 5
        · have hc := HX4.out.get q hq5
          have HT := Lib.hid (B5L_take b q hq5)
          obtain ⟨t, ht⟩ : ∃ t, getB b q = t := ⟨_, rfl⟩
          rw [ht] at hc HT
          have hsz := HBL.out.size
          have hxs := HX4.out.lt
          have hm1 : 5 * k + q + 1 ≤ maxLen := by unfold maxLen; omega
          have hm2 : (5 * k + q + 1) * 1 ≤ 140737488355328 := by omega
          have c0 : (0 : Int) ≤ (q : Int) := by omega
          have c1 : (q : Int) < 5 := by omega
          clear ht
          go_wp2_with (at_builtin; refine wpList_append_own _ rfl (.tmp 34) (.tmp 38) 67 rfl w.heap.size 4 i0 (.bool false) 1 1 Tryz.underlying67 hi hz0 hz1 hz2 rfl (by decide) _ (5 * k + q) (BL (charsL (vs.take k) ++ (B5L b).take q)) rfl (HOW.out.alloc _) ⟨_, 0, none⟩ 1 1 [.bool t] rfl rfl (bool_lit _ _) (bool_one _) hm1 hm2 (by simp; omega) ?_)
          intro v8 w8 hown8 hg8 _
          have HO8 := Lib.hid (show w8.ownsRow w.heap.size 4 1 v8 (5 * k + (q + 1)) (BL (charsL (vs.take k) ++ (B5L b).take (q + 1))) by
            rw [HT.out, ← List.append_assoc, BL_append, ← Nat.add_assoc]
            exact hown8)
          have HB8 := Lib.hid ((HBL.out.alloc HBL.out.size _).grown hg8 (by simp; omega) (fun p hp => own_ge HOW.out hp))
          have HX8 := Lib.hid (BBox.grown (HX4.out.next (below_lit _ _ _)) (HOW.out.alloc _) hg8)
          clear hown8 hg8 hc HX4 HOW HBL
          go_wp2
          go_roundw
          case rel => exact ⟨q + 1, by omega, by go_num, HO8.out, HX8.out, HB8.out⟩
          case measure => simp [intOf]; omega
        · have e : q = 5 := by omega
          have hb2 : ¬ ((q : Int) < 5) := by omega
          have HOK := Lib.hid (show wr.ownsRow w.heap.size 4 1 u3 (5 * (k + 1)) (BL (charsL (vs.take (k + 1)))) by
            rw [charsL_take HX.out, ← HCF.out.2.2.2, ← show (B5L b).take q = B5L b by rw [e]; rfl, show 5 * (k + 1) = 5 * k + q by omega]
            exact HOW.out)
          clear HOW
          go_wp2
          go_roundw
          case rel => exact ⟨k + 1, by omega, by go_num, HOK.out, HBL.out⟩
          case measure => simp [intOf]; omega
    · have e : k = n := by omega
      have hb : ¬ ((k : Int) < (n : Int)) := by omega
      have ht : charsL (vs.take k) = charsL vs := by rw [e, HN.out, List.take_length]
      rw [ht, e] at hown
      clear ht hlt
      obtain ⟨A', c', hv, _, hbs⟩ := vs_of_own hown
      subst hv
      go_wp2
      go_ret
      exact ⟨_, _, rfl, hbs, hbel⟩
set_option linter.unusedVariables false
open Go.ChangeShapes Go.WideShapes Go.ChangeAt Go.RowKit

set_option maxRecDepth 100000 in
set_option maxHeartbeats 1600000 in
theorem refput11_any (d : List Nat) (n : Nat) (hn : n = d.length) (hn2 : n ≤ 1000) (E : Int) (hE : putE d = E) (p : List Nat) (hP : putL d = p) (A : Option Addr) (c : Nat) (w : World) (hA : Bs w w.heap.size d A c) : Calls Tryz.prog 30 #[.slice A n c] w fun e w' => ∃ A' c', e = .returned (.tuple #[.slice A' (p.length : Nat) c', .int .i64 E]) ∧ Bs w' w'.heap.size p A' c' ∧ Below w.heap.size w w' := by
  obtain ⟨i0, hi, hz0, hz1, hz2⟩ := info_parts infoInt
  have HN := Lib.hid hn
  have HA := Lib.hid hA
  have HE := Lib.hid hE
  have HP := Lib.hid hP
  have hn3 : n ≤ 9223372036854775807 := by omega
  by_cases h77 : 77 < n
  · have e21 : E = 21 := by rw [← hE, putE, if_pos (by rw [← hn]; exact h77)]
    have hp : p = [] := by rw [← hP, putL, if_neg (by rw [hE, e21]; decide)]
    subst e21 hp
    have b0 : (77 : Int) < (n : Int) := by omega
    clear hn hA hE hP
    go_enter Tryz.func30, Tryz.ntmps30
    go_wp2
    go_ret2
    exact ⟨none, 0, rfl, ⟨by intro k u hu; simp [U8] at hu, fun _ => rfl, by simp, by omega, by simp⟩, Below.refl _ _⟩
  have b77 : ¬ ((77 : Int) < (n : Int)) := by omega
  clear hn hA hE hP
  go_enter Tryz.func30, Tryz.ntmps30
  go_wp2
  go_loopw [4, 5] (fun v i wr => ∃ k : Nat, k ≤ n ∧ i = .int .i64 k ∧ wr.ownsRow w.heap.size 3 1 v (k + 1) (I64 (NZ (11 :: d.take k))) ∧ digitsOk (d.take k) = true ∧ Below w.heap.size w wr) (fun _ i _ => n - (intOf i).toNat)
  case atStart => exact ⟨0, by omega, rfl, World.ownsRow_lit w #[.int .i64 11] 1 (Nat.le_refl _) (by decide) rfl, rfl, below_lit w _ _⟩
  case round =>
    obtain ⟨k, hk, rfl, hown, hdg, hbel⟩ := hrel
    have HOW := Lib.hid hown
    have HBL := Lib.hid hbel
    have HDG := Lib.hid hdg
    clear hown hbel hdg
    by_cases hlt : k < n
    · have hkl : k < d.length := by rw [← HN.out]; exact hlt
      obtain ⟨x, hx⟩ : ∃ x, d[k]? = some x := ⟨_, List.getElem?_eq_getElem hkl⟩
      have hx256 : x < 256 := HA.out.lt x (List.mem_of_getElem? hx)
      have hU : (U8 d)[k]? = some (.int .u8 (x : Int)) := by simp [U8, hx]
      obtain ⟨ad, rfl, hadl, hc0⟩ := HA.out.rd k _ hU
      have hc : wr.cell? (ad.add k) = some (.int .u8 (x : Int)) := (HBL.out.cell (by rw [add_block]; exact hadl)).trans hc0
      have HX := Lib.hid hx
      have b0 : (0 : Int) ≤ (k : Int) := by omega
      have b1 : (k : Int) < (n : Int) := by omega
      clear hx hkl hU hadl hc0
      by_cases hx9 : x ≤ 9
      · have b2 : ¬ ((9 : Int) < (x : Int)) := by omega
        have wx : IntKind.i64.wrap (x : Int) = (x : Int) := IntWalk.i64_in _ (by omega)
        have HST := Lib.hid (nz_step HX.out)
        have HD2 := Lib.hid (show digitsOk (d.take (k + 1)) = true by rw [digits_take HX.out, HDG.out, decide_eq_true hx9]; rfl)
        have hm1 : k + 1 + 1 ≤ maxLen := by unfold maxLen; omega
        have hm2 : (k + 1 + 1) * 8 ≤ 140737488355328 := by omega
        have hsz := HBL.out.size
        go_wp2_with (at_builtin; refine wpList_append_own _ rfl (.tmp 23) (.tmp 29) 82 rfl w.heap.size 3 i0 (.int .i64 0) 1 8 Tryz.underlying82 hi hz0 hz1 hz2 rfl (by decide) _ (k + 1) (I64 (NZ (11 :: d.take k))) rfl (HOW.out.alloc _) ⟨_, 0, none⟩ 1 1 (I64 [(x : Int)]) rfl rfl (int_lit _ _) (I64_one _) hm1 hm2 (by simp; omega) ?_)
        intro v8 w8 hown8 hg8 _
        have HO8 := Lib.hid (show w8.ownsRow w.heap.size 3 1 v8 (k + 1 + 1) (I64 (NZ (11 :: d.take (k + 1)))) by
          rw [HST.out, I64_append]
          exact hown8)
        have HB8 := Lib.hid ((HBL.out.alloc HBL.out.size _).grown hg8 (by simp; omega) (fun p hp => own_ge HOW.out hp))
        clear hown8 hg8 HOW HBL hc
        go_wp2
        go_roundw
        case rel => exact ⟨k + 1, by omega, by go_num, HO8.out, HD2.out, HB8.out⟩
        case measure => simp [intOf]; omega
      · have b2 : (9 : Int) < (x : Int) := by omega
        have hbad := digits_bad HX.out hx9
        have e7 : E = 7 := by rw [← HE.out, putE, if_neg (by rw [← HN.out]; exact h77), if_neg (by rw [hbad]; decide)]
        have hp : p = [] := by rw [← HP.out, putL, if_neg (by rw [HE.out, e7]; decide)]
        subst e7 hp
        clear hbad hlt
        go_wp2
        go_ret2
        exact ⟨none, 0, rfl, ⟨by intro k u hu; simp [U8] at hu, fun _ => rfl, by simp, by omega, by simp⟩, HBL.out⟩
    · have e : k = n := by omega
      have hb : ¬ ((k : Int) < (n : Int)) := by omega
      have ht : d.take k = d := by rw [e, HN.out, List.take_length]
      rw [ht] at HOW HDG
      have e0 : E = 0 := by rw [← HE.out, putE, if_neg (by rw [← HN.out]; exact h77), if_pos HDG.out]
      have hE0 : putE d = 0 := HE.out.trans e0
      have hp : p = packL (charsL (trackV d)) := by rw [← HP.out, putL, if_pos hE0]
      have hpl : (packL (charsL (trackV d))).length = (5 * (n + 3) + 7) / 8 := by rw [packL_len, charsL_len, trackV_len, ← HN.out]
      subst e0 e hp
      have HPL := Lib.hid hpl
      have HP1 := Lib.hid (nz_pv d)
      have HP2 := Lib.hid (nz_tv d)
      obtain ⟨x, hx⟩ : ∃ x, xorL (putVals d) = x := ⟨_, rfl⟩
      have HX := Lib.hid hx
      rw [hx] at HP2
      have hm1 : k + 1 + 1 ≤ maxLen := by unfold maxLen; omega
      have hm2 : (k + 1 + 1) * 8 ≤ 140737488355328 := by omega
      have hm3 : k + 2 + 1 ≤ maxLen := by unfold maxLen; omega
      have hm4 : (k + 2 + 1) * 8 ≤ 140737488355328 := by omega
      have hsz := HBL.out.size
      clear ht hlt hx hpl hE0 HP
      go_wp2_with (at_builtin; refine wpList_append_own _ rfl (.tmp 31) (.tmp 32) 82 rfl w.heap.size 3 i0 (.int .i64 0) 1 8 Tryz.underlying82 hi hz0 hz1 hz2 rfl (by decide) _ (k + 1) (I64 (NZ (11 :: d))) rfl (HOW.out.alloc _) ⟨_, 0, none⟩ 1 1 (I64 [15]) rfl rfl (int_lit _ _) (I64_one _) hm1 hm2 (by simp; omega) ?_)
      intro v8 w8 hown8 hg8 _
      have HO8 := Lib.hid (show w8.ownsRow w.heap.size 3 1 v8 (k + 2) (I64 (NZ (putVals d))) by
        rw [HP1.out, I64_append]
        exact hown8)
      have HB8 := Lib.hid ((HBL.out.alloc HBL.out.size _).grown hg8 (by simp; omega) (fun p hp => own_ge HOW.out hp))
      clear hown8 hg8 HOW HBL
      obtain ⟨A8, c8, hv8, hl8, hz8⟩ := zs_of_own HO8.out
      subst hv8
      have HZ8 := Lib.hid hz8
      have HL8 := Lib.hid (show k + 2 = (putVals d).length by rw [hl8, NZ_len])
      clear hz8 hl8
      have hsz8 := HB8.out.size
      have hsz8' := HZ8.out.len
      go_wp2_with (first | (go_at_call 73; refine (refsum_any _ _ (show k + 2 = (NZ (putVals d)).length by rw [NZ_len]; exact HL8.out) _ _ (x : Int) 0 (by rw [(sum_nz (pv_lt HDG.out)).1, HX.out]) (sum_nz (pv_lt HDG.out)).2 _ HZ8.out).mono ?_; rintro e w10 ⟨rfl, rfl⟩) | (at_builtin; refine wpList_append_own _ rfl (.tmp 39) (.tmp 41) 82 rfl w.heap.size 3 i0 (.int .i64 0) 1 8 Tryz.underlying82 hi hz0 hz1 hz2 rfl (by decide) _ (k + 2) (I64 (NZ (putVals d))) rfl (HO8.out.alloc _) ⟨_, 0, none⟩ 1 1 (I64 [(x : Int)]) rfl rfl (int_lit _ _) (I64_one _) hm3 hm4 (by simp; omega) ?_))
      intro v9 w9 hown9 hg9 _
      have HO9 := Lib.hid (show w9.ownsRow w.heap.size 3 1 v9 (k + 3) (I64 (NZ (trackV d))) by
        rw [HP2.out, I64_append]
        exact hown9)
      have HB9 := Lib.hid ((HB8.out.alloc HB8.out.size _).grown hg9 (by simp; omega) (fun p hp => own_ge HO8.out hp))
      clear hown9 hg9 HO8 HB8 HZ8
      obtain ⟨A9, c9, hv9, hl9, hz9⟩ := zs_of_own HO9.out
      subst hv9
      have HZ9 := Lib.hid hz9
      have HL9 := Lib.hid (show k + 3 = (trackV d).length by rw [hl9, NZ_len])
      have HC9 := Lib.hid (show 5 * (k + 3) = (charsL (trackV d)).length by rw [charsL_len, ← HL9.out])
      clear hz9 hl9
      have hb5 : 5 * (k + 3) ≤ 5000 := by omega
      have hk3 : k + 3 ≤ 2000 := by omega
      go_wp2_with (first | (go_at_call 75; refine (refchars_any (trackV d) (tv_lt HDG.out) (k + 3) HL9.out hk3 A9 c9 _ HZ9.out).mono ?_; rintro e w11 ⟨A11, c11, rfl, hvs, hb11⟩; replace HB9 := Lib.hid (HB9.out.trans (hb11.mono HB9.out.size)); clear hb11) | (go_at_call 74; refine (refpack_any (charsL (trackV d)) (5 * (k + 3)) HC9.out (by omega) A11 c11 _ hvs).mono ?_; rintro e w12 ⟨A12, c12, rfl, hbs, hb12⟩))
      go_ret2
      exact ⟨_, _, by rw [HPL.out]; rfl, hbs, HB9.out.trans (hb12.mono HB9.out.size)⟩
end Go.Proofs.YtpniolinndlepaaGreatDoor
