/-
  Proved: for any secret and bytes the law MacInner answers true, and leaves what came in as it was; the package's two tables are tied to the program's text. Conditions: none beyond the statement's own.
-/
import Derived.Test.YtdpijlkhcagfaaaDoorMacTagsLaw
import Derived.Deep.RegionHeld3
namespace Go.Proofs.YtdpijlkhcagfaaaDoor
set_option linter.unusedVariables false
open Go.ChangeShapes Go.WideShapes Go.ChangeAt Go.RowKit

theorem rd_at {w : World} {B : Nat} {ad : Addr} {xs : List Value} (h : Rd w B (some ad) xs) : ∀ j u, xs[j]? = some u → w.cell? (ad.add j) = some u := by
  intro j u hu
  obtain ⟨ad', he, _, hc⟩ := h j u hu
  cases he
  exact hc

set_option maxRecDepth 100000 in
set_option maxHeartbeats 1600000 in
theorem inner_any (s b : List Nat) (n m : Nat) (hn : n = s.length) (hm : m = b.length) (A A' : Option Addr) (c c' : Nat) (w : World) (hT : Tabs w) (hA : Rd w w.heap.size A (U8 s)) (hA' : Rd w w.heap.size A' (U8 b)) (hnil : A = none → c = 0) (hnil' : A' = none → c' = 0)
    (hs : ∀ x ∈ s, x < 256) (hb : ∀ x ∈ b, x < 256) (h5 : n ≤ 1000) (h4 : m ≤ 2000) :
    Calls Tryd.prog 7 #[.slice A n c, .slice A' m c'] w fun e w' => e = .returned (.bool true) ∧ Below w.heap.size w w' := by
  obtain ⟨F, hF⟩ : ∃ F : Array Value, F = (U8 (tagN s b)).toArray := ⟨_, rfl⟩
  have heq := eq_arr32 hF (length_dig _)
  have HT := Lib.hid hT
  have HFT := Lib.hid hF
  obtain ⟨i0, hi, hz0, hz1, hz2⟩ := info_parts infoU8
  obtain ⟨K, hK⟩ : ∃ K, K = blockM s := ⟨_, rfl⟩
  obtain ⟨X, hX⟩ : ∃ X : Array Value, X = (U8 (blockM s)).toArray := ⟨_, rfl⟩
  obtain ⟨I, hI⟩ : ∃ I, I = maskN K 54 := ⟨_, rfl⟩
  obtain ⟨O, hO⟩ : ∃ O, O = maskN K 92 := ⟨_, rfl⟩
  obtain ⟨D, hD⟩ : ∃ D, D = digestN (I ++ b) := ⟨_, rfl⟩
  obtain ⟨FD, hFD⟩ : ∃ FD : Array Value, FD = (U8 (digestN (I ++ b))).toArray := ⟨_, rfl⟩
  have hKl : K.length = 64 := by rw [hK, length_blockM]
  have hKb : ∀ x ∈ K, x < 256 := by rw [hK]; exact blockM_lt s hs
  have hDl : D.length = 32 := by rw [hD, length_dig]
  have hDb : ∀ x ∈ D, x < 256 := by rw [hD]; exact dig_lt _
  have hIl : I.length = 64 := by rw [hI, length_maskN, hKl]
  have hOl : O.length = 64 := by rw [hO, length_maskN, hKl]
  have hIb : ∀ x ∈ I, x < 256 := by rw [hI]; exact maskN_lt K 54 hKb (by omega)
  have hOb : ∀ x ∈ O, x < 256 := by rw [hO]; exact maskN_lt K 92 hKb (by omega)
  have hF' : F = (U8 (digestN (O ++ D))).toArray := by rw [hF, hD, hO, hI, hK]; rfl
  have hXK : X = (U8 K).toArray := by rw [hX, hK]
  have hFD' : FD = (U8 D).toArray := by rw [hFD, hD]
  have HN := Lib.hid hn
  have HM := Lib.hid hm
  have HA := Lib.hid hA
  have HA' := Lib.hid hA'
  have HNIL := Lib.hid hnil
  have HNIL' := Lib.hid hnil'
  have HS := Lib.hid hs
  have HB := Lib.hid hb
  have HX := Lib.hid hX
  have HXK := Lib.hid hXK
  have HFD := Lib.hid hFD
  have HFD' := Lib.hid hFD'
  have HF := Lib.hid hF'
  have HKL := Lib.hid hKl
  have HKB := Lib.hid hKb
  have HDL := Lib.hid hDl
  have HDB := Lib.hid hDb
  have HIL := Lib.hid hIl
  have HOL := Lib.hid hOl
  have HIB := Lib.hid hIb
  have HOB := Lib.hid hOb
  have HI := Lib.hid hI
  have HO := Lib.hid hO
  have HIX := Lib.hid (isArr64 hXK hKl)
  have HID := Lib.hid (isArr32 hFD' hDl)
  have HIF := Lib.hid (isArr32 hF (length_dig _))
  clear hT hn hm hA hA' hnil hnil' hs hb hX hXK hFD hFD' hF hF' hK hD hKl hKb hDl hDb hI hO hIl hOl hIb hOb
  go_enter Tryd.func7, Tryd.ntmps7
  go_wp2_with fail
  refine (macblock_any s n HN.out A c w HT.out HA.out HS.out HNIL.out (by omega) X HX.out).mono ?_
  rintro e w1 ⟨rfl, hb1⟩
  have HBW := Lib.hid hb1
  have hs1 := hb1.size
  clear hb1
  go_wp2_with ((with_reducible refine at_store 5 ?_); refine wpList_store_named (o := ⟨none, .store 41 (.tmp 5) (.tmp 19), _, _, _, _⟩) rfl 41 (.tmp 5) (.tmp 19) rfl w1.heap.size X rfl rfl 41 b64 (heap_alloc_new w1 _) HIX.out.1 HIX.out.2.1 HIX.out.2.2 ?_; intro w2 hw2)
  obtain ⟨hs2, hr2, hb2⟩ := row_made hw2.out
  have hb02 : Below w.heap.size w w2 := HBW.out.trans (hb2.mono (by omega))
  have HK2 : Hid (w2.heap[w1.heap.size]? = some (.cells (U8 K).toArray 41 (0, 0))) := Lib.hid (HXK.out ▸ hr2)
  have HB2 := Lib.hid hb02
  have hgw : w1.heap.size < w2.heap.size := by omega
  clear hr2 hw2 hb2 hb02 hs2
  go_loopw [6, 7, 8] (fun v6 v7 i wr => ∃ k : Nat, k ≤ 64 ∧ i = .int .i64 k ∧ Sides w2.heap.size I O k v6 v7 wr ∧ Below w2.heap.size w2 wr) (fun _ _ i _ => 64 - (intOf i).toNat)
  case atStart => exact ⟨0, Nat.zero_le _, rfl, sides_start w2 I O _ rfl, ((Below.refl _ _).alloc (Nat.le_refl _) _).alloc (by simp) _⟩
  case round =>
    obtain ⟨k, hk, rfl, ⟨g6, c6, g7, c7, rfl, rfl, HO6, HO7, hne⟩, hbel⟩ := hrel
    by_cases hlt : k < 64
    · have hkl : k < K.length := by rw [HKL.out]; exact hlt
      have hbs := hbel.size
      have hc : wr.cell? ⟨w1.heap.size, k, none⟩ = some (.int .u8 ((K.getD k 0 : Nat) : Int)) := (hbel.cell (p := ⟨w1.heap.size, k, none⟩) hgw).trans (cell_u8 HK2.out k hkl)
      have hnx := take_next I k (by rw [HIL.out]; exact hlt)
      have hny := take_next O k (by rw [HOL.out]; exact hlt)
      rw [HI.out, maskN_getD K 54 k hkl, ← HI.out] at hnx
      rw [HO.out, maskN_getD K 92 k hkl, ← HO.out] at hny
      have hy8 := getD_lt8 HKB.out k
      have HNX := Lib.hid hnx
      have HNY := Lib.hid hny
      clear hnx hny hkl
      generalize K.getD k 0 = y at *
      have hx1 : bits .xor .u8 (y : Int) 54 = ((y ^^^ 54 : Nat) : Int) := u8_xor_nat y 54 hy8 (by omega)
      have hx2 : bits .xor .u8 (y : Int) 92 = ((y ^^^ 92 : Nat) : Int) := u8_xor_nat y 92 hy8 (by omega)
      have bk0 : (0 : Int) ≤ (k : Int) := Int.natCast_nonneg _
      have bk1 : (k : Int) < 64 := by omega
      have hpos : 0 < k + 1 := by omega
      have hmx : k + 1 ≤ maxLen := by unfold maxLen; omega
      have hby : (k + 1) * 1 ≤ 140737488355328 := by omega
      go_wp2_with (first
        | (at_builtin; refine wpList_append_apart _ rfl (.tmp 26) (.tmp 31) 28 rfl w2.heap.size 5 i0 (.int .u8 0) 1 Tryd.underlying28 hi hz0 hz1 hz2 rfl g6 k c6 (U8 (I.take k)) rfl (HO6.out.alloc _) ⟨wr.heap.size, 0, none⟩ 1 1 [.int .u8 ((y ^^^ 54 : Nat) : Int)] rfl rfl hpos (one_cell wr _ _) (one_u8 _) hmx hby (le_alloc hbs _) ?_; intro g6' c6' w3 hown hg hd; have H6 := Lib.hid hown; have G6 := Lib.hid hg; have D6 := Lib.hid hd; have HK7 := Lib.hid (side_kept HO7.out hg hne); have hs3 := Nat.le_trans (le_alloc hbs _) hg.size; have hc3 := hg.cell ((World.cell?_alloc_lt _ _ _ (Nat.lt_of_lt_of_le hgw hbs)).trans hc) (kept_ne hgw HO6.out); clear hown hg hd)
        | (at_builtin; refine wpList_append_apart _ rfl (.tmp 33) (.tmp 38) 28 rfl w2.heap.size 5 i0 (.int .u8 0) 1 Tryd.underlying28 hi hz0 hz1 hz2 rfl g7 k c7 (U8 (O.take k)) rfl (HK7.out.alloc _) ⟨w3.heap.size, 0, none⟩ 1 1 [.int .u8 ((y ^^^ 92 : Nat) : Int)] rfl rfl hpos (one_cell w3 _ _) (one_u8 _) hmx hby (le_alloc hs3 _) ?_; intro g7' c7' w4 hown hg hd; have H7 := Lib.hid hown; have G7 := Lib.hid hg; have D7 := Lib.hid hd; clear hown hg hd))
      obtain ⟨q1, q2⟩ := sides_next HO6.out HO7.out hne hbel hbs H6.out G6.out D6.out H7.out G7.out D7.out HNX.out HNY.out
      go_roundw
      case rel => exact ⟨k + 1, by omega, by go_num, q1, q2⟩
      case measure => simp [intOf]; omega
    · have ek : 64 = k := by omega
      subst ek
      have h6 := HO6.out
      have h7 := HO7.out
      rw [List.take_of_length_le (Nat.le_of_eq HIL.out)] at h6
      rw [List.take_of_length_le (Nat.le_of_eq HOL.out)] at h7
      have hbs := hbel.size
      have h64 : 64 + m ≤ maxLen := by unfold maxLen; omega
      have h64b : (64 + m) * 1 ≤ 140737488355328 := by omega
      have h96 : 64 + 32 ≤ maxLen := by unfold maxLen; omega
      have H6 := Lib.hid h6
      have H7 := Lib.hid h7
      have HAr := Lib.hid (HA'.out.next (HB2.out.trans (hbel.mono HB2.out.size)))
      have HML := Lib.hid ((U8_length b).trans HM.out.symm)
      have HBr := Lib.hid hbel
      clear h6 h7 hbel HO6 HO7
      go_wp2_with (at_builtin; refine wpList_append_rd _ rfl (.tmp 40) (.tmp 41) 28 rfl w2.heap.size 5 i0 (.int .u8 0) 1 Tryd.underlying28 hi hz0 hz1 hz2 rfl (.slice (some ⟨g6, 0, none⟩) 64 c6) 64 (U8 I) rfl H6.out wr.heap.size A' m c' (U8 b) rfl HAr.out HML.out HNIL'.out (U8_one b) h64 h64b hbs ?_; intro v3 w3 hown3 hg3; have HO3 := Lib.hid hown3; have HG3 := Lib.hid hg3; obtain ⟨A3, c3, rfl, hrd3, hnil3⟩ := own_rd hown3; have HRD3 := Lib.hid hrd3; have HN3 := Lib.hid hnil3; clear hown3 hg3 hrd3 hnil3)
      have l6 := own_lt H6.out
      have l7 := own_lt H7.out
      have HB3 := Lib.hid (HBr.out.grown HG3.out hbs (grow_ok l6.1))
      have H73 := Lib.hid (H7.out.kept HG3.out (.inr (by simp [Value.ownBlock]; omega)))
      have hs3 := HG3.out.size
      have hrd3 := HRD3.out
      rw [← U8_append] at hrd3
      have hLl : 64 + m = (I ++ b).length := by rw [List.length_append, HIL.out, HM.out]
      have HT3 := HT.out.next (HB2.out.trans (HB3.out.mono HB2.out.size))
      refine (sum_arr (I ++ b) FD HFD (64 + m) hLl A3 c3 w3 HT3 hrd3 HN3.out (all_lt HIB.out HB.out) (by omega)).mono ?_
      clear hrd3 hLl
      rintro e w4 ⟨rfl, hb4⟩
      have hs4 := hb4.size
      have HB4 := Lib.hid (HB3.out.trans (hb4.mono (by omega)))
      have H74 := Lib.hid (own_below H73.out hb4)
      clear hb4
      go_wp2_with ((with_reducible refine at_store 9 ?_); refine wpList_store_named (o := ⟨none, .store 36 (.tmp 9) (.tmp 43), _, _, _, _⟩) rfl 36 (.tmp 9) (.tmp 43) rfl w4.heap.size FD rfl rfl 36 b32 (heap_alloc_new w4 _) HID.out.1 HID.out.2.1 HID.out.2.2 ?_; intro w5 hw5)
      obtain ⟨hs5, hr5, hb5⟩ := row_made hw5.out
      have HRD5 : Hid (Rd w5.drew w5.drew.heap.size (some ⟨w4.heap.size, 0, none⟩) (U8 D)) := Lib.hid (rd_row (w := w5.drew) hr5 HFD'.out)
      have H75 : Hid (w5.drew.ownsRow w2.heap.size 5 1 (.slice (some ⟨g7, 0, none⟩) 64 c7) 64 (U8 O)) := Lib.hid (own_below H74.out hb5.drew)
      have HB5 : Hid (Below w2.heap.size w2 w5.drew) := Lib.hid (HB4.out.trans (hb5.mono (by omega))).drew
      have hbs5 : w2.heap.size ≤ w5.drew.heap.size := HB5.out.size
      have HDL5 := Lib.hid ((U8_length D).trans HDL.out)
      have hLo : 64 + 32 = (O ++ D).length := by rw [List.length_append, HOL.out, HDL.out]
      have HLO := Lib.hid hLo
      have hk96 : (64 + 32) * 1 ≤ 140737488355328 := by omega
      have HB2' := HB2.out.size
      clear hs5 hr5 hb5 hw5 hLo
      refine wp_region_held_drew (S := fun _ => True) (by kernel_rfl) trivial (fun hHeld => ?_)
      refine wpAnyH_ready (rs := [0]) (by kernel_rfl) (by simp) ?_
      refine AllReadyH.cons (o := ⟨some 44, .call _, _, _, _, _⟩) rfl (fun K hK => ?_) AllReadyH.nil
      go_simp
      go_at_call 17
      refine (tagged_any w5.drew (HT.out.next (HB2.out.trans (HB5.out.mono HB2')))).mono ?_
      rintro e w6 ⟨rfl, hb6⟩
      go_wp2_with fail
      refine hK.out _ _ trivial (fun hHeld => ?_)
      clear hK K
      try simp only [Act.put, List.setIfInBounds_toArray, List.set_cons_zero, List.set_cons_succ]
      refine wpAnyH_take (i := 1) (oi := ⟨some 45, _, _, _, _, _⟩) (v := ?_) rfl (by kernel_rfl) (by kernel_rfl) (by kernel_rfl) (fun _ _ _ h => h) (Or.inl ⟨by rfl, ?_⟩) hHeld ?_
      rotate_left
      · intro w hSw
        go_simp
        first | done | with_reducible rfl
      try simp only [Act.put, List.setIfInBounds_toArray, List.set_cons_zero, List.set_cons_succ]
      refine wpAnyH_take (i := 2) (oi := ⟨some 46, _, _, _, _, _⟩) (v := ?_) rfl (by kernel_rfl) (by kernel_rfl) (by kernel_rfl) (fun _ _ _ h => h) (Or.inl ⟨by rfl, ?_⟩) hHeld ?_
      rotate_left
      · intro w hSw
        go_simp
        first | done | with_reducible rfl
      try simp only [Act.put, List.setIfInBounds_toArray, List.set_cons_zero, List.set_cons_succ]
      refine wpAnyH_take (i := 3) (oi := ⟨some 47, _, _, _, _, _⟩) (v := ?_) rfl (by kernel_rfl) (by kernel_rfl) (by kernel_rfl) (fun _ _ _ h => h) (Or.inl ⟨by rfl, ?_⟩) hHeld ?_
      rotate_left
      · intro w hSw
        go_simp
        first | done | with_reducible rfl
      try simp only [Act.put, List.setIfInBounds_toArray, List.set_cons_zero, List.set_cons_succ]
      refine wpAnyH_take (i := 5) (oi := ⟨some 49, _, _, _, _, _⟩) (v := ?_) rfl (by kernel_rfl) (by kernel_rfl) (by kernel_rfl) (fun _ _ _ h => h) (Or.inl ⟨by rfl, ?_⟩) hHeld ?_
      rotate_left
      · intro w hSw
        go_simp
        first | done | with_reducible rfl
      try simp only [Act.put, List.setIfInBounds_toArray, List.set_cons_zero, List.set_cons_succ]
      refine wpAnyH_take (i := 6) (oi := ⟨some 50, _, _, _, _, _⟩) (v := ?_) rfl (by kernel_rfl) (by kernel_rfl) (by kernel_rfl) (fun _ _ _ h => h) (Or.inl ⟨by rfl, ?_⟩) hHeld ?_
      rotate_left
      · intro w hSw
        go_simp
        first | done | with_reducible rfl
      try simp only [Act.put, List.setIfInBounds_toArray, List.set_cons_zero, List.set_cons_succ]
      have HB6 := Lib.hid (HB5.out.trans (hb6.mono hbs5))
      have H76 := Lib.hid (own_below H75.out hb6)
      have HRD6 := Lib.hid (HRD5.out.next hb6)
      have hbs6 := HB6.out.size
      clear hb6
      refine wpAnyH_ready (rs := [4]) (by kernel_rfl) (by simp) ?_
      refine AllReadyH.cons (o := ⟨some 48, .call _, _, _, _, _⟩) rfl (fun K hK => ?_) AllReadyH.nil
      go_simp
      go_at_call 18
      refine (mactag_any s b n m HN.out HM.out A A' c c' w6 (HT.out.next (HB2.out.trans (HB6.out.mono HB2'))) (HA.out.next (HB2.out.trans (HB6.out.mono HB2'))) (HA'.out.next (HB2.out.trans (HB6.out.mono HB2'))) HNIL.out HNIL'.out HS.out HB.out (by omega) (by omega) F HFT.out).mono ?_
      rintro e w7 ⟨rfl, hbt⟩
      go_wp2_with fail
      refine hK.out _ _ trivial (fun hHeld => ?_)
      clear hK K
      try simp only [Act.put, List.setIfInBounds_toArray, List.set_cons_zero, List.set_cons_succ]
      have HB7 := Lib.hid (HB6.out.trans (hbt.mono (by have := HB6.out.size; omega)))
      have H77 := Lib.hid (own_below H76.out hbt)
      have HRD7 := Lib.hid (HRD6.out.next hbt)
      clear hbt
      refine wpAnyH_ready (rs := [7]) (by kernel_rfl) (by simp) ?_
      refine AllReadyH.cons (o := ⟨some 51, .call _, _, _, _, _⟩) rfl (fun K hK => ?_) AllReadyH.nil
      refine step_append_w _ (by rfl) (.tmp 49) (.tmp 50) 28 rfl w2.heap.size 5 i0 (.int .u8 0) 1 Tryd.underlying28 hi hz0 hz1 hz2 rfl (.slice (some ⟨g7, 0, none⟩) 64 c7) 64 (U8 O) rfl H77.out ⟨w4.heap.size, 0, none⟩ 32 32 (U8 D) rfl HDL5.out (rd_at HRD7.out) (U8_one D) h96 hk96 HB7.out.size ?_
      intro v7 w8 hown7 hg7
      obtain ⟨A7, c7', rfl, hrd7, hnil7⟩ := own_rd hown7
      rw [← U8_append] at hrd7
      have HRD8 := Lib.hid hrd7
      have HN8 := Lib.hid hnil7
      have HB8 := Lib.hid (HB7.out.grown hg7 HB7.out.size (grow_ok l7.1))
      clear hown7 hg7 hrd7 hnil7
      refine hK.out _ _ trivial (fun hHeld => ?_)
      clear hK K
      try simp only [Act.put, List.setIfInBounds_toArray, List.set_cons_zero, List.set_cons_succ]
      refine wpAnyH_ready (rs := [8]) (by kernel_rfl) (by simp) ?_
      refine AllReadyH.cons (o := ⟨some 52, .call _, _, _, _, _⟩) rfl (fun K hK => ?_) AllReadyH.nil
      go_simp
      go_at_call 15
      refine (sum_arr (O ++ D) F HF (64 + 32) HLO.out A7 c7' w8 (HT.out.next (HB2.out.trans (HB8.out.mono HB2'))) HRD8.out HN8.out (all_lt HOB.out HDB.out) (by omega)).mono ?_
      rintro e w9 ⟨rfl, hbs⟩
      go_wp2_with fail
      refine hK.out _ _ trivial (fun hHeld => ?_)
      clear hK K
      try simp only [Act.put, List.setIfInBounds_toArray, List.set_cons_zero, List.set_cons_succ]
      refine wpAnyH_take (i := 9) (oi := ⟨some 53, _, _, _, _, _⟩) (v := ?_) rfl (by kernel_rfl) (by kernel_rfl) (by kernel_rfl) (fun _ _ _ h => h) (Or.inl ⟨by rfl, ?_⟩) hHeld ?_
      rotate_left
      · intro w hSw
        go_simp
        first | done | with_reducible rfl
      try simp only [Act.put, List.setIfInBounds_toArray, List.set_cons_zero, List.set_cons_succ]
      refine wpAnyH_take (i := 10) (oi := ⟨some 54, _, _, _, _, _⟩) (v := ?_) rfl (by kernel_rfl) (by kernel_rfl) (by kernel_rfl) (fun _ _ _ h => h) (Or.inl ⟨by rfl, ?_⟩) hHeld ?_
      rotate_left
      · intro w hSw
        go_simp
        first | done | with_reducible rfl
      try simp only [Act.put, List.setIfInBounds_toArray, List.set_cons_zero, List.set_cons_succ]
      refine wpAnyH_take (i := 11) (oi := ⟨some 4, _, _, _, _, _⟩) (v := ?_) rfl (by kernel_rfl) (by kernel_rfl) (by kernel_rfl) (fun _ _ _ h => h) (Or.inl ⟨by rfl, ?_⟩) hHeld ?_
      rotate_left
      · intro w hSw
        go_simp
        first | done | with_reducible rfl
      try simp only [Act.put, List.setIfInBounds_toArray, List.set_cons_zero, List.set_cons_succ]
      refine wpAnyH_done (by kernel_rfl) ?_ _
      have hbf : Below w.heap.size w w9 := HB2.out.trans ((HB8.out.trans (hbs.mono HB8.out.size)).mono HB2')
      go_wp2
      go_ret
      exact ⟨rfl, hbf⟩

set_option maxRecDepth 100000 in
theorem inner_long1 (n m : Nat) (A A' : Option Addr) (c c' : Nat) (w : World) (h1 : n ≤ 9223372036854775807) (h2 : m ≤ 9223372036854775807) (h : 1000 < n) :
    Calls Tryd.prog 7 #[.slice A n c, .slice A' m c'] w fun e w' => e = .returned (.bool true) ∧ Below w.heap.size w w' := by
  go_enter Tryd.func7, Tryd.ntmps7
  go_wp2_with fail
  go_ret
  exact ⟨rfl, Below.refl _ _⟩
set_option maxRecDepth 100000 in
theorem inner_long2 (n m : Nat) (A A' : Option Addr) (c c' : Nat) (w : World) (h1 : n ≤ 1000) (h2 : m ≤ 9223372036854775807) (h : 2000 < m) :
    Calls Tryd.prog 7 #[.slice A n c, .slice A' m c'] w fun e w' => e = .returned (.bool true) ∧ Below w.heap.size w w' := by
  go_enter Tryd.func7, Tryd.ntmps7
  go_wp2_with fail
  go_ret
  exact ⟨rfl, Below.refl _ _⟩

set_option maxRecDepth 100000 in
theorem inner_lifted (os : Os) (started : os.Started) (H : Type) (enc : TypeId × Value → H) :
    ReturnsInHanded {} Tryd.checked os 7 .any (fun w args => (Rows.macInnerSpec.pre enc Tryd.prog Tryd.f7 [] false w args ∧ laidMetH Tryd.prog laidL w) ∧ sizedMet enc Tryd.prog Tryd.f7 (OpenSpec.ofChange Rows.macInnerSpec) false w args)
      (Rows.macInnerSpec.post enc Tryd.prog Tryd.f7 false true false false) := by
  refine returnsInHanded_of_change_and (C := Tryd.checked) (X := fun w _ => laidMetH Tryd.prog laidL w) (fun _ _ _ hh h => h.of_heap hh) Tryd.own started (by kernel_rfl) Tryd.func7
    (ChangeSpec.witness_shaped (enc := enc) (C := Tryd.checked) (os := os) (X := fun w _ => laidMetH Tryd.prog laidL w) false (World.doorLaid Tryd.prog 400 os) #[.slice none 0 0, .slice none 0 0] 8 rfl (World.shaped_of_RefB (by kernel_rfl) (by kernel_rfl)) (by kernel_rfl) (by kernel_rfl) (by kernel_rfl) (door_met os _)) ?_
  intro W base args ds gs before hval0 hW _ hsz hL _
  have hval : ∀ (j : Nat) t v, Tryd.f7.params[j]? = some t → args[j]? = some v → Value.okWide Tryd.prog W .any base t v := hval0
  have hW' := hW
  obtain ⟨p, q, hA0, hV, rfl, _, _⟩ := hW'
  have hA : DataW.TrodAll enc Tryd.prog W 0 (fun _ => true) true Tryd.f7.params.toList args.toList ds p := hA0
  rw [Tryd.params7] at hA hval
  obtain ⟨v0, vs0, d0, ds0, p0, q0, hargs0, rfl, rfl, h0, r0⟩ := trodAll_cons hA
  obtain ⟨v1, vs1, d1, ds1, p1, q1, hargs1, rfl, rfl, h1, r1⟩ := trodAll_cons r0
  obtain ⟨rfl, rfl, rfl⟩ := trodAll_nil r1
  obtain rfl : args = #[v0, v1] := by cases args; simp_all
  obtain ⟨A0, l0, c0, rfl, hr0, hl0, hc0, hm0, hn0, hw0⟩ := open_nats_full Tryd.underlying28 Tryd.underlying5 Tryd.cellsU8 wf_u8 (hval 0 28 v0 rfl rfl) h0
  obtain ⟨A1, l1, c1, rfl, hr1, hl1, hc1, hm1, hn1, hw1⟩ := open_nats_full Tryd.underlying28 Tryd.underlying5 Tryd.cellsU8 wf_u8 (hval 1 28 v1 rfl rfl) h1
  unfold maxLen at hm0 hm1
  have hlaw : Calls Tryd.prog 7 #[.slice A0 l0.length c0, .slice A1 l1.length c1] W fun e w' => e = .returned (.bool true) ∧ Below W.heap.size W w' := by
    by_cases h : 1000 < l0.length
    · exact inner_long1 _ _ A0 A1 c0 c1 W (by omega) (by omega) h
    · by_cases h' : 2000 < l1.length
      · exact inner_long2 _ _ A0 A1 c0 c1 W (by omega) (by omega) h'
      · exact inner_any l0 l1 _ _ rfl rfl A0 A1 c0 c1 W (tabs_of_laid hL) hr0 hr1 hn0 hn1 hl0 hl1 (by omega) (by omega)
  refine hlaw.mono fun e W' ⟨he, hb⟩ => ?_
  subst he
  exact ⟨_, rfl, law_post Tryd.laidOut Tryd.underlying4 hW rfl (by kernel_rfl) (by kernel_rfl) rfl hb⟩

theorem macInner_holds : Rows.MacInnerSaid :=
  OpenClaim.holds_of_wide 7 Tryd.f7 rfl rfl rfl rfl rfl rfl rfl ⟨rfl, rfl, rfl, rfl, rfl⟩ rfl rfl rfl rfl rfl (by kernel_rfl) Tryd.func7 (by kernel_rfl)
    (of_decide_eq_true (by kernel_rfl)) (by unfold Func.isWrapper; first | (rw [if_pos (by decide +kernel)]; kernel_rfl) | (rw [if_neg (by decide +kernel)]; exact ⟨rfl, rfl⟩))
    (fun os started H enc _ => inner_lifted os started H enc)
theorem inner_plain (f : FuncId) (fn : Func) (hf : Tryd.pinned.checked.prog.funcNamed "gateline/gatelinelaw03.MacInner" = some f) (hfn : Tryd.pinned.checked.prog.funcs[f]? = some fn) :
    false = Tryd.pinned.checked.prog.looks [] ∧ ∀ (j : Nat) t, fn.params[j]? = some t → Tryd.pinned.checked.prog.wantsStandIn t = false := by
  obtain rfl : f = 7 := Option.some.inj ((show Tryd.prog.funcNamed "gateline/gatelinelaw03.MacInner" = some 7 by kernel_rfl).symm.trans hf) |>.symm
  obtain rfl : fn = Tryd.f7 := (Option.some.inj (Tryd.func7.symm.trans hfn)).symm
  refine ⟨by kernel_rfl, fun j t ht => ?_⟩
  rw [Tryd.params7] at ht
  have hm : t ∈ [28, 28] := by simpa using Array.mem_of_getElem? ht
  have hall : ([28, 28].all fun u => !Tryd.prog.wantsStandIn u) = true := by kernel_rfl
  exact (show Tryd.prog.wantsStandIn t = false by simpa using List.all_eq_true.1 hall t hm)
theorem macInner_card : Rows.MacInnerCardSaid :=
  Claim7.holds_tied_plain_at .later [] _ _ _ _ macInner_holds (fun _ h => by cases h) (by kernel_rfl) (fun _ h => by cases h) macInner_row_tie rfl ⟨rfl, rfl⟩ (by kernel_rfl) rfl inner_plain (by kernel_rfl)
#print axioms macInner_card
end Go.Proofs.YtdpijlkhcagfaaaDoor
