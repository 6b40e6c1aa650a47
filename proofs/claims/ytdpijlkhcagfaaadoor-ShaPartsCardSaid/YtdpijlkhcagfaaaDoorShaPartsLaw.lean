/-
  Proved: for all bytes the law ShaParts answers true, and leaves what came in as it was; the package's two tables are tied to the program's text. Conditions: none beyond the statement's own.
-/
import Derived.Test.YtdpijlkhcagfaaaDoorShaUse
import Derived.Test.YtdpijlkhcagfaaaDoorOpenArr
import Derived.Deep.RegionHeld3
import Derived.SizedLaws
namespace Go.Proofs.YtdpijlkhcagfaaaDoor
set_option linter.unusedVariables false
open Go.ChangeShapes Go.WideShapes Go.ChangeAt Go.RowKit

theorem words16 (l : List Nat) (hl : l.length = 64) (A : Option Addr) (c : Nat) (w : World) (hA : Rd w w.heap.size A (U8 l)) (hb : ∀ x ∈ l, x < 256) :
    Calls Tryd.prog 14 #[.slice A 64 c] w fun e w' => ∃ g cap, e = .returned (.tuple #[.slice (some ⟨g, 0, none⟩) 16 cap, .int .i64 0]) ∧
      w'.ownsRow w.heap.size 22 1 (.slice (some ⟨g, 0, none⟩) 16 cap) 16 (U32 (wordsOf l)) ∧ Below w.heap.size w w' :=
  words_len l 64 hl A c w hA hb (by omega) (by omega)
theorem bytes32 (V : St) (D : List Nat) (hD : D = bytesOf V.list) (A : Option Addr) (w : World) (hA : Rd w w.heap.size A (U32 V.list)) (hV : V.ok) :
    Calls Tryd.prog 16 #[.slice A 8 8] w fun e w' => ∃ g cap, e = .returned (.slice (some ⟨g, 0, none⟩) 32 cap) ∧ Rd w' w'.heap.size (some ⟨g, 0, none⟩) (U8 D) ∧ Below w.heap.size w w' := by
  subst hD
  refine (bytes_len V.list 8 rfl A 8 w hA (St.list_lt hV) (by omega)).mono ?_
  rintro e w' ⟨g, cap, rfl, hown, hb⟩
  exact ⟨g, cap, rfl, Rd.of_own hown, hb⟩

set_option maxRecDepth 100000 in
set_option maxHeartbeats 1600000 in
theorem parts_any (l : List Nat) (n : Nat) (hn : n = l.length) (A : Option Addr) (c : Nat) (w : World) (hT : Tabs w) (hA : Rd w w.heap.size A (U8 l)) (hb : ∀ x ∈ l, x < 256) (hnil : A = none → c = 0) (hl : n ≤ 5000) :
    Calls Tryd.prog 4 #[.slice A n c] w fun e w' => e = .returned (.bool true) ∧ Below w.heap.size w w' := by
  have HN0 := Lib.hid hn
  have HNIL := Lib.hid hnil
  have HA := Lib.hid hA
  have HB := Lib.hid hb
  have HT := Lib.hid hT
  clear hn hnil hA hb hT
  go_enter Tryd.func4, Tryd.ntmps4
  go_wp2_with fail
  refine (pad_len l n HN0.out A c w HA.out HNIL.out (by omega)).mono ?_
  rintro e w1 ⟨v1, rfl, hown1, hb1⟩
  obtain ⟨N, hN⟩ : ∃ N, N = (padN l).length := ⟨_, rfl⟩
  obtain ⟨m, hm⟩ : ∃ m, m = nblk l := ⟨_, rfl⟩
  have hNm : N = 64 * m := by rw [hN, hm]; exact nblk_eq l
  have hNn : n + 9 ≤ N ∧ N ≤ n + 72 := by rw [hN, length_padN, ← HN0.out]; unfold zerosN; omega
  rw [← hN] at hown1
  obtain ⟨hN1, hN2⟩ := hNn
  obtain ⟨g, cap, rfl, hgb⟩ := hown1.form (by omega)
  have hcap : N ≤ cap ∧ cap ≤ maxLen := by
    rcases hown1.2 with ⟨h, _⟩ | ⟨g', cap', cur, h, _, _, h1, h2, _⟩
    · cases h
    · simp at h; obtain ⟨_, rfl⟩ := h; exact ⟨h1, h2⟩
  obtain ⟨hcap1, hcap2⟩ := hcap
  unfold maxLen at hcap2
  have hgl : g < w1.heap.size := by
    obtain ⟨ad, he, hlt, _⟩ := (Rd.of_own hown1) 0 _ (U8_at (padN l) 0 (by omega))
    cases he; exact hlt
  have e1 : ((N : Int) % 64 != 0) = false := by simp; omega
  have e2 : ((N : Int) % 64 == 0) = true := by simp; omega
  have hrp := Rd.of_own hown1
  have hrd1 : Rd w1 w1.heap.size (some ⟨g, 0, none⟩) (U8 l) := by
    intro k u hu
    refine hrp k u ?_
    have hk : k < l.length := by
      rcases Nat.lt_or_ge k l.length with h | h
      · exact h
      · rw [List.getElem?_eq_none (by rw [U8_length]; exact h)] at hu; cases hu
    rw [padN_padB, U8_append, List.getElem?_append_left (by rw [U8_length]; exact hk)]
    exact hu
  have HM := Lib.hid hm
  have HNE := Lib.hid hN
  have HNM := Lib.hid hNm
  have HO1 := Lib.hid hown1
  have HA1 := Lib.hid (HA.out.next hb1)
  have HRD1 := Lib.hid hrd1
  have HB1 := Lib.hid hb1
  have HT1 := Lib.hid (HT.out.next hb1)
  have HPB := Lib.hid (padN_lt l HB.out)
  clear hown1 hb1 hm hN hNm hrp hrd1
  go_wp2_with fail
  refine (same_len l n HN0.out (some ⟨g, 0, none⟩) A cap c w1.heap.size w1 HRD1.out HA1.out (by unfold maxLen; omega)).mono ?_
  rintro e wS ⟨rfl, hbS⟩
  have HBS := Lib.hid hbS
  clear hbS
  go_wp2_with fail
  refine (begin_any _).mono ?_
  rintro e w2 ⟨rfl, hb2⟩
  rw [St.val_eq]
  have HB2 := Lib.hid hb2
  clear hb2
  go_wp2_with ((with_reducible refine at_store 4 ?_); refine wpList_store_named (o := ⟨none, .store 23 (.tmp 4) (.tmp 45), _, _, _, _⟩) rfl 23 (.tmp 4) (.tmp 45) rfl w2.heap.size (U32 beginN.list).toArray rfl rfl 23 z8 (heap_alloc_new w2 _) info28 rfl (all_one32 _) ?_; intro w3 hw3)
  obtain ⟨hs3, hv3, hb3⟩ := row_made hw3.out
  have hs1 := HB1.out.size
  have hsS := HBS.out.size
  have hs2 := HB2.out.size
  have hb13 : Below w1.heap.size w1 w3 := (HBS.out.trans (HB2.out.mono hsS)).trans (hb3.mono (by omega))
  have HO3 := Lib.hid (own_below HO1.out hb13)
  have HV3 := Lib.hid hv3
  have hg3 : g < w2.heap.size := by omega
  have hb03 : Below w.heap.size w w3 := HB1.out.trans (hb13.mono hs1)
  have HA3 := Lib.hid (HA1.out.next hb13)
  have HT3 := Lib.hid (HT1.out.next hb13)
  clear hv3 hb3 hb13 hw3
  go_loopw [5] (fun i wr => ∃ j o : Nat, Hid (o = 64 * j) ∧ j ≤ m ∧ i = .int .i64 o ∧ wr.heap[w2.heap.size]? = some (.cells (U32 (blocksN beginN (padN l) j).list).toArray 23 (0, 0)) ∧ Below w2.heap.size w3 wr) (fun i _ => N - (intOf i).toNat)
  case atStart => exact ⟨0, 0, Lib.hid rfl, Nat.zero_le _, rfl, HV3.out, Below.refl _ _⟩
  case round =>
    obtain ⟨j, o, HOJ, hj, rfl, hv, hbel⟩ := hrel
    by_cases hlt : j < m
    · have ho1 : o + 64 ≤ N := by have := HOJ.out; have := HNM.out; omega
      have hgw : g < wr.heap.size := by have := hbel.size; omega
      have hrd0 : Rd wr wr.heap.size (some ⟨g, 0, none⟩) (U8 (padN l)) := by
        intro k u hu
        obtain ⟨ad, he, _, hc⟩ := (Rd.of_own HO3.out) k u hu
        cases he
        refine ⟨_, rfl, hgw, ?_⟩
        rw [at_add] at hc ⊢
        exact (hbel.cell (p := ⟨g, k, none⟩) hg3).trans hc
      have hrd1 := hrd0.from (k := o)
      rw [U8_drop] at hrd1
      have hrd : Rd wr wr.heap.size (some ⟨g, o, none⟩) (U8 (((padN l).drop o).take 64)) := by
        intro k u hu
        refine hrd1 k u ?_
        simp only [U8, List.map_take, List.getElem?_take] at hu ⊢
        split at hu
        · exact hu
        · cases hu
      have hlq : (((padN l).drop o).take 64).length = 64 := by rw [List.length_take, List.length_drop, ← HNE.out]; omega
      have hbq : ∀ x ∈ ((padN l).drop o).take 64, x < 256 := fun x hx => HPB.out x (List.mem_of_mem_drop (List.mem_of_mem_take hx))
      have hnext : blocksN beginN (padN l) (j + 1) = blockN (blocksN beginN (padN l) j) (wordsOf (((padN l).drop o).take 64)) := by rw [HOJ.out]; rfl
      have hok := blocksN_ok beginN_ok (padN l) j
      obtain ⟨W, hWE⟩ : ∃ W, W = wordsOf (((padN l).drop o).take 64) := ⟨_, rfl⟩
      have hW1 : W.length = 16 := by rw [hWE, length_wordsOf, hlq]
      have hW2 : ∀ x ∈ W, x < 4294967296 := by rw [hWE]; exact wordsOf_lt _ hbq
      have hwc := words16 (((padN l).drop o).take 64) hlq (some ⟨g, o, none⟩) (cap - o) wr hrd hbq
      rw [← hWE] at hnext hwc
      obtain ⟨V, hVE⟩ : ∃ V, V = blocksN beginN (padN l) j := ⟨_, rfl⟩
      rw [← hVE] at hv hnext hok
      have HNX := Lib.hid hnext
      have HWC := Lib.hid hwc
      have HOK := Lib.hid hok
      have HW1 := Lib.hid hW1
      have HW2 := Lib.hid hW2
      have HV := Lib.hid hv
      clear hrd0 hrd1 hrd hlq hbq hnext hok hW1 hW2 hWE hwc hv hVE
      go_wp2_with fail
      refine HWC.out.mono ?_
      rintro e w4 ⟨g4, cap4, rfl, hown4, hb4⟩
      have hs4 := hb4.size
      have HO4 := Lib.hid hown4
      have HB4 := Lib.hid hb4
      clear hown4 hb4
      go_wp2_with ((with_reducible refine at_store 8 ?_); refine wpList_store_named (o := ⟨none, .store 24 (.tmp 8) (.tmp 64), _, _, _, _⟩) rfl 24 (.tmp 8) (.tmp 64) rfl w4.heap.size z16 rfl rfl 24 z16 (heap_alloc_new w4 _) info29 rfl (all_one32 (List.replicate 16 0)) ?_; intro w5 hw5)
      obtain ⟨hs5, hv5, hb5⟩ := row_made hw5.out
      have HV5 := Lib.hid hv5
      have HO5 := Lib.hid (own_below HO4.out hb5)
      clear hw5 hv5
      have hz : (.cells z16 24 (0, 0) : Obj) = .cells (U32 (upZ W 16 0)).toArray 24 (0, 0) := by rw [upZ_zero, z16_eq]
      obtain ⟨wo, rfl⟩ : ∃ wo : World, wo = wr := ⟨_, rfl⟩
      go_loopw [9] (fun i wr => ∃ k : Nat, k ≤ 16 ∧ i = .int .i64 k ∧ wr.heap[w4.heap.size]? = some (.cells (U32 (upZ W 16 k)).toArray 24 (0, 0)) ∧ Below w4.heap.size w5 wr) (fun i _ => 16 - (intOf i).toNat)
      case atStart => exact ⟨0, Nat.zero_le _, rfl, by rw [HV5.out, hz], Below.refl _ _⟩
      case round =>
        clear hz
        obtain ⟨k, hk, rfl, hw, hbk⟩ := hrel
        by_cases hk16 : k < 16
        · have hcs : wr.cell? ⟨g4, k, none⟩ = some (.int .u32 ((W.getD k 0 : Nat) : Int)) := by
            have hg4 : g4 < w4.heap.size := by
              obtain ⟨ad, he, hlt4, _⟩ := (Rd.of_own HO4.out) 0 _ (U32_getD W 0 (by rw [HW1.out]; omega))
              cases he; exact hlt4
            exact (hbk.cell (p := ⟨g4, k, none⟩) hg4).trans (own_cell32 HO5.out k (by omega))
          have hcur : wr.cell? ⟨w4.heap.size, k, none⟩ = some (.int .u32 (((upZ W 16 k).getD k 0 : Nat) : Int)) := by
            rw [cell_of_row wr _ k _ _ (0, 0) hw, List.getElem?_toArray, U32_getD _ k (by rw [length_upZ W 16 k HW1.out hk]; exact hk16)]
          have hfz := frozen_of_row wr _ k _ _ hw
          have hset := heap_setCell_same wr _ k _ 24 (.int .u32 ((W.getD k 0 : Nat) : Int)) hw
          have hst : (U32 (upZ W 16 k)).toArray.setIfInBounds k (.int .u32 ((W.getD k 0 : Nat) : Int)) = (U32 (upZ W 16 (k + 1))).toArray := by
            rw [List.setIfInBounds_toArray, ← upZ_set W 16 k HW1.out hk16, U32, U32, List.map_set]
          rw [hst] at hset
          have HSET := Lib.hid hset
          clear hset hst hw
          generalize W.getD k 0 = y at *
          generalize (upZ W 16 k).getD k 0 = z at *
          have bk0 : (0 : Int) ≤ (k : Int) := Int.natCast_nonneg _
          have bk1 : (k : Int) < 16 := by omega
          go_wp2
          go_roundw
          case rel => exact ⟨k + 1, by omega, by go_num, HSET.out, hbk.setCell (Nat.le_refl _) _⟩
          case measure => simp [intOf]; omega
        · have k16 : k = 16 := by omega
          subst k16
          rw [upZ_all W 16 HW1.out] at hw
          have hwv : wr.heap[w2.heap.size]? = some (.cells (U32 V.list).toArray 23 (0, 0)) := (hbk.block _ (by have := hbel.size; omega)).trans ((hb5.block _ (by have := hbel.size; omega)).trans ((HB4.out.block _ (by have := hbel.size; omega)).trans HV.out))
          have hin : (Tryd.prog.info? 24).map (·.size) = some (U32 W).toArray.size := by rw [show (U32 W).toArray.size = 16 by simp [U32, HW1.out]]; exact info29
          have HWW := Lib.hid hw
          have HWV := Lib.hid hwv
          have HIN := Lib.hid hin
          have HTr := Lib.hid (HT.out.next ((((hb03.trans (hbel.mono (by omega))).trans (HB4.out.mono (by omega))).trans (hb5.mono (by omega))).trans (hbk.mono (by omega))))
          clear hw hwv hin
          go_wp2_with (first
            | ((with_reducible refine at_load 75 ?_); refine wpList_load_row (o := ⟨some 75, .load 23 (.tmp 4), _, _, _, _⟩) rfl 23 (.tmp 4) rfl w2.heap.size rfl 23 (U32 V.list).toArray (0, 0) _ HWV.out Tryd.underlying23 rfl info28 ?_)
            | ((with_reducible refine at_load 76 ?_); refine wpList_load_row (o := ⟨some 76, .load 24 (.tmp 8), _, _, _, _⟩) rfl 24 (.tmp 8) rfl w4.heap.size rfl 24 (U32 W).toArray (0, 0) _ HWW.out Tryd.underlying24 rfl HIN.out ?_))
          refine (block_list V W wr HTr.out HOK.out HW2.out HW1.out).mono ?_
          rintro e w6 ⟨rfl, hb6⟩
          obtain ⟨R, hR⟩ : ∃ R, R = blockN V W := ⟨_, rfl⟩
          rw [← hR]
          have HRE := Lib.hid hR
          have HV6 := Lib.hid ((hb6.block w2.heap.size (by have h7 := hbel.size; have h8 := hbk.size; omega)).trans HWV.out)
          have hbf : Below w2.heap.size w3 w6 := (((hbel.trans (HB4.out.mono (by have := hbel.size; omega))).trans (hb5.mono (by have := hbel.size; omega))).trans (hbk.mono (by have := hbel.size; omega))).trans (hb6.mono (by have h7 := hbel.size; have h8 := hbk.size; omega))
          clear hR hb6
          go_wp2_with ((with_reducible refine at_store 4 ?_); refine wpList_store_named (o := ⟨none, .store 23 (.tmp 4) (.tmp 77), _, _, _, _⟩) rfl 23 (.tmp 4) (.tmp 77) rfl w2.heap.size (U32 R.list).toArray rfl rfl 23 (U32 V.list).toArray HV6.out info28 rfl (all_one32 _) ?_; intro w7 hw7)
          have hv7 : w7.heap[w2.heap.size]? = some (.cells (U32 (blocksN beginN (padN l) (j + 1)).list).toArray 23 (0, 0)) := by
            rw [hw7.out, HNX.out, ← HRE.out]; exact setRow_heap _ _ _ _ _ _ HV6.out
          have hb7 : Below w2.heap.size w3 w7 := hbf.trans (below_row hw7.out (Nat.le_refl _))
          clear hw7 hbf hbk
          go_roundw
          case rel => exact ⟨j + 1, o + 64, Lib.hid (by rw [HOJ.out]; omega), by omega, by go_num, hv7, hb7⟩
          case measure => simp [intOf]; omega
    · have hjm : j = m := by omega
      subst hjm
      obtain ⟨V, hVE⟩ : ∃ V, V = blocksN beginN (padN l) j := ⟨_, rfl⟩
      have hok : V.ok := by rw [hVE]; exact blocksN_ok beginN_ok _ _
      rw [← hVE] at hv
      have hdg : digestN l = bytesOf V.list := by rw [hVE, HM.out]; rfl
      obtain ⟨D, hD⟩ : ∃ D, D = bytesOf V.list := ⟨_, rfl⟩
      have hDl : 32 = D.length := by rw [hD, length_bytesOf]; rfl
      have ho2 : N ≤ o := by have := HOJ.out; have := HNM.out; omega
      have hsr : w2.heap.size < wr.heap.size := by have := hbel.size; omega
      have hbr : Below w3.heap.size w3 wr ∨ True := .inr trivial
      have hbb : Below w.heap.size w wr := hb03.trans (hbel.mono (by omega))
      have HAr := Lib.hid (HA.out.next hbb)
      have HTr := Lib.hid (HT.out.next hbb)
      obtain ⟨FD, hFD⟩ : ∃ FD : Array Value, FD = (U8 D).toArray := ⟨_, rfl⟩
      have hFD' : FD = (U8 (digestN l)).toArray := by rw [hFD, hdg, hD]
      have hsz : FD.size = 32 := by rw [hFD]; simp [U8, ← hDl]
      have hin : (Tryd.prog.info? 36).map (·.size) = some FD.size := by rw [hsz]; exact info32
      have hone : FD.all (·.oneCell') = true := by rw [hFD]; exact all_one8 _
      have HV := Lib.hid hv
      have HOK := Lib.hid hok
      have HD := Lib.hid hD
      have HDL := Lib.hid hDl
      have HFD := Lib.hid hFD
      have HFD' := Lib.hid hFD'
      have HSZ := Lib.hid hsz
      have HIN := Lib.hid hin
      have HONE := Lib.hid hone
      have HBB := Lib.hid hbb
      clear hv hVE hok hdg hbel hD hDl hbr hbb hFD hFD' hsz hin hone
      go_wp2_with fail
      refine (sum_arr l FD HFD' n HN0.out A c wr HTr.out HAr.out HNIL.out HB.out (by omega)).mono ?_
      rintro e w5 ⟨rfl, hb5⟩
      have HB5 := Lib.hid hb5
      clear hb5
      go_wp2_with ((with_reducible refine at_store 10 ?_); refine wpList_store_named (o := ⟨none, .store 36 (.tmp 10) (.tmp 79), _, _, _, _⟩) rfl 36 (.tmp 10) (.tmp 79) rfl w5.heap.size FD rfl rfl 36 b32 (heap_alloc_new w5 _) HIN.out HSZ.out.symm HONE.out ?_; intro w6 hw6)
      obtain ⟨hs6, hv6, hb6⟩ := row_made hw6.out
      have hs5 := HB5.out.size
      have hb56 : Below wr.heap.size wr w6 := HB5.out.trans (hb6.mono hs5)
      have HB6 := Lib.hid (HBB.out.trans (hb56.mono HBB.out.size))
      have HT6 : Hid (Tabs w6.drew) := Lib.hid (HTr.out.next hb56.drew)
      have hrv : Rd w6.drew w6.drew.heap.size (some ⟨w2.heap.size, 0, none⟩) (U32 V.list) := by
        intro k u hu
        refine ⟨_, rfl, by show w2.heap.size < w6.heap.size; omega, ?_⟩
        have h0 : w6.drew.heap[w2.heap.size]? = some (.cells (U32 V.list).toArray 23 (0, 0)) := (hb56.block _ hsr).trans HV.out
        rw [at_add, cell_of_row w6.drew _ k _ _ (0, 0) h0]
        simpa using hu
      have hrs : Rd w6.drew w6.drew.heap.size (some ⟨w5.heap.size, 0, none⟩) (U8 D) := by
        intro k u hu
        refine ⟨_, rfl, by show w5.heap.size < w6.heap.size; omega, ?_⟩
        have h0 : w6.drew.heap[w5.heap.size]? = some (.cells FD 36 (0, 0)) := hv6
        rw [at_add, cell_of_row w6.drew _ k _ _ (0, 0) h0, HFD.out]
        simpa using hu
      have HRV := Lib.hid hrv
      have HRS := Lib.hid hrs
      clear hrv hrs hw6 hv6 hb6 hb56
      refine wp_region_held_drew (S := fun _ => True) (by kernel_rfl) trivial (fun hHeld => ?_)
      refine wpAnyH_ready (rs := [0]) (by kernel_rfl) (by simp) ?_
      refine AllReadyH.cons (o := ⟨some 80, .call _, _, _, _, _⟩) rfl (fun K hK => ?_) AllReadyH.nil
      go_simp
      go_at_call 8
      refine (summed_any w6.drew HT6.out).mono ?_
      rintro e w7 ⟨rfl, hb7⟩
      go_wp2_with fail
      refine hK.out _ _ trivial (fun hHeld => ?_)
      clear hK K
      try simp only [Act.put, List.setIfInBounds_toArray, List.set_cons_zero, List.set_cons_succ]
      refine wpAnyH_take (i := 1) (oi := ⟨some 81, _, _, _, _, _⟩) (v := ?_) rfl (by kernel_rfl) (by kernel_rfl) (by kernel_rfl) (fun _ _ _ h => h) (Or.inl ⟨by rfl, ?_⟩) hHeld ?_
      rotate_left
      · intro w hSw
        go_simp
        first | done | with_reducible rfl
      try simp only [Act.put, List.setIfInBounds_toArray, List.set_cons_zero, List.set_cons_succ]
      refine wpAnyH_take (i := 2) (oi := ⟨some 82, _, _, _, _, _⟩) (v := ?_) rfl (by kernel_rfl) (by kernel_rfl) (by kernel_rfl) (fun _ _ _ h => h) (Or.inl ⟨by rfl, ?_⟩) hHeld ?_
      rotate_left
      · intro w hSw
        go_simp
        first | done | with_reducible rfl
      try simp only [Act.put, List.setIfInBounds_toArray, List.set_cons_zero, List.set_cons_succ]
      refine wpAnyH_take (i := 4) (oi := ⟨some 84, _, _, _, _, _⟩) (v := ?_) rfl (by kernel_rfl) (by kernel_rfl) (by kernel_rfl) (fun _ _ _ h => h) (Or.inl ⟨by rfl, ?_⟩) hHeld ?_
      rotate_left
      · intro w hSw
        go_simp
        first | done | with_reducible rfl
      try simp only [Act.put, List.setIfInBounds_toArray, List.set_cons_zero, List.set_cons_succ]
      refine wpAnyH_ready (rs := [3]) (by kernel_rfl) (by simp) ?_
      refine AllReadyH.cons (o := ⟨some 83, .call _, _, _, _, _⟩) rfl (fun K hK => ?_) AllReadyH.nil
      go_simp
      go_at_call 16
      refine (bytes32 V D HD.out (some ⟨w2.heap.size, 0, none⟩) w7 (HRV.out.next hb7) HOK.out).mono ?_
      rintro e w8 ⟨g8, c8, rfl, hrd8, hb8⟩
      have HR8 := Lib.hid hrd8
      have HRS8 := Lib.hid ((HRS.out.next hb7).next hb8)
      clear hrd8
      go_wp2_with fail
      refine hK.out _ _ trivial (fun hHeld => ?_)
      clear hK K
      try simp only [Act.put, List.setIfInBounds_toArray, List.set_cons_zero, List.set_cons_succ]
      refine wpAnyH_ready (rs := [5]) (by kernel_rfl) (by simp) ?_
      refine AllReadyH.cons (o := ⟨some 85, .call _, _, _, _, _⟩) rfl (fun K hK => ?_) AllReadyH.nil
      go_simp
      go_at_call 12
      refine (same_len D 32 HDL.out (some ⟨g8, 0, none⟩) (some ⟨w5.heap.size, 0, none⟩) c8 32 w8.heap.size w8 HR8.out HRS8.out (by unfold maxLen; omega)).mono ?_
      rintro e w9 ⟨rfl, hb9⟩
      go_wp2_with fail
      refine hK.out _ _ trivial (fun hHeld => ?_)
      clear hK K
      try simp only [Act.put, List.setIfInBounds_toArray, List.set_cons_zero, List.set_cons_succ]
      refine wpAnyH_take (i := 6) (oi := ⟨some 86, _, _, _, _, _⟩) (v := ?_) rfl (by kernel_rfl) (by kernel_rfl) (by kernel_rfl) (fun _ _ _ h => h) (Or.inl ⟨by rfl, ?_⟩) hHeld ?_
      rotate_left
      · intro w hSw
        go_simp
        first | done | with_reducible rfl
      try simp only [Act.put, List.setIfInBounds_toArray, List.set_cons_zero, List.set_cons_succ]
      refine wpAnyH_take (i := 7) (oi := ⟨some 2, _, _, _, _, _⟩) (v := ?_) rfl (by kernel_rfl) (by kernel_rfl) (by kernel_rfl) (fun _ _ _ h => h) (Or.inl ⟨by rfl, ?_⟩) hHeld ?_
      rotate_left
      · intro w hSw
        go_simp
        first | done | with_reducible rfl
      try simp only [Act.put, List.setIfInBounds_toArray, List.set_cons_zero, List.set_cons_succ]
      refine wpAnyH_done (by kernel_rfl) ?_ _
      have hbf : Below w.heap.size w w9 := ((HB6.out.drew.trans (hb7.mono HB6.out.size)).trans (hb8.mono (Nat.le_trans HB6.out.size hb7.size))).trans (hb9.mono (Nat.le_trans (Nat.le_trans HB6.out.size hb7.size) hb8.size))
      go_wp2
      go_ret
      exact ⟨rfl, hbf⟩

set_option maxRecDepth 100000 in
theorem parts_long (l : List Nat) (n : Nat) (hn : n = l.length) (A : Option Addr) (c : Nat) (w : World) (hA : Rd w w.heap.size A (U8 l)) (hnil : A = none → c = 0) (h1 : n ≤ 140737488351232) (h : 5000 < n) :
    Calls Tryd.prog 4 #[.slice A n c] w fun e w' => e = .returned (.bool true) ∧ Below w.heap.size w w' := by
  have HN0 := Lib.hid hn
  have HNIL := Lib.hid hnil
  have HA := Lib.hid hA
  clear hn hnil hA
  go_enter Tryd.func4, Tryd.ntmps4
  go_wp2_with fail
  refine (pad_len l n HN0.out A c w HA.out HNIL.out h1).mono ?_
  rintro e w1 ⟨v1, rfl, hown1, hb1⟩
  clear hown1
  go_wp2_with fail
  go_ret
  exact ⟨rfl, hb1⟩
theorem bytesU8 : Tryd.prog.bytesOf 5 = 1 := by kernel_rfl

set_option maxRecDepth 100000 in
theorem parts_lifted (os : Os) (started : os.Started) (H : Type) (enc : TypeId × Value → H) :
    ReturnsInHanded {} Tryd.checked os 4 .any (fun w args => (Rows.shaPartsSpec.pre enc Tryd.prog Tryd.f4 [] false w args ∧ laidMetH Tryd.prog laidL w) ∧ sizedMet enc Tryd.prog Tryd.f4 (OpenSpec.ofChange Rows.shaPartsSpec) false w args)
      (Rows.shaPartsSpec.post enc Tryd.prog Tryd.f4 false true false false) := by
  refine returnsInHanded_of_change_and (C := Tryd.checked) (X := fun w _ => laidMetH Tryd.prog laidL w) (fun _ _ _ hh h => h.of_heap hh) Tryd.own started (by kernel_rfl) Tryd.func4
    (ChangeSpec.witness_shaped (enc := enc) (C := Tryd.checked) (os := os) (X := fun w _ => laidMetH Tryd.prog laidL w) false (World.doorLaid Tryd.prog 400 os) #[.slice none 0 0] 8 rfl (World.shaped_of_RefB (by kernel_rfl) (by kernel_rfl)) (by kernel_rfl) (by kernel_rfl) (by kernel_rfl) (door_met os _)) ?_
  intro W base args ds gs before hval0 hW _ hsz hL _
  have hval : ∀ (j : Nat) t v, Tryd.f4.params[j]? = some t → args[j]? = some v → Value.okWide Tryd.prog W .any base t v := hval0
  have hW' := hW
  obtain ⟨p, q, hA0, hV, rfl, _, _⟩ := hW'
  have hA : DataW.TrodAll enc Tryd.prog W 0 (fun _ => true) true Tryd.f4.params.toList args.toList ds p := hA0
  rw [Tryd.params4] at hA hval
  obtain ⟨v0, vs0, d0, ds0, p0, q0, hargs0, rfl, rfl, h0, r0⟩ := trodAll_cons hA
  obtain ⟨rfl, rfl, rfl⟩ := trodAll_nil r0
  obtain rfl : args = #[v0] := by cases args; simp_all
  obtain ⟨A0, l0, c0, rfl, hr0, hl0, hc0, hm0, hn0, hw0⟩ := open_nats_full Tryd.underlying28 Tryd.underlying5 Tryd.cellsU8 wf_u8 (hval 0 28 v0 rfl rfl) h0
  have hwt := hw0 reachBytes (weights_of_each hsz 0 rfl rfl)
  rw [bytesU8, Nat.mul_one, show reachBytes = 140737488351232 from rfl] at hwt
  have hlaw : Calls Tryd.prog 4 #[.slice A0 l0.length c0] W fun e w' => e = .returned (.bool true) ∧ Below W.heap.size W w' := by
    by_cases h : 5000 < l0.length
    · exact parts_long l0 _ rfl A0 c0 W hr0 hn0 (by omega) h
    · exact parts_any l0 _ rfl A0 c0 W (tabs_of_laid hL) hr0 hl0 hn0 (by omega)
  refine hlaw.mono fun e W' ⟨he, hb⟩ => ?_
  subst he
  exact ⟨_, rfl, law_post Tryd.laidOut Tryd.underlying4 hW rfl (by kernel_rfl) (by kernel_rfl) rfl hb⟩

theorem shaParts_holds : Rows.ShaPartsSaid :=
  OpenClaim.holds_of_wide 4 Tryd.f4 rfl rfl rfl rfl rfl rfl rfl ⟨rfl, rfl, rfl, rfl, rfl⟩ rfl rfl rfl rfl rfl (by kernel_rfl) Tryd.func4 (by kernel_rfl)
    (of_decide_eq_true (by kernel_rfl)) (by unfold Func.isWrapper; first | (rw [if_pos (by decide +kernel)]; kernel_rfl) | (rw [if_neg (by decide +kernel)]; exact ⟨rfl, rfl⟩))
    (fun os started H enc _ => parts_lifted os started H enc)
theorem parts_plain (f : FuncId) (fn : Func) (hf : Tryd.pinned.checked.prog.funcNamed "gateline/gatelinelaw02.ShaParts" = some f) (hfn : Tryd.pinned.checked.prog.funcs[f]? = some fn) :
    false = Tryd.pinned.checked.prog.looks [] ∧ ∀ (j : Nat) t, fn.params[j]? = some t → Tryd.pinned.checked.prog.wantsStandIn t = false := by
  obtain rfl : f = 4 := Option.some.inj ((show Tryd.prog.funcNamed "gateline/gatelinelaw02.ShaParts" = some 4 by kernel_rfl).symm.trans hf) |>.symm
  obtain rfl : fn = Tryd.f4 := (Option.some.inj (Tryd.func4.symm.trans hfn)).symm
  refine ⟨by kernel_rfl, fun j t ht => ?_⟩
  rw [Tryd.params4] at ht
  have hm : t ∈ [28] := by simpa using Array.mem_of_getElem? ht
  have hall : ([28].all fun u => !Tryd.prog.wantsStandIn u) = true := by kernel_rfl
  exact (show Tryd.prog.wantsStandIn t = false by simpa using List.all_eq_true.1 hall t hm)
theorem shaParts_card : Rows.ShaPartsCardSaid :=
  Claim7.holds_tied_plain_at .later [] _ _ _ _ shaParts_holds (fun _ h => by cases h) (by kernel_rfl) (fun _ h => by cases h) shaParts_row_tie rfl ⟨rfl, rfl⟩ (by kernel_rfl) rfl parts_plain (by kernel_rfl)
#print axioms shaParts_card
end Go.Proofs.YtdpijlkhcagfaaaDoor
