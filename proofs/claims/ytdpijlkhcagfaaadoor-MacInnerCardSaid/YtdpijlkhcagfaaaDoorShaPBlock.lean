/-
  Contract for Block of package sha: eight words and sixteen make just these eight. Conditions: the words fit 32 bits; the package's table of constants holds what its text lays.
-/
import Derived.Test.YtdpijlkhcagfaaaDoorShaRound
import Derived.Test.YtdpijlkhcagfaaaDoorShaSched
namespace Go.Proofs.YtdpijlkhcagfaaaDoor
set_option linter.unusedVariables false
open Go.ChangeShapes Go.WideShapes Go.ChangeAt Go.RowKit

/-- The package's two tables hold what its text lays. -/
def Tabs (w : World) : Prop := Rd w w.heap.size (some ⟨0, 0, none⟩) (U32 kTab) ∧ Rd w w.heap.size (some ⟨1, 0, none⟩) (U32 beginN.list)
theorem Tabs.next {w w' : World} (h : Tabs w) (hb : Below w.heap.size w w') : Tabs w' := ⟨h.1.next hb, h.2.next hb⟩
theorem Tabs.cell {w : World} (h : Tabs w) (k : Nat) (hk : k < 64) : w.cell? ⟨0, k, none⟩ = some (.int .u32 ((kTab.getD k 0 : Nat) : Int)) ∧ 0 < w.heap.size := by
  obtain ⟨ad, he, hlt, hc⟩ := h.1 k _ (U32_getD kTab k (by rw [length_kTab]; exact hk))
  cases he
  rw [at_add] at hc
  exact ⟨hc, hlt⟩
theorem info28 : (Tryd.prog.info? 23).map (·.size) = some 8 := by kernel_rfl
theorem St.val_eq (v : St) : v.val = .agg (U32 v.list).toArray := rfl

theorem row_made {w1 w2 : World} {cc cd : Array Value} {t : TypeId} (h : w2 = (w1.alloc (.cells cc t)).setRow w1.heap.size cd) :
    w2.heap.size = w1.heap.size + 1 ∧ w2.heap[w1.heap.size]? = some (.cells cd t (0, 0)) ∧ Below w1.heap.size w1 w2 := by
  subst h
  exact ⟨by simp, setRow_heap _ _ _ _ _ _ (heap_alloc_new w1 _), below_setRow ((Below.refl _ _).alloc (Nat.le_refl _) _) (Nat.le_refl _) _⟩

set_option maxRecDepth 100000 in
set_option maxHeartbeats 1600000 in
theorem block_any (h : St) (x0 x1 x2 x3 x4 x5 x6 x7 x8 x9 x10 x11 x12 x13 x14 x15 : Nat) (w : World) (hT : Tabs w) (hh : h.ok) (hx : ∀ x ∈ [x0, x1, x2, x3, x4, x5, x6, x7, x8, x9, x10, x11, x12, x13, x14, x15], x < 4294967296) :
    Calls Tryd.prog 9 #[h.val, agg16 x0 x1 x2 x3 x4 x5 x6 x7 x8 x9 x10 x11 x12 x13 x14 x15] w fun e w' => e = .returned (blockN h [x0, x1, x2, x3, x4, x5, x6, x7, x8, x9, x10, x11, x12, x13, x14, x15]).val ∧ Below w.heap.size w w' := by
  obtain ⟨xl, hxl⟩ : ∃ xl : List Nat, xl = [x0, x1, x2, x3, x4, x5, x6, x7, x8, x9, x10, x11, x12, x13, x14, x15] := ⟨_, rfl⟩
  obtain ⟨w0, hw0⟩ : ∃ w0 : World, w0 = ((w.alloc (.cells #[.int .u32 h.a, .int .u32 h.b, .int .u32 h.c, .int .u32 h.d, .int .u32 h.e, .int .u32 h.f, .int .u32 h.g, .int .u32 h.h] 23)).alloc (.cells #[.int .u32 x0, .int .u32 x1, .int .u32 x2, .int .u32 x3, .int .u32 x4, .int .u32 x5, .int .u32 x6, .int .u32 x7, .int .u32 x8, .int .u32 x9, .int .u32 x10, .int .u32 x11, .int .u32 x12, .int .u32 x13, .int .u32 x14, .int .u32 x15] 24)).alloc (.cells #[.int .u32 0, .int .u32 0, .int .u32 0, .int .u32 0, .int .u32 0, .int .u32 0, .int .u32 0, .int .u32 0] 23) := ⟨_, rfl⟩
  have hs0 : w0.heap.size = w.heap.size + 1 + 1 + 1 := by rw [hw0]; simp
  have hblh : w0.heap[w.heap.size]? = some (.cells (U32 h.list).toArray 23 (0, 0)) := by
    rw [hw0, Below.heap_alloc _ _ _ (by simp; omega), Below.heap_alloc _ _ _ (by simp), row_lit]
    rfl
  have hblr : w0.heap[w.heap.size + 1 + 1]? = some (.cells z8 23 (0, 0)) := by
    rw [hw0]; exact sched_here
  have hb0 : Below w.heap.size w w0 := by
    rw [hw0]
    exact (((Below.refl _ _).alloc (Nat.le_refl _) _).alloc (by simp) _).alloc (by simp; omega) _
  have hT0 := hT.next hb0
  rw [← hxl]
  have HXL := Lib.hid hxl
  have HX := Lib.hid hx
  have HS0 := Lib.hid hs0
  have HH := Lib.hid hblh
  have HR := Lib.hid hblr
  have HT0 := Lib.hid hT0
  unfold St.val agg16
  clear hx hs0 hblh hblr hT hT0
  go_enter Tryd.func9, Tryd.ntmps9
  go_wp2_with fail
  rw [← hw0]
  have HW0 := Lib.hid hw0
  clear hw0 hxl
  refine (sched_any x0 x1 x2 x3 x4 x5 x6 x7 x8 x9 x10 x11 x12 x13 x14 x15 w0 HX.out).mono ?_
  rintro e w1 ⟨rfl, hb1⟩
  rw [← HXL.out]
  have hb01 : Below w.heap.size w w1 := hb0.trans (hb1.mono hb0.size)
  have HT1 := Lib.hid (HT0.out.next hb1)
  have hs1 : w.heap.size + 1 + 1 + 1 ≤ w1.heap.size := by have := hb1.size; rw [HS0.out] at this; exact this
  have hh1 : w1.heap[w.heap.size]? = some (.cells (U32 h.list).toArray 23 (0, 0)) := (hb1.block _ (by rw [HS0.out]; omega)).trans HH.out
  have hr1 : w1.heap[w.heap.size + 1 + 1]? = some (.cells z8 23 (0, 0)) := (hb1.block _ (by rw [HS0.out]; omega)).trans HR.out
  obtain ⟨fin, hfin⟩ : ∃ fin : Array Value, fin = (U32 (wl xl 64)).toArray := ⟨_, rfl⟩
  have hsz : fin.size = 64 := by rw [hfin]; simp [U32, length_wl]
  have hone : fin.all (·.oneCell') = true := by rw [hfin]; exact all_one32 _
  have hin : (Tryd.prog.info? 44).map (·.size) = some fin.size := by rw [hsz]; exact info42
  rw [← hfin]
  have HSZ := Lib.hid hsz
  have HONE := Lib.hid hone
  have HIN := Lib.hid hin
  have HFIN := Lib.hid hfin
  have HH1 := Lib.hid hh1
  have HR1 := Lib.hid hr1
  clear hsz hfin hone hin hh1 hr1 hb0
  go_wp2_with (first
    | ((with_reducible refine at_store 5 ?_); refine wpList_store_named (o := ⟨none, .store 44 (.tmp 5) (.tmp 10), _, _, _, _⟩) rfl 44 (.tmp 5) (.tmp 10) rfl w1.heap.size fin rfl rfl 44 z64 (heap_alloc_new w1 _) HIN.out HSZ.out.symm HONE.out ?_; intro w2 hw2)
    | ((with_reducible refine at_load 11 ?_); refine wpList_load_row (o := ⟨some 11, .load 23 (.tmp 2), _, _, _, _⟩) rfl 23 (.tmp 2) rfl w.heap.size rfl 23 (U32 h.list).toArray (0, 0) _ (((row_made hw2.out).2.2.block _ (by omega)).trans HH1.out) Tryd.underlying23 rfl info28 ?_)
    | ((with_reducible refine at_store 6 ?_); refine wpList_store_named (o := ⟨none, .store 23 (.tmp 6) (.tmp 11), _, _, _, _⟩) rfl 23 (.tmp 6) (.tmp 11) rfl w2.heap.size (U32 h.list).toArray rfl rfl 23 z8 (heap_alloc_new w2 _) info28 rfl (all_one32 _) ?_; intro w3 hw3))
  obtain ⟨s2, r2, b2⟩ := row_made hw2.out
  obtain ⟨s3, r3, b3⟩ := row_made hw3.out
  have HS3 : w2.heap.size < w3.heap.size := by omega
  have hs2 : w1.heap.size < w2.heap.size := by omega
  have hb03 : Below w.heap.size w w3 := (hb01.trans (b2.mono hb01.size)).trans (b3.mono (by have := hb01.size; omega))
  have HT3 := Lib.hid ((HT1.out.next b2).next b3)
  have HA3 := Lib.hid ((b3.block _ (by omega)).trans r2)
  have HV3 := Lib.hid r3
  have HH3 := Lib.hid ((b3.block w.heap.size (by omega)).trans ((b2.block _ (by omega)).trans HH1.out))
  have HR3 := Lib.hid ((b3.block (w.heap.size + 1 + 1) (by omega)).trans ((b2.block _ (by omega)).trans HR1.out))
  have HB3 := Lib.hid hb03
  clear s2 r2 b2 s3 r3 b3 hw2 hw3 hb03 hb01 hb1
  go_loopw [12] (fun i wr => ∃ k : Nat, k ≤ 64 ∧ i = .int .i64 k ∧ wr.heap[w2.heap.size]? = some (.cells (U32 (rnds h (wl xl 64) k).list).toArray 23 (0, 0)) ∧ Below w2.heap.size w3 wr) (fun i _ => 64 - (intOf i).toNat)
  case atStart => exact ⟨0, Nat.zero_le _, rfl, HV3.out, Below.refl _ _⟩
  case round =>
    obtain ⟨k, hk, rfl, hv, hbel⟩ := hrel
    by_cases hlt : k < 64
    · have hvok : (rnds h (wl xl 64) k).ok := rnds_ok hh _ _
      have hnext : rnds h (wl xl 64) (k + 1) = rnd (rnds h (wl xl 64) k) (kTab.getD k 0) ((wl xl 64).getD k 0) := rfl
      have hck : wr.cell? ⟨0, k, none⟩ = some (.int .u32 ((kTab.getD k 0 : Nat) : Int)) := (hbel.cell (p := ⟨0, k, none⟩) (by show 0 < w2.heap.size; omega)).trans (HT3.out.cell k hlt).1
      have hcl : wr.cell? ⟨w1.heap.size, k, none⟩ = some (.int .u32 (((wl xl 64).getD k 0 : Nat) : Int)) := by
        rw [cell_of_row wr w1.heap.size k _ _ (0, 0) ((hbel.block _ hs2).trans HA3.out), HFIN.out, List.getElem?_toArray, U32_getD _ k (by rw [length_wl]; exact hlt)]
      have hyk := getD_lt kTab_lt k
      have hyl := getD_lt (wl_lt xl (by rw [HXL.out]; exact HX.out) 64) k
      generalize kTab.getD k 0 = kk at *
      generalize (wl xl 64).getD k 0 = ww at *
      generalize rnds h (wl xl 64) k = V at *
      have hlc : ∀ i (v : Nat), V.list[i]? = some v → wr.cell? ⟨w2.heap.size, i, none⟩ = some (.int .u32 (v : Int)) := by
        intro i v hvv
        rw [cell_of_row wr w2.heap.size i _ _ (0, 0) hv, List.getElem?_toArray, U32, List.getElem?_map, hvv]; rfl
      have c0 := hlc 0 V.a rfl
      have c1 := hlc 1 V.b rfl
      have c2 := hlc 2 V.c rfl
      have c3 := hlc 3 V.d rfl
      have c4 := hlc 4 V.e rfl
      have c5 := hlc 5 V.f rfl
      have c6 := hlc 6 V.g rfl
      have c7 := hlc 7 V.h rfl
      have HV := Lib.hid hv
      have HNX := Lib.hid hnext
      have HOK := Lib.hid hvok
      have bk0 : (0 : Int) ≤ (k : Int) := Int.natCast_nonneg _
      have bk1 : (k : Int) < 64 := by omega
      clear hlc hv hnext hvok
      go_wp2
      refine wp_region_still_tail 8 (by kernel_rfl) (by kernel_rfl) ?_
      simp only [List.take_succ_cons, List.take_zero, List.drop_succ_cons, List.drop_zero]
      repeat still_step
      refine wpStill_nil ?_
      change wpList _ _ _ _ _ wr.drew
      have hbd : Below w2.heap.size w3 wr.drew := hbel.drew
      have hvd : wr.drew.heap[w2.heap.size]? = some (.cells (U32 V.list).toArray 23 (0, 0)) := HV.out
      generalize wr.drew = wd at *
      clear c0 c1 c2 c3 c4 c5 c6 c7 hck hcl hbel
      have HVD := Lib.hid hvd
      clear hvd
      go_wp2_with fail
      rw [show ((kk : Int) + (ww : Int)) % 4294967296 = (((kk + ww) % 4294967296 : Nat) : Int) by omega]
      refine (round_any V ((kk + ww) % 4294967296) _ HOK.out (Nat.mod_lt _ (by omega))).mono ?_
      rintro e w4 ⟨rfl, hb4⟩
      obtain ⟨R, hR⟩ : ∃ R, R = rndS V ((kk + ww) % 4294967296) := ⟨_, rfl⟩
      rw [← hR]
      have HRN := Lib.hid hR
      clear hR
      have hsd : w2.heap.size < wd.heap.size := by have := hbd.size; omega
      have hv4 : w4.heap[w2.heap.size]? = some (.cells (U32 V.list).toArray 23 (0, 0)) := (hb4.block _ hsd).trans HVD.out
      have hbd4 : Below w2.heap.size w3 w4 := hbd.trans (hb4.mono (by omega))
      have HV4 := Lib.hid hv4
      clear hv4 hb4
      go_wp2_with ((with_reducible refine at_store 6 ?_); refine wpList_store_named (o := ⟨none, .store 23 (.tmp 6) (.tmp 23), _, _, _, _⟩) rfl 23 (.tmp 6) (.tmp 23) rfl w2.heap.size (U32 R.list).toArray rfl rfl 23 (U32 V.list).toArray HV4.out info28 rfl (all_one32 _) ?_; intro w5 hw5)
      have hv5 : w5.heap[w2.heap.size]? = some (.cells (U32 (rnds h (wl xl 64) (k + 1)).list).toArray 23 (0, 0)) := by
        rw [hw5.out, HNX.out, ← rndS_eq, ← HRN.out]; exact setRow_heap _ _ _ _ _ _ HV4.out
      have hbd5 : Below w2.heap.size w3 w5 := hbd4.trans (below_row hw5.out (Nat.le_refl _))
      go_roundw
      case rel => exact ⟨k + 1, by omega, by go_num, hv5, hbd5⟩
      case measure => simp [intOf]; omega
    · have k64 : k = 64 := by omega
      subst k64
      obtain ⟨V, hV⟩ : ∃ V, V = rnds h (wl xl 64) 64 := ⟨_, rfl⟩
      rw [← hV] at hv
      have HV := Lib.hid hV
      have HVV := Lib.hid hv
      have hh4 : wr.heap[w.heap.size]? = some (.cells (U32 h.list).toArray 23 (0, 0)) := (hbel.block _ (by omega)).trans HH3.out
      have hr4 : wr.heap[w.heap.size + 1 + 1]? = some (.cells z8 23 (0, 0)) := (hbel.block _ (by omega)).trans HR3.out
      have HH4 := Lib.hid hh4
      have HR4 := Lib.hid hr4
      have hb4 : Below w.heap.size w wr := HB3.out.trans (hbel.mono (by omega))
      have HB4 := Lib.hid hb4
      clear hV hv hh4 hr4 hb4 hbel
      obtain ⟨w4, rfl⟩ : ∃ w4 : World, w4 = wr := ⟨_, rfl⟩
      go_wp2
      go_loopw [25] (fun i wr => ∃ k : Nat, k ≤ 8 ∧ i = .int .i64 k ∧ wr.heap[w2.heap.size]? = some (.cells (U32 (sumTo V.list h.list k)).toArray 23 (0, 0)) ∧ Below w2.heap.size w4 wr) (fun i _ => 8 - (intOf i).toNat)
      case atStart => exact ⟨0, Nat.zero_le _, rfl, by rw [sumTo_zero]; exact HVV.out, Below.refl _ _⟩
      case round =>
        obtain ⟨k, hk, rfl, hv, hbel⟩ := hrel
        by_cases hlt : k < 8
        · have hcv : wr.cell? ⟨w2.heap.size, k, none⟩ = some (.int .u32 ((V.list.getD k 0 : Nat) : Int)) := by
            rw [cell_of_row wr w2.heap.size k _ _ (0, 0) hv, List.getElem?_toArray, U32_getD _ k (by rw [length_sumTo]; exact hlt), sumTo_at, if_pos hlt]
          have hch : wr.cell? ⟨w.heap.size, k, none⟩ = some (.int .u32 ((h.list.getD k 0 : Nat) : Int)) := by
            rw [hbel.cell (p := ⟨w.heap.size, k, none⟩) (by show w.heap.size < _; omega), cell_of_row w4 w.heap.size k _ _ (0, 0) HH4.out, List.getElem?_toArray, U32_getD h.list k hlt]
          have hfz := frozen_of_row wr w2.heap.size k _ _ hv
          have hset := heap_setCell_same wr w2.heap.size k _ 23 (.int .u32 (((V.list.getD k 0 + h.list.getD k 0) % 4294967296 : Nat) : Int)) hv
          have hst : (U32 (sumTo V.list h.list k)).toArray.setIfInBounds k (.int .u32 (((V.list.getD k 0 + h.list.getD k 0) % 4294967296 : Nat) : Int)) = (U32 (sumTo V.list h.list (k + 1))).toArray := by
            rw [List.setIfInBounds_toArray, ← sumTo_set, U32, U32, List.map_set]
          rw [hst] at hset
          have HSET := Lib.hid hset
          clear hset hst hv
          generalize V.list.getD k 0 = y at *
          generalize h.list.getD k 0 = z at *
          have bk0 : (0 : Int) ≤ (k : Int) := Int.natCast_nonneg _
          have bk1 : (k : Int) < 8 := by omega
          go_wp2
          go_region
          all_goals go_wp2
          go_roundw
          case rel =>
            refine ⟨k + 1, by omega, by go_num, ?_, (hbel.setCell (Nat.le_refl _) _).drew⟩
            have e : ((y : Int) + (z : Int)) % 4294967296 = (((y + z) % 4294967296 : Nat) : Int) := by omega
            rw [e]
            exact HSET.out
          case measure => simp [intOf]; omega
        · have k8 : k = 8 := by omega
          subst k8
          have hfin : sumTo V.list h.list 8 = (blockN h xl).list := by rw [blockN, ← HV.out]; rfl
          have hbb : Below w.heap.size w wr := HB4.out.trans (hbel.mono (by omega))
          have hr5 : wr.heap[w.heap.size + 1 + 1]? = some (.cells z8 23 (0, 0)) := (hbel.block _ (by omega)).trans HR4.out
          rw [hfin] at hv
          obtain ⟨R, hR⟩ : ∃ R, R = blockN h xl := ⟨_, rfl⟩
          rw [← hR] at hv
          have HRR := Lib.hid hR
          have HVR := Lib.hid hv
          have HR5 := Lib.hid hr5
          clear hR hv hr5 hfin hbel
          go_wp2_with (first
            | ((with_reducible refine at_load 37 ?_); refine wpList_load_row (o := ⟨some 37, .load 23 (.tmp 6), _, _, _, _⟩) rfl 23 (.tmp 6) rfl w2.heap.size rfl 23 (U32 R.list).toArray (0, 0) _ HVR.out Tryd.underlying23 rfl info28 ?_)
            | ((with_reducible refine at_store 4 ?_); refine wpList_store_named (o := ⟨none, .store 23 (.tmp 4) (.tmp 37), _, _, _, _⟩) rfl 23 (.tmp 4) (.tmp 37) rfl (w.heap.size + 1 + 1) (U32 R.list).toArray rfl rfl 23 z8 HR5.out info28 rfl (all_one32 _) ?_; intro w6 hw6))
          have hr6 : w6.heap[w.heap.size + 1 + 1]? = some (.cells (U32 R.list).toArray 23 (0, 0)) := by rw [hw6.out]; exact setRow_heap _ _ _ _ _ _ HR5.out
          refine bodyPost_ret (results_cell_row Tryd.results9 _ w6 (w.heap.size + 1 + 1) 23 _ (0, 0) _ rfl hr6 Tryd.underlying23 rfl info28) rfl ⟨by rw [← HRR.out]; rfl, ?_⟩
          exact hbb.trans (below_row hw6.out (by omega))
end Go.Proofs.YtdpijlkhcagfaaaDoor
