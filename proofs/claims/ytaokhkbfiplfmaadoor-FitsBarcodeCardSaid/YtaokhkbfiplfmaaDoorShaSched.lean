/-
  Contract for schedule of package sha: sixteen words make just these sixty-four. Conditions: the words fit 32 bits.
  Contract for Block of package sha: eight words and sixteen make just these eight. Conditions: the words fit 32 bits; the package's table of constants holds what its text lays.
  Contract for the reference's Pad of layer 2: at most 5000 bytes are padded just so. Conditions: the slice reads as bytes.
  Contracts for slices.Grow of nil and slices.Concat of bytes: rows one behind the other, in memory of the call's own. Conditions: together at most 2^47 bytes, and at least one.
  Contract for bits.Put: just these bytes, or the document's errors. Conditions: the numbers fit.
  Contracts for padding and Pad of package sha: bytes are padded just so. Conditions: the slice reads as bytes, at most 2^47 - 4096 of them.
  Contract for bits.Words: at most 4000 bytes are just these words, or refused if they are no multiple of 4. Conditions: the slice reads as bytes.
  Contract for bits.Bytes (at most 1000 words): just these bytes. Conditions: the slice reads as words.
-/
import Derived.Test.YtaokhkbfiplfmaaDoorFitsP
import Derived.Test.YtaokhkbfiplfmaaDoorMem
import Derived.Test.YtaokhkbfiplfmaaDoorMath
import Derived.Lib.AppendZeros
section
namespace Go.Proofs.YtaokhkbfiplfmaaDoor
set_option linter.unusedVariables false
open Go.ChangeShapes Go.WideShapes Go.ChangeAt Go.RowKit

/-- The first k words, and zeros behind them. -/
def wlZ (w : List Nat) (k : Nat) : List Nat := wl w k ++ List.replicate (64 - k) 0
theorem length_wlZ (w : List Nat) (k : Nat) (h : k ≤ 64) : (wlZ w k).length = 64 := by simp [wlZ, length_wl]; omega
theorem wlZ_set (w : List Nat) (k : Nat) (h : k < 64) : (wlZ w k).set k (wNext w (wl w k) k) = wlZ w (k + 1) := by
  unfold wlZ
  rw [List.set_append_right _ _ (by rw [length_wl]; exact Nat.le_refl _), length_wl, Nat.sub_self, show 64 - k = (64 - (k + 1)) + 1 by omega, List.replicate_succ, List.set_cons_zero, wl]
  simp
theorem wlZ_at (w : List Nat) (k i : Nat) (h : i < k) : (wlZ w k).getD i 0 = (wl w k).getD i 0 := by
  unfold wlZ
  rw [List.getD_eq_getElem?_getD, List.getD_eq_getElem?_getD, List.getElem?_append_left (by rw [length_wl]; exact h)]
theorem wlZ_all (w : List Nat) : wlZ w 64 = wl w 64 := by simp [wlZ]

theorem three_made {w w' : World} {ca cb cc cd : Array Value} {ta tb tc : TypeId} (h : w' = (((w.alloc (.cells ca ta)).alloc (.cells cb tb)).alloc (.cells cc tc)).setRow (w.heap.size + 1 + 1) cd) :
    w'.heap.size = w.heap.size + 1 + 1 + 1 ∧ w'.heap[w.heap.size]? = some (.cells ca ta (0, 0)) ∧ w'.heap[w.heap.size + 1]? = some (.cells cb tb (0, 0)) ∧ w'.heap[w.heap.size + 1 + 1]? = some (.cells cd tc (0, 0)) ∧ Below w.heap.size w w' := by
  have h2 : (((w.alloc (.cells ca ta)).alloc (.cells cb tb)).alloc (.cells cc tc)).heap[w.heap.size + 1 + 1]? = some (.cells cc tc (0, 0)) := by
    have := heap_alloc_new ((w.alloc (.cells ca ta)).alloc (.cells cb tb)) (.cells cc tc)
    simpa using this
  subst h
  refine ⟨by simp, ?_, ?_, setRow_heap _ _ _ _ _ _ h2, ?_⟩
  · rw [setRow_other _ _ _ _ (by omega), Below.heap_alloc _ _ _ (by simp; omega), Below.heap_alloc _ _ _ (by simp), heap_alloc_new]
  · rw [setRow_other _ _ _ _ (by omega), Below.heap_alloc _ _ _ (by simp), heap_alloc2_new]
  · exact below_setRow ((((Below.refl _ _).alloc (Nat.le_refl _) _).alloc (by simp) _).alloc (by simp; omega) _) (by omega) _

theorem stirEarly_q (x : Nat) (w : World) (hx : x < 4294967296) :
    Calls Tryd.prog 76 #[.int .u32 x] w fun e w' => e = .returned (.int .u32 ((twoN x 7 18 8 : Nat) : Int)) ∧ w' = w := (stirEarly_any x w hx).mono fun _ _ ⟨a, b⟩ => ⟨a, b.symm⟩
theorem stirLate_q (x : Nat) (w : World) (hx : x < 4294967296) :
    Calls Tryd.prog 77 #[.int .u32 x] w fun e w' => e = .returned (.int .u32 ((twoN x 17 19 1024 : Nat) : Int)) ∧ w' = w := (stirLate_any x w hx).mono fun _ _ ⟨a, b⟩ => ⟨a, b.symm⟩
theorem info42 : (Tryd.prog.info? 109).map (·.size) = some 64 := by kernel_rfl
theorem sched_here {w : World} {A B C : Obj} : (((w.alloc A).alloc B).alloc C).heap[w.heap.size + 1 + 1]? = some C := by
  have := heap_alloc_new ((w.alloc A).alloc B) C
  simpa using this

set_option maxRecDepth 100000 in
set_option maxHeartbeats 1600000 in
theorem sched_any (x0 x1 x2 x3 x4 x5 x6 x7 x8 x9 x10 x11 x12 x13 x14 x15 : Nat) (w : World) (hx : ∀ x ∈ [x0, x1, x2, x3, x4, x5, x6, x7, x8, x9, x10, x11, x12, x13, x14, x15], x < 4294967296) :
    Calls Tryd.prog 65 #[agg16 x0 x1 x2 x3 x4 x5 x6 x7 x8 x9 x10 x11 x12 x13 x14 x15] w fun e w' => e = .returned (.agg (U32 (wl [x0, x1, x2, x3, x4, x5, x6, x7, x8, x9, x10, x11, x12, x13, x14, x15] 64)).toArray) ∧ Below w.heap.size w w' := by
  obtain ⟨xl, hxl⟩ : ∃ xl : List Nat, xl = [x0, x1, x2, x3, x4, x5, x6, x7, x8, x9, x10, x11, x12, x13, x14, x15] := ⟨_, rfl⟩
  rw [← hxl] at hx ⊢
  have hlen : xl.length = 16 := by rw [hxl]; rfl
  have HXL := Lib.hid hxl
  have HX := Lib.hid hx
  have HLEN := Lib.hid hlen
  clear hx hxl hlen
  unfold agg16
  go_enter Tryd.func65, Tryd.ntmps65
  go_wp2_with ((with_reducible refine at_store 3 ?_); refine wpList_store_named (o := ⟨none, .store 109 (.tmp 3) (.tmp 5), _, _, _, _⟩) rfl 109 (.tmp 3) (.tmp 5) rfl (w.heap.size + 1 + 1) z64 rfl rfl 109 z64 sched_here info42 rfl (all_one32 (List.replicate 64 0)) ?_; intro w0 hw0)
  obtain ⟨hs0, hbl0, hbl1, hbl2, hb0⟩ := three_made hw0.out
  clear hw0
  have hbl2' : w0.heap[w.heap.size + 1 + 1]? = some (.cells (U32 (wlZ xl 0)).toArray 109 (0, 0)) := hbl2
  have hbl0' : w0.heap[w.heap.size]? = some (.cells (U32 xl).toArray 103 (0, 0)) := by rw [HXL.out]; exact hbl0
  have HS0 := Lib.hid hs0
  have HB2 := Lib.hid hbl2'
  have HB1 := Lib.hid hbl1
  have HB0 := Lib.hid hbl0'
  clear hs0 hbl0 hbl1 hbl2 hbl2' hbl0'
  go_loopw [6] (fun i wr => ∃ k : Nat, k ≤ 64 ∧ i = .int .i64 k ∧ wr.heap[w.heap.size + 1 + 1]? = some (.cells (U32 (wlZ xl k)).toArray 109 (0, 0)) ∧ Below (w.heap.size + 1 + 1) w0 wr) (fun i _ => 64 - (intOf i).toNat)
  case atStart => exact ⟨0, Nat.zero_le _, rfl, HB2.out, Below.refl _ _⟩
  case round =>
    obtain ⟨k, hk, rfl, hv, hbel⟩ := hrel
    by_cases hlt : k < 64
    · have hfz := frozen_of_row wr _ k _ _ hv
      have hset := heap_setCell_same wr _ k _ 109 (.int .u32 ((wNext xl (wl xl k) k : Nat) : Int)) hv
      have hst : (U32 (wlZ xl k)).toArray.setIfInBounds k (.int .u32 ((wNext xl (wl xl k) k : Nat) : Int)) = (U32 (wlZ xl (k + 1))).toArray := by
        rw [List.setIfInBounds_toArray, ← wlZ_set xl k hlt, U32, U32, List.map_set]
      rw [hst] at hset
      have HSET := Lib.hid hset
      have hcur : wr.cell? ⟨w.heap.size + 1 + 1, k, none⟩ = some (.int .u32 (((wlZ xl k).getD k 0 : Nat) : Int)) := by
        rw [cell_of_row wr _ k _ _ (0, 0) hv, List.getElem?_toArray, U32_getD _ k (by rw [length_wlZ xl k hk]; exact hlt)]
      clear hset hst
      have bk0 : (0 : Int) ≤ (k : Int) := Int.natCast_nonneg _
      have bk1 : (k : Int) < 64 := by omega
      by_cases h16 : k < 16
      · have hc : wr.cell? ⟨w.heap.size, k, none⟩ = some (.int .u32 ((xl.getD k 0 : Nat) : Int)) := by
          rw [cell_of_row wr _ k _ _ (0, 0) ((hbel.block _ (by omega)).trans HB0.out), List.getElem?_toArray, U32_getD xl k (by rw [HLEN.out]; exact h16)]
        have hnx : wNext xl (wl xl k) k = xl.getD k 0 := by unfold wNext; rw [if_pos h16]
        rw [hnx] at HSET
        have bk2 : (k : Int) < 16 := by omega
        generalize (wlZ xl k).getD k 0 = z at *
        generalize xl.getD k 0 = y at *
        have HV := Lib.hid hv
        clear hv hnx
        go_wp2
        go_roundw
        case rel => exact ⟨k + 1, by omega, by go_num, HSET.out, hbel.setCell (Nat.le_refl _) _⟩
        case measure => simp [intOf]; omega
      · have hcs : ∀ i, i < k → wr.cell? ⟨w.heap.size + 1 + 1, i, none⟩ = some (.int .u32 (((wl xl k).getD i 0 : Nat) : Int)) := by
          intro i hi
          rw [cell_of_row wr _ i _ _ (0, 0) hv, List.getElem?_toArray, U32_getD _ i (by rw [length_wlZ xl k hk]; omega), wlZ_at xl k i hi]
        have hc1 := hcs (k - 16) (by omega)
        have hc2 := hcs (k - 15) (by omega)
        have hc3 := hcs (k - 7) (by omega)
        have hc4 := hcs (k - 2) (by omega)
        clear hcs
        have hy1 := getD_lt (wl_lt xl HX.out k) (k - 16)
        have hy2 := getD_lt (wl_lt xl HX.out k) (k - 15)
        have hy3 := getD_lt (wl_lt xl HX.out k) (k - 7)
        have hy4 := getD_lt (wl_lt xl HX.out k) (k - 2)
        have hnx : wNext xl (wl xl k) k = ((wl xl k).getD (k - 16) 0 + twoN ((wl xl k).getD (k - 15) 0) 7 18 8 + (wl xl k).getD (k - 7) 0 + twoN ((wl xl k).getD (k - 2) 0) 17 19 1024) % 4294967296 := by rw [wNext, if_neg h16]
        rw [hnx] at HSET
        clear hnx
        generalize (wl xl k).getD (k - 16) 0 = y1 at *
        generalize (wl xl k).getD (k - 15) 0 = y2 at *
        generalize (wl xl k).getD (k - 7) 0 = y3 at *
        generalize (wl xl k).getD (k - 2) 0 = y4 at *
        generalize (wlZ xl k).getD k 0 = z at *
        have h16' : 16 ≤ k := by omega
        have h15' : (15 : Int) ≤ (k : Int) := by omega
        have h7' : (7 : Int) ≤ (k : Int) := by omega
        have h2' : (2 : Int) ≤ (k : Int) := by omega
        have b1 : (0 : Int) ≤ (k : Int) - 16 := by omega
        have b1' : (k : Int) - 16 < 64 := by omega
        have b2 : (0 : Int) ≤ (k : Int) - 15 := by omega
        have b2' : (k : Int) - 15 < 64 := by omega
        have b3 : (0 : Int) ≤ (k : Int) - 7 := by omega
        have b3' : (k : Int) - 7 < 64 := by omega
        have b4 : (0 : Int) ≤ (k : Int) - 2 := by omega
        have b4' : (k : Int) - 2 < 64 := by omega
        have e1 : ((k : Int) - 16).toNat = k - 16 := by omega
        have e2 : ((k : Int) - 15).toNat = k - 15 := by omega
        have e3 : ((k : Int) - 7).toNat = k - 7 := by omega
        have e4 : ((k : Int) - 2).toNat = k - 2 := by omega
        have f1 : IntKind.i64.wrap ((k : Int) - 16) = (k : Int) - 16 := IntWalk.i64_in _ (by omega)
        have f2 : IntKind.i64.wrap ((k : Int) - 15) = (k : Int) - 15 := IntWalk.i64_in _ (by omega)
        have f3 : IntKind.i64.wrap ((k : Int) - 7) = (k : Int) - 7 := IntWalk.i64_in _ (by omega)
        have f4 : IntKind.i64.wrap ((k : Int) - 2) = (k : Int) - 2 := IntWalk.i64_in _ (by omega)
        have HV := Lib.hid hv
        clear hv
        go_wp2
        refine wp_region_still_tail 23 (by kernel_rfl) (by kernel_rfl) ?_
        simp only [List.take_succ_cons, List.take_zero, List.drop_succ_cons, List.drop_zero]
        repeat still_step
        still_call (stirEarly_q _ _ (by assumption))
        repeat still_step
        still_call (stirLate_q _ _ (by assumption))
        repeat still_step
        refine wpStill_nil ?_
        change wpList _ _ _ _ _ wr.drew
        clear e1 e2 e3 e4 f1 f2 f3 f4
        go_wp2
        go_roundw
        case rel =>
          refine ⟨k + 1, by omega, by go_num, ?_, (hbel.setCell (Nat.le_refl _) _).drew⟩
          have e : ((y1 : Int) + (twoN y2 7 18 8 : Nat) + (y3 : Int) + (twoN y4 17 19 1024 : Nat)) % 4294967296 = (((y1 + twoN y2 7 18 8 + y3 + twoN y4 17 19 1024) % 4294967296 : Nat) : Int) := by omega
          rw [e]
          exact HSET.out
        case measure => simp [intOf]; omega
    · have k64 : k = 64 := by omega
      subst k64
      have hbr : wr.heap[w.heap.size + 1]? = some (.cells z64 109 (0, 0)) := (hbel.block _ (by omega)).trans HB1.out
      rw [wlZ_all] at hv
      obtain ⟨fin, hfin⟩ : ∃ fin : Array Value, fin = (U32 (wl xl 64)).toArray := ⟨_, rfl⟩
      have hsz : fin.size = 64 := by rw [hfin]; simp [U32, length_wl]
      have hone : fin.all (·.oneCell') = true := by rw [hfin]; exact all_one32 _
      have hin : (Tryd.prog.info? 109).map (·.size) = some fin.size := by rw [hsz]; exact info42
      rw [← hfin] at hv
      have HFIN := Lib.hid hfin
      have HV := Lib.hid hv
      have HBR := Lib.hid hbr
      have HSZ := Lib.hid hsz
      have HONE := Lib.hid hone
      have HIN := Lib.hid hin
      clear hv hbr hsz hfin hone hin
      go_wp2_with (first
        | ((with_reducible refine at_load 40 ?_); refine wpList_load_row (o := ⟨some 40, .load 109 (.tmp 3), _, _, _, _⟩) rfl 109 (.tmp 3) rfl (w.heap.size + 1 + 1) rfl 109 fin (0, 0) _ HV.out Tryd.underlying109 rfl HIN.out ?_)
        | ((with_reducible refine at_store 2 ?_); refine wpList_store_named (o := ⟨none, .store 109 (.tmp 2) (.tmp 40), _, _, _, _⟩) rfl 109 (.tmp 2) (.tmp 40) rfl (w.heap.size + 1) fin rfl rfl 109 z64 HBR.out HIN.out HSZ.out.symm HONE.out ?_; intro w1 hw1))
      have hr1 : w1.heap[w.heap.size + 1]? = some (.cells fin 109 (0, 0)) := by rw [hw1.out]; exact setRow_heap _ _ _ _ _ _ HBR.out
      refine bodyPost_ret (results_cell_row Tryd.results65 _ w1 (w.heap.size + 1) 109 _ (0, 0) _ rfl hr1 Tryd.underlying109 rfl HIN.out) rfl ⟨by rw [HFIN.out], ?_⟩
      have h1 : Below w.heap.size w0 wr := hbel.mono (by omega)
      exact (hb0.trans (h1.mono (by omega))).trans (below_row hw1.out (by omega))
end Go.Proofs.YtaokhkbfiplfmaaDoor
end
section
namespace Go.Proofs.YtaokhkbfiplfmaaDoor
set_option linter.unusedVariables false
open Go.ChangeShapes Go.WideShapes Go.ChangeAt Go.RowKit

/-- The package's two tables hold what its text lays. -/
def Tabs (w : World) : Prop := Rd w w.heap.size (some ⟨1, 0, none⟩) (U32 kTab) ∧ Rd w w.heap.size (some ⟨0, 0, none⟩) (U32 beginN.list)
theorem Tabs.next {w w' : World} (h : Tabs w) (hb : Below w.heap.size w w') : Tabs w' := ⟨h.1.next hb, h.2.next hb⟩
theorem Tabs.cell {w : World} (h : Tabs w) (k : Nat) (hk : k < 64) : w.cell? ⟨1, k, none⟩ = some (.int .u32 ((kTab.getD k 0 : Nat) : Int)) ∧ 1 < w.heap.size := by
  obtain ⟨ad, he, hlt, hc⟩ := h.1 k _ (U32_getD kTab k (by rw [length_kTab]; exact hk))
  cases he
  rw [at_add] at hc
  exact ⟨hc, hlt⟩
theorem info28 : (Tryd.prog.info? 101).map (·.size) = some 8 := by kernel_rfl
theorem row_made {w1 w2 : World} {cc cd : Array Value} {t : TypeId} (h : w2 = (w1.alloc (.cells cc t)).setRow w1.heap.size cd) :
    w2.heap.size = w1.heap.size + 1 ∧ w2.heap[w1.heap.size]? = some (.cells cd t (0, 0)) ∧ Below w1.heap.size w1 w2 := by
  subst h
  exact ⟨by simp, setRow_heap _ _ _ _ _ _ (heap_alloc_new w1 _), below_setRow ((Below.refl _ _).alloc (Nat.le_refl _) _) (Nat.le_refl _) _⟩

set_option maxRecDepth 100000 in
set_option maxHeartbeats 1600000 in
theorem block_any (h : St) (x0 x1 x2 x3 x4 x5 x6 x7 x8 x9 x10 x11 x12 x13 x14 x15 : Nat) (w : World) (hT : Tabs w) (hh : h.ok) (hx : ∀ x ∈ [x0, x1, x2, x3, x4, x5, x6, x7, x8, x9, x10, x11, x12, x13, x14, x15], x < 4294967296) :
    Calls Tryd.prog 53 #[h.val, agg16 x0 x1 x2 x3 x4 x5 x6 x7 x8 x9 x10 x11 x12 x13 x14 x15] w fun e w' => e = .returned (blockN h [x0, x1, x2, x3, x4, x5, x6, x7, x8, x9, x10, x11, x12, x13, x14, x15]).val ∧ Below w.heap.size w w' := by
  obtain ⟨xl, hxl⟩ : ∃ xl : List Nat, xl = [x0, x1, x2, x3, x4, x5, x6, x7, x8, x9, x10, x11, x12, x13, x14, x15] := ⟨_, rfl⟩
  obtain ⟨w0, hw0⟩ : ∃ w0 : World, w0 = ((w.alloc (.cells #[.int .u32 h.a, .int .u32 h.b, .int .u32 h.c, .int .u32 h.d, .int .u32 h.e, .int .u32 h.f, .int .u32 h.g, .int .u32 h.h] 101)).alloc (.cells #[.int .u32 x0, .int .u32 x1, .int .u32 x2, .int .u32 x3, .int .u32 x4, .int .u32 x5, .int .u32 x6, .int .u32 x7, .int .u32 x8, .int .u32 x9, .int .u32 x10, .int .u32 x11, .int .u32 x12, .int .u32 x13, .int .u32 x14, .int .u32 x15] 103)).alloc (.cells #[.int .u32 0, .int .u32 0, .int .u32 0, .int .u32 0, .int .u32 0, .int .u32 0, .int .u32 0, .int .u32 0] 101) := ⟨_, rfl⟩
  have hs0 : w0.heap.size = w.heap.size + 1 + 1 + 1 := by rw [hw0]; simp
  have hblh : w0.heap[w.heap.size]? = some (.cells (U32 h.list).toArray 101 (0, 0)) := by
    rw [hw0, Below.heap_alloc _ _ _ (by simp; omega), Below.heap_alloc _ _ _ (by simp), row_lit]
    rfl
  have hblr : w0.heap[w.heap.size + 1 + 1]? = some (.cells z8 101 (0, 0)) := by
    rw [hw0]; exact sched_here
  have hb0 : Below w.heap.size w w0 := by
    rw [hw0]
    exact (((Below.refl _ _).alloc (Nat.le_refl _) _).alloc (by simp) _).alloc (by simp; omega) _
  have hT0 := hT.next hb0
  rw [← hxl]
  have HXL := Lib.hid hxl
  have HX := Lib.hid hx
  have HS0 := Lib.hid hs0
  have HH := Lib.hid hblh
  have HR := Lib.hid hblr
  have HT0 := Lib.hid hT0
  unfold St.val agg16
  clear hx hs0 hblh hblr hT hT0
  go_enter Tryd.func53, Tryd.ntmps53
  go_wp2_with fail
  rw [← hw0]
  have HW0 := Lib.hid hw0
  clear hw0 hxl
  refine (sched_any x0 x1 x2 x3 x4 x5 x6 x7 x8 x9 x10 x11 x12 x13 x14 x15 w0 HX.out).mono ?_
  rintro e w1 ⟨rfl, hb1⟩
  rw [← HXL.out]
  have hb01 : Below w.heap.size w w1 := hb0.trans (hb1.mono hb0.size)
  have HT1 := Lib.hid (HT0.out.next hb1)
  have hs1 : w.heap.size + 1 + 1 + 1 ≤ w1.heap.size := by have := hb1.size; rw [HS0.out] at this; exact this
  have hh1 : w1.heap[w.heap.size]? = some (.cells (U32 h.list).toArray 101 (0, 0)) := (hb1.block _ (by rw [HS0.out]; omega)).trans HH.out
  have hr1 : w1.heap[w.heap.size + 1 + 1]? = some (.cells z8 101 (0, 0)) := (hb1.block _ (by rw [HS0.out]; omega)).trans HR.out
  obtain ⟨fin, hfin⟩ : ∃ fin : Array Value, fin = (U32 (wl xl 64)).toArray := ⟨_, rfl⟩
  have hsz : fin.size = 64 := by rw [hfin]; simp [U32, length_wl]
  have hone : fin.all (·.oneCell') = true := by rw [hfin]; exact all_one32 _
  have hin : (Tryd.prog.info? 109).map (·.size) = some fin.size := by rw [hsz]; exact info42
  rw [← hfin]
  have HSZ := Lib.hid hsz
  have HONE := Lib.hid hone
  have HIN := Lib.hid hin
  have HFIN := Lib.hid hfin
  have HH1 := Lib.hid hh1
  have HR1 := Lib.hid hr1
  clear hsz hfin hone hin hh1 hr1 hb0
  go_wp2_with (first
    | ((with_reducible refine at_store 5 ?_); refine wpList_store_named (o := ⟨none, .store 109 (.tmp 5) (.tmp 10), _, _, _, _⟩) rfl 109 (.tmp 5) (.tmp 10) rfl w1.heap.size fin rfl rfl 109 z64 (heap_alloc_new w1 _) HIN.out HSZ.out.symm HONE.out ?_; intro w2 hw2)
    | ((with_reducible refine at_load 11 ?_); refine wpList_load_row (o := ⟨some 11, .load 101 (.tmp 2), _, _, _, _⟩) rfl 101 (.tmp 2) rfl w.heap.size rfl 101 (U32 h.list).toArray (0, 0) _ (((row_made hw2.out).2.2.block _ (by omega)).trans HH1.out) Tryd.underlying101 rfl info28 ?_)
    | ((with_reducible refine at_store 6 ?_); refine wpList_store_named (o := ⟨none, .store 101 (.tmp 6) (.tmp 11), _, _, _, _⟩) rfl 101 (.tmp 6) (.tmp 11) rfl w2.heap.size (U32 h.list).toArray rfl rfl 101 z8 (heap_alloc_new w2 _) info28 rfl (all_one32 _) ?_; intro w3 hw3))
  obtain ⟨s2, r2, b2⟩ := row_made hw2.out
  obtain ⟨s3, r3, b3⟩ := row_made hw3.out
  have HS3 : w2.heap.size < w3.heap.size := by omega
  have hs2 : w1.heap.size < w2.heap.size := by omega
  have hb03 : Below w.heap.size w w3 := (hb01.trans (b2.mono hb01.size)).trans (b3.mono (by have := hb01.size; omega))
  have HT3 := Lib.hid ((HT1.out.next b2).next b3)
  have HA3 := Lib.hid ((b3.block _ (by omega)).trans r2)
  have HV3 := Lib.hid r3
  have HH3 := Lib.hid ((b3.block w.heap.size (by omega)).trans ((b2.block _ (by omega)).trans HH1.out))
  have HR3 := Lib.hid ((b3.block (w.heap.size + 1 + 1) (by omega)).trans ((b2.block _ (by omega)).trans HR1.out))
  have HB3 := Lib.hid hb03
  clear s2 r2 b2 s3 r3 b3 hw2 hw3 hb03 hb01 hb1
  go_loopw [12] (fun i wr => ∃ k : Nat, k ≤ 64 ∧ i = .int .i64 k ∧ wr.heap[w2.heap.size]? = some (.cells (U32 (rnds h (wl xl 64) k).list).toArray 101 (0, 0)) ∧ Below w2.heap.size w3 wr) (fun i _ => 64 - (intOf i).toNat)
  case atStart => exact ⟨0, Nat.zero_le _, rfl, HV3.out, Below.refl _ _⟩
  case round =>
    obtain ⟨k, hk, rfl, hv, hbel⟩ := hrel
    by_cases hlt : k < 64
    · have hvok : (rnds h (wl xl 64) k).ok := rnds_ok hh _ _
      have hnext : rnds h (wl xl 64) (k + 1) = rnd (rnds h (wl xl 64) k) (kTab.getD k 0) ((wl xl 64).getD k 0) := rfl
      have hck : wr.cell? ⟨1, k, none⟩ = some (.int .u32 ((kTab.getD k 0 : Nat) : Int)) := (hbel.cell (p := ⟨1, k, none⟩) (by show 1 < w2.heap.size; omega)).trans (HT3.out.cell k hlt).1
      have hcl : wr.cell? ⟨w1.heap.size, k, none⟩ = some (.int .u32 (((wl xl 64).getD k 0 : Nat) : Int)) := by
        rw [cell_of_row wr w1.heap.size k _ _ (0, 0) ((hbel.block _ hs2).trans HA3.out), HFIN.out, List.getElem?_toArray, U32_getD _ k (by rw [length_wl]; exact hlt)]
      have hyk := getD_lt kTab_lt k
      have hyl := getD_lt (wl_lt xl (by rw [HXL.out]; exact HX.out) 64) k
      generalize kTab.getD k 0 = kk at *
      generalize (wl xl 64).getD k 0 = ww at *
      generalize rnds h (wl xl 64) k = V at *
      have hlc : ∀ i (v : Nat), V.list[i]? = some v → wr.cell? ⟨w2.heap.size, i, none⟩ = some (.int .u32 (v : Int)) := by
        intro i v hvv
        rw [cell_of_row wr w2.heap.size i _ _ (0, 0) hv, List.getElem?_toArray, U32, List.getElem?_map, hvv]; rfl
      have c0 := hlc 0 V.a rfl
      have c1 := hlc 1 V.b rfl
      have c2 := hlc 2 V.c rfl
      have c3 := hlc 3 V.d rfl
      have c4 := hlc 4 V.e rfl
      have c5 := hlc 5 V.f rfl
      have c6 := hlc 6 V.g rfl
      have c7 := hlc 7 V.h rfl
      have HV := Lib.hid hv
      have HNX := Lib.hid hnext
      have HOK := Lib.hid hvok
      have bk0 : (0 : Int) ≤ (k : Int) := Int.natCast_nonneg _
      have bk1 : (k : Int) < 64 := by omega
      clear hlc hv hnext hvok
      go_wp2
      refine wp_region_still_tail 8 (by kernel_rfl) (by kernel_rfl) ?_
      simp only [List.take_succ_cons, List.take_zero, List.drop_succ_cons, List.drop_zero]
      repeat still_step
      refine wpStill_nil ?_
      change wpList _ _ _ _ _ wr.drew
      have hbd : Below w2.heap.size w3 wr.drew := hbel.drew
      have hvd : wr.drew.heap[w2.heap.size]? = some (.cells (U32 V.list).toArray 101 (0, 0)) := HV.out
      generalize wr.drew = wd at *
      clear c0 c1 c2 c3 c4 c5 c6 c7 hck hcl hbel
      have HVD := Lib.hid hvd
      clear hvd
      go_wp2_with fail
      rw [show ((kk : Int) + (ww : Int)) % 4294967296 = (((kk + ww) % 4294967296 : Nat) : Int) by omega]
      refine (round_any V ((kk + ww) % 4294967296) _ HOK.out (Nat.mod_lt _ (by omega))).mono ?_
      rintro e w4 ⟨rfl, hb4⟩
      obtain ⟨R, hR⟩ : ∃ R, R = rndS V ((kk + ww) % 4294967296) := ⟨_, rfl⟩
      rw [← hR]
      have HRN := Lib.hid hR
      clear hR
      have hsd : w2.heap.size < wd.heap.size := by have := hbd.size; omega
      have hv4 : w4.heap[w2.heap.size]? = some (.cells (U32 V.list).toArray 101 (0, 0)) := (hb4.block _ hsd).trans HVD.out
      have hbd4 : Below w2.heap.size w3 w4 := hbd.trans (hb4.mono (by omega))
      have HV4 := Lib.hid hv4
      clear hv4 hb4
      go_wp2_with ((with_reducible refine at_store 6 ?_); refine wpList_store_named (o := ⟨none, .store 101 (.tmp 6) (.tmp 23), _, _, _, _⟩) rfl 101 (.tmp 6) (.tmp 23) rfl w2.heap.size (U32 R.list).toArray rfl rfl 101 (U32 V.list).toArray HV4.out info28 rfl (all_one32 _) ?_; intro w5 hw5)
      have hv5 : w5.heap[w2.heap.size]? = some (.cells (U32 (rnds h (wl xl 64) (k + 1)).list).toArray 101 (0, 0)) := by
        rw [hw5.out, HNX.out, ← rndS_eq, ← HRN.out]; exact setRow_heap _ _ _ _ _ _ HV4.out
      have hbd5 : Below w2.heap.size w3 w5 := hbd4.trans (below_row hw5.out (Nat.le_refl _))
      go_roundw
      case rel => exact ⟨k + 1, by omega, by go_num, hv5, hbd5⟩
      case measure => simp [intOf]; omega
    · have k64 : k = 64 := by omega
      subst k64
      obtain ⟨V, hV⟩ : ∃ V, V = rnds h (wl xl 64) 64 := ⟨_, rfl⟩
      rw [← hV] at hv
      have HV := Lib.hid hV
      have HVV := Lib.hid hv
      have hh4 : wr.heap[w.heap.size]? = some (.cells (U32 h.list).toArray 101 (0, 0)) := (hbel.block _ (by omega)).trans HH3.out
      have hr4 : wr.heap[w.heap.size + 1 + 1]? = some (.cells z8 101 (0, 0)) := (hbel.block _ (by omega)).trans HR3.out
      have HH4 := Lib.hid hh4
      have HR4 := Lib.hid hr4
      have hb4 : Below w.heap.size w wr := HB3.out.trans (hbel.mono (by omega))
      have HB4 := Lib.hid hb4
      clear hV hv hh4 hr4 hb4 hbel
      obtain ⟨w4, rfl⟩ : ∃ w4 : World, w4 = wr := ⟨_, rfl⟩
      go_wp2
      go_loopw [25] (fun i wr => ∃ k : Nat, k ≤ 8 ∧ i = .int .i64 k ∧ wr.heap[w2.heap.size]? = some (.cells (U32 (sumTo V.list h.list k)).toArray 101 (0, 0)) ∧ Below w2.heap.size w4 wr) (fun i _ => 8 - (intOf i).toNat)
      case atStart => exact ⟨0, Nat.zero_le _, rfl, by rw [sumTo_zero]; exact HVV.out, Below.refl _ _⟩
      case round =>
        obtain ⟨k, hk, rfl, hv, hbel⟩ := hrel
        by_cases hlt : k < 8
        · have hcv : wr.cell? ⟨w2.heap.size, k, none⟩ = some (.int .u32 ((V.list.getD k 0 : Nat) : Int)) := by
            rw [cell_of_row wr w2.heap.size k _ _ (0, 0) hv, List.getElem?_toArray, U32_getD _ k (by rw [length_sumTo]; exact hlt), sumTo_at, if_pos hlt]
          have hch : wr.cell? ⟨w.heap.size, k, none⟩ = some (.int .u32 ((h.list.getD k 0 : Nat) : Int)) := by
            rw [hbel.cell (p := ⟨w.heap.size, k, none⟩) (by show w.heap.size < _; omega), cell_of_row w4 w.heap.size k _ _ (0, 0) HH4.out, List.getElem?_toArray, U32_getD h.list k hlt]
          have hfz := frozen_of_row wr w2.heap.size k _ _ hv
          have hset := heap_setCell_same wr w2.heap.size k _ 101 (.int .u32 (((V.list.getD k 0 + h.list.getD k 0) % 4294967296 : Nat) : Int)) hv
          have hst : (U32 (sumTo V.list h.list k)).toArray.setIfInBounds k (.int .u32 (((V.list.getD k 0 + h.list.getD k 0) % 4294967296 : Nat) : Int)) = (U32 (sumTo V.list h.list (k + 1))).toArray := by
            rw [List.setIfInBounds_toArray, ← sumTo_set, U32, U32, List.map_set]
          rw [hst] at hset
          have HSET := Lib.hid hset
          clear hset hst hv
          generalize V.list.getD k 0 = y at *
          generalize h.list.getD k 0 = z at *
          have bk0 : (0 : Int) ≤ (k : Int) := Int.natCast_nonneg _
          have bk1 : (k : Int) < 8 := by omega
          go_wp2
          go_region
          all_goals go_wp2
          go_roundw
          case rel =>
            refine ⟨k + 1, by omega, by go_num, ?_, (hbel.setCell (Nat.le_refl _) _).drew⟩
            have e : ((y : Int) + (z : Int)) % 4294967296 = (((y + z) % 4294967296 : Nat) : Int) := by omega
            rw [e]
            exact HSET.out
          case measure => simp [intOf]; omega
        · have k8 : k = 8 := by omega
          subst k8
          have hfin : sumTo V.list h.list 8 = (blockN h xl).list := by rw [blockN, ← HV.out]; rfl
          have hbb : Below w.heap.size w wr := HB4.out.trans (hbel.mono (by omega))
          have hr5 : wr.heap[w.heap.size + 1 + 1]? = some (.cells z8 101 (0, 0)) := (hbel.block _ (by omega)).trans HR4.out
          rw [hfin] at hv
          obtain ⟨R, hR⟩ : ∃ R, R = blockN h xl := ⟨_, rfl⟩
          rw [← hR] at hv
          have HRR := Lib.hid hR
          have HVR := Lib.hid hv
          have HR5 := Lib.hid hr5
          clear hR hv hr5 hfin hbel
          go_wp2_with (first
            | ((with_reducible refine at_load 37 ?_); refine wpList_load_row (o := ⟨some 37, .load 101 (.tmp 6), _, _, _, _⟩) rfl 101 (.tmp 6) rfl w2.heap.size rfl 101 (U32 R.list).toArray (0, 0) _ HVR.out Tryd.underlying101 rfl info28 ?_)
            | ((with_reducible refine at_store 4 ?_); refine wpList_store_named (o := ⟨none, .store 101 (.tmp 4) (.tmp 37), _, _, _, _⟩) rfl 101 (.tmp 4) (.tmp 37) rfl (w.heap.size + 1 + 1) (U32 R.list).toArray rfl rfl 101 z8 HR5.out info28 rfl (all_one32 _) ?_; intro w6 hw6))
          have hr6 : w6.heap[w.heap.size + 1 + 1]? = some (.cells (U32 R.list).toArray 101 (0, 0)) := by rw [hw6.out]; exact setRow_heap _ _ _ _ _ _ HR5.out
          refine bodyPost_ret (results_cell_row Tryd.results53 _ w6 (w.heap.size + 1 + 1) 101 _ (0, 0) _ rfl hr6 Tryd.underlying101 rfl info28) rfl ⟨by rw [← HRR.out]; rfl, ?_⟩
          exact hbb.trans (below_row hw6.out (by omega))
end Go.Proofs.YtaokhkbfiplfmaaDoor
end
section
namespace Go.Proofs.YtaokhkbfiplfmaaDoor
set_option maxRecDepth 100000
set_option linter.unusedVariables false
open Go.ChangeShapes Go.WideShapes Go.ChangeAt Go.RowKit

/-- How many bytes 0 stand behind the byte 128. -/
def zerosN (n : Nat) : Nat := (119 - n % 64) % 64
/-- Bytes, padded. -/
def padN (l : List Nat) : List Nat := l ++ 128 :: (List.replicate (zerosN l.length) 0 ++ putB (8 * l.length) 8)
def padTo (l : List Nat) (k : Nat) : List Nat := l ++ 128 :: List.replicate k 0
theorem length_padTo (l : List Nat) (k : Nat) : (padTo l k).length = l.length + 1 + k := by simp [padTo]; omega
theorem padN_eq (l : List Nat) : padN l = padTo l (zerosN l.length) ++ putB (8 * l.length) 8 := by simp [padN, padTo]
theorem length_padN (l : List Nat) : (padN l).length = l.length + 9 + zerosN l.length := by rw [padN_eq, List.length_append, length_padTo, length_putB]; omega
theorem padN_lt (l : List Nat) (h : ∀ x ∈ l, x < 256) : ∀ x ∈ padN l, x < 256 := by
  intro x hx
  rw [padN_eq, padTo] at hx
  simp only [List.mem_append, List.mem_cons, List.mem_replicate] at hx
  rcases hx with (hx | rfl | ⟨_, rfl⟩) | hx
  · exact h x hx
  · omega
  · omega
  · exact putB_lt _ _ x hx
theorem U8_append (a b : List Nat) : U8 (a ++ b) = U8 a ++ U8 b := by simp [U8]

def lenV : Value → Nat
  | .slice _ n _ => n
  | _ => 0

/-- What a loop has gathered: a row of the call's own that reads as xs. -/
def Row8 (wr : World) (base n : Nat) (xs : List Nat) (v : Value) : Prop := ∃ g cap, v = .slice (some ⟨g, 0, none⟩) n cap ∧ wr.ownsRow base 5 1 (.slice (some ⟨g, 0, none⟩) n cap) n (U8 xs)
theorem Row8.of {wr : World} {base n : Nat} {xs : List Nat} {v : Value} (h : wr.ownsRow base 5 1 v n (U8 xs)) (hn : 0 < n) : Row8 wr base n xs v := by
  obtain ⟨g, cap, e, _⟩ := h.form hn
  subst e
  exact ⟨g, cap, rfl, h⟩
end Go.Proofs.YtaokhkbfiplfmaaDoor
end
section
namespace Go.Proofs.YtaokhkbfiplfmaaDoor
set_option maxRecDepth 100000
set_option linter.unusedVariables false
open Go.ChangeShapes Go.WideShapes Go.ChangeAt Go.RowKit

set_option maxRecDepth 20000 in
theorem grow_nil (n : Nat) (w : World) (h0 : 0 < n) (hn : n ≤ 140737488355328) :
    Calls Tryd.prog 35 #[.slice none 0 0, .int .i64 n] w fun e w' => ∃ v, e = .returned v ∧ w'.ownsRow w.heap.size 5 1 v 0 [] ∧ Below w.heap.size w w' := by
  obtain ⟨i0, hi, hz0, hz1, hz2⟩ := info_parts infoU8
  have hrun := Lib.run_append_nil_zeros (P := Tryd.prog) w 24 3 24 5 i0 (.int .u8 0) .i64 .i64 Tryd.underlying24 Tryd.underlying3 hi hz0 n h0 (by rw [hz1]; omega) (by omega) (by rw [hz2]; omega)
  have HRUN := Lib.hid hrun
  clear hrun
  go_enter Tryd.func35, Tryd.ntmps35
  go_wp2_with (at_builtin; refine Lib.wpList_append_run _ rfl (.tmp 20) (.tmp 21) 24 3 rfl (.slice none 0 0) (.int .i64 n) rfl rfl _ _ HRUN.out ?_)
  go_ret
  have hc1 := grownCap_ge w n 0 5
  have hc2 := grownCap_le_maxLen w n 0 5 (by unfold maxLen; omega)
  refine ⟨_, rfl, ⟨rfl, .inr ⟨w.heap.size, grownCap w n 0 5, Builtin.zeroCells #[Value.int IntKind.u8 0] n ++ Builtin.zeroCells #[Value.int IntKind.u8 0] (grownCap w n 0 5 - n), rfl, Nat.le_refl _, ?_, Nat.zero_le _, hc2, ?_, ?_⟩⟩, ?_⟩
  · exact heap_alloc_new w _
  · simp [size_zeroCells]; omega
  · simp
  · exact ((Below.refl _ _).alloc (Nat.le_refl _) _).drew

/-- A row of bytes, as it is handed on. -/
structure Part where
  A : Option Addr
  l : List Nat
  c : Nat
def Part.val (p : Part) : Value := .slice p.A p.l.length p.c
def Part.ok (w : World) (p : Part) : Prop := Rd w w.heap.size p.A (U8 p.l) ∧ (p.A = none → p.c = 0)
def cflat (ps : List Part) : List Nat := (ps.map (·.l)).flatten
theorem cflat_append (a b : List Part) : cflat (a ++ b) = cflat a ++ cflat b := by simp [cflat]
theorem flat_one (p : Part) : cflat [p] = p.l := by simp [cflat]
theorem flat_succ (ps : List Part) (k : Nat) (h : k < ps.length) : cflat (ps.take (k + 1)) = cflat (ps.take k) ++ ps[k].l := by
  rw [List.take_succ_eq_append_getElem h, cflat_append, flat_one]
theorem flat_le (ps : List Part) (k : Nat) : (cflat (ps.take k)).length ≤ (cflat ps).length := by
  have h : cflat ps = cflat (ps.take k) ++ cflat (ps.drop k) := by rw [← cflat_append, List.take_append_drop]
  rw [h, List.length_append]; omega

set_option maxRecDepth 20000 in
set_option maxHeartbeats 800000 in
theorem concat_any (ps : List Part) (g m c : Nat) (w : World) (hm : ps.length = m) (hg : g < w.heap.size) (hcell : ∀ i p, ps[i]? = some p → w.cell? ⟨g, i, none⟩ = some p.val) (hok : ∀ p ∈ ps, p.ok w) (hm2 : m ≤ 1000)
    (h0 : 0 < (cflat ps).length) (hn : (cflat ps).length ≤ 140737488355328) :
    Calls Tryd.prog 16 #[.slice (some ⟨g, 0, none⟩) m c] w fun e w' => ∃ v, e = .returned v ∧ w'.ownsRow w.heap.size 5 1 v (cflat ps).length (U8 (cflat ps)) ∧ Below w.heap.size w w' := by
  obtain ⟨i0, hi, hz0, hz1, hz2⟩ := info_parts infoU8
  have HM := Lib.hid hm
  have HCELL := Lib.hid hcell
  have HOK := Lib.hid hok
  obtain ⟨N, hN⟩ : ∃ N, N = (cflat ps).length := ⟨_, rfl⟩
  rw [← hN] at h0 hn ⊢
  have HN := Lib.hid hN
  clear hm hcell hok hN
  go_enter Tryd.func16, Tryd.ntmps16
  go_wp2_with fail
  go_loop [3, 11] (fun s i => ∃ k : Nat, k ≤ m ∧ i = .int .i64 k ∧ s = .int .i64 ((cflat (ps.take k)).length : Nat)) (fun _ i => m - (intOf i).toNat)
  case atStart => exact ⟨0, Nat.zero_le _, rfl, rfl⟩
  case round =>
    obtain ⟨k, hk, rfl, rfl⟩ := hrel
    have hle := flat_le ps k
    rw [← HN.out] at hle
    by_cases hlt : k < m
    · have hkp : k < ps.length := by rw [HM.out]; exact hlt
      have hck := HCELL.out k ps[k] (List.getElem?_eq_getElem hkp)
      unfold Part.val at hck
      have hfs : (cflat (ps.take (k + 1))).length = (cflat (ps.take k)).length + ps[k].l.length := by rw [flat_succ ps k hkp, List.length_append]
      have hle2 := flat_le ps (k + 1)
      rw [← HN.out] at hle2
      have HFS := Lib.hid hfs
      have hb : (cflat (ps.take k)).length + ps[k].l.length ≤ 140737488355328 := by omega
      clear hfs hle2
      generalize (cflat (ps.take k)).length = S at *
      generalize ps[k].l.length = n1 at *
      generalize ps[k].A = A1 at *
      generalize ps[k].c = c1 at *
      go_wp2
      go_round
      case rel => exact ⟨k + 1, by omega, by go_num, by rw [HFS.out]; go_num⟩
      case measure => simp [intOf]; omega
    · have ek : k = m := by omega
      subst ek
      have hS : (cflat (ps.take k)).length = N := by rw [List.take_of_length_le (by rw [HM.out]; omega), HN.out]
      rw [hS]
      clear hle hS
      go_wp2_with fail
      refine (grow_nil N w h0 hn).mono ?_
      rintro e w1 ⟨v1, rfl, hown1, hb1⟩
      have HOWN1 := Lib.hid hown1
      clear hown1
      go_wp2_with fail
      go_loopw [6, 27] (fun v i wr => ∃ j : Nat, j ≤ k ∧ i = .int .i64 j ∧ wr.ownsRow w.heap.size 5 1 v (cflat (ps.take j)).length (U8 (cflat (ps.take j))) ∧ Below w.heap.size w wr) (fun _ i _ => k - (intOf i).toNat)
      case atStart => exact ⟨0, Nat.zero_le _, rfl, HOWN1.out, hb1⟩
      case round =>
        clear hb1
        obtain ⟨j, hj, rfl, hown, hbel⟩ := hrel
        have hbs := hbel.size
        by_cases hlt : j < k
        · have hjp : j < ps.length := by rw [HM.out]; exact hlt
          have hcj : wr.cell? ⟨g, j, none⟩ = some ps[j].val := (hbel.cell (p := ⟨g, j, none⟩) hg).trans (HCELL.out j ps[j] (List.getElem?_eq_getElem hjp))
          unfold Part.val at hcj
          obtain ⟨hrd, hnil⟩ := HOK.out ps[j] (List.getElem_mem hjp)
          have hrd' := hrd.below hbel
          have hfs := flat_succ ps j hjp
          have hle2 := flat_le ps (j + 1)
          rw [← HN.out, hfs, List.length_append] at hle2
          have HFS := Lib.hid hfs
          have HR := Lib.hid hrd'
          have HNL := Lib.hid hnil
          have HO := Lib.hid hown
          have hlen : (U8 ps[j].l).length = ps[j].l.length := by simp [U8]
          have HL := Lib.hid hlen
          have hone := Lib.hid (U8_one ps[j].l)
          clear hrd hrd' hnil hfs hown hlen
          generalize cflat (ps.take j) = F at *
          generalize ps[j].l = l1 at *
          generalize ps[j].A = A1 at *
          generalize ps[j].c = c1 at *
          go_wp2_with (at_builtin; refine wpList_append_rd _ rfl (.tmp 31) (.tmp 32) 24 rfl w.heap.size 5 i0 (.int .u8 0) 1 Tryd.underlying24 hi hz0 hz1 hz2 rfl _ F.length (U8 F) rfl HO.out w.heap.size A1 l1.length c1 (U8 l1) rfl HR.out HL.out HNL.out hone.out (by unfold maxLen; omega) (by omega) hbs ?_; intro v2 w2 hown2 hg2)
          have hb2 : Below w.heap.size w w2 := hbel.grown hg2 hbs (fun g hg => own_ge HO.out hg)
          have HO2 := Lib.hid hown2
          clear hown2 hg2
          go_wp2
          go_roundw
          case rel =>
            refine ⟨j + 1, by omega, by go_num, ?_, hb2⟩
            rw [HFS.out, U8_append, List.length_append]
            exact HO2.out
          case measure => simp [intOf]; omega
        · have ej : j = k := by omega
          subst ej
          rw [List.take_of_length_le (by rw [HM.out]; omega), ← HN.out] at hown
          have HO := Lib.hid hown
          clear hown
          go_wp2
          go_ret
          exact ⟨_, rfl, HO.out, hbel⟩
end Go.Proofs.YtaokhkbfiplfmaaDoor
end
section
namespace Go.Proofs.YtaokhkbfiplfmaaDoor
set_option maxRecDepth 100000
set_option linter.unusedVariables false
open Go.ChangeShapes Go.WideShapes Go.ChangeAt Go.RowKit

theorem cast_byte64 (x e : Nat) : (x : Int) / 2 ^ e % 256 = ((x / 2 ^ e % 256 : Nat) : Int) := by simp

theorem pow_bytes (k : Nat) : 256 ^ k = 2 ^ (8 * k) := by rw [Nat.pow_mul]
theorem over_no (n size : Nat) (h : n < 256 ^ size) : ((n : Int) / 2 ^ (8 * size) != 0) = false := by
  have e : (n : Int) / 2 ^ (8 * size) = ((n / 2 ^ (8 * size) : Nat) : Int) := by simp
  rw [e, bne_eq_false_iff_eq]
  rw [pow_bytes] at h
  rw [Nat.div_eq_of_lt h]; rfl

theorem put_ok (n size : Nat) (w : World) (hn : n < 9223372036854775808) (hs : size ≤ 8) (h : n < 256 ^ size) :
    Calls Tryd.prog 49 #[.int .i64 n, .int .i64 size] w fun e w' => ∃ g cap, e = .returned (.tuple #[.slice (some ⟨g, 0, none⟩) size cap, .int .i64 0]) ∧
      w'.ownsRow w.heap.size 5 1 (.slice (some ⟨g, 0, none⟩) size cap) size (U8 (putB n size)) ∧ Below w.heap.size w w' := by
  obtain ⟨i0, hi, hz0, hz1, hz2⟩ := info_parts infoU8
  have hov := over_no n size h
  clear h
  go_enter Tryd.func49, Tryd.ntmps49
  go_wp2_with (at_make; refine wpList_make_full _ rfl _ _ 24 rfl w.heap.size 5 i0 (.int .u8 0) 1 Tryd.underlying24 hi hz0 hz1 _ _ _ _ size rfl rfl (by omega) (by omega) ?b2 ?b3 (Nat.le_refl _) ?_)
  case b2 => rw [hz2]; omega
  case b3 => unfold maxLen; omega
  intro w1 hown hg
  have hown1 : w1.ownsRow w.heap.size 5 1 (.slice (some ⟨w.heap.size, 0, none⟩) size size) size (U8 (putUpto n size 0)) := by
    rw [toList_madeCells_one] at hown
    rw [putUpto_zero, U8, List.map_replicate]
    exact hown
  have hbel : Below w.heap.size w w1 := (Below.refl _ _).grown hg (Nat.le_refl _) (by simp)
  clear hown hg
  go_wp2
  go_loopw [28] (fun i wr => ∃ k : Nat, k ≤ size ∧ i = .int .i64 k ∧ wr.ownsRow w.heap.size 5 1 (.slice (some ⟨w.heap.size, 0, none⟩) size size) size (U8 (putUpto n size k)) ∧ Below w.heap.size w wr) (fun i _ => size - (intOf i).toNat)
  case atStart => exact ⟨0, Nat.zero_le _, rfl, hown1, hbel⟩
  case round =>
    clear hown1 hbel
    obtain ⟨k, hk, rfl, hown, hbel⟩ := hrel
    by_cases hlt : k < size
    · have hc2 : ∃ v, wr.cell? ⟨w.heap.size, k, none⟩ = some v := by
        rw [hown.cellAt k (by omega), U8, List.getElem?_map]
        rw [List.getElem?_eq_getElem (by simp [putUpto]; omega)]
        exact ⟨_, rfl⟩
      obtain ⟨v2, hc2⟩ := hc2
      have hf := hown.frozenAt k
      have hst := (hown.stored k (.int .u8 ((n / 256 ^ (size - 1 - k) % 256 : Nat) : Int))).1
      have hset : (U8 (putUpto n size k)).set k (.int .u8 ((n / 256 ^ (size - 1 - k) % 256 : Nat) : Int)) = U8 (putUpto n size (k + 1)) := by
        rw [← putUpto_set n size k, U8, U8, List.map_set]
      rw [hset, pow_bytes] at hst
      clear hset
      have HST := Lib.hid hst
      have HOW := Lib.hid hown
      clear hst hown
      go_wp2
      go_roundw
      case rel =>
        refine ⟨k + 1, by omega, by go_num, ?_, hbel.setCell (Nat.le_refl _) _⟩
        rw [cast_byte64]
        exact HST.out
      case measure => simp [intOf]; omega
    · have e : putUpto n size k = putB n size := by
        have e1 : k = size := by omega
        rw [e1, putUpto_all]
      rw [e] at hown
      clear e
      go_wp2
      go_ret2
      exact ⟨_, _, rfl, hown, hbel⟩
end Go.Proofs.YtaokhkbfiplfmaaDoor
end
section
namespace Go.Proofs.YtaokhkbfiplfmaaDoor
set_option maxRecDepth 100000
set_option linter.unusedVariables false
open Go.ChangeShapes Go.WideShapes Go.ChangeAt Go.RowKit

/-- What stands behind n bytes. -/
def padB (n : Nat) : List Nat := 128 :: (List.replicate (zerosN n) 0 ++ putB (8 * n) 8)
theorem padN_padB (l : List Nat) : padN l = l ++ padB l.length := rfl
theorem length_padB (n : Nat) : (padB n).length = 9 + zerosN n := by simp [padB, length_putB]; omega

theorem parts_lit {w : World} {ps : List Part} {cs : Array Value} {t : TypeId} (h : cs = (ps.map Part.val).toArray) : ∀ i p, ps[i]? = some p → (w.alloc (.cells cs t)).cell? ⟨w.heap.size, i, none⟩ = some p.val := by
  intro i p hp
  rw [h, cell_of_row _ _ i _ t (0, 0) (heap_alloc_new w _), List.getElem?_toArray, List.getElem?_map, hp]; rfl
theorem Part.ok_alloc {w : World} {p : Part} (h : p.ok w) (o : Obj) : p.ok (w.alloc o) := ⟨(h.1.alloc (Nat.le_refl _) o).more (by simp), h.2⟩

set_option maxRecDepth 20000 in
theorem padding_any (n : Nat) (w : World) (hn : n ≤ 140737488351232) :
    Calls Tryd.prog 64 #[.int .i64 n] w fun e w' => ∃ v, e = .returned v ∧ w'.ownsRow w.heap.size 5 1 v (padB n).length (U8 (padB n)) ∧ Below w.heap.size w w' := by
  obtain ⟨i0, hi, hz0, hz1, hz2⟩ := info_parts infoU8
  go_enter Tryd.func64, Tryd.ntmps64
  go_wp2_with fail
  rw [show (8 : Int) * (n : Int) = ((8 * n : Nat) : Int) by omega]
  refine (put_ok (8 * n) 8 _ (by omega) (by omega) (by omega)).mono ?_
  rintro e w1 ⟨g1, c1, rfl, hown1, hb1⟩
  have HOWN1 := Lib.hid hown1
  have hs1 := hb1.size
  have hz : zerosN n ≤ 63 := by unfold zerosN; omega
  clear hown1
  go_wp2_with (at_make; refine wpList_make_full _ rfl (.tmp 21) (.tmp 21) 24 rfl w.heap.size 5 i0 (.int .u8 0) 1 Tryd.underlying24 hi hz0 hz1 _ _ _ _ (zerosN n) rfl rfl ?b0 ?b1 ?b2 ?b3 ?b4 ?_)
  case b0 => unfold zerosN; omega
  case b1 => unfold zerosN; omega
  case b2 => rw [hz2]; omega
  case b3 => unfold maxLen; omega
  case b4 => simp; omega
  intro w2 hown2 hg2
  rw [toList_madeCells_one] at hown2
  have hb12 : Below w1.heap.size w1 w2 := ((Below.refl _ _).alloc (Nat.le_refl _) _).grown hg2 (by simp) (by simp)
  have h128 : Rd w2 w2.heap.size (some ⟨w1.heap.size, 0, none⟩) (U8 [128]) := by
    have h1 := rd_lit w1 #[.int .u8 128] 5
    have h2 : Below (w1.alloc (.cells #[.int .u8 128] 5)).heap.size (w1.alloc (.cells #[.int .u8 128] 5)) w2 := (Below.refl _ _).grown hg2 (Nat.le_refl _) (by simp)
    exact h1.next h2
  have hsz2 : w1.heap.size + 1 ≤ w2.heap.size := by have := hg2.size; simpa using this
  have hrd2 := Rd.of_own hown2
  have hrd1 := (Rd.of_own HOWN1.out).next hb12
  have H128 := Lib.hid h128
  have HR1 := Lib.hid hrd1
  have HR2 := Lib.hid hrd2
  have hb2 : Below w.heap.size w w2 := hb1.trans (hb12.mono hs1)
  clear h128 hrd1 hrd2 hown2 hg2 hb12 hb1
  go_wp2_with fail
  have hfl : cflat [⟨some ⟨w1.heap.size, 0, none⟩, [128], 1⟩, ⟨some ⟨w1.heap.size + 1, 0, none⟩, List.replicate (zerosN n) 0, zerosN n⟩, ⟨some ⟨g1, 0, none⟩, putB (8 * n) 8, c1⟩] = padB n := by simp [cflat, padB]
  refine (concat_any [⟨some ⟨w1.heap.size, 0, none⟩, [128], 1⟩, ⟨some ⟨w1.heap.size + 1, 0, none⟩, List.replicate (zerosN n) 0, zerosN n⟩, ⟨some ⟨g1, 0, none⟩, putB (8 * n) 8, c1⟩] w2.heap.size 3 3 _ rfl (by simp) (parts_lit (by simp [Part.val, length_putB])) ?_ (by omega) (by rw [hfl, length_padB]; omega) (by rw [hfl, length_padB]; omega)).mono ?_
  · intro p hp
    refine Part.ok_alloc ?_ _
    simp only [List.mem_cons, List.not_mem_nil, or_false] at hp
    rcases hp with rfl | rfl | rfl
    · exact ⟨H128.out, fun h => by cases h⟩
    · refine ⟨?_, fun h => by cases h⟩
      have := HR2.out
      simp only [U8, List.map_replicate]
      simpa using this
    · exact ⟨HR1.out, fun h => by cases h⟩
  · rw [hfl]
    clear hfl
    rintro e w3 ⟨v3, rfl, hown3, hb3⟩
    have hbb : Below w.heap.size w w3 := (hb2.alloc hb2.size _).trans (hb3.mono (by have := hb2.size; simp; omega))
    have hown4 : w3.ownsRow w.heap.size 5 1 v3 (padB n).length (U8 (padB n)) := ⟨hown3.1, hown3.2.imp id fun ⟨g, cap, cur, h1, h2, h3⟩ => ⟨g, cap, cur, h1, by have := hb2.size; simp at h2; omega, h3⟩⟩
    have HO := Lib.hid hown4
    clear hown3 hown4
    go_wp2
    go_ret
    exact ⟨_, rfl, HO.out, hbb⟩

set_option maxRecDepth 20000 in
theorem pad_ok (l : List Nat) (A : Option Addr) (c : Nat) (w : World) (hA : Rd w w.heap.size A (U8 l)) (hnil : A = none → c = 0) (hl : l.length ≤ 140737488351232) :
    Calls Tryd.prog 52 #[.slice A l.length c] w fun e w' => ∃ v, e = .returned v ∧ w'.ownsRow w.heap.size 5 1 v (padN l).length (U8 (padN l)) ∧ Below w.heap.size w w' := by
  obtain ⟨n, hn⟩ : ∃ n, n = l.length := ⟨_, rfl⟩
  have HN := Lib.hid hn
  have HNIL := Lib.hid hnil
  rw [← hn] at hl ⊢
  clear hn hnil
  go_enter Tryd.func52, Tryd.ntmps52
  go_wp2_with fail
  refine (padding_any n w hl).mono ?_
  rintro e w1 ⟨v1, rfl, hown1, hb1⟩
  obtain ⟨A1, c1, rfl, hr1⟩ := own_shape hown1
  have hnil1 : A1 = none → c1 = 0 := by
    rintro rfl
    rcases hown1.2 with ⟨h, _⟩ | ⟨g, cap, cur, h, _⟩
    · simp at h; exact h.2
    · simp at h
  have HR1 := Lib.hid hr1
  have HNIL1 := Lib.hid hnil1
  clear hown1 hr1 hnil1
  have hA1 := hA.next hb1
  go_wp2_with fail
  have hfl : cflat [⟨A, l, c⟩, ⟨A1, padB n, c1⟩] = padN l := by rw [padN_padB, ← HN.out]; simp [cflat]
  refine (concat_any [⟨A, l, c⟩, ⟨A1, padB n, c1⟩] w1.heap.size 2 2 _ rfl (by simp) (parts_lit (by simp [Part.val]; exact HN.out)) ?_ (by omega) (by rw [hfl, length_padN]; omega) (by rw [hfl, length_padN, ← HN.out]; unfold zerosN; omega)).mono ?_
  · intro p hp
    refine Part.ok_alloc ?_ _
    simp only [List.mem_cons, List.not_mem_nil, or_false] at hp
    rcases hp with rfl | rfl
    · exact ⟨hA1, HNIL.out⟩
    · exact ⟨HR1.out, HNIL1.out⟩
  · rw [hfl]
    clear hfl
    rintro e w3 ⟨v3, rfl, hown3, hb3⟩
    have hbb : Below w.heap.size w w3 := (hb1.alloc hb1.size _).trans (hb3.mono (by have := hb1.size; simp; omega))
    have hown4 : w3.ownsRow w.heap.size 5 1 v3 (padN l).length (U8 (padN l)) := ⟨hown3.1, hown3.2.imp id fun ⟨g, cap, cur, h1, h2, h3⟩ => ⟨g, cap, cur, h1, by have := hb1.size; simp at h2; omega, h3⟩⟩
    have HO := Lib.hid hown4
    clear hown3 hown4
    go_wp2
    go_ret
    exact ⟨_, rfl, HO.out, hbb⟩
end Go.Proofs.YtaokhkbfiplfmaaDoor
end
section
namespace Go.Proofs.YtaokhkbfiplfmaaDoor
set_option maxRecDepth 100000
set_option linter.unusedVariables false
open Go.ChangeShapes Go.WideShapes Go.ChangeAt Go.RowKit

theorem or_byte32 (a b : Nat) (ha : a < 16777216) (hb : b < 256) : bits .or .u32 ((a : Int) * 256) (b : Int) = ((a * 256 + b : Nat) : Int) := by
  have e : (a : Int) * 256 = ((a * 256 : Nat) : Int) := by omega
  rw [e, u32_or_nat _ _ (by omega) (by omega)]
  have h := Nat.two_pow_add_eq_or_of_lt (i := 8) (b := b) (by omega) a
  simp only [Nat.reducePow] at h
  rw [Nat.mul_comm, ← h, Nat.mul_comm]

theorem words_ok (l : List Nat) (A : Option Addr) (c : Nat) (w : World) (hA : Rd w w.heap.size A (U8 l)) (hb : ∀ x ∈ l, x < 256) (hl : l.length ≤ 4000) (h4 : l.length % 4 = 0) :
    Calls Tryd.prog 67 #[.slice A l.length c] w fun e w' => ∃ g cap, e = .returned (.tuple #[.slice (some ⟨g, 0, none⟩) (l.length / 4) cap, .int .i64 0]) ∧
      w'.ownsRow w.heap.size 100 1 (.slice (some ⟨g, 0, none⟩) (l.length / 4) cap) (l.length / 4) (U32 (wordsOf l)) ∧ Below w.heap.size w w' := by
  obtain ⟨i0, hi, hz0, hz1, hz2⟩ := info_parts infoU32
  obtain ⟨n, hn⟩ : ∃ n, n = l.length := ⟨_, rfl⟩
  rw [← hn] at hl h4 ⊢
  obtain ⟨m, hm⟩ : ∃ m, m = n / 4 := ⟨_, rfl⟩
  have HN := Lib.hid hn
  have HM := Lib.hid hm
  have HB := Lib.hid hb
  have hmn : 4 * m ≤ n := by omega
  have hnm : n ≤ 4 * m := by omega
  rw [← hm]
  clear hn hm hb
  go_enter Tryd.func67, Tryd.ntmps67
  go_wp2_with (at_make; refine wpList_make_full _ rfl _ _ 112 rfl w.heap.size 100 i0 (.int .u32 0) 1 Tryd.underlying112 hi hz0 hz1 _ _ _ _ m rfl rfl (by omega) (by omega) ?b2 ?b3 (Nat.le_refl _) ?_)
  case b2 => rw [hz2]; omega
  case b3 => unfold maxLen; omega
  intro w1 hown hg
  have hown1 : w1.ownsRow w.heap.size 100 1 (.slice (some ⟨w.heap.size, 0, none⟩) m m) m (U32 (wordsUpto l m 0)) := by
    rw [toList_madeCells_one] at hown
    rw [wordsUpto_zero, U32, List.map_replicate]
    exact hown
  have hbel : Below w.heap.size w w1 := (Below.refl _ _).grown hg (Nat.le_refl _) (by simp)
  clear hown hg
  go_wp2
  go_loopw [16] (fun i wr => ∃ k : Nat, k ≤ n ∧ i = .int .i64 k ∧ wr.ownsRow w.heap.size 100 1 (.slice (some ⟨w.heap.size, 0, none⟩) m m) m (U32 (wordsUpto l m k)) ∧ Below w.heap.size w wr) (fun i _ => n - (intOf i).toNat)
  case atStart => exact ⟨0, Nat.zero_le _, rfl, hown1, hbel⟩
  case round =>
    clear hown1 hbel
    obtain ⟨k, hk, rfl, hown, hbel⟩ := hrel
    by_cases hlt : k < n
    · have hkl : k < l.length := by rw [← HN.out]; exact hlt
      obtain ⟨ad, rfl, hab, hc0⟩ := hA k _ (U8_at l k hkl)
      have hc : wr.cell? (ad.add k) = some (.int .u8 (l[k] : Nat)) := (hbel.cell (by rw [add_block]; exact hab)).trans hc0
      have hkm : k / 4 < m := by omega
      have hc2 : wr.cell? ⟨w.heap.size, k / 4, none⟩ = some (.int .u32 (wordAt l k (k / 4) : Nat)) := by
        rw [hown.cellAt (k / 4) (by omega), U32, List.getElem?_map, wordsUpto_get l m k (k / 4) hkm]; rfl
      have hf := hown.frozenAt (k / 4)
      have hx := HB.out _ (List.getElem_mem hkl)
      have hy := wordAt_room l HB.out k
      have hst := (hown.stored (k / 4) (.int .u32 ((wordAt l k (k / 4) * 256 + l[k] : Nat) : Int))).1
      have hset : (U32 (wordsUpto l m k)).set (k / 4) (.int .u32 ((wordAt l k (k / 4) * 256 + l[k] : Nat) : Int)) = U32 (wordsUpto l m (k + 1)) := by
        rw [← wordsUpto_set l m k hkl, U32, U32, List.map_set]
      rw [hset] at hst
      clear hset
      generalize l[k] = x at *
      generalize wordAt l k (k / 4) = y at *
      have HST := Lib.hid hst
      have HOW := Lib.hid hown
      clear hst hown hA hc0 
      go_wp2
      go_region
      go_wp2
      go_roundw
      case rel =>
        refine ⟨k + 1, by omega, by go_num, ?_, ?_⟩
        · rw [or_byte32 y x hy hx]
          exact HST.out
        · exact (hbel.setCell (Nat.le_refl _) _).drew
      case measure => simp [intOf]; omega
    · have e : wordsUpto l m k = wordsOf l := by
        have e1 : k = l.length := by rw [← HN.out]; omega
        rw [e1, HM.out, HN.out]; rfl
      rw [e] at hown
      clear e
      go_wp2
      go_ret2
      exact ⟨_, _, rfl, hown, hbel⟩
end Go.Proofs.YtaokhkbfiplfmaaDoor
end
section
namespace Go.Proofs.YtaokhkbfiplfmaaDoor
set_option maxRecDepth 100000
set_option linter.unusedVariables false
open Go.ChangeShapes Go.WideShapes Go.ChangeAt Go.RowKit

theorem cast_byte (x e : Nat) : (x : Int) / 2 ^ e % 256 = ((x / 2 ^ e % 256 : Nat) : Int) := by simp

theorem bytes_ok (l : List Nat) (A : Option Addr) (c : Nat) (w : World) (hA : Rd w w.heap.size A (U32 l)) (hb : ∀ x ∈ l, x < 4294967296) (hl : l.length ≤ 1000) :
    Calls Tryd.prog 68 #[.slice A l.length c] w fun e w' => ∃ g cap, e = .returned (.slice (some ⟨g, 0, none⟩) (4 * l.length) cap) ∧
      w'.ownsRow w.heap.size 5 1 (.slice (some ⟨g, 0, none⟩) (4 * l.length) cap) (4 * l.length) (U8 (bytesOf l)) ∧ Below w.heap.size w w' := by
  obtain ⟨i0, hi, hz0, hz1, hz2⟩ := info_parts infoU8
  obtain ⟨n, hn⟩ : ∃ n, n = l.length := ⟨_, rfl⟩
  rw [← hn] at hl ⊢
  obtain ⟨m, hm⟩ : ∃ m, m = 4 * n := ⟨_, rfl⟩
  have HN := Lib.hid hn
  have HM := Lib.hid hm
  have HB := Lib.hid hb
  have hmn : 4 * n ≤ m := by omega
  have hnm : m ≤ 4 * n := by omega
  rw [← hm]
  clear hn hm hb
  go_enter Tryd.func68, Tryd.ntmps68
  go_wp2_with (at_make; refine wpList_make_full _ rfl _ _ 24 rfl w.heap.size 5 i0 (.int .u8 0) 1 Tryd.underlying24 hi hz0 hz1 _ _ _ _ m rfl rfl (by omega) (by omega) ?b2 ?b3 (Nat.le_refl _) ?_)
  case b2 => rw [hz2]; omega
  case b3 => unfold maxLen; omega
  intro w1 hown hg
  have hown1 : w1.ownsRow w.heap.size 5 1 (.slice (some ⟨w.heap.size, 0, none⟩) m m) m (U8 (bytesUpto l m 0)) := by
    rw [toList_madeCells_one] at hown
    rw [bytesUpto_zero, U8, List.map_replicate]
    exact hown
  have hbel : Below w.heap.size w w1 := (Below.refl _ _).grown hg (Nat.le_refl _) (by simp)
  clear hown hg
  go_wp2
  go_loopw [12] (fun i wr => ∃ k : Nat, k ≤ m ∧ i = .int .i64 k ∧ wr.ownsRow w.heap.size 5 1 (.slice (some ⟨w.heap.size, 0, none⟩) m m) m (U8 (bytesUpto l m k)) ∧ Below w.heap.size w wr) (fun i _ => m - (intOf i).toNat)
  case atStart => exact ⟨0, Nat.zero_le _, rfl, hown1, hbel⟩
  case round =>
    clear hown1 hbel
    obtain ⟨k, hk, rfl, hown, hbel⟩ := hrel
    by_cases hlt : k < m
    · have hkl : k / 4 < l.length := by rw [← HN.out]; omega
      obtain ⟨ad, rfl, hab, hc0⟩ := hA (k / 4) _ (U32_at l (k / 4) hkl)
      have hc : wr.cell? (ad.add (k / 4)) = some (.int .u32 (l[k / 4] : Nat)) := (hbel.cell (by rw [add_block]; exact hab)).trans hc0
      have hkn : k / 4 < n := by omega
      have hc2 : ∃ v, wr.cell? ⟨w.heap.size, k, none⟩ = some v := by
        rw [hown.cellAt k (by omega), U8, List.getElem?_map]
        rw [List.getElem?_eq_getElem (by simp [bytesUpto]; omega)]
        exact ⟨_, rfl⟩
      obtain ⟨v2, hc2⟩ := hc2
      have hf := hown.frozenAt k
      have hx := HB.out _ (List.getElem_mem hkl)
      have hst := (hown.stored k (.int .u8 ((byteAt l k : Nat) : Int))).1
      have hset : (U8 (bytesUpto l m k)).set k (.int .u8 ((byteAt l k : Nat) : Int)) = U8 (bytesUpto l m (k + 1)) := by
        rw [← bytesUpto_set l m k, U8, U8, List.map_set]
      rw [hset] at hst
      have hba : byteAt l k = l[k / 4] / 2 ^ (8 * (3 - k % 4)) % 256 := by
        unfold byteAt
        rw [List.getD_eq_getElem?_getD, List.getElem?_eq_getElem hkl]; rfl
      rw [hba] at hst
      clear hset hba
      generalize l[k / 4] = x at *
      have HST := Lib.hid hst
      have HOW := Lib.hid hown
      clear hst hown hA hc0 
      go_wp2
      go_roundw
      case rel =>
        refine ⟨k + 1, by omega, by go_num, ?_, hbel.setCell (Nat.le_refl _) _⟩
        rw [cast_byte]
        exact HST.out
      case measure => simp [intOf]; omega
    · have e : bytesUpto l m k = bytesOf l := by
        have e1 : k = m := by omega
        rw [e1, HM.out, HN.out, bytesUpto_all]
      rw [e] at hown
      clear e
      go_wp2
      go_ret
      exact ⟨_, _, rfl, hown, hbel⟩
end Go.Proofs.YtaokhkbfiplfmaaDoor
end
