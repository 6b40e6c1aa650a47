/-
  The landed Block and Tag of mac.
-/
import Derived.Test.YtpniolinndlepaaGreatDoorShaE
import Derived.Test.YtpniolinndlepaaGreatDoorBase
import Derived.Test.YtpniolinndlepaaGreatDoorShaF
namespace Go.Proofs.YtpniolinndlepaaGreatDoor
set_option linter.unusedVariables false
open Go.ChangeShapes Go.WideShapes Go.ChangeAt Go.RowKit

theorem sum_len (l : List Nat) (n : Nat) (hn : n = l.length) (A : Option Addr) (c : Nat) (w : World) (hT : Tabs w) (hA : Rd w w.heap.size A (U8 l)) (hnil : A = none → c = 0) (hb : ∀ x ∈ l, x < 256) (hl : n ≤ 5000) :
    Calls Tryz.prog 84 #[.slice A n c] w fun e w' => e = .returned (.agg (U8 (digestN l)).toArray) ∧ Below w.heap.size w w' := by
  subst hn
  exact sum_ok l A c w hT hA hnil hb hl

set_option maxRecDepth 100000
set_option linter.unusedVariables false
open Go.ChangeShapes Go.WideShapes Go.ChangeAt Go.RowKit

def b64 : Array Value := #[.int .u8 0, .int .u8 0, .int .u8 0, .int .u8 0, .int .u8 0, .int .u8 0, .int .u8 0, .int .u8 0, .int .u8 0, .int .u8 0, .int .u8 0, .int .u8 0, .int .u8 0, .int .u8 0, .int .u8 0, .int .u8 0, .int .u8 0, .int .u8 0, .int .u8 0, .int .u8 0, .int .u8 0, .int .u8 0, .int .u8 0, .int .u8 0, .int .u8 0, .int .u8 0, .int .u8 0, .int .u8 0, .int .u8 0, .int .u8 0, .int .u8 0, .int .u8 0, .int .u8 0, .int .u8 0, .int .u8 0, .int .u8 0, .int .u8 0, .int .u8 0, .int .u8 0, .int .u8 0, .int .u8 0, .int .u8 0, .int .u8 0, .int .u8 0, .int .u8 0, .int .u8 0, .int .u8 0, .int .u8 0, .int .u8 0, .int .u8 0, .int .u8 0, .int .u8 0, .int .u8 0, .int .u8 0, .int .u8 0, .int .u8 0, .int .u8 0, .int .u8 0, .int .u8 0, .int .u8 0, .int .u8 0, .int .u8 0, .int .u8 0, .int .u8 0]
theorem b64_eq : b64 = (U8 (List.replicate 64 0)).toArray := rfl
theorem info64 : (Tryz.prog.info? 100).map (·.size) = some 64 := by kernel_rfl
theorem U8_getD (l : List Nat) (k : Nat) (h : k < l.length) : (U8 l)[k]? = some (.int .u8 ((l.getD k 0 : Nat) : Int)) := by
  rw [U8_at l k h, List.getD_eq_getElem?_getD, List.getElem?_eq_getElem h]; rfl
/-- A byte of a row of bytes. -/
theorem cell_u8 {w : World} {g : Nat} {l : List Nat} {t : TypeId} (h : w.heap[g]? = some (.cells (U8 l).toArray t (0, 0))) (k : Nat) (hk : k < l.length) : w.cell? ⟨g, k, none⟩ = some (.int .u8 ((l.getD k 0 : Nat) : Int)) := by
  rw [cell_of_row w g k _ _ (0, 0) h, List.getElem?_toArray, U8_getD l k hk]

set_option maxRecDepth 100000 in
set_option maxHeartbeats 800000 in
theorem masked_any (K : List Nat) (m : Nat) (w : World) (hK : ∀ x ∈ K, x < 256) (hl : K.length = 64) (hm : m < 256) :
    Calls Tryz.prog 83 #[.agg (U8 K).toArray, .int .u8 m] w fun e w' => e = .returned (.agg (U8 (maskN K m)).toArray) ∧ Below w.heap.size w w' := by
  obtain ⟨X, hX⟩ : ∃ X : Array Value, X = (U8 K).toArray := ⟨_, rfl⟩
  obtain ⟨w0, hw0⟩ : ∃ w0 : World, w0 = (w.alloc (.cells X 100)).alloc (.cells b64 100) := ⟨_, rfl⟩
  rw [← hX]
  obtain ⟨hs0, hx0, hr0, hb0⟩ := two_made hw0
  rw [hX] at hx0
  have HX0 := Lib.hid hx0
  have HR0 := Lib.hid hr0
  have HK := Lib.hid hK
  have HL := Lib.hid hl
  have HW := Lib.hid hw0
  have HS := Lib.hid hs0
  clear hX hw0 hx0 hr0 hK hl hs0
  go_enter Tryz.func83, Tryz.ntmps83
  go_wp2_with fail
  have e0 : (w.alloc (.cells X 100)).alloc (.cells b64 100) = w0 := HW.out.symm
  unfold b64 at e0
  rw [e0]
  clear e0
  go_loopw [5, 6] (fun _ i wr => ∃ k : Nat, k ≤ 64 ∧ i = .int .i64 k ∧ wr.heap[w.heap.size]? = some (.cells (U8 (maskTo K m k)).toArray 100 (0, 0)) ∧ wr.heap[w.heap.size + 1]? = some (.cells b64 100 (0, 0)) ∧ Below w.heap.size w wr) (fun _ i _ => 64 - (intOf i).toNat)
  case atStart => exact ⟨0, Nat.zero_le _, rfl, by rw [maskTo_zero]; exact HX0.out, HR0.out, hb0⟩
  case round =>
    obtain ⟨k, hk, rfl, hv, hr, hbel⟩ := hrel
    by_cases hlt : k < 64
    · have hkl : k < K.length := by rw [HL.out]; exact hlt
      have hfz := frozen_of_row wr _ k _ _ hv
      have hcur := cell_u8 hv k (by rw [length_maskTo]; exact hkl)
      rw [maskTo_get] at hcur
      have hset := heap_setCell_same wr _ k _ 100 (.int .u8 ((K.getD k 0 ^^^ m : Nat) : Int)) hv
      have hst : (U8 (maskTo K m k)).toArray.setIfInBounds k (.int .u8 ((K.getD k 0 ^^^ m : Nat) : Int)) = (U8 (maskTo K m (k + 1))).toArray := by
        rw [List.setIfInBounds_toArray, ← maskTo_set K m k hkl, U8, U8, List.map_set]
      rw [hst] at hset
      have HSET := Lib.hid hset
      have HR := Lib.hid ((heap_setCell_other wr ⟨w.heap.size, k, none⟩ (w.heap.size + 1) (.int .u8 ((K.getD k 0 ^^^ m : Nat) : Int)) (by show w.heap.size + 1 ≠ w.heap.size; omega)).trans hr)
      have hx8 := getD_lt8 HK.out k
      have hxor := u8_xor_nat (K.getD k 0) m hx8 hm
      have bk0 : (0 : Int) ≤ (k : Int) := Int.natCast_nonneg _
      have bk1 : (k : Int) < 64 := by omega
      clear hset hst hv hr
      generalize K.getD k 0 = y at *
      go_wp2
      go_roundw
      case rel => exact ⟨k + 1, by omega, by go_num, HSET.out, HR.out, hbel.setCell (Nat.le_refl _) _⟩
      case measure => simp [intOf]; omega
    · have k64 : k = 64 := by omega
      subst k64
      have hall : maskTo K m 64 = maskN K m := by rw [← HL.out]; exact maskTo_all K m
      rw [hall] at hv
      obtain ⟨F, hF⟩ : ∃ F : Array Value, F = (U8 (maskN K m)).toArray := ⟨_, rfl⟩
      rw [← hF] at hv
      have hsz : F.size = 64 := by rw [hF]; simp [U8, length_maskN, HL.out]
      have hin : (Tryz.prog.info? 100).map (·.size) = some F.size := by rw [hsz]; exact info64
      have hone : F.all (·.oneCell') = true := by rw [hF]; exact all_one8 _
      have HF := Lib.hid hF
      have HV := Lib.hid hv
      have HR := Lib.hid hr
      have HSZ := Lib.hid hsz
      have HIN := Lib.hid hin
      have HONE := Lib.hid hone
      clear hF hv hr hsz hin hone hall
      go_wp2_with (first
        | ((with_reducible refine at_load 16 ?_); refine wpList_load_row (o := ⟨some 16, .load 100 (.tmp 2), _, _, _, _⟩) rfl 100 (.tmp 2) rfl w.heap.size rfl 100 F (0, 0) _ HV.out Tryz.underlying100 rfl HIN.out ?_)
        | ((with_reducible refine at_store 4 ?_); refine wpList_store_named (o := ⟨none, .store 100 (.tmp 4) (.tmp 16), _, _, _, _⟩) rfl 100 (.tmp 4) (.tmp 16) rfl (w.heap.size + 1) F rfl rfl 100 b64 HR.out HIN.out HSZ.out.symm HONE.out ?_; intro w1 hw1))
      have hr1 : w1.heap[w.heap.size + 1]? = some (.cells F 100 (0, 0)) := by rw [hw1.out]; exact setRow_heap _ _ _ _ _ _ HR.out
      refine bodyPost_ret (results_cell_row Tryz.results83 _ w1 (w.heap.size + 1) 100 _ (0, 0) _ rfl hr1 Tryz.underlying100 rfl HIN.out) rfl ⟨by rw [HF.out], ?_⟩
      exact hbel.trans (below_row hw1.out (by omega))
set_option linter.unusedVariables false
open Go.ChangeShapes Go.WideShapes Go.ChangeAt Go.RowKit

section
variable {H : Type} {enc : TypeId × Value → H} {P : Program}
end

theorem sum_arr (l : List Nat) (FD : Array Value) (hF : Hid (FD = (U8 (digestN l)).toArray)) (n : Nat) (hn : n = l.length) (A : Option Addr) (c : Nat) (w : World) (hT : Tabs w) (hA : Rd w w.heap.size A (U8 l)) (hnil : A = none → c = 0) (hb : ∀ x ∈ l, x < 256) (hl : n ≤ 5000) :
    Calls Tryz.prog 84 #[.slice A n c] w fun e w' => e = .returned (.agg FD) ∧ Below w.heap.size w w' := by
  rw [hF.out]
  exact sum_len l n hn A c w hT hA hnil hb hl
theorem refsum_arr (l : List Nat) (FD : Array Value) (hF : Hid (FD = (U8 (digestN l)).toArray)) (n : Nat) (hn : n = l.length) (A : Option Addr) (c : Nat) (w : World) (hA : Rd w w.heap.size A (U8 l)) (hnil : A = none → c = 0) (hb : ∀ x ∈ l, x < 256) (hl : n ≤ 5000) :
    Calls Tryz.prog 87 #[.slice A n c] w fun e w' => e = .returned (.agg FD) ∧ Below w.heap.size w w' := by
  rw [hF.out]
  subst hn
  exact refsum_ok l A c w hA hnil hb hl
set_option linter.unusedVariables false
open Go.ChangeShapes Go.WideShapes Go.ChangeAt Go.RowKit

theorem splice_b64 (l : List Nat) (h : l.length ≤ 64) : splice b64.toList 0 (U8 l) = U8 (l ++ List.replicate (64 - l.length) 0) := by
  have e : b64.toList = U8 (List.replicate 64 0) := rfl
  unfold splice
  rw [e, List.take_zero, List.nil_append, Nat.zero_add, U8_length, U8_append, U8_drop, List.drop_replicate]
theorem two_made_set {w w' : World} {ca cb cd : Array Value} {ta tb : TypeId} (h : w' = ((w.alloc (.cells ca ta)).alloc (.cells cb tb)).setRow (w.heap.size + 1) cd) :
    w'.heap.size = w.heap.size + 1 + 1 ∧ w'.heap[w.heap.size]? = some (.cells ca ta (0, 0)) ∧ w'.heap[w.heap.size + 1]? = some (.cells cd tb (0, 0)) ∧ Below w.heap.size w w' := by
  have h2 : ((w.alloc (.cells ca ta)).alloc (.cells cb tb)).heap[w.heap.size + 1]? = some (.cells cb tb (0, 0)) := heap_alloc2_new _ _ _
  subst h
  refine ⟨by simp, ?_, setRow_heap _ _ _ _ _ _ h2, ?_⟩
  · rw [setRow_other _ _ _ _ (by omega)]; exact heap_alloc2_old _ _ _
  · exact below_setRow (((Below.refl _ _).alloc (Nat.le_refl _) _).alloc (by simp) _) (by omega) _
theorem rd_cells {w : World} {A : Option Addr} {l : List Nat} (hA : Rd w w.heap.size A (U8 l)) (h : 0 < (U8 l).length) : ∃ ad, A = some ad ∧ ∀ j v, (U8 l)[j]? = some v → w.cell? (ad.add j) = some v := by
  obtain ⟨ad, he, _, _⟩ := hA 0 _ (List.getElem?_eq_getElem h)
  refine ⟨ad, he, fun j v hv => ?_⟩
  obtain ⟨ad', he', _, hc⟩ := hA j v hv
  rw [he] at he'
  cases he'
  exact hc

set_option maxRecDepth 100000 in
set_option maxHeartbeats 800000 in
theorem macblock_short (l : List Nat) (n : Nat) (hn : n = l.length) (A : Option Addr) (c : Nat) (w : World) (hA : Rd w w.heap.size A (U8 l)) (hnil : A = none → c = 0) (h : n ≤ 64) (F : Array Value) (hF : F = (U8 (blockM l)).toArray) :
    Calls Tryz.prog 81 #[.slice A n c] w fun e w' => e = .returned (.agg F) ∧ Below w.heap.size w w' := by
  have hkey : keyN l = l := by unfold keyN; rw [if_neg (by omega)]
  have hsp : (splice b64.toList 0 (U8 l)).toArray = F := by rw [splice_b64 l (by omega), hF]; unfold blockM; rw [hkey]
  have hsz : F.size = 64 := by rw [hF]; simp [U8, length_blockM]
  have hin : (Tryz.prog.info? 100).map (·.size) = some F.size := by rw [hsz]; exact info64
  have hone : F.all (·.oneCell') = true := by rw [hF]; exact all_one8 _
  have hmin : (U8 l).length = Nat.min n 64 := by rw [U8_length, ← hn]; exact (Nat.min_eq_left h).symm
  have hfit : 0 + (U8 l).length ≤ b64.toList.length := by rw [U8_length, ← hn]; show 0 + n ≤ 64; omega
  have HA := Lib.hid hA
  have HNIL := Lib.hid hnil
  have HSP := Lib.hid hsp
  have HSZ := Lib.hid hsz
  have HIN := Lib.hid hin
  have HONE := Lib.hid hone
  have HMIN := Lib.hid hmin
  have HFIT := Lib.hid hfit
  clear hA hnil hsp hsz hin hone hkey hF hmin hfit hn
  go_enter Tryz.func81, Tryz.ntmps81
  go_wp2_with (first
    | ((with_reducible refine at_store 3 ?_); refine wpList_store_named (o := ⟨none, .store 100 (.tmp 3) (.tmp 5), _, _, _, _⟩) rfl 100 (.tmp 3) (.tmp 5) rfl (w.heap.size + 1) b64 rfl rfl 100 b64 (heap_alloc2_new _ _ _) info64 rfl (all_one8 (List.replicate 64 0)) ?_; intro w0 hw0)
    | ((with_reducible refine at_calls 14 ?_); refine wpList_copy_splice (o := ⟨some 14, _, _, _, _, _⟩) rfl (.tmp 12) (.tmp 13) 30 30 rfl 5 Tryz.underlying30 sizeU8 (some ⟨w.heap.size + 1, 0, none⟩) A 64 64 n c rfl rfl (w.heap.size + 1) 0 b64.toList 100 (two_made_set hw0.out).2.2.1 (U8 l) HMIN.out (fun hp => ⟨rfl, rd_cells (HA.out.next (two_made_set hw0.out).2.2.2) hp⟩) HFIT.out (U8_one l) (w.heap.size + 1) w0 (Below.refl _ _) (Nat.le_refl _) ?_; intro w1 hw1 hb1; have hw1' : Hid (w1.heap[w.heap.size + 1]? = some (.cells F 100 (0, 0))) := Lib.hid (HSP.out ▸ hw1.out))
    | ((with_reducible refine at_load 15 ?_); refine wpList_load_row (o := ⟨some 15, .load 100 (.tmp 3), _, _, _, _⟩) rfl 100 (.tmp 3) rfl (w.heap.size + 1) rfl 100 F (0, 0) _ hw1'.out Tryz.underlying100 rfl HIN.out ?_)
    | ((with_reducible refine at_store 2 ?_); refine wpList_store_named (o := ⟨none, .store 100 (.tmp 2) (.tmp 15), _, _, _, _⟩) rfl 100 (.tmp 2) (.tmp 15) rfl w.heap.size F rfl rfl 100 b64 ((hb1.block _ (by omega)).trans (two_made_set hw0.out).2.1) HIN.out HSZ.out.symm HONE.out ?_; intro w2 hw2))
  have hr2 : w2.heap[w.heap.size]? = some (.cells F 100 (0, 0)) := by
    rw [hw2.out]; exact setRow_heap _ _ _ _ _ _ ((hb1.block _ (by omega)).trans (two_made_set hw0.out).2.1)
  refine bodyPost_ret (results_cell_row Tryz.results81 _ w2 w.heap.size 100 _ (0, 0) _ rfl hr2 Tryz.underlying100 rfl HIN.out) rfl ⟨rfl, ?_⟩
  exact ((two_made_set hw0.out).2.2.2.trans (hb1.mono (by omega))).trans (below_row hw2.out (Nat.le_refl _))

theorem mac_facts {w w0 w1 w2 : World} {D : List Nat} {FD : Array Value} {t t' : TypeId} (hs0 : w0.heap.size = w.heap.size + 1 + 1) (hr0 : w0.heap[w.heap.size]? = some (.cells b64 t (0, 0))) (hv0 : w0.heap[w.heap.size + 1]? = some (.cells b64 t (0, 0))) (hb0 : Below w.heap.size w w0) (hb1 : Below w0.heap.size w0 w1)
    (h : w2 = (w1.alloc (.cells b32 t')).setRow w1.heap.size FD) (hFD : FD = (U8 D).toArray) :
    Rd w2 w2.heap.size (some ⟨w1.heap.size, 0, none⟩) (U8 D) ∧ w2.heap[w.heap.size + 1]? = some (.cells b64 t (0, 0)) ∧ w2.heap[w.heap.size]? = some (.cells b64 t (0, 0)) ∧ Below w.heap.size w w2 := by
  obtain ⟨hs2, hr2, hb2⟩ := row_made h
  have hs1 := hb1.size
  refine ⟨?_, (hb2.block (w.heap.size + 1) (by omega)).trans ((hb1.block _ (by omega)).trans hv0), (hb2.block w.heap.size (by omega)).trans ((hb1.block _ (by omega)).trans hr0), (hb0.trans (hb1.mono (by omega))).trans (hb2.mono (by omega))⟩
  intro k u hu
  refine ⟨_, rfl, by show w1.heap.size < _; omega, ?_⟩
  rw [at_add, cell_of_row w2 _ k _ _ (0, 0) hr2, hFD]
  simpa using hu

set_option maxRecDepth 100000 in
set_option maxHeartbeats 800000 in
theorem macblock_long (l : List Nat) (n : Nat) (hn : n = l.length) (A : Option Addr) (c : Nat) (w : World) (hT : Tabs w) (hA : Rd w w.heap.size A (U8 l)) (hb : ∀ x ∈ l, x < 256) (hnil : A = none → c = 0) (h : 64 < n) (h5 : n ≤ 5000) (F : Array Value) (hF : F = (U8 (blockM l)).toArray) :
    Calls Tryz.prog 81 #[.slice A n c] w fun e w' => e = .returned (.agg F) ∧ Below w.heap.size w w' := by
  obtain ⟨D, hD⟩ : ∃ D, D = digestN l := ⟨_, rfl⟩
  obtain ⟨FD, hFD⟩ : ∃ FD : Array Value, FD = (U8 (digestN l)).toArray := ⟨_, rfl⟩
  have hDl : D.length = 32 := by rw [hD, length_dig]
  have hFD' : FD = (U8 D).toArray := by rw [hFD, hD]
  have hkey : keyN l = D := by unfold keyN; rw [if_pos (by omega), hD]
  have hsp : (splice b64.toList 0 (U8 D)).toArray = F := by rw [splice_b64 D (by omega), hF]; unfold blockM; rw [hkey]
  have hsz : F.size = 64 := by rw [hF]; simp [U8, length_blockM]
  have hin : (Tryz.prog.info? 100).map (·.size) = some F.size := by rw [hsz]; exact info64
  have hone : F.all (·.oneCell') = true := by rw [hF]; exact all_one8 _
  have hszD : FD.size = 32 := by rw [hFD']; simp [U8, hDl]
  have hinD : (Tryz.prog.info? 63).map (·.size) = some FD.size := by rw [hszD]; exact info32
  have honeD : FD.all (·.oneCell') = true := by rw [hFD']; exact all_one8 _
  have hmin : (U8 D).length = Nat.min 32 64 := by rw [U8_length, hDl]; rfl
  have hfit : 0 + (U8 D).length ≤ b64.toList.length := by rw [U8_length, hDl]; show 0 + 32 ≤ 64; omega
  have HA := Lib.hid hA
  have HNIL := Lib.hid hnil
  have HSP := Lib.hid hsp
  have HSZ := Lib.hid hsz
  have HIN := Lib.hid hin
  have HONE := Lib.hid hone
  have HSZD := Lib.hid hszD
  have HIND := Lib.hid hinD
  have HONED := Lib.hid honeD
  have HMIN := Lib.hid hmin
  have HFIT := Lib.hid hfit
  have HFD := Lib.hid hFD
  have HFD' := Lib.hid hFD'
  have HN := Lib.hid hn
  have HT := Lib.hid hT
  have HB := Lib.hid hb
  clear hA hnil hsp hsz hin hone hkey hF hmin hfit hszD hinD honeD hFD hFD' hn hT hb hD hDl
  go_enter Tryz.func81, Tryz.ntmps81
  go_wp2_with ((with_reducible refine at_store 3 ?_); refine wpList_store_named (o := ⟨none, .store 100 (.tmp 3) (.tmp 5), _, _, _, _⟩) rfl 100 (.tmp 3) (.tmp 5) rfl (w.heap.size + 1) b64 rfl rfl 100 b64 (heap_alloc2_new _ _ _) info64 rfl (all_one8 (List.replicate 64 0)) ?_; intro w0 hw0)
  obtain ⟨hs0, hr0, hv0, hb0⟩ := two_made_set hw0.out
  have HR0 := Lib.hid hr0
  have HV0 := Lib.hid hv0
  clear hr0 hv0 hw0
  refine (sum_arr l FD HFD n HN.out A c w0 (HT.out.next hb0) (HA.out.next hb0) HNIL.out HB.out h5).mono ?_
  rintro e w1 ⟨rfl, hb1⟩
  have hs1 := hb1.size
  go_wp2_with (first
    | ((with_reducible refine at_store 4 ?_); refine wpList_store_named (o := ⟨none, .store 63 (.tmp 4) (.tmp 10), _, _, _, _⟩) rfl 63 (.tmp 4) (.tmp 10) rfl w1.heap.size FD rfl rfl 63 b32 (heap_alloc_new w1 _) HIND.out HSZD.out.symm HONED.out ?_; intro w2 hw2; have HFX := Lib.hid (mac_facts hs0 HR0.out HV0.out hb0 hb1 hw2.out HFD'.out))
    | ((with_reducible refine at_calls 14 ?_); refine wpList_copy_splice (o := ⟨some 14, _, _, _, _, _⟩) rfl (.tmp 12) (.tmp 13) 30 30 rfl 5 Tryz.underlying30 sizeU8 (some ⟨w.heap.size + 1, 0, none⟩) (some ⟨w1.heap.size, 0, none⟩) 64 64 32 32 rfl rfl (w.heap.size + 1) 0 b64.toList 100 HFX.out.2.1 (U8 D) HMIN.out (fun hp => ⟨rfl, rd_cells HFX.out.1 hp⟩) HFIT.out (U8_one D) (w.heap.size + 1) w2 (Below.refl _ _) (Nat.le_refl _) ?_; intro w3 hw3 hb3; have hw3' : Hid (w3.heap[w.heap.size + 1]? = some (.cells F 100 (0, 0))) := Lib.hid (HSP.out ▸ hw3.out))
    | ((with_reducible refine at_load 15 ?_); refine wpList_load_row (o := ⟨some 15, .load 100 (.tmp 3), _, _, _, _⟩) rfl 100 (.tmp 3) rfl (w.heap.size + 1) rfl 100 F (0, 0) _ hw3'.out Tryz.underlying100 rfl HIN.out ?_)
    | ((with_reducible refine at_store 2 ?_); refine wpList_store_named (o := ⟨none, .store 100 (.tmp 2) (.tmp 15), _, _, _, _⟩) rfl 100 (.tmp 2) (.tmp 15) rfl w.heap.size F rfl rfl 100 b64 ((hb3.block _ (by omega)).trans HFX.out.2.2.1) HIN.out HSZ.out.symm HONE.out ?_; intro w4 hw4))
  have hr4 : w4.heap[w.heap.size]? = some (.cells F 100 (0, 0)) := by
    rw [hw4.out]; exact setRow_heap _ _ _ _ _ _ ((hb3.block _ (by omega)).trans HFX.out.2.2.1)
  refine bodyPost_ret (results_cell_row Tryz.results81 _ w4 w.heap.size 100 _ (0, 0) _ rfl hr4 Tryz.underlying100 rfl HIN.out) rfl ⟨rfl, ?_⟩
  exact (HFX.out.2.2.2.trans (hb3.mono (by omega))).trans (below_row hw4.out (Nat.le_refl _))

/-- A secret's block. -/
theorem macblock_any (l : List Nat) (n : Nat) (hn : n = l.length) (A : Option Addr) (c : Nat) (w : World) (hT : Tabs w) (hA : Rd w w.heap.size A (U8 l)) (hb : ∀ x ∈ l, x < 256) (hnil : A = none → c = 0) (h5 : n ≤ 5000) (F : Array Value) (hF : F = (U8 (blockM l)).toArray) :
    Calls Tryz.prog 81 #[.slice A n c] w fun e w' => e = .returned (.agg F) ∧ Below w.heap.size w w' := by
  by_cases h : 64 < n
  · exact macblock_long l n hn A c w hT hA hb hnil h h5 F hF
  · exact macblock_short l n hn A c w hA hnil (by omega) F hF
set_option linter.unusedVariables false
open Go.ChangeShapes Go.WideShapes Go.ChangeAt Go.RowKit

/-- An array as it is stored whole. -/
def IsArr (t n : Nat) (F : Array Value) : Prop := (Tryz.prog.info? t).map (·.size) = some F.size ∧ n = F.size ∧ F.all (·.oneCell') = true
theorem isArr32 {F : Array Value} {l : List Nat} (h : F = (U8 l).toArray) (hl : l.length = 32) : IsArr 63 32 F := by
  have hs : F.size = 32 := by rw [h]; simp [U8, hl]
  exact ⟨by rw [hs]; exact info32, hs.symm, by rw [h]; exact all_one8 _⟩
theorem isArr64 {F : Array Value} {l : List Nat} (h : F = (U8 l).toArray) (hl : l.length = 64) : IsArr 100 64 F := by
  have hs : F.size = 64 := by rw [h]; simp [U8, hl]
  exact ⟨by rw [hs]; exact info64, hs.symm, by rw [h]; exact all_one8 _⟩
/-- A row of bytes, as a slice of it reads. -/
theorem rd_row {w : World} {g : Nat} {F : Array Value} {l : List Nat} {t : TypeId} (h : w.heap[g]? = some (.cells F t (0, 0))) (hF : F = (U8 l).toArray) : Rd w w.heap.size (some ⟨g, 0, none⟩) (U8 l) := by
  intro k u hu
  refine ⟨_, rfl, (Array.getElem?_eq_some_iff.1 h).1, ?_⟩
  rw [at_add, cell_of_row w _ k _ _ (0, 0) h, hF]
  simpa using hu

theorem masked_arr (K : List Nat) (m : Nat) (X FM : Array Value) (w : World) (hX : X = (U8 K).toArray) (hFM : FM = (U8 (maskN K m)).toArray) (hK : ∀ x ∈ K, x < 256) (hl : K.length = 64) (hm : m < 256) :
    Calls Tryz.prog 83 #[.agg X, .int .u8 m] w fun e w' => e = .returned (.agg FM) ∧ Below w.heap.size w w' := by
  subst hX hFM
  exact masked_any K m w hK hl hm
/-- Rows one behind the other, as a slice that reads so. -/
theorem concat_rd (ps : List Part) (L : List Nat) (hL : L = cflat ps) (g m c : Nat) (w : World) (hm : ps.length = m) (hg : g < w.heap.size) (hcell : ∀ i p, ps[i]? = some p → w.cell? ⟨g, i, none⟩ = some p.val) (hok : ∀ p ∈ ps, p.ok w) (hm2 : m ≤ 1000)
    (h0 : 0 < L.length) (hn : L.length ≤ 140737488355328) :
    Calls Tryz.prog 26 #[.slice (some ⟨g, 0, none⟩) m c] w fun e w' => ∃ A cap, e = .returned (.slice A L.length cap) ∧ Rd w' w'.heap.size A (U8 L) ∧ (A = none → cap = 0) ∧ Below w.heap.size w w' := by
  subst hL
  refine (concat_any ps g m c w hm hg hcell hok hm2 h0 hn).mono ?_
  rintro e w' ⟨v, rfl, hown, hb⟩
  obtain ⟨A, cap, rfl, hr⟩ := own_shape hown
  refine ⟨A, cap, rfl, hr, ?_, hb⟩
  rintro rfl
  rcases hown.2 with ⟨h, _⟩ | ⟨g', cap', cur, h, _⟩
  · simp at h; exact h.2
  · simp at h

set_option maxRecDepth 100000 in
set_option maxHeartbeats 800000 in
theorem side_any (K l : List Nat) (m n : Nat) (hn : n = l.length) (A : Option Addr) (c Bk : Nat) (w : World) (hT : Tabs w) (hk : w.heap[Bk]? = some (.cells (U8 K).toArray 100 (0, 0))) (hA : Rd w w.heap.size A (U8 l)) (hnil : A = none → c = 0)
    (hl : K.length = 64) (hK : ∀ x ∈ K, x < 256) (hb : ∀ x ∈ l, x < 256) (hm : m < 256) (h4 : n ≤ 4000) (F : Array Value) (hF : F = (U8 (digestN (maskN K m ++ l))).toArray) :
    Calls Tryz.prog 82 #[.int .u8 m, .slice A n c, .pointer (some ⟨Bk, 0, none⟩)] w fun e w' => e = .returned (.agg F) ∧ Below w.heap.size w w' := by
  obtain ⟨X, hX⟩ : ∃ X : Array Value, X = (U8 K).toArray := ⟨_, rfl⟩
  obtain ⟨FM, hFM⟩ : ∃ FM : Array Value, FM = (U8 (maskN K m)).toArray := ⟨_, rfl⟩
  rw [← hX] at hk
  have hsX : X.size = 64 := by rw [hX]; simp [U8, hl]
  have hiX : (Tryz.prog.info? 100).map (·.size) = some X.size := by rw [hsX]; exact info64
  have hsM : FM.size = 64 := by rw [hFM]; simp [U8, length_maskN, hl]
  have hiM : (Tryz.prog.info? 100).map (·.size) = some FM.size := by rw [hsM]; exact info64
  have hoM : FM.all (·.oneCell') = true := by rw [hFM]; exact all_one8 _
  have hsF : F.size = 32 := by rw [hF]; simp [U8, length_dig]
  have hiF : (Tryz.prog.info? 63).map (·.size) = some F.size := by rw [hsF]; exact info32
  have hoF : F.all (·.oneCell') = true := by rw [hF]; exact all_one8 _
  have hkl : Bk < w.heap.size := (Array.getElem?_eq_some_iff.1 hk).1
  have HN := Lib.hid hn
  have HT := Lib.hid hT
  have HKC := Lib.hid hk
  have HA := Lib.hid hA
  have HNIL := Lib.hid hnil
  have HL := Lib.hid hl
  have HK := Lib.hid hK
  have HB := Lib.hid hb
  have HF := Lib.hid hF
  have HX := Lib.hid hX
  have HFM := Lib.hid hFM
  have HIX := Lib.hid hiX
  have HSM := Lib.hid hsM
  have HIM := Lib.hid hiM
  have HOM := Lib.hid hoM
  have HSF := Lib.hid hsF
  have HIF := Lib.hid hiF
  have HOF := Lib.hid hoF
  clear hn hT hk hA hnil hl hK hb hF hX hFM hsX hiX hsM hiM hoM hsF hiF hoF
  go_enter Tryz.func82, Tryz.ntmps82
  go_wp2_with ((with_reducible refine at_load 7 ?_); refine wpList_load_row (o := ⟨some 7, .load 100 (.tmp 2), _, _, _, _⟩) rfl 100 (.tmp 2) rfl Bk rfl 100 X (0, 0) _ (((below_lit w _ _).block Bk hkl).trans HKC.out) Tryz.underlying100 rfl HIX.out ?_)
  refine (masked_arr K m X FM _ HX.out HFM.out HK.out HL.out hm).mono ?_
  rintro e w1 ⟨rfl, hb1⟩
  have hr1 : w1.heap[w.heap.size]? = some (.cells b32 63 (0, 0)) := (hb1.block _ (by simp)).trans (heap_alloc_new w _)
  have hbw := below_after _ _ hb1
  have hs1 : w.heap.size + 1 ≤ w1.heap.size := by have := hb1.size; simpa using this
  have HR1 := Lib.hid hr1
  have HBW := Lib.hid hbw
  clear hr1 hbw hb1
  go_wp2_with ((with_reducible refine at_store 6 ?_); refine wpList_store_named (o := ⟨none, .store 100 (.tmp 6) (.tmp 9), _, _, _, _⟩) rfl 100 (.tmp 6) (.tmp 9) rfl w1.heap.size FM rfl rfl 100 b64 (heap_alloc_new w1 _) HIM.out HSM.out.symm HOM.out ?_; intro w2 hw2)
  obtain ⟨hs2, hr2, hb2⟩ := row_made hw2.out
  have hrd2 : Rd w2 w2.heap.size (some ⟨w1.heap.size, 0, none⟩) (U8 (maskN K m)) := by
    intro k u hu
    refine ⟨_, rfl, by show w1.heap.size < _; omega, ?_⟩
    rw [at_add, cell_of_row w2 _ k _ _ (0, 0) hr2, HFM.out]
    simpa using hu
  have hb02 : Below w.heap.size w w2 := HBW.out.trans (hb2.mono (by omega))
  have hA2 := HA.out.next hb02
  have HR2 := Lib.hid ((hb2.block w.heap.size (by omega)).trans HR1.out)
  have HT2 := Lib.hid (HT.out.next hb02)
  have HB2 := Lib.hid hb02
  obtain ⟨L, hL⟩ : ∃ L, L = maskN K m ++ l := ⟨_, rfl⟩
  have hLl : L.length = 64 + n := by rw [hL, List.length_append, length_maskN, HL.out, HN.out]
  have hLb : ∀ x ∈ L, x < 256 := by
    rw [hL]; intro x hx
    rcases List.mem_append.1 hx with h | h
    · exact maskN_lt K m HK.out hm x h
    · exact HB.out x h
  have hfl : L = cflat [⟨some ⟨w1.heap.size, 0, none⟩, maskN K m, 64⟩, ⟨A, l, c⟩] := by rw [hL]; simp [cflat]
  have hml : (maskN K m).length = 64 := by rw [length_maskN, HL.out]
  have HLB := Lib.hid hLb
  have HLL := Lib.hid hLl
  refine (concat_rd [⟨some ⟨w1.heap.size, 0, none⟩, maskN K m, 64⟩, ⟨A, l, c⟩] L hfl w2.heap.size 2 2 _ rfl (by simp) (parts_lit (by simp [Part.val, hml]; exact HN.out)) ?_ (by omega) (by omega) (by omega)).mono ?_
  · intro p hp
    refine Part.ok_alloc ?_ _
    simp only [List.mem_cons, List.not_mem_nil, or_false] at hp
    rcases hp with rfl | rfl
    · exact ⟨hrd2, fun h => by cases h⟩
    · exact ⟨hA2, HNIL.out⟩
  · rw [← hL] at HF
    clear hfl hml hLb hL hrd2 hr2 hw2 hb02 hA2 hb2
    rintro e w3 ⟨A3, c3, rfl, hr3, hn3, hb3⟩
    have hb03 : Below w.heap.size w w3 := (HB2.out.alloc HB2.out.size _).trans (hb3.mono (by have := HB2.out.size; simp; omega))
    have HR3 := Lib.hid hr3
    have HN3 := Lib.hid hn3
    have HT3 := Lib.hid (HT.out.next hb03)
    have HRES3 := Lib.hid ((hb3.block w.heap.size (by simp; omega)).trans ((Below.heap_alloc w2 _ w.heap.size (by omega)).trans HR2.out))
    have HB3 := Lib.hid hb03
    have hs3 : w2.heap.size + 1 ≤ w3.heap.size := by have := hb3.size; simpa using this
    rw [hLl]
    clear hr3 hn3 hb03 hb3 hLl
    go_wp2_with fail
    refine (sum_arr L F HF (64 + n) HLL.out.symm A3 c3 w3 HT3.out HR3.out HN3.out HLB.out (by omega)).mono ?_
    rintro e w4 ⟨rfl, hb4⟩
    have HRES4 := Lib.hid ((hb4.block w.heap.size (by omega)).trans HRES3.out)
    have HB4 := Lib.hid (HB3.out.trans (hb4.mono (by omega)))
    clear hb4
    go_wp2_with ((with_reducible refine at_store 5 ?_); refine wpList_store_named (o := ⟨none, .store 63 (.tmp 5) (.tmp 14), _, _, _, _⟩) rfl 63 (.tmp 5) (.tmp 14) rfl w.heap.size F rfl rfl 63 b32 HRES4.out HIF.out HSF.out.symm HOF.out ?_; intro w5 hw5)
    have hr5 : w5.heap[w.heap.size]? = some (.cells F 63 (0, 0)) := by rw [hw5.out]; exact setRow_heap _ _ _ _ _ _ HRES4.out
    refine bodyPost_ret (results_cell_row Tryz.results82 _ w5 w.heap.size 63 _ (0, 0) _ rfl hr5 Tryz.underlying63 rfl HIF.out) rfl ⟨rfl, ?_⟩
    exact HB4.out.trans (below_row hw5.out (Nat.le_refl _))

set_option maxRecDepth 100000 in
set_option maxHeartbeats 800000 in
theorem mactag_any (s b : List Nat) (n m : Nat) (hn : n = s.length) (hm : m = b.length) (A A' : Option Addr) (c c' : Nat) (w : World) (hT : Tabs w) (hA : Rd w w.heap.size A (U8 s)) (hA' : Rd w w.heap.size A' (U8 b)) (hnil : A = none → c = 0) (hnil' : A' = none → c' = 0)
    (hs : ∀ x ∈ s, x < 256) (hb : ∀ x ∈ b, x < 256) (h5 : n ≤ 5000) (h4 : m ≤ 4000) (F : Array Value) (hF : F = (U8 (tagN s b)).toArray) :
    Calls Tryz.prog 40 #[.slice A n c, .slice A' m c'] w fun e w' => e = .returned (.agg F) ∧ Below w.heap.size w w' := by
  obtain ⟨K, hK⟩ : ∃ K, K = blockM s := ⟨_, rfl⟩
  obtain ⟨X, hX⟩ : ∃ X : Array Value, X = (U8 K).toArray := ⟨_, rfl⟩
  obtain ⟨D, hD⟩ : ∃ D, D = digestN (maskN K 54 ++ b) := ⟨_, rfl⟩
  obtain ⟨FD, hFD⟩ : ∃ FD : Array Value, FD = (U8 D).toArray := ⟨_, rfl⟩
  have hKl : K.length = 64 := by rw [hK, length_blockM]
  have hKb : ∀ x ∈ K, x < 256 := by rw [hK]; exact blockM_lt s hs
  have hDl : D.length = 32 := by rw [hD, length_dig]
  have hDb : ∀ x ∈ D, x < 256 := by rw [hD]; exact dig_lt _
  have hF' : F = (U8 (digestN (maskN K 92 ++ D))).toArray := by rw [hF, hD, hK]; rfl
  have hX' : X = (U8 (blockM s)).toArray := by rw [hX, hK]
  have hFD' : FD = (U8 (digestN (maskN K 54 ++ b))).toArray := by rw [hFD, hD]
  have HN := Lib.hid hn
  have HM := Lib.hid hm
  have HT := Lib.hid hT
  have HA := Lib.hid hA
  have HA' := Lib.hid hA'
  have HNIL := Lib.hid hnil
  have HNIL' := Lib.hid hnil'
  have HS := Lib.hid hs
  have HB := Lib.hid hb
  have HX := Lib.hid hX
  have HX' := Lib.hid hX'
  have HFD := Lib.hid hFD
  have HFD' := Lib.hid hFD'
  have HF := Lib.hid hF'
  have HKL := Lib.hid hKl
  have HKB := Lib.hid hKb
  have HDL := Lib.hid hDl
  have HDB := Lib.hid hDb
  have HIX := Lib.hid (isArr64 hX hKl)
  have HID := Lib.hid (isArr32 hFD hDl)
  have HIF := Lib.hid (isArr32 hF (length_dig _))
  clear hn hm hT hA hA' hnil hnil' hs hb hX hX' hFD hFD' hF hF' hK hD hKl hKb hDl hDb
  go_enter Tryz.func40, Tryz.ntmps40
  go_wp2_with fail
  refine (macblock_any s n HN.out A c _ (HT.out.next (below_lit w _ _)) (HA.out.next (below_lit w _ _)) HS.out HNIL.out h5 X HX'.out).mono ?_
  rintro e w1 ⟨rfl, hb1⟩
  have hr1 : w1.heap[w.heap.size]? = some (.cells b32 63 (0, 0)) := (hb1.block _ (by simp)).trans (heap_alloc_new w _)
  have hbw := below_after _ _ hb1
  have hs1 : w.heap.size + 1 ≤ w1.heap.size := by have := hb1.size; simpa using this
  have HR1 := Lib.hid hr1
  have HBW := Lib.hid hbw
  clear hr1 hbw hb1
  go_wp2_with ((with_reducible refine at_store 5 ?_); refine wpList_store_named (o := ⟨none, .store 100 (.tmp 5) (.tmp 9), _, _, _, _⟩) rfl 100 (.tmp 5) (.tmp 9) rfl w1.heap.size X rfl rfl 100 b64 (heap_alloc_new w1 _) HIX.out.1 HIX.out.2.1 HIX.out.2.2 ?_; intro w2 hw2)
  obtain ⟨hs2, hr2, hb2⟩ := row_made hw2.out
  have hb02 : Below w.heap.size w w2 := HBW.out.trans (hb2.mono (by omega))
  have HK2 : Hid (w2.heap[w1.heap.size]? = some (.cells (U8 K).toArray 100 (0, 0))) := Lib.hid (HX.out ▸ hr2)
  have HR2 := Lib.hid ((hb2.block w.heap.size (by omega)).trans HR1.out)
  have HB2 := Lib.hid hb02
  clear hr2 hw2 hb2 hb02
  refine (side_any K b 54 m HM.out A' c' w1.heap.size w2 (HT.out.next HB2.out) HK2.out (HA'.out.next HB2.out) HNIL'.out HKL.out HKB.out HB.out (by omega) h4 FD HFD'.out).mono ?_
  rintro e w3 ⟨rfl, hb3⟩
  have hs3 := hb3.size
  have HK3 := Lib.hid ((hb3.block w1.heap.size (by omega)).trans HK2.out)
  have HR3 := Lib.hid ((hb3.block w.heap.size (by omega)).trans HR2.out)
  have HB3 := Lib.hid (HB2.out.trans (hb3.mono (by omega)))
  clear hb3
  go_wp2_with ((with_reducible refine at_store 7 ?_); refine wpList_store_named (o := ⟨none, .store 63 (.tmp 7) (.tmp 13), _, _, _, _⟩) rfl 63 (.tmp 7) (.tmp 13) rfl w3.heap.size FD rfl rfl 63 b32 (heap_alloc_new w3 _) HID.out.1 HID.out.2.1 HID.out.2.2 ?_; intro w4 hw4)
  obtain ⟨hs4, hr4, hb4⟩ := row_made hw4.out
  have HRD4 := Lib.hid (rd_row hr4 HFD.out)
  have HK4 := Lib.hid ((hb4.block w1.heap.size (by omega)).trans HK3.out)
  have HR4 := Lib.hid ((hb4.block w.heap.size (by omega)).trans HR3.out)
  have HB4 := Lib.hid (HB3.out.trans (hb4.mono (by omega)))
  clear hr4 hw4 hb4
  refine (side_any K D 92 32 HDL.out.symm (some ⟨w3.heap.size, 0, none⟩) 32 w1.heap.size w4 (HT.out.next HB4.out) HK4.out HRD4.out (fun h => by cases h) HKL.out HKB.out HDB.out (by omega) (by omega) F HF.out).mono ?_
  rintro e w5 ⟨rfl, hb5⟩
  have HR5 := Lib.hid ((hb5.block w.heap.size (by omega)).trans HR4.out)
  have HB5 := Lib.hid (HB4.out.trans (hb5.mono (by omega)))
  clear hb5
  go_wp2_with ((with_reducible refine at_store 4 ?_); refine wpList_store_named (o := ⟨none, .store 63 (.tmp 4) (.tmp 16), _, _, _, _⟩) rfl 63 (.tmp 4) (.tmp 16) rfl w.heap.size F rfl rfl 63 b32 HR5.out HIF.out.1 HIF.out.2.1 HIF.out.2.2 ?_; intro w6 hw6)
  have hr6 : w6.heap[w.heap.size]? = some (.cells F 63 (0, 0)) := by rw [hw6.out]; exact setRow_heap _ _ _ _ _ _ HR5.out
  refine bodyPost_ret (results_cell_row Tryz.results40 _ w6 w.heap.size 63 _ (0, 0) _ rfl hr6 Tryz.underlying63 rfl HIF.out.1) rfl ⟨rfl, ?_⟩
  exact HB5.out.trans (below_row hw6.out (Nat.le_refl _))
end Go.Proofs.YtpniolinndlepaaGreatDoor
