/-
  Contract for the reference's Block of layer 3: a secret's block. Conditions: the slice reads as bytes, at most 5000 of them.
-/
import Derived.Test.YtdpijlkhcagfaaaDoorMacTag
namespace Go.Proofs.YtdpijlkhcagfaaaDoor
set_option linter.unusedVariables false
open Go.ChangeShapes Go.WideShapes Go.ChangeAt Go.RowKit

/-- The first j of a key, zeros behind them. -/
def kz (k : List Nat) (j : Nat) : List Nat := k.take j ++ List.replicate (64 - j) 0
theorem kz_zero (k : List Nat) : kz k 0 = List.replicate 64 0 := by simp [kz]
theorem kz_all (k : List Nat) : kz k k.length = k ++ List.replicate (64 - k.length) 0 := by simp [kz]
theorem length_kz (k : List Nat) (j : Nat) (h : j ≤ k.length) (hk : k.length ≤ 64) : (kz k j).length = 64 := by simp [kz]; omega
theorem kz_set (k : List Nat) (j : Nat) (h : j < k.length) (hk : k.length ≤ 64) : (kz k j).set j (k.getD j 0) = kz k (j + 1) := by
  unfold kz
  have hl : (k.take j).length = j := by simp; omega
  have e : k.take (j + 1) = k.take j ++ [k[j]] := List.take_succ_eq_append_getElem h
  have eg : k.getD j 0 = k[j] := by rw [List.getD_eq_getElem?_getD, List.getElem?_eq_getElem h]; rfl
  rw [List.set_append_right _ _ (by rw [hl]; exact Nat.le_refl _), hl, Nat.sub_self, show 64 - j = (64 - (j + 1)) + 1 by omega, List.replicate_succ, List.set_cons_zero, e, eg, List.append_assoc, List.singleton_append]
/-- From the address on lie the cells, in another block than g. -/
def Beside (w : World) (g : Nat) (A : Option Addr) (xs : List Value) : Prop := ∀ k u, xs[k]? = some u → ∃ ad, A = some ad ∧ ad.block ≠ g ∧ w.cell? (ad.add k) = some u
theorem Rd.beside {w : World} {B g : Nat} {A : Option Addr} {xs : List Value} (h : Rd w B A xs) (hg : B ≤ g) : Beside w g A xs := by
  intro k u hu
  obtain ⟨ad, he, hlt, hc⟩ := h k u hu
  exact ⟨ad, he, by omega, hc⟩

set_option maxRecDepth 100000 in
set_option maxHeartbeats 800000 in
theorem refblock03_short (l : List Nat) (n : Nat) (hn : n = l.length) (A : Option Addr) (c : Nat) (w : World) (hA : Rd w w.heap.size A (U8 l)) (h : n ≤ 64) (F : Array Value) (hF : F = (U8 (blockM l)).toArray) :
    Calls Tryd.prog 21 #[.slice A n c] w fun e w' => e = .returned (.agg F) ∧ Below w.heap.size w w' := by
  have hkey : keyN l = l := by unfold keyN; rw [if_neg (by omega)]
  have hFE : F = (U8 (l ++ List.replicate (64 - l.length) 0)).toArray := by rw [hF]; unfold blockM; rw [hkey]
  have h64 : l.length ≤ 64 := by omega
  have HA := Lib.hid hA
  have HKN := Lib.hid hn
  have HFE := Lib.hid hFE
  have HK64 := Lib.hid h64
  have HIF := Lib.hid (isArr64 hF (length_blockM l))
  clear hA hn hFE h64 hkey hF
  go_enter Tryd.func21, Tryd.ntmps21
  go_wp2_with ((with_reducible refine at_store 3 ?_); refine wpList_store_named (o := ⟨none, .store 41 (.tmp 3) (.tmp 6), _, _, _, _⟩) rfl 41 (.tmp 3) (.tmp 6) rfl (w.heap.size + 1) b64 rfl rfl 41 b64 (heap_alloc2_new _ _ _) info64 rfl (all_one8 (List.replicate 64 0)) ?_; intro w0 hw0)
  obtain ⟨hs0, hr0, hv0, hb0⟩ := two_made_set hw0.out
  have HR : Hid (w0.heap[w.heap.size]? = some (.cells b64 41 (0, 0))) := Lib.hid hr0
  have HV : Hid (w0.heap[w.heap.size + 1]? = some (.cells b64 41 (0, 0))) := Lib.hid hv0
  have HBS := Lib.hid hb0
  have HSRC := Lib.hid ((HA.out.below hb0).beside (g := w.heap.size + 1) (by omega))
  clear hr0 hv0 hb0 hw0
  go_loopw [5] (fun i wr => ∃ k : Nat, k ≤ n ∧ i = .int .i64 k ∧ wr.heap[w.heap.size + 1]? = some (.cells (U8 (kz l k)).toArray 41 (0, 0)) ∧ Below (w.heap.size + 1) w0 wr ∧ ∀ b, b ≠ w.heap.size + 1 → wr.heap[b]? = w0.heap[b]?) (fun i _ => n - (intOf i).toNat)
  case atStart => exact ⟨0, Nat.zero_le _, rfl, by rw [kz_zero, ← b64_eq]; exact HV.out, Below.refl _ _, fun _ _ => rfl⟩
  case round =>
    obtain ⟨k, hk, rfl, hv, hbel, hoth⟩ := hrel
    by_cases hlt : k < n
    · have hkl : k < l.length := by rw [← HKN.out]; exact hlt
      obtain ⟨ad, rfl, hne, hc0⟩ := HSRC.out k _ (U8_getD l k hkl)
      have hc : wr.cell? (ad.add k) = some (.int .u8 ((l.getD k 0 : Nat) : Int)) := (World.cell?_of_block (w := w0) (w' := wr) (by rw [add_block]; exact hoth _ hne)).trans hc0
      have hkz := length_kz l k (by omega) HK64.out
      have hcur := cell_u8 hv k (by rw [hkz]; omega)
      have hfz := frozen_of_row wr _ k _ _ hv
      have hset := heap_setCell_same wr _ k _ 41 (.int .u8 ((l.getD k 0 : Nat) : Int)) hv
      have hst : (U8 (kz l k)).toArray.setIfInBounds k (.int .u8 ((l.getD k 0 : Nat) : Int)) = (U8 (kz l (k + 1))).toArray := by
        rw [List.setIfInBounds_toArray, ← kz_set l k hkl HK64.out, U8, U8, List.map_set]
      rw [hst] at hset
      have HSET := Lib.hid hset
      have HOTH := Lib.hid (fun (b : Nat) (hb : b ≠ w.heap.size + 1) => (heap_setCell_other wr ⟨w.heap.size + 1, k, none⟩ b (.int .u8 ((l.getD k 0 : Nat) : Int)) hb).trans (hoth b hb))
      have bk0 : (0 : Int) ≤ (k : Int) := Int.natCast_nonneg _
      have bk1 : (k : Int) < (n : Nat) := by omega
      have bk2 : (k : Int) < 64 := by omega
      clear hset hst hv hoth hc0 hkz
      generalize l.getD k 0 = y at *
      generalize (kz l k).getD k 0 = z at *
      go_wp2
      go_roundw
      case rel => exact ⟨k + 1, by omega, by go_num, HSET.out, hbel.setCell (Nat.le_refl _) _, HOTH.out⟩
      case measure => simp [intOf]; omega
    · have ek : n = k := by omega
      subst ek
      have hFv : (U8 (kz l n)).toArray = F := by rw [HKN.out, kz_all]; exact HFE.out.symm
      rw [hFv] at hv
      have HVF := Lib.hid hv
      have HRF := Lib.hid ((hoth w.heap.size (by omega)).trans HR.out)
      have HBF := Lib.hid (HBS.out.trans (hbel.mono (by omega)))
      clear hv hoth hbel hFv
      go_wp2_with (first
        | ((with_reducible refine at_load 25 ?_); refine wpList_load_row (o := ⟨some 25, .load 41 (.tmp 3), _, _, _, _⟩) rfl 41 (.tmp 3) rfl (w.heap.size + 1) rfl 41 F (0, 0) _ HVF.out Tryd.underlying41 rfl HIF.out.1 ?_)
        | ((with_reducible refine at_store 2 ?_); refine wpList_store_named (o := ⟨none, .store 41 (.tmp 2) (.tmp 25), _, _, _, _⟩) rfl 41 (.tmp 2) (.tmp 25) rfl w.heap.size F rfl rfl 41 b64 HRF.out HIF.out.1 HIF.out.2.1 HIF.out.2.2 ?_; intro w9 hw9))
      have hr9 : w9.heap[w.heap.size]? = some (.cells F 41 (0, 0)) := by rw [hw9.out]; exact setRow_heap _ _ _ _ _ _ HRF.out
      refine bodyPost_ret (results_cell_row Tryd.results21 _ w9 w.heap.size 41 _ (0, 0) _ rfl hr9 Tryd.underlying41 rfl HIF.out.1) rfl ⟨rfl, ?_⟩
      exact HBF.out.trans (below_row hw9.out (Nat.le_refl _))

set_option maxRecDepth 100000 in
set_option maxHeartbeats 800000 in
theorem refblock03_long (l : List Nat) (n : Nat) (hn : n = l.length) (A : Option Addr) (c : Nat) (w : World) (hA : Rd w w.heap.size A (U8 l)) (hb : ∀ x ∈ l, x < 256) (hnil : A = none → c = 0) (h : 64 < n) (h5 : n ≤ 5000) (F : Array Value) (hF : F = (U8 (blockM l)).toArray) :
    Calls Tryd.prog 21 #[.slice A n c] w fun e w' => e = .returned (.agg F) ∧ Below w.heap.size w w' := by
  obtain ⟨D, hD⟩ : ∃ D, D = digestN l := ⟨_, rfl⟩
  obtain ⟨FD, hFD⟩ : ∃ FD : Array Value, FD = (U8 (digestN l)).toArray := ⟨_, rfl⟩
  have hDl : D.length = 32 := by rw [hD, length_dig]
  have hFD' : FD = (U8 D).toArray := by rw [hFD, hD]
  have hkey : keyN l = D := by unfold keyN; rw [if_pos (by omega), hD]
  have hFE : F = (U8 (D ++ List.replicate (64 - D.length) 0)).toArray := by rw [hF]; unfold blockM; rw [hkey]
  have h64 : D.length ≤ 64 := by omega
  have HA := Lib.hid hA
  have HN := Lib.hid hn
  have HNIL := Lib.hid hnil
  have HB := Lib.hid hb
  have HFD := Lib.hid hFD
  have HFD' := Lib.hid hFD'
  have HFE := Lib.hid hFE
  have HK64 := Lib.hid h64
  have HKN := Lib.hid hDl.symm
  have HID := Lib.hid (isArr32 hFD' hDl)
  have HIF := Lib.hid (isArr64 hF (length_blockM l))
  clear hA hn hnil hb hFD hFD' hFE h64 hDl hkey hF hD
  go_enter Tryd.func21, Tryd.ntmps21
  go_wp2_with ((with_reducible refine at_store 3 ?_); refine wpList_store_named (o := ⟨none, .store 41 (.tmp 3) (.tmp 6), _, _, _, _⟩) rfl 41 (.tmp 3) (.tmp 6) rfl (w.heap.size + 1) b64 rfl rfl 41 b64 (heap_alloc2_new _ _ _) info64 rfl (all_one8 (List.replicate 64 0)) ?_; intro w0 hw0)
  obtain ⟨hs0, hr0, hv0, hb0⟩ := two_made_set hw0.out
  have HR0 : Hid (w0.heap[w.heap.size]? = some (.cells b64 41 (0, 0))) := Lib.hid hr0
  have HV0 : Hid (w0.heap[w.heap.size + 1]? = some (.cells b64 41 (0, 0))) := Lib.hid hv0
  clear hr0 hv0 hw0
  refine (refsum_arr l FD HFD n HN.out A c w0 (HA.out.next hb0) HNIL.out HB.out h5).mono ?_
  rintro e w1 ⟨rfl, hb1⟩
  have hs1 := hb1.size
  go_wp2_with ((with_reducible refine at_store 4 ?_); refine wpList_store_named (o := ⟨none, .store 36 (.tmp 4) (.tmp 11), _, _, _, _⟩) rfl 36 (.tmp 4) (.tmp 11) rfl w1.heap.size FD rfl rfl 36 b32 (heap_alloc_new w1 _) HID.out.1 HID.out.2.1 HID.out.2.2 ?_; intro w2 hw2)
  obtain ⟨hrd2, hv2, hr2, hb2⟩ := mac_facts hs0 HR0.out HV0.out hb0 hb1 hw2.out HFD'.out
  have HR := Lib.hid hr2
  have HV := Lib.hid hv2
  have HBS := Lib.hid hb2
  have hne : w1.heap.size ≠ w.heap.size + 1 := by omega
  have hsrc : Beside w2 (w.heap.size + 1) (some ⟨w1.heap.size, 0, none⟩) (U8 D) := by
    intro k u hu
    obtain ⟨ad, he, _, hc⟩ := hrd2 k u hu
    cases he
    exact ⟨_, rfl, hne, hc⟩
  have HSRC := Lib.hid hsrc
  clear hrd2 hv2 hr2 hb2 hw2 hb1 hb0 hsrc
  go_loopw [5] (fun i wr => ∃ k : Nat, k ≤ (32 : Nat) ∧ i = .int .i64 k ∧ wr.heap[w.heap.size + 1]? = some (.cells (U8 (kz D k)).toArray 41 (0, 0)) ∧ Below (w.heap.size + 1) w2 wr ∧ ∀ b, b ≠ w.heap.size + 1 → wr.heap[b]? = w2.heap[b]?) (fun i _ => (32 : Nat) - (intOf i).toNat)
  case atStart => exact ⟨0, Nat.zero_le _, rfl, by rw [kz_zero, ← b64_eq]; exact HV.out, Below.refl _ _, fun _ _ => rfl⟩
  case round =>
    obtain ⟨k, hk, rfl, hv, hbel, hoth⟩ := hrel
    by_cases hlt : k < (32 : Nat)
    · have hkl : k < D.length := by rw [← HKN.out]; exact hlt
      obtain ⟨ad, hade, hne, hc0⟩ := HSRC.out k _ (U8_getD D k hkl)
      cases hade
      rw [at_add] at hc0
      have hc : wr.cell? ⟨w1.heap.size, k, none⟩ = some (.int .u8 ((D.getD k 0 : Nat) : Int)) := (World.cell?_of_block (w := w2) (w' := wr) (a := ⟨w1.heap.size, k, none⟩) (hoth w1.heap.size hne)).trans hc0
      have hkz := length_kz D k (by omega) HK64.out
      have hcur := cell_u8 hv k (by rw [hkz]; omega)
      have hfz := frozen_of_row wr _ k _ _ hv
      have hset := heap_setCell_same wr _ k _ 41 (.int .u8 ((D.getD k 0 : Nat) : Int)) hv
      have hst : (U8 (kz D k)).toArray.setIfInBounds k (.int .u8 ((D.getD k 0 : Nat) : Int)) = (U8 (kz D (k + 1))).toArray := by
        rw [List.setIfInBounds_toArray, ← kz_set D k hkl HK64.out, U8, U8, List.map_set]
      rw [hst] at hset
      have HSET := Lib.hid hset
      have HOTH := Lib.hid (fun (b : Nat) (hb : b ≠ w.heap.size + 1) => (heap_setCell_other wr ⟨w.heap.size + 1, k, none⟩ b (.int .u8 ((D.getD k 0 : Nat) : Int)) hb).trans (hoth b hb))
      have bk0 : (0 : Int) ≤ (k : Int) := Int.natCast_nonneg _
      have bk1 : (k : Int) < ((32 : Nat) : Nat) := by omega
      have bk2 : (k : Int) < 64 := by omega
      clear hset hst hv hoth hc0 hkz
      generalize D.getD k 0 = y at *
      generalize (kz D k).getD k 0 = z at *
      go_wp2
      go_roundw
      case rel => exact ⟨k + 1, by omega, by go_num, HSET.out, hbel.setCell (Nat.le_refl _) _, HOTH.out⟩
      case measure => simp [intOf]; omega
    · have ek : (32 : Nat) = k := by omega
      subst ek
      have hFv : (U8 (kz D (32 : Nat))).toArray = F := by rw [HKN.out, kz_all]; exact HFE.out.symm
      rw [hFv] at hv
      have HVF := Lib.hid hv
      have HRF := Lib.hid ((hoth w.heap.size (by omega)).trans HR.out)
      have HBF := Lib.hid (HBS.out.trans (hbel.mono (by omega)))
      clear hv hoth hbel hFv
      go_wp2_with (first
        | ((with_reducible refine at_load 25 ?_); refine wpList_load_row (o := ⟨some 25, .load 41 (.tmp 3), _, _, _, _⟩) rfl 41 (.tmp 3) rfl (w.heap.size + 1) rfl 41 F (0, 0) _ HVF.out Tryd.underlying41 rfl HIF.out.1 ?_)
        | ((with_reducible refine at_store 2 ?_); refine wpList_store_named (o := ⟨none, .store 41 (.tmp 2) (.tmp 25), _, _, _, _⟩) rfl 41 (.tmp 2) (.tmp 25) rfl w.heap.size F rfl rfl 41 b64 HRF.out HIF.out.1 HIF.out.2.1 HIF.out.2.2 ?_; intro w9 hw9))
      have hr9 : w9.heap[w.heap.size]? = some (.cells F 41 (0, 0)) := by rw [hw9.out]; exact setRow_heap _ _ _ _ _ _ HRF.out
      refine bodyPost_ret (results_cell_row Tryd.results21 _ w9 w.heap.size 41 _ (0, 0) _ rfl hr9 Tryd.underlying41 rfl HIF.out.1) rfl ⟨rfl, ?_⟩
      exact HBF.out.trans (below_row hw9.out (Nat.le_refl _))

theorem refblock03_any (l : List Nat) (n : Nat) (hn : n = l.length) (A : Option Addr) (c : Nat) (w : World) (hA : Rd w w.heap.size A (U8 l)) (hb : ∀ x ∈ l, x < 256) (hnil : A = none → c = 0) (h5 : n ≤ 5000) (F : Array Value) (hF : F = (U8 (blockM l)).toArray) :
    Calls Tryd.prog 21 #[.slice A n c] w fun e w' => e = .returned (.agg F) ∧ Below w.heap.size w w' := by
  by_cases h : 64 < n
  · exact refblock03_long l n hn A c w hA hb hnil h h5 F hF
  · exact refblock03_short l n hn A c w hA (by omega) F hF
end Go.Proofs.YtdpijlkhcagfaaaDoor
