/-
  Contract for Block of package mac: a secret's block. Conditions: the slice reads as bytes, at most 5000 of them; the package's tables hold what its text lays.
-/
import Derived.Test.YtdpijlkhcagfaaaDoorMacMasked
import Derived.Test.YtdpijlkhcagfaaaDoorShaUse
namespace Go.Proofs.YtdpijlkhcagfaaaDoor
set_option linter.unusedVariables false
open Go.ChangeShapes Go.WideShapes Go.ChangeAt Go.RowKit

theorem splice_b64 (l : List Nat) (h : l.length ≤ 64) : splice b64.toList 0 (U8 l) = U8 (l ++ List.replicate (64 - l.length) 0) := by
  have e : b64.toList = U8 (List.replicate 64 0) := rfl
  unfold splice
  rw [e, List.take_zero, List.nil_append, Nat.zero_add, U8_length, U8_append, U8_drop, List.drop_replicate]
theorem two_made_set {w w' : World} {ca cb cd : Array Value} {ta tb : TypeId} (h : w' = ((w.alloc (.cells ca ta)).alloc (.cells cb tb)).setRow (w.heap.size + 1) cd) :
    w'.heap.size = w.heap.size + 1 + 1 ∧ w'.heap[w.heap.size]? = some (.cells ca ta (0, 0)) ∧ w'.heap[w.heap.size + 1]? = some (.cells cd tb (0, 0)) ∧ Below w.heap.size w w' := by
  have h2 : ((w.alloc (.cells ca ta)).alloc (.cells cb tb)).heap[w.heap.size + 1]? = some (.cells cb tb (0, 0)) := heap_alloc2_new _ _ _
  subst h
  refine ⟨by simp, ?_, setRow_heap _ _ _ _ _ _ h2, ?_⟩
  · rw [setRow_other _ _ _ _ (by omega)]; exact heap_alloc2_old _ _ _
  · exact below_setRow (((Below.refl _ _).alloc (Nat.le_refl _) _).alloc (by simp) _) (by omega) _
theorem rd_cells {w : World} {A : Option Addr} {l : List Nat} (hA : Rd w w.heap.size A (U8 l)) (h : 0 < (U8 l).length) : ∃ ad, A = some ad ∧ ∀ j v, (U8 l)[j]? = some v → w.cell? (ad.add j) = some v := by
  obtain ⟨ad, he, _, _⟩ := hA 0 _ (List.getElem?_eq_getElem h)
  refine ⟨ad, he, fun j v hv => ?_⟩
  obtain ⟨ad', he', _, hc⟩ := hA j v hv
  rw [he] at he'
  cases he'
  exact hc

set_option maxRecDepth 100000 in
set_option maxHeartbeats 800000 in
theorem macblock_short (l : List Nat) (n : Nat) (hn : n = l.length) (A : Option Addr) (c : Nat) (w : World) (hA : Rd w w.heap.size A (U8 l)) (hnil : A = none → c = 0) (h : n ≤ 64) (F : Array Value) (hF : F = (U8 (blockM l)).toArray) :
    Calls Tryd.prog 20 #[.slice A n c] w fun e w' => e = .returned (.agg F) ∧ Below w.heap.size w w' := by
  have hkey : keyN l = l := by unfold keyN; rw [if_neg (by omega)]
  have hsp : (splice b64.toList 0 (U8 l)).toArray = F := by rw [splice_b64 l (by omega), hF]; unfold blockM; rw [hkey]
  have hsz : F.size = 64 := by rw [hF]; simp [U8, length_blockM]
  have hin : (Tryd.prog.info? 41).map (·.size) = some F.size := by rw [hsz]; exact info64
  have hone : F.all (·.oneCell') = true := by rw [hF]; exact all_one8 _
  have hmin : (U8 l).length = Nat.min n 64 := by rw [U8_length, ← hn]; exact (Nat.min_eq_left h).symm
  have hfit : 0 + (U8 l).length ≤ b64.toList.length := by rw [U8_length, ← hn]; show 0 + n ≤ 64; omega
  have HA := Lib.hid hA
  have HNIL := Lib.hid hnil
  have HSP := Lib.hid hsp
  have HSZ := Lib.hid hsz
  have HIN := Lib.hid hin
  have HONE := Lib.hid hone
  have HMIN := Lib.hid hmin
  have HFIT := Lib.hid hfit
  clear hA hnil hsp hsz hin hone hkey hF hmin hfit hn
  go_enter Tryd.func20, Tryd.ntmps20
  go_wp2_with (first
    | ((with_reducible refine at_store 3 ?_); refine wpList_store_named (o := ⟨none, .store 41 (.tmp 3) (.tmp 5), _, _, _, _⟩) rfl 41 (.tmp 3) (.tmp 5) rfl (w.heap.size + 1) b64 rfl rfl 41 b64 (heap_alloc2_new _ _ _) info64 rfl (all_one8 (List.replicate 64 0)) ?_; intro w0 hw0)
    | ((with_reducible refine at_calls 14 ?_); refine wpList_copy_splice (o := ⟨some 14, _, _, _, _, _⟩) rfl (.tmp 12) (.tmp 13) 28 28 rfl 5 Tryd.underlying28 sizeU8 (some ⟨w.heap.size + 1, 0, none⟩) A 64 64 n c rfl rfl (w.heap.size + 1) 0 b64.toList 41 (two_made_set hw0.out).2.2.1 (U8 l) HMIN.out (fun hp => ⟨rfl, rd_cells (HA.out.next (two_made_set hw0.out).2.2.2) hp⟩) HFIT.out (U8_one l) (w.heap.size + 1) w0 (Below.refl _ _) (Nat.le_refl _) ?_; intro w1 hw1 hb1; have hw1' : Hid (w1.heap[w.heap.size + 1]? = some (.cells F 41 (0, 0))) := Lib.hid (HSP.out ▸ hw1.out))
    | ((with_reducible refine at_load 15 ?_); refine wpList_load_row (o := ⟨some 15, .load 41 (.tmp 3), _, _, _, _⟩) rfl 41 (.tmp 3) rfl (w.heap.size + 1) rfl 41 F (0, 0) _ hw1'.out Tryd.underlying41 rfl HIN.out ?_)
    | ((with_reducible refine at_store 2 ?_); refine wpList_store_named (o := ⟨none, .store 41 (.tmp 2) (.tmp 15), _, _, _, _⟩) rfl 41 (.tmp 2) (.tmp 15) rfl w.heap.size F rfl rfl 41 b64 ((hb1.block _ (by omega)).trans (two_made_set hw0.out).2.1) HIN.out HSZ.out.symm HONE.out ?_; intro w2 hw2))
  have hr2 : w2.heap[w.heap.size]? = some (.cells F 41 (0, 0)) := by
    rw [hw2.out]; exact setRow_heap _ _ _ _ _ _ ((hb1.block _ (by omega)).trans (two_made_set hw0.out).2.1)
  refine bodyPost_ret (results_cell_row Tryd.results20 _ w2 w.heap.size 41 _ (0, 0) _ rfl hr2 Tryd.underlying41 rfl HIN.out) rfl ⟨rfl, ?_⟩
  exact ((two_made_set hw0.out).2.2.2.trans (hb1.mono (by omega))).trans (below_row hw2.out (Nat.le_refl _))

theorem mac_facts {w w0 w1 w2 : World} {D : List Nat} {FD : Array Value} {t t' : TypeId} (hs0 : w0.heap.size = w.heap.size + 1 + 1) (hr0 : w0.heap[w.heap.size]? = some (.cells b64 t (0, 0))) (hv0 : w0.heap[w.heap.size + 1]? = some (.cells b64 t (0, 0))) (hb0 : Below w.heap.size w w0) (hb1 : Below w0.heap.size w0 w1)
    (h : w2 = (w1.alloc (.cells b32 t')).setRow w1.heap.size FD) (hFD : FD = (U8 D).toArray) :
    Rd w2 w2.heap.size (some ⟨w1.heap.size, 0, none⟩) (U8 D) ∧ w2.heap[w.heap.size + 1]? = some (.cells b64 t (0, 0)) ∧ w2.heap[w.heap.size]? = some (.cells b64 t (0, 0)) ∧ Below w.heap.size w w2 := by
  obtain ⟨hs2, hr2, hb2⟩ := row_made h
  have hs1 := hb1.size
  refine ⟨?_, (hb2.block (w.heap.size + 1) (by omega)).trans ((hb1.block _ (by omega)).trans hv0), (hb2.block w.heap.size (by omega)).trans ((hb1.block _ (by omega)).trans hr0), (hb0.trans (hb1.mono (by omega))).trans (hb2.mono (by omega))⟩
  intro k u hu
  refine ⟨_, rfl, by show w1.heap.size < _; omega, ?_⟩
  rw [at_add, cell_of_row w2 _ k _ _ (0, 0) hr2, hFD]
  simpa using hu

set_option maxRecDepth 100000 in
set_option maxHeartbeats 800000 in
theorem macblock_long (l : List Nat) (n : Nat) (hn : n = l.length) (A : Option Addr) (c : Nat) (w : World) (hT : Tabs w) (hA : Rd w w.heap.size A (U8 l)) (hb : ∀ x ∈ l, x < 256) (hnil : A = none → c = 0) (h : 64 < n) (h5 : n ≤ 5000) (F : Array Value) (hF : F = (U8 (blockM l)).toArray) :
    Calls Tryd.prog 20 #[.slice A n c] w fun e w' => e = .returned (.agg F) ∧ Below w.heap.size w w' := by
  obtain ⟨D, hD⟩ : ∃ D, D = digestN l := ⟨_, rfl⟩
  obtain ⟨FD, hFD⟩ : ∃ FD : Array Value, FD = (U8 (digestN l)).toArray := ⟨_, rfl⟩
  have hDl : D.length = 32 := by rw [hD, length_dig]
  have hFD' : FD = (U8 D).toArray := by rw [hFD, hD]
  have hkey : keyN l = D := by unfold keyN; rw [if_pos (by omega), hD]
  have hsp : (splice b64.toList 0 (U8 D)).toArray = F := by rw [splice_b64 D (by omega), hF]; unfold blockM; rw [hkey]
  have hsz : F.size = 64 := by rw [hF]; simp [U8, length_blockM]
  have hin : (Tryd.prog.info? 41).map (·.size) = some F.size := by rw [hsz]; exact info64
  have hone : F.all (·.oneCell') = true := by rw [hF]; exact all_one8 _
  have hszD : FD.size = 32 := by rw [hFD']; simp [U8, hDl]
  have hinD : (Tryd.prog.info? 36).map (·.size) = some FD.size := by rw [hszD]; exact info32
  have honeD : FD.all (·.oneCell') = true := by rw [hFD']; exact all_one8 _
  have hmin : (U8 D).length = Nat.min 32 64 := by rw [U8_length, hDl]; rfl
  have hfit : 0 + (U8 D).length ≤ b64.toList.length := by rw [U8_length, hDl]; show 0 + 32 ≤ 64; omega
  have HA := Lib.hid hA
  have HNIL := Lib.hid hnil
  have HSP := Lib.hid hsp
  have HSZ := Lib.hid hsz
  have HIN := Lib.hid hin
  have HONE := Lib.hid hone
  have HSZD := Lib.hid hszD
  have HIND := Lib.hid hinD
  have HONED := Lib.hid honeD
  have HMIN := Lib.hid hmin
  have HFIT := Lib.hid hfit
  have HFD := Lib.hid hFD
  have HFD' := Lib.hid hFD'
  have HN := Lib.hid hn
  have HT := Lib.hid hT
  have HB := Lib.hid hb
  clear hA hnil hsp hsz hin hone hkey hF hmin hfit hszD hinD honeD hFD hFD' hn hT hb hD hDl
  go_enter Tryd.func20, Tryd.ntmps20
  go_wp2_with ((with_reducible refine at_store 3 ?_); refine wpList_store_named (o := ⟨none, .store 41 (.tmp 3) (.tmp 5), _, _, _, _⟩) rfl 41 (.tmp 3) (.tmp 5) rfl (w.heap.size + 1) b64 rfl rfl 41 b64 (heap_alloc2_new _ _ _) info64 rfl (all_one8 (List.replicate 64 0)) ?_; intro w0 hw0)
  obtain ⟨hs0, hr0, hv0, hb0⟩ := two_made_set hw0.out
  have HR0 := Lib.hid hr0
  have HV0 := Lib.hid hv0
  clear hr0 hv0 hw0
  refine (sum_arr l FD HFD n HN.out A c w0 (HT.out.next hb0) (HA.out.next hb0) HNIL.out HB.out h5).mono ?_
  rintro e w1 ⟨rfl, hb1⟩
  have hs1 := hb1.size
  go_wp2_with (first
    | ((with_reducible refine at_store 4 ?_); refine wpList_store_named (o := ⟨none, .store 36 (.tmp 4) (.tmp 10), _, _, _, _⟩) rfl 36 (.tmp 4) (.tmp 10) rfl w1.heap.size FD rfl rfl 36 b32 (heap_alloc_new w1 _) HIND.out HSZD.out.symm HONED.out ?_; intro w2 hw2; have HFX := Lib.hid (mac_facts hs0 HR0.out HV0.out hb0 hb1 hw2.out HFD'.out))
    | ((with_reducible refine at_calls 14 ?_); refine wpList_copy_splice (o := ⟨some 14, _, _, _, _, _⟩) rfl (.tmp 12) (.tmp 13) 28 28 rfl 5 Tryd.underlying28 sizeU8 (some ⟨w.heap.size + 1, 0, none⟩) (some ⟨w1.heap.size, 0, none⟩) 64 64 32 32 rfl rfl (w.heap.size + 1) 0 b64.toList 41 HFX.out.2.1 (U8 D) HMIN.out (fun hp => ⟨rfl, rd_cells HFX.out.1 hp⟩) HFIT.out (U8_one D) (w.heap.size + 1) w2 (Below.refl _ _) (Nat.le_refl _) ?_; intro w3 hw3 hb3; have hw3' : Hid (w3.heap[w.heap.size + 1]? = some (.cells F 41 (0, 0))) := Lib.hid (HSP.out ▸ hw3.out))
    | ((with_reducible refine at_load 15 ?_); refine wpList_load_row (o := ⟨some 15, .load 41 (.tmp 3), _, _, _, _⟩) rfl 41 (.tmp 3) rfl (w.heap.size + 1) rfl 41 F (0, 0) _ hw3'.out Tryd.underlying41 rfl HIN.out ?_)
    | ((with_reducible refine at_store 2 ?_); refine wpList_store_named (o := ⟨none, .store 41 (.tmp 2) (.tmp 15), _, _, _, _⟩) rfl 41 (.tmp 2) (.tmp 15) rfl w.heap.size F rfl rfl 41 b64 ((hb3.block _ (by omega)).trans HFX.out.2.2.1) HIN.out HSZ.out.symm HONE.out ?_; intro w4 hw4))
  have hr4 : w4.heap[w.heap.size]? = some (.cells F 41 (0, 0)) := by
    rw [hw4.out]; exact setRow_heap _ _ _ _ _ _ ((hb3.block _ (by omega)).trans HFX.out.2.2.1)
  refine bodyPost_ret (results_cell_row Tryd.results20 _ w4 w.heap.size 41 _ (0, 0) _ rfl hr4 Tryd.underlying41 rfl HIN.out) rfl ⟨rfl, ?_⟩
  exact (HFX.out.2.2.2.trans (hb3.mono (by omega))).trans (below_row hw4.out (Nat.le_refl _))

/-- A secret's block. -/
theorem macblock_any (l : List Nat) (n : Nat) (hn : n = l.length) (A : Option Addr) (c : Nat) (w : World) (hT : Tabs w) (hA : Rd w w.heap.size A (U8 l)) (hb : ∀ x ∈ l, x < 256) (hnil : A = none → c = 0) (h5 : n ≤ 5000) (F : Array Value) (hF : F = (U8 (blockM l)).toArray) :
    Calls Tryd.prog 20 #[.slice A n c] w fun e w' => e = .returned (.agg F) ∧ Below w.heap.size w w' := by
  by_cases h : 64 < n
  · exact macblock_long l n hn A c w hT hA hb hnil h h5 F hF
  · exact macblock_short l n hn A c w hA hnil (by omega) F hF
end Go.Proofs.YtdpijlkhcagfaaaDoor
