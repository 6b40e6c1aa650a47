/-
  Contracts for Tag of package mac, and for its closure: what a secret makes of bytes. Conditions: the slices read as bytes, at most 4000 of them; the package's tables hold what its text lays.
-/
import Derived.Test.YtdpijlkhcagfaaaDoorMacBlock
namespace Go.Proofs.YtdpijlkhcagfaaaDoor
set_option linter.unusedVariables false
open Go.ChangeShapes Go.WideShapes Go.ChangeAt Go.RowKit

/-- An array as it is stored whole. -/
def IsArr (t n : Nat) (F : Array Value) : Prop := (Tryd.prog.info? t).map (·.size) = some F.size ∧ n = F.size ∧ F.all (·.oneCell') = true
theorem isArr32 {F : Array Value} {l : List Nat} (h : F = (U8 l).toArray) (hl : l.length = 32) : IsArr 36 32 F := by
  have hs : F.size = 32 := by rw [h]; simp [U8, hl]
  exact ⟨by rw [hs]; exact info32, hs.symm, by rw [h]; exact all_one8 _⟩
theorem isArr64 {F : Array Value} {l : List Nat} (h : F = (U8 l).toArray) (hl : l.length = 64) : IsArr 41 64 F := by
  have hs : F.size = 64 := by rw [h]; simp [U8, hl]
  exact ⟨by rw [hs]; exact info64, hs.symm, by rw [h]; exact all_one8 _⟩
/-- A row of bytes, as a slice of it reads. -/
theorem rd_row {w : World} {g : Nat} {F : Array Value} {l : List Nat} {t : TypeId} (h : w.heap[g]? = some (.cells F t (0, 0))) (hF : F = (U8 l).toArray) : Rd w w.heap.size (some ⟨g, 0, none⟩) (U8 l) := by
  intro k u hu
  refine ⟨_, rfl, (Array.getElem?_eq_some_iff.1 h).1, ?_⟩
  rw [at_add, cell_of_row w _ k _ _ (0, 0) h, hF]
  simpa using hu

theorem masked_arr (K : List Nat) (m : Nat) (X FM : Array Value) (w : World) (hX : X = (U8 K).toArray) (hFM : FM = (U8 (maskN K m)).toArray) (hK : ∀ x ∈ K, x < 256) (hl : K.length = 64) (hm : m < 256) :
    Calls Tryd.prog 34 #[.agg X, .int .u8 m] w fun e w' => e = .returned (.agg FM) ∧ Below w.heap.size w w' := by
  subst hX hFM
  exact masked_any K m w hK hl hm
/-- Rows one behind the other, as a slice that reads so. -/
theorem concat_rd (ps : List Part) (L : List Nat) (hL : L = flat ps) (g m c : Nat) (w : World) (hm : ps.length = m) (hg : g < w.heap.size) (hcell : ∀ i p, ps[i]? = some p → w.cell? ⟨g, i, none⟩ = some p.val) (hok : ∀ p ∈ ps, p.ok w) (hm2 : m ≤ 1000)
    (h0 : 0 < L.length) (hn : L.length ≤ 140737488355328) :
    Calls Tryd.prog 29 #[.slice (some ⟨g, 0, none⟩) m c] w fun e w' => ∃ A cap, e = .returned (.slice A L.length cap) ∧ Rd w' w'.heap.size A (U8 L) ∧ (A = none → cap = 0) ∧ Below w.heap.size w w' := by
  subst hL
  refine (concat_any ps g m c w hm hg hcell hok hm2 h0 hn).mono ?_
  rintro e w' ⟨v, rfl, hown, hb⟩
  obtain ⟨A, cap, rfl, hr⟩ := own_shape hown
  refine ⟨A, cap, rfl, hr, ?_, hb⟩
  rintro rfl
  rcases hown.2 with ⟨h, _⟩ | ⟨g', cap', cur, h, _⟩
  · simp at h; exact h.2
  · simp at h

set_option maxRecDepth 100000 in
set_option maxHeartbeats 800000 in
theorem side_any (K l : List Nat) (m n : Nat) (hn : n = l.length) (A : Option Addr) (c Bk : Nat) (w : World) (hT : Tabs w) (hk : w.heap[Bk]? = some (.cells (U8 K).toArray 41 (0, 0))) (hA : Rd w w.heap.size A (U8 l)) (hnil : A = none → c = 0)
    (hl : K.length = 64) (hK : ∀ x ∈ K, x < 256) (hb : ∀ x ∈ l, x < 256) (hm : m < 256) (h4 : n ≤ 4000) (F : Array Value) (hF : F = (U8 (digestN (maskN K m ++ l))).toArray) :
    Calls Tryd.prog 33 #[.int .u8 m, .slice A n c, .pointer (some ⟨Bk, 0, none⟩)] w fun e w' => e = .returned (.agg F) ∧ Below w.heap.size w w' := by
  obtain ⟨X, hX⟩ : ∃ X : Array Value, X = (U8 K).toArray := ⟨_, rfl⟩
  obtain ⟨FM, hFM⟩ : ∃ FM : Array Value, FM = (U8 (maskN K m)).toArray := ⟨_, rfl⟩
  rw [← hX] at hk
  have hsX : X.size = 64 := by rw [hX]; simp [U8, hl]
  have hiX : (Tryd.prog.info? 41).map (·.size) = some X.size := by rw [hsX]; exact info64
  have hsM : FM.size = 64 := by rw [hFM]; simp [U8, length_maskN, hl]
  have hiM : (Tryd.prog.info? 41).map (·.size) = some FM.size := by rw [hsM]; exact info64
  have hoM : FM.all (·.oneCell') = true := by rw [hFM]; exact all_one8 _
  have hsF : F.size = 32 := by rw [hF]; simp [U8, length_dig]
  have hiF : (Tryd.prog.info? 36).map (·.size) = some F.size := by rw [hsF]; exact info32
  have hoF : F.all (·.oneCell') = true := by rw [hF]; exact all_one8 _
  have hkl : Bk < w.heap.size := (Array.getElem?_eq_some_iff.1 hk).1
  have HN := Lib.hid hn
  have HT := Lib.hid hT
  have HKC := Lib.hid hk
  have HA := Lib.hid hA
  have HNIL := Lib.hid hnil
  have HL := Lib.hid hl
  have HK := Lib.hid hK
  have HB := Lib.hid hb
  have HF := Lib.hid hF
  have HX := Lib.hid hX
  have HFM := Lib.hid hFM
  have HIX := Lib.hid hiX
  have HSM := Lib.hid hsM
  have HIM := Lib.hid hiM
  have HOM := Lib.hid hoM
  have HSF := Lib.hid hsF
  have HIF := Lib.hid hiF
  have HOF := Lib.hid hoF
  clear hn hT hk hA hnil hl hK hb hF hX hFM hsX hiX hsM hiM hoM hsF hiF hoF
  go_enter Tryd.func33, Tryd.ntmps33
  go_wp2_with ((with_reducible refine at_load 7 ?_); refine wpList_load_row (o := ⟨some 7, .load 41 (.tmp 2), _, _, _, _⟩) rfl 41 (.tmp 2) rfl Bk rfl 41 X (0, 0) _ (((below_lit w _ _).block Bk hkl).trans HKC.out) Tryd.underlying41 rfl HIX.out ?_)
  refine (masked_arr K m X FM _ HX.out HFM.out HK.out HL.out hm).mono ?_
  rintro e w1 ⟨rfl, hb1⟩
  have hr1 : w1.heap[w.heap.size]? = some (.cells b32 36 (0, 0)) := (hb1.block _ (by simp)).trans (heap_alloc_new w _)
  have hbw := below_after _ _ hb1
  have hs1 : w.heap.size + 1 ≤ w1.heap.size := by have := hb1.size; simpa using this
  have HR1 := Lib.hid hr1
  have HBW := Lib.hid hbw
  clear hr1 hbw hb1
  go_wp2_with ((with_reducible refine at_store 6 ?_); refine wpList_store_named (o := ⟨none, .store 41 (.tmp 6) (.tmp 9), _, _, _, _⟩) rfl 41 (.tmp 6) (.tmp 9) rfl w1.heap.size FM rfl rfl 41 b64 (heap_alloc_new w1 _) HIM.out HSM.out.symm HOM.out ?_; intro w2 hw2)
  obtain ⟨hs2, hr2, hb2⟩ := row_made hw2.out
  have hrd2 : Rd w2 w2.heap.size (some ⟨w1.heap.size, 0, none⟩) (U8 (maskN K m)) := by
    intro k u hu
    refine ⟨_, rfl, by show w1.heap.size < _; omega, ?_⟩
    rw [at_add, cell_of_row w2 _ k _ _ (0, 0) hr2, HFM.out]
    simpa using hu
  have hb02 : Below w.heap.size w w2 := HBW.out.trans (hb2.mono (by omega))
  have hA2 := HA.out.next hb02
  have HR2 := Lib.hid ((hb2.block w.heap.size (by omega)).trans HR1.out)
  have HT2 := Lib.hid (HT.out.next hb02)
  have HB2 := Lib.hid hb02
  obtain ⟨L, hL⟩ : ∃ L, L = maskN K m ++ l := ⟨_, rfl⟩
  have hLl : L.length = 64 + n := by rw [hL, List.length_append, length_maskN, HL.out, HN.out]
  have hLb : ∀ x ∈ L, x < 256 := by
    rw [hL]; intro x hx
    rcases List.mem_append.1 hx with h | h
    · exact maskN_lt K m HK.out hm x h
    · exact HB.out x h
  have hfl : L = flat [⟨some ⟨w1.heap.size, 0, none⟩, maskN K m, 64⟩, ⟨A, l, c⟩] := by rw [hL]; simp [flat]
  have hml : (maskN K m).length = 64 := by rw [length_maskN, HL.out]
  have HLB := Lib.hid hLb
  have HLL := Lib.hid hLl
  refine (concat_rd [⟨some ⟨w1.heap.size, 0, none⟩, maskN K m, 64⟩, ⟨A, l, c⟩] L hfl w2.heap.size 2 2 _ rfl (by simp) (parts_lit (by simp [Part.val, hml]; exact HN.out)) ?_ (by omega) (by omega) (by omega)).mono ?_
  · intro p hp
    refine Part.ok_alloc ?_ _
    simp only [List.mem_cons, List.not_mem_nil, or_false] at hp
    rcases hp with rfl | rfl
    · exact ⟨hrd2, fun h => by cases h⟩
    · exact ⟨hA2, HNIL.out⟩
  · rw [← hL] at HF
    clear hfl hml hLb hL hrd2 hr2 hw2 hb02 hA2 hb2
    rintro e w3 ⟨A3, c3, rfl, hr3, hn3, hb3⟩
    have hb03 : Below w.heap.size w w3 := (HB2.out.alloc HB2.out.size _).trans (hb3.mono (by have := HB2.out.size; simp; omega))
    have HR3 := Lib.hid hr3
    have HN3 := Lib.hid hn3
    have HT3 := Lib.hid (HT.out.next hb03)
    have HRES3 := Lib.hid ((hb3.block w.heap.size (by simp; omega)).trans ((Below.heap_alloc w2 _ w.heap.size (by omega)).trans HR2.out))
    have HB3 := Lib.hid hb03
    have hs3 : w2.heap.size + 1 ≤ w3.heap.size := by have := hb3.size; simpa using this
    rw [hLl]
    clear hr3 hn3 hb03 hb3 hLl
    go_wp2_with fail
    refine (sum_arr L F HF (64 + n) HLL.out.symm A3 c3 w3 HT3.out HR3.out HN3.out HLB.out (by omega)).mono ?_
    rintro e w4 ⟨rfl, hb4⟩
    have HRES4 := Lib.hid ((hb4.block w.heap.size (by omega)).trans HRES3.out)
    have HB4 := Lib.hid (HB3.out.trans (hb4.mono (by omega)))
    clear hb4
    go_wp2_with ((with_reducible refine at_store 5 ?_); refine wpList_store_named (o := ⟨none, .store 36 (.tmp 5) (.tmp 14), _, _, _, _⟩) rfl 36 (.tmp 5) (.tmp 14) rfl w.heap.size F rfl rfl 36 b32 HRES4.out HIF.out HSF.out.symm HOF.out ?_; intro w5 hw5)
    have hr5 : w5.heap[w.heap.size]? = some (.cells F 36 (0, 0)) := by rw [hw5.out]; exact setRow_heap _ _ _ _ _ _ HRES4.out
    refine bodyPost_ret (results_cell_row Tryd.results33 _ w5 w.heap.size 36 _ (0, 0) _ rfl hr5 Tryd.underlying36 rfl HIF.out) rfl ⟨rfl, ?_⟩
    exact HB4.out.trans (below_row hw5.out (Nat.le_refl _))

set_option maxRecDepth 100000 in
set_option maxHeartbeats 800000 in
theorem mactag_any (s b : List Nat) (n m : Nat) (hn : n = s.length) (hm : m = b.length) (A A' : Option Addr) (c c' : Nat) (w : World) (hT : Tabs w) (hA : Rd w w.heap.size A (U8 s)) (hA' : Rd w w.heap.size A' (U8 b)) (hnil : A = none → c = 0) (hnil' : A' = none → c' = 0)
    (hs : ∀ x ∈ s, x < 256) (hb : ∀ x ∈ b, x < 256) (h5 : n ≤ 5000) (h4 : m ≤ 4000) (F : Array Value) (hF : F = (U8 (tagN s b)).toArray) :
    Calls Tryd.prog 18 #[.slice A n c, .slice A' m c'] w fun e w' => e = .returned (.agg F) ∧ Below w.heap.size w w' := by
  obtain ⟨K, hK⟩ : ∃ K, K = blockM s := ⟨_, rfl⟩
  obtain ⟨X, hX⟩ : ∃ X : Array Value, X = (U8 K).toArray := ⟨_, rfl⟩
  obtain ⟨D, hD⟩ : ∃ D, D = digestN (maskN K 54 ++ b) := ⟨_, rfl⟩
  obtain ⟨FD, hFD⟩ : ∃ FD : Array Value, FD = (U8 D).toArray := ⟨_, rfl⟩
  have hKl : K.length = 64 := by rw [hK, length_blockM]
  have hKb : ∀ x ∈ K, x < 256 := by rw [hK]; exact blockM_lt s hs
  have hDl : D.length = 32 := by rw [hD, length_dig]
  have hDb : ∀ x ∈ D, x < 256 := by rw [hD]; exact dig_lt _
  have hF' : F = (U8 (digestN (maskN K 92 ++ D))).toArray := by rw [hF, hD, hK]; rfl
  have hX' : X = (U8 (blockM s)).toArray := by rw [hX, hK]
  have hFD' : FD = (U8 (digestN (maskN K 54 ++ b))).toArray := by rw [hFD, hD]
  have HN := Lib.hid hn
  have HM := Lib.hid hm
  have HT := Lib.hid hT
  have HA := Lib.hid hA
  have HA' := Lib.hid hA'
  have HNIL := Lib.hid hnil
  have HNIL' := Lib.hid hnil'
  have HS := Lib.hid hs
  have HB := Lib.hid hb
  have HX := Lib.hid hX
  have HX' := Lib.hid hX'
  have HFD := Lib.hid hFD
  have HFD' := Lib.hid hFD'
  have HF := Lib.hid hF'
  have HKL := Lib.hid hKl
  have HKB := Lib.hid hKb
  have HDL := Lib.hid hDl
  have HDB := Lib.hid hDb
  have HIX := Lib.hid (isArr64 hX hKl)
  have HID := Lib.hid (isArr32 hFD hDl)
  have HIF := Lib.hid (isArr32 hF (length_dig _))
  clear hn hm hT hA hA' hnil hnil' hs hb hX hX' hFD hFD' hF hF' hK hD hKl hKb hDl hDb
  go_enter Tryd.func18, Tryd.ntmps18
  go_wp2_with fail
  refine (macblock_any s n HN.out A c _ (HT.out.next (below_lit w _ _)) (HA.out.next (below_lit w _ _)) HS.out HNIL.out h5 X HX'.out).mono ?_
  rintro e w1 ⟨rfl, hb1⟩
  have hr1 : w1.heap[w.heap.size]? = some (.cells b32 36 (0, 0)) := (hb1.block _ (by simp)).trans (heap_alloc_new w _)
  have hbw := below_after _ _ hb1
  have hs1 : w.heap.size + 1 ≤ w1.heap.size := by have := hb1.size; simpa using this
  have HR1 := Lib.hid hr1
  have HBW := Lib.hid hbw
  clear hr1 hbw hb1
  go_wp2_with ((with_reducible refine at_store 5 ?_); refine wpList_store_named (o := ⟨none, .store 41 (.tmp 5) (.tmp 9), _, _, _, _⟩) rfl 41 (.tmp 5) (.tmp 9) rfl w1.heap.size X rfl rfl 41 b64 (heap_alloc_new w1 _) HIX.out.1 HIX.out.2.1 HIX.out.2.2 ?_; intro w2 hw2)
  obtain ⟨hs2, hr2, hb2⟩ := row_made hw2.out
  have hb02 : Below w.heap.size w w2 := HBW.out.trans (hb2.mono (by omega))
  have HK2 : Hid (w2.heap[w1.heap.size]? = some (.cells (U8 K).toArray 41 (0, 0))) := Lib.hid (HX.out ▸ hr2)
  have HR2 := Lib.hid ((hb2.block w.heap.size (by omega)).trans HR1.out)
  have HB2 := Lib.hid hb02
  clear hr2 hw2 hb2 hb02
  refine (side_any K b 54 m HM.out A' c' w1.heap.size w2 (HT.out.next HB2.out) HK2.out (HA'.out.next HB2.out) HNIL'.out HKL.out HKB.out HB.out (by omega) h4 FD HFD'.out).mono ?_
  rintro e w3 ⟨rfl, hb3⟩
  have hs3 := hb3.size
  have HK3 := Lib.hid ((hb3.block w1.heap.size (by omega)).trans HK2.out)
  have HR3 := Lib.hid ((hb3.block w.heap.size (by omega)).trans HR2.out)
  have HB3 := Lib.hid (HB2.out.trans (hb3.mono (by omega)))
  clear hb3
  go_wp2_with ((with_reducible refine at_store 7 ?_); refine wpList_store_named (o := ⟨none, .store 36 (.tmp 7) (.tmp 13), _, _, _, _⟩) rfl 36 (.tmp 7) (.tmp 13) rfl w3.heap.size FD rfl rfl 36 b32 (heap_alloc_new w3 _) HID.out.1 HID.out.2.1 HID.out.2.2 ?_; intro w4 hw4)
  obtain ⟨hs4, hr4, hb4⟩ := row_made hw4.out
  have HRD4 := Lib.hid (rd_row hr4 HFD.out)
  have HK4 := Lib.hid ((hb4.block w1.heap.size (by omega)).trans HK3.out)
  have HR4 := Lib.hid ((hb4.block w.heap.size (by omega)).trans HR3.out)
  have HB4 := Lib.hid (HB3.out.trans (hb4.mono (by omega)))
  clear hr4 hw4 hb4
  refine (side_any K D 92 32 HDL.out.symm (some ⟨w3.heap.size, 0, none⟩) 32 w1.heap.size w4 (HT.out.next HB4.out) HK4.out HRD4.out (fun h => by cases h) HKL.out HKB.out HDB.out (by omega) (by omega) F HF.out).mono ?_
  rintro e w5 ⟨rfl, hb5⟩
  have HR5 := Lib.hid ((hb5.block w.heap.size (by omega)).trans HR4.out)
  have HB5 := Lib.hid (HB4.out.trans (hb5.mono (by omega)))
  clear hb5
  go_wp2_with ((with_reducible refine at_store 4 ?_); refine wpList_store_named (o := ⟨none, .store 36 (.tmp 4) (.tmp 16), _, _, _, _⟩) rfl 36 (.tmp 4) (.tmp 16) rfl w.heap.size F rfl rfl 36 b32 HR5.out HIF.out.1 HIF.out.2.1 HIF.out.2.2 ?_; intro w6 hw6)
  have hr6 : w6.heap[w.heap.size]? = some (.cells F 36 (0, 0)) := by rw [hw6.out]; exact setRow_heap _ _ _ _ _ _ HR5.out
  refine bodyPost_ret (results_cell_row Tryd.results18 _ w6 w.heap.size 36 _ (0, 0) _ rfl hr6 Tryd.underlying36 rfl HIF.out.1) rfl ⟨rfl, ?_⟩
  exact HB5.out.trans (below_row hw6.out (Nat.le_refl _))
end Go.Proofs.YtdpijlkhcagfaaaDoor
