/-
  Contracts for Tag of package mac, and for its closure: what a secret makes of bytes. Conditions: the slices read as bytes, at most 4000 of them; the package's tables hold what its text lays.
  Rows of bools: how a slice reads as such a row; what a call owns. No program of its own; conditions: none.
  Contract for the comparison of bytes, told apart: two lists are told equal just if they are. Conditions: the lists' lengths fit an int.
  A literal of bytes as a slice; the reference's comparison of bytes, by slices as they read. Conditions: none.
  Contract for slices.Equal over bytes, told apart. Conditions: the lists' lengths fit an int.
  How an array of integers that came in by value is opened: it reads as a list of numbers. No program of its own; conditions: none.
  Contract for the landed Tag of stripe: the ten digits. Conditions: the slices read as bytes, at most 5000 of the secret and 3999 of the digits; sha's tables hold what its text lays.
  Contract for the landed with: a key among keys, each with a secret of its own. Conditions: at most 100 keys, whose secrets have from 1 to 64 bytes.
  Contract for the landed Add; and the four contracts together. Conditions: the slice reads as keys, the key too.
  Contract for the landed isWidth. Conditions: none.
  Contract for the landed Get: the number that the digits are, or the document's error. Conditions: the slice reads as bytes.
  Contracts for the landed within, Suits, ownUses and kindOf. Conditions: none.
  Contract for the landed Put: the digits, or the document's error. Conditions: the number fits an int.
  Contract for the landed Join: the digits of the numbers, one behind the other, or the first error. Conditions: the numbers fit an int.
-/
import Derived.Test.YtaokhkbfiplfmaaGreatDoorRingFits
import Derived.Test.YtaokhkbfiplfmaaGreatDoorMem
import Derived.Test.YtaokhkbfiplfmaaGreatDoorFitsP
import Derived.OpenShut
import Derived.SizedLaws
import Derived.Test.YtaokhkbfiplfmaaGreatDoorShaPWords
import Derived.Test.YtaokhkbfiplfmaaGreatDoorMath
import Derived.Test.YtaokhkbfiplfmaaGreatDoorApart
import Derived.Test.YtaokhkbfiplfmaaGreatDoorRingPIs
import Derived.BigQuiet
section
namespace Go.Proofs.YtaokhkbfiplfmaaGreatDoor
set_option maxRecDepth 100000
set_option linter.unusedVariables false
open Go.ChangeShapes Go.WideShapes Go.ChangeAt Go.RowKit

/-- An array as it is stored whole. -/
def IsArr (t n : Nat) (F : Array Value) : Prop := (Tryz.prog.info? t).map (·.size) = some F.size ∧ n = F.size ∧ F.all (·.oneCell') = true
theorem isArr32 {F : Array Value} {l : List Nat} (h : F = (U8 l).toArray) (hl : l.length = 32) : IsArr 81 32 F := by
  have hs : F.size = 32 := by rw [h]; simp [U8, hl]
  exact ⟨by rw [hs]; exact info32, hs.symm, by rw [h]; exact all_one8 _⟩
theorem isArr64 {F : Array Value} {l : List Nat} (h : F = (U8 l).toArray) (hl : l.length = 64) : IsArr 98 64 F := by
  have hs : F.size = 64 := by rw [h]; simp [U8, hl]
  exact ⟨by rw [hs]; exact info64, hs.symm, by rw [h]; exact all_one8 _⟩
/-- A row of bytes, as a slice of it reads. -/
theorem rd_row {w : World} {g : Nat} {F : Array Value} {l : List Nat} {t : TypeId} (h : w.heap[g]? = some (.cells F t (0, 0))) (hF : F = (U8 l).toArray) : Rd w w.heap.size (some ⟨g, 0, none⟩) (U8 l) := by
  intro k u hu
  refine ⟨_, rfl, (Array.getElem?_eq_some_iff.1 h).1, ?_⟩
  rw [at_add, cell_of_row w _ k _ _ (0, 0) h, hF]
  simpa using hu

theorem masked_arr (K : List Nat) (m : Nat) (X FM : Array Value) (w : World) (hX : X = (U8 K).toArray) (hFM : FM = (U8 (maskN K m)).toArray) (hK : ∀ x ∈ K, x < 256) (hl : K.length = 64) (hm : m < 256) :
    Calls Tryz.prog 53 #[.agg X, .int .u8 m] w fun e w' => e = .returned (.agg FM) ∧ Below w.heap.size w w' := by
  subst hX hFM
  exact masked_any K m w hK hl hm
/-- Rows one behind the other, as a slice that reads so. -/
theorem concat_rd (ps : List Part) (L : List Nat) (hL : L = cflat ps) (g m c : Nat) (w : World) (hm : ps.length = m) (hg : g < w.heap.size) (hcell : ∀ i p, ps[i]? = some p → w.cell? ⟨g, i, none⟩ = some p.val) (hok : ∀ p ∈ ps, p.ok w) (hm2 : m ≤ 1000)
    (h0 : 0 < L.length) (hn : L.length ≤ 140737488355328) :
    Calls Tryz.prog 16 #[.slice (some ⟨g, 0, none⟩) m c] w fun e w' => ∃ A cap, e = .returned (.slice A L.length cap) ∧ Rd w' w'.heap.size A (U8 L) ∧ (A = none → cap = 0) ∧ Below w.heap.size w w' := by
  subst hL
  refine (concat_any ps g m c w hm hg hcell hok hm2 h0 hn).mono ?_
  rintro e w' ⟨v, rfl, hown, hb⟩
  obtain ⟨A, cap, rfl, hr⟩ := own_shape hown
  refine ⟨A, cap, rfl, hr, ?_, hb⟩
  rintro rfl
  rcases hown.2 with ⟨h, _⟩ | ⟨g', cap', cur, h, _⟩
  · simp at h; exact h.2
  · simp at h

set_option maxRecDepth 100000 in
set_option maxHeartbeats 800000 in
theorem side_any (K l : List Nat) (m n : Nat) (hn : n = l.length) (A : Option Addr) (c Bk : Nat) (w : World) (hT : Tabs w) (hk : w.heap[Bk]? = some (.cells (U8 K).toArray 98 (0, 0))) (hA : Rd w w.heap.size A (U8 l)) (hnil : A = none → c = 0)
    (hl : K.length = 64) (hK : ∀ x ∈ K, x < 256) (hb : ∀ x ∈ l, x < 256) (hm : m < 256) (h4 : n ≤ 4000) (F : Array Value) (hF : F = (U8 (digestN (maskN K m ++ l))).toArray) :
    Calls Tryz.prog 52 #[.int .u8 m, .slice A n c, .pointer (some ⟨Bk, 0, none⟩)] w fun e w' => e = .returned (.agg F) ∧ Below w.heap.size w w' := by
  obtain ⟨X, hX⟩ : ∃ X : Array Value, X = (U8 K).toArray := ⟨_, rfl⟩
  obtain ⟨FM, hFM⟩ : ∃ FM : Array Value, FM = (U8 (maskN K m)).toArray := ⟨_, rfl⟩
  rw [← hX] at hk
  have hsX : X.size = 64 := by rw [hX]; simp [U8, hl]
  have hiX : (Tryz.prog.info? 98).map (·.size) = some X.size := by rw [hsX]; exact info64
  have hsM : FM.size = 64 := by rw [hFM]; simp [U8, length_maskN, hl]
  have hiM : (Tryz.prog.info? 98).map (·.size) = some FM.size := by rw [hsM]; exact info64
  have hoM : FM.all (·.oneCell') = true := by rw [hFM]; exact all_one8 _
  have hsF : F.size = 32 := by rw [hF]; simp [U8, length_dig]
  have hiF : (Tryz.prog.info? 81).map (·.size) = some F.size := by rw [hsF]; exact info32
  have hoF : F.all (·.oneCell') = true := by rw [hF]; exact all_one8 _
  have hkl : Bk < w.heap.size := (Array.getElem?_eq_some_iff.1 hk).1
  have HN := Lib.hid hn
  have HT := Lib.hid hT
  have HKC := Lib.hid hk
  have HA := Lib.hid hA
  have HNIL := Lib.hid hnil
  have HL := Lib.hid hl
  have HK := Lib.hid hK
  have HB := Lib.hid hb
  have HF := Lib.hid hF
  have HX := Lib.hid hX
  have HFM := Lib.hid hFM
  have HIX := Lib.hid hiX
  have HSM := Lib.hid hsM
  have HIM := Lib.hid hiM
  have HOM := Lib.hid hoM
  have HSF := Lib.hid hsF
  have HIF := Lib.hid hiF
  have HOF := Lib.hid hoF
  clear hn hT hk hA hnil hl hK hb hF hX hFM hsX hiX hsM hiM hoM hsF hiF hoF
  go_enter Tryz.func52, Tryz.ntmps52
  go_wp2_with ((with_reducible refine at_load 7 ?_); refine wpList_load_row (o := ⟨some 7, .load 98 (.tmp 2), _, _, _, _⟩) rfl 98 (.tmp 2) rfl Bk rfl 98 X (0, 0) _ (((below_lit w _ _).block Bk hkl).trans HKC.out) Tryz.underlying98 rfl HIX.out ?_)
  refine (masked_arr K m X FM _ HX.out HFM.out HK.out HL.out hm).mono ?_
  rintro e w1 ⟨rfl, hb1⟩
  have hr1 : w1.heap[w.heap.size]? = some (.cells b32 81 (0, 0)) := (hb1.block _ (by simp)).trans (heap_alloc_new w _)
  have hbw := below_after _ _ hb1
  have hs1 : w.heap.size + 1 ≤ w1.heap.size := by have := hb1.size; simpa using this
  have HR1 := Lib.hid hr1
  have HBW := Lib.hid hbw
  clear hr1 hbw hb1
  go_wp2_with ((with_reducible refine at_store 6 ?_); refine wpList_store_named (o := ⟨none, .store 98 (.tmp 6) (.tmp 9), _, _, _, _⟩) rfl 98 (.tmp 6) (.tmp 9) rfl w1.heap.size FM rfl rfl 98 b64 (heap_alloc_new w1 _) HIM.out HSM.out.symm HOM.out ?_; intro w2 hw2)
  obtain ⟨hs2, hr2, hb2⟩ := row_made hw2.out
  have hrd2 : Rd w2 w2.heap.size (some ⟨w1.heap.size, 0, none⟩) (U8 (maskN K m)) := by
    intro k u hu
    refine ⟨_, rfl, by show w1.heap.size < _; omega, ?_⟩
    rw [at_add, cell_of_row w2 _ k _ _ (0, 0) hr2, HFM.out]
    simpa using hu
  have hb02 : Below w.heap.size w w2 := HBW.out.trans (hb2.mono (by omega))
  have hA2 := HA.out.next hb02
  have HR2 := Lib.hid ((hb2.block w.heap.size (by omega)).trans HR1.out)
  have HT2 := Lib.hid (HT.out.next hb02)
  have HB2 := Lib.hid hb02
  obtain ⟨L, hL⟩ : ∃ L, L = maskN K m ++ l := ⟨_, rfl⟩
  have hLl : L.length = 64 + n := by rw [hL, List.length_append, length_maskN, HL.out, HN.out]
  have hLb : ∀ x ∈ L, x < 256 := by
    rw [hL]; intro x hx
    rcases List.mem_append.1 hx with h | h
    · exact maskN_lt K m HK.out hm x h
    · exact HB.out x h
  have hfl : L = cflat [⟨some ⟨w1.heap.size, 0, none⟩, maskN K m, 64⟩, ⟨A, l, c⟩] := by rw [hL]; simp [cflat]
  have hml : (maskN K m).length = 64 := by rw [length_maskN, HL.out]
  have HLB := Lib.hid hLb
  have HLL := Lib.hid hLl
  refine (concat_rd [⟨some ⟨w1.heap.size, 0, none⟩, maskN K m, 64⟩, ⟨A, l, c⟩] L hfl w2.heap.size 2 2 _ rfl (by simp) (parts_lit (by simp [Part.val, hml]; exact HN.out)) ?_ (by omega) (by omega) (by omega)).mono ?_
  · intro p hp
    refine Part.ok_alloc ?_ _
    simp only [List.mem_cons, List.not_mem_nil, or_false] at hp
    rcases hp with rfl | rfl
    · exact ⟨hrd2, fun h => by cases h⟩
    · exact ⟨hA2, HNIL.out⟩
  · rw [← hL] at HF
    clear hfl hml hLb hL hrd2 hr2 hw2 hb02 hA2 hb2
    rintro e w3 ⟨A3, c3, rfl, hr3, hn3, hb3⟩
    have hb03 : Below w.heap.size w w3 := (HB2.out.alloc HB2.out.size _).trans (hb3.mono (by have := HB2.out.size; simp; omega))
    have HR3 := Lib.hid hr3
    have HN3 := Lib.hid hn3
    have HT3 := Lib.hid (HT.out.next hb03)
    have HRES3 := Lib.hid ((hb3.block w.heap.size (by simp; omega)).trans ((Below.heap_alloc w2 _ w.heap.size (by omega)).trans HR2.out))
    have HB3 := Lib.hid hb03
    have hs3 : w2.heap.size + 1 ≤ w3.heap.size := by have := hb3.size; simpa using this
    rw [hLl]
    clear hr3 hn3 hb03 hb3 hLl
    go_wp2_with fail
    refine (sum_arr L F HF (64 + n) HLL.out.symm A3 c3 w3 HT3.out HR3.out HN3.out HLB.out (by omega)).mono ?_
    rintro e w4 ⟨rfl, hb4⟩
    have HRES4 := Lib.hid ((hb4.block w.heap.size (by omega)).trans HRES3.out)
    have HB4 := Lib.hid (HB3.out.trans (hb4.mono (by omega)))
    clear hb4
    go_wp2_with ((with_reducible refine at_store 5 ?_); refine wpList_store_named (o := ⟨none, .store 81 (.tmp 5) (.tmp 14), _, _, _, _⟩) rfl 81 (.tmp 5) (.tmp 14) rfl w.heap.size F rfl rfl 81 b32 HRES4.out HIF.out HSF.out.symm HOF.out ?_; intro w5 hw5)
    have hr5 : w5.heap[w.heap.size]? = some (.cells F 81 (0, 0)) := by rw [hw5.out]; exact setRow_heap _ _ _ _ _ _ HRES4.out
    refine bodyPost_ret (results_cell_row Tryz.results52 _ w5 w.heap.size 81 _ (0, 0) _ rfl hr5 Tryz.underlying81 rfl HIF.out) rfl ⟨rfl, ?_⟩
    exact HB4.out.trans (below_row hw5.out (Nat.le_refl _))

set_option maxRecDepth 100000 in
set_option maxHeartbeats 800000 in
theorem mactag_any (s b : List Nat) (n m : Nat) (hn : n = s.length) (hm : m = b.length) (A A' : Option Addr) (c c' : Nat) (w : World) (hT : Tabs w) (hA : Rd w w.heap.size A (U8 s)) (hA' : Rd w w.heap.size A' (U8 b)) (hnil : A = none → c = 0) (hnil' : A' = none → c' = 0)
    (hs : ∀ x ∈ s, x < 256) (hb : ∀ x ∈ b, x < 256) (h5 : n ≤ 5000) (h4 : m ≤ 4000) (F : Array Value) (hF : F = (U8 (tagN s b)).toArray) :
    Calls Tryz.prog 34 #[.slice A n c, .slice A' m c'] w fun e w' => e = .returned (.agg F) ∧ Below w.heap.size w w' := by
  obtain ⟨K, hK⟩ : ∃ K, K = blockM s := ⟨_, rfl⟩
  obtain ⟨X, hX⟩ : ∃ X : Array Value, X = (U8 K).toArray := ⟨_, rfl⟩
  obtain ⟨D, hD⟩ : ∃ D, D = digestN (maskN K 54 ++ b) := ⟨_, rfl⟩
  obtain ⟨FD, hFD⟩ : ∃ FD : Array Value, FD = (U8 D).toArray := ⟨_, rfl⟩
  have hKl : K.length = 64 := by rw [hK, length_blockM]
  have hKb : ∀ x ∈ K, x < 256 := by rw [hK]; exact blockM_lt s hs
  have hDl : D.length = 32 := by rw [hD, length_dig]
  have hDb : ∀ x ∈ D, x < 256 := by rw [hD]; exact dig_lt _
  have hF' : F = (U8 (digestN (maskN K 92 ++ D))).toArray := by rw [hF, hD, hK]; rfl
  have hX' : X = (U8 (blockM s)).toArray := by rw [hX, hK]
  have hFD' : FD = (U8 (digestN (maskN K 54 ++ b))).toArray := by rw [hFD, hD]
  have HN := Lib.hid hn
  have HM := Lib.hid hm
  have HT := Lib.hid hT
  have HA := Lib.hid hA
  have HA' := Lib.hid hA'
  have HNIL := Lib.hid hnil
  have HNIL' := Lib.hid hnil'
  have HS := Lib.hid hs
  have HB := Lib.hid hb
  have HX := Lib.hid hX
  have HX' := Lib.hid hX'
  have HFD := Lib.hid hFD
  have HFD' := Lib.hid hFD'
  have HF := Lib.hid hF'
  have HKL := Lib.hid hKl
  have HKB := Lib.hid hKb
  have HDL := Lib.hid hDl
  have HDB := Lib.hid hDb
  have HIX := Lib.hid (isArr64 hX hKl)
  have HID := Lib.hid (isArr32 hFD hDl)
  have HIF := Lib.hid (isArr32 hF (length_dig _))
  clear hn hm hT hA hA' hnil hnil' hs hb hX hX' hFD hFD' hF hF' hK hD hKl hKb hDl hDb
  go_enter Tryz.func34, Tryz.ntmps34
  go_wp2_with fail
  refine (macblock_any s n HN.out A c _ (HT.out.next (below_lit w _ _)) (HA.out.next (below_lit w _ _)) HS.out HNIL.out h5 X HX'.out).mono ?_
  rintro e w1 ⟨rfl, hb1⟩
  have hr1 : w1.heap[w.heap.size]? = some (.cells b32 81 (0, 0)) := (hb1.block _ (by simp)).trans (heap_alloc_new w _)
  have hbw := below_after _ _ hb1
  have hs1 : w.heap.size + 1 ≤ w1.heap.size := by have := hb1.size; simpa using this
  have HR1 := Lib.hid hr1
  have HBW := Lib.hid hbw
  clear hr1 hbw hb1
  go_wp2_with ((with_reducible refine at_store 5 ?_); refine wpList_store_named (o := ⟨none, .store 98 (.tmp 5) (.tmp 9), _, _, _, _⟩) rfl 98 (.tmp 5) (.tmp 9) rfl w1.heap.size X rfl rfl 98 b64 (heap_alloc_new w1 _) HIX.out.1 HIX.out.2.1 HIX.out.2.2 ?_; intro w2 hw2)
  obtain ⟨hs2, hr2, hb2⟩ := row_made hw2.out
  have hb02 : Below w.heap.size w w2 := HBW.out.trans (hb2.mono (by omega))
  have HK2 : Hid (w2.heap[w1.heap.size]? = some (.cells (U8 K).toArray 98 (0, 0))) := Lib.hid (HX.out ▸ hr2)
  have HR2 := Lib.hid ((hb2.block w.heap.size (by omega)).trans HR1.out)
  have HB2 := Lib.hid hb02
  clear hr2 hw2 hb2 hb02
  refine (side_any K b 54 m HM.out A' c' w1.heap.size w2 (HT.out.next HB2.out) HK2.out (HA'.out.next HB2.out) HNIL'.out HKL.out HKB.out HB.out (by omega) h4 FD HFD'.out).mono ?_
  rintro e w3 ⟨rfl, hb3⟩
  have hs3 := hb3.size
  have HK3 := Lib.hid ((hb3.block w1.heap.size (by omega)).trans HK2.out)
  have HR3 := Lib.hid ((hb3.block w.heap.size (by omega)).trans HR2.out)
  have HB3 := Lib.hid (HB2.out.trans (hb3.mono (by omega)))
  clear hb3
  go_wp2_with ((with_reducible refine at_store 7 ?_); refine wpList_store_named (o := ⟨none, .store 81 (.tmp 7) (.tmp 13), _, _, _, _⟩) rfl 81 (.tmp 7) (.tmp 13) rfl w3.heap.size FD rfl rfl 81 b32 (heap_alloc_new w3 _) HID.out.1 HID.out.2.1 HID.out.2.2 ?_; intro w4 hw4)
  obtain ⟨hs4, hr4, hb4⟩ := row_made hw4.out
  have HRD4 := Lib.hid (rd_row hr4 HFD.out)
  have HK4 := Lib.hid ((hb4.block w1.heap.size (by omega)).trans HK3.out)
  have HR4 := Lib.hid ((hb4.block w.heap.size (by omega)).trans HR3.out)
  have HB4 := Lib.hid (HB3.out.trans (hb4.mono (by omega)))
  clear hr4 hw4 hb4
  refine (side_any K D 92 32 HDL.out.symm (some ⟨w3.heap.size, 0, none⟩) 32 w1.heap.size w4 (HT.out.next HB4.out) HK4.out HRD4.out (fun h => by cases h) HKL.out HKB.out HDB.out (by omega) (by omega) F HF.out).mono ?_
  rintro e w5 ⟨rfl, hb5⟩
  have HR5 := Lib.hid ((hb5.block w.heap.size (by omega)).trans HR4.out)
  have HB5 := Lib.hid (HB4.out.trans (hb5.mono (by omega)))
  clear hb5
  go_wp2_with ((with_reducible refine at_store 4 ?_); refine wpList_store_named (o := ⟨none, .store 81 (.tmp 4) (.tmp 16), _, _, _, _⟩) rfl 81 (.tmp 4) (.tmp 16) rfl w.heap.size F rfl rfl 81 b32 HR5.out HIF.out.1 HIF.out.2.1 HIF.out.2.2 ?_; intro w6 hw6)
  have hr6 : w6.heap[w.heap.size]? = some (.cells F 81 (0, 0)) := by rw [hw6.out]; exact setRow_heap _ _ _ _ _ _ HR5.out
  refine bodyPost_ret (results_cell_row Tryz.results34 _ w6 w.heap.size 81 _ (0, 0) _ rfl hr6 Tryz.underlying81 rfl HIF.out.1) rfl ⟨rfl, ?_⟩
  exact HB5.out.trans (below_row hw6.out (Nat.le_refl _))
end Go.Proofs.YtaokhkbfiplfmaaGreatDoor
end
section
namespace Go.Proofs.YtaokhkbfiplfmaaGreatDoor
set_option linter.unusedVariables false
open Go.ChangeShapes Go.WideShapes Go.ChangeAt Go.RowKit

theorem infoBoolT : (Tryz.prog.info? 4).map (fun i => (i.zero, i.size, i.bytes)) = some (some (.bool false), 1, 1) := by kernel_rfl
def BL (l : List Bool) : List Value := l.map fun x : Bool => Value.bool x
theorem BL_append (a b : List Bool) : BL (a ++ b) = BL a ++ BL b := by simp [BL]
theorem BL_at {l : List Bool} {k : Nat} {x : Bool} (h : l[k]? = some x) : (BL l)[k]? = some (.bool x) := by simp [BL, h]
theorem BL_one (l : List Bool) : ∀ u ∈ BL l, u.oneCell' = true := by
  intro u hu
  simp only [BL, List.mem_map] at hu
  obtain ⟨x, _, rfl⟩ := hu
  rfl
/-- A slice value that reads as ints. -/
structure Vs (w : World) (B : Nat) (l : List Bool) (A : Option Addr) (c : Nat) : Prop where
  rd : Rd w B A (BL l)
  nil : A = none → c = 0
  len : l.length ≤ c
  cap : c ≤ 9223372036854775807
theorem Vs.next {w w' : World} {l : List Bool} {A : Option Addr} {c : Nat} (h : Vs w w.heap.size l A c) (hb : Below w.heap.size w w') : Vs w' w'.heap.size l A c := ⟨h.rd.next hb, h.nil, h.len, h.cap⟩
theorem Vs.drew {w : World} {l : List Bool} {A : Option Addr} {c : Nat} (h : Vs w w.heap.size l A c) (q : Nat) : Vs (w.drewN q) (w.drewN q).heap.size l A c := h.next (below_drewN (Below.refl _ _) q)
theorem vs_of_own {w : World} {base n : Nat} {v : Value} {l : List Bool} (h : w.ownsRow base 4 1 v n (BL l)) : ∃ A c, v = .slice A n c ∧ n = l.length ∧ Vs w w.heap.size l A c := by
  have hn : l.length = n := by have := h.1; simpa [BL] using this
  rcases h.2 with ⟨rfl, h0⟩ | ⟨g, cap, cur, rfl, _, _, h2, h3, _⟩
  · subst h0
    have : l = [] := List.eq_nil_of_length_eq_zero hn
    subst this
    exact ⟨none, 0, rfl, rfl, ⟨by intro k u hu; simp [BL] at hu, fun _ => rfl, by simp, by omega⟩⟩
  · unfold maxLen at h3
    exact ⟨_, cap, rfl, hn.symm, ⟨Rd.of_own h, by simp, by omega, h3⟩⟩
theorem Vs.at {w : World} {B : Nat} {l : List Bool} {A : Option Addr} {c k : Nat} {x : Bool} (h : Vs w B l A c) (hx : l[k]? = some x) : ∃ ad, A = some ad ∧ ad.block < B ∧ w.cell? (ad.add k) = some (.bool x) := h.rd k _ (BL_at hx)
theorem Vs.cells {w : World} {B : Nat} {l : List Bool} {ad : Addr} {c : Nat} (h : Vs w B l (some ad) c) : ∀ j u, (BL l)[j]? = some u → w.cell? (ad.add j) = some u := by
  intro j u hu
  obtain ⟨ad', e, _, hc⟩ := h.rd j u hu
  cases e
  exact hc
end Go.Proofs.YtaokhkbfiplfmaaGreatDoor
end
section
namespace Go.Proofs.YtaokhkbfiplfmaaGreatDoor
set_option linter.unusedVariables false
open Go.ChangeShapes Go.WideShapes Go.ChangeAt Go.RowKit
end Go.Proofs.YtaokhkbfiplfmaaGreatDoor
end
section
namespace Go.Proofs.YtaokhkbfiplfmaaGreatDoor
set_option linter.unusedVariables false
open Go.ChangeShapes Go.WideShapes Go.ChangeAt Go.RowKit
end Go.Proofs.YtaokhkbfiplfmaaGreatDoor
end
section
namespace Go.Proofs.YtaokhkbfiplfmaaGreatDoor
set_option linter.unusedVariables false
open Go.ChangeShapes Go.WideShapes Go.ChangeAt Go.RowKit

end Go.Proofs.YtaokhkbfiplfmaaGreatDoor
end
section
namespace Go.Proofs.YtaokhkbfiplfmaaGreatDoor
set_option linter.unusedVariables false
open Go.ChangeShapes Go.WideShapes Go.ChangeAt Go.RowKit

section
variable {H : Type} {enc : TypeId × Value → H} {P : Program}
end
end Go.Proofs.YtaokhkbfiplfmaaGreatDoor
end
section
namespace Go.Proofs.YtaokhkbfiplfmaaGreatDoor
set_option maxRecDepth 100000
set_option linter.unusedVariables false
open Go.ChangeShapes Go.WideShapes Go.ChangeAt Go.RowKit

set_option maxRecDepth 100000 in
set_option maxHeartbeats 1600000 in
theorem ptag_any (s l : List Nat) (n m : Nat) (hn : n = s.length) (hm : m = l.length) (A B : Option Addr) (c d : Nat) (w : World) (hT : Tabs w) (hA : Bs w w.heap.size s A c) (hB : Bs w w.heap.size l B d) (h5 : n ≤ 5000) (h4 : m ≤ 3999) (T : List Nat) (hTg : tagS s l = T) :
    Calls Tryz.prog 23 #[.slice A n c, .slice B m d] w fun e w' => ∃ g cap, e = .returned (.slice (some ⟨g, 0, none⟩) 10 cap) ∧ Rd w' w'.heap.size (some ⟨g, 0, none⟩) (U8 T) ∧ Below w.heap.size w w' := by
  obtain ⟨L, hL⟩ : ∃ L, 83 :: l = L := ⟨_, rfl⟩
  obtain ⟨k, hk⟩ : ∃ k, k = m + 1 := ⟨_, rfl⟩
  obtain ⟨V, hV⟩ : ∃ V, tagN s L = V := ⟨_, rfl⟩
  obtain ⟨v, hv⟩ : ∃ v, valB (V.take 4) = v := ⟨_, rfl⟩
  obtain ⟨F, hF⟩ : ∃ F : Array Value, F = (U8 V).toArray := ⟨_, rfl⟩
  have HVL := Lib.hid (show V.length = 32 by rw [← hV]; exact length_dig _)
  have HVB := Lib.hid (show ∀ x ∈ V, x < 256 by rw [← hV]; exact dig_lt _)
  have HL1 := Lib.hid (show [83] ++ l = L by rw [← hL]; rfl)
  have HLK := Lib.hid (show k = L.length by rw [← hL, hk, hm]; rfl)
  have HLB := Lib.hid (show ∀ x ∈ L, x < 256 by rw [← hL]; intro x hx; rcases List.mem_cons.1 hx with rfl | h; decide; exact hB.lt x h)
  have HFV := Lib.hid (show F = (U8 (tagN s L)).toArray by rw [hV]; exact hF)
  have HF := Lib.hid hF
  have HV := Lib.hid hv
  have HVLT := Lib.hid (show v ≤ 4294967295 by
    rw [← hv]
    have h := valB_lt (V.take 4) (fun x hx => HVB.out x (List.mem_of_mem_take hx))
    rw [List.length_take, HVL.out] at h
    exact Nat.le_of_lt_succ h)
  have HTV := Lib.hid (show dec v = T by rw [← hTg, tagS, hL, hV, hv])
  have HN := Lib.hid hn
  have HM := Lib.hid hm
  have HT := Lib.hid hT
  have HA := Lib.hid hA
  have HB := Lib.hid hB
  have HK := Lib.hid hk
  have hk4 : k ≤ 4000 := by omega
  clear hL hV hv hF hn hm hT hA hB hTg hk
  go_enter Tryz.func23, Tryz.ntmps23
  go_wp2_with fail
  obtain ⟨w1, hw1⟩ : ∃ w1, w.alloc (.cells #[.int .u8 83] 5) = w1 := ⟨_, rfl⟩
  have hs1 : w.heap.size + 1 = w1.heap.size := by rw [← hw1]; simp
  rw [hw1, hs1]
  have h83 : Rd w1 w1.heap.size (some ⟨w.heap.size, 0, none⟩) (U8 [83]) := by rw [← hw1]; exact rd_lit w #[.int .u8 83] 5
  have hb01 : Below w.heap.size w w1 := by rw [← hw1]; exact below_lit w _ _
  have HB01 := Lib.hid hb01
  have HB1 := Lib.hid (HB.out.next hb01)
  clear hs1 hw1 hb01
  refine (concat2 [83] l L HL1.out 1 m k rfl HM.out HLK.out _ B 1 d w1 h83 HB1.out.rd (fun h => by cases h) HB1.out.nil (by decide) HB1.out.lt (by have := HK.out; omega) (by omega)).mono ?_
  rintro e w2 ⟨AL, cL, rfl, hs2, hb2⟩
  have HS2 := Lib.hid hs2
  have HB2 := Lib.hid (HB01.out.trans (hb2.mono HB01.out.size))
  clear hs2 hb2 h83
  go_wp2_with fail
  refine (mactag_any s L n k HN.out HLK.out A AL c cL w2 (HT.out.next HB2.out) (HA.out.next HB2.out).rd HS2.out.rd HA.out.nil HS2.out.nil HA.out.lt HLB.out h5 hk4 F HFV.out).mono ?_
  rintro e w3 ⟨rfl, hb3⟩
  have HB3 := Lib.hid (HB2.out.trans (hb3.mono HB2.out.size))
  have HIS := Lib.hid (isArr32 HF.out HVL.out)
  clear hb3
  go_wp2_with (first
    | ((with_reducible refine at_store 5 ?_); refine wpList_store_named (o := ⟨none, .store 81 (.tmp 5) (.tmp 13), _, _, _, _⟩) rfl 81 (.tmp 5) (.tmp 13) rfl w3.heap.size F rfl rfl 81 b32 (heap_alloc_new w3 _) HIS.out.1 HIS.out.2.1 HIS.out.2.2 ?_; intro w4 hw4; have HR4 := Lib.hid (row_made hw4.out))
    | ((with_reducible refine at_load 15 ?_); refine wpList_load_row (o := ⟨some 15, .load 81 (.tmp 5), _, _, _, _⟩) rfl 81 (.tmp 5) rfl w3.heap.size rfl 81 F (0, 0) _ HR4.out.2.1 Tryz.underlying81 rfl HIS.out.1 ?_))
  have HB4 := Lib.hid (HB3.out.trans (HR4.out.2.2.mono HB3.out.size))
  refine (cut_any V F HF.out _ HVB.out HVL.out).mono ?_
  rintro e w5 ⟨rfl, hb5⟩
  have HB5 := Lib.hid (HB4.out.trans (hb5.mono HB4.out.size))
  clear hb5
  rw [HV.out]
  go_wp2_with fail
  refine (digits_ok v _ HVLT.out).mono ?_
  rintro e w6 ⟨g, cap, rfl, hr6, hb6⟩
  rw [HTV.out] at hr6
  have HR6 := Lib.hid hr6
  have HB6 := Lib.hid (HB5.out.trans (hb6.mono HB5.out.size))
  clear hr6 hb6
  go_wp2
  go_ret
  exact ⟨g, cap, rfl, HR6.out, HB6.out⟩
end Go.Proofs.YtaokhkbfiplfmaaGreatDoor
end
section
namespace Go.Proofs.YtaokhkbfiplfmaaGreatDoor
set_option linter.unusedVariables false
open Go.ChangeShapes Go.WideShapes Go.ChangeAt Go.RowKit
end Go.Proofs.YtaokhkbfiplfmaaGreatDoor
end
section
namespace Go.Proofs.YtaokhkbfiplfmaaGreatDoor
set_option linter.unusedVariables false
open Go.ChangeShapes Go.WideShapes Go.ChangeAt Go.RowKit
end Go.Proofs.YtaokhkbfiplfmaaGreatDoor
end
section
namespace Go.Proofs.YtaokhkbfiplfmaaGreatDoor
set_option linter.unusedVariables false
open Go.ChangeShapes Go.WideShapes Go.ChangeAt Go.RowKit

theorem pwidth_any (n : Int) (b : Bool) (hb : decide (0 ≤ n ∧ n ≤ 18) = b) (w : World) : Calls Tryz.prog 49 #[.int .i64 n] w fun e w' => e = .returned (.bool b) ∧ w = w' := by
  have HB := Lib.hid hb
  clear hb
  by_cases h0 : ¬ 0 ≤ n
  · have h1 : n < 0 := by omega
    obtain rfl : b = false := by rw [← HB.out]; exact decide_eq_false (by omega)
    clear HB
    go_enter Tryz.func49, Tryz.ntmps49
    go_wp2
    go_ret
    exact ⟨rfl, rfl⟩
  have h1 : 0 ≤ n := by omega
  by_cases h2 : n ≤ 18
  · obtain rfl : b = true := by rw [← HB.out]; exact decide_eq_true (by omega)
    clear HB h0
    go_enter Tryz.func49, Tryz.ntmps49
    go_wp2
    go_ret
    exact ⟨rfl, rfl⟩
  · obtain rfl : b = false := by rw [← HB.out]; exact decide_eq_false (by omega)
    have h3 : 18 < n := by omega
    clear HB h0
    go_enter Tryz.func49, Tryz.ntmps49
    go_wp2
    go_ret
    exact ⟨rfl, rfl⟩
end Go.Proofs.YtaokhkbfiplfmaaGreatDoor
end
section
namespace Go.Proofs.YtaokhkbfiplfmaaGreatDoor
set_option linter.unusedVariables false
open Go.ChangeShapes Go.WideShapes Go.ChangeAt Go.RowKit
end Go.Proofs.YtaokhkbfiplfmaaGreatDoor
end
section
namespace Go.Proofs.YtaokhkbfiplfmaaGreatDoor
set_option linter.unusedVariables false
open Go.ChangeShapes Go.WideShapes Go.ChangeAt Go.RowKit

theorem lwithin_any (n a b : Int) (v : Bool) (hv : (decide (a ≤ n) && decide (n ≤ b)) = v) (w : World) : Calls Tryz.prog 8 #[.int .i64 n, .int .i64 a, .int .i64 b] w fun e w' => e = .returned (.bool v) ∧ w = w' := by
  have HB := Lib.hid hv
  clear hv
  cases h0 : decide (a ≤ n) <;> cases h1 : decide (n ≤ b)
  all_goals
    have H0 := Lib.hid h0
    have H1 := Lib.hid h1
    go_enter Tryz.func8, Tryz.ntmps8
    go_wp2
    go_ret
    refine ⟨congrArg Ending.returned (congrArg Value.bool ?_), rfl⟩
    rw [← HB.out, H0.out, H1.out]
    rfl
set_option maxRecDepth 100000 in
set_option maxHeartbeats 1600000 in
theorem psuits_any (t : Tk) (left inn : Int) (b : Bool) (hb : suitB t.uses left inn = b) (w : World) : Calls Tryz.prog 4 #[.agg #[.int .i64 t.ser, .int .i64 t.kind, .int .i64 t.frm, .int .i64 t.till, .int .i64 t.cls, .int .i64 t.card, .int .i64 t.seat, .int .i64 t.day, .int .i64 t.days, .int .i64 t.uses, .int .i64 t.epoch], .agg #[.int .i64 left, .int .i64 inn]] w fun e w' => e = .returned (.bool b) ∧ Below w.heap.size w w' := by
  have HB := Lib.hid (show ((decide (0 ≤ left) && decide (left ≤ t.uses)) && (decide (0 ≤ inn) && decide (inn ≤ 40))) = b by rw [← hb, suitB, Bool.and_assoc])
  clear hb
  cases h0 : (decide (0 ≤ left) && decide (left ≤ t.uses)) <;> cases h1 : (decide (0 ≤ inn) && decide (inn ≤ 40))
  all_goals
    have hb := HB.out
    rw [h0, h1] at hb
    subst hb
    have H0 := Lib.hid h0
    have H1 := Lib.hid h1
    clear h0 h1
    go_enter Tryz.func4, Tryz.ntmps4
    go_wp2_with (go_at_call 8; refine (lwithin_any _ _ _ _ (by first | exact H0.out | exact H1.out) _).mono ?_; rintro e w1 ⟨rfl, rfl⟩)
    go_ret
    exact ⟨rfl, ((Below.refl _ _).alloc (Nat.le_refl _) _).alloc (by simp) _⟩
end Go.Proofs.YtaokhkbfiplfmaaGreatDoor
end
section
namespace Go.Proofs.YtaokhkbfiplfmaaGreatDoor
set_option linter.unusedVariables false
open Go.ChangeShapes Go.WideShapes Go.ChangeAt Go.RowKit

theorem pput_arg (n s : Int) (w : World) (h : n < 0 ∨ s < 0 ∨ 18 < s) : Calls Tryz.prog 30 #[.int .i64 n, .int .i64 s] w fun e w' => e = .returned (.tuple #[.slice none 0 0, .int .i64 1]) ∧ w = w' := by
  by_cases h1 : n < 0
  · clear h
    go_enter Tryz.func30, Tryz.ntmps30
    go_wp2
    go_ret2
    exact ⟨rfl, rfl⟩
  · have h2 : 0 ≤ n := by omega
    have hd := decide_eq_false (show ¬ (0 ≤ s ∧ s ≤ 18) by omega)
    clear h
    go_enter Tryz.func30, Tryz.ntmps30
    go_wp2_with (go_at_call 49; refine (pwidth_any s false hd _).mono ?_; rintro e w1 ⟨rfl, rfl⟩)
    go_ret2
    exact ⟨rfl, rfl⟩
set_option maxRecDepth 100000 in
set_option maxHeartbeats 1600000 in
theorem pput_fit (N s : Nat) (E : Int) (p : List Nat) (hE : bputE N s = E) (hp : bputL N s = p) (w : World) (hN : N < 9223372036854775808) (hs : s ≤ 18) :
    Calls Tryz.prog 30 #[.int .i64 N, .int .i64 s] w fun e w' => ∃ A c, e = .returned (.tuple #[.slice A (p.length : Nat) c, .int .i64 E]) ∧ Bs w' w'.heap.size p A c ∧ Below w.heap.size w w' := by
  obtain ⟨i0, hi, hz0, hz1, hz2⟩ := info_parts infoU8
  have HE := Lib.hid hE
  have HP := Lib.hid hp
  have hd := decide_eq_true (show (0 : Int) ≤ (s : Int) ∧ (s : Int) ≤ 18 by omega)
  have g1 : (0 : Int) ≤ (s : Int) := by omega
  clear hE hp
  go_enter Tryz.func30, Tryz.ntmps30
  go_wp2_with (first | (go_at_call 49; refine (pwidth_any (s : Int) true hd _).mono ?_; rintro e w1 ⟨rfl, rfl⟩) | (at_make; refine wpList_make_full _ rfl _ _ 26 rfl w.heap.size 5 i0 (.int .u8 0) 1 Tryz.underlying26 hi hz0 hz1 _ _ _ _ s rfl rfl (by omega) (by omega) ?b2 ?b3 (Nat.le_refl _) ?_))
  case b2 => rw [hz2]; omega
  case b3 => unfold maxLen; omega
  intro w1 hown hg
  have hown1 : w1.ownsRow w.heap.size 5 1 (.slice (some ⟨w.heap.size, 0, none⟩) s s) s (U8 (dgTo N s 0)) := by
    rw [toList_madeCells_one] at hown
    rw [dgTo_zero, U8, List.map_replicate]
    exact hown
  have hbel : Below w.heap.size w w1 := (Below.refl _ _).grown hg (Nat.le_refl _) (by simp)
  have s1 : IntKind.i64.wrap ((s : Int) - 1) = (s : Int) - 1 := IntWalk.i64_in _ (by omega)
  clear hown hg
  go_wp2
  go_loopw [0, 7] (fun m i wr => ∃ k : Nat, k ≤ s ∧ i = .int .i64 ((s : Int) - 1 - (k : Int)) ∧ m = .int .i64 (N / 10 ^ k : Nat) ∧ wr.ownsRow w.heap.size 5 1 (.slice (some ⟨w.heap.size, 0, none⟩) s s) s (U8 (dgTo N s k)) ∧ Below w.heap.size w wr) (fun _ i _ => (intOf i + 1).toNat)
  case atStart => exact ⟨0, Nat.zero_le _, by simp, by simp, hown1, hbel⟩
  case round =>
    clear hown1 hbel
    obtain ⟨k, hk, rfl, rfl, hown, hbel⟩ := hrel
    have hy : N / 10 ^ k < 9223372036854775808 := Nat.lt_of_le_of_lt (Nat.div_le_self _ _) hN
    by_cases hlt : k < s
    · have hc2 : ∃ v, wr.cell? ⟨w.heap.size, s - 1 - k, none⟩ = some v := by
        rw [hown.cellAt (s - 1 - k) (by omega), U8, List.getElem?_map]
        rw [List.getElem?_eq_getElem (by rw [dgTo_len _ _ _ hk]; omega)]
        exact ⟨_, rfl⟩
      obtain ⟨v2, hc2⟩ := hc2
      have hf := hown.frozenAt (s - 1 - k)
      have hst := (hown.stored (s - 1 - k) (.int .u8 ((N / 10 ^ k % 10 : Nat) : Int))).1
      have hset : (U8 (dgTo N s k)).set (s - 1 - k) (.int .u8 ((N / 10 ^ k % 10 : Nat) : Int)) = U8 (dgTo N s (k + 1)) := by
        rw [← dgTo_set N s k hlt, U8, U8, List.map_set]
      rw [hset] at hst
      have hnx : N / 10 ^ (k + 1) = N / 10 ^ k / 10 := by rw [Nat.pow_succ, Nat.div_div_eq_div_mul]
      have HNX := Lib.hid hnx
      clear hset hnx
      generalize N / 10 ^ k = y at *
      have HST := Lib.hid hst
      have HOW := Lib.hid hown
      have HC2 := hc2
      clear hst hown
      obtain ⟨j, hj⟩ : ∃ j : Nat, j = s - 1 - k := ⟨_, rfl⟩
      have hj2 : (s : Int) - 1 - (k : Int) = (j : Int) := by omega
      have hjs : (j : Int) < (s : Int) := by omega
      have hj3 : IntKind.i64.wrap ((j : Int) - 1) = (j : Int) - 1 := IntWalk.i64_in _ (by omega)
      rw [← hj] at HC2 hf HST hc2
      rw [hj2]
      have HJ := Lib.hid hj
      have HJ2 := Lib.hid hj2
      clear hj hj2 HC2
      go_wp2
      go_roundw
      case rel =>
        refine ⟨k + 1, by omega, ?_, ?_, ?_, hbel.setCell (Nat.le_refl _) _⟩
        · have := HJ2.out; exact congrArg (Value.int .i64) (by omega)
        · rw [HNX.out]; go_num
        · exact HST.out
      case measure => simp only [intOf]; omega
    · have e1 : k = s := by omega
      subst e1
      rw [dgTo_all] at hown
      have hneg : (k : Int) - 1 - (k : Int) = -1 := by omega
      rw [hneg]
      have HO := Lib.hid hown
      clear hown
      by_cases hov : 10 ^ k ≤ N
      · have hpos : 0 < N / 10 ^ k := Nat.div_pos hov (pow_pos10 k)
        obtain ⟨e1, e2⟩ := bput_over hs hov
        obtain rfl : E = 23 := by rw [← HE.out, e1]
        obtain rfl : p = [] := by rw [← HP.out, e2]
        clear HE HP e1 e2 hov
        generalize N / 10 ^ k = y at *
        go_wp2
        go_ret2
        exact ⟨none, 0, rfl, ⟨by intro j u hu; simp [U8] at hu, fun _ => rfl, by simp, by omega, by simp⟩, hbel⟩
      · have hz : N / 10 ^ k = 0 := Nat.div_eq_of_lt (by omega)
        obtain ⟨e1, e2⟩ := bput_ok hs (show N < 10 ^ k by omega)
        obtain rfl : E = 0 := by rw [← HE.out, e1]
        have hpl : p = dg N k := by rw [← HP.out, e2]
        have hl : p.length = k := by rw [hpl, dg_len]
        have HPL := Lib.hid hpl
        have HL := Lib.hid hl
        rw [hz]
        clear HE HP e1 e2 hov hpl hl hz
        go_wp2
        go_ret2
        refine ⟨some ⟨w.heap.size, 0, none⟩, k, by rw [HL.out]; rfl, ?_, hbel⟩
        rw [HPL.out]
        exact ⟨Rd.of_own HO.out, by simp, by rw [dg_len]; omega, by omega, fun x hx => by have := dg_lt N k x hx; omega⟩
theorem bpput_any (n s : Int) (E : Int) (p : List Nat) (hE : bputE n s = E) (hp : bputL n s = p) (w : World) (hn : n ≤ 9223372036854775807) :
    Calls Tryz.prog 30 #[.int .i64 n, .int .i64 s] w fun e w' => ∃ A c, e = .returned (.tuple #[.slice A (p.length : Nat) c, .int .i64 E]) ∧ Bs w' w'.heap.size p A c ∧ Below w.heap.size w w' := by
  by_cases h : n < 0 ∨ s < 0 ∨ 18 < s
  · obtain ⟨e1, e2⟩ := bput_arg h
    obtain rfl : E = 1 := by rw [← hE, e1]
    obtain rfl : p = [] := by rw [← hp, e2]
    refine (pput_arg n s w h).mono ?_
    rintro e w1 ⟨rfl, rfl⟩
    exact ⟨none, 0, rfl, ⟨by intro j u hu; simp [U8] at hu, fun _ => rfl, by simp, by omega, by simp⟩, Below.refl _ _⟩
  · obtain ⟨N, rfl⟩ : ∃ N : Nat, n = N := ⟨n.toNat, by omega⟩
    obtain ⟨S, rfl⟩ : ∃ S : Nat, s = S := ⟨s.toNat, by omega⟩
    exact pput_fit N S E p hE hp w (by omega) (by omega)
end Go.Proofs.YtaokhkbfiplfmaaGreatDoor
end
section
namespace Go.Proofs.YtaokhkbfiplfmaaGreatDoor
set_option linter.unusedVariables false
open Go.ChangeShapes Go.WideShapes Go.ChangeAt Go.RowKit

set_option maxRecDepth 100000 in
set_option maxHeartbeats 1600000 in
theorem pjoin_any (vs ws : List Int) (n m : Nat) (hn : n = vs.length) (hm : m = ws.length) (E : Int) (p : List Nat) (hE : joinX vs ws = (E, p)) (A A' : Option Addr) (c c' : Nat) (w : World) (hA : Zs w w.heap.size vs A c) (hA' : Zs w w.heap.size ws A' c') (hv : ∀ v ∈ vs, In64 v) :
    Calls Tryz.prog 21 #[.slice A n c, .slice A' m c'] w fun e w' => ∃ A2 c2, e = .returned (.tuple #[.slice A2 (p.length : Nat) c2, .int .i64 E]) ∧ Bs w' w'.heap.size p A2 c2 ∧ Below w.heap.size w w' := by
  obtain ⟨i0, hi, hz0, hz1, hz2⟩ := info_parts infoU8
  have h63 : n ≤ 9223372036854775807 := by have := hA.len; have := hA.cap; omega
  have h63' : m ≤ 9223372036854775807 := by have := hA'.len; have := hA'.cap; omega
  have HN := Lib.hid hn
  have HM := Lib.hid hm
  have HA := Lib.hid hA
  have HA' := Lib.hid hA'
  have HE := Lib.hid hE
  have HV := Lib.hid hv
  clear hn hm hA hA' hE hv
  by_cases h1 : n ≠ m ∨ 20 < n
  · have h2 : joinX vs ws = (1, []) := by rw [joinX, if_pos (by rw [← HN.out, ← HM.out]; exact h1)]
    obtain ⟨rfl, rfl⟩ : E = 1 ∧ p = [] := by have := HE.out; rw [h2] at this; exact ⟨(Prod.mk.inj this).1.symm, (Prod.mk.inj this).2.symm⟩
    clear HE h2
    by_cases h3 : n ≠ m
    · have b1 : ((n : Int) != (m : Int)) = true := by simp; omega
      have b2 : (n != m) = true := by simpa using h3
      clear h1
      go_enter Tryz.func21, Tryz.ntmps21
      go_wp2
      go_ret2
      exact ⟨none, 0, rfl, bbs_nil _, Below.refl _ _⟩
    · obtain rfl : n = m := by omega
      have h4 : 20 < n := by omega
      clear h1 h3
      go_enter Tryz.func21, Tryz.ntmps21
      go_wp2
      go_ret2
      exact ⟨none, 0, rfl, bbs_nil _, Below.refl _ _⟩
  obtain rfl : n = m := by omega
  have h20 : n ≤ 20 := by omega
  have HR := Lib.hid (show joinR vs ws [] = (E, p) by rw [← HE.out, joinX, if_neg (by rw [← HN.out, ← HM.out]; exact h1)])
  clear h1 HE
  go_enter Tryz.func21, Tryz.ntmps21
  go_wp2
  go_loopw [6, 24] (fun v i wr => ∃ (k : Nat) (out : List Nat), k ≤ n ∧ i = .int .i64 k ∧ wr.ownsRow w.heap.size 5 1 v out.length (U8 out) ∧ (∀ x ∈ out, x ≤ 9) ∧ out.length ≤ 18 * k ∧ joinR (vs.drop k) (ws.drop k) out = (E, p) ∧ Below w.heap.size w wr) (fun _ i _ => n - (intOf i).toNat)
  case atStart => exact ⟨0, [], Nat.zero_le _, rfl, World.ownsRow_lit w #[] 0 (Nat.le_refl _) (by decide) rfl, by simp, by simp, HR.out, (Below.refl _ _).alloc (Nat.le_refl _) _⟩
  case round =>
    obtain ⟨k, out, hk, rfl, hown, h9, hlen, hjr, hbel⟩ := hrel
    have HO := Lib.hid hown
    have H9 := Lib.hid h9
    have HBL := Lib.hid hbel
    have HJR := Lib.hid hjr
    clear hown h9 hjr hbel
    by_cases hlt : k < n
    · have hkv : k < vs.length := by rw [← HN.out]; exact hlt
      have hkw : k < ws.length := by rw [← HM.out]; exact hlt
      obtain ⟨x, hx⟩ : ∃ x, vs[k]? = some x := ⟨_, List.getElem?_eq_getElem hkv⟩
      obtain ⟨y, hy⟩ : ∃ y, ws[k]? = some y := ⟨_, List.getElem?_eq_getElem hkw⟩
      have hdv : vs.drop k = x :: vs.drop (k + 1) := by rw [drop_at hkv]; congr 1; rw [List.getElem?_eq_getElem hkv] at hx; exact Option.some.inj hx
      have hdw : ws.drop k = y :: ws.drop (k + 1) := by rw [drop_at hkw]; congr 1; rw [List.getElem?_eq_getElem hkw] at hy; exact Option.some.inj hy
      have hx64 : In64 x := HV.out x (List.mem_of_getElem? hx)
      obtain ⟨ad, rfl, hb, hc⟩ := (HA.out.next HBL.out).at hx
      obtain ⟨ad', rfl, hb', hc'⟩ := (HA'.out.next HBL.out).at hy
      have HX := Lib.hid hx64
      have hj := HJR.out
      rw [hdv, hdw, joinR, List.headD_cons, List.tail_cons] at hj
      have b1 : (0 : Int) ≤ (k : Int) := by omega
      have b2 : (k : Int) < (n : Int) := by omega
      clear hkv hkw hx hy hdv hdw HJR
      by_cases h0 : bputE x y = 0
      · rw [if_pos h0] at hj
        have HJ := Lib.hid hj
        clear hj
        obtain ⟨q, hq⟩ : ∃ q, q = bputL x y := ⟨_, rfl⟩
        have hq18 : q.length ≤ 18 := by rw [hq]; exact put_le x y
        have hq9 : ∀ z ∈ q, z ≤ 9 := by rw [hq]; exact put_lt x y
        have HQ9 := Lib.hid hq9
        have HP0 := Lib.hid h0
        have HQ := Lib.hid hq
        rw [← hq] at HJ
        clear hq9 h0 hq
        go_wp2_with (first | (go_at_call 30; refine (bpput_any x y 0 q HP0.out HQ.out.symm _ HX.out.2).mono ?_; rintro e w1 ⟨A1, c1, rfl, hb1, hbd⟩; have HB1 := Lib.hid hb1; have HBD := Lib.hid (hbd.mono (Nat.le_refl _)); have HBL1 := Lib.hid (HBL.out.trans (hbd.mono HBL.out.size)); clear hb1 hbd) | (at_builtin; refine wpList_append_rd _ rfl _ _ 26 rfl w.heap.size 5 i0 (.int .u8 0) 1 Tryz.underlying26 hi hz0 hz1 hz2 rfl _ out.length (U8 out) rfl (own_below HO.out HBD.out) _ _ q.length c1 (U8 q) rfl HB1.out.rd (by simp [U8]) HB1.out.nil (U8_one _) ?c3 ?c4 ?c5 ?_))
        case c3 => unfold maxLen; omega
        case c4 => omega
        case c5 => have := HBL1.out.size; omega
        intro v' w2 hown' hgrow
        have hown1 : w2.ownsRow w.heap.size 5 1 v' (out ++ q).length (U8 (out ++ q)) := by
          rw [List.length_append, U8, List.map_append]; exact hown'
        have hbel2 : Below w.heap.size w w2 := HBL1.out.grown hgrow HBL1.out.size (fun j hj => own_ge (own_below HO.out HBD.out) hj)
        have HO2 := Lib.hid hown1
        clear hown' hgrow hown1
        go_wp2
        go_roundw
        case rel => exact ⟨k + 1, out ++ q, by omega, by go_num, HO2.out, fun z hz => (List.mem_append.1 hz).elim (H9.out z) (HQ9.out z), by rw [List.length_append]; omega, HJ.out, hbel2⟩
        case measure => simp [intOf]; omega
      · rw [if_neg h0] at hj
        have hEE : bputE x y = E := (Prod.mk.inj hj).1
        obtain rfl : p = [] := (Prod.mk.inj hj).2.symm
        obtain ⟨q, hq⟩ : ∃ q, q = bputL x y := ⟨_, rfl⟩
        have hne : (E != 0) = true := by rw [← hEE]; simpa using h0
        have HEE := Lib.hid hEE
        have HQ := Lib.hid hq
        clear h0 hj hEE hq
        go_wp2_with (go_at_call 30; refine (bpput_any x y E q HEE.out HQ.out.symm _ HX.out.2).mono ?_; rintro e w1 ⟨A1, c1, rfl, hb1, hbd⟩; have HBL1 := Lib.hid (HBL.out.trans (hbd.mono HBL.out.size)); clear hb1 hbd)
        go_ret2
        exact ⟨none, 0, rfl, bbs_nil _, HBL1.out⟩
    · have e1 : k = n := by omega
      subst e1
      have hj := HJR.out
      rw [List.drop_of_length_le (by rw [← HN.out]; omega), joinR] at hj
      obtain ⟨rfl, rfl⟩ : E = 0 ∧ p = out := ⟨(Prod.mk.inj hj).1.symm, (Prod.mk.inj hj).2.symm⟩
      obtain ⟨A2, c2, rfl, hbs⟩ := bs_of_own HO.out (fun x hx => by have := H9.out x hx; omega)
      have HBS := Lib.hid hbs
      clear HJR hj hbs
      go_wp2
      go_ret2
      exact ⟨A2, c2, rfl, HBS.out, HBL.out⟩
end Go.Proofs.YtaokhkbfiplfmaaGreatDoor
end
