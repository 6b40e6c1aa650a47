/-
  Contract for Block of package mac: a secret's block. Conditions: the slice reads as bytes, at most 5000 of them; the package's tables hold what its text lays.
  Contracts for Tag of package mac, and for its closure: what a secret makes of bytes. Conditions: the slices read as bytes, at most 4000 of them; the package's tables hold what its text lays.
  Contract for the landed Tag of barcode. Conditions: the slices read as bytes, at most 5000 of the secret and 3999 of the body; sha's tables hold what its text lays.
  Contract for the reference's Big: whether there is too much to be looked at. Conditions: the slice reads as keys.
  A slice's length, capacity and address; a key's box; a list of keys that was just laid. Conditions: none.
  Contract for the landed right: whether a key is right. Conditions: the numbers fit an int.
-/
import Derived.Test.YtaokhkbfiplfmaaDoorShaPWords
import Derived.Test.YtaokhkbfiplfmaaDoorFitsP
import Derived.Test.YtaokhkbfiplfmaaDoorMem
import Derived.Test.YtaokhkbfiplfmaaDoorMath
section
namespace Go.Proofs.YtaokhkbfiplfmaaDoor
set_option maxRecDepth 100000
set_option linter.unusedVariables false
open Go.ChangeShapes Go.WideShapes Go.ChangeAt Go.RowKit

theorem splice_b64 (l : List Nat) (h : l.length ≤ 64) : splice b64.toList 0 (U8 l) = U8 (l ++ List.replicate (64 - l.length) 0) := by
  have e : b64.toList = U8 (List.replicate 64 0) := rfl
  unfold splice
  rw [e, List.take_zero, List.nil_append, Nat.zero_add, U8_length, U8_append, U8_drop, List.drop_replicate]
theorem two_made_set {w w' : World} {ca cb cd : Array Value} {ta tb : TypeId} (h : w' = ((w.alloc (.cells ca ta)).alloc (.cells cb tb)).setRow (w.heap.size + 1) cd) :
    w'.heap.size = w.heap.size + 1 + 1 ∧ w'.heap[w.heap.size]? = some (.cells ca ta (0, 0)) ∧ w'.heap[w.heap.size + 1]? = some (.cells cd tb (0, 0)) ∧ Below w.heap.size w w' := by
  have h2 : ((w.alloc (.cells ca ta)).alloc (.cells cb tb)).heap[w.heap.size + 1]? = some (.cells cb tb (0, 0)) := heap_alloc2_new _ _ _
  subst h
  refine ⟨by simp, ?_, setRow_heap _ _ _ _ _ _ h2, ?_⟩
  · rw [setRow_other _ _ _ _ (by omega)]; exact heap_alloc2_old _ _ _
  · exact below_setRow (((Below.refl _ _).alloc (Nat.le_refl _) _).alloc (by simp) _) (by omega) _
theorem rd_cells {w : World} {A : Option Addr} {l : List Nat} (hA : Rd w w.heap.size A (U8 l)) (h : 0 < (U8 l).length) : ∃ ad, A = some ad ∧ ∀ j v, (U8 l)[j]? = some v → w.cell? (ad.add j) = some v := by
  obtain ⟨ad, he, _, _⟩ := hA 0 _ (List.getElem?_eq_getElem h)
  refine ⟨ad, he, fun j v hv => ?_⟩
  obtain ⟨ad', he', _, hc⟩ := hA j v hv
  rw [he] at he'
  cases he'
  exact hc

set_option maxRecDepth 100000 in
set_option maxHeartbeats 800000 in
theorem macblock_short (l : List Nat) (n : Nat) (hn : n = l.length) (A : Option Addr) (c : Nat) (w : World) (hA : Rd w w.heap.size A (U8 l)) (hnil : A = none → c = 0) (h : n ≤ 64) (F : Array Value) (hF : F = (U8 (blockM l)).toArray) :
    Calls Tryd.prog 41 #[.slice A n c] w fun e w' => e = .returned (.agg F) ∧ Below w.heap.size w w' := by
  have hkey : keyN l = l := by unfold keyN; rw [if_neg (by omega)]
  have hsp : (splice b64.toList 0 (U8 l)).toArray = F := by rw [splice_b64 l (by omega), hF]; unfold blockM; rw [hkey]
  have hsz : F.size = 64 := by rw [hF]; simp [U8, length_blockM]
  have hin : (Tryd.prog.info? 89).map (·.size) = some F.size := by rw [hsz]; exact info64
  have hone : F.all (·.oneCell') = true := by rw [hF]; exact all_one8 _
  have hmin : (U8 l).length = Nat.min n 64 := by rw [U8_length, ← hn]; exact (Nat.min_eq_left h).symm
  have hfit : 0 + (U8 l).length ≤ b64.toList.length := by rw [U8_length, ← hn]; show 0 + n ≤ 64; omega
  have HA := Lib.hid hA
  have HNIL := Lib.hid hnil
  have HSP := Lib.hid hsp
  have HSZ := Lib.hid hsz
  have HIN := Lib.hid hin
  have HONE := Lib.hid hone
  have HMIN := Lib.hid hmin
  have HFIT := Lib.hid hfit
  clear hA hnil hsp hsz hin hone hkey hF hmin hfit hn
  go_enter Tryd.func41, Tryd.ntmps41
  go_wp2_with (first
    | ((with_reducible refine at_store 3 ?_); refine wpList_store_named (o := ⟨none, .store 89 (.tmp 3) (.tmp 5), _, _, _, _⟩) rfl 89 (.tmp 3) (.tmp 5) rfl (w.heap.size + 1) b64 rfl rfl 89 b64 (heap_alloc2_new _ _ _) info64 rfl (all_one8 (List.replicate 64 0)) ?_; intro w0 hw0)
    | ((with_reducible refine at_calls 14 ?_); refine wpList_copy_splice (o := ⟨some 14, _, _, _, _, _⟩) rfl (.tmp 12) (.tmp 13) 24 24 rfl 5 Tryd.underlying24 sizeU8 (some ⟨w.heap.size + 1, 0, none⟩) A 64 64 n c rfl rfl (w.heap.size + 1) 0 b64.toList 89 (two_made_set hw0.out).2.2.1 (U8 l) HMIN.out (fun hp => ⟨rfl, rd_cells (HA.out.next (two_made_set hw0.out).2.2.2) hp⟩) HFIT.out (U8_one l) (w.heap.size + 1) w0 (Below.refl _ _) (Nat.le_refl _) ?_; intro w1 hw1 hb1; have hw1' : Hid (w1.heap[w.heap.size + 1]? = some (.cells F 89 (0, 0))) := Lib.hid (HSP.out ▸ hw1.out))
    | ((with_reducible refine at_load 15 ?_); refine wpList_load_row (o := ⟨some 15, .load 89 (.tmp 3), _, _, _, _⟩) rfl 89 (.tmp 3) rfl (w.heap.size + 1) rfl 89 F (0, 0) _ hw1'.out Tryd.underlying89 rfl HIN.out ?_)
    | ((with_reducible refine at_store 2 ?_); refine wpList_store_named (o := ⟨none, .store 89 (.tmp 2) (.tmp 15), _, _, _, _⟩) rfl 89 (.tmp 2) (.tmp 15) rfl w.heap.size F rfl rfl 89 b64 ((hb1.block _ (by omega)).trans (two_made_set hw0.out).2.1) HIN.out HSZ.out.symm HONE.out ?_; intro w2 hw2))
  have hr2 : w2.heap[w.heap.size]? = some (.cells F 89 (0, 0)) := by
    rw [hw2.out]; exact setRow_heap _ _ _ _ _ _ ((hb1.block _ (by omega)).trans (two_made_set hw0.out).2.1)
  refine bodyPost_ret (results_cell_row Tryd.results41 _ w2 w.heap.size 89 _ (0, 0) _ rfl hr2 Tryd.underlying89 rfl HIN.out) rfl ⟨rfl, ?_⟩
  exact ((two_made_set hw0.out).2.2.2.trans (hb1.mono (by omega))).trans (below_row hw2.out (Nat.le_refl _))

theorem mac_facts {w w0 w1 w2 : World} {D : List Nat} {FD : Array Value} {t t' : TypeId} (hs0 : w0.heap.size = w.heap.size + 1 + 1) (hr0 : w0.heap[w.heap.size]? = some (.cells b64 t (0, 0))) (hv0 : w0.heap[w.heap.size + 1]? = some (.cells b64 t (0, 0))) (hb0 : Below w.heap.size w w0) (hb1 : Below w0.heap.size w0 w1)
    (h : w2 = (w1.alloc (.cells b32 t')).setRow w1.heap.size FD) (hFD : FD = (U8 D).toArray) :
    Rd w2 w2.heap.size (some ⟨w1.heap.size, 0, none⟩) (U8 D) ∧ w2.heap[w.heap.size + 1]? = some (.cells b64 t (0, 0)) ∧ w2.heap[w.heap.size]? = some (.cells b64 t (0, 0)) ∧ Below w.heap.size w w2 := by
  obtain ⟨hs2, hr2, hb2⟩ := row_made h
  have hs1 := hb1.size
  refine ⟨?_, (hb2.block (w.heap.size + 1) (by omega)).trans ((hb1.block _ (by omega)).trans hv0), (hb2.block w.heap.size (by omega)).trans ((hb1.block _ (by omega)).trans hr0), (hb0.trans (hb1.mono (by omega))).trans (hb2.mono (by omega))⟩
  intro k u hu
  refine ⟨_, rfl, by show w1.heap.size < _; omega, ?_⟩
  rw [at_add, cell_of_row w2 _ k _ _ (0, 0) hr2, hFD]
  simpa using hu

set_option maxRecDepth 100000 in
set_option maxHeartbeats 800000 in
theorem macblock_long (l : List Nat) (n : Nat) (hn : n = l.length) (A : Option Addr) (c : Nat) (w : World) (hT : Tabs w) (hA : Rd w w.heap.size A (U8 l)) (hb : ∀ x ∈ l, x < 256) (hnil : A = none → c = 0) (h : 64 < n) (h5 : n ≤ 5000) (F : Array Value) (hF : F = (U8 (blockM l)).toArray) :
    Calls Tryd.prog 41 #[.slice A n c] w fun e w' => e = .returned (.agg F) ∧ Below w.heap.size w w' := by
  obtain ⟨D, hD⟩ : ∃ D, D = digestN l := ⟨_, rfl⟩
  obtain ⟨FD, hFD⟩ : ∃ FD : Array Value, FD = (U8 (digestN l)).toArray := ⟨_, rfl⟩
  have hDl : D.length = 32 := by rw [hD, length_dig]
  have hFD' : FD = (U8 D).toArray := by rw [hFD, hD]
  have hkey : keyN l = D := by unfold keyN; rw [if_pos (by omega), hD]
  have hsp : (splice b64.toList 0 (U8 D)).toArray = F := by rw [splice_b64 D (by omega), hF]; unfold blockM; rw [hkey]
  have hsz : F.size = 64 := by rw [hF]; simp [U8, length_blockM]
  have hin : (Tryd.prog.info? 89).map (·.size) = some F.size := by rw [hsz]; exact info64
  have hone : F.all (·.oneCell') = true := by rw [hF]; exact all_one8 _
  have hszD : FD.size = 32 := by rw [hFD']; simp [U8, hDl]
  have hinD : (Tryd.prog.info? 49).map (·.size) = some FD.size := by rw [hszD]; exact info32
  have honeD : FD.all (·.oneCell') = true := by rw [hFD']; exact all_one8 _
  have hmin : (U8 D).length = Nat.min 32 64 := by rw [U8_length, hDl]; rfl
  have hfit : 0 + (U8 D).length ≤ b64.toList.length := by rw [U8_length, hDl]; show 0 + 32 ≤ 64; omega
  have HA := Lib.hid hA
  have HNIL := Lib.hid hnil
  have HSP := Lib.hid hsp
  have HSZ := Lib.hid hsz
  have HIN := Lib.hid hin
  have HONE := Lib.hid hone
  have HSZD := Lib.hid hszD
  have HIND := Lib.hid hinD
  have HONED := Lib.hid honeD
  have HMIN := Lib.hid hmin
  have HFIT := Lib.hid hfit
  have HFD := Lib.hid hFD
  have HFD' := Lib.hid hFD'
  have HN := Lib.hid hn
  have HT := Lib.hid hT
  have HB := Lib.hid hb
  clear hA hnil hsp hsz hin hone hkey hF hmin hfit hszD hinD honeD hFD hFD' hn hT hb hD hDl
  go_enter Tryd.func41, Tryd.ntmps41
  go_wp2_with ((with_reducible refine at_store 3 ?_); refine wpList_store_named (o := ⟨none, .store 89 (.tmp 3) (.tmp 5), _, _, _, _⟩) rfl 89 (.tmp 3) (.tmp 5) rfl (w.heap.size + 1) b64 rfl rfl 89 b64 (heap_alloc2_new _ _ _) info64 rfl (all_one8 (List.replicate 64 0)) ?_; intro w0 hw0)
  obtain ⟨hs0, hr0, hv0, hb0⟩ := two_made_set hw0.out
  have HR0 := Lib.hid hr0
  have HV0 := Lib.hid hv0
  clear hr0 hv0 hw0
  refine (sum_arr l FD HFD n HN.out A c w0 (HT.out.next hb0) (HA.out.next hb0) HNIL.out HB.out h5).mono ?_
  rintro e w1 ⟨rfl, hb1⟩
  have hs1 := hb1.size
  go_wp2_with (first
    | ((with_reducible refine at_store 4 ?_); refine wpList_store_named (o := ⟨none, .store 49 (.tmp 4) (.tmp 10), _, _, _, _⟩) rfl 49 (.tmp 4) (.tmp 10) rfl w1.heap.size FD rfl rfl 49 b32 (heap_alloc_new w1 _) HIND.out HSZD.out.symm HONED.out ?_; intro w2 hw2; have HFX := Lib.hid (mac_facts hs0 HR0.out HV0.out hb0 hb1 hw2.out HFD'.out))
    | ((with_reducible refine at_calls 14 ?_); refine wpList_copy_splice (o := ⟨some 14, _, _, _, _, _⟩) rfl (.tmp 12) (.tmp 13) 24 24 rfl 5 Tryd.underlying24 sizeU8 (some ⟨w.heap.size + 1, 0, none⟩) (some ⟨w1.heap.size, 0, none⟩) 64 64 32 32 rfl rfl (w.heap.size + 1) 0 b64.toList 89 HFX.out.2.1 (U8 D) HMIN.out (fun hp => ⟨rfl, rd_cells HFX.out.1 hp⟩) HFIT.out (U8_one D) (w.heap.size + 1) w2 (Below.refl _ _) (Nat.le_refl _) ?_; intro w3 hw3 hb3; have hw3' : Hid (w3.heap[w.heap.size + 1]? = some (.cells F 89 (0, 0))) := Lib.hid (HSP.out ▸ hw3.out))
    | ((with_reducible refine at_load 15 ?_); refine wpList_load_row (o := ⟨some 15, .load 89 (.tmp 3), _, _, _, _⟩) rfl 89 (.tmp 3) rfl (w.heap.size + 1) rfl 89 F (0, 0) _ hw3'.out Tryd.underlying89 rfl HIN.out ?_)
    | ((with_reducible refine at_store 2 ?_); refine wpList_store_named (o := ⟨none, .store 89 (.tmp 2) (.tmp 15), _, _, _, _⟩) rfl 89 (.tmp 2) (.tmp 15) rfl w.heap.size F rfl rfl 89 b64 ((hb3.block _ (by omega)).trans HFX.out.2.2.1) HIN.out HSZ.out.symm HONE.out ?_; intro w4 hw4))
  have hr4 : w4.heap[w.heap.size]? = some (.cells F 89 (0, 0)) := by
    rw [hw4.out]; exact setRow_heap _ _ _ _ _ _ ((hb3.block _ (by omega)).trans HFX.out.2.2.1)
  refine bodyPost_ret (results_cell_row Tryd.results41 _ w4 w.heap.size 89 _ (0, 0) _ rfl hr4 Tryd.underlying89 rfl HIN.out) rfl ⟨rfl, ?_⟩
  exact (HFX.out.2.2.2.trans (hb3.mono (by omega))).trans (below_row hw4.out (Nat.le_refl _))

/-- A secret's block. -/
theorem macblock_any (l : List Nat) (n : Nat) (hn : n = l.length) (A : Option Addr) (c : Nat) (w : World) (hT : Tabs w) (hA : Rd w w.heap.size A (U8 l)) (hb : ∀ x ∈ l, x < 256) (hnil : A = none → c = 0) (h5 : n ≤ 5000) (F : Array Value) (hF : F = (U8 (blockM l)).toArray) :
    Calls Tryd.prog 41 #[.slice A n c] w fun e w' => e = .returned (.agg F) ∧ Below w.heap.size w w' := by
  by_cases h : 64 < n
  · exact macblock_long l n hn A c w hT hA hb hnil h h5 F hF
  · exact macblock_short l n hn A c w hA hnil (by omega) F hF
end Go.Proofs.YtaokhkbfiplfmaaDoor
end
section
namespace Go.Proofs.YtaokhkbfiplfmaaDoor
set_option maxRecDepth 100000
set_option linter.unusedVariables false
open Go.ChangeShapes Go.WideShapes Go.ChangeAt Go.RowKit

/-- An array as it is stored whole. -/
def IsArr (t n : Nat) (F : Array Value) : Prop := (Tryd.prog.info? t).map (·.size) = some F.size ∧ n = F.size ∧ F.all (·.oneCell') = true
theorem isArr32 {F : Array Value} {l : List Nat} (h : F = (U8 l).toArray) (hl : l.length = 32) : IsArr 49 32 F := by
  have hs : F.size = 32 := by rw [h]; simp [U8, hl]
  exact ⟨by rw [hs]; exact info32, hs.symm, by rw [h]; exact all_one8 _⟩
theorem isArr64 {F : Array Value} {l : List Nat} (h : F = (U8 l).toArray) (hl : l.length = 64) : IsArr 89 64 F := by
  have hs : F.size = 64 := by rw [h]; simp [U8, hl]
  exact ⟨by rw [hs]; exact info64, hs.symm, by rw [h]; exact all_one8 _⟩
/-- A row of bytes, as a slice of it reads. -/
theorem rd_row {w : World} {g : Nat} {F : Array Value} {l : List Nat} {t : TypeId} (h : w.heap[g]? = some (.cells F t (0, 0))) (hF : F = (U8 l).toArray) : Rd w w.heap.size (some ⟨g, 0, none⟩) (U8 l) := by
  intro k u hu
  refine ⟨_, rfl, (Array.getElem?_eq_some_iff.1 h).1, ?_⟩
  rw [at_add, cell_of_row w _ k _ _ (0, 0) h, hF]
  simpa using hu

theorem masked_arr (K : List Nat) (m : Nat) (X FM : Array Value) (w : World) (hX : X = (U8 K).toArray) (hFM : FM = (U8 (maskN K m)).toArray) (hK : ∀ x ∈ K, x < 256) (hl : K.length = 64) (hm : m < 256) :
    Calls Tryd.prog 43 #[.agg X, .int .u8 m] w fun e w' => e = .returned (.agg FM) ∧ Below w.heap.size w w' := by
  subst hX hFM
  exact masked_any K m w hK hl hm
/-- Rows one behind the other, as a slice that reads so. -/
theorem concat_rd (ps : List Part) (L : List Nat) (hL : L = cflat ps) (g m c : Nat) (w : World) (hm : ps.length = m) (hg : g < w.heap.size) (hcell : ∀ i p, ps[i]? = some p → w.cell? ⟨g, i, none⟩ = some p.val) (hok : ∀ p ∈ ps, p.ok w) (hm2 : m ≤ 1000)
    (h0 : 0 < L.length) (hn : L.length ≤ 140737488355328) :
    Calls Tryd.prog 16 #[.slice (some ⟨g, 0, none⟩) m c] w fun e w' => ∃ A cap, e = .returned (.slice A L.length cap) ∧ Rd w' w'.heap.size A (U8 L) ∧ (A = none → cap = 0) ∧ Below w.heap.size w w' := by
  subst hL
  refine (concat_any ps g m c w hm hg hcell hok hm2 h0 hn).mono ?_
  rintro e w' ⟨v, rfl, hown, hb⟩
  obtain ⟨A, cap, rfl, hr⟩ := own_shape hown
  refine ⟨A, cap, rfl, hr, ?_, hb⟩
  rintro rfl
  rcases hown.2 with ⟨h, _⟩ | ⟨g', cap', cur, h, _⟩
  · simp at h; exact h.2
  · simp at h

set_option maxRecDepth 100000 in
set_option maxHeartbeats 800000 in
theorem side_any (K l : List Nat) (m n : Nat) (hn : n = l.length) (A : Option Addr) (c Bk : Nat) (w : World) (hT : Tabs w) (hk : w.heap[Bk]? = some (.cells (U8 K).toArray 89 (0, 0))) (hA : Rd w w.heap.size A (U8 l)) (hnil : A = none → c = 0)
    (hl : K.length = 64) (hK : ∀ x ∈ K, x < 256) (hb : ∀ x ∈ l, x < 256) (hm : m < 256) (h4 : n ≤ 4000) (F : Array Value) (hF : F = (U8 (digestN (maskN K m ++ l))).toArray) :
    Calls Tryd.prog 42 #[.int .u8 m, .slice A n c, .pointer (some ⟨Bk, 0, none⟩)] w fun e w' => e = .returned (.agg F) ∧ Below w.heap.size w w' := by
  obtain ⟨X, hX⟩ : ∃ X : Array Value, X = (U8 K).toArray := ⟨_, rfl⟩
  obtain ⟨FM, hFM⟩ : ∃ FM : Array Value, FM = (U8 (maskN K m)).toArray := ⟨_, rfl⟩
  rw [← hX] at hk
  have hsX : X.size = 64 := by rw [hX]; simp [U8, hl]
  have hiX : (Tryd.prog.info? 89).map (·.size) = some X.size := by rw [hsX]; exact info64
  have hsM : FM.size = 64 := by rw [hFM]; simp [U8, length_maskN, hl]
  have hiM : (Tryd.prog.info? 89).map (·.size) = some FM.size := by rw [hsM]; exact info64
  have hoM : FM.all (·.oneCell') = true := by rw [hFM]; exact all_one8 _
  have hsF : F.size = 32 := by rw [hF]; simp [U8, length_dig]
  have hiF : (Tryd.prog.info? 49).map (·.size) = some F.size := by rw [hsF]; exact info32
  have hoF : F.all (·.oneCell') = true := by rw [hF]; exact all_one8 _
  have hkl : Bk < w.heap.size := (Array.getElem?_eq_some_iff.1 hk).1
  have HN := Lib.hid hn
  have HT := Lib.hid hT
  have HKC := Lib.hid hk
  have HA := Lib.hid hA
  have HNIL := Lib.hid hnil
  have HL := Lib.hid hl
  have HK := Lib.hid hK
  have HB := Lib.hid hb
  have HF := Lib.hid hF
  have HX := Lib.hid hX
  have HFM := Lib.hid hFM
  have HIX := Lib.hid hiX
  have HSM := Lib.hid hsM
  have HIM := Lib.hid hiM
  have HOM := Lib.hid hoM
  have HSF := Lib.hid hsF
  have HIF := Lib.hid hiF
  have HOF := Lib.hid hoF
  clear hn hT hk hA hnil hl hK hb hF hX hFM hsX hiX hsM hiM hoM hsF hiF hoF
  go_enter Tryd.func42, Tryd.ntmps42
  go_wp2_with ((with_reducible refine at_load 7 ?_); refine wpList_load_row (o := ⟨some 7, .load 89 (.tmp 2), _, _, _, _⟩) rfl 89 (.tmp 2) rfl Bk rfl 89 X (0, 0) _ (((below_lit w _ _).block Bk hkl).trans HKC.out) Tryd.underlying89 rfl HIX.out ?_)
  refine (masked_arr K m X FM _ HX.out HFM.out HK.out HL.out hm).mono ?_
  rintro e w1 ⟨rfl, hb1⟩
  have hr1 : w1.heap[w.heap.size]? = some (.cells b32 49 (0, 0)) := (hb1.block _ (by simp)).trans (heap_alloc_new w _)
  have hbw := below_after _ _ hb1
  have hs1 : w.heap.size + 1 ≤ w1.heap.size := by have := hb1.size; simpa using this
  have HR1 := Lib.hid hr1
  have HBW := Lib.hid hbw
  clear hr1 hbw hb1
  go_wp2_with ((with_reducible refine at_store 6 ?_); refine wpList_store_named (o := ⟨none, .store 89 (.tmp 6) (.tmp 9), _, _, _, _⟩) rfl 89 (.tmp 6) (.tmp 9) rfl w1.heap.size FM rfl rfl 89 b64 (heap_alloc_new w1 _) HIM.out HSM.out.symm HOM.out ?_; intro w2 hw2)
  obtain ⟨hs2, hr2, hb2⟩ := row_made hw2.out
  have hrd2 : Rd w2 w2.heap.size (some ⟨w1.heap.size, 0, none⟩) (U8 (maskN K m)) := by
    intro k u hu
    refine ⟨_, rfl, by show w1.heap.size < _; omega, ?_⟩
    rw [at_add, cell_of_row w2 _ k _ _ (0, 0) hr2, HFM.out]
    simpa using hu
  have hb02 : Below w.heap.size w w2 := HBW.out.trans (hb2.mono (by omega))
  have hA2 := HA.out.next hb02
  have HR2 := Lib.hid ((hb2.block w.heap.size (by omega)).trans HR1.out)
  have HT2 := Lib.hid (HT.out.next hb02)
  have HB2 := Lib.hid hb02
  obtain ⟨L, hL⟩ : ∃ L, L = maskN K m ++ l := ⟨_, rfl⟩
  have hLl : L.length = 64 + n := by rw [hL, List.length_append, length_maskN, HL.out, HN.out]
  have hLb : ∀ x ∈ L, x < 256 := by
    rw [hL]; intro x hx
    rcases List.mem_append.1 hx with h | h
    · exact maskN_lt K m HK.out hm x h
    · exact HB.out x h
  have hfl : L = cflat [⟨some ⟨w1.heap.size, 0, none⟩, maskN K m, 64⟩, ⟨A, l, c⟩] := by rw [hL]; simp [cflat]
  have hml : (maskN K m).length = 64 := by rw [length_maskN, HL.out]
  have HLB := Lib.hid hLb
  have HLL := Lib.hid hLl
  refine (concat_rd [⟨some ⟨w1.heap.size, 0, none⟩, maskN K m, 64⟩, ⟨A, l, c⟩] L hfl w2.heap.size 2 2 _ rfl (by simp) (parts_lit (by simp [Part.val, hml]; exact HN.out)) ?_ (by omega) (by omega) (by omega)).mono ?_
  · intro p hp
    refine Part.ok_alloc ?_ _
    simp only [List.mem_cons, List.not_mem_nil, or_false] at hp
    rcases hp with rfl | rfl
    · exact ⟨hrd2, fun h => by cases h⟩
    · exact ⟨hA2, HNIL.out⟩
  · rw [← hL] at HF
    clear hfl hml hLb hL hrd2 hr2 hw2 hb02 hA2 hb2
    rintro e w3 ⟨A3, c3, rfl, hr3, hn3, hb3⟩
    have hb03 : Below w.heap.size w w3 := (HB2.out.alloc HB2.out.size _).trans (hb3.mono (by have := HB2.out.size; simp; omega))
    have HR3 := Lib.hid hr3
    have HN3 := Lib.hid hn3
    have HT3 := Lib.hid (HT.out.next hb03)
    have HRES3 := Lib.hid ((hb3.block w.heap.size (by simp; omega)).trans ((Below.heap_alloc w2 _ w.heap.size (by omega)).trans HR2.out))
    have HB3 := Lib.hid hb03
    have hs3 : w2.heap.size + 1 ≤ w3.heap.size := by have := hb3.size; simpa using this
    rw [hLl]
    clear hr3 hn3 hb03 hb3 hLl
    go_wp2_with fail
    refine (sum_arr L F HF (64 + n) HLL.out.symm A3 c3 w3 HT3.out HR3.out HN3.out HLB.out (by omega)).mono ?_
    rintro e w4 ⟨rfl, hb4⟩
    have HRES4 := Lib.hid ((hb4.block w.heap.size (by omega)).trans HRES3.out)
    have HB4 := Lib.hid (HB3.out.trans (hb4.mono (by omega)))
    clear hb4
    go_wp2_with ((with_reducible refine at_store 5 ?_); refine wpList_store_named (o := ⟨none, .store 49 (.tmp 5) (.tmp 14), _, _, _, _⟩) rfl 49 (.tmp 5) (.tmp 14) rfl w.heap.size F rfl rfl 49 b32 HRES4.out HIF.out HSF.out.symm HOF.out ?_; intro w5 hw5)
    have hr5 : w5.heap[w.heap.size]? = some (.cells F 49 (0, 0)) := by rw [hw5.out]; exact setRow_heap _ _ _ _ _ _ HRES4.out
    refine bodyPost_ret (results_cell_row Tryd.results42 _ w5 w.heap.size 49 _ (0, 0) _ rfl hr5 Tryd.underlying49 rfl HIF.out) rfl ⟨rfl, ?_⟩
    exact HB4.out.trans (below_row hw5.out (Nat.le_refl _))

set_option maxRecDepth 100000 in
set_option maxHeartbeats 800000 in
theorem mactag_any (s b : List Nat) (n m : Nat) (hn : n = s.length) (hm : m = b.length) (A A' : Option Addr) (c c' : Nat) (w : World) (hT : Tabs w) (hA : Rd w w.heap.size A (U8 s)) (hA' : Rd w w.heap.size A' (U8 b)) (hnil : A = none → c = 0) (hnil' : A' = none → c' = 0)
    (hs : ∀ x ∈ s, x < 256) (hb : ∀ x ∈ b, x < 256) (h5 : n ≤ 5000) (h4 : m ≤ 4000) (F : Array Value) (hF : F = (U8 (tagN s b)).toArray) :
    Calls Tryd.prog 31 #[.slice A n c, .slice A' m c'] w fun e w' => e = .returned (.agg F) ∧ Below w.heap.size w w' := by
  obtain ⟨K, hK⟩ : ∃ K, K = blockM s := ⟨_, rfl⟩
  obtain ⟨X, hX⟩ : ∃ X : Array Value, X = (U8 K).toArray := ⟨_, rfl⟩
  obtain ⟨D, hD⟩ : ∃ D, D = digestN (maskN K 54 ++ b) := ⟨_, rfl⟩
  obtain ⟨FD, hFD⟩ : ∃ FD : Array Value, FD = (U8 D).toArray := ⟨_, rfl⟩
  have hKl : K.length = 64 := by rw [hK, length_blockM]
  have hKb : ∀ x ∈ K, x < 256 := by rw [hK]; exact blockM_lt s hs
  have hDl : D.length = 32 := by rw [hD, length_dig]
  have hDb : ∀ x ∈ D, x < 256 := by rw [hD]; exact dig_lt _
  have hF' : F = (U8 (digestN (maskN K 92 ++ D))).toArray := by rw [hF, hD, hK]; rfl
  have hX' : X = (U8 (blockM s)).toArray := by rw [hX, hK]
  have hFD' : FD = (U8 (digestN (maskN K 54 ++ b))).toArray := by rw [hFD, hD]
  have HN := Lib.hid hn
  have HM := Lib.hid hm
  have HT := Lib.hid hT
  have HA := Lib.hid hA
  have HA' := Lib.hid hA'
  have HNIL := Lib.hid hnil
  have HNIL' := Lib.hid hnil'
  have HS := Lib.hid hs
  have HB := Lib.hid hb
  have HX := Lib.hid hX
  have HX' := Lib.hid hX'
  have HFD := Lib.hid hFD
  have HFD' := Lib.hid hFD'
  have HF := Lib.hid hF'
  have HKL := Lib.hid hKl
  have HKB := Lib.hid hKb
  have HDL := Lib.hid hDl
  have HDB := Lib.hid hDb
  have HIX := Lib.hid (isArr64 hX hKl)
  have HID := Lib.hid (isArr32 hFD hDl)
  have HIF := Lib.hid (isArr32 hF (length_dig _))
  clear hn hm hT hA hA' hnil hnil' hs hb hX hX' hFD hFD' hF hF' hK hD hKl hKb hDl hDb
  go_enter Tryd.func31, Tryd.ntmps31
  go_wp2_with fail
  refine (macblock_any s n HN.out A c _ (HT.out.next (below_lit w _ _)) (HA.out.next (below_lit w _ _)) HS.out HNIL.out h5 X HX'.out).mono ?_
  rintro e w1 ⟨rfl, hb1⟩
  have hr1 : w1.heap[w.heap.size]? = some (.cells b32 49 (0, 0)) := (hb1.block _ (by simp)).trans (heap_alloc_new w _)
  have hbw := below_after _ _ hb1
  have hs1 : w.heap.size + 1 ≤ w1.heap.size := by have := hb1.size; simpa using this
  have HR1 := Lib.hid hr1
  have HBW := Lib.hid hbw
  clear hr1 hbw hb1
  go_wp2_with ((with_reducible refine at_store 5 ?_); refine wpList_store_named (o := ⟨none, .store 89 (.tmp 5) (.tmp 9), _, _, _, _⟩) rfl 89 (.tmp 5) (.tmp 9) rfl w1.heap.size X rfl rfl 89 b64 (heap_alloc_new w1 _) HIX.out.1 HIX.out.2.1 HIX.out.2.2 ?_; intro w2 hw2)
  obtain ⟨hs2, hr2, hb2⟩ := row_made hw2.out
  have hb02 : Below w.heap.size w w2 := HBW.out.trans (hb2.mono (by omega))
  have HK2 : Hid (w2.heap[w1.heap.size]? = some (.cells (U8 K).toArray 89 (0, 0))) := Lib.hid (HX.out ▸ hr2)
  have HR2 := Lib.hid ((hb2.block w.heap.size (by omega)).trans HR1.out)
  have HB2 := Lib.hid hb02
  clear hr2 hw2 hb2 hb02
  refine (side_any K b 54 m HM.out A' c' w1.heap.size w2 (HT.out.next HB2.out) HK2.out (HA'.out.next HB2.out) HNIL'.out HKL.out HKB.out HB.out (by omega) h4 FD HFD'.out).mono ?_
  rintro e w3 ⟨rfl, hb3⟩
  have hs3 := hb3.size
  have HK3 := Lib.hid ((hb3.block w1.heap.size (by omega)).trans HK2.out)
  have HR3 := Lib.hid ((hb3.block w.heap.size (by omega)).trans HR2.out)
  have HB3 := Lib.hid (HB2.out.trans (hb3.mono (by omega)))
  clear hb3
  go_wp2_with ((with_reducible refine at_store 7 ?_); refine wpList_store_named (o := ⟨none, .store 49 (.tmp 7) (.tmp 13), _, _, _, _⟩) rfl 49 (.tmp 7) (.tmp 13) rfl w3.heap.size FD rfl rfl 49 b32 (heap_alloc_new w3 _) HID.out.1 HID.out.2.1 HID.out.2.2 ?_; intro w4 hw4)
  obtain ⟨hs4, hr4, hb4⟩ := row_made hw4.out
  have HRD4 := Lib.hid (rd_row hr4 HFD.out)
  have HK4 := Lib.hid ((hb4.block w1.heap.size (by omega)).trans HK3.out)
  have HR4 := Lib.hid ((hb4.block w.heap.size (by omega)).trans HR3.out)
  have HB4 := Lib.hid (HB3.out.trans (hb4.mono (by omega)))
  clear hr4 hw4 hb4
  refine (side_any K D 92 32 HDL.out.symm (some ⟨w3.heap.size, 0, none⟩) 32 w1.heap.size w4 (HT.out.next HB4.out) HK4.out HRD4.out (fun h => by cases h) HKL.out HKB.out HDB.out (by omega) (by omega) F HF.out).mono ?_
  rintro e w5 ⟨rfl, hb5⟩
  have HR5 := Lib.hid ((hb5.block w.heap.size (by omega)).trans HR4.out)
  have HB5 := Lib.hid (HB4.out.trans (hb5.mono (by omega)))
  clear hb5
  go_wp2_with ((with_reducible refine at_store 4 ?_); refine wpList_store_named (o := ⟨none, .store 49 (.tmp 4) (.tmp 16), _, _, _, _⟩) rfl 49 (.tmp 4) (.tmp 16) rfl w.heap.size F rfl rfl 49 b32 HR5.out HIF.out.1 HIF.out.2.1 HIF.out.2.2 ?_; intro w6 hw6)
  have hr6 : w6.heap[w.heap.size]? = some (.cells F 49 (0, 0)) := by rw [hw6.out]; exact setRow_heap _ _ _ _ _ _ HR5.out
  refine bodyPost_ret (results_cell_row Tryd.results31 _ w6 w.heap.size 49 _ (0, 0) _ rfl hr6 Tryd.underlying49 rfl HIF.out.1) rfl ⟨rfl, ?_⟩
  exact HB5.out.trans (below_row hw6.out (Nat.le_refl _))
end Go.Proofs.YtaokhkbfiplfmaaDoor
end
section
namespace Go.Proofs.YtaokhkbfiplfmaaDoor
set_option maxRecDepth 100000
set_option linter.unusedVariables false
open Go.ChangeShapes Go.WideShapes Go.ChangeAt Go.RowKit

set_option maxHeartbeats 1600000 in
theorem btag_any (s l : List Nat) (n m : Nat) (hn : n = s.length) (hm : m = l.length) (A B : Option Addr) (c d : Nat) (w : World) (hT : Tabs w) (hA : Bs w w.heap.size s A c) (hB : Bs w w.heap.size l B d) (h5 : n ≤ 5000) (h4 : m ≤ 3999) (F : Array Value) (hF : F = (U8 (tagB s l)).toArray) :
    Calls Tryd.prog 14 #[.slice A n c, .slice B m d] w fun e w' => e = .returned (.agg F) ∧ Below w.heap.size w w' := by
  obtain ⟨L, hL⟩ : ∃ L, 66 :: l = L := ⟨_, rfl⟩
  obtain ⟨k, hk⟩ : ∃ k, k = m + 1 := ⟨_, rfl⟩
  have HL1 := Lib.hid (show [66] ++ l = L by rw [← hL]; rfl)
  have HLK := Lib.hid (show k = L.length by rw [← hL, hk, hm]; rfl)
  have HLB := Lib.hid (show ∀ x ∈ L, x < 256 by rw [← hL]; intro x hx; rcases List.mem_cons.1 hx with rfl | h; decide; exact hB.lt x h)
  have HFV := Lib.hid (show F = (U8 (tagN s L)).toArray by rw [hF, tagB, hL])
  have HIF := Lib.hid (isArr32 (l := tagB s l) hF (tagB_len _ _))
  have HN := Lib.hid hn
  have HM := Lib.hid hm
  have HT := Lib.hid hT
  have HA := Lib.hid hA
  have HB := Lib.hid hB
  have HK := Lib.hid hk
  have hk4 : k ≤ 4000 := by omega
  clear hL hF hn hm hT hA hB hk
  go_enter Tryd.func14, Tryd.ntmps14
  go_wp2_with fail
  obtain ⟨w0, hw0⟩ : ∃ w0, w.alloc (.cells #[.int .u8 0, .int .u8 0, .int .u8 0, .int .u8 0, .int .u8 0, .int .u8 0, .int .u8 0, .int .u8 0, .int .u8 0, .int .u8 0, .int .u8 0, .int .u8 0, .int .u8 0, .int .u8 0, .int .u8 0, .int .u8 0, .int .u8 0, .int .u8 0, .int .u8 0, .int .u8 0, .int .u8 0, .int .u8 0, .int .u8 0, .int .u8 0, .int .u8 0, .int .u8 0, .int .u8 0, .int .u8 0, .int .u8 0, .int .u8 0, .int .u8 0, .int .u8 0] 49) = w0 := ⟨_, rfl⟩
  obtain ⟨w1, hw1⟩ : ∃ w1, w0.alloc (.cells #[.int .u8 66] 5) = w1 := ⟨_, rfl⟩
  have hs0 : w.heap.size + 1 = w0.heap.size := by rw [← hw0]; simp
  have hs1 : w0.heap.size + 1 = w1.heap.size := by rw [← hw1]; simp
  rw [hw0, hs0, hw1, hs1]
  have h66 : Rd w1 w1.heap.size (some ⟨w0.heap.size, 0, none⟩) (U8 [66]) := by rw [← hw1]; exact rd_lit w0 #[.int .u8 66] 5
  have hb0 : Below w.heap.size w w0 := by rw [← hw0]; exact below_lit w _ _
  have hb01 : Below w.heap.size w w1 := by rw [← hw1]; exact hb0.trans ((below_lit w0 _ _).mono hb0.size)
  have HX0 := Lib.hid (show w1.heap[w.heap.size]? = some (.cells b32 49 (0, 0)) by rw [← hw1, heap_alloc_old _ _ (by omega), ← hw0]; exact heap_alloc_new w _)
  have HB01 := Lib.hid hb01
  have HB1 := Lib.hid (HB.out.next hb01)
  clear hs1 hw1 hb01
  refine (concat2 [66] l L HL1.out 1 m k rfl HM.out HLK.out _ B 1 d w1 h66 HB1.out.rd (fun h => by cases h) HB1.out.nil (by decide) HB1.out.lt (by have := HK.out; omega) (by omega)).mono ?_
  rintro e w2 ⟨AL, cL, rfl, hs2, hb2⟩
  have HS2 := Lib.hid hs2
  have HB2 := Lib.hid (HB01.out.trans (hb2.mono HB01.out.size))
  have HX2 := Lib.hid ((hb2.block w.heap.size (Array.getElem?_eq_some_iff.1 HX0.out).1).trans HX0.out)
  clear hs2 hb2 h66
  go_wp2_with fail
  refine (mactag_any s L n k HN.out HLK.out A AL c cL w2 (HT.out.next HB2.out) (HA.out.next HB2.out).rd HS2.out.rd HA.out.nil HS2.out.nil HA.out.lt HLB.out h5 hk4 F HFV.out).mono ?_
  rintro e w3 ⟨rfl, hb3⟩
  have HX3 := Lib.hid ((hb3.block w.heap.size (Array.getElem?_eq_some_iff.1 HX2.out).1).trans HX2.out)
  have HB3 := Lib.hid (HB2.out.trans (hb3.mono HB2.out.size))
  clear hb3
  go_wp2_with ((with_reducible refine at_store 4 ?_); refine wpList_store_named (o := ⟨none, .store 49 (.tmp 4) (.tmp 10), _, _, _, _⟩) rfl 49 (.tmp 4) (.tmp 10) rfl w.heap.size F rfl rfl 49 b32 HX3.out HIF.out.1 HIF.out.2.1 HIF.out.2.2 ?_; intro w6 hw6)
  have hr6 : w6.heap[w.heap.size]? = some (.cells F 49 (0, 0)) := by rw [hw6.out]; exact setRow_heap _ _ _ _ _ _ HX3.out
  refine bodyPost_ret (results_cell_row Tryd.results14 _ w6 w.heap.size 49 _ (0, 0) _ rfl hr6 Tryd.underlying49 rfl HIF.out.1) rfl ⟨rfl, ?_⟩
  exact HB3.out.trans (below_row hw6.out (Nat.le_refl _))
end Go.Proofs.YtaokhkbfiplfmaaDoor
end
section
namespace Go.Proofs.YtaokhkbfiplfmaaDoor
set_option linter.unusedVariables false
open Go.ChangeShapes Go.WideShapes Go.ChangeAt Go.RowKit
end Go.Proofs.YtaokhkbfiplfmaaDoor
end
section
namespace Go.Proofs.YtaokhkbfiplfmaaDoor
set_option linter.unusedVariables false
open Go.ChangeShapes Go.WideShapes Go.ChangeAt Go.RowKit

/-- A key's box. -/
def Box (w : World) (b : Nat) (q : KV) : Prop := w.heap[b]? = some (.cells #[.int .i64 q.k.id, .slice q.S q.k.sec.length q.c, .int .i64 q.k.frm, .int .i64 q.k.til] 26 (0, 0)) ∧ b < w.heap.size ∧ Bs w w.heap.size q.k.sec q.S q.c
theorem Box.next {w w' : World} {b : Nat} {q : KV} (h : Box w b q) (hb : Below w.heap.size w w') : Box w' b q := ⟨(hb.block _ h.2.1).trans h.1, Nat.lt_of_lt_of_le h.2.1 hb.size, h.2.2.next hb⟩
theorem heap_new2 (w : World) (o o' : Obj) : ((w.alloc o).alloc o').heap[w.heap.size + 1]? = some o' := by
  have := heap_alloc_new (w.alloc o) o'
  simpa using this
/-- A list of keys that was just laid. -/
theorem ks_lit (w : World) (L : List KV) (cs : Array Value) (n : Nat) (hc : cs.toList = flatK L) (hn : L.length = n) (hn2 : n ≤ 1000) (hs : ∀ q ∈ L, Bs w w.heap.size q.k.sec q.S q.c) :
    Ks (w.alloc (.cells cs 26)) (w.alloc (.cells cs 26)).heap.size (some ⟨w.heap.size, 0, none⟩) (L.map (·.k)) := by
  have hsz : cs.size = n * 4 := by
    have := congrArg List.length hc
    rw [length_flatK, hn] at this
    simpa using this
  have hown := World.ownsRow_lit (e := 26) (base := w.heap.size) (size := 4) w cs n (Nat.le_refl _) (by unfold maxLen; omega) hsz
  rw [hc] at hown
  exact ks_of_own hown (fun q hq => (hs q hq).next (below_lit w _ _))

end Go.Proofs.YtaokhkbfiplfmaaDoor
end
section
namespace Go.Proofs.YtaokhkbfiplfmaaDoor
set_option linter.unusedVariables false
open Go.ChangeShapes Go.WideShapes Go.ChangeAt Go.RowKit

set_option maxRecDepth 20000 in
theorem pright_any (id f t : Int) (n : Nat) (A : Option Addr) (c : Nat) (w : World) (hn : n ≤ 9223372036854775807) :
    Calls Tryd.prog 19 #[.agg #[.int .i64 id, .slice A n c, .int .i64 f, .int .i64 t]] w fun e w' => e = .returned (.bool (rightN id n f t)) ∧ Below w.heap.size w w' := by
  go_enter Tryd.func19, Tryd.ntmps19
  go_wp2
  all_goals
    go_ret
    refine ⟨congrArg Ending.returned (congrArg Value.bool ?_), (Below.refl _ _).alloc (Nat.le_refl _) _⟩
    rw [Bool.eq_iff_iff]
    simp [rightN]
    try omega
end Go.Proofs.YtaokhkbfiplfmaaDoor
end
