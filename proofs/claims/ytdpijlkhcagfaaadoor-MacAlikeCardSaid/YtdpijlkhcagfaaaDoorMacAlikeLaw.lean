/-
  Proved: for any secret, bytes and number the law MacAlike answers true, and leaves what came in as it was; the package's two tables are tied to the program's text. Conditions: none beyond the statement's own.
-/
import Derived.Test.YtdpijlkhcagfaaaDoorMacInnerLaw
namespace Go.Proofs.YtdpijlkhcagfaaaDoor
set_option linter.unusedVariables false
open Go.ChangeShapes Go.WideShapes Go.ChangeAt Go.RowKit

/-- A whole array out of its box, in a region that draws its order. -/
theorem yields_row {P : Program} {ops : Array Oper} {S : World → Prop} {op : Oper} {a : Act} (hw : Region.wanted op (yielded ops a.tmps) = true) (ty : TypeId) (x : Operand) (ho : op.op = .load ty x) (b : Nat) (hx : a.eval x = .pointer (some ⟨b, 0, none⟩)) (F : Array Value) (d : TypeDesc)
    (hS : ∀ w, S w → ∃ t, w.heap[b]? = some (.cells F t (0, 0))) (hu : P.underlying ty = some d) (hd : d.isRow = true) (hi : (P.info? ty).map (·.size) = some F.size) : YieldsIf P ops S op (.agg F) a := by
  have h := yieldsIf_load_mid (S := S) hw ty x ho b 0 hx F.toList d (fun w h => by
    obtain ⟨t, h1⟩ := hS w h
    intro i v hv
    rw [cell_of_row w b _ _ _ (0, 0) h1]
    simpa using hv) hu hd (by simpa using hi)
  simpa using h
/-- Both boxes lie in a world. -/
def Two (w : World) (b7 b8 : Nat) (F X : Array Value) : Prop := w.heap[b7]? = some (.cells F 36 (0, 0)) ∧ w.heap[b8]? = some (.cells X 41 (0, 0)) ∧ b7 < w.heap.size ∧ b8 < w.heap.size
theorem Two.next {w w' : World} {b7 b8 : Nat} {F X : Array Value} (h : Two w b7 b8 F X) (hb : Below w.heap.size w w') : Two w' b7 b8 F X :=
  ⟨(hb.block _ h.2.2.1).trans h.1, (hb.block _ h.2.2.2).trans h.2.1, Nat.lt_of_lt_of_le h.2.2.1 hb.size, Nat.lt_of_lt_of_le h.2.2.2 hb.size⟩

set_option maxRecDepth 100000 in
set_option maxHeartbeats 1600000 in
theorem alike_long (s b : List Nat) (n m : Nat) (z : Int) (hn : n = s.length) (hm : m = b.length) (A A' : Option Addr) (c c' : Nat) (w : World) (hT : Tabs w) (hA : Rd w w.heap.size A (U8 s)) (hA' : Rd w w.heap.size A' (U8 b)) (hnil : A = none → c = 0) (hnil' : A' = none → c' = 0)
    (hs : ∀ x ∈ s, x < 256) (hb : ∀ x ∈ b, x < 256) (h5 : n ≤ 1000) (h4 : m ≤ 2000) (h : 64 < n) :
    Calls Tryd.prog 6 #[.slice A n c, .slice A' m c', .int .i64 z] w fun e w' => e = .returned (.bool true) ∧ Below w.heap.size w w' := by
  obtain ⟨i0, hi, hz0, hz1, hz2⟩ := info_parts infoU8
  obtain ⟨F, hF⟩ : ∃ F : Array Value, F = (U8 (tagN s b)).toArray := ⟨_, rfl⟩
  obtain ⟨X, hX⟩ : ∃ X : Array Value, X = (U8 (blockM s)).toArray := ⟨_, rfl⟩
  obtain ⟨FD, hFD⟩ : ∃ FD : Array Value, FD = (U8 (digestN s)).toArray := ⟨_, rfl⟩
  obtain ⟨D, hD⟩ : ∃ D, D = digestN s := ⟨_, rfl⟩
  have hFD' : FD = (U8 D).toArray := by rw [hFD, hD]
  have hDl : 32 = D.length := by rw [hD, length_dig]
  have hDb : ∀ x ∈ D, x < 256 := by rw [hD]; exact dig_lt _
  have hFX : F = (U8 (tagN D b)).toArray := by rw [hF, hD, tag_of_block (block_digest s (by omega))]
  have HFD := Lib.hid hFD
  have HFD' := Lib.hid hFD'
  have HDL := Lib.hid hDl
  have HDB := Lib.hid hDb
  have HFX := Lib.hid hFX
  have HID := Lib.hid (isArr32 hFD' hDl.symm)
  clear hFD hD hFD' hDl hDb hFX
  obtain ⟨KB, hK⟩ : ∃ KB, KB = blockM s := ⟨_, rfl⟩
  have hKl : 64 = KB.length := by rw [hK, length_blockM]
  have hKb : ∀ x ∈ KB, x < 256 := by rw [hK]; exact blockM_lt s hs
  have hXK : X = (U8 KB).toArray := by rw [hX, hK]
  have hFK : F = (U8 (tagN KB b)).toArray := by rw [hF, hK, tag_of_block (key_block s)]
  have hXX : X = (U8 (blockM KB)).toArray := by rw [hX, hK, key_block]
  have heq1 := eq_arr32 hF (length_dig _)
  have heq2 := eq_arr64 hX (length_blockM s)
  have HN := Lib.hid hn
  have HM := Lib.hid hm
  have HT := Lib.hid hT
  have HA := Lib.hid hA
  have HA' := Lib.hid hA'
  have HNIL := Lib.hid hnil
  have HNIL' := Lib.hid hnil'
  have HS := Lib.hid hs
  have HB := Lib.hid hb
  have HF := Lib.hid hF
  have HX := Lib.hid hX
  have HKL := Lib.hid hKl
  have HKB := Lib.hid hKb
  have HXK := Lib.hid hXK
  have HFK := Lib.hid hFK
  have HXX := Lib.hid hXX
  have HIF := Lib.hid (isArr32 hF (length_dig _))
  have HIX := Lib.hid (isArr64 hX (length_blockM s))
  clear hn hm hT hA hA' hnil hnil' hs hb hF hX hKl hKb hXK hFK hXX hK
  go_enter Tryd.func6, Tryd.ntmps6
  go_wp2_with fail
  refine (mactag_any s b n m HN.out HM.out A A' c c' w HT.out HA.out HA'.out HNIL.out HNIL'.out HS.out HB.out (by omega) (by omega) F HF.out).mono ?_
  rintro e w1 ⟨rfl, hb1⟩
  go_wp2_with ((with_reducible refine at_store 7 ?_); refine wpList_store_named (o := ⟨none, .store 36 (.tmp 7) (.tmp 22), _, _, _, _⟩) rfl 36 (.tmp 7) (.tmp 22) rfl w1.heap.size F rfl rfl 36 b32 (heap_alloc_new w1 _) HIF.out.1 HIF.out.2.1 HIF.out.2.2 ?_; intro w2 hw2)
  obtain ⟨hs2, hv2, hb2⟩ := row_made hw2.out
  have HV2 := Lib.hid hv2
  have HB2 := Lib.hid (hb1.trans (hb2.mono hb1.size))
  have hw12 : w1.heap.size < w2.heap.size := by omega
  clear hs2 hv2 hb2 hw2 hb1
  refine (macblock_any s n HN.out A c w2 (HT.out.next HB2.out) (HA.out.next HB2.out) HS.out HNIL.out (by omega) X HX.out).mono ?_
  rintro e w3 ⟨rfl, hb3⟩
  have HV3 := Lib.hid ((hb3.block _ hw12).trans HV2.out)
  have hs3 := hb3.size
  have HB3 := Lib.hid (HB2.out.trans (hb3.mono HB2.out.size))
  clear hb3
  go_wp2_with ((with_reducible refine at_store 8 ?_); refine wpList_store_named (o := ⟨none, .store 41 (.tmp 8) (.tmp 24), _, _, _, _⟩) rfl 41 (.tmp 8) (.tmp 24) rfl w3.heap.size X rfl rfl 41 b64 (heap_alloc_new w3 _) HIX.out.1 HIX.out.2.1 HIX.out.2.2 ?_; intro w4 hw4)
  obtain ⟨hs4, hv4, hb4⟩ := row_made hw4.out
  have HK4 : Hid (Two w4.drew w1.heap.size w3.heap.size F X) := Lib.hid ⟨(hb4.block _ (by omega)).trans HV3.out, hv4, by show _ < w4.heap.size; omega, by show _ < w4.heap.size; omega⟩
  have HB4 : Hid (Below w.heap.size w w4.drew) := Lib.hid (HB3.out.trans (hb4.mono HB3.out.size)).drew
  have HRX : Hid (Rd w4.drew w4.drew.heap.size (some ⟨w3.heap.size, 0, none⟩) (U8 KB)) := Lib.hid (rd_row (w := w4.drew) hv4 HXK.out)
  clear hs4 hv4 hb4 hw4
  refine wp_region_held_drew (S := fun w' => Two w' w1.heap.size w3.heap.size F X) (by kernel_rfl) HK4.out (fun hHeld => ?_)
  refine wpAnyH_take (i := 0) (oi := ⟨some 25, _, _, _, _, _⟩) (v := ?_) rfl (by kernel_rfl) (by kernel_rfl) (by kernel_rfl) (fun _ _ _ h => h) (Or.inl ⟨by rfl, ?_⟩) hHeld ?_
  rotate_left
  · intro w hSw
    go_simp
    first | done | with_reducible rfl
  try simp only [Act.put, List.setIfInBounds_toArray, List.set_cons_zero, List.set_cons_succ]
  refine wpAnyH_take (i := 1) (oi := ⟨some 26, _, _, _, _, _⟩) (v := ?_) rfl (by kernel_rfl) (by kernel_rfl) (by kernel_rfl) (fun _ _ _ h => h) (Or.inl ⟨by rfl, ?_⟩) hHeld ?_
  rotate_left
  · intro w hSw
    go_simp
    first | done | with_reducible rfl
  try simp only [Act.put, List.setIfInBounds_toArray, List.set_cons_zero, List.set_cons_succ]
  refine wpAnyH_take (i := 3) (oi := ⟨some 28, .load 36 (.tmp 7), _, _, _, _⟩) rfl (by kernel_rfl) (by kernel_rfl) (by kernel_rfl) (fun _ _ _ h => h) (yields_row (by rfl) 36 (.tmp 7) rfl w1.heap.size rfl F _ (fun w' hS => ⟨_, hS.1⟩) Tryd.underlying36 rfl HIF.out.1) hHeld ?_
  try simp only [Act.put, List.setIfInBounds_toArray, List.set_cons_zero, List.set_cons_succ]
  refine wpAnyH_ready (rs := [2]) (by kernel_rfl) (by simp) ?_
  refine AllReadyH.cons (o := ⟨some 27, .call _, _, _, _, _⟩) rfl (fun K hK => ?_) AllReadyH.nil
  go_simp
  go_at_call 18
  refine (mactag_any KB b 64 m HKL.out HM.out (some ⟨w3.heap.size, 0, none⟩) A' 64 c' w4.drew (HT.out.next HB4.out) HRX.out (HA'.out.next HB4.out) (fun h => by cases h) HNIL'.out HKB.out HB.out (by omega) (by omega) F HFK.out).mono ?_
  rintro e w5 ⟨rfl, hb5⟩
  go_wp2_with fail
  have HK5 := Lib.hid (HK4.out.next hb5)
  have HB5 := Lib.hid (HB4.out.trans (hb5.mono HB4.out.size))
  have HRX5 := Lib.hid (HRX.out.next hb5)
  clear hb5
  refine hK.out _ _ HK5.out (fun hHeld => ?_)
  clear hK K
  try simp only [Act.put, List.setIfInBounds_toArray, List.set_cons_zero, List.set_cons_succ]
  refine wpAnyH_take (i := 4) (oi := ⟨some 29, _, _, _, _, _⟩) (v := ?_) rfl (by kernel_rfl) (by kernel_rfl) (by kernel_rfl) (fun _ _ _ h => h) (Or.inl ⟨by rfl, ?_⟩) hHeld ?_
  rotate_left
  · intro w hSw
    go_simp
    first | done | with_reducible rfl
  try simp only [Act.put, List.setIfInBounds_toArray, List.set_cons_zero, List.set_cons_succ]
  refine wpAnyH_take (i := 5) (oi := ⟨some 30, _, _, _, _, _⟩) (v := ?_) rfl (by kernel_rfl) (by kernel_rfl) (by kernel_rfl) (fun _ _ _ h => h) (Or.inl ⟨by rfl, ?_⟩) hHeld ?_
  rotate_left
  · intro w hSw
    go_simp
    first | done | with_reducible rfl
  try simp only [Act.put, List.setIfInBounds_toArray, List.set_cons_zero, List.set_cons_succ]
  refine wpAnyH_take (i := 6) (oi := ⟨some 31, _, _, _, _, _⟩) (v := ?_) rfl (by kernel_rfl) (by kernel_rfl) (by kernel_rfl) (fun _ _ _ h => h) (Or.inl ⟨by rfl, ?_⟩) hHeld ?_
  rotate_left
  · intro w hSw
    go_simp
    first | done | with_reducible rfl
  try simp only [Act.put, List.setIfInBounds_toArray, List.set_cons_zero, List.set_cons_succ]
  refine wpAnyH_take (i := 8) (oi := ⟨some 33, .load 41 (.tmp 8), _, _, _, _⟩) rfl (by kernel_rfl) (by kernel_rfl) (by kernel_rfl) (fun _ _ _ h => h) (yields_row (by rfl) 41 (.tmp 8) rfl w3.heap.size rfl X _ (fun w' hS => ⟨_, hS.2.1⟩) Tryd.underlying41 rfl HIX.out.1) hHeld ?_
  try simp only [Act.put, List.setIfInBounds_toArray, List.set_cons_zero, List.set_cons_succ]
  refine wpAnyH_ready (rs := [7]) (by kernel_rfl) (by simp) ?_
  refine AllReadyH.cons (o := ⟨some 32, .call _, _, _, _, _⟩) rfl (fun K hK => ?_) AllReadyH.nil
  go_simp
  go_at_call 20
  refine (macblock_any KB 64 HKL.out (some ⟨w3.heap.size, 0, none⟩) 64 w5 (HT.out.next HB5.out) HRX5.out HKB.out (fun h => by cases h) (by omega) X HXX.out).mono ?_
  rintro e w6 ⟨rfl, hb6⟩
  go_wp2_with fail
  have HK6 := Lib.hid (HK5.out.next hb6)
  have HB6 := Lib.hid (HB5.out.trans (hb6.mono HB5.out.size))
  clear hb6
  refine hK.out _ _ HK6.out (fun hHeld => ?_)
  clear hK K
  try simp only [Act.put, List.setIfInBounds_toArray, List.set_cons_zero, List.set_cons_succ]
  refine wpAnyH_take (i := 9) (oi := ⟨some 34, _, _, _, _, _⟩) (v := ?_) rfl (by kernel_rfl) (by kernel_rfl) (by kernel_rfl) (fun _ _ _ h => h) (Or.inl ⟨by rfl, ?_⟩) hHeld ?_
  rotate_left
  · intro w hSw
    go_simp
    first | done | with_reducible rfl
  try simp only [Act.put, List.setIfInBounds_toArray, List.set_cons_zero, List.set_cons_succ]
  refine wpAnyH_take (i := 10) (oi := ⟨some 35, _, _, _, _, _⟩) (v := ?_) rfl (by kernel_rfl) (by kernel_rfl) (by kernel_rfl) (fun _ _ _ h => h) (Or.inl ⟨by rfl, ?_⟩) hHeld ?_
  rotate_left
  · intro w hSw
    go_simp
    first | done | with_reducible rfl
  try simp only [Act.put, List.setIfInBounds_toArray, List.set_cons_zero, List.set_cons_succ]
  refine wpAnyH_done (by kernel_rfl) ?_ _
  go_wp2_with fail
  refine (sum_arr s FD HFD n HN.out A c w6 (HT.out.next HB6.out) (HA.out.next HB6.out) HNIL.out HS.out (by omega)).mono ?_
  rintro e w7 ⟨rfl, hb7⟩
  have HK7 := Lib.hid (HK6.out.next hb7)
  have HB7 := Lib.hid (HB6.out.trans (hb7.mono HB6.out.size))
  clear hb7
  go_wp2_with ((with_reducible refine at_store 9 ?_); refine wpList_store_named (o := ⟨none, .store 36 (.tmp 9) (.tmp 40), _, _, _, _⟩) rfl 36 (.tmp 9) (.tmp 40) rfl w7.heap.size FD rfl rfl 36 b32 (heap_alloc_new w7 _) HID.out.1 HID.out.2.1 HID.out.2.2 ?_; intro w8 hw8)
  obtain ⟨hs8, hv8, hb8⟩ := row_made hw8.out
  have HK8 : Hid (Two w8.drew w1.heap.size w3.heap.size F X) := Lib.hid (HK7.out.next hb8.drew)
  have HB8 : Hid (Below w.heap.size w w8.drew) := Lib.hid (HB7.out.trans (hb8.mono HB7.out.size)).drew
  have HRD : Hid (Rd w8.drew w8.drew.heap.size (some ⟨w7.heap.size, 0, none⟩) (U8 D)) := Lib.hid (rd_row (w := w8.drew) hv8 HFD'.out)
  clear hs8 hv8 hb8 hw8
  refine wp_region_held_drew (S := fun w' => Two w' w1.heap.size w3.heap.size F X) (by kernel_rfl) HK8.out (fun hHeld => ?_)
  refine wpAnyH_ready (rs := [0]) (by kernel_rfl) (by simp) ?_
  refine AllReadyH.cons (o := ⟨some 41, .call _, _, _, _, _⟩) rfl (fun K hK => ?_) AllReadyH.nil
  go_simp
  go_at_call 17
  refine (tagged_any w8.drew (HT.out.next HB8.out)).mono ?_
  rintro e w9 ⟨rfl, hb9⟩
  go_wp2_with fail
  have HK9 := Lib.hid (HK8.out.next hb9)
  have HB9 := Lib.hid (HB8.out.trans (hb9.mono HB8.out.size))
  have HRD9 := Lib.hid (HRD.out.next hb9)
  clear hb9
  refine hK.out _ _ HK9.out (fun hHeld => ?_)
  clear hK K
  try simp only [Act.put, List.setIfInBounds_toArray, List.set_cons_zero, List.set_cons_succ]
  refine wpAnyH_take (i := 1) (oi := ⟨some 42, _, _, _, _, _⟩) (v := ?_) rfl (by kernel_rfl) (by kernel_rfl) (by kernel_rfl) (fun _ _ _ h => h) (Or.inl ⟨by rfl, ?_⟩) hHeld ?_
  rotate_left
  · intro w hSw
    go_simp
    first | done | with_reducible rfl
  try simp only [Act.put, List.setIfInBounds_toArray, List.set_cons_zero, List.set_cons_succ]
  refine wpAnyH_take (i := 2) (oi := ⟨some 43, _, _, _, _, _⟩) (v := ?_) rfl (by kernel_rfl) (by kernel_rfl) (by kernel_rfl) (fun _ _ _ h => h) (Or.inl ⟨by rfl, ?_⟩) hHeld ?_
  rotate_left
  · intro w hSw
    go_simp
    first | done | with_reducible rfl
  try simp only [Act.put, List.setIfInBounds_toArray, List.set_cons_zero, List.set_cons_succ]
  refine wpAnyH_take (i := 3) (oi := ⟨some 44, _, _, _, _, _⟩) (v := ?_) rfl (by kernel_rfl) (by kernel_rfl) (by kernel_rfl) (fun _ _ _ h => h) (Or.inl ⟨by rfl, ?_⟩) hHeld ?_
  rotate_left
  · intro w hSw
    go_simp
    first | done | with_reducible rfl
  try simp only [Act.put, List.setIfInBounds_toArray, List.set_cons_zero, List.set_cons_succ]
  refine wpAnyH_take (i := 5) (oi := ⟨some 46, .load 36 (.tmp 7), _, _, _, _⟩) rfl (by kernel_rfl) (by kernel_rfl) (by kernel_rfl) (fun _ _ _ h => h) (yields_row (by rfl) 36 (.tmp 7) rfl w1.heap.size rfl F _ (fun w' hS => ⟨_, hS.1⟩) Tryd.underlying36 rfl HIF.out.1) hHeld ?_
  try simp only [Act.put, List.setIfInBounds_toArray, List.set_cons_zero, List.set_cons_succ]
  refine wpAnyH_ready (rs := [4]) (by kernel_rfl) (by simp) ?_
  refine AllReadyH.cons (o := ⟨some 45, .call _, _, _, _, _⟩) rfl (fun K hK => ?_) AllReadyH.nil
  go_simp
  go_at_call 18
  refine (mactag_any D b 32 m HDL.out HM.out (some ⟨w7.heap.size, 0, none⟩) A' 32 c' w9 (HT.out.next HB9.out) HRD9.out (HA'.out.next HB9.out) (fun h => by cases h) HNIL'.out HDB.out HB.out (by omega) (by omega) F HFX.out).mono ?_
  rintro e w10 ⟨rfl, hb10⟩
  go_wp2_with fail
  have HK10 := Lib.hid (HK9.out.next hb10)
  have HB10 := Lib.hid (HB9.out.trans (hb10.mono HB9.out.size))
  clear hb10
  refine hK.out _ _ HK10.out (fun hHeld => ?_)
  clear hK K
  try simp only [Act.put, List.setIfInBounds_toArray, List.set_cons_zero, List.set_cons_succ]
  refine wpAnyH_take (i := 6) (oi := ⟨some 47, _, _, _, _, _⟩) (v := ?_) rfl (by kernel_rfl) (by kernel_rfl) (by kernel_rfl) (fun _ _ _ h => h) (Or.inl ⟨by rfl, ?_⟩) hHeld ?_
  rotate_left
  · intro w hSw
    go_simp
    first | done | with_reducible rfl
  try simp only [Act.put, List.setIfInBounds_toArray, List.set_cons_zero, List.set_cons_succ]
  refine wpAnyH_take (i := 7) (oi := ⟨some 48, _, _, _, _, _⟩) (v := ?_) rfl (by kernel_rfl) (by kernel_rfl) (by kernel_rfl) (fun _ _ _ h => h) (Or.inl ⟨by rfl, ?_⟩) hHeld ?_
  rotate_left
  · intro w hSw
    go_simp
    first | done | with_reducible rfl
  try simp only [Act.put, List.setIfInBounds_toArray, List.set_cons_zero, List.set_cons_succ]
  refine wpAnyH_take (i := 8) (oi := ⟨some 6, _, _, _, _, _⟩) (v := ?_) rfl (by kernel_rfl) (by kernel_rfl) (by kernel_rfl) (fun _ _ _ h => h) (Or.inl ⟨by rfl, ?_⟩) hHeld ?_
  rotate_left
  · intro w hSw
    go_simp
    first | done | with_reducible rfl
  try simp only [Act.put, List.setIfInBounds_toArray, List.set_cons_zero, List.set_cons_succ]
  refine wpAnyH_done (by kernel_rfl) ?_ _
  go_wp2
  go_ret
  exact ⟨rfl, HB10.out⟩

set_option maxRecDepth 100000 in
set_option maxHeartbeats 1600000 in
theorem alike_short (s b : List Nat) (n m : Nat) (z : Int) (hn : n = s.length) (hm : m = b.length) (A A' : Option Addr) (c c' : Nat) (w : World) (hT : Tabs w) (hA : Rd w w.heap.size A (U8 s)) (hA' : Rd w w.heap.size A' (U8 b)) (hnil : A = none → c = 0) (hnil' : A' = none → c' = 0)
    (hs : ∀ x ∈ s, x < 256) (hb : ∀ x ∈ b, x < 256) (h5 : n ≤ 1000) (h4 : m ≤ 2000) (hz63 : -9223372036854775808 ≤ z ∧ z ≤ 9223372036854775807) (h : n ≤ 64) :
    Calls Tryd.prog 6 #[.slice A n c, .slice A' m c', .int .i64 z] w fun e w' => e = .returned (.bool true) ∧ Below w.heap.size w w' := by
  obtain ⟨i0, hi, hz0, hz1, hz2⟩ := info_parts infoU8
  obtain ⟨F, hF⟩ : ∃ F : Array Value, F = (U8 (tagN s b)).toArray := ⟨_, rfl⟩
  obtain ⟨X, hX⟩ : ∃ X : Array Value, X = (U8 (blockM s)).toArray := ⟨_, rfl⟩
  obtain ⟨KB, hK⟩ : ∃ KB, KB = blockM s := ⟨_, rfl⟩
  have hKl : 64 = KB.length := by rw [hK, length_blockM]
  have hKb : ∀ x ∈ KB, x < 256 := by rw [hK]; exact blockM_lt s hs
  have hXK : X = (U8 KB).toArray := by rw [hX, hK]
  have hFK : F = (U8 (tagN KB b)).toArray := by rw [hF, hK, tag_of_block (key_block s)]
  have hXX : X = (U8 (blockM KB)).toArray := by rw [hX, hK, key_block]
  have heq1 := eq_arr32 hF (length_dig _)
  have heq2 := eq_arr64 hX (length_blockM s)
  have HN := Lib.hid hn
  have HM := Lib.hid hm
  have HT := Lib.hid hT
  have HA := Lib.hid hA
  have HA' := Lib.hid hA'
  have HNIL := Lib.hid hnil
  have HNIL' := Lib.hid hnil'
  have HS := Lib.hid hs
  have HB := Lib.hid hb
  have HF := Lib.hid hF
  have HX := Lib.hid hX
  have HKL := Lib.hid hKl
  have HKB := Lib.hid hKb
  have HXK := Lib.hid hXK
  have HFK := Lib.hid hFK
  have HXX := Lib.hid hXX
  have HIF := Lib.hid (isArr32 hF (length_dig _))
  have HIX := Lib.hid (isArr64 hX (length_blockM s))
  clear hn hm hT hA hA' hnil hnil' hs hb hF hX hKl hKb hXK hFK hXX hK
  go_enter Tryd.func6, Tryd.ntmps6
  go_wp2_with fail
  refine (mactag_any s b n m HN.out HM.out A A' c c' w HT.out HA.out HA'.out HNIL.out HNIL'.out HS.out HB.out (by omega) (by omega) F HF.out).mono ?_
  rintro e w1 ⟨rfl, hb1⟩
  go_wp2_with ((with_reducible refine at_store 7 ?_); refine wpList_store_named (o := ⟨none, .store 36 (.tmp 7) (.tmp 22), _, _, _, _⟩) rfl 36 (.tmp 7) (.tmp 22) rfl w1.heap.size F rfl rfl 36 b32 (heap_alloc_new w1 _) HIF.out.1 HIF.out.2.1 HIF.out.2.2 ?_; intro w2 hw2)
  obtain ⟨hs2, hv2, hb2⟩ := row_made hw2.out
  have HV2 := Lib.hid hv2
  have HB2 := Lib.hid (hb1.trans (hb2.mono hb1.size))
  have hw12 : w1.heap.size < w2.heap.size := by omega
  clear hs2 hv2 hb2 hw2 hb1
  refine (macblock_any s n HN.out A c w2 (HT.out.next HB2.out) (HA.out.next HB2.out) HS.out HNIL.out (by omega) X HX.out).mono ?_
  rintro e w3 ⟨rfl, hb3⟩
  have HV3 := Lib.hid ((hb3.block _ hw12).trans HV2.out)
  have hs3 := hb3.size
  have HB3 := Lib.hid (HB2.out.trans (hb3.mono HB2.out.size))
  clear hb3
  go_wp2_with ((with_reducible refine at_store 8 ?_); refine wpList_store_named (o := ⟨none, .store 41 (.tmp 8) (.tmp 24), _, _, _, _⟩) rfl 41 (.tmp 8) (.tmp 24) rfl w3.heap.size X rfl rfl 41 b64 (heap_alloc_new w3 _) HIX.out.1 HIX.out.2.1 HIX.out.2.2 ?_; intro w4 hw4)
  obtain ⟨hs4, hv4, hb4⟩ := row_made hw4.out
  have HK4 : Hid (Two w4.drew w1.heap.size w3.heap.size F X) := Lib.hid ⟨(hb4.block _ (by omega)).trans HV3.out, hv4, by show _ < w4.heap.size; omega, by show _ < w4.heap.size; omega⟩
  have HB4 : Hid (Below w.heap.size w w4.drew) := Lib.hid (HB3.out.trans (hb4.mono HB3.out.size)).drew
  have HRX : Hid (Rd w4.drew w4.drew.heap.size (some ⟨w3.heap.size, 0, none⟩) (U8 KB)) := Lib.hid (rd_row (w := w4.drew) hv4 HXK.out)
  clear hs4 hv4 hb4 hw4
  refine wp_region_held_drew (S := fun w' => Two w' w1.heap.size w3.heap.size F X) (by kernel_rfl) HK4.out (fun hHeld => ?_)
  refine wpAnyH_take (i := 0) (oi := ⟨some 25, _, _, _, _, _⟩) (v := ?_) rfl (by kernel_rfl) (by kernel_rfl) (by kernel_rfl) (fun _ _ _ h => h) (Or.inl ⟨by rfl, ?_⟩) hHeld ?_
  rotate_left
  · intro w hSw
    go_simp
    first | done | with_reducible rfl
  try simp only [Act.put, List.setIfInBounds_toArray, List.set_cons_zero, List.set_cons_succ]
  refine wpAnyH_take (i := 1) (oi := ⟨some 26, _, _, _, _, _⟩) (v := ?_) rfl (by kernel_rfl) (by kernel_rfl) (by kernel_rfl) (fun _ _ _ h => h) (Or.inl ⟨by rfl, ?_⟩) hHeld ?_
  rotate_left
  · intro w hSw
    go_simp
    first | done | with_reducible rfl
  try simp only [Act.put, List.setIfInBounds_toArray, List.set_cons_zero, List.set_cons_succ]
  refine wpAnyH_take (i := 3) (oi := ⟨some 28, .load 36 (.tmp 7), _, _, _, _⟩) rfl (by kernel_rfl) (by kernel_rfl) (by kernel_rfl) (fun _ _ _ h => h) (yields_row (by rfl) 36 (.tmp 7) rfl w1.heap.size rfl F _ (fun w' hS => ⟨_, hS.1⟩) Tryd.underlying36 rfl HIF.out.1) hHeld ?_
  try simp only [Act.put, List.setIfInBounds_toArray, List.set_cons_zero, List.set_cons_succ]
  refine wpAnyH_ready (rs := [2]) (by kernel_rfl) (by simp) ?_
  refine AllReadyH.cons (o := ⟨some 27, .call _, _, _, _, _⟩) rfl (fun K hK => ?_) AllReadyH.nil
  go_simp
  go_at_call 18
  refine (mactag_any KB b 64 m HKL.out HM.out (some ⟨w3.heap.size, 0, none⟩) A' 64 c' w4.drew (HT.out.next HB4.out) HRX.out (HA'.out.next HB4.out) (fun h => by cases h) HNIL'.out HKB.out HB.out (by omega) (by omega) F HFK.out).mono ?_
  rintro e w5 ⟨rfl, hb5⟩
  go_wp2_with fail
  have HK5 := Lib.hid (HK4.out.next hb5)
  have HB5 := Lib.hid (HB4.out.trans (hb5.mono HB4.out.size))
  have HRX5 := Lib.hid (HRX.out.next hb5)
  clear hb5
  refine hK.out _ _ HK5.out (fun hHeld => ?_)
  clear hK K
  try simp only [Act.put, List.setIfInBounds_toArray, List.set_cons_zero, List.set_cons_succ]
  refine wpAnyH_take (i := 4) (oi := ⟨some 29, _, _, _, _, _⟩) (v := ?_) rfl (by kernel_rfl) (by kernel_rfl) (by kernel_rfl) (fun _ _ _ h => h) (Or.inl ⟨by rfl, ?_⟩) hHeld ?_
  rotate_left
  · intro w hSw
    go_simp
    first | done | with_reducible rfl
  try simp only [Act.put, List.setIfInBounds_toArray, List.set_cons_zero, List.set_cons_succ]
  refine wpAnyH_take (i := 5) (oi := ⟨some 30, _, _, _, _, _⟩) (v := ?_) rfl (by kernel_rfl) (by kernel_rfl) (by kernel_rfl) (fun _ _ _ h => h) (Or.inl ⟨by rfl, ?_⟩) hHeld ?_
  rotate_left
  · intro w hSw
    go_simp
    first | done | with_reducible rfl
  try simp only [Act.put, List.setIfInBounds_toArray, List.set_cons_zero, List.set_cons_succ]
  refine wpAnyH_take (i := 6) (oi := ⟨some 31, _, _, _, _, _⟩) (v := ?_) rfl (by kernel_rfl) (by kernel_rfl) (by kernel_rfl) (fun _ _ _ h => h) (Or.inl ⟨by rfl, ?_⟩) hHeld ?_
  rotate_left
  · intro w hSw
    go_simp
    first | done | with_reducible rfl
  try simp only [Act.put, List.setIfInBounds_toArray, List.set_cons_zero, List.set_cons_succ]
  refine wpAnyH_take (i := 8) (oi := ⟨some 33, .load 41 (.tmp 8), _, _, _, _⟩) rfl (by kernel_rfl) (by kernel_rfl) (by kernel_rfl) (fun _ _ _ h => h) (yields_row (by rfl) 41 (.tmp 8) rfl w3.heap.size rfl X _ (fun w' hS => ⟨_, hS.2.1⟩) Tryd.underlying41 rfl HIX.out.1) hHeld ?_
  try simp only [Act.put, List.setIfInBounds_toArray, List.set_cons_zero, List.set_cons_succ]
  refine wpAnyH_ready (rs := [7]) (by kernel_rfl) (by simp) ?_
  refine AllReadyH.cons (o := ⟨some 32, .call _, _, _, _, _⟩) rfl (fun K hK => ?_) AllReadyH.nil
  go_simp
  go_at_call 20
  refine (macblock_any KB 64 HKL.out (some ⟨w3.heap.size, 0, none⟩) 64 w5 (HT.out.next HB5.out) HRX5.out HKB.out (fun h => by cases h) (by omega) X HXX.out).mono ?_
  rintro e w6 ⟨rfl, hb6⟩
  go_wp2_with fail
  have HK6 := Lib.hid (HK5.out.next hb6)
  have HB6 := Lib.hid (HB5.out.trans (hb6.mono HB5.out.size))
  clear hb6
  refine hK.out _ _ HK6.out (fun hHeld => ?_)
  clear hK K
  try simp only [Act.put, List.setIfInBounds_toArray, List.set_cons_zero, List.set_cons_succ]
  refine wpAnyH_take (i := 9) (oi := ⟨some 34, _, _, _, _, _⟩) (v := ?_) rfl (by kernel_rfl) (by kernel_rfl) (by kernel_rfl) (fun _ _ _ h => h) (Or.inl ⟨by rfl, ?_⟩) hHeld ?_
  rotate_left
  · intro w hSw
    go_simp
    first | done | with_reducible rfl
  try simp only [Act.put, List.setIfInBounds_toArray, List.set_cons_zero, List.set_cons_succ]
  refine wpAnyH_take (i := 10) (oi := ⟨some 35, _, _, _, _, _⟩) (v := ?_) rfl (by kernel_rfl) (by kernel_rfl) (by kernel_rfl) (fun _ _ _ h => h) (Or.inl ⟨by rfl, ?_⟩) hHeld ?_
  rotate_left
  · intro w hSw
    go_simp
    first | done | with_reducible rfl
  try simp only [Act.put, List.setIfInBounds_toArray, List.set_cons_zero, List.set_cons_succ]
  refine wpAnyH_done (by kernel_rfl) ?_ _
  have hbase : w6.heap.size ≤ (w6.alloc (.cells #[] 5)).heap.size := by simp
  have HE := Lib.hid (own_empty (w := w6.alloc (.cells #[] 5)) (heap_alloc_new w6 _) (Nat.le_refl w6.heap.size))
  have HAE := Lib.hid ((HA.out.next HB6.out).next (below_lit w6 #[] 5))
  have HUL := Lib.hid ((U8_length s).trans HN.out.symm)
  have hn0 : 0 + n ≤ maxLen := by unfold maxLen; omega
  have hn1 : (0 + n) * 1 ≤ 140737488355328 := by omega
  go_wp2_with (at_builtin; refine wpList_append_rd _ rfl (.tmp 50) (.tmp 51) 28 rfl w6.heap.size 5 i0 (.int .u8 0) 1 Tryd.underlying28 hi hz0 hz1 hz2 rfl (.slice (some ⟨w6.heap.size, 0, none⟩) 0 0) 0 [] rfl HE.out (w6.alloc (.cells #[] 5)).heap.size A n c (U8 s) rfl HAE.out HUL.out HNIL.out (U8_one s) hn0 hn1 hbase ?_; intro v7 w7 hown7 hg7; have HO7 := Lib.hid hown7; have HB7 := Lib.hid ((below_lit w6 #[] 5).grown hg7 hbase (grow_ok (Nat.le_refl _))); clear hown7 hg7)
  have ho7 := HO7.out
  rw [Nat.zero_add, List.nil_append] at ho7
  have HO7' := Lib.hid ho7
  clear ho7 hbase hn0 hn1
  go_loopw [10, 11] (fun v i wr => ∃ k : Nat, n + k ≤ 64 ∧ i = .int .i64 k ∧ Hid (wr.ownsRow w6.heap.size 5 1 v (n + k) (U8 (s ++ List.replicate k 0))) ∧ Below w6.heap.size w6 wr) (fun _ i _ => 64 - (intOf i).toNat)
  case atStart => exact ⟨0, by omega, rfl, by rw [List.replicate_zero, List.append_nil]; exact HO7', HB7.out⟩
  case round =>
    obtain ⟨k, hk, rfl, HOW, hbel⟩ := hrel
    obtain ⟨Av, cv, rfl, hrd, hnilv⟩ := own_rd HOW.out
    have HRV := Lib.hid hrd
    have HNV := Lib.hid hnilv
    clear hrd hnilv
    have hbs := hbel.size
    by_cases hc : (k : Int) < z ∧ n + k < 64
    · obtain ⟨hc1, hc2⟩ := hc
      have hm1 : n + k + 1 ≤ maxLen := by unfold maxLen; omega
      have hm2 : (n + k + 1) * 1 ≤ 140737488355328 := by omega
      have hz1' : U8 (s ++ List.replicate (k + 1) 0) = U8 (s ++ List.replicate k 0) ++ [.int .u8 0] := by
        rw [List.replicate_succ', ← List.append_assoc, U8_append]; rfl
      have HZ := Lib.hid hz1'
      clear hz1'
      go_wp2_with (at_builtin; refine wpList_append_own _ rfl (.tmp 63) (.tmp 64) 28 rfl w6.heap.size 5 i0 (.int .u8 0) 1 1 Tryd.underlying28 hi hz0 hz1 hz2 rfl Nat.one_pos (.slice Av (n + k) cv) (n + k) (U8 (s ++ List.replicate k 0)) rfl (HOW.out.alloc _) ⟨wr.heap.size, 0, none⟩ 1 1 [.int .u8 0] rfl rfl (one_cell wr _ _) (one_u8 0) hm1 hm2 (le_alloc hbs _) ?_; intro v8 w8 hown8 hg8 hv8; have HO8 := Lib.hid hown8; have HB8 := Lib.hid ((hbel.alloc hbs _).grown hg8 (le_alloc hbs _) (fun q hq => own_ge HOW.out hq)); clear hown8 hg8 hv8)
      go_roundw
      case rel => exact ⟨k + 1, by omega, by go_num, Lib.hid (by rw [HZ.out]; exact HO8.out), HB8.out⟩
      case measure => simp [intOf]; omega
    · have hlz : n + k = (s ++ List.replicate k 0).length := by rw [List.length_append, List.length_replicate, ← HN.out]
      have hsz : ∀ x ∈ s ++ List.replicate k 0, x < 256 := all_lt HS.out (fun x hx => by have := (List.mem_replicate.1 hx).2; omega)
      have hfz : F = (U8 (tagN (s ++ List.replicate k 0) b)).toArray := by rw [HF.out, tag_of_block (block_zeros s k (by rw [← HN.out]; exact hk))]
      have HLZ := Lib.hid hlz
      have HSZ := Lib.hid hsz
      have HFZ := Lib.hid hfz
      have HKr : Hid (Two wr.drew w1.heap.size w3.heap.size F X) := Lib.hid (HK6.out.next hbel.drew)
      have HBr : Hid (Below w.heap.size w wr.drew) := Lib.hid (HB6.out.trans (hbel.mono HB6.out.size)).drew
      clear hlz hsz hfz hbel
      by_cases hc1 : (k : Int) < z
      · have hc2 : 64 ≤ n + k := by omega
        clear hc
        go_wp2_with fail
        refine wp_region_held_drew (S := fun w' => Two w' w1.heap.size w3.heap.size F X) (by kernel_rfl) HKr.out (fun hHeld => ?_)
        refine wpAnyH_ready (rs := [0]) (by kernel_rfl) (by simp) ?_
        refine AllReadyH.cons (o := ⟨some 66, .call _, _, _, _, _⟩) rfl (fun K hK => ?_) AllReadyH.nil
        go_simp
        go_at_call 17
        refine (tagged_any wr.drew (HT.out.next HBr.out)).mono ?_
        rintro e w9 ⟨rfl, hb9⟩
        go_wp2_with fail
        have HK9 := Lib.hid (HKr.out.next hb9)
        have HB9 := Lib.hid (HBr.out.trans (hb9.mono HBr.out.size))
        have HRD9 := Lib.hid (HRV.out.next (below_drewN (Below.refl _ _) 1 |>.trans hb9))
        clear hb9
        refine hK.out _ _ HK9.out (fun hHeld => ?_)
        clear hK K
        try simp only [Act.put, List.setIfInBounds_toArray, List.set_cons_zero, List.set_cons_succ]
        refine wpAnyH_take (i := 1) (oi := ⟨some 67, _, _, _, _, _⟩) (v := ?_) rfl (by kernel_rfl) (by kernel_rfl) (by kernel_rfl) (fun _ _ _ h => h) (Or.inl ⟨by rfl, ?_⟩) hHeld ?_
        rotate_left
        · intro w hSw
          go_simp
          first | done | with_reducible rfl
        try simp only [Act.put, List.setIfInBounds_toArray, List.set_cons_zero, List.set_cons_succ]
        refine wpAnyH_take (i := 2) (oi := ⟨some 68, _, _, _, _, _⟩) (v := ?_) rfl (by kernel_rfl) (by kernel_rfl) (by kernel_rfl) (fun _ _ _ h => h) (Or.inl ⟨by rfl, ?_⟩) hHeld ?_
        rotate_left
        · intro w hSw
          go_simp
          first | done | with_reducible rfl
        try simp only [Act.put, List.setIfInBounds_toArray, List.set_cons_zero, List.set_cons_succ]
        refine wpAnyH_take (i := 3) (oi := ⟨some 69, _, _, _, _, _⟩) (v := ?_) rfl (by kernel_rfl) (by kernel_rfl) (by kernel_rfl) (fun _ _ _ h => h) (Or.inl ⟨by rfl, ?_⟩) hHeld ?_
        rotate_left
        · intro w hSw
          go_simp
          first | done | with_reducible rfl
        try simp only [Act.put, List.setIfInBounds_toArray, List.set_cons_zero, List.set_cons_succ]
        refine wpAnyH_take (i := 5) (oi := ⟨some 71, .load 36 (.tmp 7), _, _, _, _⟩) rfl (by kernel_rfl) (by kernel_rfl) (by kernel_rfl) (fun _ _ _ h => h) (yields_row (by rfl) 36 (.tmp 7) rfl w1.heap.size rfl F _ (fun w' hS => ⟨_, hS.1⟩) Tryd.underlying36 rfl HIF.out.1) hHeld ?_
        try simp only [Act.put, List.setIfInBounds_toArray, List.set_cons_zero, List.set_cons_succ]
        refine wpAnyH_ready (rs := [4]) (by kernel_rfl) (by simp) ?_
        refine AllReadyH.cons (o := ⟨some 70, .call _, _, _, _, _⟩) rfl (fun K hK => ?_) AllReadyH.nil
        go_simp
        go_at_call 18
        refine (mactag_any (s ++ List.replicate k 0) b (n + k) m HLZ.out HM.out Av A' cv c' w9 (HT.out.next HB9.out) HRD9.out (HA'.out.next HB9.out) HNV.out HNIL'.out HSZ.out HB.out (by omega) (by omega) F HFZ.out).mono ?_
        rintro e w10 ⟨rfl, hb10⟩
        go_wp2_with fail
        have HK10 := Lib.hid (HK9.out.next hb10)
        have HB10 := Lib.hid (HB9.out.trans (hb10.mono HB9.out.size))
        clear hb10
        refine hK.out _ _ HK10.out (fun hHeld => ?_)
        clear hK K
        try simp only [Act.put, List.setIfInBounds_toArray, List.set_cons_zero, List.set_cons_succ]
        refine wpAnyH_take (i := 6) (oi := ⟨some 72, _, _, _, _, _⟩) (v := ?_) rfl (by kernel_rfl) (by kernel_rfl) (by kernel_rfl) (fun _ _ _ h => h) (Or.inl ⟨by rfl, ?_⟩) hHeld ?_
        rotate_left
        · intro w hSw
          go_simp
          first | done | with_reducible rfl
        try simp only [Act.put, List.setIfInBounds_toArray, List.set_cons_zero, List.set_cons_succ]
        refine wpAnyH_take (i := 7) (oi := ⟨some 73, _, _, _, _, _⟩) (v := ?_) rfl (by kernel_rfl) (by kernel_rfl) (by kernel_rfl) (fun _ _ _ h => h) (Or.inl ⟨by rfl, ?_⟩) hHeld ?_
        rotate_left
        · intro w hSw
          go_simp
          first | done | with_reducible rfl
        try simp only [Act.put, List.setIfInBounds_toArray, List.set_cons_zero, List.set_cons_succ]
        refine wpAnyH_take (i := 8) (oi := ⟨some 6, _, _, _, _, _⟩) (v := ?_) rfl (by kernel_rfl) (by kernel_rfl) (by kernel_rfl) (fun _ _ _ h => h) (Or.inl ⟨by rfl, ?_⟩) hHeld ?_
        rotate_left
        · intro w hSw
          go_simp
          first | done | with_reducible rfl
        try simp only [Act.put, List.setIfInBounds_toArray, List.set_cons_zero, List.set_cons_succ]
        refine wpAnyH_done (by kernel_rfl) ?_ _
        go_wp2
        go_ret
        exact ⟨rfl, HB10.out⟩
      · have hc2 : z ≤ (k : Int) := by omega
        have g1 : decide ((k : Int) < z) = false := by simpa using hc1
        clear hc hc1
        go_wp2_with fail
        refine wp_region_held_drew (S := fun w' => Two w' w1.heap.size w3.heap.size F X) (by kernel_rfl) HKr.out (fun hHeld => ?_)
        refine wpAnyH_ready (rs := [0]) (by kernel_rfl) (by simp) ?_
        refine AllReadyH.cons (o := ⟨some 66, .call _, _, _, _, _⟩) rfl (fun K hK => ?_) AllReadyH.nil
        go_simp
        go_at_call 17
        refine (tagged_any wr.drew (HT.out.next HBr.out)).mono ?_
        rintro e w9 ⟨rfl, hb9⟩
        go_wp2_with fail
        have HK9 := Lib.hid (HKr.out.next hb9)
        have HB9 := Lib.hid (HBr.out.trans (hb9.mono HBr.out.size))
        have HRD9 := Lib.hid (HRV.out.next (below_drewN (Below.refl _ _) 1 |>.trans hb9))
        clear hb9
        refine hK.out _ _ HK9.out (fun hHeld => ?_)
        clear hK K
        try simp only [Act.put, List.setIfInBounds_toArray, List.set_cons_zero, List.set_cons_succ]
        refine wpAnyH_take (i := 1) (oi := ⟨some 67, _, _, _, _, _⟩) (v := ?_) rfl (by kernel_rfl) (by kernel_rfl) (by kernel_rfl) (fun _ _ _ h => h) (Or.inl ⟨by rfl, ?_⟩) hHeld ?_
        rotate_left
        · intro w hSw
          go_simp
          first | done | with_reducible rfl
        try simp only [Act.put, List.setIfInBounds_toArray, List.set_cons_zero, List.set_cons_succ]
        refine wpAnyH_take (i := 2) (oi := ⟨some 68, _, _, _, _, _⟩) (v := ?_) rfl (by kernel_rfl) (by kernel_rfl) (by kernel_rfl) (fun _ _ _ h => h) (Or.inl ⟨by rfl, ?_⟩) hHeld ?_
        rotate_left
        · intro w hSw
          go_simp
          first | done | with_reducible rfl
        try simp only [Act.put, List.setIfInBounds_toArray, List.set_cons_zero, List.set_cons_succ]
        refine wpAnyH_take (i := 3) (oi := ⟨some 69, _, _, _, _, _⟩) (v := ?_) rfl (by kernel_rfl) (by kernel_rfl) (by kernel_rfl) (fun _ _ _ h => h) (Or.inl ⟨by rfl, ?_⟩) hHeld ?_
        rotate_left
        · intro w hSw
          go_simp
          first | done | with_reducible rfl
        try simp only [Act.put, List.setIfInBounds_toArray, List.set_cons_zero, List.set_cons_succ]
        refine wpAnyH_take (i := 5) (oi := ⟨some 71, .load 36 (.tmp 7), _, _, _, _⟩) rfl (by kernel_rfl) (by kernel_rfl) (by kernel_rfl) (fun _ _ _ h => h) (yields_row (by rfl) 36 (.tmp 7) rfl w1.heap.size rfl F _ (fun w' hS => ⟨_, hS.1⟩) Tryd.underlying36 rfl HIF.out.1) hHeld ?_
        try simp only [Act.put, List.setIfInBounds_toArray, List.set_cons_zero, List.set_cons_succ]
        refine wpAnyH_ready (rs := [4]) (by kernel_rfl) (by simp) ?_
        refine AllReadyH.cons (o := ⟨some 70, .call _, _, _, _, _⟩) rfl (fun K hK => ?_) AllReadyH.nil
        go_simp
        go_at_call 18
        refine (mactag_any (s ++ List.replicate k 0) b (n + k) m HLZ.out HM.out Av A' cv c' w9 (HT.out.next HB9.out) HRD9.out (HA'.out.next HB9.out) HNV.out HNIL'.out HSZ.out HB.out (by omega) (by omega) F HFZ.out).mono ?_
        rintro e w10 ⟨rfl, hb10⟩
        go_wp2_with fail
        have HK10 := Lib.hid (HK9.out.next hb10)
        have HB10 := Lib.hid (HB9.out.trans (hb10.mono HB9.out.size))
        clear hb10
        refine hK.out _ _ HK10.out (fun hHeld => ?_)
        clear hK K
        try simp only [Act.put, List.setIfInBounds_toArray, List.set_cons_zero, List.set_cons_succ]
        refine wpAnyH_take (i := 6) (oi := ⟨some 72, _, _, _, _, _⟩) (v := ?_) rfl (by kernel_rfl) (by kernel_rfl) (by kernel_rfl) (fun _ _ _ h => h) (Or.inl ⟨by rfl, ?_⟩) hHeld ?_
        rotate_left
        · intro w hSw
          go_simp
          first | done | with_reducible rfl
        try simp only [Act.put, List.setIfInBounds_toArray, List.set_cons_zero, List.set_cons_succ]
        refine wpAnyH_take (i := 7) (oi := ⟨some 73, _, _, _, _, _⟩) (v := ?_) rfl (by kernel_rfl) (by kernel_rfl) (by kernel_rfl) (fun _ _ _ h => h) (Or.inl ⟨by rfl, ?_⟩) hHeld ?_
        rotate_left
        · intro w hSw
          go_simp
          first | done | with_reducible rfl
        try simp only [Act.put, List.setIfInBounds_toArray, List.set_cons_zero, List.set_cons_succ]
        refine wpAnyH_take (i := 8) (oi := ⟨some 6, _, _, _, _, _⟩) (v := ?_) rfl (by kernel_rfl) (by kernel_rfl) (by kernel_rfl) (fun _ _ _ h => h) (Or.inl ⟨by rfl, ?_⟩) hHeld ?_
        rotate_left
        · intro w hSw
          go_simp
          first | done | with_reducible rfl
        try simp only [Act.put, List.setIfInBounds_toArray, List.set_cons_zero, List.set_cons_succ]
        refine wpAnyH_done (by kernel_rfl) ?_ _
        go_wp2
        go_ret
        exact ⟨rfl, HB10.out⟩

set_option maxRecDepth 100000 in
theorem alike_long1 (n m : Nat) (z : Int) (A A' : Option Addr) (c c' : Nat) (w : World) (h1 : n ≤ 9223372036854775807) (h2 : m ≤ 9223372036854775807) (h : 1000 < n) :
    Calls Tryd.prog 6 #[.slice A n c, .slice A' m c', .int .i64 z] w fun e w' => e = .returned (.bool true) ∧ Below w.heap.size w w' := by
  go_enter Tryd.func6, Tryd.ntmps6
  go_wp2_with fail
  go_ret
  exact ⟨rfl, Below.refl _ _⟩

set_option maxRecDepth 100000 in
theorem alike_long2 (n m : Nat) (z : Int) (A A' : Option Addr) (c c' : Nat) (w : World) (h1 : n ≤ 1000) (h2 : m ≤ 9223372036854775807) (h : 2000 < m) :
    Calls Tryd.prog 6 #[.slice A n c, .slice A' m c', .int .i64 z] w fun e w' => e = .returned (.bool true) ∧ Below w.heap.size w w' := by
  go_enter Tryd.func6, Tryd.ntmps6
  go_wp2_with fail
  go_ret
  exact ⟨rfl, Below.refl _ _⟩

set_option maxRecDepth 100000 in
theorem alike_lifted (os : Os) (started : os.Started) (H : Type) (enc : TypeId × Value → H) :
    ReturnsInHanded {} Tryd.checked os 6 .any (fun w args => (Rows.macAlikeSpec.pre enc Tryd.prog Tryd.f6 [] false w args ∧ laidMetH Tryd.prog laidL w) ∧ sizedMet enc Tryd.prog Tryd.f6 (OpenSpec.ofChange Rows.macAlikeSpec) false w args)
      (Rows.macAlikeSpec.post enc Tryd.prog Tryd.f6 false true false false) := by
  refine returnsInHanded_of_change_and (C := Tryd.checked) (X := fun w _ => laidMetH Tryd.prog laidL w) (fun _ _ _ hh h => h.of_heap hh) Tryd.own started (by kernel_rfl) Tryd.func6
    (ChangeSpec.witness_shaped (enc := enc) (C := Tryd.checked) (os := os) (X := fun w _ => laidMetH Tryd.prog laidL w) false (World.doorLaid Tryd.prog 400 os) #[.slice none 0 0, .slice none 0 0, .int .i64 0] 8 rfl (World.shaped_of_RefB (by kernel_rfl) (by kernel_rfl)) (by kernel_rfl) (by kernel_rfl) (by kernel_rfl) (door_met os _)) ?_
  intro W base args ds gs before hval0 hW _ hsz hL _
  have hval : ∀ (j : Nat) t v, Tryd.f6.params[j]? = some t → args[j]? = some v → Value.okWide Tryd.prog W .any base t v := hval0
  have hW' := hW
  obtain ⟨p, q, hA0, hV, rfl, _, _⟩ := hW'
  have hA : DataW.TrodAll enc Tryd.prog W 0 (fun _ => true) true Tryd.f6.params.toList args.toList ds p := hA0
  rw [Tryd.params6] at hA hval
  obtain ⟨v0, vs0, d0, ds0, p0, q0, hargs0, rfl, rfl, h0, r0⟩ := trodAll_cons hA
  obtain ⟨v1, vs1, d1, ds1, p1, q1, hargs1, rfl, rfl, h1, r1⟩ := trodAll_cons r0
  obtain ⟨v2, vs2, d2, ds2, p2, q2, hargs2, rfl, rfl, h2, r2⟩ := trodAll_cons r1
  obtain ⟨rfl, rfl, rfl⟩ := trodAll_nil r2
  obtain rfl : args = #[v0, v1, v2] := by cases args; simp_all
  obtain ⟨A0, l0, c0, rfl, hr0, hl0, hc0, hm0, hn0, hw0⟩ := open_nats_full Tryd.underlying28 Tryd.underlying5 Tryd.cellsU8 wf_u8 (hval 0 28 v0 rfl rfl) h0
  obtain ⟨A1, l1, c1, rfl, hr1, hl1, hc1, hm1, hn1, hw1⟩ := open_nats_full Tryd.underlying28 Tryd.underlying5 Tryd.cellsU8 wf_u8 (hval 1 28 v1 rfl rfl) h1
  obtain ⟨x2, rfl, rfl, rfl, wx2⟩ := open_int Tryd.underlying3 (hval 2 3 v2 rfl rfl) h2
  unfold maxLen at hm0 hm1
  have hlaw : Calls Tryd.prog 6 #[.slice A0 l0.length c0, .slice A1 l1.length c1, .int .i64 x2] W fun e w' => e = .returned (.bool true) ∧ Below W.heap.size W w' := by
    by_cases h : 1000 < l0.length
    · exact alike_long1 _ _ x2 A0 A1 c0 c1 W (by omega) (by omega) h
    · by_cases h' : 2000 < l1.length
      · exact alike_long2 _ _ x2 A0 A1 c0 c1 W (by omega) (by omega) h'
      · by_cases h'' : 64 < l0.length
        · exact alike_long l0 l1 _ _ x2 rfl rfl A0 A1 c0 c1 W (tabs_of_laid hL) hr0 hr1 hn0 hn1 hl0 hl1 (by omega) (by omega) h''
        · exact alike_short l0 l1 _ _ x2 rfl rfl A0 A1 c0 c1 W (tabs_of_laid hL) hr0 hr1 hn0 hn1 hl0 hl1 (by omega) (by omega) (wf_i64 x2 wx2) (by omega)
  refine hlaw.mono fun e W' ⟨he, hb⟩ => ?_
  subst he
  exact ⟨_, rfl, law_post Tryd.laidOut Tryd.underlying4 hW rfl (by kernel_rfl) (by kernel_rfl) rfl hb⟩

theorem macAlike_holds : Rows.MacAlikeSaid :=
  OpenClaim.holds_of_wide 6 Tryd.f6 rfl rfl rfl rfl rfl rfl rfl ⟨rfl, rfl, rfl, rfl, rfl⟩ rfl rfl rfl rfl rfl (by kernel_rfl) Tryd.func6 (by kernel_rfl)
    (of_decide_eq_true (by kernel_rfl)) (by unfold Func.isWrapper; first | (rw [if_pos (by decide +kernel)]; kernel_rfl) | (rw [if_neg (by decide +kernel)]; exact ⟨rfl, rfl⟩))
    (fun os started H enc _ => alike_lifted os started H enc)
theorem alike_plain (f : FuncId) (fn : Func) (hf : Tryd.pinned.checked.prog.funcNamed "gateline/gatelinelaw03.MacAlike" = some f) (hfn : Tryd.pinned.checked.prog.funcs[f]? = some fn) :
    false = Tryd.pinned.checked.prog.looks [] ∧ ∀ (j : Nat) t, fn.params[j]? = some t → Tryd.pinned.checked.prog.wantsStandIn t = false := by
  obtain rfl : f = 6 := Option.some.inj ((show Tryd.prog.funcNamed "gateline/gatelinelaw03.MacAlike" = some 6 by kernel_rfl).symm.trans hf) |>.symm
  obtain rfl : fn = Tryd.f6 := (Option.some.inj (Tryd.func6.symm.trans hfn)).symm
  refine ⟨by kernel_rfl, fun j t ht => ?_⟩
  rw [Tryd.params6] at ht
  have hm : t ∈ [28, 28, 3] := by simpa using Array.mem_of_getElem? ht
  have hall : ([28, 28, 3].all fun u => !Tryd.prog.wantsStandIn u) = true := by kernel_rfl
  exact (show Tryd.prog.wantsStandIn t = false by simpa using List.all_eq_true.1 hall t hm)
theorem macAlike_card : Rows.MacAlikeCardSaid :=
  Claim7.holds_tied_plain_at .later [] _ _ _ _ macAlike_holds (fun _ h => by cases h) (by kernel_rfl) (fun _ h => by cases h) macAlike_row_tie rfl ⟨rfl, rfl⟩ (by kernel_rfl) rfl alike_plain (by kernel_rfl)
#print axioms macAlike_card
end Go.Proofs.YtdpijlkhcagfaaaDoor
