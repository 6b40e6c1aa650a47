/-
  Contracts for blockWords and digest of package sha: the sixteen words of sixty-four bytes, and the thirty-two bytes of eight words. Conditions: the rows read as bytes and words.
-/
import Derived.Test.YtdpijlkhcagfaaaDoorShaPBlock
import Derived.Test.YtdpijlkhcagfaaaDoorShaPPad
import Derived.Test.YtdpijlkhcagfaaaDoorWords
import Derived.Test.YtdpijlkhcagfaaaDoorBytes
namespace Go.Proofs.YtdpijlkhcagfaaaDoor
set_option linter.unusedVariables false
open Go.ChangeShapes Go.WideShapes Go.ChangeAt Go.RowKit

theorem list16 (W : List Nat) (h : W.length = 16) : ∃ x0 x1 x2 x3 x4 x5 x6 x7 x8 x9 x10 x11 x12 x13 x14 x15, W = [x0, x1, x2, x3, x4, x5, x6, x7, x8, x9, x10, x11, x12, x13, x14, x15] := by
  match W, h with
  | [x0, x1, x2, x3, x4, x5, x6, x7, x8, x9, x10, x11, x12, x13, x14, x15], _ => exact ⟨x0, x1, x2, x3, x4, x5, x6, x7, x8, x9, x10, x11, x12, x13, x14, x15, rfl⟩
theorem block_list (h : St) (W : List Nat) (w : World) (hT : Tabs w) (hh : h.ok) (hx : ∀ x ∈ W, x < 4294967296) (hl : W.length = 16) :
    Calls Tryd.prog 9 #[h.val, .agg (U32 W).toArray] w fun e w' => e = .returned (blockN h W).val ∧ Below w.heap.size w w' := by
  obtain ⟨x0, x1, x2, x3, x4, x5, x6, x7, x8, x9, x10, x11, x12, x13, x14, x15, rfl⟩ := list16 W hl
  exact block_any h x0 x1 x2 x3 x4 x5 x6 x7 x8 x9 x10 x11 x12 x13 x14 x15 w hT hh hx
theorem refblock_list (h : St) (W : List Nat) (w : World) (hh : h.ok) (hx : ∀ x ∈ W, x < 4294967296) (hl : W.length = 16) :
    Calls Tryd.prog 10 #[h.val, .agg (U32 W).toArray] w fun e w' => e = .returned (blockN h W).val ∧ Below w.heap.size w w' := by
  obtain ⟨x0, x1, x2, x3, x4, x5, x6, x7, x8, x9, x10, x11, x12, x13, x14, x15, rfl⟩ := list16 W hl
  exact refblock_any h x0 x1 x2 x3 x4 x5 x6 x7 x8 x9 x10 x11 x12 x13 x14 x15 w hh hx

theorem info29 : (Tryd.prog.info? 24).map (·.size) = some 16 := by kernel_rfl
theorem info32 : (Tryd.prog.info? 36).map (·.size) = some 32 := by kernel_rfl
theorem sizeU32 : (Tryd.prog.info? 22).map (·.size) = some 1 := by kernel_rfl
theorem sizeU8 : (Tryd.prog.info? 5).map (·.size) = some 1 := by kernel_rfl

section
variable {P : Program}
/-- The walk stands at a call into slot d. -/
theorem at_calls (d : Nat) {ops : Array Oper} {rest : List Oper} {c : Call} {t : TypeId} {p : String} {af : Array Edge} {g : Option (Nat × Bool)} {a : Act} {w : World} {Q : Exit → Act → World → Prop} (h : wpList P ops Q (⟨some d, .call c, t, p, af, g⟩ :: rest) a w) : wpList P ops Q (⟨some d, .call c, t, p, af, g⟩ :: rest) a w := h
end
theorem splice_all (cur cs : List Value) (h : cs.length = cur.length) : splice cur 0 cs = cs := by
  unfold splice
  simp [h]

theorem words_len (l : List Nat) (n : Nat) (hn : l.length = n) (A : Option Addr) (c : Nat) (w : World) (hA : Rd w w.heap.size A (U8 l)) (hb : ∀ x ∈ l, x < 256) (hl : n ≤ 4000) (h4 : n % 4 = 0) :
    Calls Tryd.prog 14 #[.slice A n c] w fun e w' => ∃ g cap, e = .returned (.tuple #[.slice (some ⟨g, 0, none⟩) (n / 4) cap, .int .i64 0]) ∧
      w'.ownsRow w.heap.size 22 1 (.slice (some ⟨g, 0, none⟩) (n / 4) cap) (n / 4) (U32 (wordsOf l)) ∧ Below w.heap.size w w' := by
  subst hn
  exact words_ok l A c w hA hb hl h4
theorem bytes_len (l : List Nat) (n : Nat) (hn : l.length = n) (A : Option Addr) (c : Nat) (w : World) (hA : Rd w w.heap.size A (U32 l)) (hb : ∀ x ∈ l, x < 4294967296) (hl : n ≤ 1000) :
    Calls Tryd.prog 16 #[.slice A n c] w fun e w' => ∃ g cap, e = .returned (.slice (some ⟨g, 0, none⟩) (4 * n) cap) ∧
      w'.ownsRow w.heap.size 5 1 (.slice (some ⟨g, 0, none⟩) (4 * n) cap) (4 * n) (U8 (bytesOf l)) ∧ Below w.heap.size w w' := by
  subst hn
  exact bytes_ok l A c w hA hb hl

theorem row_spliced {w3 : World} {g : Nat} {W : List Nat} {t : TypeId} (h : w3.heap[g]? = some (.cells (splice z16.toList 0 (U32 W)).toArray t (0, 0))) (hW : W.length = 16) : w3.heap[g]? = some (.cells (U32 W).toArray t (0, 0)) := by
  rw [splice_all _ _ (by rw [U32, List.length_map, hW]; rfl)] at h
  exact h
theorem own_cells {w w2 : World} {base : Nat} {e : TypeId} {g n cap : Nat} {xs : List Value} (h : w.ownsRow base e 1 (.slice (some ⟨g, 0, none⟩) n cap) n xs) (hb : Below w.heap.size w w2) : ∀ j v, xs[j]? = some v → w2.cell? ((⟨g, 0, none⟩ : Addr).add j) = some v := by
  intro j v hv
  obtain ⟨ad, he, _, hc⟩ := (Rd.of_own h).next hb j v hv
  cases he
  exact hc
theorem U32_length (l : List Nat) : (U32 l).length = l.length := by simp [U32]
theorem U8_length (l : List Nat) : (U8 l).length = l.length := by simp [U8]

set_option maxRecDepth 20000 in
theorem blockWords_any (lp : List Nat) (ad : Addr) (n c : Nat) (w : World) (hA : Rd w w.heap.size (some ad) (U8 lp)) (hb : ∀ x ∈ lp, x < 256) (hl : lp.length = n) (h64 : 64 ≤ n) (hc : n ≤ c) (hcm : c ≤ maxLen) :
    Calls Tryd.prog 31 #[.slice (some ad) n c] w fun e w' => e = .returned (.agg (U32 (wordsOf (lp.take 64))).toArray) ∧ Below w.heap.size w w' := by
  unfold maxLen at hcm
  have hA64 : Rd w w.heap.size (some ad) (U8 (lp.take 64)) := by
    intro k u hu
    refine hA k u ?_
    simp only [U8, List.map_take, List.getElem?_take] at hu ⊢
    split at hu
    · exact hu
    · cases hu
  have hlt : (lp.take 64).length = 64 := by simp; omega
  have hbt : ∀ x ∈ lp.take 64, x < 256 := fun x hx => hb x (List.mem_of_mem_take hx)
  have HA := Lib.hid hA64
  have HL := Lib.hid hlt
  have HB := Lib.hid hbt
  clear hA hb hl hA64 hlt hbt
  generalize lp.take 64 = q at *
  go_enter Tryd.func31, Tryd.ntmps31
  go_wp2_with fail
  refine (words_len q 64 HL.out (some ad) c _ ((HA.out.alloc (Nat.le_refl _) _).more (by simp)) HB.out (by omega) (by omega)).mono ?_
  rintro e w1 ⟨g1, c1, rfl, hown1, hb1⟩
  have hb01 : Below w.heap.size w w1 := ((Below.refl _ _).alloc (Nat.le_refl _) _).trans (hb1.mono (by simp))
  have hs1 : w.heap.size + 1 ≤ w1.heap.size := by have := hb1.size; simpa using this
  have hres : w1.heap[w.heap.size]? = some (.cells z16 24 (0, 0)) := (hb1.block _ (by simp)).trans (heap_alloc_new w _)
  have hW : (wordsOf q).length = 16 := by rw [length_wordsOf, HL.out]
  have HO := Lib.hid hown1
  have HRES := Lib.hid hres
  have HW := Lib.hid hW
  clear hown1 hb1 hres hW
  obtain ⟨W, hWE⟩ : ∃ W, W = wordsOf q := ⟨_, rfl⟩
  rw [← hWE] at HO HW
  have HWE := Lib.hid hWE
  have hsz : (U32 W).toArray.size = 16 := by simp [U32, HW.out]
  have hin : (Tryd.prog.info? 24).map (·.size) = some (U32 W).toArray.size := by rw [hsz]; exact info29
  have HSZ := Lib.hid hsz
  have HIN := Lib.hid hin
  clear hWE hsz hin
  go_wp2_with (first
    | ((with_reducible refine at_store 5 ?_); refine wpList_store_named (o := ⟨none, .store 24 (.tmp 5) (.tmp 12), _, _, _, _⟩) rfl 24 (.tmp 5) (.tmp 12) rfl w1.heap.size z16 rfl rfl 24 z16 (heap_alloc_new w1 _) info29 rfl (all_one32 (List.replicate 16 0)) ?_; intro w2 hw2)
    | ((with_reducible refine at_calls 15 ?_); refine wpList_copy_splice (o := ⟨some 15, _, _, _, _, _⟩) rfl (.tmp 13) (.tmp 14) 32 32 rfl 22 Tryd.underlying32 sizeU32 (some ⟨w1.heap.size, 0, none⟩) (some ⟨g1, 0, none⟩) 16 16 16 c1 rfl rfl w1.heap.size 0 z16.toList 24 (row_made hw2.out).2.1 (U32 W) ((U32_length W).trans HW.out) (fun _ => ⟨rfl, _, rfl, own_cells HO.out (row_made hw2.out).2.2⟩) (Nat.le_of_eq ((congrArg (0 + ·) (U32_length W)).trans (by rw [HW.out]; rfl))) (U32_one W) w1.heap.size w2 (Below.refl _ _) (Nat.le_refl _) ?_; intro w3 hw3 hb3)
    | ((with_reducible refine at_load 16 ?_); have hw3' := row_spliced hw3.out HW.out; refine wpList_load_row (o := ⟨some 16, .load 24 (.tmp 5), _, _, _, _⟩) rfl 24 (.tmp 5) rfl w1.heap.size rfl 24 (U32 W).toArray (0, 0) _ hw3' Tryd.underlying24 rfl (HIN.out) ?_; clear hw3')
    | ((with_reducible refine at_store 2 ?_); refine wpList_store_named (o := ⟨none, .store 24 (.tmp 2) (.tmp 16), _, _, _, _⟩) rfl 24 (.tmp 2) (.tmp 16) rfl w.heap.size (U32 W).toArray rfl rfl 24 z16 ((hb3.block _ (by omega)).trans (((row_made hw2.out).2.2.block _ (by omega)).trans HRES.out)) HIN.out HSZ.out.symm (all_one32 W) ?_; intro w4 hw4))
  have hr4 : w4.heap[w.heap.size]? = some (.cells (U32 W).toArray 24 (0, 0)) := by
    rw [hw4.out]; exact setRow_heap _ _ _ _ _ _ ((hb3.block _ (by omega)).trans (((row_made hw2.out).2.2.block _ (by omega)).trans HRES.out))
  refine bodyPost_ret (results_cell_row Tryd.results31 _ w4 w.heap.size 24 _ (0, 0) _ rfl hr4 Tryd.underlying24 rfl HIN.out) rfl ⟨by rw [HWE.out], ?_⟩
  exact ((hb01.trans ((row_made hw2.out).2.2.mono (by omega))).trans (hb3.mono (by omega))).trans (below_row hw4.out (Nat.le_refl _))
end Go.Proofs.YtdpijlkhcagfaaaDoor
