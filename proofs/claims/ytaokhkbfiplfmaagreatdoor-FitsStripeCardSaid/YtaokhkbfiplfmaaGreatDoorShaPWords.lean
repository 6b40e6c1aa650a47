/-
  Contracts for blockWords and digest of package sha: the sixteen words of sixty-four bytes, and the thirty-two bytes of eight words. Conditions: the rows read as bytes and words.
  Contract for digest of package sha: the thirty-two bytes of eight words. Conditions: the words fit 32 bits.
  Contract for Sum of package sha: the digest of bytes. Conditions: the slice reads as bytes, at most 5000 of them; the package's tables hold what its text lays.
  The digest, reckoned so that the kernel can follow it: each number is reckoned out before it is used again. No memory and no program here.
  Plain facts on bytes for layer 3 (mac): a secret's block, a block under a mask, the tag. No memory and no program here.
  Contracts for the reference's Get: it answers the number that the bytes are, or the document's error. Conditions: the slice reads as bytes.
  Contracts for Cut of package seal and of the reference: the number that a tag's first four bytes are. Conditions: the tag is 32 bytes.
  Contracts for Digits of package seal and of the reference: just these ten digits, or the document's error. Conditions: the number fits an int.
  Contract for the reference's Digits, where the number has digits: just these ten. Conditions: the number is at most 4294967295.
  Contracts for Diff of package seal, for its closure, and for the reference's Diff. Conditions: the slices read as bytes; their lengths fit an int.
  Contract for Same of package seal: two rows of bytes are told the same just if they are. Conditions: the slices read as bytes; their lengths fit an int.
  What package stripe answers, plainly: the tag, what a reading is encoded as, what a stripe says; that these are one another's, and what a key more changes. No program; conditions: none.
  Which readings a stripe's Encode takes with a ring of one right key, plainly. No program; conditions: none.
  Contract for the landed right: whether a key is right. Conditions: the numbers fit an int.
-/
import Derived.Test.YtaokhkbfiplfmaaGreatDoorShaSched
import Derived.Test.YtaokhkbfiplfmaaGreatDoorMem
import Derived.Test.YtaokhkbfiplfmaaGreatDoorMath
import Derived.OneCell
import Derived.StillTailTactics
import Derived.Test.YtaokhkbfiplfmaaGreatDoorFitsP
import Derived.Test.YtaokhkbfiplfmaaGreatDoorApart
section
namespace Go.Proofs.YtaokhkbfiplfmaaGreatDoor
set_option maxRecDepth 100000
set_option linter.unusedVariables false
open Go.ChangeShapes Go.WideShapes Go.ChangeAt Go.RowKit

theorem list16 (W : List Nat) (h : W.length = 16) : ∃ x0 x1 x2 x3 x4 x5 x6 x7 x8 x9 x10 x11 x12 x13 x14 x15, W = [x0, x1, x2, x3, x4, x5, x6, x7, x8, x9, x10, x11, x12, x13, x14, x15] := by
  match W, h with
  | [x0, x1, x2, x3, x4, x5, x6, x7, x8, x9, x10, x11, x12, x13, x14, x15], _ => exact ⟨x0, x1, x2, x3, x4, x5, x6, x7, x8, x9, x10, x11, x12, x13, x14, x15, rfl⟩
theorem block_list (h : St) (W : List Nat) (w : World) (hT : Tabs w) (hh : h.ok) (hx : ∀ x ∈ W, x < 4294967296) (hl : W.length = 16) :
    Calls Tryz.prog 68 #[h.val, .agg (U32 W).toArray] w fun e w' => e = .returned (blockN h W).val ∧ Below w.heap.size w w' := by
  obtain ⟨x0, x1, x2, x3, x4, x5, x6, x7, x8, x9, x10, x11, x12, x13, x14, x15, rfl⟩ := list16 W hl
  exact block_any h x0 x1 x2 x3 x4 x5 x6 x7 x8 x9 x10 x11 x12 x13 x14 x15 w hT hh hx
theorem info29 : (Tryz.prog.info? 111).map (·.size) = some 16 := by kernel_rfl
theorem info32 : (Tryz.prog.info? 81).map (·.size) = some 32 := by kernel_rfl
theorem sizeU32 : (Tryz.prog.info? 107).map (·.size) = some 1 := by kernel_rfl
theorem sizeU8 : (Tryz.prog.info? 5).map (·.size) = some 1 := by kernel_rfl

section
variable {P : Program}
/-- The walk stands at a call into slot d. -/
theorem at_calls (d : Nat) {ops : Array Oper} {rest : List Oper} {c : Call} {t : TypeId} {p : String} {af : Array Edge} {g : Option (Nat × Bool)} {a : Act} {w : World} {Q : Exit → Act → World → Prop} (h : wpList P ops Q (⟨some d, .call c, t, p, af, g⟩ :: rest) a w) : wpList P ops Q (⟨some d, .call c, t, p, af, g⟩ :: rest) a w := h
end
theorem splice_all (cur cs : List Value) (h : cs.length = cur.length) : splice cur 0 cs = cs := by
  unfold splice
  simp [h]

theorem words_len (l : List Nat) (n : Nat) (hn : l.length = n) (A : Option Addr) (c : Nat) (w : World) (hA : Rd w w.heap.size A (U8 l)) (hb : ∀ x ∈ l, x < 256) (hl : n ≤ 4000) (h4 : n % 4 = 0) :
    Calls Tryz.prog 83 #[.slice A n c] w fun e w' => ∃ g cap, e = .returned (.tuple #[.slice (some ⟨g, 0, none⟩) (n / 4) cap, .int .i64 0]) ∧
      w'.ownsRow w.heap.size 107 1 (.slice (some ⟨g, 0, none⟩) (n / 4) cap) (n / 4) (U32 (wordsOf l)) ∧ Below w.heap.size w w' := by
  subst hn
  exact words_ok l A c w hA hb hl h4
theorem bytes_len (l : List Nat) (n : Nat) (hn : l.length = n) (A : Option Addr) (c : Nat) (w : World) (hA : Rd w w.heap.size A (U32 l)) (hb : ∀ x ∈ l, x < 4294967296) (hl : n ≤ 1000) :
    Calls Tryz.prog 84 #[.slice A n c] w fun e w' => ∃ g cap, e = .returned (.slice (some ⟨g, 0, none⟩) (4 * n) cap) ∧
      w'.ownsRow w.heap.size 5 1 (.slice (some ⟨g, 0, none⟩) (4 * n) cap) (4 * n) (U8 (bytesOf l)) ∧ Below w.heap.size w w' := by
  subst hn
  exact bytes_ok l A c w hA hb hl

theorem row_spliced {w3 : World} {g : Nat} {W : List Nat} {t : TypeId} (h : w3.heap[g]? = some (.cells (splice z16.toList 0 (U32 W)).toArray t (0, 0))) (hW : W.length = 16) : w3.heap[g]? = some (.cells (U32 W).toArray t (0, 0)) := by
  rw [splice_all _ _ (by rw [U32, List.length_map, hW]; rfl)] at h
  exact h
theorem own_cells {w w2 : World} {base : Nat} {e : TypeId} {g n cap : Nat} {xs : List Value} (h : w.ownsRow base e 1 (.slice (some ⟨g, 0, none⟩) n cap) n xs) (hb : Below w.heap.size w w2) : ∀ j v, xs[j]? = some v → w2.cell? ((⟨g, 0, none⟩ : Addr).add j) = some v := by
  intro j v hv
  obtain ⟨ad, he, _, hc⟩ := (Rd.of_own h).next hb j v hv
  cases he
  exact hc
theorem U32_length (l : List Nat) : (U32 l).length = l.length := by simp [U32]
theorem U8_length (l : List Nat) : (U8 l).length = l.length := by simp [U8]

set_option maxRecDepth 20000 in
theorem blockWords_any (lp : List Nat) (ad : Addr) (n c : Nat) (w : World) (hA : Rd w w.heap.size (some ad) (U8 lp)) (hb : ∀ x ∈ lp, x < 256) (hl : lp.length = n) (h64 : 64 ≤ n) (hc : n ≤ c) (hcm : c ≤ maxLen) :
    Calls Tryz.prog 69 #[.slice (some ad) n c] w fun e w' => e = .returned (.agg (U32 (wordsOf (lp.take 64))).toArray) ∧ Below w.heap.size w w' := by
  unfold maxLen at hcm
  have hA64 : Rd w w.heap.size (some ad) (U8 (lp.take 64)) := by
    intro k u hu
    refine hA k u ?_
    simp only [U8, List.map_take, List.getElem?_take] at hu ⊢
    split at hu
    · exact hu
    · cases hu
  have hlt : (lp.take 64).length = 64 := by simp; omega
  have hbt : ∀ x ∈ lp.take 64, x < 256 := fun x hx => hb x (List.mem_of_mem_take hx)
  have HA := Lib.hid hA64
  have HL := Lib.hid hlt
  have HB := Lib.hid hbt
  clear hA hb hl hA64 hlt hbt
  generalize lp.take 64 = q at *
  go_enter Tryz.func69, Tryz.ntmps69
  go_wp2_with fail
  refine (words_len q 64 HL.out (some ad) c _ ((HA.out.alloc (Nat.le_refl _) _).more (by simp)) HB.out (by omega) (by omega)).mono ?_
  rintro e w1 ⟨g1, c1, rfl, hown1, hb1⟩
  have hb01 : Below w.heap.size w w1 := ((Below.refl _ _).alloc (Nat.le_refl _) _).trans (hb1.mono (by simp))
  have hs1 : w.heap.size + 1 ≤ w1.heap.size := by have := hb1.size; simpa using this
  have hres : w1.heap[w.heap.size]? = some (.cells z16 111 (0, 0)) := (hb1.block _ (by simp)).trans (heap_alloc_new w _)
  have hW : (wordsOf q).length = 16 := by rw [length_wordsOf, HL.out]
  have HO := Lib.hid hown1
  have HRES := Lib.hid hres
  have HW := Lib.hid hW
  clear hown1 hb1 hres hW
  obtain ⟨W, hWE⟩ : ∃ W, W = wordsOf q := ⟨_, rfl⟩
  rw [← hWE] at HO HW
  have HWE := Lib.hid hWE
  have hsz : (U32 W).toArray.size = 16 := by simp [U32, HW.out]
  have hin : (Tryz.prog.info? 111).map (·.size) = some (U32 W).toArray.size := by rw [hsz]; exact info29
  have HSZ := Lib.hid hsz
  have HIN := Lib.hid hin
  clear hWE hsz hin
  go_wp2_with (first
    | ((with_reducible refine at_store 5 ?_); refine wpList_store_named (o := ⟨none, .store 111 (.tmp 5) (.tmp 12), _, _, _, _⟩) rfl 111 (.tmp 5) (.tmp 12) rfl w1.heap.size z16 rfl rfl 111 z16 (heap_alloc_new w1 _) info29 rfl (all_one32 (List.replicate 16 0)) ?_; intro w2 hw2)
    | ((with_reducible refine at_calls 15 ?_); refine wpList_copy_splice (o := ⟨some 15, _, _, _, _, _⟩) rfl (.tmp 13) (.tmp 14) 123 123 rfl 107 Tryz.underlying123 sizeU32 (some ⟨w1.heap.size, 0, none⟩) (some ⟨g1, 0, none⟩) 16 16 16 c1 rfl rfl w1.heap.size 0 z16.toList 111 (row_made hw2.out).2.1 (U32 W) ((U32_length W).trans HW.out) (fun _ => ⟨rfl, _, rfl, own_cells HO.out (row_made hw2.out).2.2⟩) (Nat.le_of_eq ((congrArg (0 + ·) (U32_length W)).trans (by rw [HW.out]; rfl))) (U32_one W) w1.heap.size w2 (Below.refl _ _) (Nat.le_refl _) ?_; intro w3 hw3 hb3)
    | ((with_reducible refine at_load 16 ?_); have hw3' := row_spliced hw3.out HW.out; refine wpList_load_row (o := ⟨some 16, .load 111 (.tmp 5), _, _, _, _⟩) rfl 111 (.tmp 5) rfl w1.heap.size rfl 111 (U32 W).toArray (0, 0) _ hw3' Tryz.underlying111 rfl (HIN.out) ?_; clear hw3')
    | ((with_reducible refine at_store 2 ?_); refine wpList_store_named (o := ⟨none, .store 111 (.tmp 2) (.tmp 16), _, _, _, _⟩) rfl 111 (.tmp 2) (.tmp 16) rfl w.heap.size (U32 W).toArray rfl rfl 111 z16 ((hb3.block _ (by omega)).trans (((row_made hw2.out).2.2.block _ (by omega)).trans HRES.out)) HIN.out HSZ.out.symm (all_one32 W) ?_; intro w4 hw4))
  have hr4 : w4.heap[w.heap.size]? = some (.cells (U32 W).toArray 111 (0, 0)) := by
    rw [hw4.out]; exact setRow_heap _ _ _ _ _ _ ((hb3.block _ (by omega)).trans (((row_made hw2.out).2.2.block _ (by omega)).trans HRES.out))
  refine bodyPost_ret (results_cell_row Tryz.results69 _ w4 w.heap.size 111 _ (0, 0) _ rfl hr4 Tryz.underlying111 rfl HIN.out) rfl ⟨by rw [HWE.out], ?_⟩
  exact ((hb01.trans ((row_made hw2.out).2.2.mono (by omega))).trans (hb3.mono (by omega))).trans (below_row hw4.out (Nat.le_refl _))
end Go.Proofs.YtaokhkbfiplfmaaGreatDoor
end
section
namespace Go.Proofs.YtaokhkbfiplfmaaGreatDoor
set_option maxRecDepth 100000
set_option linter.unusedVariables false
open Go.ChangeShapes Go.WideShapes Go.ChangeAt Go.RowKit

theorem row_spliced8 {w3 : World} {g : Nat} {W : List Nat} {t : TypeId} (h : w3.heap[g]? = some (.cells (splice b32.toList 0 (U8 W)).toArray t (0, 0))) (hW : W.length = 32) : w3.heap[g]? = some (.cells (U8 W).toArray t (0, 0)) := by
  rw [splice_all _ _ (by rw [U8, List.length_map, hW]; rfl)] at h
  exact h

set_option maxRecDepth 100000 in
set_option maxHeartbeats 800000 in
theorem digest_any (h : St) (w : World) (hh : h.ok) :
    Calls Tryz.prog 70 #[h.val] w fun e w' => e = .returned (.agg (U8 (bytesOf h.list)).toArray) ∧ Below w.heap.size w w' := by
  obtain ⟨W, hWE⟩ : ∃ W, W = bytesOf h.list := ⟨_, rfl⟩
  have hW : W.length = 32 := by rw [hWE, length_bytesOf]; rfl
  have hsz : (U8 W).toArray.size = 32 := by simp [U8, hW]
  have hin : (Tryz.prog.info? 81).map (·.size) = some (U8 W).toArray.size := by rw [hsz]; exact info32
  rw [← hWE]
  have HWE := Lib.hid hWE
  have HW := Lib.hid hW
  have HSZ := Lib.hid hsz
  have HIN := Lib.hid hin
  clear hWE hW hsz hin
  unfold St.val
  go_enter Tryz.func70, Tryz.ntmps70
  go_wp2_with ((with_reducible refine at_store 3 ?_); refine wpList_store_named (o := ⟨none, .store 81 (.tmp 3) (.tmp 4), _, _, _, _⟩) rfl 81 (.tmp 3) (.tmp 4) rfl (w.heap.size + 1 + 1) b32 rfl rfl 81 b32 sched_here info32 rfl (all_one8 (List.replicate 32 0)) ?_; intro w0 hw0)
  obtain ⟨hs0, hbl0, hbl1, hbl2, hb0⟩ := three_made hw0.out
  clear hw0
  have HS0 := Lib.hid hs0
  have HB0 := Lib.hid hbl0
  have HB1 := Lib.hid hbl1
  have HB2 := Lib.hid hbl2
  clear hs0 hbl0 hbl1 hbl2
  have hrd : Rd w0.drew w0.drew.heap.size (some ⟨w.heap.size, 0, none⟩) (U32 h.list) := by
    intro k u hu
    refine ⟨_, rfl, by show w.heap.size < w0.heap.size; rw [HS0.out]; omega, ?_⟩
    have h0 : w0.drew.heap[w.heap.size]? = some (.cells (U32 h.list).toArray 108 (0, 0)) := HB0.out
    rw [at_add, cell_of_row w0.drew _ k _ _ (0, 0) h0]
    simpa using hu
  have HRD := Lib.hid hrd
  have HB := Lib.hid hb0
  clear hrd hb0
  go_region_held3 (fun _ => True) (trivial) (first
    | (refine step_copy_splice (o := ⟨some 8, _, _, _, _, _⟩) (by rfl) (.tmp 5) (.tmp 7) 26 26 (by rfl) 5 Tryz.underlying26 sizeU8 (some ⟨w.heap.size + 1 + 1, 0, none⟩) (some ⟨g1, 0, none⟩) 32 32 32 c1 (by rfl) (by rfl) (w.heap.size + 1 + 1) 0 b32.toList 81 H12.out (U8 W) ((U8_length W).trans HW.out) (fun _ => ⟨rfl, _, rfl, own_cells HO.out (Below.refl _ _)⟩) (Nat.le_of_eq ((congrArg (0 + ·) (U8_length W)).trans (by rw [HW.out]; rfl))) (U8_one W) (w.heap.size + 1 + 1) w1 (Below.refl _ _) (Nat.le_refl _) ?_; intro w3 hw3 hb3)
    | (go_at_call 84; refine (bytes_len h.list 8 rfl (some ⟨w.heap.size, 0, none⟩) 8 w0.drew HRD.out (St.list_lt hh) (by omega)).mono ?_; rintro e w1 ⟨g1, c1, rfl, hown1, hb1⟩; rw [← HWE.out] at hown1; have hs1 : w.heap.size + 1 + 1 + 1 ≤ w1.heap.size := (by have h7 := hb1.size; have h8 := HS0.out; have h9 : w0.drew.heap.size = w0.heap.size := rfl; omega); have H11 := Lib.hid ((hb1.block (w.heap.size + 1) (by show _ < w0.heap.size; rw [HS0.out]; omega)).trans HB1.out); have H12 := Lib.hid ((hb1.block (w.heap.size + 1 + 1) (by show _ < w0.heap.size; rw [HS0.out]; omega)).trans HB2.out); have hb01 : Below w.heap.size w w1 := HB.out.drew.trans (hb1.mono HB.out.size); have HO := Lib.hid hown1; clear hown1 hb1))
  go_wp2_with (first
    | ((with_reducible refine at_load 9 ?_); have hw3' := row_spliced8 hw3.out HW.out; refine wpList_load_row (o := ⟨some 9, .load 81 (.tmp 3), _, _, _, _⟩) rfl 81 (.tmp 3) rfl (w.heap.size + 1 + 1) rfl 81 (U8 W).toArray (0, 0) _ hw3' Tryz.underlying81 rfl (HIN.out) ?_; clear hw3')
    | ((with_reducible refine at_store 2 ?_); refine wpList_store_named (o := ⟨none, .store 81 (.tmp 2) (.tmp 9), _, _, _, _⟩) rfl 81 (.tmp 2) (.tmp 9) rfl (w.heap.size + 1) (U8 W).toArray rfl rfl 81 b32 ((hb3.block _ (by omega)).trans H11.out) HIN.out HSZ.out.symm (all_one8 W) ?_; intro w4 hw4))
  have hr4 : w4.heap[w.heap.size + 1]? = some (.cells (U8 W).toArray 81 (0, 0)) := by
    rw [hw4.out]; exact setRow_heap _ _ _ _ _ _ ((hb3.block _ (by omega)).trans H11.out)
  refine bodyPost_ret (results_cell_row Tryz.results70 _ w4 (w.heap.size + 1) 81 _ (0, 0) _ rfl hr4 Tryz.underlying81 rfl HIN.out) rfl ⟨rfl, ?_⟩
  exact (hb01.trans (hb3.mono (by omega))).trans (below_row hw4.out (by omega))
end Go.Proofs.YtaokhkbfiplfmaaGreatDoor
end
section
namespace Go.Proofs.YtaokhkbfiplfmaaGreatDoor
set_option maxRecDepth 100000
set_option linter.unusedVariables false
open Go.ChangeShapes Go.WideShapes Go.ChangeAt Go.RowKit

/-- The words behind j blocks of p. -/
def blocksN (h : St) (p : List Nat) : Nat → St
  | 0 => h
  | j + 1 => blockN (blocksN h p j) (wordsOf ((p.drop (64 * j)).take 64))
theorem blocksN_ok {h : St} (hh : h.ok) (p : List Nat) (j : Nat) : (blocksN h p j).ok := by
  cases j with
  | zero => exact hh
  | succ j => exact sumSt_ok _ _
theorem beginN_ok : beginN.ok := by unfold St.ok beginN; decide
/-- How many blocks. -/
def nblk (l : List Nat) : Nat := (padN l).length / 64
theorem nblk_eq (l : List Nat) : (padN l).length = 64 * nblk l := by
  unfold nblk; rw [length_padN]; unfold zerosN; omega
theorem nblk_pos (l : List Nat) : 0 < nblk l := by
  have := nblk_eq l; rw [length_padN] at this; omega
/-- The digest's words, and its bytes. -/
def sumSt8 (l : List Nat) : St := blocksN beginN (padN l) (nblk l)
def digestN (l : List Nat) : List Nat := bytesOf (sumSt8 l).list

theorem block_r (h : St) (W : List Nat) (w : World) (hT : Tabs w) (hh : h.ok) (hx : ∀ x ∈ W, x < 4294967296) (hl : W.length = 16) :
    Calls Tryz.prog 68 #[h.val, .agg (U32 W).toArray] w fun e w' => ∃ R, Hid (R = blockN h W) ∧ e = .returned (.agg #[.int .u32 R.a, .int .u32 R.b, .int .u32 R.c, .int .u32 R.d, .int .u32 R.e, .int .u32 R.f, .int .u32 R.g, .int .u32 R.h]) ∧ Below w.heap.size w w' :=
  (block_list h W w hT hh hx hl).mono fun _ _ ⟨a, b⟩ => ⟨_, Lib.hid rfl, a, b⟩
theorem set8_all (w3 : World) (S : Nat) (V R : St) (t : TypeId) (hv : w3.heap[S]? = some (.cells (U32 V.list).toArray t (0, 0))) (w' : World) (h : w' = ((((((((w3.setCell ⟨S, 0, none⟩ (.int .u32 R.a)).setCell ⟨S, 1, none⟩ (.int .u32 R.b)).setCell ⟨S, 2, none⟩ (.int .u32 R.c)).setCell ⟨S, 3, none⟩ (.int .u32 R.d)).setCell ⟨S, 4, none⟩ (.int .u32 R.e)).setCell ⟨S, 5, none⟩ (.int .u32 R.f)).setCell ⟨S, 6, none⟩ (.int .u32 R.g)).setCell ⟨S, 7, none⟩ (.int .u32 R.h))) :
    w'.heap[S]? = some (.cells (U32 R.list).toArray t (0, 0)) ∧ Below S w3 w' ∧ ∀ k, k ≠ S → w'.heap[k]? = w3.heap[k]? := by
  subst h
  refine ⟨set8 w3 S V t hv _ _ _ _ _ _ _ _, ?_, fun k hk => ?_⟩
  · have hle := Nat.le_refl S
    exact ((((((((Below.refl _ _).setCell hle _).setCell hle _).setCell hle _).setCell hle _).setCell hle _).setCell hle _).setCell hle _).setCell hle _
  · simp only [heap_setCell_other _ _ k _ (show k ≠ (⟨S, _, none⟩ : Addr).block from hk)]
theorem cells8 {w : World} {g : Nat} {V : St} {t : TypeId} (h : w.heap[g]? = some (.cells (U32 V.list).toArray t (0, 0))) : w.cell? ⟨g, 0, none⟩ = some (.int .u32 (V.a : Int)) ∧ w.cell? ⟨g, 1, none⟩ = some (.int .u32 (V.b : Int)) ∧ w.cell? ⟨g, 2, none⟩ = some (.int .u32 (V.c : Int)) ∧ w.cell? ⟨g, 3, none⟩ = some (.int .u32 (V.d : Int)) ∧ w.cell? ⟨g, 4, none⟩ = some (.int .u32 (V.e : Int)) ∧ w.cell? ⟨g, 5, none⟩ = some (.int .u32 (V.f : Int)) ∧ w.cell? ⟨g, 6, none⟩ = some (.int .u32 (V.g : Int)) ∧ w.cell? ⟨g, 7, none⟩ = some (.int .u32 (V.h : Int)) := by
  have hlc : ∀ i (v : Nat), V.list[i]? = some v → w.cell? ⟨g, i, none⟩ = some (.int .u32 (v : Int)) := by
    intro i v hv
    rw [cell_of_row w g i _ _ (0, 0) h, List.getElem?_toArray, U32, List.getElem?_map, hv]; rfl
  exact ⟨hlc 0 _ rfl, hlc 1 _ rfl, hlc 2 _ rfl, hlc 3 _ rfl, hlc 4 _ rfl, hlc 5 _ rfl, hlc 6 _ rfl, hlc 7 _ rfl⟩
theorem froz8 {w : World} {g : Nat} {V : St} {t : TypeId} (h : w.heap[g]? = some (.cells (U32 V.list).toArray t (0, 0))) : w.frozen? ⟨g, 0, none⟩ = false ∧ w.frozen? ⟨g, 1, none⟩ = false ∧ w.frozen? ⟨g, 2, none⟩ = false ∧ w.frozen? ⟨g, 3, none⟩ = false ∧ w.frozen? ⟨g, 4, none⟩ = false ∧ w.frozen? ⟨g, 5, none⟩ = false ∧ w.frozen? ⟨g, 6, none⟩ = false ∧ w.frozen? ⟨g, 7, none⟩ = false := by
  have hf : ∀ i, w.frozen? ⟨g, i, none⟩ = false := fun i => frozen_of_row w g i _ _ h
  exact ⟨hf 0, hf 1, hf 2, hf 3, hf 4, hf 5, hf 6, hf 7⟩

theorem Tabs.begin {w : World} (h : Tabs w) (i v : Nat) (hi : beginN.list[i]? = some v) : w.cell? ⟨0, i, none⟩ = some (.int .u32 (v : Int)) ∧ 0 < w.heap.size := by
  obtain ⟨ad, he, hlt, hc⟩ := h.2 i (.int .u32 (v : Int)) (by rw [U32, List.getElem?_map, hi]; rfl)
  cases he
  rw [at_add] at hc
  exact ⟨hc, hlt⟩

theorem Rd.from {w : World} {B g k : Nat} {xs : List Value} (h : Rd w B (some ⟨g, 0, none⟩) xs) : Rd w B (some ⟨g, k, none⟩) (xs.drop k) := by
  intro i u hu
  rw [List.getElem?_drop] at hu
  obtain ⟨ad, he, hlt, hc⟩ := h (k + i) u hu
  cases he
  refine ⟨_, rfl, hlt, ?_⟩
  have e : (⟨g, k, none⟩ : Addr).add i = ⟨g, k + i, none⟩ := by
    unfold Addr.add
    split
    · next h0 => subst h0; rfl
    · rfl
  rw [e, ← hc, at_add]

theorem two_made {w w' : World} {ca cb : Array Value} {ta tb : TypeId} (h : w' = (w.alloc (.cells ca ta)).alloc (.cells cb tb)) :
    w'.heap.size = w.heap.size + 1 + 1 ∧ w'.heap[w.heap.size]? = some (.cells ca ta (0, 0)) ∧ w'.heap[w.heap.size + 1]? = some (.cells cb tb (0, 0)) ∧ Below w.heap.size w w' := by
  subst h
  exact ⟨by simp, heap_alloc2_old _ _ _, heap_alloc2_new _ _ _, ((Below.refl _ _).alloc (Nat.le_refl _) _).alloc (by simp) _⟩
theorem pad_len (l : List Nat) (n : Nat) (hn : n = l.length) (A : Option Addr) (c : Nat) (w : World) (hA : Rd w w.heap.size A (U8 l)) (hnil : A = none → c = 0) (hl : n ≤ 140737488351232) :
    Calls Tryz.prog 67 #[.slice A n c] w fun e w' => ∃ v, e = .returned v ∧ w'.ownsRow w.heap.size 5 1 v (padN l).length (U8 (padN l)) ∧ Below w.heap.size w w' := by
  subst hn
  exact pad_ok l A c w hA hnil hl
theorem U8_drop (l : List Nat) (k : Nat) : (U8 l).drop k = U8 (l.drop k) := by simp [U8]
/-- What is left of the padded bytes behind j blocks. -/
def Left (g n : Nat) (v : Value) (j : Nat) : Prop := ∃ ad r q, v = .slice (some ad) r q ∧ r + 64 * j = n ∧ r ≤ q ∧ q ≤ maxLen ∧ (0 < r → ad = ⟨g, 64 * j, none⟩)

set_option maxRecDepth 100000 in
set_option maxHeartbeats 1600000 in
theorem sum_ok (l : List Nat) (A : Option Addr) (c : Nat) (w : World) (hT : Tabs w) (hA : Rd w w.heap.size A (U8 l)) (hnil : A = none → c = 0) (hb : ∀ x ∈ l, x < 256) (hl : l.length ≤ 5000) :
    Calls Tryz.prog 54 #[.slice A l.length c] w fun e w' => e = .returned (.agg (U8 (digestN l)).toArray) ∧ Below w.heap.size w w' := by
  obtain ⟨c0, hg1⟩ := hT.begin 0 _ rfl
  have c1 := (hT.begin 1 _ rfl).1
  have c2 := (hT.begin 2 _ rfl).1
  have c3 := (hT.begin 3 _ rfl).1
  have c4 := (hT.begin 4 _ rfl).1
  have c5 := (hT.begin 5 _ rfl).1
  have c6 := (hT.begin 6 _ rfl).1
  have c7 := (hT.begin 7 _ rfl).1
  have HT := Lib.hid hT
  obtain ⟨n0, hn0⟩ : ∃ n0, n0 = l.length := ⟨_, rfl⟩
  have HN0 := Lib.hid hn0
  have HNIL := Lib.hid hnil
  have HA := Lib.hid hA
  have HB := Lib.hid hb
  rw [← hn0] at hl ⊢
  clear hT hn0 hnil hA hb
  go_enter Tryz.func54, Tryz.ntmps54
  go_wp2_with fail
  obtain ⟨w0, hw0⟩ : ∃ w0 : World, w0 = (w.alloc (.cells b32 81)).alloc (.cells (U32 beginN.list).toArray 108) := ⟨_, rfl⟩
  obtain ⟨hs0, hr0, hv0, hb0⟩ := two_made hw0
  refine (pad_len l n0 HN0.out A c _ ((HA.out.below (by rw [hw0] at hb0; exact hb0)).more (by simp; omega)) HNIL.out (by omega)).mono ?_
  rintro e w1 ⟨v1, rfl, hown1, hb1⟩
  replace hb1 : Below w0.heap.size w0 w1 := by rw [hw0]; exact hb1
  have hown1' : w1.ownsRow w0.heap.size 5 1 v1 (padN l).length (U8 (padN l)) := by rw [hw0]; exact hown1
  rw [nblk_eq] at hown1'
  have hm0 := nblk_pos l
  have hm1 : nblk l ≤ 80 := by have := nblk_eq l; rw [length_padN, ← HN0.out] at this; unfold zerosN at this; omega
  obtain ⟨m, hm⟩ : ∃ m, m = nblk l := ⟨_, rfl⟩
  rw [← hm] at hown1' hm0 hm1
  obtain ⟨g, cap, rfl, hgb⟩ := hown1'.form (by omega)
  have hcap : 64 * m ≤ cap ∧ cap ≤ maxLen := by
    rcases hown1'.2 with ⟨h, _⟩ | ⟨g', cap', cur, h, _, _, h1, h2, _⟩
    · cases h
    · simp at h; obtain ⟨_, rfl⟩ := h; exact ⟨h1, h2⟩
  obtain ⟨hcap1, hcap2⟩ := hcap
  have hs1 : w.heap.size + 1 + 1 ≤ w1.heap.size := by have := hb1.size; omega
  have hr1 : w1.heap[w.heap.size]? = some (.cells b32 81 (0, 0)) := (hb1.block _ (by omega)).trans hr0
  have hv1 : w1.heap[w.heap.size + 1]? = some (.cells (U32 beginN.list).toArray 108 (0, 0)) := (hb1.block _ (by omega)).trans hv0
  have hbw : Below w.heap.size w w1 := hb0.trans (hb1.mono hb0.size)
  have hgs : w.heap.size + 1 < g := by have := own_ge hown1' (g := g) rfl; omega
  have hgl : g < w1.heap.size := by
    obtain ⟨ad, he, hlt, _⟩ := (Rd.of_own hown1') 0 _ (U8_at (padN l) 0 (by rw [nblk_eq, ← hm]; omega))
    cases he; exact hlt
  have HM := Lib.hid hm
  have HO1 := Lib.hid hown1'
  have HR1 := Lib.hid hr1
  have HV1 := Lib.hid hv1
  have HBW := Lib.hid hbw
  have HPB := Lib.hid (padN_lt l HB.out)
  clear hown1 hown1' hr1 hv1 hbw hb0 hb1 hs0 hr0 hv0 hw0 hm c0 c1 c2 c3 c4 c5 c6 c7
  go_wp2_with fail
  go_loopw [4] (fun v wr => ∃ j : Nat, j ≤ m ∧ Left g (64 * m) v j ∧ wr.heap[w.heap.size + 1]? = some (.cells (U32 (blocksN beginN (padN l) j).list).toArray 108 (0, 0)) ∧ Below (w.heap.size + 1) w1 wr ∧ wr.heap[g]? = w1.heap[g]?) (fun v _ => lenV v)
  case atStart => exact ⟨0, Nat.zero_le _, ⟨_, _, _, rfl, by omega, hcap1, hcap2, fun _ => rfl⟩, HV1.out, Below.refl _ _, rfl⟩
  case round =>
    obtain ⟨j, hj, ⟨ad, r, q, rfl, hrj, hrq, hqm, had⟩, hv, hbel, hgk⟩ := hrel
    by_cases hlt : 0 < r
    · obtain rfl := had hlt
      have hjm : j < m := by omega
      have hr64 : 64 ≤ r := by omega
      have hgw : g < wr.heap.size := by have := hbel.size; omega
      have hrd0 : Rd wr.drew wr.drew.heap.size (some ⟨g, 0, none⟩) (U8 (padN l)) := by
        intro k u hu
        obtain ⟨ad, he, _, hc⟩ := (Rd.of_own HO1.out) k u hu
        cases he
        refine ⟨_, rfl, hgw, ?_⟩
        rw [at_add] at hc ⊢
        exact (World.cell?_of_block (w := w1) (w' := wr) hgk).trans hc
      have hrd := hrd0.from (k := 64 * j)
      rw [U8_drop] at hrd
      have hlq : ((padN l).drop (64 * j)).length = r := by rw [List.length_drop, nblk_eq, ← HM.out]; omega
      have hbq : ∀ x ∈ (padN l).drop (64 * j), x < 256 := fun x hx => HPB.out x (List.mem_of_mem_drop hx)
      have hnext : blocksN beginN (padN l) (j + 1) = blockN (blocksN beginN (padN l) j) (wordsOf (((padN l).drop (64 * j)).take 64)) := rfl
      have hok := blocksN_ok beginN_ok (padN l) j
      have hT2 : Tabs wr.drew := HT.out.next (HBW.out.trans ((hbel.mono (by omega)).drew))
      obtain ⟨W, hWE⟩ : ∃ W, W = wordsOf (((padN l).drop (64 * j)).take 64) := ⟨_, rfl⟩
      have hW1 : W.length = 16 := by rw [hWE, length_wordsOf, List.length_take, hlq, Nat.min_eq_left hr64]
      have hW2 : ∀ x ∈ W, x < 4294967296 := by rw [hWE]; exact wordsOf_lt _ (fun x hx => hbq x (List.mem_of_mem_take hx))
      have hbwc := blockWords_any ((padN l).drop (64 * j)) ⟨g, 64 * j, none⟩ r q wr.drew hrd hbq hlq hr64 hrq hqm
      rw [← hWE] at hnext hbwc
      obtain ⟨V, hVE⟩ : ∃ V, V = blocksN beginN (padN l) j := ⟨_, rfl⟩
      rw [← hVE] at hv hnext hok
      have HNX := Lib.hid hnext
      have HBWC := Lib.hid hbwc
      have HOK := Lib.hid hok
      have HT2 := Lib.hid hT2
      have HW1 := Lib.hid hW1
      have HW2 := Lib.hid hW2
      have HV := Lib.hid hv
      have HGK := Lib.hid hgk
      have hrp : (0 : Int) < (r : Int) := by omega
      unfold maxLen at hqm
      clear hrd0 hrd hlq hbq hnext hok hT2 hW1 hW2 hWE hbwc hv hVE hgk had
      go_wp2_with fail
      obtain ⟨a0, a1, a2, a3, a4, a5, a6, a7⟩ := cells8 HV.out
      have hgw2 : w.heap.size + 1 < wr.heap.size := by omega
      go_region_law (first
        | (go_simp; go_at_call 69; refine HBWC.out.mono ?_; rintro e w2 ⟨rfl, hb2⟩; have hs2 : wr.heap.size ≤ w2.heap.size := hb2.size; have HV2 := Lib.hid ((hb2.block (w.heap.size + 1) hgw2).trans HV.out); obtain ⟨b0, b1, b2, b3, b4, b5, b6, b7⟩ := cells8 HV2.out)
        | (go_simp; go_at_call 68; refine (block_r V W w2 (HT2.out.next hb2) HOK.out HW2.out HW1.out).mono ?_; rintro e w3 ⟨R, HRE, rfl, hb3⟩; have HV3 := Lib.hid ((hb3.block (w.heap.size + 1) (by omega)).trans HV2.out); obtain ⟨d0, d1, d2, d3, d4, d5, d6, d7⟩ := cells8 HV3.out; obtain ⟨z0, z1, z2, z3, z4, z5, z6, z7⟩ := froz8 HV3.out; have hs3 : w2.heap.size ≤ w3.heap.size := hb3.size))
      all_goals clear a0 a1 a2 a3 a4 a5 a6 a7 b0 b1 b2 b3 b4 b5 b6 b7 d0 d1 d2 d3 d4 d5 d6 d7 z0 z1 z2 z3 z4 z5 z6 z7
      all_goals by_cases hq64 : q = 64
      all_goals go_wp2
      all_goals
        obtain ⟨q1, q2, q3⟩ := set8_all w3 (w.heap.size + 1) V R 108 HV3.out _ rfl
        refine ⟨⟨j + 1, by omega, ⟨_, _, _, rfl, by omega, by omega, by unfold maxLen; omega, ?_⟩, ?_, ?_, ?_⟩, by simp only [lenV]; omega⟩
        · first
            | (intro h; exfalso; omega)
            | (intro _; rw [Nat.mul_succ])
        · rw [q1, HNX.out, ← HRE.out]
        · exact ((hbel.drew.trans (hb2.mono (by show _ ≤ wr.heap.size; omega))).trans (hb3.mono (by omega))).trans q2
        · exact (q3 g (by omega)).trans ((hb3.block g (by omega)).trans ((hb2.block g hgw).trans HGK.out))
    · have hjm : j = m := by omega
      subst hjm
      have hr0 : r = 0 := by omega
      subst hr0
      obtain ⟨V, hVE⟩ : ∃ V, V = blocksN beginN (padN l) j := ⟨_, rfl⟩
      have hok : V.ok := by rw [hVE]; exact blocksN_ok beginN_ok _ _
      rw [← hVE] at hv
      have hdg : digestN l = bytesOf V.list := by rw [hVE, HM.out]; rfl
      have hres : wr.heap[w.heap.size]? = some (.cells b32 81 (0, 0)) := (hbel.block _ (by omega)).trans HR1.out
      have hbb : Below w.heap.size w wr := HBW.out.trans (hbel.mono (by omega))
      have hsr : w.heap.size + 1 < wr.heap.size := by have := hbel.size; omega
      have HV := Lib.hid hv
      have HOK := Lib.hid hok
      have HDG := Lib.hid hdg
      have HRES := Lib.hid hres
      clear hv hVE hok hdg hres hbel hgk had
      go_wp2_with ((with_reducible refine at_load 17 ?_); refine wpList_load_row (o := ⟨some 17, .load 108 (.tmp 3), _, _, _, _⟩) rfl 108 (.tmp 3) rfl (w.heap.size + 1) rfl 108 (U32 V.list).toArray (0, 0) _ HV.out Tryz.underlying108 rfl info28 ?_)
      refine (digest_any V wr HOK.out).mono ?_
      rintro e w2 ⟨rfl, hb2⟩
      obtain ⟨D, hD⟩ : ∃ D, D = bytesOf V.list := ⟨_, rfl⟩
      rw [← hD]
      have hDl : D.length = 32 := by rw [hD, length_bytesOf]; rfl
      have hsz : (U8 D).toArray.size = 32 := by simp [U8, hDl]
      have hin : (Tryz.prog.info? 81).map (·.size) = some (U8 D).toArray.size := by rw [hsz]; exact info32
      have HRES2 := Lib.hid ((hb2.block w.heap.size (by omega)).trans HRES.out)
      have HSZ := Lib.hid hsz
      have HIN := Lib.hid hin
      have HD := Lib.hid hD
      clear hD hDl hsz hin
      go_wp2_with ((with_reducible refine at_store 2 ?_); refine wpList_store_named (o := ⟨none, .store 81 (.tmp 2) (.tmp 18), _, _, _, _⟩) rfl 81 (.tmp 2) (.tmp 18) rfl w.heap.size (U8 D).toArray rfl rfl 81 b32 HRES2.out HIN.out HSZ.out.symm (all_one8 D) ?_; intro w3 hw3)
      have hr3 : w3.heap[w.heap.size]? = some (.cells (U8 D).toArray 81 (0, 0)) := by rw [hw3.out]; exact setRow_heap _ _ _ _ _ _ HRES2.out
      refine bodyPost_ret (results_cell_row Tryz.results54 _ w3 w.heap.size 81 _ (0, 0) _ rfl hr3 Tryz.underlying81 rfl HIN.out) rfl ⟨by rw [HDG.out, HD.out], ?_⟩
      exact (hbb.trans (hb2.mono (by omega))).trans (below_row hw3.out (Nat.le_refl _))
end Go.Proofs.YtaokhkbfiplfmaaGreatDoor
end
section
namespace Go.Proofs.YtaokhkbfiplfmaaGreatDoor
set_option maxRecDepth 100000
end Go.Proofs.YtaokhkbfiplfmaaGreatDoor
end
section
namespace Go.Proofs.YtaokhkbfiplfmaaGreatDoor
set_option maxRecDepth 100000

/-- A secret, or its digest, and zeros behind it. -/
def keyN (l : List Nat) : List Nat := if 64 < l.length then digestN l else l
def blockM (l : List Nat) : List Nat := keyN l ++ List.replicate (64 - (keyN l).length) 0
/-- Each byte by exclusive or with m. -/
def maskN (k : List Nat) (m : Nat) : List Nat := k.map (· ^^^ m)
def tagN (s b : List Nat) : List Nat := digestN (maskN (blockM s) 92 ++ digestN (maskN (blockM s) 54 ++ b))

theorem length_dig (l : List Nat) : (digestN l).length = 32 := by unfold digestN; rw [length_bytesOf]; rfl
theorem dig_lt (l : List Nat) : ∀ x ∈ digestN l, x < 256 := bytesOf_lt _
theorem length_keyN (l : List Nat) : (keyN l).length ≤ 64 := by
  unfold keyN
  split
  · rw [length_dig]; omega
  · omega
theorem length_blockM (l : List Nat) : (blockM l).length = 64 := by
  have := length_keyN l
  simp [blockM]; omega
theorem keyN_lt (l : List Nat) (h : ∀ x ∈ l, x < 256) : ∀ x ∈ keyN l, x < 256 := by
  unfold keyN
  split
  · exact dig_lt l
  · exact h
theorem blockM_lt (l : List Nat) (h : ∀ x ∈ l, x < 256) : ∀ x ∈ blockM l, x < 256 := by
  intro x hx
  rcases List.mem_append.1 hx with h1 | h1
  · exact keyN_lt l h x h1
  · have := (List.mem_replicate.1 h1).2; omega
theorem length_maskN (k : List Nat) (m : Nat) : (maskN k m).length = k.length := by simp [maskN]
theorem xor_lt8 {a b : Nat} (ha : a < 256) (hb : b < 256) : a ^^^ b < 256 := Nat.xor_lt_two_pow (n := 8) ha hb
theorem maskN_lt (k : List Nat) (m : Nat) (hk : ∀ x ∈ k, x < 256) (hm : m < 256) : ∀ x ∈ maskN k m, x < 256 := by
  intro x hx
  simp only [maskN, List.mem_map] at hx
  obtain ⟨y, hy, rfl⟩ := hx
  exact xor_lt8 (hk y hy) hm
/-- The first j under the mask, the rest as they were. -/
def maskTo (k : List Nat) (m j : Nat) : List Nat := (k.take j).map (· ^^^ m) ++ k.drop j
theorem maskTo_zero (k : List Nat) (m : Nat) : maskTo k m 0 = k := by simp [maskTo]
theorem maskTo_all (k : List Nat) (m : Nat) : maskTo k m k.length = maskN k m := by simp [maskTo, maskN]
theorem length_maskTo (k : List Nat) (m j : Nat) : (maskTo k m j).length = k.length := by simp [maskTo]; omega
theorem maskTo_get (k : List Nat) (m j : Nat) : (maskTo k m j).getD j 0 = k.getD j 0 := by
  unfold maskTo
  by_cases h : j < k.length
  · have hl : ((k.take j).map (· ^^^ m)).length = j := by simp; omega
    rw [List.getD_eq_getElem?_getD, List.getElem?_append_right (by rw [hl]; exact Nat.le_refl _), hl, Nat.sub_self, List.getElem?_drop, Nat.add_zero, ← List.getD_eq_getElem?_getD]
  · have h1 : (maskTo k m j).length = k.length := length_maskTo k m j
    unfold maskTo at h1
    rw [List.getD_eq_getElem?_getD, List.getD_eq_getElem?_getD, List.getElem?_eq_none (by omega), List.getElem?_eq_none (by omega)]
theorem maskTo_set (k : List Nat) (m j : Nat) (h : j < k.length) : (maskTo k m j).set j (k.getD j 0 ^^^ m) = maskTo k m (j + 1) := by
  unfold maskTo
  have hl : ((k.take j).map (· ^^^ m)).length = j := by simp; omega
  have e : k.take (j + 1) = k.take j ++ [k[j]] := List.take_succ_eq_append_getElem h
  have eg : k.getD j 0 = k[j] := by rw [List.getD_eq_getElem?_getD, List.getElem?_eq_getElem h]; rfl
  rw [List.set_append_right _ _ (by rw [hl]; exact Nat.le_refl _), hl, Nat.sub_self, List.drop_eq_getElem_cons h, List.set_cons_zero, e, eg, List.map_append, List.append_assoc]
  rfl
theorem getD_lt8 {k : List Nat} (hk : ∀ x ∈ k, x < 256) (j : Nat) : k.getD j 0 < 256 := by
  rw [List.getD_eq_getElem?_getD]
  rcases h : k[j]? with _ | y
  · simp
  · exact hk y (List.mem_of_getElem? h)
end Go.Proofs.YtaokhkbfiplfmaaGreatDoor
end
section
namespace Go.Proofs.YtaokhkbfiplfmaaGreatDoor
set_option linter.unusedVariables false
open Go.ChangeShapes Go.WideShapes Go.ChangeAt Go.RowKit
end Go.Proofs.YtaokhkbfiplfmaaGreatDoor
end
section
namespace Go.Proofs.YtaokhkbfiplfmaaGreatDoor
set_option linter.unusedVariables false
open Go.ChangeShapes Go.WideShapes Go.ChangeAt Go.RowKit

theorem cinfo32 : (Tryz.prog.info? 81).map (·.size) = some 32 := by kernel_rfl
/-- A row of bytes, as a slice of its first cells reads. -/
theorem rd_first {w : World} {g : Nat} {F : Array Value} {l : List Nat} {t : TypeId} (n : Nat) (h : w.heap[g]? = some (.cells F t (0, 0))) (hF : F = (U8 l).toArray) : Rd w w.heap.size (some ⟨g, 0, none⟩) (U8 (l.take n)) := by
  intro k u hu
  refine ⟨_, rfl, (Array.getElem?_eq_some_iff.1 h).1, ?_⟩
  rw [at_add, cell_of_row w _ k _ _ (0, 0) h, hF]
  have hk : (U8 (l.take n))[k]? = (U8 l)[k]? ∨ (U8 (l.take n))[k]? = none := by
    simp only [U8, List.map_take, List.getElem?_take]
    split
    · exact .inl rfl
    · exact .inr rfl
  rcases hk with hk | hk
  · rw [hk] at hu; simpa using hu
  · rw [hk] at hu; cases hu

theorem valB_to (l : List Nat) (k : Nat) (h : k < l.length) : valB (l.take (k + 1)) = valB (l.take k) * 256 + l.getD k 0 := by
  rw [List.take_succ_eq_append_getElem h, valB_snoc, List.getD_eq_getElem?_getD, List.getElem?_eq_getElem h]; rfl
theorem valB_small (l : List Nat) (h : ∀ x ∈ l, x < 256) (k : Nat) (hk : k ≤ 4) : valB (l.take k) < 4294967296 := by
  have h1 := valB_lt (l.take k) (fun x hx => h x (List.mem_of_mem_take hx))
  have h2 : 256 ^ (l.take k).length ≤ 256 ^ 4 := Nat.pow_le_pow_right (by omega) (by simp; omega)
  omega

theorem or_byte63 (a b : Nat) (ha : a < 16777216) (hb : b < 256) : bits .or .i64 ((a : Int) * 256) (b : Int) = ((a * 256 + b : Nat) : Int) := by
  have e : (a : Int) * 256 = ((a * 256 : Nat) : Int) := by omega
  have h := Nat.two_pow_add_eq_or_of_lt (i := 8) (b := b) (by omega) a
  simp only [Nat.reducePow] at h
  have hab : a * 256 ||| b = a * 256 + b := by rw [Nat.mul_comm, ← h, Nat.mul_comm]
  rw [e]
  show IntKind.i64.wrap ((BitVec.ofInt 64 ((a * 256 : Nat) : Int) ||| BitVec.ofInt 64 (b : Int)).toNat : Int) = _
  rw [BitVec.toNat_or, ofInt_u64 _ (by omega), ofInt_u64 b (by omega), hab]
  exact IntWalk.i64_in _ (by omega)

set_option maxRecDepth 20000 in
theorem cut_any (l : List Nat) (F : Array Value) (hF : F = (U8 l).toArray) (w : World) (hb : ∀ x ∈ l, x < 256) (hl : l.length = 32) :
    Calls Tryz.prog 36 #[.agg F] w fun e w' => e = .returned (.int .i64 (valB (l.take 4) : Nat)) ∧ Below w.heap.size w w' := by
  have hsF : F.size = 32 := by rw [hF]; simp [U8, hl]
  have hiF : (Tryz.prog.info? 81).map (·.size) = some F.size := by rw [hsF]; exact cinfo32
  have hoF : F.all (·.oneCell') = true := by rw [hF]; exact all_one8 _
  have hrd := rd_first 4 (heap_alloc_new w (.cells F 81)) hF
  have HRD := Lib.hid hrd
  have HIF := Lib.hid hiF
  have HOF := Lib.hid hoF
  have HSF := Lib.hid hsF
  have HF := Lib.hid hF
  have HB := Lib.hid hb
  have HL := Lib.hid hl
  clear hiF hoF hsF hF hb hl hrd
  go_enter Tryz.func36, Tryz.ntmps36
  go_wp2
  go_loop [3, 5, 8] (fun t _ i => ∃ k : Nat, k ≤ 4 ∧ i = .int .i64 k ∧ t = .int .i64 (valB (l.take k) : Nat)) (fun _ _ i => 4 - (intOf i).toNat)
  case atStart => exact ⟨0, Nat.zero_le _, rfl, rfl⟩
  case round =>
    obtain ⟨k, hk, rfl, rfl⟩ := hrel
    by_cases hlt : k < 4
    · have hkl : k < (l.take 4).length := by rw [List.length_take, HL.out]; omega
      obtain ⟨ad, e, _, hc⟩ := HRD.out k _ (U8_at (l.take 4) k hkl)
      cases e
      have hx : (l.take 4)[k] < 256 := HB.out _ (List.mem_of_mem_take (List.getElem_mem hkl))
      have hv := valB_to l k (by rw [HL.out]; omega)
      have e0 : l.getD k 0 = (l.take 4)[k] := by
        rw [List.getD_eq_getElem?_getD, List.getElem?_eq_getElem (by rw [HL.out]; omega), List.getElem_take]; rfl
      rw [e0] at hv
      have hy := valB_small l HB.out k (by omega)
      rw [at_add] at hc
      have hy2 : valB (l.take k) < 16777216 := by
        have h1 := valB_lt (l.take k) (fun x hx => HB.out x (List.mem_of_mem_take hx))
        have h2 : 256 ^ (l.take k).length ≤ 256 ^ 3 := Nat.pow_le_pow_right (by omega) (by simp; omega)
        omega
      have HV := Lib.hid hv
      clear e0 hv
      generalize (l.take 4)[k] = x at *
      generalize valB (l.take k) = y at *
      clear hkl
      go_wp2
      go_round
      case rel => exact ⟨k + 1, by omega, by go_num, by rw [HV.out, or_byte63 y x hy2 hx]⟩
      case measure => simp [intOf]; omega
    · have e : k = 4 := by omega
      subst e
      go_wp2
      go_ret
      exact ⟨rfl, (Below.refl _ _).alloc (Nat.le_refl _) _⟩
end Go.Proofs.YtaokhkbfiplfmaaGreatDoor
end
section
namespace Go.Proofs.YtaokhkbfiplfmaaGreatDoor
set_option maxRecDepth 100000
set_option linter.unusedVariables false
open Go.ChangeShapes Go.WideShapes Go.ChangeAt Go.RowKit

theorem digits_ok (n : Nat) (w : World) (hn : n ≤ 4294967295) :
    Calls Tryz.prog 35 #[.int .i64 n] w fun e w' => ∃ g cap, e = .returned (.tuple #[.slice (some ⟨g, 0, none⟩) 10 cap, .int .i64 0]) ∧
      Rd w' w'.heap.size (some ⟨g, 0, none⟩) (U8 (dec n)) ∧ Below w.heap.size w w' := by
  obtain ⟨i0, hi, hz0, hz1, hz2⟩ := info_parts infoU8
  go_enter Tryz.func35, Tryz.ntmps35
  go_wp2_with (at_make; refine wpList_make_full _ rfl _ _ 26 rfl w.heap.size 5 i0 (.int .u8 0) 1 Tryz.underlying26 hi hz0 hz1 _ _ _ _ 10 rfl rfl (by omega) (by omega) ?b2 ?b3 (Nat.le_refl _) ?_)
  case b2 => rw [hz2]; omega
  case b3 => unfold maxLen; omega
  intro w1 hown hg
  have hown1 : w1.ownsRow w.heap.size 5 1 (.slice (some ⟨w.heap.size, 0, none⟩) 10 10) 10 (U8 (decUpto n 0)) := by
    rw [toList_madeCells_one] at hown
    rw [decUpto_zero, U8, List.map_replicate]
    exact hown
  have hbel : Below w.heap.size w w1 := (Below.refl _ _).grown hg (Nat.le_refl _) (by simp)
  clear hown hg
  go_wp2
  go_loopw [0, 5, 13] (fun m _ i wr => ∃ k : Nat, k ≤ 10 ∧ i = .int .i64 k ∧ m = .int .i64 (n / 10 ^ k : Nat) ∧ wr.ownsRow w.heap.size 5 1 (.slice (some ⟨w.heap.size, 0, none⟩) 10 10) 10 (U8 (decUpto n k)) ∧ Below w.heap.size w wr) (fun _ _ i _ => 10 - (intOf i).toNat)
  case atStart => exact ⟨0, Nat.zero_le _, rfl, by simp, hown1, hbel⟩
  case round =>
    clear hown1 hbel
    obtain ⟨k, hk, rfl, rfl, hown, hbel⟩ := hrel
    by_cases hlt : k < 10
    · have hc2 : ∃ v, wr.cell? ⟨w.heap.size, 9 - k, none⟩ = some v := by
        rw [hown.cellAt (9 - k) (by omega), U8, List.getElem?_map]
        rw [List.getElem?_eq_getElem (by rw [length_decUpto]; omega)]
        exact ⟨_, rfl⟩
      obtain ⟨v2, hc2⟩ := hc2
      have hf := hown.frozenAt (9 - k)
      have hst := (hown.stored (9 - k) (.int .u8 ((n / 10 ^ k % 10 : Nat) : Int))).1
      have hset : (U8 (decUpto n k)).set (9 - k) (.int .u8 ((n / 10 ^ k % 10 : Nat) : Int)) = U8 (decUpto n (k + 1)) := by
        rw [← decUpto_set n k hlt, U8, U8, List.map_set]
      rw [hset] at hst
      have hnx : n / 10 ^ (k + 1) = n / 10 ^ k / 10 := by rw [Nat.pow_succ, Nat.div_div_eq_div_mul]
      have hy : n / 10 ^ k ≤ 4294967295 := Nat.le_trans (Nat.div_le_self _ _) hn
      have HNX := Lib.hid hnx
      clear hset hnx
      generalize n / 10 ^ k = y at *
      have HST := Lib.hid hst
      have HOW := Lib.hid hown
      clear hst hown
      have f1 : ((9 : Int) - (k : Int)).toNat = 9 - k := by omega
      have f2 : IntKind.i64.wrap ((9 : Int) - (k : Int)) = 9 - (k : Int) := IntWalk.i64_in _ (by omega)
      have f3 : (0 : Int) ≤ 9 - (k : Int) := by omega
      have f4 : 9 - (k : Int) < 10 := by omega
      go_wp2
      go_roundw
      case rel =>
        refine ⟨k + 1, by omega, by go_num, ?_, ?_, hbel.setCell (Nat.le_refl _) _⟩
        · rw [HNX.out]; go_num
        · exact HST.out
      case measure => simp [intOf]; omega
    · have e1 : k = 10 := by omega
      subst e1
      rw [decUpto_all] at hown
      go_wp2
      go_ret2
      exact ⟨_, _, rfl, Rd.of_own hown, hbel⟩
end Go.Proofs.YtaokhkbfiplfmaaGreatDoor
end
section
namespace Go.Proofs.YtaokhkbfiplfmaaGreatDoor
set_option linter.unusedVariables false
open Go.ChangeShapes Go.WideShapes Go.ChangeAt Go.RowKit
end Go.Proofs.YtaokhkbfiplfmaaGreatDoor
end
section
namespace Go.Proofs.YtaokhkbfiplfmaaGreatDoor
set_option maxRecDepth 100000
set_option linter.unusedVariables false
open Go.ChangeShapes Go.WideShapes Go.ChangeAt Go.RowKit
end Go.Proofs.YtaokhkbfiplfmaaGreatDoor
end
section
namespace Go.Proofs.YtaokhkbfiplfmaaGreatDoor
set_option linter.unusedVariables false
open Go.ChangeShapes Go.WideShapes Go.ChangeAt Go.RowKit
end Go.Proofs.YtaokhkbfiplfmaaGreatDoor
end
section
namespace Go.Proofs.YtaokhkbfiplfmaaGreatDoor
set_option linter.unusedVariables false

/-- The digits of a stripe's tag. -/
def tagS (s l : List Nat) : List Nat := dec (valB ((tagN s (83 :: l)).take 4))
theorem tagS_len (s l : List Nat) : (tagS s l).length = 10 := length_dec _
theorem tagS_lt10 (s l : List Nat) : ∀ x ∈ tagS s l, x < 10 := dec_lt10 _
theorem tagS_lt (s l : List Nat) : ∀ x ∈ tagS s l, x < 256 := dec_lt _
/-- The digits of what a reading says, and of its tag. -/
def encD (l : List K) (r : Rg) : List Nat := (lputX r).2 ++ tagS (findK l r.key).sec (lputX r).2
def encX (l : List K) (r : Rg) : Int × List Nat :=
  if isR l = false then (1, []) else if (lputX r).1 ≠ 0 then ((lputX r).1, []) else if findE l r.key ≠ 0 then (findE l r.key, []) else (putE (encD l r), putL (encD l r))
theorem slget_len {l : List Nat} {r : Rg} (h : lgetX l = (0, r)) : l.length ≤ 40 := by
  obtain ⟨x, q, v, rfl, _, hx, hs, _, _⟩ := lget_ok h
  rw [splitX] at hs
  split at hs
  · rename_i h1
    exact (h1 (Prod.mk.inj hs).1).elim
  · split at hs
    · exact absurd (Prod.mk.inj hs).1 (by decide)
    · rename_i h2
      have h3 : (totX (widL (x : Int))).1 ≤ 40 := by
        rcases (show x = 1 ∨ x = 2 ∨ x = 3 ∨ x = 4 by omega) with rfl | rfl | rfl | rfl <;> decide +kernel
      omega
theorem slput_len {r : Rg} {p : List Nat} {E : Int} (h : lputX r = (E, p)) : p.length ≤ 40 := by
  by_cases hE : E = 0
  · subst hE
    exact slget_len (lput_get h)
  · rw [lput_not h hE]; simp
end Go.Proofs.YtaokhkbfiplfmaaGreatDoor
end
section
namespace Go.Proofs.YtaokhkbfiplfmaaGreatDoor
set_option linter.unusedVariables false

theorem isR_one' {k : K} (h : k.right = true) : isR [k] = true := by
  rw [isR_true]
  intro i hi
  have : i = 0 := by simp at hi; exact hi
  subst this
  simp [goodAt, h]
theorem bput_in {n w : Int} (h : 0 ≤ n) (h1 : 0 ≤ w) (h2 : w ≤ 18) (h3 : n.toNat < 10 ^ w.toNat) : bputE n w = 0 := by
  rw [bputE, if_neg (by omega), if_neg (by omega)]
theorem joinR_each : ∀ (vs ws : List Int) (out : List Nat), (∀ i, i < vs.length → bputE (vs.getD i 0) (ws.getD i 0) = 0) → (joinR vs ws out).1 = 0
  | [], ws, out, h => rfl
  | v :: vs, ws, out, h => by
    have h0 : bputE v (ws.headD 0) = 0 := by
      have := h 0 (by simp)
      rw [show ws.headD 0 = ws.getD 0 0 from by cases ws <;> rfl]
      exact this
    rw [joinR, if_pos h0]
    apply joinR_each vs ws.tail
    intro i hi
    have := h (i + 1) (by simpa using hi)
    rw [show ws.tail.getD i 0 = ws.getD (i + 1) 0 from by cases ws <;> simp]
    simpa using this
/-- What fits is told as digits. -/
theorem lput_fits {r : Rg} (ha : argB r = true) (hf : fitB r = true) : (lputX r).1 = 0 := by
  obtain ⟨h1, h2, h3, h4, h5⟩ := (argB_iff r).1 ha
  obtain ⟨hn, hd, hp, hu⟩ := (okT_iff r.t).1 h1
  obtain ⟨n1, n2, n3, n4, n5, n6, n7, n8, n9, n10⟩ := (numsB_iff r.t).1 hn
  obtain ⟨d1, d2, d3, d4, d5, d6, d7⟩ := (daysB_iff r.t).1 hd
  obtain ⟨s1, s2, s3, s4⟩ := (suitB_iff _ _ _).1 h2
  obtain ⟨f1, f2⟩ := (fitB_iff r).1 hf
  have hus : 0 ≤ r.t.uses ∧ r.t.uses ≤ 20 := by
    rw [usesB] at hu
    split at hu
    · simp at hu; omega
    · have : r.t.uses = r.t.kind.tmod 3 := by simpa using hu
      rw [this]
      rcases (show r.t.kind = 1 ∨ r.t.kind = 2 ∨ r.t.kind = 3 ∨ r.t.kind = 4 by omega) with e | e | e | e <;> rw [e] <;> decide
  have hpl : 0 ≤ r.t.frm ∧ 0 ≤ r.t.till ∧ (r.t.kind = 3 → r.t.frm ≤ 6 ∧ r.t.till ≤ 6) ∧ r.t.frm ≤ 99 ∧ r.t.till ≤ 99 := by
    rw [placeB] at hp
    split at hp
    · simp at hp; omega
    · rename_i hk
      simp [isN] at hp
      omega
  rw [lputX, if_neg (by rw [ha]; decide), if_neg (by rw [hf]; decide), joinX]
  have hlen : (valL r).length = (widL r.t.kind).length ∧ (valL r).length ≤ 20 := by
    rw [widL, if_pos ⟨n3, n4⟩, valL, List.length_append, List.length_append, valF_len ⟨n3, n4⟩]
    refine ⟨rfl, ?_⟩
    rw [← valF_len ⟨n3, n4⟩, valF]
    split <;> simp
  rw [if_neg (by omega)]
  apply joinR_each
  rcases (show r.t.kind = 1 ∨ r.t.kind = 2 ∨ r.t.kind = 3 ∨ r.t.kind = 4 by omega) with e | e | e | e
  · rw [valL, valF, if_neg (by omega), widL, if_pos (by omega), widF, if_neg (by omega), if_neg (by omega)]
    intro i hi
    rcases (show i = 0 ∨ i = 1 ∨ i = 2 ∨ i = 3 ∨ i = 4 ∨ i = 5 ∨ i = 6 ∨ i = 7 ∨ i = 8 ∨ i = 9 ∨ i = 10 ∨ i = 11 by simp at hi; omega) with rfl | rfl | rfl | rfl | rfl | rfl | rfl | rfl | rfl | rfl | rfl | rfl <;>
      (refine bput_in ?_ (by decide) (by decide) ?_ <;> simp <;> omega)
  · rw [valL, valF, if_neg (by omega), widL, if_pos (by omega), widF, if_neg (by omega), if_neg (by omega)]
    intro i hi
    rcases (show i = 0 ∨ i = 1 ∨ i = 2 ∨ i = 3 ∨ i = 4 ∨ i = 5 ∨ i = 6 ∨ i = 7 ∨ i = 8 ∨ i = 9 ∨ i = 10 ∨ i = 11 by simp at hi; omega) with rfl | rfl | rfl | rfl | rfl | rfl | rfl | rfl | rfl | rfl | rfl | rfl <;>
      (refine bput_in ?_ (by decide) (by decide) ?_ <;> simp <;> omega)
  · have := hpl.2.2.1 e
    rw [valL, valF, if_neg (by omega), widL, if_pos (by omega), widF, if_pos e]
    intro i hi
    rcases (show i = 0 ∨ i = 1 ∨ i = 2 ∨ i = 3 ∨ i = 4 ∨ i = 5 ∨ i = 6 ∨ i = 7 ∨ i = 8 ∨ i = 9 ∨ i = 10 ∨ i = 11 by simp at hi; omega) with rfl | rfl | rfl | rfl | rfl | rfl | rfl | rfl | rfl | rfl | rfl | rfl <;>
      (refine bput_in ?_ (by decide) (by decide) ?_ <;> simp <;> omega)
  · rw [valL, valF, if_pos e, widL, if_pos (by omega), widF, if_neg (by omega), if_pos e]
    intro i hi
    rcases (show i = 0 ∨ i = 1 ∨ i = 2 ∨ i = 3 ∨ i = 4 ∨ i = 5 ∨ i = 6 ∨ i = 7 ∨ i = 8 ∨ i = 9 ∨ i = 10 ∨ i = 11 ∨ i = 12 by simp at hi; omega) with rfl | rfl | rfl | rfl | rfl | rfl | rfl | rfl | rfl | rfl | rfl | rfl | rfl <;>
      (refine bput_in ?_ (by decide) (by decide) ?_ <;> simp <;> omega)
/-- A stripe is encoded, with a key alone and a journey that suits, just if it has room. -/
theorem encX_one {k : K} (h : k.right = true) (t : Tk) (left inn : Int) (hs : suitB t.uses left inn = true) : (encX [k] ⟨t, k.id, left, inn, 0⟩).1 = 0 ↔ roomS t = true := by
  have hk : 0 ≤ k.id ∧ k.id ≤ 99 := by
    have := h
    simp [K.right, rightN] at this
    exact ⟨this.1, this.2.1⟩
  have hE : findE [k] k.id = 0 := by rw [findE, if_pos (isR_one' h)]; simp
  rw [encX, if_neg (by rw [isR_one' h]; decide), roomS_iff]
  have hA := argB_iff ⟨t, k.id, left, inn, 0⟩
  have hF := fitB_iff ⟨t, k.id, left, inn, 0⟩
  by_cases h0 : (lputX ⟨t, k.id, left, inn, 0⟩).1 = 0
  · have hp : lputX ⟨t, k.id, left, inn, 0⟩ = (0, (lputX ⟨t, k.id, left, inn, 0⟩).2) := Prod.ext h0 rfl
    obtain ⟨ha, hf, hj⟩ := lput_ok hp
    rw [if_neg (by omega), if_neg (by show ¬ findE [k] k.id ≠ 0; omega)]
    have hl := slput_len hp
    have h9 : ∀ x ∈ (lputX ⟨t, k.id, left, inn, 0⟩).2, x ≤ 9 := by
      rw [show (lputX ⟨t, k.id, left, inn, 0⟩).2 = (joinX (valL ⟨t, k.id, left, inn, 0⟩) (widL t.kind)).2 from (congrArg Prod.snd hj).symm]
      exact (join_len _ _).2
    have hput : putE (encD [k] ⟨t, k.id, left, inn, 0⟩) = 0 := by
      rw [putE, if_neg, if_pos]
      · rw [digitsOk, List.all_eq_true]
        intro x hx
        rw [encD, List.mem_append] at hx
        rcases hx with hx | hx
        · simpa using h9 x hx
        · have := tagS_lt10 _ _ x hx
          simp; omega
      · rw [encD, List.length_append, tagS_len]; omega
    show putE _ = 0 ↔ _
    rw [hput]
    have h1 := hA.1 ha
    have h2 := hF.1 hf
    exact ⟨fun _ => ⟨h1.1, h2.2, h2.1⟩, fun _ => rfl⟩
  · rw [if_pos h0]
    constructor
    · intro h; exact (h0 h).elim
    · rintro ⟨h1, h2, h3⟩
      exact absurd (lput_fits (hA.2 ⟨h1, hs, hk.1, hk.2, rfl⟩) (hF.2 ⟨h3, h2⟩)) h0
end Go.Proofs.YtaokhkbfiplfmaaGreatDoor
end
section
namespace Go.Proofs.YtaokhkbfiplfmaaGreatDoor
set_option linter.unusedVariables false
open Go.ChangeShapes Go.WideShapes Go.ChangeAt Go.RowKit

set_option maxRecDepth 20000 in
theorem pright_any (id f t : Int) (n : Nat) (A : Option Addr) (c : Nat) (w : World) (hn : n ≤ 9223372036854775807) :
    Calls Tryz.prog 19 #[.agg #[.int .i64 id, .slice A n c, .int .i64 f, .int .i64 t]] w fun e w' => e = .returned (.bool (rightN id n f t)) ∧ Below w.heap.size w w' := by
  go_enter Tryz.func19, Tryz.ntmps19
  go_wp2
  all_goals
    go_ret
    refine ⟨congrArg Ending.returned (congrArg Value.bool ?_), (Below.refl _ _).alloc (Nat.le_refl _) _⟩
    rw [Bool.eq_iff_iff]
    simp [rightN]
    try omega
end Go.Proofs.YtaokhkbfiplfmaaGreatDoor
end
