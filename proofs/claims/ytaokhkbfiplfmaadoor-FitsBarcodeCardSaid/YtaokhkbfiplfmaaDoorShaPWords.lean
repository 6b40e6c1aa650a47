/-
  Contracts for blockWords and digest of package sha: the sixteen words of sixty-four bytes, and the thirty-two bytes of eight words. Conditions: the rows read as bytes and words.
  Contract for digest of package sha: the thirty-two bytes of eight words. Conditions: the words fit 32 bits.
  Contract for Sum of package sha: the digest of bytes. Conditions: the slice reads as bytes, at most 5000 of them; the package's tables hold what its text lays.
  The digest, reckoned so that the kernel can follow it: each number is reckoned out before it is used again. No memory and no program here.
  Plain facts on bytes for layer 3 (mac): a secret's block, a block under a mask, the tag. No memory and no program here.
  What package barcode answers, plainly: the tag, what a reading is encoded as, what a barcode says, its version; that these are one another's, what a key more changes, and that a tag that is turned is refused. No program; conditions: none.
  Which readings a barcode's Encode takes with a ring of one right key, plainly. No program; conditions: none.
  Two rows of bytes joined: slices.Concat of a block of two slices. Conditions: at most 2^47 bytes, and at least one.
  Contract for masked of package mac: each byte of a block by exclusive or with a mask. Conditions: the bytes fit 8 bits.
  The last step that laws share: a law that answered true and turned nothing old meets its row; and how arguments are opened. Conditions: none of its own.
  The digest of a slice that may be nil, said of its length; what a literal with a mark reads as. Conditions: as for Sum.
  Contract for the comparison of bytes: equal lists are told equal. Conditions: the lists' lengths fit an int.
  Contract for the reference's Words: just the words that bits.Words gives. Conditions: at most 4000 bytes.
  Contract for the reference's Bytes: just the bytes that bits.Bytes gives. Conditions: at most 1000 words.
  Contract for the reference's Sum of layer 2: the digest of bytes. Conditions: the slice reads as bytes, at most 5000 of them.
  What laws over digests share: the contracts of padding, of the digest and of the reference's, said of a named answer; and how bytes that came in are opened where they may be nil. Conditions: at most 5000 bytes.
-/
import Derived.Test.YtaokhkbfiplfmaaDoorShaSched
import Derived.Test.YtaokhkbfiplfmaaDoorMath
import Derived.Test.YtaokhkbfiplfmaaDoorFitsP
import Derived.Test.YtaokhkbfiplfmaaDoorMem
import Derived.Carry
import Derived.ChangeSlices
section
namespace Go.Proofs.YtaokhkbfiplfmaaDoor
set_option maxRecDepth 100000
set_option linter.unusedVariables false
open Go.ChangeShapes Go.WideShapes Go.ChangeAt Go.RowKit

theorem list16 (W : List Nat) (h : W.length = 16) : ∃ x0 x1 x2 x3 x4 x5 x6 x7 x8 x9 x10 x11 x12 x13 x14 x15, W = [x0, x1, x2, x3, x4, x5, x6, x7, x8, x9, x10, x11, x12, x13, x14, x15] := by
  match W, h with
  | [x0, x1, x2, x3, x4, x5, x6, x7, x8, x9, x10, x11, x12, x13, x14, x15], _ => exact ⟨x0, x1, x2, x3, x4, x5, x6, x7, x8, x9, x10, x11, x12, x13, x14, x15, rfl⟩
theorem block_list (h : St) (W : List Nat) (w : World) (hT : Tabs w) (hh : h.ok) (hx : ∀ x ∈ W, x < 4294967296) (hl : W.length = 16) :
    Calls Tryd.prog 53 #[h.val, .agg (U32 W).toArray] w fun e w' => e = .returned (blockN h W).val ∧ Below w.heap.size w w' := by
  obtain ⟨x0, x1, x2, x3, x4, x5, x6, x7, x8, x9, x10, x11, x12, x13, x14, x15, rfl⟩ := list16 W hl
  exact block_any h x0 x1 x2 x3 x4 x5 x6 x7 x8 x9 x10 x11 x12 x13 x14 x15 w hT hh hx
theorem info29 : (Tryd.prog.info? 103).map (·.size) = some 16 := by kernel_rfl
theorem info32 : (Tryd.prog.info? 49).map (·.size) = some 32 := by kernel_rfl
theorem sizeU32 : (Tryd.prog.info? 100).map (·.size) = some 1 := by kernel_rfl
theorem sizeU8 : (Tryd.prog.info? 5).map (·.size) = some 1 := by kernel_rfl

section
variable {P : Program}
/-- The walk stands at a call into slot d. -/
theorem at_calls (d : Nat) {ops : Array Oper} {rest : List Oper} {c : Call} {t : TypeId} {p : String} {af : Array Edge} {g : Option (Nat × Bool)} {a : Act} {w : World} {Q : Exit → Act → World → Prop} (h : wpList P ops Q (⟨some d, .call c, t, p, af, g⟩ :: rest) a w) : wpList P ops Q (⟨some d, .call c, t, p, af, g⟩ :: rest) a w := h
end
theorem splice_all (cur cs : List Value) (h : cs.length = cur.length) : splice cur 0 cs = cs := by
  unfold splice
  simp [h]

theorem words_len (l : List Nat) (n : Nat) (hn : l.length = n) (A : Option Addr) (c : Nat) (w : World) (hA : Rd w w.heap.size A (U8 l)) (hb : ∀ x ∈ l, x < 256) (hl : n ≤ 4000) (h4 : n % 4 = 0) :
    Calls Tryd.prog 67 #[.slice A n c] w fun e w' => ∃ g cap, e = .returned (.tuple #[.slice (some ⟨g, 0, none⟩) (n / 4) cap, .int .i64 0]) ∧
      w'.ownsRow w.heap.size 100 1 (.slice (some ⟨g, 0, none⟩) (n / 4) cap) (n / 4) (U32 (wordsOf l)) ∧ Below w.heap.size w w' := by
  subst hn
  exact words_ok l A c w hA hb hl h4
theorem bytes_len (l : List Nat) (n : Nat) (hn : l.length = n) (A : Option Addr) (c : Nat) (w : World) (hA : Rd w w.heap.size A (U32 l)) (hb : ∀ x ∈ l, x < 4294967296) (hl : n ≤ 1000) :
    Calls Tryd.prog 68 #[.slice A n c] w fun e w' => ∃ g cap, e = .returned (.slice (some ⟨g, 0, none⟩) (4 * n) cap) ∧
      w'.ownsRow w.heap.size 5 1 (.slice (some ⟨g, 0, none⟩) (4 * n) cap) (4 * n) (U8 (bytesOf l)) ∧ Below w.heap.size w w' := by
  subst hn
  exact bytes_ok l A c w hA hb hl

theorem row_spliced {w3 : World} {g : Nat} {W : List Nat} {t : TypeId} (h : w3.heap[g]? = some (.cells (splice z16.toList 0 (U32 W)).toArray t (0, 0))) (hW : W.length = 16) : w3.heap[g]? = some (.cells (U32 W).toArray t (0, 0)) := by
  rw [splice_all _ _ (by rw [U32, List.length_map, hW]; rfl)] at h
  exact h
theorem own_cells {w w2 : World} {base : Nat} {e : TypeId} {g n cap : Nat} {xs : List Value} (h : w.ownsRow base e 1 (.slice (some ⟨g, 0, none⟩) n cap) n xs) (hb : Below w.heap.size w w2) : ∀ j v, xs[j]? = some v → w2.cell? ((⟨g, 0, none⟩ : Addr).add j) = some v := by
  intro j v hv
  obtain ⟨ad, he, _, hc⟩ := (Rd.of_own h).next hb j v hv
  cases he
  exact hc
theorem U32_length (l : List Nat) : (U32 l).length = l.length := by simp [U32]
theorem U8_length (l : List Nat) : (U8 l).length = l.length := by simp [U8]

set_option maxRecDepth 20000 in
theorem blockWords_any (lp : List Nat) (ad : Addr) (n c : Nat) (w : World) (hA : Rd w w.heap.size (some ad) (U8 lp)) (hb : ∀ x ∈ lp, x < 256) (hl : lp.length = n) (h64 : 64 ≤ n) (hc : n ≤ c) (hcm : c ≤ maxLen) :
    Calls Tryd.prog 54 #[.slice (some ad) n c] w fun e w' => e = .returned (.agg (U32 (wordsOf (lp.take 64))).toArray) ∧ Below w.heap.size w w' := by
  unfold maxLen at hcm
  have hA64 : Rd w w.heap.size (some ad) (U8 (lp.take 64)) := by
    intro k u hu
    refine hA k u ?_
    simp only [U8, List.map_take, List.getElem?_take] at hu ⊢
    split at hu
    · exact hu
    · cases hu
  have hlt : (lp.take 64).length = 64 := by simp; omega
  have hbt : ∀ x ∈ lp.take 64, x < 256 := fun x hx => hb x (List.mem_of_mem_take hx)
  have HA := Lib.hid hA64
  have HL := Lib.hid hlt
  have HB := Lib.hid hbt
  clear hA hb hl hA64 hlt hbt
  generalize lp.take 64 = q at *
  go_enter Tryd.func54, Tryd.ntmps54
  go_wp2_with fail
  refine (words_len q 64 HL.out (some ad) c _ ((HA.out.alloc (Nat.le_refl _) _).more (by simp)) HB.out (by omega) (by omega)).mono ?_
  rintro e w1 ⟨g1, c1, rfl, hown1, hb1⟩
  have hb01 : Below w.heap.size w w1 := ((Below.refl _ _).alloc (Nat.le_refl _) _).trans (hb1.mono (by simp))
  have hs1 : w.heap.size + 1 ≤ w1.heap.size := by have := hb1.size; simpa using this
  have hres : w1.heap[w.heap.size]? = some (.cells z16 103 (0, 0)) := (hb1.block _ (by simp)).trans (heap_alloc_new w _)
  have hW : (wordsOf q).length = 16 := by rw [length_wordsOf, HL.out]
  have HO := Lib.hid hown1
  have HRES := Lib.hid hres
  have HW := Lib.hid hW
  clear hown1 hb1 hres hW
  obtain ⟨W, hWE⟩ : ∃ W, W = wordsOf q := ⟨_, rfl⟩
  rw [← hWE] at HO HW
  have HWE := Lib.hid hWE
  have hsz : (U32 W).toArray.size = 16 := by simp [U32, HW.out]
  have hin : (Tryd.prog.info? 103).map (·.size) = some (U32 W).toArray.size := by rw [hsz]; exact info29
  have HSZ := Lib.hid hsz
  have HIN := Lib.hid hin
  clear hWE hsz hin
  go_wp2_with (first
    | ((with_reducible refine at_store 5 ?_); refine wpList_store_named (o := ⟨none, .store 103 (.tmp 5) (.tmp 12), _, _, _, _⟩) rfl 103 (.tmp 5) (.tmp 12) rfl w1.heap.size z16 rfl rfl 103 z16 (heap_alloc_new w1 _) info29 rfl (all_one32 (List.replicate 16 0)) ?_; intro w2 hw2)
    | ((with_reducible refine at_calls 15 ?_); refine wpList_copy_splice (o := ⟨some 15, _, _, _, _, _⟩) rfl (.tmp 13) (.tmp 14) 112 112 rfl 100 Tryd.underlying112 sizeU32 (some ⟨w1.heap.size, 0, none⟩) (some ⟨g1, 0, none⟩) 16 16 16 c1 rfl rfl w1.heap.size 0 z16.toList 103 (row_made hw2.out).2.1 (U32 W) ((U32_length W).trans HW.out) (fun _ => ⟨rfl, _, rfl, own_cells HO.out (row_made hw2.out).2.2⟩) (Nat.le_of_eq ((congrArg (0 + ·) (U32_length W)).trans (by rw [HW.out]; rfl))) (U32_one W) w1.heap.size w2 (Below.refl _ _) (Nat.le_refl _) ?_; intro w3 hw3 hb3)
    | ((with_reducible refine at_load 16 ?_); have hw3' := row_spliced hw3.out HW.out; refine wpList_load_row (o := ⟨some 16, .load 103 (.tmp 5), _, _, _, _⟩) rfl 103 (.tmp 5) rfl w1.heap.size rfl 103 (U32 W).toArray (0, 0) _ hw3' Tryd.underlying103 rfl (HIN.out) ?_; clear hw3')
    | ((with_reducible refine at_store 2 ?_); refine wpList_store_named (o := ⟨none, .store 103 (.tmp 2) (.tmp 16), _, _, _, _⟩) rfl 103 (.tmp 2) (.tmp 16) rfl w.heap.size (U32 W).toArray rfl rfl 103 z16 ((hb3.block _ (by omega)).trans (((row_made hw2.out).2.2.block _ (by omega)).trans HRES.out)) HIN.out HSZ.out.symm (all_one32 W) ?_; intro w4 hw4))
  have hr4 : w4.heap[w.heap.size]? = some (.cells (U32 W).toArray 103 (0, 0)) := by
    rw [hw4.out]; exact setRow_heap _ _ _ _ _ _ ((hb3.block _ (by omega)).trans (((row_made hw2.out).2.2.block _ (by omega)).trans HRES.out))
  refine bodyPost_ret (results_cell_row Tryd.results54 _ w4 w.heap.size 103 _ (0, 0) _ rfl hr4 Tryd.underlying103 rfl HIN.out) rfl ⟨by rw [HWE.out], ?_⟩
  exact ((hb01.trans ((row_made hw2.out).2.2.mono (by omega))).trans (hb3.mono (by omega))).trans (below_row hw4.out (Nat.le_refl _))
end Go.Proofs.YtaokhkbfiplfmaaDoor
end
section
namespace Go.Proofs.YtaokhkbfiplfmaaDoor
set_option maxRecDepth 100000
set_option linter.unusedVariables false
open Go.ChangeShapes Go.WideShapes Go.ChangeAt Go.RowKit

theorem row_spliced8 {w3 : World} {g : Nat} {W : List Nat} {t : TypeId} (h : w3.heap[g]? = some (.cells (splice b32.toList 0 (U8 W)).toArray t (0, 0))) (hW : W.length = 32) : w3.heap[g]? = some (.cells (U8 W).toArray t (0, 0)) := by
  rw [splice_all _ _ (by rw [U8, List.length_map, hW]; rfl)] at h
  exact h

set_option maxRecDepth 100000 in
set_option maxHeartbeats 800000 in
theorem digest_any (h : St) (w : World) (hh : h.ok) :
    Calls Tryd.prog 55 #[h.val] w fun e w' => e = .returned (.agg (U8 (bytesOf h.list)).toArray) ∧ Below w.heap.size w w' := by
  obtain ⟨W, hWE⟩ : ∃ W, W = bytesOf h.list := ⟨_, rfl⟩
  have hW : W.length = 32 := by rw [hWE, length_bytesOf]; rfl
  have hsz : (U8 W).toArray.size = 32 := by simp [U8, hW]
  have hin : (Tryd.prog.info? 49).map (·.size) = some (U8 W).toArray.size := by rw [hsz]; exact info32
  rw [← hWE]
  have HWE := Lib.hid hWE
  have HW := Lib.hid hW
  have HSZ := Lib.hid hsz
  have HIN := Lib.hid hin
  clear hWE hW hsz hin
  unfold St.val
  go_enter Tryd.func55, Tryd.ntmps55
  go_wp2_with ((with_reducible refine at_store 3 ?_); refine wpList_store_named (o := ⟨none, .store 49 (.tmp 3) (.tmp 4), _, _, _, _⟩) rfl 49 (.tmp 3) (.tmp 4) rfl (w.heap.size + 1 + 1) b32 rfl rfl 49 b32 sched_here info32 rfl (all_one8 (List.replicate 32 0)) ?_; intro w0 hw0)
  obtain ⟨hs0, hbl0, hbl1, hbl2, hb0⟩ := three_made hw0.out
  clear hw0
  have HS0 := Lib.hid hs0
  have HB0 := Lib.hid hbl0
  have HB1 := Lib.hid hbl1
  have HB2 := Lib.hid hbl2
  clear hs0 hbl0 hbl1 hbl2
  have hrd : Rd w0.drew w0.drew.heap.size (some ⟨w.heap.size, 0, none⟩) (U32 h.list) := by
    intro k u hu
    refine ⟨_, rfl, by show w.heap.size < w0.heap.size; rw [HS0.out]; omega, ?_⟩
    have h0 : w0.drew.heap[w.heap.size]? = some (.cells (U32 h.list).toArray 101 (0, 0)) := HB0.out
    rw [at_add, cell_of_row w0.drew _ k _ _ (0, 0) h0]
    simpa using hu
  have HRD := Lib.hid hrd
  have HB := Lib.hid hb0
  clear hrd hb0
  go_region_held3 (fun _ => True) (trivial) (first
    | (refine step_copy_splice (o := ⟨some 8, _, _, _, _, _⟩) (by rfl) (.tmp 5) (.tmp 7) 24 24 (by rfl) 5 Tryd.underlying24 sizeU8 (some ⟨w.heap.size + 1 + 1, 0, none⟩) (some ⟨g1, 0, none⟩) 32 32 32 c1 (by rfl) (by rfl) (w.heap.size + 1 + 1) 0 b32.toList 49 H12.out (U8 W) ((U8_length W).trans HW.out) (fun _ => ⟨rfl, _, rfl, own_cells HO.out (Below.refl _ _)⟩) (Nat.le_of_eq ((congrArg (0 + ·) (U8_length W)).trans (by rw [HW.out]; rfl))) (U8_one W) (w.heap.size + 1 + 1) w1 (Below.refl _ _) (Nat.le_refl _) ?_; intro w3 hw3 hb3)
    | (go_at_call 68; refine (bytes_len h.list 8 rfl (some ⟨w.heap.size, 0, none⟩) 8 w0.drew HRD.out (St.list_lt hh) (by omega)).mono ?_; rintro e w1 ⟨g1, c1, rfl, hown1, hb1⟩; rw [← HWE.out] at hown1; have hs1 : w.heap.size + 1 + 1 + 1 ≤ w1.heap.size := (by have h7 := hb1.size; have h8 := HS0.out; have h9 : w0.drew.heap.size = w0.heap.size := rfl; omega); have H11 := Lib.hid ((hb1.block (w.heap.size + 1) (by show _ < w0.heap.size; rw [HS0.out]; omega)).trans HB1.out); have H12 := Lib.hid ((hb1.block (w.heap.size + 1 + 1) (by show _ < w0.heap.size; rw [HS0.out]; omega)).trans HB2.out); have hb01 : Below w.heap.size w w1 := HB.out.drew.trans (hb1.mono HB.out.size); have HO := Lib.hid hown1; clear hown1 hb1))
  go_wp2_with (first
    | ((with_reducible refine at_load 9 ?_); have hw3' := row_spliced8 hw3.out HW.out; refine wpList_load_row (o := ⟨some 9, .load 49 (.tmp 3), _, _, _, _⟩) rfl 49 (.tmp 3) rfl (w.heap.size + 1 + 1) rfl 49 (U8 W).toArray (0, 0) _ hw3' Tryd.underlying49 rfl (HIN.out) ?_; clear hw3')
    | ((with_reducible refine at_store 2 ?_); refine wpList_store_named (o := ⟨none, .store 49 (.tmp 2) (.tmp 9), _, _, _, _⟩) rfl 49 (.tmp 2) (.tmp 9) rfl (w.heap.size + 1) (U8 W).toArray rfl rfl 49 b32 ((hb3.block _ (by omega)).trans H11.out) HIN.out HSZ.out.symm (all_one8 W) ?_; intro w4 hw4))
  have hr4 : w4.heap[w.heap.size + 1]? = some (.cells (U8 W).toArray 49 (0, 0)) := by
    rw [hw4.out]; exact setRow_heap _ _ _ _ _ _ ((hb3.block _ (by omega)).trans H11.out)
  refine bodyPost_ret (results_cell_row Tryd.results55 _ w4 (w.heap.size + 1) 49 _ (0, 0) _ rfl hr4 Tryd.underlying49 rfl HIN.out) rfl ⟨rfl, ?_⟩
  exact (hb01.trans (hb3.mono (by omega))).trans (below_row hw4.out (by omega))
end Go.Proofs.YtaokhkbfiplfmaaDoor
end
section
namespace Go.Proofs.YtaokhkbfiplfmaaDoor
set_option maxRecDepth 100000
set_option linter.unusedVariables false
open Go.ChangeShapes Go.WideShapes Go.ChangeAt Go.RowKit

/-- The words behind j blocks of p. -/
def blocksN (h : St) (p : List Nat) : Nat → St
  | 0 => h
  | j + 1 => blockN (blocksN h p j) (wordsOf ((p.drop (64 * j)).take 64))
theorem blocksN_ok {h : St} (hh : h.ok) (p : List Nat) (j : Nat) : (blocksN h p j).ok := by
  cases j with
  | zero => exact hh
  | succ j => exact sumSt_ok _ _
theorem beginN_ok : beginN.ok := by unfold St.ok beginN; decide
/-- How many blocks. -/
def nblk (l : List Nat) : Nat := (padN l).length / 64
theorem nblk_eq (l : List Nat) : (padN l).length = 64 * nblk l := by
  unfold nblk; rw [length_padN]; unfold zerosN; omega
theorem nblk_pos (l : List Nat) : 0 < nblk l := by
  have := nblk_eq l; rw [length_padN] at this; omega
/-- The digest's words, and its bytes. -/
def sumSt8 (l : List Nat) : St := blocksN beginN (padN l) (nblk l)
def digestN (l : List Nat) : List Nat := bytesOf (sumSt8 l).list

theorem block_r (h : St) (W : List Nat) (w : World) (hT : Tabs w) (hh : h.ok) (hx : ∀ x ∈ W, x < 4294967296) (hl : W.length = 16) :
    Calls Tryd.prog 53 #[h.val, .agg (U32 W).toArray] w fun e w' => ∃ R, Hid (R = blockN h W) ∧ e = .returned (.agg #[.int .u32 R.a, .int .u32 R.b, .int .u32 R.c, .int .u32 R.d, .int .u32 R.e, .int .u32 R.f, .int .u32 R.g, .int .u32 R.h]) ∧ Below w.heap.size w w' :=
  (block_list h W w hT hh hx hl).mono fun _ _ ⟨a, b⟩ => ⟨_, Lib.hid rfl, a, b⟩
theorem set8_all (w3 : World) (S : Nat) (V R : St) (t : TypeId) (hv : w3.heap[S]? = some (.cells (U32 V.list).toArray t (0, 0))) (w' : World) (h : w' = ((((((((w3.setCell ⟨S, 0, none⟩ (.int .u32 R.a)).setCell ⟨S, 1, none⟩ (.int .u32 R.b)).setCell ⟨S, 2, none⟩ (.int .u32 R.c)).setCell ⟨S, 3, none⟩ (.int .u32 R.d)).setCell ⟨S, 4, none⟩ (.int .u32 R.e)).setCell ⟨S, 5, none⟩ (.int .u32 R.f)).setCell ⟨S, 6, none⟩ (.int .u32 R.g)).setCell ⟨S, 7, none⟩ (.int .u32 R.h))) :
    w'.heap[S]? = some (.cells (U32 R.list).toArray t (0, 0)) ∧ Below S w3 w' ∧ ∀ k, k ≠ S → w'.heap[k]? = w3.heap[k]? := by
  subst h
  refine ⟨set8 w3 S V t hv _ _ _ _ _ _ _ _, ?_, fun k hk => ?_⟩
  · have hle := Nat.le_refl S
    exact ((((((((Below.refl _ _).setCell hle _).setCell hle _).setCell hle _).setCell hle _).setCell hle _).setCell hle _).setCell hle _).setCell hle _
  · simp only [heap_setCell_other _ _ k _ (show k ≠ (⟨S, _, none⟩ : Addr).block from hk)]
theorem cells8 {w : World} {g : Nat} {V : St} {t : TypeId} (h : w.heap[g]? = some (.cells (U32 V.list).toArray t (0, 0))) : w.cell? ⟨g, 0, none⟩ = some (.int .u32 (V.a : Int)) ∧ w.cell? ⟨g, 1, none⟩ = some (.int .u32 (V.b : Int)) ∧ w.cell? ⟨g, 2, none⟩ = some (.int .u32 (V.c : Int)) ∧ w.cell? ⟨g, 3, none⟩ = some (.int .u32 (V.d : Int)) ∧ w.cell? ⟨g, 4, none⟩ = some (.int .u32 (V.e : Int)) ∧ w.cell? ⟨g, 5, none⟩ = some (.int .u32 (V.f : Int)) ∧ w.cell? ⟨g, 6, none⟩ = some (.int .u32 (V.g : Int)) ∧ w.cell? ⟨g, 7, none⟩ = some (.int .u32 (V.h : Int)) := by
  have hlc : ∀ i (v : Nat), V.list[i]? = some v → w.cell? ⟨g, i, none⟩ = some (.int .u32 (v : Int)) := by
    intro i v hv
    rw [cell_of_row w g i _ _ (0, 0) h, List.getElem?_toArray, U32, List.getElem?_map, hv]; rfl
  exact ⟨hlc 0 _ rfl, hlc 1 _ rfl, hlc 2 _ rfl, hlc 3 _ rfl, hlc 4 _ rfl, hlc 5 _ rfl, hlc 6 _ rfl, hlc 7 _ rfl⟩
theorem froz8 {w : World} {g : Nat} {V : St} {t : TypeId} (h : w.heap[g]? = some (.cells (U32 V.list).toArray t (0, 0))) : w.frozen? ⟨g, 0, none⟩ = false ∧ w.frozen? ⟨g, 1, none⟩ = false ∧ w.frozen? ⟨g, 2, none⟩ = false ∧ w.frozen? ⟨g, 3, none⟩ = false ∧ w.frozen? ⟨g, 4, none⟩ = false ∧ w.frozen? ⟨g, 5, none⟩ = false ∧ w.frozen? ⟨g, 6, none⟩ = false ∧ w.frozen? ⟨g, 7, none⟩ = false := by
  have hf : ∀ i, w.frozen? ⟨g, i, none⟩ = false := fun i => frozen_of_row w g i _ _ h
  exact ⟨hf 0, hf 1, hf 2, hf 3, hf 4, hf 5, hf 6, hf 7⟩

theorem Tabs.begin {w : World} (h : Tabs w) (i v : Nat) (hi : beginN.list[i]? = some v) : w.cell? ⟨0, i, none⟩ = some (.int .u32 (v : Int)) ∧ 0 < w.heap.size := by
  obtain ⟨ad, he, hlt, hc⟩ := h.2 i (.int .u32 (v : Int)) (by rw [U32, List.getElem?_map, hi]; rfl)
  cases he
  rw [at_add] at hc
  exact ⟨hc, hlt⟩

theorem Rd.from {w : World} {B g k : Nat} {xs : List Value} (h : Rd w B (some ⟨g, 0, none⟩) xs) : Rd w B (some ⟨g, k, none⟩) (xs.drop k) := by
  intro i u hu
  rw [List.getElem?_drop] at hu
  obtain ⟨ad, he, hlt, hc⟩ := h (k + i) u hu
  cases he
  refine ⟨_, rfl, hlt, ?_⟩
  have e : (⟨g, k, none⟩ : Addr).add i = ⟨g, k + i, none⟩ := by
    unfold Addr.add
    split
    · next h0 => subst h0; rfl
    · rfl
  rw [e, ← hc, at_add]

theorem two_made {w w' : World} {ca cb : Array Value} {ta tb : TypeId} (h : w' = (w.alloc (.cells ca ta)).alloc (.cells cb tb)) :
    w'.heap.size = w.heap.size + 1 + 1 ∧ w'.heap[w.heap.size]? = some (.cells ca ta (0, 0)) ∧ w'.heap[w.heap.size + 1]? = some (.cells cb tb (0, 0)) ∧ Below w.heap.size w w' := by
  subst h
  exact ⟨by simp, heap_alloc2_old _ _ _, heap_alloc2_new _ _ _, ((Below.refl _ _).alloc (Nat.le_refl _) _).alloc (by simp) _⟩
theorem pad_len (l : List Nat) (n : Nat) (hn : n = l.length) (A : Option Addr) (c : Nat) (w : World) (hA : Rd w w.heap.size A (U8 l)) (hnil : A = none → c = 0) (hl : n ≤ 140737488351232) :
    Calls Tryd.prog 52 #[.slice A n c] w fun e w' => ∃ v, e = .returned v ∧ w'.ownsRow w.heap.size 5 1 v (padN l).length (U8 (padN l)) ∧ Below w.heap.size w w' := by
  subst hn
  exact pad_ok l A c w hA hnil hl
theorem U8_drop (l : List Nat) (k : Nat) : (U8 l).drop k = U8 (l.drop k) := by simp [U8]
/-- What is left of the padded bytes behind j blocks. -/
def Left (g n : Nat) (v : Value) (j : Nat) : Prop := ∃ ad r q, v = .slice (some ad) r q ∧ r + 64 * j = n ∧ r ≤ q ∧ q ≤ maxLen ∧ (0 < r → ad = ⟨g, 64 * j, none⟩)

set_option maxRecDepth 100000 in
set_option maxHeartbeats 1600000 in
theorem sum_ok (l : List Nat) (A : Option Addr) (c : Nat) (w : World) (hT : Tabs w) (hA : Rd w w.heap.size A (U8 l)) (hnil : A = none → c = 0) (hb : ∀ x ∈ l, x < 256) (hl : l.length ≤ 5000) :
    Calls Tryd.prog 44 #[.slice A l.length c] w fun e w' => e = .returned (.agg (U8 (digestN l)).toArray) ∧ Below w.heap.size w w' := by
  obtain ⟨c0, hg1⟩ := hT.begin 0 _ rfl
  have c1 := (hT.begin 1 _ rfl).1
  have c2 := (hT.begin 2 _ rfl).1
  have c3 := (hT.begin 3 _ rfl).1
  have c4 := (hT.begin 4 _ rfl).1
  have c5 := (hT.begin 5 _ rfl).1
  have c6 := (hT.begin 6 _ rfl).1
  have c7 := (hT.begin 7 _ rfl).1
  have HT := Lib.hid hT
  obtain ⟨n0, hn0⟩ : ∃ n0, n0 = l.length := ⟨_, rfl⟩
  have HN0 := Lib.hid hn0
  have HNIL := Lib.hid hnil
  have HA := Lib.hid hA
  have HB := Lib.hid hb
  rw [← hn0] at hl ⊢
  clear hT hn0 hnil hA hb
  go_enter Tryd.func44, Tryd.ntmps44
  go_wp2_with fail
  obtain ⟨w0, hw0⟩ : ∃ w0 : World, w0 = (w.alloc (.cells b32 49)).alloc (.cells (U32 beginN.list).toArray 101) := ⟨_, rfl⟩
  obtain ⟨hs0, hr0, hv0, hb0⟩ := two_made hw0
  refine (pad_len l n0 HN0.out A c _ ((HA.out.below (by rw [hw0] at hb0; exact hb0)).more (by simp; omega)) HNIL.out (by omega)).mono ?_
  rintro e w1 ⟨v1, rfl, hown1, hb1⟩
  replace hb1 : Below w0.heap.size w0 w1 := by rw [hw0]; exact hb1
  have hown1' : w1.ownsRow w0.heap.size 5 1 v1 (padN l).length (U8 (padN l)) := by rw [hw0]; exact hown1
  rw [nblk_eq] at hown1'
  have hm0 := nblk_pos l
  have hm1 : nblk l ≤ 80 := by have := nblk_eq l; rw [length_padN, ← HN0.out] at this; unfold zerosN at this; omega
  obtain ⟨m, hm⟩ : ∃ m, m = nblk l := ⟨_, rfl⟩
  rw [← hm] at hown1' hm0 hm1
  obtain ⟨g, cap, rfl, hgb⟩ := hown1'.form (by omega)
  have hcap : 64 * m ≤ cap ∧ cap ≤ maxLen := by
    rcases hown1'.2 with ⟨h, _⟩ | ⟨g', cap', cur, h, _, _, h1, h2, _⟩
    · cases h
    · simp at h; obtain ⟨_, rfl⟩ := h; exact ⟨h1, h2⟩
  obtain ⟨hcap1, hcap2⟩ := hcap
  have hs1 : w.heap.size + 1 + 1 ≤ w1.heap.size := by have := hb1.size; omega
  have hr1 : w1.heap[w.heap.size]? = some (.cells b32 49 (0, 0)) := (hb1.block _ (by omega)).trans hr0
  have hv1 : w1.heap[w.heap.size + 1]? = some (.cells (U32 beginN.list).toArray 101 (0, 0)) := (hb1.block _ (by omega)).trans hv0
  have hbw : Below w.heap.size w w1 := hb0.trans (hb1.mono hb0.size)
  have hgs : w.heap.size + 1 < g := by have := own_ge hown1' (g := g) rfl; omega
  have hgl : g < w1.heap.size := by
    obtain ⟨ad, he, hlt, _⟩ := (Rd.of_own hown1') 0 _ (U8_at (padN l) 0 (by rw [nblk_eq, ← hm]; omega))
    cases he; exact hlt
  have HM := Lib.hid hm
  have HO1 := Lib.hid hown1'
  have HR1 := Lib.hid hr1
  have HV1 := Lib.hid hv1
  have HBW := Lib.hid hbw
  have HPB := Lib.hid (padN_lt l HB.out)
  clear hown1 hown1' hr1 hv1 hbw hb0 hb1 hs0 hr0 hv0 hw0 hm c0 c1 c2 c3 c4 c5 c6 c7
  go_wp2_with fail
  go_loopw [4] (fun v wr => ∃ j : Nat, j ≤ m ∧ Left g (64 * m) v j ∧ wr.heap[w.heap.size + 1]? = some (.cells (U32 (blocksN beginN (padN l) j).list).toArray 101 (0, 0)) ∧ Below (w.heap.size + 1) w1 wr ∧ wr.heap[g]? = w1.heap[g]?) (fun v _ => lenV v)
  case atStart => exact ⟨0, Nat.zero_le _, ⟨_, _, _, rfl, by omega, hcap1, hcap2, fun _ => rfl⟩, HV1.out, Below.refl _ _, rfl⟩
  case round =>
    obtain ⟨j, hj, ⟨ad, r, q, rfl, hrj, hrq, hqm, had⟩, hv, hbel, hgk⟩ := hrel
    by_cases hlt : 0 < r
    · obtain rfl := had hlt
      have hjm : j < m := by omega
      have hr64 : 64 ≤ r := by omega
      have hgw : g < wr.heap.size := by have := hbel.size; omega
      have hrd0 : Rd wr.drew wr.drew.heap.size (some ⟨g, 0, none⟩) (U8 (padN l)) := by
        intro k u hu
        obtain ⟨ad, he, _, hc⟩ := (Rd.of_own HO1.out) k u hu
        cases he
        refine ⟨_, rfl, hgw, ?_⟩
        rw [at_add] at hc ⊢
        exact (World.cell?_of_block (w := w1) (w' := wr) hgk).trans hc
      have hrd := hrd0.from (k := 64 * j)
      rw [U8_drop] at hrd
      have hlq : ((padN l).drop (64 * j)).length = r := by rw [List.length_drop, nblk_eq, ← HM.out]; omega
      have hbq : ∀ x ∈ (padN l).drop (64 * j), x < 256 := fun x hx => HPB.out x (List.mem_of_mem_drop hx)
      have hnext : blocksN beginN (padN l) (j + 1) = blockN (blocksN beginN (padN l) j) (wordsOf (((padN l).drop (64 * j)).take 64)) := rfl
      have hok := blocksN_ok beginN_ok (padN l) j
      have hT2 : Tabs wr.drew := HT.out.next (HBW.out.trans ((hbel.mono (by omega)).drew))
      obtain ⟨W, hWE⟩ : ∃ W, W = wordsOf (((padN l).drop (64 * j)).take 64) := ⟨_, rfl⟩
      have hW1 : W.length = 16 := by rw [hWE, length_wordsOf, List.length_take, hlq, Nat.min_eq_left hr64]
      have hW2 : ∀ x ∈ W, x < 4294967296 := by rw [hWE]; exact wordsOf_lt _ (fun x hx => hbq x (List.mem_of_mem_take hx))
      have hbwc := blockWords_any ((padN l).drop (64 * j)) ⟨g, 64 * j, none⟩ r q wr.drew hrd hbq hlq hr64 hrq hqm
      rw [← hWE] at hnext hbwc
      obtain ⟨V, hVE⟩ : ∃ V, V = blocksN beginN (padN l) j := ⟨_, rfl⟩
      rw [← hVE] at hv hnext hok
      have HNX := Lib.hid hnext
      have HBWC := Lib.hid hbwc
      have HOK := Lib.hid hok
      have HT2 := Lib.hid hT2
      have HW1 := Lib.hid hW1
      have HW2 := Lib.hid hW2
      have HV := Lib.hid hv
      have HGK := Lib.hid hgk
      have hrp : (0 : Int) < (r : Int) := by omega
      unfold maxLen at hqm
      clear hrd0 hrd hlq hbq hnext hok hT2 hW1 hW2 hWE hbwc hv hVE hgk had
      go_wp2_with fail
      obtain ⟨a0, a1, a2, a3, a4, a5, a6, a7⟩ := cells8 HV.out
      have hgw2 : w.heap.size + 1 < wr.heap.size := by omega
      go_region_law (first
        | (go_simp; go_at_call 54; refine HBWC.out.mono ?_; rintro e w2 ⟨rfl, hb2⟩; have hs2 : wr.heap.size ≤ w2.heap.size := hb2.size; have HV2 := Lib.hid ((hb2.block (w.heap.size + 1) hgw2).trans HV.out); obtain ⟨b0, b1, b2, b3, b4, b5, b6, b7⟩ := cells8 HV2.out)
        | (go_simp; go_at_call 53; refine (block_r V W w2 (HT2.out.next hb2) HOK.out HW2.out HW1.out).mono ?_; rintro e w3 ⟨R, HRE, rfl, hb3⟩; have HV3 := Lib.hid ((hb3.block (w.heap.size + 1) (by omega)).trans HV2.out); obtain ⟨d0, d1, d2, d3, d4, d5, d6, d7⟩ := cells8 HV3.out; obtain ⟨z0, z1, z2, z3, z4, z5, z6, z7⟩ := froz8 HV3.out; have hs3 : w2.heap.size ≤ w3.heap.size := hb3.size))
      all_goals clear a0 a1 a2 a3 a4 a5 a6 a7 b0 b1 b2 b3 b4 b5 b6 b7 d0 d1 d2 d3 d4 d5 d6 d7 z0 z1 z2 z3 z4 z5 z6 z7
      all_goals by_cases hq64 : q = 64
      all_goals go_wp2
      all_goals
        obtain ⟨q1, q2, q3⟩ := set8_all w3 (w.heap.size + 1) V R 101 HV3.out _ rfl
        refine ⟨⟨j + 1, by omega, ⟨_, _, _, rfl, by omega, by omega, by unfold maxLen; omega, ?_⟩, ?_, ?_, ?_⟩, by simp only [lenV]; omega⟩
        · first
            | (intro h; exfalso; omega)
            | (intro _; rw [Nat.mul_succ])
        · rw [q1, HNX.out, ← HRE.out]
        · exact ((hbel.drew.trans (hb2.mono (by show _ ≤ wr.heap.size; omega))).trans (hb3.mono (by omega))).trans q2
        · exact (q3 g (by omega)).trans ((hb3.block g (by omega)).trans ((hb2.block g hgw).trans HGK.out))
    · have hjm : j = m := by omega
      subst hjm
      have hr0 : r = 0 := by omega
      subst hr0
      obtain ⟨V, hVE⟩ : ∃ V, V = blocksN beginN (padN l) j := ⟨_, rfl⟩
      have hok : V.ok := by rw [hVE]; exact blocksN_ok beginN_ok _ _
      rw [← hVE] at hv
      have hdg : digestN l = bytesOf V.list := by rw [hVE, HM.out]; rfl
      have hres : wr.heap[w.heap.size]? = some (.cells b32 49 (0, 0)) := (hbel.block _ (by omega)).trans HR1.out
      have hbb : Below w.heap.size w wr := HBW.out.trans (hbel.mono (by omega))
      have hsr : w.heap.size + 1 < wr.heap.size := by have := hbel.size; omega
      have HV := Lib.hid hv
      have HOK := Lib.hid hok
      have HDG := Lib.hid hdg
      have HRES := Lib.hid hres
      clear hv hVE hok hdg hres hbel hgk had
      go_wp2_with ((with_reducible refine at_load 17 ?_); refine wpList_load_row (o := ⟨some 17, .load 101 (.tmp 3), _, _, _, _⟩) rfl 101 (.tmp 3) rfl (w.heap.size + 1) rfl 101 (U32 V.list).toArray (0, 0) _ HV.out Tryd.underlying101 rfl info28 ?_)
      refine (digest_any V wr HOK.out).mono ?_
      rintro e w2 ⟨rfl, hb2⟩
      obtain ⟨D, hD⟩ : ∃ D, D = bytesOf V.list := ⟨_, rfl⟩
      rw [← hD]
      have hDl : D.length = 32 := by rw [hD, length_bytesOf]; rfl
      have hsz : (U8 D).toArray.size = 32 := by simp [U8, hDl]
      have hin : (Tryd.prog.info? 49).map (·.size) = some (U8 D).toArray.size := by rw [hsz]; exact info32
      have HRES2 := Lib.hid ((hb2.block w.heap.size (by omega)).trans HRES.out)
      have HSZ := Lib.hid hsz
      have HIN := Lib.hid hin
      have HD := Lib.hid hD
      clear hD hDl hsz hin
      go_wp2_with ((with_reducible refine at_store 2 ?_); refine wpList_store_named (o := ⟨none, .store 49 (.tmp 2) (.tmp 18), _, _, _, _⟩) rfl 49 (.tmp 2) (.tmp 18) rfl w.heap.size (U8 D).toArray rfl rfl 49 b32 HRES2.out HIN.out HSZ.out.symm (all_one8 D) ?_; intro w3 hw3)
      have hr3 : w3.heap[w.heap.size]? = some (.cells (U8 D).toArray 49 (0, 0)) := by rw [hw3.out]; exact setRow_heap _ _ _ _ _ _ HRES2.out
      refine bodyPost_ret (results_cell_row Tryd.results44 _ w3 w.heap.size 49 _ (0, 0) _ rfl hr3 Tryd.underlying49 rfl HIN.out) rfl ⟨by rw [HDG.out, HD.out], ?_⟩
      exact (hbb.trans (hb2.mono (by omega))).trans (below_row hw3.out (Nat.le_refl _))
end Go.Proofs.YtaokhkbfiplfmaaDoor
end
section
namespace Go.Proofs.YtaokhkbfiplfmaaDoor
set_option maxRecDepth 100000
end Go.Proofs.YtaokhkbfiplfmaaDoor
end
section
namespace Go.Proofs.YtaokhkbfiplfmaaDoor
set_option maxRecDepth 100000

/-- A secret, or its digest, and zeros behind it. -/
def keyN (l : List Nat) : List Nat := if 64 < l.length then digestN l else l
def blockM (l : List Nat) : List Nat := keyN l ++ List.replicate (64 - (keyN l).length) 0
/-- Each byte by exclusive or with m. -/
def maskN (k : List Nat) (m : Nat) : List Nat := k.map (· ^^^ m)
def tagN (s b : List Nat) : List Nat := digestN (maskN (blockM s) 92 ++ digestN (maskN (blockM s) 54 ++ b))

theorem length_dig (l : List Nat) : (digestN l).length = 32 := by unfold digestN; rw [length_bytesOf]; rfl
theorem dig_lt (l : List Nat) : ∀ x ∈ digestN l, x < 256 := bytesOf_lt _
theorem length_keyN (l : List Nat) : (keyN l).length ≤ 64 := by
  unfold keyN
  split
  · rw [length_dig]; omega
  · omega
theorem length_blockM (l : List Nat) : (blockM l).length = 64 := by
  have := length_keyN l
  simp [blockM]; omega
theorem keyN_lt (l : List Nat) (h : ∀ x ∈ l, x < 256) : ∀ x ∈ keyN l, x < 256 := by
  unfold keyN
  split
  · exact dig_lt l
  · exact h
theorem blockM_lt (l : List Nat) (h : ∀ x ∈ l, x < 256) : ∀ x ∈ blockM l, x < 256 := by
  intro x hx
  rcases List.mem_append.1 hx with h1 | h1
  · exact keyN_lt l h x h1
  · have := (List.mem_replicate.1 h1).2; omega
theorem length_maskN (k : List Nat) (m : Nat) : (maskN k m).length = k.length := by simp [maskN]
theorem xor_lt8 {a b : Nat} (ha : a < 256) (hb : b < 256) : a ^^^ b < 256 := Nat.xor_lt_two_pow (n := 8) ha hb
theorem maskN_lt (k : List Nat) (m : Nat) (hk : ∀ x ∈ k, x < 256) (hm : m < 256) : ∀ x ∈ maskN k m, x < 256 := by
  intro x hx
  simp only [maskN, List.mem_map] at hx
  obtain ⟨y, hy, rfl⟩ := hx
  exact xor_lt8 (hk y hy) hm
/-- The first j under the mask, the rest as they were. -/
def maskTo (k : List Nat) (m j : Nat) : List Nat := (k.take j).map (· ^^^ m) ++ k.drop j
theorem maskTo_zero (k : List Nat) (m : Nat) : maskTo k m 0 = k := by simp [maskTo]
theorem maskTo_all (k : List Nat) (m : Nat) : maskTo k m k.length = maskN k m := by simp [maskTo, maskN]
theorem length_maskTo (k : List Nat) (m j : Nat) : (maskTo k m j).length = k.length := by simp [maskTo]; omega
theorem maskTo_get (k : List Nat) (m j : Nat) : (maskTo k m j).getD j 0 = k.getD j 0 := by
  unfold maskTo
  by_cases h : j < k.length
  · have hl : ((k.take j).map (· ^^^ m)).length = j := by simp; omega
    rw [List.getD_eq_getElem?_getD, List.getElem?_append_right (by rw [hl]; exact Nat.le_refl _), hl, Nat.sub_self, List.getElem?_drop, Nat.add_zero, ← List.getD_eq_getElem?_getD]
  · have h1 : (maskTo k m j).length = k.length := length_maskTo k m j
    unfold maskTo at h1
    rw [List.getD_eq_getElem?_getD, List.getD_eq_getElem?_getD, List.getElem?_eq_none (by omega), List.getElem?_eq_none (by omega)]
theorem maskTo_set (k : List Nat) (m j : Nat) (h : j < k.length) : (maskTo k m j).set j (k.getD j 0 ^^^ m) = maskTo k m (j + 1) := by
  unfold maskTo
  have hl : ((k.take j).map (· ^^^ m)).length = j := by simp; omega
  have e : k.take (j + 1) = k.take j ++ [k[j]] := List.take_succ_eq_append_getElem h
  have eg : k.getD j 0 = k[j] := by rw [List.getD_eq_getElem?_getD, List.getElem?_eq_getElem h]; rfl
  rw [List.set_append_right _ _ (by rw [hl]; exact Nat.le_refl _), hl, Nat.sub_self, List.drop_eq_getElem_cons h, List.set_cons_zero, e, eg, List.map_append, List.append_assoc]
  rfl
theorem getD_lt8 {k : List Nat} (hk : ∀ x ∈ k, x < 256) (j : Nat) : k.getD j 0 < 256 := by
  rw [List.getD_eq_getElem?_getD]
  rcases h : k[j]? with _ | y
  · simp
  · exact hk y (List.mem_of_getElem? h)
end Go.Proofs.YtaokhkbfiplfmaaDoor
end
section
namespace Go.Proofs.YtaokhkbfiplfmaaDoor
set_option linter.unusedVariables false

def tagB (s b : List Nat) : List Nat := tagN s (66 :: b)
theorem tagB_len (s b : List Nat) : (tagB s b).length = 32 := length_dig _
theorem tagB_lt (s b : List Nat) : ∀ x ∈ tagB s b, x < 256 := dig_lt _
/-- The body, and the whole ahead of its signs. -/
def bodyB (r : Rg) : List Nat := putT (fdPut r).2
def wholeB (l : List K) (r : Rg) : List Nat := bodyB r ++ tagB (findK l r.key).sec (bodyB r)
def ecB (l : List K) (r : Rg) : Nat × List Nat :=
  if isR l = false then (1, []) else if (fdPut r).1 ≠ 0 then ((fdPut r).1, []) else if findE l r.key ≠ 0 then (10, []) else (0, putF (wholeB l r))
theorem fldF_len9 : ∀ (s : List Int) (k : Nat), (∀ x ∈ s, In56 x) → (putT (fldF k s)).length ≤ 9 * s.length
  | [], k, h => by simp [fldF, putT]
  | v :: s, k, h => by
    have h1 := fldF_len9 s (k + 1) (fun x hx => h x (List.mem_cons_of_mem _ hx))
    have hv := h v List.mem_cons_self
    rw [fldF, putT_append, List.length_append, List.length_cons]
    split
    · simp only [putT, List.length_nil]; omega
    · have := size_in (n := v.toNat) (by have := hv.1; have := hv.2; omega)
      simp only [putT, List.length_cons, List.length_append, List.length_nil, numB_len]
      omega
theorem body_len {r : Rg} {l : List Tf} (h : fdPut r = (0, l)) : (putT l).length ≤ 117 := by
  obtain ⟨h1, h2, h3⟩ := fdPut_zero h
  rw [h3]
  have := fldF_len9 (numL (cutU r)) 1 (fun x hx => by have := num_in h1 x hx; exact ⟨by omega, by omega⟩)
  rwa [numL_len] at this
end Go.Proofs.YtaokhkbfiplfmaaDoor
end
section
namespace Go.Proofs.YtaokhkbfiplfmaaDoor
set_option linter.unusedVariables false

theorem all_ite (p : Nat → Bool) (c : Prop) [Decidable c] (k : Nat) : (if c then [] else [k] : List Nat).all p = (decide c || p k) := by
  by_cases h : c <;> simp [h]
theorem fitX_iff {v : Int} (hv : 1 ≤ v) (a b c d e f g h i j k l m : Int) : fitX v (tagsF 1 [a, b, c, d, e, f, g, h, i, j, k, l, m]) = true ↔ (h = 0 ∨ 2 ≤ v) ∧ (i = 0 ∨ 3 ≤ v) := by
  have l1 : ∀ n : Nat, 1 ≤ n ∧ n ≤ 13 ∧ n ≠ 8 ∧ n ≠ 9 → decide (leastN (n : Int) ≤ v) = true := by
    intro n hn
    rw [leastN, if_neg (by omega), if_neg (by omega), if_neg (by omega)]
    simpa using hv
  have l8 : leastN ((8 : Nat) : Int) = 2 := by decide
  have l9 : leastN ((9 : Nat) : Int) = 3 := by decide
  simp only [fitX, tagsF, List.all_append, all_ite, List.all_nil, Bool.and_true, show (1 : Nat) + 1 = 2 from rfl, show (2 : Nat) + 1 = 3 from rfl, show (3 : Nat) + 1 = 4 from rfl, show (4 : Nat) + 1 = 5 from rfl, show (5 : Nat) + 1 = 6 from rfl, show (6 : Nat) + 1 = 7 from rfl, show (7 : Nat) + 1 = 8 from rfl, show (8 : Nat) + 1 = 9 from rfl, show (9 : Nat) + 1 = 10 from rfl, show (10 : Nat) + 1 = 11 from rfl, show (11 : Nat) + 1 = 12 from rfl, show (12 : Nat) + 1 = 13 from rfl]
  rw [l1 1 (by decide), l1 2 (by decide), l1 3 (by decide), l1 4 (by decide), l1 5 (by decide), l1 6 (by decide), l1 7 (by decide), l1 10 (by decide), l1 11 (by decide), l1 12 (by decide), l1 13 (by decide), l8, l9]
  simp
theorem fit_least {r : Rg} (hv : 1 ≤ r.ver) : fitX r.ver (tagsF 1 (numL (cutU r))) = true ↔ leastV r.t ≤ r.ver := by
  have hc : (cutU r).t.card = r.t.card := by unfold cutU; split <;> rfl
  have hs : (cutU r).t.seat = r.t.seat := by unfold cutU; split <;> rfl
  rw [numL, fitX_iff hv, hc, hs, leastV]
  by_cases h1 : r.t.seat = 0
  · by_cases h2 : r.t.card = 0
    · simp [h1, h2, hv]
    · simp [h1, h2]
  · simp [h1]; omega
theorem isR_one {k : K} (h : k.right = true) : isR [k] = true := by
  rw [isR_true]
  intro i hi
  have : i = 0 := by simp at hi; exact hi
  subst this
  simp [goodAt, h]
theorem findE_one {k : K} (h : k.right = true) : findE [k] k.id = 0 := by
  rw [findE, if_pos (isR_one h)]; simp
/-- A barcode is encoded, with a key alone, just if it has room. -/
theorem ecB_one {k : K} (h : k.right = true) (t : Tk) (v : Int) : (ecB [k] ⟨t, k.id, 0, 0, v⟩).1 = 0 ↔ roomB t v = true := by
  have hk : 0 ≤ k.id ∧ k.id ≤ 99 := by
    have := h
    simp [K.right, rightN] at this
    exact ⟨this.1, this.2.1⟩
  rw [ecB, if_neg (by rw [isR_one h]; decide), roomB_iff]
  have hA := argF_iff ⟨t, k.id, 0, 0, v⟩
  have hl := leastV_in t
  cases ha : argF ⟨t, k.id, 0, 0, v⟩
  · rw [fdPut_arg ha, if_pos (by decide)]
    rw [ha] at hA
    constructor
    · intro h; cases h
    · rintro ⟨h1, h2, h3⟩
      exact absurd (hA.2 ⟨h1, hk.1, hk.2, rfl, rfl, by show 1 ≤ v; omega, h3⟩) (by decide)
  · have h1 := hA.1 ha
    have hf := fit_least (r := ⟨t, k.id, 0, 0, v⟩) h1.2.2.2.2.2.1
    cases hb : fitX v (tagsF 1 (numL (cutU ⟨t, k.id, 0, 0, v⟩)))
    · rw [fdPut_fit ha hb, if_pos (by decide)]
      rw [show (⟨t, k.id, 0, 0, v⟩ : Rg).ver = v from rfl, hb] at hf
      constructor
      · intro h; cases h
      · rintro ⟨_, h2, _⟩
        exact absurd (hf.2 h2) (by decide)
    · rw [fdPut_ok ha hb, if_neg (fun h => h rfl), if_neg (by rw [findE_one h]; decide)]
      exact ⟨fun _ => ⟨h1.1, hf.1 hb, h1.2.2.2.2.2.2⟩, fun _ => rfl⟩
end Go.Proofs.YtaokhkbfiplfmaaDoor
end
section
namespace Go.Proofs.YtaokhkbfiplfmaaDoor
set_option linter.unusedVariables false
open Go.ChangeShapes Go.WideShapes Go.ChangeAt Go.RowKit

/-- Two rows of bytes, one behind the other: what a block of two slices is joined to. -/
theorem concat2 (a b L : List Nat) (hL : a ++ b = L) (n m k : Nat) (hn : n = a.length) (hm : m = b.length) (hk : k = L.length) (A B : Option Addr) (c d : Nat) (w : World) (ha : Rd w w.heap.size A (U8 a)) (hb : Rd w w.heap.size B (U8 b)) (hnA : A = none → c = 0) (hnB : B = none → d = 0) (hla : ∀ x ∈ a, x < 256) (hlb : ∀ x ∈ b, x < 256) (h0 : 0 < k) (h1 : k ≤ 140737488355328) :
    Calls Tryd.prog 16 #[.slice (some ⟨w.heap.size, 0, none⟩) 2 2] (w.alloc (.cells #[.slice A n c, .slice B m d] 24)) fun e w' => ∃ A' c', e = .returned (.slice A' k c') ∧ Bs w' w'.heap.size L A' c' ∧ Below w.heap.size w w' := by
  subst hL hk
  have hf : a ++ b = cflat [⟨A, a, c⟩, ⟨B, b, d⟩] := by simp [cflat]
  have hbl := below_lit w #[.slice A n c, .slice B m d] 24
  rw [hf] at h0 h1 ⊢
  refine (concat_any [⟨A, a, c⟩, ⟨B, b, d⟩] w.heap.size 2 2 _ rfl (by simp) (parts_lit (by simp [Part.val, hn, hm])) ?_ (by omega) h0 h1).mono ?_
  · intro p hp
    refine Part.ok_alloc ?_ _
    simp only [List.mem_cons, List.not_mem_nil, or_false] at hp
    rcases hp with rfl | rfl
    · exact ⟨ha, hnA⟩
    · exact ⟨hb, hnB⟩
  · rintro e w' ⟨v, rfl, hown, hbw⟩
    rw [← hf] at hown ⊢
    obtain ⟨A', c', rfl, hs⟩ := bs_of_own hown (fun x hx => by
      rcases List.mem_append.1 hx with h | h
      · exact hla x h
      · exact hlb x h)
    exact ⟨A', c', rfl, hs, hbl.trans (hbw.mono hbl.size)⟩
end Go.Proofs.YtaokhkbfiplfmaaDoor
end
section
namespace Go.Proofs.YtaokhkbfiplfmaaDoor
set_option maxRecDepth 100000
set_option linter.unusedVariables false
open Go.ChangeShapes Go.WideShapes Go.ChangeAt Go.RowKit

def b64 : Array Value := #[.int .u8 0, .int .u8 0, .int .u8 0, .int .u8 0, .int .u8 0, .int .u8 0, .int .u8 0, .int .u8 0, .int .u8 0, .int .u8 0, .int .u8 0, .int .u8 0, .int .u8 0, .int .u8 0, .int .u8 0, .int .u8 0, .int .u8 0, .int .u8 0, .int .u8 0, .int .u8 0, .int .u8 0, .int .u8 0, .int .u8 0, .int .u8 0, .int .u8 0, .int .u8 0, .int .u8 0, .int .u8 0, .int .u8 0, .int .u8 0, .int .u8 0, .int .u8 0, .int .u8 0, .int .u8 0, .int .u8 0, .int .u8 0, .int .u8 0, .int .u8 0, .int .u8 0, .int .u8 0, .int .u8 0, .int .u8 0, .int .u8 0, .int .u8 0, .int .u8 0, .int .u8 0, .int .u8 0, .int .u8 0, .int .u8 0, .int .u8 0, .int .u8 0, .int .u8 0, .int .u8 0, .int .u8 0, .int .u8 0, .int .u8 0, .int .u8 0, .int .u8 0, .int .u8 0, .int .u8 0, .int .u8 0, .int .u8 0, .int .u8 0, .int .u8 0]
theorem info64 : (Tryd.prog.info? 89).map (·.size) = some 64 := by kernel_rfl
theorem U8_getD (l : List Nat) (k : Nat) (h : k < l.length) : (U8 l)[k]? = some (.int .u8 ((l.getD k 0 : Nat) : Int)) := by
  rw [U8_at l k h, List.getD_eq_getElem?_getD, List.getElem?_eq_getElem h]; rfl
/-- A byte of a row of bytes. -/
theorem cell_u8 {w : World} {g : Nat} {l : List Nat} {t : TypeId} (h : w.heap[g]? = some (.cells (U8 l).toArray t (0, 0))) (k : Nat) (hk : k < l.length) : w.cell? ⟨g, k, none⟩ = some (.int .u8 ((l.getD k 0 : Nat) : Int)) := by
  rw [cell_of_row w g k _ _ (0, 0) h, List.getElem?_toArray, U8_getD l k hk]

set_option maxRecDepth 100000 in
set_option maxHeartbeats 800000 in
theorem masked_any (K : List Nat) (m : Nat) (w : World) (hK : ∀ x ∈ K, x < 256) (hl : K.length = 64) (hm : m < 256) :
    Calls Tryd.prog 43 #[.agg (U8 K).toArray, .int .u8 m] w fun e w' => e = .returned (.agg (U8 (maskN K m)).toArray) ∧ Below w.heap.size w w' := by
  obtain ⟨X, hX⟩ : ∃ X : Array Value, X = (U8 K).toArray := ⟨_, rfl⟩
  obtain ⟨w0, hw0⟩ : ∃ w0 : World, w0 = (w.alloc (.cells X 89)).alloc (.cells b64 89) := ⟨_, rfl⟩
  rw [← hX]
  obtain ⟨hs0, hx0, hr0, hb0⟩ := two_made hw0
  rw [hX] at hx0
  have HX0 := Lib.hid hx0
  have HR0 := Lib.hid hr0
  have HK := Lib.hid hK
  have HL := Lib.hid hl
  have HW := Lib.hid hw0
  have HS := Lib.hid hs0
  clear hX hw0 hx0 hr0 hK hl hs0
  go_enter Tryd.func43, Tryd.ntmps43
  go_wp2_with fail
  have e0 : (w.alloc (.cells X 89)).alloc (.cells b64 89) = w0 := HW.out.symm
  unfold b64 at e0
  rw [e0]
  clear e0
  go_loopw [5, 6] (fun _ i wr => ∃ k : Nat, k ≤ 64 ∧ i = .int .i64 k ∧ wr.heap[w.heap.size]? = some (.cells (U8 (maskTo K m k)).toArray 89 (0, 0)) ∧ wr.heap[w.heap.size + 1]? = some (.cells b64 89 (0, 0)) ∧ Below w.heap.size w wr) (fun _ i _ => 64 - (intOf i).toNat)
  case atStart => exact ⟨0, Nat.zero_le _, rfl, by rw [maskTo_zero]; exact HX0.out, HR0.out, hb0⟩
  case round =>
    obtain ⟨k, hk, rfl, hv, hr, hbel⟩ := hrel
    by_cases hlt : k < 64
    · have hkl : k < K.length := by rw [HL.out]; exact hlt
      have hfz := frozen_of_row wr _ k _ _ hv
      have hcur := cell_u8 hv k (by rw [length_maskTo]; exact hkl)
      rw [maskTo_get] at hcur
      have hset := heap_setCell_same wr _ k _ 89 (.int .u8 ((K.getD k 0 ^^^ m : Nat) : Int)) hv
      have hst : (U8 (maskTo K m k)).toArray.setIfInBounds k (.int .u8 ((K.getD k 0 ^^^ m : Nat) : Int)) = (U8 (maskTo K m (k + 1))).toArray := by
        rw [List.setIfInBounds_toArray, ← maskTo_set K m k hkl, U8, U8, List.map_set]
      rw [hst] at hset
      have HSET := Lib.hid hset
      have HR := Lib.hid ((heap_setCell_other wr ⟨w.heap.size, k, none⟩ (w.heap.size + 1) (.int .u8 ((K.getD k 0 ^^^ m : Nat) : Int)) (by show w.heap.size + 1 ≠ w.heap.size; omega)).trans hr)
      have hx8 := getD_lt8 HK.out k
      have hxor := u8_xor_nat (K.getD k 0) m hx8 hm
      have bk0 : (0 : Int) ≤ (k : Int) := Int.natCast_nonneg _
      have bk1 : (k : Int) < 64 := by omega
      clear hset hst hv hr
      generalize K.getD k 0 = y at *
      go_wp2
      go_roundw
      case rel => exact ⟨k + 1, by omega, by go_num, HSET.out, HR.out, hbel.setCell (Nat.le_refl _) _⟩
      case measure => simp [intOf]; omega
    · have k64 : k = 64 := by omega
      subst k64
      have hall : maskTo K m 64 = maskN K m := by rw [← HL.out]; exact maskTo_all K m
      rw [hall] at hv
      obtain ⟨F, hF⟩ : ∃ F : Array Value, F = (U8 (maskN K m)).toArray := ⟨_, rfl⟩
      rw [← hF] at hv
      have hsz : F.size = 64 := by rw [hF]; simp [U8, length_maskN, HL.out]
      have hin : (Tryd.prog.info? 89).map (·.size) = some F.size := by rw [hsz]; exact info64
      have hone : F.all (·.oneCell') = true := by rw [hF]; exact all_one8 _
      have HF := Lib.hid hF
      have HV := Lib.hid hv
      have HR := Lib.hid hr
      have HSZ := Lib.hid hsz
      have HIN := Lib.hid hin
      have HONE := Lib.hid hone
      clear hF hv hr hsz hin hone hall
      go_wp2_with (first
        | ((with_reducible refine at_load 16 ?_); refine wpList_load_row (o := ⟨some 16, .load 89 (.tmp 2), _, _, _, _⟩) rfl 89 (.tmp 2) rfl w.heap.size rfl 89 F (0, 0) _ HV.out Tryd.underlying89 rfl HIN.out ?_)
        | ((with_reducible refine at_store 4 ?_); refine wpList_store_named (o := ⟨none, .store 89 (.tmp 4) (.tmp 16), _, _, _, _⟩) rfl 89 (.tmp 4) (.tmp 16) rfl (w.heap.size + 1) F rfl rfl 89 b64 HR.out HIN.out HSZ.out.symm HONE.out ?_; intro w1 hw1))
      have hr1 : w1.heap[w.heap.size + 1]? = some (.cells F 89 (0, 0)) := by rw [hw1.out]; exact setRow_heap _ _ _ _ _ _ HR.out
      refine bodyPost_ret (results_cell_row Tryd.results43 _ w1 (w.heap.size + 1) 89 _ (0, 0) _ rfl hr1 Tryd.underlying89 rfl HIN.out) rfl ⟨by rw [HF.out], ?_⟩
      exact hbel.trans (below_row hw1.out (by omega))
end Go.Proofs.YtaokhkbfiplfmaaDoor
end
section
namespace Go.Proofs.YtaokhkbfiplfmaaDoor
set_option linter.unusedVariables false
open Go.ChangeShapes Go.WideShapes Go.ChangeAt Go.RowKit

theorem Tryd.own : ownKnob Tryd.prog.godebug = none := by kernel_rfl
theorem Tryd.laidOut : laidOutB Tryd.prog = true := by kernel_rfl
theorem Tryd.cellsU8 : Tryd.prog.cellsOf 5 = 1 := by kernel_rfl
theorem Tryd.cellsU32 : Tryd.prog.cellsOf 100 = 1 := by kernel_rfl

section
variable {H : Type} {enc : TypeId × Value → H} {P : Program}

/-- Arguments read, behind a call that turned nothing old, as they read before it. -/
theorem trodAll_kept (hl : laidOutB P = true) {W W' : World} (hb : Below W.heap.size W W') : ∀ {ts : List TypeId} {vs : List Value} {ds : List (DataW H)} {ps : List MemPlace},
    ts.all (fun t => P.readableRec t && decide (t < P.types.size)) = true → (∀ x ∈ ps, x.block < W.heap.size) →
    DataW.TrodAll enc P W 0 (fun _ => true) true ts vs ds ps → DataW.TrodAll enc P W' 0 (fun b => decide (b < W.heap.size)) true ts vs ds ps
  | [], [], [], _, _, _, h => h
  | [], _ :: _, _, _, _, _, h => h.elim
  | [], [], _ :: _, _, _, _, h => h.elim
  | _ :: _, [], _, _, _, _, h => h.elim
  | _ :: _, _ :: _, [], _, _, _, h => h.elim
  | t :: ts, v :: vs, d :: ds, ps, hr, hlt, h => by
    obtain ⟨p, q, hp, hq, rfl⟩ := h
    simp only [List.all_cons, Bool.and_eq_true, decide_eq_true_eq] at hr
    exact ⟨p, q, Below.trod hl hr.1.1 hr.1.2 hp hb (fun x hx => hlt x (by simp [hx])), trodAll_kept hl hb (by simpa using hr.2) (fun x hx => hlt x (by simp [hx])) hq, rfl⟩

/-- A law's last step: it answered true, and nothing old has turned. -/
theorem law_post (hl : laidOutB P = true) {fn : Func} {s : ChangeSpec} {W W' : World} {args : Array Value} {ds gs : List (DataW H)} {before : List MemPlace} {b : TypeId} (hb4 : P.underlying b = some .bool)
    (hW : DataW.Whole enc P fn.params.toList s.vars false W args.toList ds gs before) (hv : s.vars = []) (hr : fn.resultTypes = #[b])
    (hp : fn.params.toList.all (fun t => P.readableRec t && decide (t < P.types.size)) = true)
    (hf : s.fn H ds = { results := [.lit (.bool true)], args := ds }) (hb : Below W.heap.size W W') :
    s.post enc P fn false true false false W args (.bool true) W' := by
  have hlt := hW.lt
  have hW' := hW
  obtain ⟨p, q, hA, hV, rfl, _, _⟩ := hW'
  have hV' := hV
  rw [hv] at hV'
  obtain ⟨rfl, rfl⟩ := trodVars_none hV'
  refine ⟨ds, [], p ++ [], [], p, [], hW, ?_, ?_, ?_, hb.frame _, fun h => by cases h⟩
  · rw [List.append_nil, hf, hr]
    exact trodAll_cons_mk (shut_bool hb4 _) trodAll_mk0
  · rw [List.append_nil, hf]
    exact trodAll_kept hl hb hp (fun x hx => by simpa using hlt x (by simp [hx])) hA
  · rw [List.append_nil, hf, hv]
    rfl

theorem lt_of_cell {w : World} {a : Addr} {u : Value} (h : w.cell? a = some u) : a.block < w.heap.size := by
  rcases Nat.lt_or_ge a.block w.heap.size with hlt | hge
  · exact hlt
  · rw [World.cell?, Array.getElem?_eq_none hge] at h
    simp at h

end

theorem wf_u8 (z : Int) (h : (Lit.int .u8 z).wf = true) : 0 ≤ z ∧ z < (256 : Nat) := by
  simp [Lit.wf, IntKind.min, IntKind.max, IntKind.signed, IntKind.bits] at h; omega
theorem wf_i64 (z : Int) (h : (Lit.int .i64 z).wf = true) : -9223372036854775808 ≤ z ∧ z ≤ 9223372036854775807 := by
  simp [Lit.wf, IntKind.min, IntKind.max, IntKind.signed, IntKind.bits] at h; omega
end Go.Proofs.YtaokhkbfiplfmaaDoor
end
section
namespace Go.Proofs.YtaokhkbfiplfmaaDoor
set_option linter.unusedVariables false
open Go.ChangeShapes Go.WideShapes Go.ChangeAt Go.RowKit

theorem sum_len (l : List Nat) (n : Nat) (hn : n = l.length) (A : Option Addr) (c : Nat) (w : World) (hT : Tabs w) (hA : Rd w w.heap.size A (U8 l)) (hnil : A = none → c = 0) (hb : ∀ x ∈ l, x < 256) (hl : n ≤ 5000) :
    Calls Tryd.prog 44 #[.slice A n c] w fun e w' => e = .returned (.agg (U8 (digestN l)).toArray) ∧ Below w.heap.size w w' := by
  subst hn
  exact sum_ok l A c w hT hA hnil hb hl
end Go.Proofs.YtaokhkbfiplfmaaDoor
end
section
namespace Go.Proofs.YtaokhkbfiplfmaaDoor
set_option linter.unusedVariables false
open Go.ChangeShapes Go.WideShapes Go.ChangeAt Go.RowKit
end Go.Proofs.YtaokhkbfiplfmaaDoor
end
section
namespace Go.Proofs.YtaokhkbfiplfmaaDoor
set_option maxRecDepth 100000
set_option linter.unusedVariables false
open Go.ChangeShapes Go.WideShapes Go.ChangeAt Go.RowKit
end Go.Proofs.YtaokhkbfiplfmaaDoor
end
section
namespace Go.Proofs.YtaokhkbfiplfmaaDoor
set_option maxRecDepth 100000
set_option linter.unusedVariables false
open Go.ChangeShapes Go.WideShapes Go.ChangeAt Go.RowKit
end Go.Proofs.YtaokhkbfiplfmaaDoor
end
section
namespace Go.Proofs.YtaokhkbfiplfmaaDoor
set_option maxRecDepth 100000
set_option linter.unusedVariables false
open Go.ChangeShapes Go.WideShapes Go.ChangeAt Go.RowKit
end Go.Proofs.YtaokhkbfiplfmaaDoor
end
section
namespace Go.Proofs.YtaokhkbfiplfmaaDoor
set_option maxRecDepth 100000
set_option linter.unusedVariables false
open Go.ChangeShapes Go.WideShapes Go.ChangeAt Go.RowKit

section
variable {H : Type} {enc : TypeId × Value → H} {P : Program}
end

theorem sum_arr (l : List Nat) (FD : Array Value) (hF : Hid (FD = (U8 (digestN l)).toArray)) (n : Nat) (hn : n = l.length) (A : Option Addr) (c : Nat) (w : World) (hT : Tabs w) (hA : Rd w w.heap.size A (U8 l)) (hnil : A = none → c = 0) (hb : ∀ x ∈ l, x < 256) (hl : n ≤ 5000) :
    Calls Tryd.prog 44 #[.slice A n c] w fun e w' => e = .returned (.agg FD) ∧ Below w.heap.size w w' := by
  rw [hF.out]
  exact sum_len l n hn A c w hT hA hnil hb hl
end Go.Proofs.YtaokhkbfiplfmaaDoor
end
