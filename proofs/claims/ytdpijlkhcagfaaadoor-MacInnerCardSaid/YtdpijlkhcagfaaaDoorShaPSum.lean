/-
  Contract for Sum of package sha: the digest of bytes. Conditions: the slice reads as bytes, at most 5000 of them; the package's tables hold what its text lays.
-/
import Derived.Test.YtdpijlkhcagfaaaDoorShaPDigest
namespace Go.Proofs.YtdpijlkhcagfaaaDoor
set_option linter.unusedVariables false
open Go.ChangeShapes Go.WideShapes Go.ChangeAt Go.RowKit

/-- The words behind j blocks of p. -/
def blocksN (h : St) (p : List Nat) : Nat → St
  | 0 => h
  | j + 1 => blockN (blocksN h p j) (wordsOf ((p.drop (64 * j)).take 64))
theorem blocksN_ok {h : St} (hh : h.ok) (p : List Nat) (j : Nat) : (blocksN h p j).ok := by
  cases j with
  | zero => exact hh
  | succ j => exact sumSt_ok _ _
theorem beginN_ok : beginN.ok := by unfold St.ok beginN; decide
/-- How many blocks. -/
def nblk (l : List Nat) : Nat := (padN l).length / 64
theorem nblk_eq (l : List Nat) : (padN l).length = 64 * nblk l := by
  unfold nblk; rw [length_padN]; unfold zerosN; omega
theorem nblk_pos (l : List Nat) : 0 < nblk l := by
  have := nblk_eq l; rw [length_padN] at this; omega
/-- The digest's words, and its bytes. -/
def sumSt8 (l : List Nat) : St := blocksN beginN (padN l) (nblk l)
def digestN (l : List Nat) : List Nat := bytesOf (sumSt8 l).list

theorem block_r (h : St) (W : List Nat) (w : World) (hT : Tabs w) (hh : h.ok) (hx : ∀ x ∈ W, x < 4294967296) (hl : W.length = 16) :
    Calls Tryd.prog 9 #[h.val, .agg (U32 W).toArray] w fun e w' => ∃ R, Hid (R = blockN h W) ∧ e = .returned (.agg #[.int .u32 R.a, .int .u32 R.b, .int .u32 R.c, .int .u32 R.d, .int .u32 R.e, .int .u32 R.f, .int .u32 R.g, .int .u32 R.h]) ∧ Below w.heap.size w w' :=
  (block_list h W w hT hh hx hl).mono fun _ _ ⟨a, b⟩ => ⟨_, Lib.hid rfl, a, b⟩
theorem set8_all (w3 : World) (S : Nat) (V R : St) (t : TypeId) (hv : w3.heap[S]? = some (.cells (U32 V.list).toArray t (0, 0))) (w' : World) (h : w' = ((((((((w3.setCell ⟨S, 0, none⟩ (.int .u32 R.a)).setCell ⟨S, 1, none⟩ (.int .u32 R.b)).setCell ⟨S, 2, none⟩ (.int .u32 R.c)).setCell ⟨S, 3, none⟩ (.int .u32 R.d)).setCell ⟨S, 4, none⟩ (.int .u32 R.e)).setCell ⟨S, 5, none⟩ (.int .u32 R.f)).setCell ⟨S, 6, none⟩ (.int .u32 R.g)).setCell ⟨S, 7, none⟩ (.int .u32 R.h))) :
    w'.heap[S]? = some (.cells (U32 R.list).toArray t (0, 0)) ∧ Below S w3 w' ∧ ∀ k, k ≠ S → w'.heap[k]? = w3.heap[k]? := by
  subst h
  refine ⟨set8 w3 S V t hv _ _ _ _ _ _ _ _, ?_, fun k hk => ?_⟩
  · have hle := Nat.le_refl S
    exact ((((((((Below.refl _ _).setCell hle _).setCell hle _).setCell hle _).setCell hle _).setCell hle _).setCell hle _).setCell hle _).setCell hle _
  · simp only [heap_setCell_other _ _ k _ (show k ≠ (⟨S, _, none⟩ : Addr).block from hk)]
theorem cells8 {w : World} {g : Nat} {V : St} {t : TypeId} (h : w.heap[g]? = some (.cells (U32 V.list).toArray t (0, 0))) : w.cell? ⟨g, 0, none⟩ = some (.int .u32 (V.a : Int)) ∧ w.cell? ⟨g, 1, none⟩ = some (.int .u32 (V.b : Int)) ∧ w.cell? ⟨g, 2, none⟩ = some (.int .u32 (V.c : Int)) ∧ w.cell? ⟨g, 3, none⟩ = some (.int .u32 (V.d : Int)) ∧ w.cell? ⟨g, 4, none⟩ = some (.int .u32 (V.e : Int)) ∧ w.cell? ⟨g, 5, none⟩ = some (.int .u32 (V.f : Int)) ∧ w.cell? ⟨g, 6, none⟩ = some (.int .u32 (V.g : Int)) ∧ w.cell? ⟨g, 7, none⟩ = some (.int .u32 (V.h : Int)) := by
  have hlc : ∀ i (v : Nat), V.list[i]? = some v → w.cell? ⟨g, i, none⟩ = some (.int .u32 (v : Int)) := by
    intro i v hv
    rw [cell_of_row w g i _ _ (0, 0) h, List.getElem?_toArray, U32, List.getElem?_map, hv]; rfl
  exact ⟨hlc 0 _ rfl, hlc 1 _ rfl, hlc 2 _ rfl, hlc 3 _ rfl, hlc 4 _ rfl, hlc 5 _ rfl, hlc 6 _ rfl, hlc 7 _ rfl⟩
theorem froz8 {w : World} {g : Nat} {V : St} {t : TypeId} (h : w.heap[g]? = some (.cells (U32 V.list).toArray t (0, 0))) : w.frozen? ⟨g, 0, none⟩ = false ∧ w.frozen? ⟨g, 1, none⟩ = false ∧ w.frozen? ⟨g, 2, none⟩ = false ∧ w.frozen? ⟨g, 3, none⟩ = false ∧ w.frozen? ⟨g, 4, none⟩ = false ∧ w.frozen? ⟨g, 5, none⟩ = false ∧ w.frozen? ⟨g, 6, none⟩ = false ∧ w.frozen? ⟨g, 7, none⟩ = false := by
  have hf : ∀ i, w.frozen? ⟨g, i, none⟩ = false := fun i => frozen_of_row w g i _ _ h
  exact ⟨hf 0, hf 1, hf 2, hf 3, hf 4, hf 5, hf 6, hf 7⟩

theorem Tabs.begin {w : World} (h : Tabs w) (i v : Nat) (hi : beginN.list[i]? = some v) : w.cell? ⟨1, i, none⟩ = some (.int .u32 (v : Int)) ∧ 1 < w.heap.size := by
  obtain ⟨ad, he, hlt, hc⟩ := h.2 i (.int .u32 (v : Int)) (by rw [U32, List.getElem?_map, hi]; rfl)
  cases he
  rw [at_add] at hc
  exact ⟨hc, hlt⟩

theorem Rd.from {w : World} {B g k : Nat} {xs : List Value} (h : Rd w B (some ⟨g, 0, none⟩) xs) : Rd w B (some ⟨g, k, none⟩) (xs.drop k) := by
  intro i u hu
  rw [List.getElem?_drop] at hu
  obtain ⟨ad, he, hlt, hc⟩ := h (k + i) u hu
  cases he
  refine ⟨_, rfl, hlt, ?_⟩
  have e : (⟨g, k, none⟩ : Addr).add i = ⟨g, k + i, none⟩ := by
    unfold Addr.add
    split
    · next h0 => subst h0; rfl
    · rfl
  rw [e, ← hc, at_add]

theorem two_made {w w' : World} {ca cb : Array Value} {ta tb : TypeId} (h : w' = (w.alloc (.cells ca ta)).alloc (.cells cb tb)) :
    w'.heap.size = w.heap.size + 1 + 1 ∧ w'.heap[w.heap.size]? = some (.cells ca ta (0, 0)) ∧ w'.heap[w.heap.size + 1]? = some (.cells cb tb (0, 0)) ∧ Below w.heap.size w w' := by
  subst h
  exact ⟨by simp, heap_alloc2_old _ _ _, heap_alloc2_new _ _ _, ((Below.refl _ _).alloc (Nat.le_refl _) _).alloc (by simp) _⟩
theorem pad_len (l : List Nat) (n : Nat) (hn : n = l.length) (A : Option Addr) (c : Nat) (w : World) (hA : Rd w w.heap.size A (U8 l)) (hnil : A = none → c = 0) (hl : n ≤ 140737488351232) :
    Calls Tryd.prog 11 #[.slice A n c] w fun e w' => ∃ v, e = .returned v ∧ w'.ownsRow w.heap.size 5 1 v (padN l).length (U8 (padN l)) ∧ Below w.heap.size w w' := by
  subst hn
  exact pad_ok l A c w hA hnil hl
theorem U8_drop (l : List Nat) (k : Nat) : (U8 l).drop k = U8 (l.drop k) := by simp [U8]
/-- What is left of the padded bytes behind j blocks. -/
def Left (g n : Nat) (v : Value) (j : Nat) : Prop := ∃ ad r q, v = .slice (some ad) r q ∧ r + 64 * j = n ∧ r ≤ q ∧ q ≤ maxLen ∧ (0 < r → ad = ⟨g, 64 * j, none⟩)

set_option maxRecDepth 100000 in
set_option maxHeartbeats 1600000 in
theorem sum_ok (l : List Nat) (A : Option Addr) (c : Nat) (w : World) (hT : Tabs w) (hA : Rd w w.heap.size A (U8 l)) (hnil : A = none → c = 0) (hb : ∀ x ∈ l, x < 256) (hl : l.length ≤ 5000) :
    Calls Tryd.prog 15 #[.slice A l.length c] w fun e w' => e = .returned (.agg (U8 (digestN l)).toArray) ∧ Below w.heap.size w w' := by
  obtain ⟨c0, hg1⟩ := hT.begin 0 _ rfl
  have c1 := (hT.begin 1 _ rfl).1
  have c2 := (hT.begin 2 _ rfl).1
  have c3 := (hT.begin 3 _ rfl).1
  have c4 := (hT.begin 4 _ rfl).1
  have c5 := (hT.begin 5 _ rfl).1
  have c6 := (hT.begin 6 _ rfl).1
  have c7 := (hT.begin 7 _ rfl).1
  have HT := Lib.hid hT
  obtain ⟨n0, hn0⟩ : ∃ n0, n0 = l.length := ⟨_, rfl⟩
  have HN0 := Lib.hid hn0
  have HNIL := Lib.hid hnil
  have HA := Lib.hid hA
  have HB := Lib.hid hb
  rw [← hn0] at hl ⊢
  clear hT hn0 hnil hA hb
  go_enter Tryd.func15, Tryd.ntmps15
  go_wp2_with fail
  obtain ⟨w0, hw0⟩ : ∃ w0 : World, w0 = (w.alloc (.cells b32 36)).alloc (.cells (U32 beginN.list).toArray 23) := ⟨_, rfl⟩
  obtain ⟨hs0, hr0, hv0, hb0⟩ := two_made hw0
  refine (pad_len l n0 HN0.out A c _ ((HA.out.below (by rw [hw0] at hb0; exact hb0)).more (by simp; omega)) HNIL.out (by omega)).mono ?_
  rintro e w1 ⟨v1, rfl, hown1, hb1⟩
  replace hb1 : Below w0.heap.size w0 w1 := by rw [hw0]; exact hb1
  have hown1' : w1.ownsRow w0.heap.size 5 1 v1 (padN l).length (U8 (padN l)) := by rw [hw0]; exact hown1
  rw [nblk_eq] at hown1'
  have hm0 := nblk_pos l
  have hm1 : nblk l ≤ 80 := by have := nblk_eq l; rw [length_padN, ← HN0.out] at this; unfold zerosN at this; omega
  obtain ⟨m, hm⟩ : ∃ m, m = nblk l := ⟨_, rfl⟩
  rw [← hm] at hown1' hm0 hm1
  obtain ⟨g, cap, rfl, hgb⟩ := hown1'.form (by omega)
  have hcap : 64 * m ≤ cap ∧ cap ≤ maxLen := by
    rcases hown1'.2 with ⟨h, _⟩ | ⟨g', cap', cur, h, _, _, h1, h2, _⟩
    · cases h
    · simp at h; obtain ⟨_, rfl⟩ := h; exact ⟨h1, h2⟩
  obtain ⟨hcap1, hcap2⟩ := hcap
  have hs1 : w.heap.size + 1 + 1 ≤ w1.heap.size := by have := hb1.size; omega
  have hr1 : w1.heap[w.heap.size]? = some (.cells b32 36 (0, 0)) := (hb1.block _ (by omega)).trans hr0
  have hv1 : w1.heap[w.heap.size + 1]? = some (.cells (U32 beginN.list).toArray 23 (0, 0)) := (hb1.block _ (by omega)).trans hv0
  have hbw : Below w.heap.size w w1 := hb0.trans (hb1.mono hb0.size)
  have hgs : w.heap.size + 1 < g := by have := own_ge hown1' (g := g) rfl; omega
  have hgl : g < w1.heap.size := by
    obtain ⟨ad, he, hlt, _⟩ := (Rd.of_own hown1') 0 _ (U8_at (padN l) 0 (by rw [nblk_eq, ← hm]; omega))
    cases he; exact hlt
  have HM := Lib.hid hm
  have HO1 := Lib.hid hown1'
  have HR1 := Lib.hid hr1
  have HV1 := Lib.hid hv1
  have HBW := Lib.hid hbw
  have HPB := Lib.hid (padN_lt l HB.out)
  clear hown1 hown1' hr1 hv1 hbw hb0 hb1 hs0 hr0 hv0 hw0 hm c0 c1 c2 c3 c4 c5 c6 c7
  go_wp2_with fail
  go_loopw [4] (fun v wr => ∃ j : Nat, j ≤ m ∧ Left g (64 * m) v j ∧ wr.heap[w.heap.size + 1]? = some (.cells (U32 (blocksN beginN (padN l) j).list).toArray 23 (0, 0)) ∧ Below (w.heap.size + 1) w1 wr ∧ wr.heap[g]? = w1.heap[g]?) (fun v _ => lenV v)
  case atStart => exact ⟨0, Nat.zero_le _, ⟨_, _, _, rfl, by omega, hcap1, hcap2, fun _ => rfl⟩, HV1.out, Below.refl _ _, rfl⟩
  case round =>
    obtain ⟨j, hj, ⟨ad, r, q, rfl, hrj, hrq, hqm, had⟩, hv, hbel, hgk⟩ := hrel
    by_cases hlt : 0 < r
    · obtain rfl := had hlt
      have hjm : j < m := by omega
      have hr64 : 64 ≤ r := by omega
      have hgw : g < wr.heap.size := by have := hbel.size; omega
      have hrd0 : Rd wr.drew wr.drew.heap.size (some ⟨g, 0, none⟩) (U8 (padN l)) := by
        intro k u hu
        obtain ⟨ad, he, _, hc⟩ := (Rd.of_own HO1.out) k u hu
        cases he
        refine ⟨_, rfl, hgw, ?_⟩
        rw [at_add] at hc ⊢
        exact (World.cell?_of_block (w := w1) (w' := wr) hgk).trans hc
      have hrd := hrd0.from (k := 64 * j)
      rw [U8_drop] at hrd
      have hlq : ((padN l).drop (64 * j)).length = r := by rw [List.length_drop, nblk_eq, ← HM.out]; omega
      have hbq : ∀ x ∈ (padN l).drop (64 * j), x < 256 := fun x hx => HPB.out x (List.mem_of_mem_drop hx)
      have hnext : blocksN beginN (padN l) (j + 1) = blockN (blocksN beginN (padN l) j) (wordsOf (((padN l).drop (64 * j)).take 64)) := rfl
      have hok := blocksN_ok beginN_ok (padN l) j
      have hT2 : Tabs wr.drew := HT.out.next (HBW.out.trans ((hbel.mono (by omega)).drew))
      obtain ⟨W, hWE⟩ : ∃ W, W = wordsOf (((padN l).drop (64 * j)).take 64) := ⟨_, rfl⟩
      have hW1 : W.length = 16 := by rw [hWE, length_wordsOf, List.length_take, hlq, Nat.min_eq_left hr64]
      have hW2 : ∀ x ∈ W, x < 4294967296 := by rw [hWE]; exact wordsOf_lt _ (fun x hx => hbq x (List.mem_of_mem_take hx))
      have hbwc := blockWords_any ((padN l).drop (64 * j)) ⟨g, 64 * j, none⟩ r q wr.drew hrd hbq hlq hr64 hrq hqm
      rw [← hWE] at hnext hbwc
      obtain ⟨V, hVE⟩ : ∃ V, V = blocksN beginN (padN l) j := ⟨_, rfl⟩
      rw [← hVE] at hv hnext hok
      have HNX := Lib.hid hnext
      have HBWC := Lib.hid hbwc
      have HOK := Lib.hid hok
      have HT2 := Lib.hid hT2
      have HW1 := Lib.hid hW1
      have HW2 := Lib.hid hW2
      have HV := Lib.hid hv
      have HGK := Lib.hid hgk
      have hrp : (0 : Int) < (r : Int) := by omega
      unfold maxLen at hqm
      clear hrd0 hrd hlq hbq hnext hok hT2 hW1 hW2 hWE hbwc hv hVE hgk had
      go_wp2_with fail
      obtain ⟨a0, a1, a2, a3, a4, a5, a6, a7⟩ := cells8 HV.out
      have hgw2 : w.heap.size + 1 < wr.heap.size := by omega
      go_region_law (first
        | (go_simp; go_at_call 31; refine HBWC.out.mono ?_; rintro e w2 ⟨rfl, hb2⟩; have hs2 : wr.heap.size ≤ w2.heap.size := hb2.size; have HV2 := Lib.hid ((hb2.block (w.heap.size + 1) hgw2).trans HV.out); obtain ⟨b0, b1, b2, b3, b4, b5, b6, b7⟩ := cells8 HV2.out)
        | (go_simp; go_at_call 9; refine (block_r V W w2 (HT2.out.next hb2) HOK.out HW2.out HW1.out).mono ?_; rintro e w3 ⟨R, HRE, rfl, hb3⟩; have HV3 := Lib.hid ((hb3.block (w.heap.size + 1) (by omega)).trans HV2.out); obtain ⟨d0, d1, d2, d3, d4, d5, d6, d7⟩ := cells8 HV3.out; obtain ⟨z0, z1, z2, z3, z4, z5, z6, z7⟩ := froz8 HV3.out; have hs3 : w2.heap.size ≤ w3.heap.size := hb3.size))
      all_goals clear a0 a1 a2 a3 a4 a5 a6 a7 b0 b1 b2 b3 b4 b5 b6 b7 d0 d1 d2 d3 d4 d5 d6 d7 z0 z1 z2 z3 z4 z5 z6 z7
      all_goals by_cases hq64 : q = 64
      all_goals go_wp2
      all_goals
        obtain ⟨q1, q2, q3⟩ := set8_all w3 (w.heap.size + 1) V R 23 HV3.out _ rfl
        refine ⟨⟨j + 1, by omega, ⟨_, _, _, rfl, by omega, by omega, by unfold maxLen; omega, ?_⟩, ?_, ?_, ?_⟩, by simp only [lenV]; omega⟩
        · first
            | (intro h; exfalso; omega)
            | (intro _; rw [Nat.mul_succ])
        · rw [q1, HNX.out, ← HRE.out]
        · exact ((hbel.drew.trans (hb2.mono (by show _ ≤ wr.heap.size; omega))).trans (hb3.mono (by omega))).trans q2
        · exact (q3 g (by omega)).trans ((hb3.block g (by omega)).trans ((hb2.block g hgw).trans HGK.out))
    · have hjm : j = m := by omega
      subst hjm
      have hr0 : r = 0 := by omega
      subst hr0
      obtain ⟨V, hVE⟩ : ∃ V, V = blocksN beginN (padN l) j := ⟨_, rfl⟩
      have hok : V.ok := by rw [hVE]; exact blocksN_ok beginN_ok _ _
      rw [← hVE] at hv
      have hdg : digestN l = bytesOf V.list := by rw [hVE, HM.out]; rfl
      have hres : wr.heap[w.heap.size]? = some (.cells b32 36 (0, 0)) := (hbel.block _ (by omega)).trans HR1.out
      have hbb : Below w.heap.size w wr := HBW.out.trans (hbel.mono (by omega))
      have hsr : w.heap.size + 1 < wr.heap.size := by have := hbel.size; omega
      have HV := Lib.hid hv
      have HOK := Lib.hid hok
      have HDG := Lib.hid hdg
      have HRES := Lib.hid hres
      clear hv hVE hok hdg hres hbel hgk had
      go_wp2_with ((with_reducible refine at_load 17 ?_); refine wpList_load_row (o := ⟨some 17, .load 23 (.tmp 3), _, _, _, _⟩) rfl 23 (.tmp 3) rfl (w.heap.size + 1) rfl 23 (U32 V.list).toArray (0, 0) _ HV.out Tryd.underlying23 rfl info28 ?_)
      refine (digest_any V wr HOK.out).mono ?_
      rintro e w2 ⟨rfl, hb2⟩
      obtain ⟨D, hD⟩ : ∃ D, D = bytesOf V.list := ⟨_, rfl⟩
      rw [← hD]
      have hDl : D.length = 32 := by rw [hD, length_bytesOf]; rfl
      have hsz : (U8 D).toArray.size = 32 := by simp [U8, hDl]
      have hin : (Tryd.prog.info? 36).map (·.size) = some (U8 D).toArray.size := by rw [hsz]; exact info32
      have HRES2 := Lib.hid ((hb2.block w.heap.size (by omega)).trans HRES.out)
      have HSZ := Lib.hid hsz
      have HIN := Lib.hid hin
      have HD := Lib.hid hD
      clear hD hDl hsz hin
      go_wp2_with ((with_reducible refine at_store 2 ?_); refine wpList_store_named (o := ⟨none, .store 36 (.tmp 2) (.tmp 18), _, _, _, _⟩) rfl 36 (.tmp 2) (.tmp 18) rfl w.heap.size (U8 D).toArray rfl rfl 36 b32 HRES2.out HIN.out HSZ.out.symm (all_one8 D) ?_; intro w3 hw3)
      have hr3 : w3.heap[w.heap.size]? = some (.cells (U8 D).toArray 36 (0, 0)) := by rw [hw3.out]; exact setRow_heap _ _ _ _ _ _ HRES2.out
      refine bodyPost_ret (results_cell_row Tryd.results15 _ w3 w.heap.size 36 _ (0, 0) _ rfl hr3 Tryd.underlying36 rfl HIN.out) rfl ⟨by rw [HDG.out, HD.out], ?_⟩
      exact (hbb.trans (hb2.mono (by omega))).trans (below_row hw3.out (Nat.le_refl _))
end Go.Proofs.YtdpijlkhcagfaaaDoor
