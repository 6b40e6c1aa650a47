/-
  Contract for the landed next, where a field is read. Conditions: the reader lies in a box of its own, behind its bytes.
-/
import Derived.Test.YtkjghmonpdbjeaaTlvPNext
import Derived.Deep.Heap
namespace Go.Proofs.Ytkjghmonpdbjeaa
set_option linter.unusedVariables false
open Go.ChangeShapes Go.WideShapes Go.ChangeAt Go.RowKit

/-- The world where a field was read: the result's cell, the reader's box, all old memory but the box. -/
theorem read_world {w : World} {X m c a nq : Nat} {A : Option Addr} (hK : RdBox w X A m c a) (z0 z1 V T r0 r1 : Value) (o : Array Value) (ty : TypeId) {W : World}
    (hW : W = ((((((w.alloc (.cells #[z0, z1] ty)).drewN nq).setCell ⟨X, 0, none⟩ V).setCell ⟨X, 1, none⟩ T).setCell ⟨w.heap.size, 0, none⟩ r0).setCell ⟨w.heap.size, 1, none⟩ r1).alloc (.cells o ty)) :
    W.heap[w.heap.size]? = some (.cells #[r0, r1] ty (0, 0)) ∧ W.heap[X]? = some (.cells #[V, T] 43 (0, 0)) ∧ w.grownBy W (some X) := by
  have hX := hK.lt
  have hne : X ≠ w.heap.size := by omega
  have h1 : ((w.alloc (.cells #[z0, z1] ty)).drewN nq).heap[w.heap.size]? = some (.cells #[z0, z1] ty (0, 0)) := heap_alloc_new w _
  have h2 : ((w.alloc (.cells #[z0, z1] ty)).drewN nq).heap[X]? = some (.cells #[.slice A m c, .int .i64 (a : Int)] 43 (0, 0)) := ((below_lit w _ ty).block X hX).trans hK
  obtain ⟨w1, hw1⟩ : ∃ w1, w1 = (w.alloc (.cells #[z0, z1] ty)).drewN nq := ⟨_, rfl⟩
  have hb1 : Below w.heap.size w w1 := by rw [hw1]; exact below_drewN (below_lit w _ _) _
  rw [← hw1] at h1 h2 hW
  have h3 : ((w1.setCell ⟨X, 0, none⟩ V).setCell ⟨X, 1, none⟩ T).heap[X]? = some (.cells #[V, T] 43 (0, 0)) := fld_cells h2
  have h4 : ((w1.setCell ⟨X, 0, none⟩ V).setCell ⟨X, 1, none⟩ T).heap[w.heap.size]? = some (.cells #[z0, z1] ty (0, 0)) :=
    (Go.Deep.blk_setCell_other _ _ _ _ (Ne.symm hne)).trans ((Go.Deep.blk_setCell_other _ _ _ _ (Ne.symm hne)).trans h1)
  obtain ⟨w2, hw2⟩ : ∃ w2, w2 = (w1.setCell ⟨X, 0, none⟩ V).setCell ⟨X, 1, none⟩ T := ⟨_, rfl⟩
  have hb2 : Below X w w2 := by rw [hw2]; exact ((hb1.mono (Nat.le_of_lt hX)).setCell (Nat.le_refl _) _).setCell (Nat.le_refl _) _
  have hk2 : ∀ k, k < w.heap.size → k ≠ X → w2.heap[k]? = w.heap[k]? := fun k hk hne => by rw [hw2]; exact (Go.Deep.blk_setCell_other _ _ _ _ hne).trans ((Go.Deep.blk_setCell_other _ _ _ _ hne).trans (hb1.block k hk))
  rw [← hw2] at h3 h4 hW
  have h5 : ((w2.setCell ⟨w.heap.size, 0, none⟩ r0).setCell ⟨w.heap.size, 1, none⟩ r1).heap[w.heap.size]? = some (.cells #[r0, r1] ty (0, 0)) := fld_cells h4
  have h6 : ((w2.setCell ⟨w.heap.size, 0, none⟩ r0).setCell ⟨w.heap.size, 1, none⟩ r1).heap[X]? = some (.cells #[V, T] 43 (0, 0)) :=
    (Go.Deep.blk_setCell_other _ _ _ _ hne).trans ((Go.Deep.blk_setCell_other _ _ _ _ hne).trans h3)
  obtain ⟨w3, hw3⟩ : ∃ w3, w3 = (w2.setCell ⟨w.heap.size, 0, none⟩ r0).setCell ⟨w.heap.size, 1, none⟩ r1 := ⟨_, rfl⟩
  have hb3 : Below X w w3 := by rw [hw3]; exact (hb2.setCell (Nat.le_of_lt hX) _).setCell (Nat.le_of_lt hX) _
  have hk3 : ∀ k, k < w.heap.size → k ≠ X → w3.heap[k]? = w.heap[k]? := fun k hk hne => by rw [hw3]; exact (Go.Deep.blk_setCell_other _ _ _ _ (Nat.ne_of_lt hk)).trans ((Go.Deep.blk_setCell_other _ _ _ _ (Nat.ne_of_lt hk)).trans (hk2 k hk hne))
  rw [← hw3] at h5 h6 hW
  have l5 := (Array.getElem?_eq_some_iff.1 h5).1
  have l6 := (Array.getElem?_eq_some_iff.1 h6).1
  subst hW
  have hb4 := hb3.trans ((below_lit w3 o ty).mono (Nat.le_of_lt l6))
  exact ⟨((below_lit w3 o ty).block _ l5).trans h5, ((below_lit w3 o ty).block _ l6).trans h6, hb4.os, hb4.tape, hb4.output, hb4.size, fun k hk hne => ((below_lit w3 o ty).block k (by omega)).trans (hk3 k hk (fun e => hne (by rw [e])))⟩
theorem below_of_box {w w' : World} {X : Nat} (h : w.grownBy w' (some X)) (hX : X < w.heap.size) : Below X w w' := ⟨h.os, h.tape, h.output, h.size, fun k hk => h.block k (by omega) (by simp; omega)⟩
/-- What stands behind two bytes: the first of it, and what is left. -/
theorem behind_two {w : World} {X t n c : Nat} {r : List Nat} {ad : Addr} (h : Bs w X (t :: n :: r) (some ad) c) (hn : n ≤ r.length) :
    Bs w X (r.take n) (some ⟨ad.block, ad.off + 2, none⟩) n ∧ Bs w X (r.drop n) (some (ad.add (n + 2))) (c - (n + 2)) := by
  have hl := h.len
  have hc := h.cap
  simp only [List.length_cons] at hl
  have e2 : (⟨ad.block, ad.off + 2, none⟩ : Addr) = ad.add 2 := by unfold Addr.add; simp
  refine ⟨⟨fun k u hu => ?_, by simp, by rw [List.length_take]; omega, by omega, fun x hx => h.lt x (by simp [List.mem_of_mem_take hx])⟩, ⟨fun k u hu => ?_, by simp, by rw [List.length_drop]; omega, by omega, fun x hx => h.lt x (by simp [List.mem_of_mem_drop hx])⟩⟩
  · have hk : k < n := by
      have := (List.getElem?_eq_some_iff.1 hu).1
      simp [U8] at this; omega
    obtain ⟨ad', e, hlt, hcl⟩ := h.rd (2 + k) u (by
      rw [Nat.add_comm]
      simp only [U8, List.map_take, List.map_cons, List.getElem?_cons_succ] at hu ⊢
      rwa [List.getElem?_take_of_lt hk] at hu)
    cases e
    exact ⟨_, rfl, hlt, by rw [e2, Addr.add_add]; exact hcl⟩
  · obtain ⟨ad', e, hlt, hcl⟩ := h.rd (n + 2 + k) u (by
      rw [show n + 2 + k = n + k + 2 by omega]
      simp only [U8, List.map_drop, List.map_cons, List.getElem?_cons_succ] at hu ⊢
      rwa [List.getElem?_drop] at hu)
    cases e
    exact ⟨_, rfl, by rw [add_block]; exact hlt, by rw [Addr.add_add]; exact hcl⟩
set_option maxRecDepth 100000 in
set_option maxHeartbeats 1600000 in
theorem pnext_ok (t n : Nat) (r : List Nat) (m : Nat) (hm : m = r.length + 2) (c a X : Nat) (A : Option Addr) (w : World) (hK : RdBox w X A m c a) (hA : Bs w X (t :: n :: r) A c) (h : a < t) (h2 : n ≤ r.length) :
    Calls Try.prog 25 #[.pointer (some ⟨X, 0, none⟩)] w fun e w' => ∃ S cs A' c', e = .returned (.tuple #[.agg #[.int .i64 (t : Int), .slice S n cs], .int .i64 0]) ∧ RdBox w' X A' (r.length - n) c' t ∧ Bs w' X (r.take n) S cs ∧ Bs w' X (r.drop n) A' c' ∧ w.grownBy w' (some X) := by
  obtain ⟨ad, rfl, hlt, ht, hn, ht2, hn2⟩ := two_ahead hA
  have hX := hK.lt
  have c0 := hK.c0
  have c1 := hK.c1
  have z0 := hK.fz 0
  have z1 := hK.fz 1
  have lk := World.block_lt_of_cell? w _ ht
  have lk2 := World.block_lt_of_cell? w _ hn
  have hmc : m ≤ c := by have := hA.len; simp only [List.length_cons] at this; omega
  have hcc := hA.cap
  have m2 : (2 : Int) ≤ (m : Int) := by omega
  have m0 : ((m : Int) == 0) = false := by rw [beq_eq_false_iff_ne]; omega
  have m0' : (m == 0) = false := by rw [beq_eq_false_iff_ne]; omega
  have m0n : 0 < m := by omega
  have m1n : 1 < m := by omega
  have m1i : (1 : Int) < (m : Int) := by omega
  have wt : IntKind.i64.wrap (t : Int) = (t : Int) := IntWalk.i64_in _ (by omega)
  have wn : IntKind.i64.wrap (n : Int) = (n : Int) := IntWalk.i64_in _ (by omega)
  obtain ⟨q, hq⟩ : ∃ q, q = n + 2 := ⟨_, rfl⟩
  have wn2 : IntKind.i64.wrap (2 + (n : Int)) = (q : Int) := by rw [IntWalk.i64_in _ (by omega)]; omega
  have hta : ¬ (t : Int) ≤ (a : Int) := by omega
  have hov : ¬ (m : Int) < (q : Int) := by omega
  have q2 : (2 : Int) ≤ (q : Int) := by omega
  have qm : (q : Int) ≤ (m : Int) := by omega
  have qc : (q : Int) ≤ (c : Int) := by omega
  have q2n : 2 ≤ q := by omega
  have qmn : q ≤ m := by omega
  have qcn : q ≤ c := by omega
  have q0 : (0 : Int) ≤ (q : Int) := by omega
  have hne : ¬ X = w.heap.size := by omega
  have hne2 : ¬ X = w.heap.size + 1 := by omega
  have HK := Lib.hid hK
  have HA := Lib.hid hA
  have HM := Lib.hid hm
  have HQ := Lib.hid hq
  clear hK hA hm hq
  have hbt := behind_two HA.out h2
  rw [← HQ.out] at hbt
  have HV := Lib.hid hbt.1
  have HD := Lib.hid hbt.2
  have hmq : m - q = r.length - n := by rw [HM.out, HQ.out]; omega
  have hq2 : q - 2 = n := by rw [HQ.out]; omega
  have HMQ := Lib.hid hmq
  have HQ2 := Lib.hid hq2
  clear hbt hmq hq2
  by_cases e1 : q = 2
  · have hn0 : n = 0 := by rw [← HQ2.out]; omega
    by_cases e2 : c = q
    · have hd0 : r.drop n = [] := List.drop_eq_nil_of_le (by have h1 := HMQ.out; have h3 := HM.out; have h4 := HQ.out; omega)
      have HD0 := Lib.hid hd0
      clear hd0
      subst e1
      subst hn0
      go_enter Try.func25, Try.ntmps25
      go_wp2
      go_quiet (fail)
      go_wp2
      obtain ⟨W, hW⟩ : ∃ W, W = ((((((w.alloc (.cells #[.int .i64 0, .slice none 0 0] 40)).drewN nq).setCell ⟨X, 0, none⟩ (.slice (some ad) (m - 2) 0)).setCell ⟨X, 1, none⟩ (.int .i64 (t : Int))).setCell ⟨w.heap.size, 0, none⟩ (.int .i64 (t : Int))).setCell ⟨w.heap.size, 1, none⟩ (.slice (some ad) 0 0)).alloc (.cells #[.int .i64 (t : Int), .slice (some ad) 0 0] 40) := ⟨_, rfl⟩
      rw [← hW]
      obtain ⟨h1, h3, hg⟩ := read_world HK.out _ _ _ _ _ _ _ _ hW
      have hb := below_of_box hg hX
      rw [HMQ.out] at h3
      exact bodyPost_ret (results_row_tmp' Try.results25 _ W w.heap.size 40 #[.int .i64 (t : Int), .slice (some ad) 0 0] (0, 0) _ rfl h1 Try.underlying40 rfl info_fld) rfl ⟨some ad, 0, some ad, 0, rfl, h3, bs_none _ _ _, by rw [HD0.out]; exact bs_none _ _ _, hg⟩
    · subst e1
      subst hn0
      have e3 : ad.add 2 = ⟨ad.block, ad.off + 2, none⟩ := by unfold Addr.add; simp
      have hd := HD.out
      rw [e3] at hd
      replace HD := Lib.hid hd
      clear hd e3
      go_enter Try.func25, Try.ntmps25
      go_wp2
      go_quiet (fail)
      go_wp2
      obtain ⟨W, hW⟩ : ∃ W, W = ((((((w.alloc (.cells #[.int .i64 0, .slice none 0 0] 40)).drewN nq).setCell ⟨X, 0, none⟩ (.slice (some ⟨ad.block, ad.off + 2, none⟩) (m - 2) (c - 2))).setCell ⟨X, 1, none⟩ (.int .i64 (t : Int))).setCell ⟨w.heap.size, 0, none⟩ (.int .i64 (t : Int))).setCell ⟨w.heap.size, 1, none⟩ (.slice (some ad) 0 0)).alloc (.cells #[.int .i64 (t : Int), .slice (some ad) 0 0] 40) := ⟨_, rfl⟩
      rw [← hW]
      obtain ⟨h1, h3, hg⟩ := read_world HK.out _ _ _ _ _ _ _ _ hW
      have hb := below_of_box hg hX
      rw [HMQ.out] at h3
      exact bodyPost_ret (results_row_tmp' Try.results25 _ W w.heap.size 40 #[.int .i64 (t : Int), .slice (some ad) 0 0] (0, 0) _ rfl h1 Try.underlying40 rfl info_fld) rfl ⟨some ad, 0, some ⟨ad.block, ad.off + 2, none⟩, (c - 2), rfl, h3, bs_none _ _ _, HD.out.below hb, hg⟩
  · by_cases e2 : c = q
    · have hd0 : r.drop n = [] := List.drop_eq_nil_of_le (by have h3 := HM.out; have h4 := HQ.out; omega)
      have HD0 := Lib.hid hd0
      clear hd0
      go_enter Try.func25, Try.ntmps25
      go_wp2
      go_quiet (fail)
      go_wp2
      obtain ⟨W, hW⟩ : ∃ W, W = ((((((w.alloc (.cells #[.int .i64 0, .slice none 0 0] 40)).drewN nq).setCell ⟨X, 0, none⟩ (.slice (some ad) (m - q) 0)).setCell ⟨X, 1, none⟩ (.int .i64 (t : Int))).setCell ⟨w.heap.size, 0, none⟩ (.int .i64 (t : Int))).setCell ⟨w.heap.size, 1, none⟩ (.slice (some ⟨ad.block, ad.off + 2, none⟩) (q - 2) (q - 2))).alloc (.cells #[.int .i64 (t : Int), .slice (some ⟨ad.block, ad.off + 2, none⟩) (q - 2) (q - 2)] 40) := ⟨_, rfl⟩
      rw [← hW]
      obtain ⟨h1, h3, hg⟩ := read_world HK.out _ _ _ _ _ _ _ _ hW
      have hb := below_of_box hg hX
      rw [HMQ.out] at h3
      rw [HQ2.out] at h1
      exact bodyPost_ret (results_row_tmp' Try.results25 _ W w.heap.size 40 #[.int .i64 (t : Int), .slice (some ⟨ad.block, ad.off + 2, none⟩) n n] (0, 0) _ rfl h1 Try.underlying40 rfl info_fld) rfl ⟨some ⟨ad.block, ad.off + 2, none⟩, n, some ad, 0, rfl, h3, HV.out.below hb, by rw [HD0.out]; exact bs_none _ _ _, hg⟩
    · go_enter Try.func25, Try.ntmps25
      go_wp2
      go_quiet (fail)
      go_wp2
      obtain ⟨W, hW⟩ : ∃ W, W = ((((((w.alloc (.cells #[.int .i64 0, .slice none 0 0] 40)).drewN nq).setCell ⟨X, 0, none⟩ (.slice (some (ad.add q)) (m - q) (c - q))).setCell ⟨X, 1, none⟩ (.int .i64 (t : Int))).setCell ⟨w.heap.size, 0, none⟩ (.int .i64 (t : Int))).setCell ⟨w.heap.size, 1, none⟩ (.slice (some ⟨ad.block, ad.off + 2, none⟩) (q - 2) (q - 2))).alloc (.cells #[.int .i64 (t : Int), .slice (some ⟨ad.block, ad.off + 2, none⟩) (q - 2) (q - 2)] 40) := ⟨_, rfl⟩
      rw [← hW]
      obtain ⟨h1, h3, hg⟩ := read_world HK.out _ _ _ _ _ _ _ _ hW
      have hb := below_of_box hg hX
      rw [HMQ.out] at h3
      rw [HQ2.out] at h1
      exact bodyPost_ret (results_row_tmp' Try.results25 _ W w.heap.size 40 #[.int .i64 (t : Int), .slice (some ⟨ad.block, ad.off + 2, none⟩) n n] (0, 0) _ rfl h1 Try.underlying40 rfl info_fld) rfl ⟨some ⟨ad.block, ad.off + 2, none⟩, n, some (ad.add q), (c - q), rfl, h3, HV.out.below hb, HD.out.below hb, hg⟩
/-- The same, by the field that is read. -/
theorem pnext_fld (t n : Nat) (r : List Nat) (f : Tf) (hf : f = ⟨t, r.take n⟩) (p : List Nat) (hp : p = r.drop n) (m : Nat) (hm : m = r.length + 2) (c a X : Nat) (A : Option Addr) (w : World) (hK : RdBox w X A m c a) (hA : Bs w X (t :: n :: r) A c) (h : a < t) (h2 : n ≤ r.length) :
    Calls Try.prog 25 #[.pointer (some ⟨X, 0, none⟩)] w fun e w' => ∃ S cs A' c', e = .returned (.tuple #[.agg #[.int .i64 f.tag, .slice S f.val.length cs], .int .i64 0]) ∧ RdBox w' X A' p.length c' t ∧ Bs w' X f.val S cs ∧ Bs w' X p A' c' ∧ w.grownBy w' (some X) := by
  have hl : (r.take n).length = n := by rw [List.length_take]; omega
  refine (pnext_ok t n r m hm c a X A w hK hA h h2).mono ?_
  rintro e w' ⟨S, cs, A', c', rfl, h1, h2, h3, h4⟩
  subst hf hp
  exact ⟨S, cs, A', c', by rw [hl], by rw [List.length_drop]; exact h1, h2, h3, h4⟩
end Go.Proofs.Ytkjghmonpdbjeaa
