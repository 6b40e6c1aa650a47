/-
  Contract for the landed apart: a key with a secret of its own. Conditions: the secret has from 1 to 64 bytes.
-/
import Derived.Test.YtedkgkokfaadfaaRingBox
import Derived.Test.YtedkgkokfaadfaaRingC
import Derived.Deep.RegionHeld3
import Derived.Deep.MidRow
import Derived.ArgAppend
namespace Go.Proofs.Ytedkgkokfaadfaa
set_option linter.unusedVariables false
open Go.ChangeShapes Go.WideShapes Go.ChangeAt Go.RowKit

theorem rd_at {w : World} {B : Nat} {ad : Addr} {xs : List Value} (h : Rd w B (some ad) xs) : ∀ j u, xs[j]? = some u → w.cell? (ad.add j) = some u := by
  intro j u hu
  obtain ⟨ad', e, _, hc⟩ := h j u hu
  cases e
  exact hc
theorem bs_of_own {w : World} {base n : Nat} {v : Value} {s : List Nat} (h : w.ownsRow base 5 1 v n (U8 s)) (hs : ∀ x ∈ s, x < 256) : ∃ A c, v = .slice A n c ∧ Bs w w.heap.size s A c := by
  have hn : s.length = n := by have := h.1; simpa [U8] using this
  rcases h.2 with ⟨rfl, h0⟩ | ⟨g, cap, cur, rfl, _, _, h2, h3, _⟩
  · subst h0
    have : s = [] := List.eq_nil_of_length_eq_zero hn
    subst this
    exact ⟨none, 0, rfl, ⟨by intro k u hu; simp [U8] at hu, fun _ => rfl, by simp, by omega, by simp⟩⟩
  · unfold maxLen at h3
    exact ⟨_, cap, rfl, ⟨Rd.of_own h, by simp, by omega, h3, hs⟩⟩
/-- One cell is stored into the middle of a block; the world behind it bears a name. -/
theorem run_storeVar_cell {P : Program} (w : World) (b o : Nat) (ty : TypeId) (v : Value) (h1 : v.oneCell' = true) (hc : (w.cell? ⟨b, o, none⟩).isSome = true) (hf : w.frozen? ⟨b, o, none⟩ = false) (hi : (P.info? ty).map (·.size) = some 1) :
    (storeVar ty ⟨b, o, none⟩ v).run P w = .ok () (w.setCell ⟨b, o, none⟩ v) := by
  have := run_storeCells_cells (P := P) b o [v] 0 w (fun j hj => by have : j = 0 := by simpa using hj
                                                                    subst this; simpa using hc) (fun j hj => by have : j = 0 := by simpa using hj
                                                                                                                subst this; simpa using hf) (fun x hx => by simp at hx; subst hx; exact h1)
  have he : v.cells = #[v] := by cases v <;> first | rfl | cases h1
  cases hq : P.info? ty with
  | none => simp [hq] at hi
  | some i =>
    have hs : i.size = 1 := by simpa [hq] using hi
    simp only [Nat.add_zero] at this
    simp [storeVar, sizeOf, typeInfo, hq, he, hs, this]
    rfl
theorem wpList_store_cell {P : Program} {ops : Array Oper} {rest : List Oper} {op : Oper} {a : Act} {w : World} {Q : Exit → Act → World → Prop} (hgd : op.guard = none) (ty : TypeId) (x y : Operand) (ho : op.op = .store ty x y)
    (b o : Nat) (v : Value) (hx : a.eval x = .pointer (some ⟨b, o, none⟩)) (hy : a.eval y = v) (h1 : v.oneCell' = true)
    (hc : (w.cell? ⟨b, o, none⟩).isSome = true) (hf : w.frozen? ⟨b, o, none⟩ = false) (hi : (P.info? ty).map (·.size) = some 1)
    (h : ∀ w', Hid (w' = w.setCell ⟨b, o, none⟩ v) → wpList P ops Q rest (a.put op.dst undef) w') : wpList P ops Q (op :: rest) a w :=
  wpList_plain hgd fun _ hK => by
    unfold Oper.wp execOp
    simp only [ho, hx, hy, Instr.storeAt, Instr.sureAddr, Sem.run_bind, Sem.run_pure, Result.andThen_ok, run_storeVar_cell w b o ty v h1 hc hf hi]
    exact hK _ _ (h _ (Lib.hid rfl))
theorem grown_cell (W : World) (b o : Nat) (v : Value) : W.grownBy (W.setCell ⟨b, o, none⟩ v) (some b) :=
  ⟨rfl, rfl, rfl, by simp, fun k _ hk => Below.heap_setCell W _ v k (fun e => hk (by rw [e]))⟩
theorem grown_row (W : World) (b : Nat) (c : Array Value) : W.grownBy (W.setRow b c) (some b) :=
  ⟨rfl, rfl, rfl, by simp, fun k _ hk => setRow_other W b k c (fun e => hk (by rw [e]))⟩
theorem infoBytes : (Try.prog.info? 24).map (·.size) = some 1 := by kernel_rfl
theorem results_row {P : Program} {fn : Func} {p : Tmp} {ty : TypeId} (h : fn.results = #[.cell p ty]) (tmps : Array Value) (w : World) (g : Nat) (t : TypeId) (cs : Array Value) (fr : Nat × Nat) (d : TypeDesc)
    (hp : tmps.getD p undef = .pointer (some ⟨g, 0, none⟩)) (hg : w.heap[g]? = some (.cells cs t fr))
    (hu : P.underlying ty = some d) (hd : (match d with | .struct _ | .array _ _ => true | _ => false) = true) (hi : (P.info? ty).map (·.size) = some cs.size) :
    (results fn tmps).run P w = .ok (.agg cs) w := by
  have hp' : tmps[p]?.getD undef = .pointer (some ⟨g, 0, none⟩) := by simpa using hp
  simp [results, h, hp', asAddr, run_loadVar_row w g t ty cs fr d hg hu hd hi]
/-- append onto a slice that is full: into new memory, as one step of a region that draws its order. -/
theorem step_append_full {P : Program} (w : World) {ops : Array Oper} {o : Oper} {a : Act} {K : Act → World → Prop} {Q : Exit → Act → World → Prop} {E : Prop} (hw : Region.wanted o (yielded ops a.tmps) = true) (s x : Operand) (t : TypeId)
    (ho : o.op = .call { callee := .builtin .append, args := #[s, x], argTypes := #[t, t] })
    (e : TypeId) (i : TypeInfo) (z : Value) (size bytes : Nat) (h1 : P.underlying t = some (.slice e)) (h2 : P.info? e = some i) (h3 : i.zero = some z) (h4 : i.size = size) (h5 : i.bytes = bytes) (h6 : z.cells.size = size) (h7 : 0 < size)
    (ao : Option Addr) (n cap : Nat) (olds : List Value) (hs : a.eval s = .slice ao n cap) (hnone : ao = none → n = 0 ∧ cap = 0) (hlo : olds.length = n * size) (holds : ∀ b, ao = some b → ∀ j u, olds[j]? = some u → w.cell? (b.add j) = some u)
    (ad : Addr) (m c : Nat) (news : List Value) (hx : a.eval x = .slice (some ad) m c) (hn : news.length = m * size) (hc : ∀ j u, news[j]? = some u → w.cell? (ad.add j) = some u) (h1c : ∀ u ∈ news, u.oneCell' = true)
    (hfull : cap < n + m) (b1 : n + m ≤ maxLen) (b2 : (n + m) * bytes ≤ 140737488355328)
    (hK : ∀ v' w', w'.ownsRow w.heap.size e size v' (n + m) (olds ++ news) → w.grownBy w' none → K (a.put o.dst v') w') :
    if Region.wanted o (yielded ops a.tmps) = true then Oper.wp P o a w K Q else E := by
  rw [if_pos hw]
  cases ao with
  | some b =>
    obtain ⟨v', w', hrun, r1, r2⟩ := run_append_arg_grows (P := P) w t o.type e i z size bytes h1 h2 h3 h4 h5 h6 h7 b n cap olds hlo (holds b rfl) ad m c news hn hc hfull b1 b2
    unfold Oper.wp
    simp [execOp, ho, resolve, invoke, builtin, hs, hx, hrun, Result.andThen]
    exact hK v' w' r1 r2
  | none =>
    obtain ⟨rfl, rfl⟩ := hnone rfl
    obtain rfl : olds = [] := List.eq_nil_of_length_eq_zero (by simpa using hlo)
    obtain ⟨v', w', hrun, r1, r2, _⟩ := run_append_own (P := P) w w.heap.size t o.type e i z size bytes h1 h2 h3 h4 h5 h6 h7 (.slice none 0 0) 0 [] (World.ownsRow_nil w _ e size) ad m c news hn hc h1c b1 b2 (Nat.le_refl _)
    unfold Oper.wp
    simp [execOp, ho, resolve, invoke, builtin, hs, hx, hrun, Result.andThen]
    exact hK v' w' r1 r2

set_option maxRecDepth 20000 in
theorem apart_any (q : KV) (n : Nat) (hn : n = q.k.sec.length) (w : World) (h : Bs w w.heap.size q.k.sec q.S q.c) (h0 : 1 ≤ n) (h1 : n ≤ 64) :
    Calls Try.prog 22 #[.agg #[.int .i64 q.k.id, .slice q.S n q.c, .int .i64 q.k.frm, .int .i64 q.k.til]] w fun e w' => ∃ S c, e = .returned (.agg #[.int .i64 q.k.id, .slice S n c, .int .i64 q.k.frm, .int .i64 q.k.til]) ∧ Bs w' w'.heap.size q.k.sec S c ∧ (∀ ad, S = some ad → w.heap.size ≤ ad.block) ∧ Below w.heap.size w w' := by
  obtain ⟨i0, hi, hz0, hz1, hz2⟩ := info_parts infoU8
  obtain ⟨ad, hS⟩ : ∃ ad, q.S = some ad := by
    have : 0 < (U8 q.k.sec).length := by simp [U8]; omega
    obtain ⟨ad, e, _⟩ := h.rd 0 _ (List.getElem?_eq_getElem this)
    exact ⟨ad, e⟩
  have HB := Lib.hid h
  have HN := Lib.hid hn
  have hcap : n ≤ q.c := by have := h.len; omega
  have hcap2 := h.cap
  obtain ⟨⟨kid, ksec, kf, kt⟩, S, c⟩ := q
  simp only at hS hcap hcap2 HB HN
  subst hS
  have HUL := Lib.hid (show (U8 ksec).length = n by simp [U8, HN.out])
  have HRD := Lib.hid (fun (w' : World) (hb : Below w.heap.size w w') => HB.out.rd.next hb)
  have hn1 : 0 + n ≤ maxLen := by unfold maxLen; omega
  have hn2 : (0 + n) * 1 ≤ 140737488355328 := by omega
  clear h hn
  go_enter Try.func22, Try.ntmps22
  go_wp2
  obtain ⟨wb, hwb⟩ : ∃ wb, wb = (w.alloc (.cells #[.int .i64 kid, .slice (some ad) n c, .int .i64 kf, .int .i64 kt] 26)).alloc (.cells #[.int .i64 0, .slice none 0 0, .int .i64 0, .int .i64 0] 26) := ⟨_, rfl⟩
  have hb0 : wb.heap[w.heap.size]? = some (.cells #[.int .i64 kid, .slice (some ad) n c, .int .i64 kf, .int .i64 kt] 26 (0, 0)) := by
    rw [hwb]; exact (Below.heap_alloc _ _ _ (by simp)).trans (heap_alloc_new w _)
  have hb1 : wb.heap[w.heap.size + 1]? = some (.cells #[.int .i64 0, .slice none 0 0, .int .i64 0, .int .i64 0] 26 (0, 0)) := by
    rw [hwb]; exact heap_new2 w _ _
  have hbel : Below w.heap.size w wb := by
    rw [hwb]; exact ((Below.refl _ w).alloc (Nat.le_refl _) _).alloc (by simp) _
  have hsz : wb.heap.size = w.heap.size + 2 := by rw [hwb]; simp
  rw [← hwb]
  clear hwb
  have hc1 : wb.drew.cell? ⟨w.heap.size, 1, none⟩ = some (.slice (some ad) n c) := by change wb.cell? _ = _; rw [cell_of_row wb _ 1 _ _ (0, 0) hb0]; rfl
  refine wp_region_still_tail 5 (by kernel_rfl) (by kernel_rfl) ?_
  simp only [List.take_succ_cons, List.take_zero, List.drop_succ_cons, List.drop_zero]
  repeat still_step
  refine wpStill_nil ?_
  change wpList _ _ _ _ _ wb.drew
  go_wp2_with (at_builtin; refine wpList_append_grows _ rfl (.tmp 5) (.tmp 7) 24 rfl 5 i0 (.int .u8 0) 1 1 Try.underlying24 hi hz0 hz1 hz2 rfl (by omega) (some ad) 0 0 [] rfl (fun h => by cases h) rfl (fun b hb j u hu => by simp at hu) ad n c (U8 ksec) rfl (by rw [HUL.out]; omega) (rd_at (HRD.out _ hbel.drew)) (U8_one _) (by omega) hn1 hn2 ?_)
  intro v1 w1 hown1 hg1
  have hown2 : w1.ownsRow wb.heap.size 5 1 v1 n (U8 ksec) := by rw [hsz]; simpa using hown1
  obtain ⟨A', c', e, hbs⟩ := bs_of_own hown2 HB.out.lt
  subst e
  have HOW := Lib.hid hown2
  have hbw : Below wb.heap.size wb w1 := (Below.refl _ wb).drew.grown hg1 (Nat.le_refl _) (fun k e => by cases e)
  have h10 : w1.heap[w.heap.size]? = some (.cells #[.int .i64 kid, .slice (some ad) n c, .int .i64 kf, .int .i64 kt] 26 (0, 0)) := (hbw.block _ (by omega)).trans hb0
  have h11 : w1.heap[w.heap.size + 1]? = some (.cells #[.int .i64 0, .slice none 0 0, .int .i64 0, .int .i64 0] 26 (0, 0)) := (hbw.block _ (by omega)).trans hb1
  have HBW := Lib.hid (hbel.trans (hbw.mono (by omega)))
  have HSZ := Lib.hid (show w.heap.size + 2 ≤ w1.heap.size by have := hbw.size; omega)
  clear hown1 hown2 hg1 hbs hbw hb0 hb1 hbel hc1
  have hc1 : w1.cell? ⟨w.heap.size, 1, none⟩ = some (.slice (some ad) n c) := by rw [cell_of_row w1 _ 1 _ _ (0, 0) h10]; rfl
  have hf1 : w1.frozen? ⟨w.heap.size, 1, none⟩ = false := frozen_of_row w1 _ 1 _ _ h10
  have hc1s : (w1.cell? ⟨w.heap.size, 1, none⟩).isSome = true := by rw [hc1]; rfl
  have H10 := Lib.hid h10
  have H11 := Lib.hid h11
  clear h10 h11 hc1
  go_wp2_with ((with_reducible refine at_store 9 ?_); refine wpList_store_cell (op := ⟨none, .store 24 (.tmp 9) (.tmp 8), _, _, _, _⟩) rfl 24 (.tmp 9) (.tmp 8) rfl w.heap.size 1 (.slice A' n c') rfl rfl rfl hc1s hf1 infoBytes ?_)
  intro w2 hw2
  have h20 : w2.heap[w.heap.size]? = some (.cells #[.int .i64 kid, .slice A' n c', .int .i64 kf, .int .i64 kt] 26 (0, 0)) := by rw [hw2.out]; exact heap_setCell_same w1 _ 1 _ _ _ H10.out
  have h21 : w2.heap[w.heap.size + 1]? = some (.cells #[.int .i64 0, .slice none 0 0, .int .i64 0, .int .i64 0] 26 (0, 0)) := by rw [hw2.out]; exact (heap_setCell_other w1 _ _ _ (by simp)).trans H11.out
  have hb2 : Below w.heap.size w1 w2 := by rw [hw2.out]; exact (Below.refl _ _).setCell (p := ⟨w.heap.size, 1, none⟩) (Nat.le_refl _) _
  have hd0 : w2.cell? ⟨w.heap.size, 0, none⟩ = some (.int .i64 kid) := by rw [cell_of_row w2 _ 0 _ _ (0, 0) h20]; rfl
  have hd1 : w2.cell? ⟨w.heap.size, 1, none⟩ = some (.slice A' n c') := by rw [cell_of_row w2 _ 1 _ _ (0, 0) h20]; rfl
  have hd2 : w2.cell? ⟨w.heap.size, 2, none⟩ = some (.int .i64 kf) := by rw [cell_of_row w2 _ 2 _ _ (0, 0) h20]; rfl
  have hd3 : w2.cell? ⟨w.heap.size, 3, none⟩ = some (.int .i64 kt) := by rw [cell_of_row w2 _ 3 _ _ (0, 0) h20]; rfl
  have H21 := Lib.hid h21
  have HB2 := Lib.hid (HBW.out.trans hb2)
  clear h20 h21 hb2 hc1s hf1
  go_wp2_with ((with_reducible refine at_store 2 ?_); refine wpList_store_named (o := ⟨none, .store 26 (.tmp 2) (.tmp 10), _, _, _, _⟩) rfl 26 (.tmp 2) (.tmp 10) rfl (w.heap.size + 1) #[.int .i64 kid, .slice A' n c', .int .i64 kf, .int .i64 kt] rfl rfl 26 #[.int .i64 0, .slice none 0 0, .int .i64 0, .int .i64 0] H21.out infoKey rfl (kc_one _ _ _ _ _ _) ?_; intro w5 hw5)
  have hr5 := setRow_heap w2 (w.heap.size + 1) #[.int .i64 0, .slice none 0 0, .int .i64 0, .int .i64 0] #[.int .i64 kid, .slice A' n c', .int .i64 kf, .int .i64 kt] 26 (0, 0) H21.out
  rw [← hw5.out] at hr5
  have hge : ∀ b, b < w.heap.size + 2 → (Value.slice A' n c').ownBlock = none ∨ (Value.slice A' n c').ownBlock ≠ some b := fun b hb => by
    cases e : (Value.slice A' n c').ownBlock with
    | none => exact .inl rfl
    | some g => exact .inr (fun e2 => by cases e2; have := own_ge HOW.out e; omega)
  have how2 : w2.ownsRow wb.heap.size 5 1 (.slice A' n c') n (U8 ksec) := HOW.out.kept (by rw [hw2.out]; exact grown_cell _ _ _ _) (hge _ (by omega))
  have how5 : w5.ownsRow wb.heap.size 5 1 (.slice A' n c') n (U8 ksec) := how2.kept (by rw [hw5.out]; exact grown_row _ _ _) (hge _ (by omega))
  obtain ⟨A5, c5, e5, hbs5⟩ := bs_of_own how5 HB.out.lt
  cases e5
  have hb5 : Below w.heap.size w2 w5 := below_row hw5.out (by omega)
  refine bodyPost_ret (results_row Try.results22 _ w5 (w.heap.size + 1) 26 #[.int .i64 kid, .slice A' n c', .int .i64 kf, .int .i64 kt] (0, 0) _ rfl hr5 Try.underlying26 rfl infoKey) rfl ⟨A', c', rfl, hbs5, fun ad' e => by subst e; have := own_ge HOW.out (g := ad'.block) rfl; omega, HB2.out.trans hb5⟩
end Go.Proofs.Ytedkgkokfaadfaa
