/-
  Lists of keys that a call makes of its own: their cells, how one is put behind them, and how they are read. Conditions: none.
-/
import Derived.Test.YtedkgkokfaadfaaRingBox
namespace Go.Proofs.Ytedkgkokfaadfaa
set_option linter.unusedVariables false
open Go.ChangeShapes Go.WideShapes Go.ChangeAt Go.RowKit

/-- A key as it stands in memory: where its secret lies, and that one's capacity. -/
structure KV where
  k : K
  S : Option Addr
  c : Nat
def KV.cells (q : KV) : List Value := [.int .i64 q.k.id, .slice q.S q.k.sec.length q.c, .int .i64 q.k.frm, .int .i64 q.k.til]
def flatK (L : List KV) : List Value := L.flatMap KV.cells
theorem flatK_cons (q : KV) (L : List KV) : flatK (q :: L) = q.cells ++ flatK L := rfl
theorem flatK_append (L M : List KV) : flatK (L ++ M) = flatK L ++ flatK M := by simp [flatK]
theorem flatK_one (q : KV) : flatK [q] = q.cells := by simp [flatK]
theorem length_flatK (L : List KV) : (flatK L).length = L.length * 4 := by
  induction L with
  | nil => rfl
  | cons q L ih => rw [flatK_cons, List.length_append, ih, List.length_cons]; simp [KV.cells]; omega
theorem flatK_at (L : List KV) (i j : Nat) (q : KV) (hq : L[i]? = some q) (hj : j < 4) : (flatK L)[i * 4 + j]? = q.cells[j]? := by
  induction L generalizing i with
  | nil => simp at hq
  | cons x L ih =>
    cases i with
    | zero =>
      simp at hq
      subst hq
      rw [flatK_cons, Nat.zero_mul, Nat.zero_add, List.getElem?_append_left (by simp [KV.cells]; omega)]
    | succ i =>
      rw [flatK_cons, List.getElem?_append_right (by simp [KV.cells]; omega)]
      have : (i + 1) * 4 + j - x.cells.length = i * 4 + j := by simp [KV.cells]; omega
      rw [this]
      exact ih i (by simpa using hq)
theorem cells_one (q : KV) : ∀ u ∈ q.cells, u.oneCell' = true := by
  intro u hu
  simp [KV.cells] at hu
  rcases hu with rfl | rfl | rfl | rfl <;> rfl
theorem infoKey3 : (Try.prog.info? 26).map (fun i => (i.zero, i.size, i.bytes)) = some (some (.agg #[.int .i64 0, .slice none 0 0, .int .i64 0, .int .i64 0]), 4, 48) := by kernel_rfl
/-- What a call owns reads as keys. -/
theorem ks_of_own {w : World} {base g n cap : Nat} {L : List KV} (h : w.ownsRow base 26 4 (.slice (some ⟨g, 0, none⟩) n cap) n (flatK L)) (hs : ∀ q ∈ L, Bs w w.heap.size q.k.sec q.S q.c) : Ks w w.heap.size (some ⟨g, 0, none⟩) (L.map (·.k)) := by
  have hn : L.length = n := by
    have := h.1
    rw [length_flatK] at this
    omega
  have hg : g < w.heap.size := by
    rcases h.2 with ⟨h', _⟩ | ⟨g', cap', cur, h', _, hg, _⟩
    · simp at h'
    · simp only [Value.slice.injEq, Option.some.injEq, Addr.mk.injEq, and_true, true_and] at h'
      obtain ⟨rfl, rfl⟩ := h'
      exact (Array.getElem?_eq_some_iff.1 hg).1
  intro i hi
  have hi' : i < L.length := by simpa using hi
  have hq : L[i]? = some L[i] := List.getElem?_eq_getElem hi'
  have hk : (L.map (·.k)).getD i K0 = L[i].k := by
    rw [List.getD_eq_getElem?_getD, List.getElem?_map, hq]; rfl
  have hc : ∀ j, j < 4 → w.cell? ⟨g, i * 4 + j, none⟩ = (L[i]).cells[j]? := by
    intro j hj
    rw [h.cellAt _ (by omega), flatK_at L i j _ hq hj]
  rw [hk]
  refine ⟨_, (L[i]).S, (L[i]).c, rfl, hg, ?_⟩
  rw [at_add]
  exact ⟨hc 0 (by omega), hc 1 (by omega), hc 2 (by omega), hc 3 (by omega), hs _ (List.getElem_mem hi')⟩
/-- Keys that are read, with where their secrets lie. -/
def KVs (w : World) (B : Nat) (A : Option Addr) (L : List KV) : Prop := ∀ i q, L[i]? = some q → ∃ ad, A = some ad ∧ ad.block < B ∧ KAt w B (ad.add (i * 4)) q.k q.S q.c
theorem kvs_upto {w : World} {B : Nat} {A : Option Addr} {l : List K} (h : Ks w B A l) (n : Nat) : n ≤ l.length → ∃ L : List KV, L.length = n ∧ L.map (·.k) = l.take n ∧ KVs w B A L := by
  induction n with
  | zero => intro _; exact ⟨[], rfl, rfl, by intro i q hq; simp at hq⟩
  | succ n ih =>
    intro hn
    obtain ⟨L, h1, h2, h3⟩ := ih (by omega)
    obtain ⟨ad, S, c, e, hlt, hk⟩ := h n (by omega)
    refine ⟨L ++ [⟨l.getD n K0, S, c⟩], by simp [h1], ?_, ?_⟩
    · rw [List.map_append, h2, List.take_succ_eq_append_getElem (by omega), List.getD_eq_getElem?_getD, List.getElem?_eq_getElem (by omega)]; rfl
    · intro i q hq
      rcases Nat.lt_or_ge i n with hi | hi
      · rw [List.getElem?_append_left (by omega)] at hq
        exact h3 i q hq
      · rw [List.getElem?_append_right (by omega), h1] at hq
        have : i - n = 0 := by
          rcases Nat.eq_zero_or_pos (i - n) with h0 | h0
          · exact h0
          · rw [List.getElem?_eq_none (by simp; omega)] at hq; cases hq
        rw [this] at hq
        have e2 : i = n := by omega
        simp at hq
        subst hq e2
        exact ⟨ad, e, hlt, hk⟩
theorem kvs_of_ks {w : World} {B : Nat} {A : Option Addr} {l : List K} (h : Ks w B A l) : ∃ L : List KV, L.map (·.k) = l ∧ KVs w B A L ∧ ∀ q ∈ L, Bs w B q.k.sec q.S q.c := by
  obtain ⟨L, _, h2, h3⟩ := kvs_upto h l.length (Nat.le_refl _)
  refine ⟨L, by rw [h2, List.take_length], h3, ?_⟩
  intro q hq
  obtain ⟨i, hi⟩ := List.mem_iff_getElem?.1 hq
  obtain ⟨_, _, _, hk⟩ := h3 i q hi
  exact hk.bs
/-- One key's cells, just laid, are put behind keys of the call's own. -/
theorem own_key_lit (w : World) (q : KV) : ∀ j u, q.cells[j]? = some u → (w.alloc (.cells q.cells.toArray 26)).cell? ((⟨w.heap.size, 0, none⟩ : Addr).add j) = some u := by
  intro j u hu
  rw [at_add, cell_of_row (w.alloc (.cells q.cells.toArray 26)) w.heap.size j _ _ (0, 0) (heap_alloc_new w _)]
  simpa using hu
/-- append of one key, just laid, onto keys of the call's own. -/
theorem wpList_append_key {ops : Array Oper} {rest : List Oper} {o : Oper} {a : Act} {Q : Exit → Act → World → Prop} (hgd : o.guard = none) (s x : Operand)
    (ho : o.op = .call { callee := .builtin .append, args := #[s, x], argTypes := #[22, 22] })
    (w0 : World) (base g cap m : Nat) (M : List KV) (q : KV) (hm : M.length = m) (hs : a.eval s = .slice (some ⟨g, 0, none⟩) m cap) (hown : w0.ownsRow base 26 4 (.slice (some ⟨g, 0, none⟩) m cap) m (flatK M))
    (hx : a.eval x = .slice (some ⟨w0.heap.size, 0, none⟩) 1 1) (hM : m ≤ 1000000) (hbase : base ≤ w0.heap.size)
    (h : ∀ g' cap' w', w'.ownsRow base 26 4 (.slice (some ⟨g', 0, none⟩) (m + 1) cap') (m + 1) (flatK (M ++ [q])) → Below base w0 w' →
      wpList Try.prog ops Q rest (a.put o.dst (.slice (some ⟨g', 0, none⟩) (m + 1) cap')) w') :
    wpList Try.prog ops Q (o :: rest) a (w0.alloc (.cells q.cells.toArray 26)) := by
  obtain ⟨i0, hif, hz0, hz1, hz2⟩ := info_parts infoKey3
  have hb0 := below_lit w0 q.cells.toArray 26
  have hown1 := own_below hown hb0
  refine wpList_append_own _ hgd s x 22 ho base 26 i0 _ 4 48 Try.underlying22 hif hz0 hz1 hz2 rfl (by decide) _ m (flatK M) hs hown1 ⟨w0.heap.size, 0, none⟩ 1 1 q.cells hx rfl (own_key_lit w0 q) (cells_one q) (by unfold maxLen; omega) (by omega) (Nat.le_trans hbase hb0.size) ?_
  intro v' w' hown' hg' _
  have hf : flatK (M ++ [q]) = flatK M ++ q.cells := by rw [flatK_append, flatK_one]
  rw [← hf] at hown'
  obtain ⟨g', cap', e, _⟩ := hown'.form (by omega)
  subst e
  exact h g' cap' w' hown' ((hb0.mono hbase).grown hg' (Nat.le_trans hbase hb0.size) (fun j hj => own_ge hown1 hj))
end Go.Proofs.Ytedkgkokfaadfaa
