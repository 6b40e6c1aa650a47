/-
  What it means that a slice reads as a list of fields; rows of fields that a call owns, and how one is put behind them. Conditions: none.
-/
import Derived.Test.YtaldpioahnbkgaaBsEmpty
import Derived.Test.YtaldpioahnbkgaaBase
import Derived.Test.YtaldpioahnbkgaaTlvMath
namespace Go.Proofs.Ytaldpioahnbkgaa
set_option linter.unusedVariables false
open Go.ChangeShapes Go.WideShapes Go.ChangeAt Go.RowKit

/-- At the address p lies the field f, its value below block B. -/
structure TAt (w : World) (B : Nat) (p : Addr) (f : Tf) (S : Option Addr) (c : Nat) : Prop where
  c0 : w.cell? p = some (.int .i64 f.tag)
  c1 : w.cell? ⟨p.block, p.off + 1, none⟩ = some (.slice S f.val.length c)
  bs : Bs w B f.val S c
theorem TAt.below {w w' : World} {B B' : Nat} {p : Addr} {f : Tf} {S : Option Addr} {c : Nat} (h : TAt w B p f S c) (hp : p.block < B') (hB : B ≤ B') (hb : Below B' w w') : TAt w' B p f S c :=
  ⟨(hb.cell hp).trans h.c0, (hb.cell (p := ⟨p.block, p.off + 1, none⟩) hp).trans h.c1, h.bs.below (hb.mono hB)⟩
theorem TAt.more {w : World} {B B' : Nat} {p : Addr} {f : Tf} {S : Option Addr} {c : Nat} (h : TAt w B p f S c) (hB : B ≤ B') : TAt w B' p f S c := ⟨h.c0, h.c1, h.bs.more hB⟩
/-- A slice value that reads as fields, two cells each, below block B: where it lies, and its capacity. -/
structure Ts (w : World) (B : Nat) (l : List Tf) (A : Option Addr) (c : Nat) : Prop where
  rd : ∀ i, i < l.length → ∃ ad S cc, A = some ad ∧ ad.block < B ∧ TAt w B (ad.add (i * 2)) (l.getD i TF0) S cc
  nil : A = none → c = 0
  len : l.length ≤ c
  cap : c ≤ 9223372036854775807
theorem Ts.below {w w' : World} {B : Nat} {l : List Tf} {A : Option Addr} {c : Nat} (h : Ts w B l A c) (hb : Below B w w') : Ts w' B l A c := by
  refine ⟨fun i hi => ?_, h.nil, h.len, h.cap⟩
  obtain ⟨ad, S, cc, e, hlt, hk⟩ := h.rd i hi
  exact ⟨ad, S, cc, e, hlt, hk.below (by rw [add_block]; exact hlt) (Nat.le_refl _) hb⟩
theorem Ts.more {w : World} {B B' : Nat} {l : List Tf} {A : Option Addr} {c : Nat} (h : Ts w B l A c) (hB : B ≤ B') : Ts w B' l A c := by
  refine ⟨fun i hi => ?_, h.nil, h.len, h.cap⟩
  obtain ⟨ad, S, cc, e, hlt, hk⟩ := h.rd i hi
  exact ⟨ad, S, cc, e, by omega, hk.more hB⟩
theorem Ts.next {w w' : World} {l : List Tf} {A : Option Addr} {c : Nat} (h : Ts w w.heap.size l A c) (hb : Below w.heap.size w w') : Ts w' w'.heap.size l A c := (h.below hb).more hb.size
theorem Ts.vals {w : World} {B : Nat} {l : List Tf} {A : Option Addr} {c : Nat} (h : Ts w B l A c) : ∀ f ∈ l, ∀ x ∈ f.val, x < 256 := by
  intro f hf
  obtain ⟨i, hi, rfl⟩ := List.mem_iff_getElem.1 hf
  obtain ⟨ad, S, cc, _, _, hk⟩ := h.rd i hi
  have e : l.getD i TF0 = l[i] := by rw [List.getD_eq_getElem?_getD, List.getElem?_eq_getElem hi]; rfl
  rw [← e]
  exact hk.bs.lt
theorem Ts.empty (w : World) (B : Nat) : Ts w B [] none 0 := ⟨by intro i hi; simp at hi, fun _ => rfl, by simp, by omega⟩

theorem bs_none (w : World) (B : Nat) (ad : Addr) : Bs w B [] (some ad) 0 := ⟨by intro k u hu; simp [U8] at hu, by simp, by simp, by omega, by simp⟩
/-- A field as it stands in memory: where its value lies, and that one's capacity. -/
structure TV where
  f : Tf
  S : Option Addr
  c : Nat
def TV.cells (q : TV) : List Value := [.int .i64 q.f.tag, .slice q.S q.f.val.length q.c]
def flatV (L : List TV) : List Value := L.flatMap TV.cells
theorem flatV_append (L M : List TV) : flatV (L ++ M) = flatV L ++ flatV M := by simp [flatV]
theorem flatV_one (q : TV) : flatV [q] = q.cells := by simp [flatV]
theorem length_flatV (L : List TV) : (flatV L).length = L.length * 2 := by
  induction L with
  | nil => rfl
  | cons q L ih => rw [show flatV (q :: L) = q.cells ++ flatV L from rfl, List.length_append, ih, List.length_cons]; simp [TV.cells]; omega
theorem flatV_at (L : List TV) (i j : Nat) (q : TV) (hq : L[i]? = some q) (hj : j < 2) : (flatV L)[i * 2 + j]? = q.cells[j]? := by
  induction L generalizing i with
  | nil => simp at hq
  | cons x L ih =>
    rw [show flatV (x :: L) = x.cells ++ flatV L from rfl]
    cases i with
    | zero =>
      simp at hq
      subst hq
      rw [Nat.zero_mul, Nat.zero_add, List.getElem?_append_left (by simp [TV.cells]; omega)]
    | succ i =>
      rw [List.getElem?_append_right (by simp [TV.cells]; omega)]
      have : (i + 1) * 2 + j - x.cells.length = i * 2 + j := by simp [TV.cells]; omega
      rw [this]
      exact ih i (by simpa using hq)
theorem vcells_one (q : TV) : ∀ u ∈ q.cells, u.oneCell' = true := by
  intro u hu
  simp [TV.cells] at hu
  rcases hu with rfl | rfl <;> rfl
theorem infoField : (Try.prog.info? 56).map (·.size) = some 2 := by kernel_rfl
theorem infoField3 : (Try.prog.info? 56).map (fun i => (i.zero, i.size, i.bytes)) = some (some (.agg #[.int .i64 0, .slice none 0 0]), 2, 32) := by kernel_rfl
/-- What a call owns reads as fields. -/
theorem ts_of_own {w : World} {base n : Nat} {v : Value} {L : List TV} (h : w.ownsRow base 56 2 v n (flatV L)) (hs : ∀ q ∈ L, Bs w w.heap.size q.f.val q.S q.c) : ∃ A c, v = .slice A n c ∧ Ts w w.heap.size (L.map (·.f)) A c := by
  have hn : L.length = n := by
    have := h.1
    rw [length_flatV] at this
    omega
  rcases h.2 with ⟨rfl, h0⟩ | ⟨g, cap, cur, rfl, _, hg, h2, h3, _⟩
  · subst h0
    obtain rfl : L = [] := List.eq_nil_of_length_eq_zero hn
    exact ⟨none, 0, rfl, Ts.empty w _⟩
  · unfold maxLen at h3
    refine ⟨_, cap, rfl, ?_, by simp, by rw [List.length_map, hn]; omega, by omega⟩
    have hg : g < w.heap.size := (Array.getElem?_eq_some_iff.1 hg).1
    intro i hi
    have hi' : i < L.length := by simpa using hi
    have hq : L[i]? = some L[i] := List.getElem?_eq_getElem hi'
    have hk : (L.map (·.f)).getD i TF0 = L[i].f := by
      rw [List.getD_eq_getElem?_getD, List.getElem?_map, hq]; rfl
    have hc : ∀ j, j < 2 → w.cell? ⟨g, i * 2 + j, none⟩ = (L[i]).cells[j]? := by
      intro j hj
      rw [h.cellAt _ (by omega), flatV_at L i j _ hq hj]
    rw [hk]
    refine ⟨_, (L[i]).S, (L[i]).c, rfl, hg, ?_⟩
    rw [at_add]
    exact ⟨hc 0 (by omega), hc 1 (by omega), hs _ (List.getElem_mem hi')⟩
/-- A list of fields that was just laid. -/
theorem ts_lit (w : World) (L : List TV) (cs : Array Value) (n : Nat) (hc : cs.toList = flatV L) (hn : L.length = n) (hn2 : n ≤ 1000) (hs : ∀ q ∈ L, Bs w w.heap.size q.f.val q.S q.c) :
    Ts (w.alloc (.cells cs 56)) (w.alloc (.cells cs 56)).heap.size (L.map (·.f)) (some ⟨w.heap.size, 0, none⟩) n := by
  have hsz : cs.size = n * 2 := by
    have := congrArg List.length hc
    rw [length_flatV, hn] at this
    simpa using this
  have hown := World.ownsRow_lit (e := 56) (base := w.heap.size) (size := 2) w cs n (Nat.le_refl _) (by unfold maxLen; omega) hsz
  rw [hc] at hown
  obtain ⟨A, c, e, h⟩ := ts_of_own hown (fun q hq => (hs q hq).next (below_lit w _ _))
  cases e
  exact h
/-- Fields that are read, with where their values lie. -/
theorem tvs_upto {w : World} {B : Nat} {l : List Tf} {A : Option Addr} {c : Nat} (h : Ts w B l A c) (n : Nat) : n ≤ l.length → ∃ L : List TV, L.length = n ∧ L.map (·.f) = l.take n ∧ ∀ i q, L[i]? = some q → ∃ ad, A = some ad ∧ ad.block < B ∧ TAt w B (ad.add (i * 2)) q.f q.S q.c := by
  induction n with
  | zero => intro _; exact ⟨[], rfl, rfl, by intro i q hq; simp at hq⟩
  | succ n ih =>
    intro hn
    obtain ⟨L, h1, h2, h3⟩ := ih (by omega)
    obtain ⟨ad, S, c, e, hlt, hk⟩ := h.rd n (by omega)
    refine ⟨L ++ [⟨l.getD n TF0, S, c⟩], by simp [h1], ?_, ?_⟩
    · rw [List.map_append, h2, take_snocT l n (by omega)]; rfl
    · intro i q hq
      rcases Nat.lt_or_ge i n with hi | hi
      · rw [List.getElem?_append_left (by omega)] at hq
        exact h3 i q hq
      · rw [List.getElem?_append_right (by omega), h1] at hq
        have : i - n = 0 := by
          rcases Nat.eq_zero_or_pos (i - n) with h0 | h0
          · exact h0
          · rw [List.getElem?_eq_none (by simp; omega)] at hq; cases hq
        rw [this] at hq
        have e2 : i = n := by omega
        simp at hq
        subst hq e2
        exact ⟨ad, e, hlt, hk⟩
theorem tvs_of_ts {w : World} {B : Nat} {l : List Tf} {A : Option Addr} {c : Nat} (h : Ts w B l A c) : ∃ L : List TV, L.map (·.f) = l ∧ (∀ j u, (flatV L)[j]? = some u → ∃ ad, A = some ad ∧ ad.block < B ∧ w.cell? (ad.add j) = some u) ∧ ∀ q ∈ L, Bs w B q.f.val q.S q.c := by
  obtain ⟨L, _, h2, h3⟩ := tvs_upto h l.length (Nat.le_refl _)
  refine ⟨L, by rw [h2, List.take_length], ?_, ?_⟩
  · intro j u hu
    have hj : j < L.length * 2 := by
      rw [← length_flatV]
      exact (List.getElem?_eq_some_iff.1 hu).1
    have hq : L[j / 2]? = some L[j / 2] := List.getElem?_eq_getElem (by omega)
    obtain ⟨ad, e, hlt, hk⟩ := h3 (j / 2) _ hq
    refine ⟨ad, e, hlt, ?_⟩
    have e2 : j = j / 2 * 2 + j % 2 := by omega
    rw [e2, flatV_at L _ (j % 2) _ hq (by omega)] at hu
    rcases (show j % 2 = 0 ∨ j % 2 = 1 by omega) with e3 | e3
    · rw [e3] at hu e2
      rw [e2, Nat.add_zero]
      cases hu
      exact hk.c0
    · rw [e3] at hu e2
      rw [e2, ← Addr.add_add]
      cases hu
      have h1 := hk.c1
      have e4 : (ad.add (j / 2 * 2)).add 1 = ⟨(ad.add (j / 2 * 2)).block, (ad.add (j / 2 * 2)).off + 1, none⟩ := by
        unfold Addr.add
        simp
      rw [e4]
      exact h1
  · intro q hq
    obtain ⟨i, hi⟩ := List.mem_iff_getElem?.1 hq
    obtain ⟨_, _, _, hk⟩ := h3 i q hi
    exact hk.bs
/-- One field's cells, just laid. -/
theorem own_field_lit (w : World) (q : TV) : ∀ j u, q.cells[j]? = some u → (w.alloc (.cells q.cells.toArray 56)).cell? ((⟨w.heap.size, 0, none⟩ : Addr).add j) = some u := by
  intro j u hu
  rw [at_add, cell_of_row (w.alloc (.cells q.cells.toArray 56)) w.heap.size j _ _ (0, 0) (heap_alloc_new w _)]
  simpa using hu
/-- append of one field, just laid, onto fields of the call's own. -/
theorem wpList_append_field {ops : Array Oper} {rest : List Oper} {o : Oper} {a : Act} {Q : Exit → Act → World → Prop} (hgd : o.guard = none) (s x : Operand)
    (ho : o.op = .call { callee := .builtin .append, args := #[s, x], argTypes := #[28, 28] })
    (w0 : World) (base m : Nat) (v : Value) (M : List TV) (q : TV) (hs : a.eval s = v) (hown : w0.ownsRow base 56 2 v m (flatV M))
    (H : Nat) (hH : w0.heap.size = H) (hx : a.eval x = .slice (some ⟨H, 0, none⟩) 1 1) (hM : m ≤ 1000000) (hbase : base ≤ w0.heap.size)
    (h : ∀ v' w', w'.ownsRow base 56 2 v' (m + 1) (flatV (M ++ [q])) → w0.grownBy w' v.ownBlock →
      wpList Try.prog ops Q rest (a.put o.dst v') w') :
    wpList Try.prog ops Q (o :: rest) a (w0.alloc (.cells q.cells.toArray 56)) := by
  subst hH
  obtain ⟨i0, hif, hz0, hz1, hz2⟩ := info_parts infoField3
  have hb0 := below_lit w0 q.cells.toArray 56
  have hown1 := own_below hown hb0
  refine wpList_append_own _ hgd s x 28 ho base 56 i0 _ 2 32 Try.underlying28 hif hz0 hz1 hz2 rfl (by decide) v m (flatV M) hs hown1 ⟨w0.heap.size, 0, none⟩ 1 1 q.cells hx rfl (own_field_lit w0 q) (vcells_one q) (by unfold maxLen; omega) (by omega) (Nat.le_trans hbase hb0.size) ?_
  intro v' w' hown' hg' _
  have hf : flatV (M ++ [q]) = flatV M ++ q.cells := by rw [flatV_append, flatV_one]
  rw [← hf] at hown'
  exact h v' w' hown' ⟨hg'.os.trans hb0.os, hg'.tape.trans hb0.tape, hg'.output.trans hb0.output, Nat.le_trans hb0.size hg'.size, fun k hk hne => (hg'.block k (Nat.lt_of_lt_of_le hk hb0.size) hne).trans (hb0.block k hk)⟩
/-- The same, by the cells as the walk spells them. -/
theorem wpList_append_field_by {ops : Array Oper} {rest : List Oper} {o : Oper} {a : Act} {Q : Exit → Act → World → Prop} (hgd : o.guard = none) (s x : Operand)
    (ho : o.op = .call { callee := .builtin .append, args := #[s, x], argTypes := #[28, 28] })
    (w0 : World) (base m : Nat) (v : Value) (M : List TV) (q : TV) (cs : Array Value) (hcs : cs = q.cells.toArray) (hs : a.eval s = v) (hown : w0.ownsRow base 56 2 v m (flatV M))
    (H : Nat) (hH : w0.heap.size = H) (hx : a.eval x = .slice (some ⟨H, 0, none⟩) 1 1) (hM : m ≤ 1000000) (hbase : base ≤ w0.heap.size)
    (h : ∀ v' w', w'.ownsRow base 56 2 v' (m + 1) (flatV (M ++ [q])) → w0.grownBy w' v.ownBlock →
      wpList Try.prog ops Q rest (a.put o.dst v') w') :
    wpList Try.prog ops Q (o :: rest) a (w0.alloc (.cells cs 56)) := by
  subst hcs
  exact wpList_append_field hgd s x ho w0 base m v M q hs hown H hH hx hM hbase h
end Go.Proofs.Ytaldpioahnbkgaa
