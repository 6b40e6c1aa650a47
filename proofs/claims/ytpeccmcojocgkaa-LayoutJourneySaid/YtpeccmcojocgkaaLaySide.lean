/-
  append onto a row of the call's own, nil or not, told apart from what stands beside it; the values that fields point to. No program of its own; conditions: the row is the call's own.
-/
import Derived.Test.YtpeccmcojocgkaaApart
import Derived.Test.YtpeccmcojocgkaaLayPWidths
namespace Go.Proofs.Ytpeccmcojocgkaa
set_option linter.unusedVariables false
open Go.ChangeShapes Go.WideShapes Go.ChangeAt Go.RowKit

section
variable {P : Program} (w : World)
theorem wpList_append_side {ops : Array Oper} {rest : List Oper} {o : Oper} {a : Act} {Q : Exit → Act → World → Prop} (hgd : o.guard = none) (s x : Operand) (t : TypeId)
    (ho : o.op = .call { callee := .builtin .append, args := #[s, x], argTypes := #[t, t] })
    (base : Nat) (e : TypeId) (i : TypeInfo) (z : Value) (bytes : Nat) (ht : P.underlying t = some (.slice e)) (hi : P.info? e = some i) (hz : i.zero = some z) (hsize : i.size = 1) (hby : i.bytes = bytes) (hzs : z.cells.size = 1)
    (v : Value) (n : Nat) (xs : List Value) (hs : a.eval s = v) (hown : w.ownsRow base e 1 v n xs)
    (ad : Addr) (m c : Nat) (news : List Value) (hx : a.eval x = .slice (some ad) m c) (hl : news.length = m) (hm : 0 < m) (hnews : ∀ j u, news[j]? = some u → w.cell? (ad.add j) = some u)
    (h1 : ∀ u ∈ news, u.oneCell' = true) (h63 : n + m ≤ maxLen) (hbytes : (n + m) * bytes ≤ 140737488355328) (hbase : base ≤ w.heap.size)
    (h : ∀ v' w', w'.ownsRow base e 1 v' (n + m) (xs ++ news) → w.grownBy w' v.ownBlock → (∀ g, v'.ownBlock = some g → v.ownBlock = some g ∨ w.heap.size ≤ g) → wpList P ops Q rest (a.put o.dst v') w') : wpList P ops Q (o :: rest) a w := by
  rcases hown.2 with ⟨rfl, rfl⟩ | ⟨g, cap, cur, rfl, hb, hg, rest'⟩
  · have hown' : w.ownsRow w.heap.size e 1 (.slice none 0 0) 0 xs := ⟨hown.1, .inl ⟨rfl, rfl⟩⟩
    exact wpList_append_own w hgd s x t ho w.heap.size e i z 1 bytes ht hi hz hsize hby hzs (by omega) _ 0 xs hs hown' ad m c news hx (by omega) hnews h1 h63 hbytes (Nat.le_refl _) fun v' w' h2 h3 _ => h v' w' (own_base h2 hbase) h3 fun g hgb => .inr (own_ge h2 hgb)
  · exact wpList_append_apart w hgd s x t ho base e i z bytes ht hi hz hsize hby hzs g n cap xs hs hown ad m c news hx hl (by omega) hnews h1 h63 hbytes hbase fun g' cap' w' h2 h3 h4 => h _ w' h2 h3 fun k hk => by
      simp only [Value.ownBlock, Option.some.injEq] at hk ⊢
      subst hk
      rcases h4 with h4 | h4
      · exact .inl h4.symm
      · exact .inr h4
end
/-- The fifteen numbers of a reading. -/
def rgL (r : Rg) : List Int := [r.t.ser, r.t.kind, r.t.frm, r.t.till, r.t.cls, r.t.card, r.t.seat, r.t.day, r.t.days, r.t.uses, r.t.epoch, r.key, r.left, r.inn, r.ver]
theorem SBox.at {w : World} {X o : Nat} {r : Rg} {x : Int} (h : SBox w X r) (hx : (rgL r)[o]? = some x) : w.cell? ⟨X, o, none⟩ = some (.int .i64 x) := by
  rw [cell_of_row w X o _ _ (0, 0) h]
  have e : (#[.int .i64 r.t.ser, .int .i64 r.t.kind, .int .i64 r.t.frm, .int .i64 r.t.till, .int .i64 r.t.cls, .int .i64 r.t.card, .int .i64 r.t.seat, .int .i64 r.t.day, .int .i64 r.t.days, .int .i64 r.t.uses, .int .i64 r.t.epoch, .int .i64 r.key, .int .i64 r.left, .int .i64 r.inn, .int .i64 r.ver] : Array Value) = ((rgL r).map fun x => Value.int .i64 x).toArray := rfl
  rw [e]
  simp [hx]
theorem fields_map (r : Rg) (hk : 1 ≤ r.t.kind ∧ r.t.kind ≤ 4) : (fieldsL r.t.kind).map (fun p => (rgL r)[p.1]?) = (valL r).map some := by
  unfold fieldsL partsL valL valF
  by_cases h1 : r.t.kind = 1 ∨ r.t.kind = 2
  · rw [if_pos h1, if_neg (by omega)]; rfl
  · by_cases h3 : r.t.kind = 3
    · rw [if_neg h1, if_pos h3, if_neg (by omega)]; rfl
    · have h4 : r.t.kind = 4 := by omega
      rw [if_neg h1, if_neg h3, if_pos h4, if_pos h4]; rfl
theorem fields_val {r : Rg} (hk : 1 ≤ r.t.kind ∧ r.t.kind ≤ 4) {j : Nat} {p : Nat × Int} (h : (fieldsL r.t.kind)[j]? = some p) : ∃ x, (valL r)[j]? = some x ∧ (rgL r)[p.1]? = some x := by
  have h1 := congrArg (fun l => l[j]?) (fields_map r hk)
  simp only [List.getElem?_map, h, Option.map_some] at h1
  cases hv : (valL r)[j]? with
  | none => rw [hv] at h1; cases h1
  | some x => rw [hv] at h1; exact ⟨x, rfl, by simpa using h1⟩
theorem valL_len {r : Rg} (hk : 1 ≤ r.t.kind ∧ r.t.kind ≤ 4) : (valL r).length = (widL r.t.kind).length := by
  have := congrArg List.length (fields_map r hk)
  simp only [List.length_map] at this
  rw [← this, fieldsL_len]
def InR (r : Rg) : Prop := ∀ x ∈ rgL r, In64 x
theorem valL_in {r : Rg} (h : InR r) : ∀ v ∈ valL r, In64 v := by
  intro v hv
  refine h v ?_
  unfold valL valF at hv
  split at hv
  · simp only [List.cons_append, List.nil_append, List.mem_cons, List.not_mem_nil, or_false] at hv
    rcases hv with rfl | rfl | rfl | rfl | rfl | rfl | rfl | rfl | rfl | rfl | rfl | rfl | rfl <;> simp [rgL]
  · simp only [List.cons_append, List.nil_append, List.mem_cons, List.not_mem_nil, or_false] at hv
    rcases hv with rfl | rfl | rfl | rfl | rfl | rfl | rfl | rfl | rfl | rfl | rfl | rfl <;> simp [rgL]
theorem own_lt {w : World} {base n size : Nat} {e : TypeId} {v : Value} {xs : List Value} (h : w.ownsRow base e size v n xs) {g : Nat} (hg : v.ownBlock = some g) : g < w.heap.size := by
  rcases h.2 with ⟨rfl, _⟩ | ⟨g', cap, cur, rfl, _, hgg, _⟩
  · simp [Value.ownBlock] at hg
  · simp [Value.ownBlock] at hg
    subst hg
    exact (Array.getElem?_eq_some_iff.1 hgg).1
theorem own_ne {w : World} {base n size : Nat} {e : TypeId} {v : Value} {xs : List Value} (h : w.ownsRow base e size v n xs) {g : Nat} (hg : w.heap.size ≤ g) : some g ≠ v.ownBlock := fun e => by
  have := own_lt h e.symm
  omega
end Go.Proofs.Ytpeccmcojocgkaa
