/-
  Rows of fields behind others: what is right of them, and append onto fields of the call's own from whatever slice reads as fields. Conditions: none.
-/
import Derived.Test.YtkjghmonpdbjeaaTlvMem
namespace Go.Proofs.Ytkjghmonpdbjeaa
set_option linter.unusedVariables false
open Go.ChangeShapes Go.WideShapes Go.ChangeAt Go.RowKit

theorem isT_join_no {l m : List Tf} (h : isT 0 l = false ∨ isT 0 m = false) : isT 0 (l ++ m) = false := by
  rw [isT_append]
  cases hl : isT 0 l with
  | false => rfl
  | true =>
    cases hm : isT (lastT 0 l) m with
    | false => rfl
    | true =>
      have := isT_weak (isT_last hl).1 hm
      rcases h with h | h
      · rw [hl] at h; cases h
      · rw [this] at h; cases h
theorem isT_join_bad {l m : List Tf} (hm : 0 < m.length) (h : (m.getD 0 TF0).tag ≤ lastT 0 l) : isT 0 (l ++ m) = false := by
  rw [isT_append]
  cases m with
  | nil => simp at hm
  | cons f m =>
    have e : okT (lastT 0 l) f.tag f.val.length = false := by
      rw [← Bool.not_eq_true, okT_iff]
      simp at h
      omega
    rw [isT, e]
    simp
theorem isT_join_ok {l m : List Tf} (hl : isT 0 l = true) (hm : isT 0 m = true) (h : l.length = 0 ∨ m.length = 0 ∨ lastT 0 l < (m.getD 0 TF0).tag) : isT 0 (l ++ m) = true := by
  rw [isT_append, hl, Bool.true_and]
  rcases h with h | h | h
  · obtain rfl := List.eq_nil_of_length_eq_zero h
    exact hm
  · obtain rfl := List.eq_nil_of_length_eq_zero h
    rfl
  · cases m with
    | nil => rfl
    | cons f m =>
      simp only [isT, Bool.and_eq_true] at hm ⊢
      obtain ⟨_, h2, h3⟩ := (okT_iff _ _ _).1 hm.1
      exact ⟨(okT_iff _ _ _).2 ⟨by simpa using h, h2, h3⟩, hm.2⟩
theorem lastT_end {l : List Tf} {j : Nat} (h : j + 1 = l.length) : lastT 0 l = (l.getD j TF0).tag := by
  have := lastT_at l j (by omega)
  rwa [List.take_of_length_le (by omega)] at this
theorem flatV_one' (L : List TV) : ∀ u ∈ flatV L, u.oneCell' = true := by
  intro u hu
  simp only [flatV, List.mem_flatMap] at hu
  obtain ⟨q, _, h⟩ := hu
  exact vcells_one q u h
/-- append onto fields of the call's own, from whatever slice reads as fields, nil too. -/
theorem wpList_append_ts {ops : Array Oper} {rest : List Oper} {o : Oper} {a : Act} {w : World} {Q : Exit → Act → World → Prop} (hgd : o.guard = none) (s x : Operand)
    (ho : o.op = .call { callee := .builtin .append, args := #[s, x], argTypes := #[22, 22] })
    (base : Nat) (v : Value) (k : Nat) (M : List TV) (hs : a.eval s = v) (hown : w.ownsRow base 40 2 v k (flatV M))
    (B : Nat) (l : List Tf) (A : Option Addr) (m c : Nat) (hm : m = l.length) (hx : a.eval x = .slice A m c) (hA : Ts w B l A c) (hM : k + m ≤ 1000000) (hbase : base ≤ w.heap.size)
    (h : ∀ v' w' L, L.map TV.f = l → (∀ q ∈ L, Bs w B q.f.val q.S q.c) → w'.ownsRow base 40 2 v' (k + m) (flatV (M ++ L)) → w.grownBy w' v.ownBlock → wpList Try.prog ops Q rest (a.put o.dst v') w') :
    wpList Try.prog ops Q (o :: rest) a w := by
  obtain ⟨i0, hif, hz0, hz1, hz2⟩ := info_parts infoField3
  obtain ⟨L, hL, hc, hbs⟩ := tvs_of_ts hA
  have hLm : L.length = m := by rw [hm, ← hL, List.length_map]
  rcases A with _ | ad
  · have hl0 : l = [] := by
      cases l with
      | nil => rfl
      | cons f l =>
        obtain ⟨ad, _, _, he, _⟩ := hA.rd 0 (by simp)
        cases he
    subst hl0
    obtain rfl : m = 0 := by simpa using hm
    obtain rfl : c = 0 := hA.nil rfl
    obtain rfl : L = [] := List.eq_nil_of_length_eq_zero hLm
    exact wpList_append_own_none hgd s x 22 ho base 40 i0 2 Try.underlying22 hif v k (flatV M) hs hown hx (h v w [] rfl (by simp) (by rw [List.append_nil]; exact hown) (World.grownBy.refl w _))
  · refine wpList_append_own w hgd s x 22 ho base 40 i0 _ 2 32 Try.underlying22 hif hz0 hz1 hz2 rfl (by decide) v k (flatV M) hs hown ad m c (flatV L) hx (by rw [length_flatV, hLm]) ?_ (flatV_one' L) (by unfold maxLen; omega) (by omega) hbase (fun v' w' h2 h3 _ => h v' w' L hL hbs (by rw [flatV_append]; exact h2) h3)
    intro j u hu
    obtain ⟨ad', he, _, hc'⟩ := hc j u hu
    cases he
    exact hc'
end Go.Proofs.Ytkjghmonpdbjeaa
