/-
  Rows of bytes stand in blocks of bytes, so that fields of the call's own stand elsewhere. No program of its own; conditions: none.
-/
import Derived.Test.YtaldpioahnbkgaaTlvMem
namespace Go.Proofs.Ytaldpioahnbkgaa
set_option linter.unusedVariables false
open Go.ChangeShapes Go.WideShapes Go.ChangeAt Go.RowKit

/-- The block of a slice, if any, is one of bytes. -/
def TyB (w : World) (S : Option Addr) : Prop := ∀ ad, S = some ad → ∃ cs fz, w.heap[ad.block]? = some (.cells cs 5 fz)
theorem TyB.next {w w' : World} {S : Option Addr} (h : TyB w S) (hb : Below w.heap.size w w') : TyB w' S := fun ad e => by
  obtain ⟨cs, fz, h1⟩ := h ad e
  exact ⟨cs, fz, (hb.block _ (Array.getElem?_eq_some_iff.1 h1).1).trans h1⟩
theorem tyb_of_own {w : World} {base n m : Nat} {xs : List Value} {A : Option Addr} {c : Nat} (h : w.ownsRow base 5 1 (.slice A m c) n xs) : TyB w A := by
  intro ad e
  subst e
  rcases h.2 with ⟨h1, _⟩ | ⟨g, cap, cur, h1, _, hg, _⟩
  · cases h1
  · cases h1
    exact ⟨cur, _, hg⟩
theorem tyb_ne {w : World} {S : Option Addr} {base n : Nat} {v : Value} {xs : List Value} (h : TyB w S) (hown : w.ownsRow base 56 2 v n xs) {ad : Addr} (e : S = some ad) : some ad.block ≠ v.ownBlock := by
  intro hb
  obtain ⟨cs, fz, h1⟩ := h ad e
  rcases hown.2 with ⟨rfl, _⟩ | ⟨g, cap, cur, rfl, _, hg, _⟩
  · cases hb
  · simp only [Value.ownBlock, Option.some.injEq] at hb
    rw [hb, hg] at h1
    cases h1
/-- Rows of bytes stay, where fields of the call's own grow. -/
theorem bs_grown {w w' : World} {s : List Nat} {S : Option Addr} {c base n : Nat} {v : Value} {xs : List Value} (h : TyB w S) (hbs : Bs w w.heap.size s S c) (hown : w.ownsRow base 56 2 v n xs) (hg : w.grownBy w' v.ownBlock) : TyB w' S ∧ Bs w' w'.heap.size s S c := by
  refine ⟨fun ad e => ?_, fun k u hu => ?_, hbs.nil, hbs.len, hbs.cap, hbs.lt⟩
  · obtain ⟨cs, fz, h1⟩ := h ad e
    exact ⟨cs, fz, (hg.block _ (Array.getElem?_eq_some_iff.1 h1).1 (tyb_ne h hown e)).trans h1⟩
  · obtain ⟨ad, e, hlt, hc⟩ := hbs.rd k u hu
    exact ⟨ad, e, Nat.lt_of_lt_of_le hlt hg.size, hg.cell hc (by rw [add_block]; exact tyb_ne h hown e)⟩
end Go.Proofs.Ytaldpioahnbkgaa
