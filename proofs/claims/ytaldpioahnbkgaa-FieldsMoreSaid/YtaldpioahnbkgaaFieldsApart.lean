/-
  Rows of fields stand apart from a reading's block. Conditions: none.
-/
import Derived.Test.YtaldpioahnbkgaaTlvMem
import Derived.Test.YtaldpioahnbkgaaRgBox
namespace Go.Proofs.Ytaldpioahnbkgaa
set_option linter.unusedVariables false
open Go.ChangeShapes Go.WideShapes Go.ChangeAt Go.RowKit

theorem fbs_apart {w : World} {B X o : Nat} {s : List Nat} {A : Option Addr} {c : Nat} {r : Rg} {v : Value} (h : Bs w B s A c) (hX : RBox w X r) : Bs (w.setCell ⟨X, o, none⟩ v) B s A c := by
  refine ⟨fun k u hu => ?_, h.nil, h.len, h.cap, h.lt⟩
  obtain ⟨ad, e, hlt, hc⟩ := h.rd k u hu
  refine ⟨ad, e, hlt, ?_⟩
  by_cases hb : X = (ad.add k).block
  · exfalso
    obtain ⟨x, hx⟩ : ∃ x : Nat, u = .int .u8 x := by
      simp only [U8, List.getElem?_map, Option.map_eq_some_iff] at hu
      obtain ⟨x, _, rfl⟩ := hu
      exact ⟨x, rfl⟩
    subst hx
    unfold World.cell? at hc
    rw [← hb, hX] at hc
    simp only at hc
    simp at hc
    have hm := List.mem_of_getElem? hc.2
    simp at hm
  · exact (World.cell?_setCell_far _ _ _ _ hb).trans hc
theorem ts_apart {w : World} {B X o : Nat} {l : List Tf} {A : Option Addr} {c : Nat} {r : Rg} {x : Int} (h : Ts w B l A c) (hX : RBox w X r) : Ts (w.setCell ⟨X, o, none⟩ (.int .i64 x)) B l A c := by
  refine ⟨fun i hi => ?_, h.nil, h.len, h.cap⟩
  obtain ⟨ad, S, cc, e, hlt, hk⟩ := h.rd i hi
  have hne : X ≠ (ad.add (i * 2)).block := by
    intro hb
    have hc := hk.c1
    unfold World.cell? at hc
    rw [← hb, hX] at hc
    simp only at hc
    rcases Nat.lt_or_ge ((ad.add (i * 2)).off + 1) 15 with h1 | h1
    · generalize (ad.add (i * 2)).off + 1 = k at hc h1
      rcases (show k = 0 ∨ k = 1 ∨ k = 2 ∨ k = 3 ∨ k = 4 ∨ k = 5 ∨ k = 6 ∨ k = 7 ∨ k = 8 ∨ k = 9 ∨ k = 10 ∨ k = 11 ∨ k = 12 ∨ k = 13 ∨ k = 14 by omega) with rfl | rfl | rfl | rfl | rfl | rfl | rfl | rfl | rfl | rfl | rfl | rfl | rfl | rfl | rfl <;> cases hc
    · rw [Array.getElem?_eq_none (by simpa using h1)] at hc
      cases hc
  refine ⟨ad, S, cc, e, hlt, ?_, ?_, fbs_apart hk.bs hX⟩
  · rw [World.cell?_setCell_far _ _ _ _ (by exact hne)]; exact hk.c0
  · rw [World.cell?_setCell_far _ _ _ _ (by exact hne)]; exact hk.c1
end Go.Proofs.Ytaldpioahnbkgaa
