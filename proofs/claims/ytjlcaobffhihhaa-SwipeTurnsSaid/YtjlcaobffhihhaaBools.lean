/-
  Rows of bools: how a slice reads as such a row; what a call owns. No program of its own; conditions: none.
-/
import Derived.Test.YtjlcaobffhihhaaMem
namespace Go.Proofs.Ytjlcaobffhihhaa
set_option linter.unusedVariables false
open Go.ChangeShapes Go.WideShapes Go.ChangeAt Go.RowKit

theorem infoBoolT : (Try.prog.info? 4).map (fun i => (i.zero, i.size, i.bytes)) = some (some (.bool false), 1, 1) := by kernel_rfl
def BL (l : List Bool) : List Value := l.map fun x : Bool => Value.bool x
theorem BL_len (l : List Bool) : (BL l).length = l.length := by simp [BL]
theorem BL_append (a b : List Bool) : BL (a ++ b) = BL a ++ BL b := by simp [BL]
theorem BL_at {l : List Bool} {k : Nat} {x : Bool} (h : l[k]? = some x) : (BL l)[k]? = some (.bool x) := by simp [BL, h]
theorem BL_one (l : List Bool) : ∀ u ∈ BL l, u.oneCell' = true := by
  intro u hu
  simp only [BL, List.mem_map] at hu
  obtain ⟨x, _, rfl⟩ := hu
  rfl
/-- A slice value that reads as ints. -/
structure Vs (w : World) (B : Nat) (l : List Bool) (A : Option Addr) (c : Nat) : Prop where
  rd : Rd w B A (BL l)
  nil : A = none → c = 0
  len : l.length ≤ c
  cap : c ≤ 9223372036854775807
theorem Vs.next {w w' : World} {l : List Bool} {A : Option Addr} {c : Nat} (h : Vs w w.heap.size l A c) (hb : Below w.heap.size w w') : Vs w' w'.heap.size l A c := ⟨h.rd.next hb, h.nil, h.len, h.cap⟩
theorem Vs.drew {w : World} {l : List Bool} {A : Option Addr} {c : Nat} (h : Vs w w.heap.size l A c) (q : Nat) : Vs (w.drewN q) (w.drewN q).heap.size l A c := h.next (below_drewN (Below.refl _ _) q)
theorem vs_of_own {w : World} {base n : Nat} {v : Value} {l : List Bool} (h : w.ownsRow base 4 1 v n (BL l)) : ∃ A c, v = .slice A n c ∧ n = l.length ∧ Vs w w.heap.size l A c := by
  have hn : l.length = n := by have := h.1; simpa [BL] using this
  rcases h.2 with ⟨rfl, h0⟩ | ⟨g, cap, cur, rfl, _, _, h2, h3, _⟩
  · subst h0
    have : l = [] := List.eq_nil_of_length_eq_zero hn
    subst this
    exact ⟨none, 0, rfl, rfl, ⟨by intro k u hu; simp [BL] at hu, fun _ => rfl, by simp, by omega⟩⟩
  · unfold maxLen at h3
    exact ⟨_, cap, rfl, hn.symm, ⟨Rd.of_own h, by simp, by omega, h3⟩⟩
theorem Vs.at {w : World} {B : Nat} {l : List Bool} {A : Option Addr} {c k : Nat} {x : Bool} (h : Vs w B l A c) (hx : l[k]? = some x) : ∃ ad, A = some ad ∧ ad.block < B ∧ w.cell? (ad.add k) = some (.bool x) := h.rd k _ (BL_at hx)
theorem vs_lit (w : World) (cs : Array Value) (l : List Bool) (n : Nat) (h : cs.toList = BL l) (hn : n = l.length) (h1 : n ≤ 1000) : Vs (w.alloc (.cells cs 4)) (w.alloc (.cells cs 4)).heap.size l (some ⟨w.heap.size, 0, none⟩) n :=
  ⟨by rw [← h]; exact rd_lit w cs _, by simp, by omega, by omega⟩
theorem Vs.cells {w : World} {B : Nat} {l : List Bool} {ad : Addr} {c : Nat} (h : Vs w B l (some ad) c) : ∀ j u, (BL l)[j]? = some u → w.cell? (ad.add j) = some u := by
  intro j u hu
  obtain ⟨ad', e, _, hc⟩ := h.rd j u hu
  cases e
  exact hc
theorem bool_lit (w : World) (x : Bool) : ∀ j u, ([.bool x] : List Value)[j]? = some u → (w.alloc (.cells #[.bool x] 4)).cell? ((⟨w.heap.size, 0, none⟩ : Addr).add j) = some u := by
  intro j u hu
  rw [at_add, cell_of_row _ _ j _ 4 (0, 0) (heap_alloc_new w _)]
  simpa using hu
theorem bool_one (x : Bool) : ∀ u ∈ ([.bool x] : List Value), u.oneCell' = true := by
  intro u hu
  simp at hu
  subst hu
  rfl
end Go.Proofs.Ytjlcaobffhihhaa
