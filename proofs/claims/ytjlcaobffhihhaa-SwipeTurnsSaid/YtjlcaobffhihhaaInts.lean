/-
  Rows of any ints: how a slice reads as such a row; what a call owns; how one that came in is opened. No program of its own; conditions: none.
-/
import Derived.Test.YtjlcaobffhihhaaMem
import Derived.Test.YtjlcaobffhihhaaIn64
import Derived.Test.YtjlcaobffhihhaaLaw
import Derived.OpenShut
import Derived.SizedLaws
namespace Go.Proofs.Ytjlcaobffhihhaa
set_option linter.unusedVariables false
open Go.ChangeShapes Go.WideShapes Go.ChangeAt Go.RowKit

theorem infoInt : (Try.prog.info? 3).map (fun i => (i.zero, i.size, i.bytes)) = some (some (.int .i64 0), 1, 8) := by kernel_rfl
def I64 (l : List Int) : List Value := l.map fun x : Int => Value.int .i64 x
theorem I64_len (l : List Int) : (I64 l).length = l.length := by simp [I64]
theorem I64_append (a b : List Int) : I64 (a ++ b) = I64 a ++ I64 b := by simp [I64]
theorem I64_at {l : List Int} {k : Nat} {x : Int} (h : l[k]? = some x) : (I64 l)[k]? = some (.int .i64 x) := by simp [I64, h]
theorem I64_one (l : List Int) : ∀ u ∈ I64 l, u.oneCell' = true := by
  intro u hu
  simp only [I64, List.mem_map] at hu
  obtain ⟨x, _, rfl⟩ := hu
  rfl
/-- A slice value that reads as ints. -/
structure Zs (w : World) (B : Nat) (l : List Int) (A : Option Addr) (c : Nat) : Prop where
  rd : Rd w B A (I64 l)
  nil : A = none → c = 0
  len : l.length ≤ c
  cap : c ≤ 9223372036854775807
theorem Zs.next {w w' : World} {l : List Int} {A : Option Addr} {c : Nat} (h : Zs w w.heap.size l A c) (hb : Below w.heap.size w w') : Zs w' w'.heap.size l A c := ⟨h.rd.next hb, h.nil, h.len, h.cap⟩
theorem Zs.drew {w : World} {l : List Int} {A : Option Addr} {c : Nat} (h : Zs w w.heap.size l A c) (q : Nat) : Zs (w.drewN q) (w.drewN q).heap.size l A c := h.next (below_drewN (Below.refl _ _) q)
theorem zs_of_own {w : World} {base n : Nat} {v : Value} {l : List Int} (h : w.ownsRow base 3 1 v n (I64 l)) : ∃ A c, v = .slice A n c ∧ n = l.length ∧ Zs w w.heap.size l A c := by
  have hn : l.length = n := by have := h.1; simpa [I64] using this
  rcases h.2 with ⟨rfl, h0⟩ | ⟨g, cap, cur, rfl, _, _, h2, h3, _⟩
  · subst h0
    have : l = [] := List.eq_nil_of_length_eq_zero hn
    subst this
    exact ⟨none, 0, rfl, rfl, ⟨by intro k u hu; simp [I64] at hu, fun _ => rfl, by simp, by omega⟩⟩
  · unfold maxLen at h3
    exact ⟨_, cap, rfl, hn.symm, ⟨Rd.of_own h, by simp, by omega, h3⟩⟩
theorem Zs.at {w : World} {B : Nat} {l : List Int} {A : Option Addr} {c k : Nat} {x : Int} (h : Zs w B l A c) (hx : l[k]? = some x) : ∃ ad, A = some ad ∧ ad.block < B ∧ w.cell? (ad.add k) = some (.int .i64 x) := h.rd k _ (I64_at hx)
theorem zs_lit (w : World) (cs : Array Value) (l : List Int) (n : Nat) (h : cs.toList = I64 l) (hn : n = l.length) (h1 : n ≤ 1000) : Zs (w.alloc (.cells cs 3)) (w.alloc (.cells cs 3)).heap.size l (some ⟨w.heap.size, 0, none⟩) n :=
  ⟨by rw [← h]; exact rd_lit w cs _, by simp, by omega, by omega⟩
section
variable {H : Type} {enc : TypeId × Value → H} {P : Program}
/-- A slice of ints that came in: it reads as a list of numbers that fit an int; its capacity, and what that weighs. -/
theorem open_ints_full {W : World} {t e : TypeId} {r : Reach} {b0 : Nat} {v : Value} {d : DataW H} {ps : List MemPlace} (ht : P.underlying t = some (.slice e)) (he : P.underlying e = some (.int .i64)) (hc : P.cellsOf e = 1)
    (hval : Value.okWide P W r b0 t v) (hd : DataW.Trod enc P W 0 (fun _ => true) true t v d ps) :
    ∃ (A : Option Addr) (l : List Int) (c : Nat), v = .slice A l.length c ∧ Rd W W.heap.size A (I64 l) ∧ (∀ x ∈ l, In64 x) ∧ l.length ≤ c ∧ c ≤ maxLen ∧ (A = none → c = 0) ∧
      ∀ b, (d.weights P t).all (· ≤ b) = true → c * P.bytesOf e ≤ b := by
  obtain ⟨a0, len, cap, rfl⟩ := okWide_slice ht hval
  obtain ⟨fuel, hf⟩ := hd
  rcases open_ints ht he hc hf with ⟨hcs, _⟩ | ⟨a, len', cap', zs, hcs, _, h1, h2, hz, hx, hcell, hwf⟩
  · simp [Value.cells] at hcs
    obtain ⟨rfl, rfl, rfl⟩ := hcs
    exact ⟨none, [], 0, rfl, by intro k u hu; simp [I64] at hu, by simp, by simp, by simp, by simp, by simp⟩
  · simp [Value.cells] at hcs
    obtain ⟨rfl, rfl, rfl⟩ := hcs
    simp at hz
    refine ⟨some a, zs.take len, cap, by simp; omega, ?_, ?_, by simp; omega, h2, by simp, ?_⟩
    · intro j u hu
      simp only [I64, List.getElem?_map, Option.map_eq_some_iff] at hu
      obtain ⟨z, hz1, rfl⟩ := hu
      have hj : j < len := by
        rcases Nat.lt_or_ge j len with h | h
        · exact h
        · rw [List.getElem?_eq_none (by simp; omega)] at hz1; cases hz1
      have hcj := hcell j (by omega)
      rw [List.getElem?_take, if_pos hj] at hz1
      rw [List.getD_eq_getElem?_getD, hz1, Option.getD_some] at hcj
      refine ⟨a, rfl, ?_, hcj⟩
      have := lt_of_cell hcj
      rwa [add_block] at this
    · intro x hx1
      exact wf_i64 x (hwf x (List.mem_of_mem_take hx1))
    · intro b hb
      obtain ⟨rfl, _⟩ := Prod.mk.inj hx
      simp only [DataW.weights, ht, List.all_cons, Bool.and_eq_true, decide_eq_true_eq] at hb
      have h3 := hb.1
      simp [lits] at h3
      have h4 : min len zs.length + (zs.length - len) = cap := by omega
      rw [h4] at h3
      exact h3
end
end Go.Proofs.Ytjlcaobffhihhaa
