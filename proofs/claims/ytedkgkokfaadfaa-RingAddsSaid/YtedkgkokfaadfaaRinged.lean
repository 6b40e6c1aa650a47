/-
  The statements' constant check of layer 5 answers true in every world. Conditions: the four contracts of package ring.
-/
import Derived.Test.YtedkgkokfaadfaaRingC
namespace Go.Proofs.Ytedkgkokfaadfaa
set_option linter.unusedVariables false
open Go.ChangeShapes Go.WideShapes Go.ChangeAt Go.RowKit

def ka : K := ⟨3, [1], 10, 20⟩
def kb : K := ⟨7, [2], 15, 30⟩
def kcc : K := ⟨5, [3], 0, 99999⟩
theorem sl_lit (g n : Nat) (h : n ≤ 1000) : Sl (some ⟨g, 0, none⟩) n n := ⟨Nat.le_refl _, by omega, by simp⟩
theorem c_f7 (C : RC) (w : World) (g : Nat) (h : Ks w w.heap.size (some ⟨g, 0, none⟩) [ka, kb]) :
    Calls Try.prog 9 #[.slice (some ⟨g, 0, none⟩) 2 2, .int .i64 7] w fun e w' => ∃ S cc, e = .returned (.tuple #[.agg #[.int .i64 7, .slice S 1 cc, .int .i64 15, .int .i64 30], .int .i64 0]) ∧ Bs w' w'.heap.size (kb).sec S cc ∧ Below w.heap.size w w' :=
  C.find [ka, kb] 2 7 (some ⟨g, 0, none⟩) 2 w kb 0 rfl (by rfl) (by rfl) (sl_lit g 2 (by decide)) h
theorem c_f5 (C : RC) (w : World) (g : Nat) (h : Ks w w.heap.size (some ⟨g, 0, none⟩) [ka, kb]) :
    Calls Try.prog 9 #[.slice (some ⟨g, 0, none⟩) 2 2, .int .i64 5] w fun e w' => ∃ S cc, e = .returned (.tuple #[.agg #[.int .i64 0, .slice S 0 cc, .int .i64 0, .int .i64 0], .int .i64 10]) ∧ Bs w' w'.heap.size (K0).sec S cc ∧ Below w.heap.size w w' :=
  C.find [ka, kb] 2 5 (some ⟨g, 0, none⟩) 2 w K0 10 rfl (by rfl) (by rfl) (sl_lit g 2 (by decide)) h
theorem c_fbad (C : RC) (w : World) (g : Nat) (h : Ks w w.heap.size (some ⟨g, 0, none⟩) [kb, ka]) :
    Calls Try.prog 9 #[.slice (some ⟨g, 0, none⟩) 2 2, .int .i64 7] w fun e w' => ∃ S cc, e = .returned (.tuple #[.agg #[.int .i64 0, .slice S 0 cc, .int .i64 0, .int .i64 0], .int .i64 1]) ∧ Bs w' w'.heap.size (K0).sec S cc ∧ Below w.heap.size w w' :=
  C.find [kb, ka] 2 7 (some ⟨g, 0, none⟩) 2 w K0 1 rfl (by rfl) (by rfl) (sl_lit g 2 (by decide)) h
theorem c_on18 (C : RC) (w : World) (g : Nat) (h : Ks w w.heap.size (some ⟨g, 0, none⟩) [ka, kb]) :
    Calls Try.prog 11 #[.slice (some ⟨g, 0, none⟩) 2 2, .int .i64 18] w fun e w' => ∃ S cc, e = .returned (.tuple #[.agg #[.int .i64 7, .slice S 1 cc, .int .i64 15, .int .i64 30], .int .i64 0]) ∧ Bs w' w'.heap.size (kb).sec S cc ∧ Below w.heap.size w w' :=
  C.on [ka, kb] 2 18 (some ⟨g, 0, none⟩) 2 w kb 0 rfl (by rfl) (by rfl) (sl_lit g 2 (by decide)) h
theorem c_on12 (C : RC) (w : World) (A : Option Addr) (c : Nat) (hs : Sl A 3 c) (h : Ks w w.heap.size A [ka, kcc, kb]) :
    Calls Try.prog 11 #[.slice A 3 c, .int .i64 12] w fun e w' => ∃ S cc, e = .returned (.tuple #[.agg #[.int .i64 5, .slice S 1 cc, .int .i64 0, .int .i64 99999], .int .i64 0]) ∧ Bs w' w'.heap.size (kcc).sec S cc ∧ Below w.heap.size w w' :=
  C.on [ka, kcc, kb] 3 12 A c w kcc 0 rfl (by rfl) (by rfl) hs h
theorem c_on31 (C : RC) (w : World) (g : Nat) (h : Ks w w.heap.size (some ⟨g, 0, none⟩) [ka, kb]) :
    Calls Try.prog 11 #[.slice (some ⟨g, 0, none⟩) 2 2, .int .i64 31] w fun e w' => ∃ S cc, e = .returned (.tuple #[.agg #[.int .i64 0, .slice S 0 cc, .int .i64 0, .int .i64 0], .int .i64 20]) ∧ Bs w' w'.heap.size (K0).sec S cc ∧ Below w.heap.size w w' :=
  C.on [ka, kb] 2 31 (some ⟨g, 0, none⟩) 2 w K0 20 rfl (by rfl) (by rfl) (sl_lit g 2 (by decide)) h
theorem c_add5 (C : RC) (w : World) (g : Nat) (h : Ks w w.heap.size (some ⟨g, 0, none⟩) [ka, kb]) (S : Option Addr) (c : Nat) (hs : Bs w w.heap.size (kcc).sec S c) :
    Calls Try.prog 17 #[.slice (some ⟨g, 0, none⟩) 2 2, .agg #[.int .i64 5, .slice S 1 c, .int .i64 0, .int .i64 99999]] w fun e w' => ∃ A' c', e = .returned (.tuple #[.slice A' 3 c', .int .i64 0]) ∧ Ks w' w'.heap.size A' [ka, kcc, kb] ∧ Sl A' 3 c' ∧ Below w.heap.size w w' :=
  C.add [ka, kb] ⟨kcc, S, c⟩ 2 _ 2 w [ka, kcc, kb] 0 3 rfl (by rfl) (by rfl) rfl (sl_lit g 2 (by decide)) h hs
theorem c_add3 (C : RC) (w : World) (g : Nat) (h : Ks w w.heap.size (some ⟨g, 0, none⟩) [ka, kb]) (S : Option Addr) (c : Nat) (hs : Bs w w.heap.size (ka).sec S c) :
    Calls Try.prog 17 #[.slice (some ⟨g, 0, none⟩) 2 2, .agg #[.int .i64 3, .slice S 1 c, .int .i64 10, .int .i64 20]] w fun e w' => ∃ A' c', e = .returned (.tuple #[.slice A' 0 c', .int .i64 10]) ∧ Ks w' w'.heap.size A' [] ∧ Sl A' 0 c' ∧ Below w.heap.size w w' :=
  C.add [ka, kb] ⟨ka, S, c⟩ 2 _ 2 w [] 10 0 rfl (by rfl) (by rfl) rfl (sl_lit g 2 (by decide)) h hs
theorem c_is (C : RC) (w : World) (g : Nat) (h : Ks w w.heap.size (some ⟨g, 0, none⟩) [ka, kb]) :
    Calls Try.prog 15 #[.slice (some ⟨g, 0, none⟩) 2 2] w fun e w' => e = .returned (.bool true) ∧ Below w.heap.size w w' :=
  C.is [ka, kb] 2 true _ 2 w rfl (by rfl) (sl_lit g 2 (by decide)) h
theorem c_samek (w : World) (S S' : Option Addr) (c c' : Nat) (h : Bs w w.heap.size [2] S c) (h' : Bs w w.heap.size [2] S' c') :
    Calls Try.prog 14 #[.agg #[.int .i64 7, .slice S 1 c, .int .i64 15, .int .i64 30], .agg #[.int .i64 7, .slice S' 1 c', .int .i64 15, .int .i64 30]] w fun e w' => e = .returned (.bool true) ∧ Below w.heap.size w w' :=
  refsame_key kb 1 rfl S S' c c' w.heap.size w h.rd h'.rd (by decide) (Nat.le_refl _)
theorem c_samesk (w : World) (A : Option Addr) (c g : Nat) (h : Ks w w.heap.size A [ka, kcc, kb]) (h' : Ks w w.heap.size (some ⟨g, 0, none⟩) [ka, kcc, kb]) :
    Calls Try.prog 19 #[.slice A 3 c, .slice (some ⟨g, 0, none⟩) 3 3] w fun e w' => e = .returned (.bool true) ∧ Below w.heap.size w w' :=
  refsames_eq [ka, kcc, kb] 3 rfl A _ c 3 w h h' (by decide)
end Go.Proofs.Ytedkgkokfaadfaa
