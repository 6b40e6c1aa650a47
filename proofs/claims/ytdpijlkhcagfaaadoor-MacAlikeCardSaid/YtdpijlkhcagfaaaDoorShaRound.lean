/-
  Contract for round of package sha: eight words are moved on by one place just so. Conditions: the words fit 32 bits.
-/
import Derived.Test.YtdpijlkhcagfaaaDoorShaMix
import Derived.Test.YtdpijlkhcagfaaaDoorShaConsts
namespace Go.Proofs.YtdpijlkhcagfaaaDoor
set_option linter.unusedVariables false
open Go.ChangeShapes Go.WideShapes Go.ChangeAt Go.RowKit

/-- A round, by the sum of its constant and its word. -/
def rndS (v : St) (kw : Nat) : St :=
  ⟨(v.h + threeN v.e 6 11 25 + pk v.e v.f v.g 32 + kw + (threeN v.a 2 13 22 + mj v.a v.b v.c 32)) % 4294967296, v.a, v.b, v.c, (v.d + (v.h + threeN v.e 6 11 25 + pk v.e v.f v.g 32 + kw)) % 4294967296, v.e, v.f, v.g⟩
theorem rndS_eq (v : St) (k w : Nat) : rndS v ((k + w) % 4294967296) = rnd v k w := by
  unfold rndS rnd t1N t2N
  congr 1
  · omega
  · omega
theorem rndS_ok {v : St} (h : v.ok) (kw : Nat) : (rndS v kw).ok := by
  obtain ⟨h1, h2, h3, h4, h5, h6, h7, h8⟩ := h
  exact ⟨Nat.mod_lt _ (by omega), h1, h2, h3, Nat.mod_lt _ (by omega), h5, h6, h7⟩

set_option maxRecDepth 100000 in
theorem round_any (V : St) (kw : Nat) (w : World) (hV : V.ok) (hk : kw < 4294967296) :
    Calls Tryd.prog 23 #[V.val, .int .u32 kw] w fun e w' => e = .returned (rndS V kw).val ∧ Below w.heap.size w w' := by
  obtain ⟨ba, bb, bc, bd, be, bf, bg, bh⟩ := hV
  unfold St.val
  go_enter Tryd.func23, Tryd.ntmps23
  go_wp2_with fail
  go_quiet (fail)
  go_wp2_with fail
  refine (turnLow_any _ _ be).mono ?_
  rintro e w' ⟨rfl, rfl⟩
  go_wp2_with fail
  refine (choose_any _ _ _ _ be bf bg).mono ?_
  rintro e w' ⟨rfl, rfl⟩
  go_wp2_with fail
  refine (turnHigh_any _ _ ba).mono ?_
  rintro e w' ⟨rfl, rfl⟩
  go_wp2_with fail
  refine (pmost_any _ _ _ _ ba bb bc).mono ?_
  rintro e w' ⟨rfl, rfl⟩
  go_wp2_with fail
  have ea : ((V.h : Int) + (threeN V.e 6 11 25 : Nat) + (pk V.e V.f V.g 32 : Nat) + (kw : Int) + ((threeN V.a 2 13 22 : Nat) + (mj V.a V.b V.c 32 : Nat))) % 4294967296 = (((rndS V kw).a : Nat) : Int) := by
    show _ = (((_ : Nat) % 4294967296 : Nat) : Int); omega
  have ee : ((V.d : Int) + ((V.h : Int) + (threeN V.e 6 11 25 : Nat) + (pk V.e V.f V.g 32 : Nat) + (kw : Int))) % 4294967296 = (((rndS V kw).e : Nat) : Int) := by
    show _ = (((_ : Nat) % 4294967296 : Nat) : Int); omega
  rw [ea, ee]
  have hle : w.heap.size ≤ w.heap.size + 1 := by omega
  refine bodyPost_ret (v := (rndS V kw).val) (by simp [results, Tryd.results23, go_sem, St.val, rndS]) rfl ⟨rfl, ?_⟩
  exact (((((((((below_drewN (((Below.refl _ _).alloc (Nat.le_refl _) _).alloc (by simp) _) _).setCell hle _).setCell hle _).setCell hle _).setCell hle _).setCell hle _).setCell hle _).setCell hle _).setCell hle _)
end Go.Proofs.YtdpijlkhcagfaaaDoor
