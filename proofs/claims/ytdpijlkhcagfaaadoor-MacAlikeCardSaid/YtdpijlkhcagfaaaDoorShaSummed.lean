/-
  Contract for the laws' own check of layer 2 (summed): the digest of abc is the known one, and nothing is padded to 64 bytes. Conditions: the package's tables hold what its text lays.
-/
import Derived.Test.YtdpijlkhcagfaaaDoorShaFast
import Derived.Lib.SmallJoins
namespace Go.Proofs.YtdpijlkhcagfaaaDoor
set_option linter.unusedVariables false
open Go.ChangeShapes Go.WideShapes Go.ChangeAt Go.RowKit

theorem sum_len (l : List Nat) (n : Nat) (hn : n = l.length) (A : Option Addr) (c : Nat) (w : World) (hT : Tabs w) (hA : Rd w w.heap.size A (U8 l)) (hnil : A = none → c = 0) (hb : ∀ x ∈ l, x < 256) (hl : n ≤ 5000) :
    Calls Tryd.prog 15 #[.slice A n c] w fun e w' => e = .returned (.agg (U8 (digestN l)).toArray) ∧ Below w.heap.size w w' := by
  subst hn
  exact sum_ok l A c w hT hA hnil hb hl

theorem rd_lit_mark (w : World) (cs : Array Value) (t : TypeId) (fr : Nat × Nat) : Rd (w.alloc (.cells cs t fr)) (w.alloc (.cells cs t fr)).heap.size (some ⟨w.heap.size, 0, none⟩) cs.toList := by
  intro k u hu
  refine ⟨_, rfl, by simp, ?_⟩
  rw [at_add, cell_of_row (w.alloc (.cells cs t fr)) w.heap.size k cs t fr (heap_alloc_new w _)]
  simpa using hu

def abcV : Array Value := #[.int .u8 186, .int .u8 120, .int .u8 22, .int .u8 191, .int .u8 143, .int .u8 1, .int .u8 207, .int .u8 234, .int .u8 65, .int .u8 65, .int .u8 64, .int .u8 222, .int .u8 93, .int .u8 174, .int .u8 34, .int .u8 35, .int .u8 176, .int .u8 3, .int .u8 97, .int .u8 163, .int .u8 150, .int .u8 23, .int .u8 122, .int .u8 156, .int .u8 180, .int .u8 16, .int .u8 255, .int .u8 97, .int .u8 242, .int .u8 0, .int .u8 21, .int .u8 173]
theorem abcV_eq : (U8 [186, 120, 22, 191, 143, 1, 207, 234, 65, 65, 64, 222, 93, 174, 34, 35, 176, 3, 97, 163, 150, 23, 122, 156, 180, 16, 255, 97, 242, 0, 21, 173]).toArray = abcV := rfl
theorem sizeRunU8 (w : World) : (sizeOf 5).run Tryd.prog w = .ok 1 w := by kernel_rfl

set_option maxRecDepth 100000 in
theorem summed_any (w : World) (hT : Tabs w) : Calls Tryd.prog 8 #[] w fun e w' => e = .returned (.bool true) ∧ Below w.heap.size w w' := by
  have HT := Lib.hid hT
  have hcv := Joins.run_convert_bytes_const_at (P := Tryd.prog) w 28 5 #[.int .u8 97, .int .u8 98, .int .u8 99] 3 3 w.heap.size rfl Tryd.underlying28 Tryd.underlying5
  clear hT
  go_enter Tryd.func8, Tryd.ntmps8
  go_wp2_with fail
  refine (sum_len [97, 98, 99] 3 rfl (some ⟨w.heap.size, 0, none⟩) 3 _ (HT.out.next ((Below.refl _ _).alloc (Nat.le_refl _) _)) (rd_lit_mark w #[.int .u8 97, .int .u8 98, .int .u8 99] 5 _) (fun h => by cases h) (by decide) (by omega)).mono ?_
  rintro e w1 ⟨rfl, hb1⟩
  rw [abc_fast]
  have hbw : Below w.heap.size w w1 := ((Below.refl _ _).alloc (Nat.le_refl _) _).trans (hb1.mono (by simp))
  clear hcv
  clear hb1
  rw [abcV_eq]
  have heq : ∀ w, (Op.equalIn 10000 36 (.agg abcV) (.agg abcV)).run Tryd.prog w = .ok true w := fun w => run_equalIn_same w 9998 36 5 32 .u8 .u8 Tryd.underlying36 Tryd.underlying5 sizeRunU8 [186, 120, 22, 191, 143, 1, 207, 234, 65, 65, 64, 222, 93, 174, 34, 35, 176, 3, 97, 163, 150, 23, 122, 156, 180, 16, 255, 97, 242, 0, 21, 173] rfl
  unfold abcV at heq ⊢
  go_wp2_with fail
  clear heq
  have hp := pad_len [] 0 rfl none 0 w1 (by intro k u hu; simp [U8] at hu) (fun _ => rfl) (by omega)
  rw [show (padN ([] : List Nat)).length = 64 from rfl] at hp
  refine hp.mono ?_
  clear hp
  rintro e w2 ⟨v2, rfl, hown2, hb2⟩
  obtain ⟨A2, c2, rfl, _⟩ := own_shape hown2
  clear hown2
  go_wp2_with fail
  go_ret
  exact ⟨rfl, hbw.trans (hb2.mono hbw.size)⟩
end Go.Proofs.YtdpijlkhcagfaaaDoor
