/-
  How readings and journeys that came in by value are opened; how slices of bytes are. Conditions: none.
-/
import Derived.Test.YtaldpioahnbkgaaRgIn
import Derived.Test.YtaldpioahnbkgaaBase
import Derived.Test.YtaldpioahnbkgaaOpenArr
import Derived.Deep.Slices
import Derived.Deep.Fields
import Derived.Lib.SmallJoins
namespace Go.Proofs.Ytaldpioahnbkgaa
set_option linter.unusedVariables false
open Go.ChangeShapes Go.WideShapes Go.ChangeAt Go.RowKit Go.Deep

section
variable {H : Type} {enc : TypeId × Value → H}
theorem open_bs13 {W : World} {r : Reach} {b0 : Nat} {v : Value} {d : DataW H} {ps : List MemPlace} (hval : Value.okWide Try.prog W r b0 52 v) (hd : DataW.Trod enc Try.prog W 0 (fun _ => true) true 52 v d ps) :
    ∃ (A : Option Addr) (s : List Nat) (c : Nat), v = .slice A s.length c ∧ Bs W W.heap.size s A c := by
  obtain ⟨A, l, c, h1, h2, h3, h4, h5, h6, _⟩ := open_nats_full Try.underlying52 Try.underlying5 Try.cellsU8 wf_u8 hval hd
  exact ⟨A, l, c, h1, ⟨h2, h6, h4, by unfold maxLen at h5; omega, h3⟩⟩
theorem cell_int13 {W : World} {fuel : Nat} {v : Value} {y : DataW H × List MemPlace} (h : DataW.trod enc Try.prog W 0 (fun _ => true) true fuel 3 [v] = some y) : ∃ z : Int, v = .int .i64 z ∧ In64 z := by
  obtain ⟨z, e1, _, wz⟩ := DataW.trod_int Try.underlying3 h
  simp at e1
  exact ⟨z, e1, wf_i64 z wz⟩
/-- Cells that read as a struct all of whose fields are ints. -/
theorem ints_of_struct {W : World} {t : TypeId} {fs : Array Field} {cs : List Value} {fuel : Nat} {y : DataW H × List MemPlace} (hs : Try.prog.underlying t = some (.struct fs)) (hone : oneCellFields Try.prog fs = true)
    (hty : fs.all (fun f : Field => f.type == 3) = true) (hC : Try.prog.cellsOf t = fs.size) (h : DataW.trod enc Try.prog W 0 (fun _ => true) true fuel t cs = some y) :
    cs.length = fs.size ∧ ∀ i, i < cs.length → ∃ z : Int, cs[i]? = some (.int .i64 z) ∧ In64 z := by
  obtain ⟨xs, n, _, _, hl, hlen, hg⟩ := DataW.trod_struct hs h
  refine ⟨hl.trans hC, fun i hi => ?_⟩
  have hif : i < fs.size := by rw [← hC, ← hl]; exact hi
  have hfi : fs[i]? = some fs[i] := Array.getElem?_eq_getElem hif
  obtain ⟨o, k⟩ := hone_of hone i _ hfi
  have ht : fs[i].type = 3 := of_decide_eq_true (by simpa using Array.all_eq_true.1 hty i hif)
  have h1 := hg i _ hfi
  rw [ht] at k
  rw [ht, o, k] at h1
  obtain ⟨y, hy⟩ : ∃ y, xs[i]? = some y := ⟨_, List.getElem?_eq_getElem (by omega)⟩
  have e : (cs.drop i).take 1 = [cs[i]] := by rw [List.drop_eq_getElem_cons hi]; rfl
  rw [hy, e] at h1
  obtain ⟨z, hz, zl⟩ := cell_int13 h1
  exact ⟨z, by rw [List.getElem?_eq_getElem hi, hz], zl⟩
theorem list11 {α : Type} {l : List α} (h : l.length = 11) : ∃ c0 c1 c2 c3 c4 c5 c6 c7 c8 c9 c10, l = [c0, c1, c2, c3, c4, c5, c6, c7, c8, c9, c10] := by
  match l, h with
  | [c0, c1, c2, c3, c4, c5, c6, c7, c8, c9, c10], _ => exact ⟨c0, c1, c2, c3, c4, c5, c6, c7, c8, c9, c10, rfl⟩
theorem list15 {α : Type} {l : List α} (h : l.length = 15) : ∃ c0 c1 c2 c3 c4 c5 c6 c7 c8 c9 c10 c11 c12 c13 c14, l = [c0, c1, c2, c3, c4, c5, c6, c7, c8, c9, c10, c11, c12, c13, c14] := by
  match l, h with
  | [c0, c1, c2, c3, c4, c5, c6, c7, c8, c9, c10, c11, c12, c13, c14], _ => exact ⟨c0, c1, c2, c3, c4, c5, c6, c7, c8, c9, c10, c11, c12, c13, c14, rfl⟩
theorem open_journey {W : World} {r : Reach} {b0 : Nat} {v : Value} {d : DataW H} {ps : List MemPlace} (hval : Value.okWide Try.prog W r b0 25 v) (hd : DataW.Trod enc Try.prog W 0 (fun _ => true) true 25 v d ps) :
    ∃ a b : Int, v = .agg #[.int .i64 a, .int .i64 b] ∧ In64 a ∧ In64 b := by
  obtain ⟨cs, rfl, hsz⟩ := okWide_struct Try.underlying25 hval
  obtain ⟨fuel, hf⟩ := hd
  obtain ⟨h1, h2⟩ := ints_of_struct Try.underlying25 (by kernel_rfl) (by kernel_rfl) (by kernel_rfl) hf
  obtain ⟨l⟩ := cs
  have h1' : l.length = 2 := h1
  match l, h1' with
  | [c0, c1], _ =>
    obtain ⟨z0, e0, j0⟩ := h2 0 (by show 0 < 2; omega)
    obtain ⟨z1, e1, j1⟩ := h2 1 (by show 1 < 2; omega)
    obtain rfl : c0 = .int .i64 z0 := Option.some.inj e0
    obtain rfl : c1 = .int .i64 z1 := Option.some.inj e1
    exact ⟨z0, z1, rfl, j0, j1⟩
theorem open_read {W : World} {r : Reach} {b0 : Nat} {v : Value} {d : DataW H} {ps : List MemPlace} (hval : Value.okWide Try.prog W r b0 27 v) (hd : DataW.Trod enc Try.prog W 0 (fun _ => true) true 27 v d ps) :
    ∃ q : Rg, v = .agg #[.int .i64 q.t.ser, .int .i64 q.t.kind, .int .i64 q.t.frm, .int .i64 q.t.till, .int .i64 q.t.cls, .int .i64 q.t.card, .int .i64 q.t.seat, .int .i64 q.t.day, .int .i64 q.t.days, .int .i64 q.t.uses, .int .i64 q.t.epoch, .int .i64 q.key, .int .i64 q.left, .int .i64 q.inn, .int .i64 q.ver] ∧ InR q := by
  obtain ⟨cs, rfl, hsz⟩ := okWide_struct Try.underlying27 hval
  obtain ⟨fuel, hf⟩ := hd
  obtain ⟨xs, n, _, _, hl, hlen, hg⟩ := DataW.trod_struct Try.underlying27 hf
  obtain ⟨l⟩ := cs
  have hl' : l.length = 15 := hl
  obtain ⟨c0, c1, c2, c3, c4, c5, c6, c7, c8, c9, c10, c11, c12, c13, c14, rfl⟩ := list15 hl'
  have g0 := hg 0 _ rfl
  have g1 := hg 1 _ rfl
  have g2 := hg 2 _ rfl
  have g3 := hg 3 _ rfl
  have hx : xs.length = 4 := hlen
  match xs, hx with
  | [y0, y1, y2, y3], _ =>
    have k0 : DataW.trod enc Try.prog W 0 (fun _ => true) true n 23 [c0, c1, c2, c3, c4, c5, c6, c7, c8, c9, c10] = some y0 := g0
    have k1 : DataW.trod enc Try.prog W 0 (fun _ => true) true n 3 [c11] = some y1 := g1
    have k2 : DataW.trod enc Try.prog W 0 (fun _ => true) true n 25 [c12, c13] = some y2 := g2
    have k3 : DataW.trod enc Try.prog W 0 (fun _ => true) true n 3 [c14] = some y3 := g3
    obtain ⟨_, m0⟩ := ints_of_struct Try.underlying23 (by kernel_rfl) (by kernel_rfl) (by kernel_rfl) k0
    obtain ⟨_, m2⟩ := ints_of_struct Try.underlying25 (by kernel_rfl) (by kernel_rfl) (by kernel_rfl) k2
    obtain ⟨z0, e0, j0⟩ := m0 0 (by show 0 < 11; omega)
    obtain rfl : c0 = .int .i64 z0 := Option.some.inj e0
    obtain ⟨z1, e1, j1⟩ := m0 1 (by show 1 < 11; omega)
    obtain rfl : c1 = .int .i64 z1 := Option.some.inj e1
    obtain ⟨z2, e2, j2⟩ := m0 2 (by show 2 < 11; omega)
    obtain rfl : c2 = .int .i64 z2 := Option.some.inj e2
    obtain ⟨z3, e3, j3⟩ := m0 3 (by show 3 < 11; omega)
    obtain rfl : c3 = .int .i64 z3 := Option.some.inj e3
    obtain ⟨z4, e4, j4⟩ := m0 4 (by show 4 < 11; omega)
    obtain rfl : c4 = .int .i64 z4 := Option.some.inj e4
    obtain ⟨z5, e5, j5⟩ := m0 5 (by show 5 < 11; omega)
    obtain rfl : c5 = .int .i64 z5 := Option.some.inj e5
    obtain ⟨z6, e6, j6⟩ := m0 6 (by show 6 < 11; omega)
    obtain rfl : c6 = .int .i64 z6 := Option.some.inj e6
    obtain ⟨z7, e7, j7⟩ := m0 7 (by show 7 < 11; omega)
    obtain rfl : c7 = .int .i64 z7 := Option.some.inj e7
    obtain ⟨z8, e8, j8⟩ := m0 8 (by show 8 < 11; omega)
    obtain rfl : c8 = .int .i64 z8 := Option.some.inj e8
    obtain ⟨z9, e9, j9⟩ := m0 9 (by show 9 < 11; omega)
    obtain rfl : c9 = .int .i64 z9 := Option.some.inj e9
    obtain ⟨z10, e10, j10⟩ := m0 10 (by show 10 < 11; omega)
    obtain rfl : c10 = .int .i64 z10 := Option.some.inj e10
    obtain ⟨z11, e11, j11⟩ := cell_int13 k1
    subst e11
    obtain ⟨z12, e12, j12⟩ := m2 0 (by show 0 < 2; omega)
    obtain rfl : c12 = .int .i64 z12 := Option.some.inj e12
    obtain ⟨z13, e13, j13⟩ := m2 1 (by show 1 < 2; omega)
    obtain rfl : c13 = .int .i64 z13 := Option.some.inj e13
    obtain ⟨z14, e14, j14⟩ := cell_int13 k3
    subst e14
    refine ⟨⟨⟨z0, z1, z2, z3, z4, z5, z6, z7, z8, z9, z10⟩, z11, z12, z13, z14⟩, rfl, ?_⟩
    intro x hx
    unfold rgL at hx
    simp only [List.mem_cons, List.not_mem_nil, or_false] at hx
    rcases hx with rfl | rfl | rfl | rfl | rfl | rfl | rfl | rfl | rfl | rfl | rfl | rfl | rfl | rfl | rfl <;> assumption
end
end Go.Proofs.Ytaldpioahnbkgaa
