/-
  How a ticket that came in by value is opened. Conditions: none.
-/
import Derived.Test.YtaokhkbfiplfmaaTicketIn
import Derived.Test.YtaokhkbfiplfmaaLaw
import Derived.Deep.Slices
import Derived.Deep.Fields
import Derived.Lib.SmallJoins
namespace Go.Proofs.Ytaokhkbfiplfmaa
set_option linter.unusedVariables false
open Go.ChangeShapes Go.WideShapes Go.ChangeAt Go.RowKit Go.Deep

section
variable {H : Type} {enc : TypeId × Value → H}
theorem int_cell {W : World} {fuel : Nat} {v : Value} {y : DataW H × List MemPlace} (h : DataW.trod enc Try.prog W 0 (fun _ => true) true fuel 3 [v] = some y) : ∃ z : Int, v = .int .i64 z ∧ In64 z := by
  obtain ⟨z, e1, _, wz⟩ := DataW.trod_int Try.underlying3 h
  simp at e1
  exact ⟨z, e1, wf_i64 z wz⟩
/-- A struct all of whose fields are ints, by value, opened. -/
theorem open_ints_agg {W : World} {r : Reach} {b0 : Nat} {t : TypeId} {fs : Array Field} {v : Value} {d : DataW H} {ps : List MemPlace} (hs : Try.prog.underlying t = some (.struct fs)) (hone : oneCellFields Try.prog fs = true)
    (hty : ∀ (i : Nat) (f : Field), fs[i]? = some f → f.type = 3) (hC : Try.prog.cellsOf t = fs.size) (hval : Value.okWide Try.prog W r b0 t v) (hd : DataW.Trod enc Try.prog W 0 (fun _ => true) true t v d ps) :
    ∃ cs, v = .agg cs ∧ cs.size = fs.size ∧ ∀ i, i < cs.size → ∃ z : Int, cs[i]? = some (.int .i64 z) ∧ In64 z := by
  obtain ⟨cs, rfl, hsz⟩ := okWide_struct hs hval
  obtain ⟨fuel, hf⟩ := hd
  obtain ⟨xs, n, _, _, hl, hlen, hg⟩ := DataW.trod_struct hs hf
  refine ⟨cs, rfl, hsz.trans hC, fun i hi => ?_⟩
  have hif : i < fs.size := by rw [← hC, ← hsz]; exact hi
  have hfi : fs[i]? = some fs[i] := Array.getElem?_eq_getElem hif
  obtain ⟨o, k⟩ := hone_of hone i _ hfi
  have ht := hty i _ hfi
  have h1 := hg i _ hfi
  rw [ht] at k
  rw [ht, o, k] at h1
  obtain ⟨y, hy⟩ : ∃ y, xs[i]? = some y := ⟨_, List.getElem?_eq_getElem (by omega)⟩
  rw [hy] at h1
  have e : ((Value.agg cs).cells.toList.drop i).take 1 = [cs[i]] := by
    have hl2 : i < cs.toList.length := by simpa using hi
    show (cs.toList.drop i).take 1 = _
    rw [List.drop_eq_getElem_cons hl2]
    simp
  rw [e] at h1
  obtain ⟨z, hz, zl⟩ := int_cell h1
  exact ⟨z, by rw [Array.getElem?_eq_getElem hi, hz], zl⟩
theorem array11 {α : Type} {cs : Array α} (h : cs.size = 11) : ∃ c0 c1 c2 c3 c4 c5 c6 c7 c8 c9 c10, cs = #[c0, c1, c2, c3, c4, c5, c6, c7, c8, c9, c10] := by
  obtain ⟨l⟩ := cs
  match l, h with
  | [c0, c1, c2, c3, c4, c5, c6, c7, c8, c9, c10], _ => exact ⟨c0, c1, c2, c3, c4, c5, c6, c7, c8, c9, c10, rfl⟩
theorem all_ints {fs : Array Field} (h : fs.all (fun f : Field => f.type == 3) = true) : ∀ (i : Nat) (f : Field), fs[i]? = some f → f.type = 3 := by
  intro i f hi
  have hlt : i < fs.size := (Array.getElem?_eq_some_iff.1 hi).1
  have := Array.all_eq_true.1 h i hlt
  have he : fs[i] = f := (Array.getElem?_eq_some_iff.1 hi).2
  rw [he] at this
  exact of_decide_eq_true (by simpa using this)
theorem open_ticket {W : World} {r : Reach} {b0 : Nat} {v : Value} {d : DataW H} {ps : List MemPlace} (hval : Value.okWide Try.prog W r b0 23 v) (hd : DataW.Trod enc Try.prog W 0 (fun _ => true) true 23 v d ps) :
    ∃ t : Tk, v = .agg #[.int .i64 t.ser, .int .i64 t.kind, .int .i64 t.frm, .int .i64 t.till, .int .i64 t.cls, .int .i64 t.card, .int .i64 t.seat, .int .i64 t.day, .int .i64 t.days, .int .i64 t.uses, .int .i64 t.epoch] ∧ InT t := by
  obtain ⟨cs, rfl, hsz, hz⟩ := open_ints_agg Try.underlying23 (by kernel_rfl) (all_ints (by kernel_rfl)) (by kernel_rfl) hval hd
  obtain ⟨c0, c1, c2, c3, c4, c5, c6, c7, c8, c9, c10, rfl⟩ := array11 hsz
  obtain ⟨z0, e0, j0⟩ := hz 0 (by show 0 < 11; omega)
  obtain rfl : c0 = .int .i64 z0 := Option.some.inj e0
  obtain ⟨z1, e1, j1⟩ := hz 1 (by show 1 < 11; omega)
  obtain rfl : c1 = .int .i64 z1 := Option.some.inj e1
  obtain ⟨z2, e2, j2⟩ := hz 2 (by show 2 < 11; omega)
  obtain rfl : c2 = .int .i64 z2 := Option.some.inj e2
  obtain ⟨z3, e3, j3⟩ := hz 3 (by show 3 < 11; omega)
  obtain rfl : c3 = .int .i64 z3 := Option.some.inj e3
  obtain ⟨z4, e4, j4⟩ := hz 4 (by show 4 < 11; omega)
  obtain rfl : c4 = .int .i64 z4 := Option.some.inj e4
  obtain ⟨z5, e5, j5⟩ := hz 5 (by show 5 < 11; omega)
  obtain rfl : c5 = .int .i64 z5 := Option.some.inj e5
  obtain ⟨z6, e6, j6⟩ := hz 6 (by show 6 < 11; omega)
  obtain rfl : c6 = .int .i64 z6 := Option.some.inj e6
  obtain ⟨z7, e7, j7⟩ := hz 7 (by show 7 < 11; omega)
  obtain rfl : c7 = .int .i64 z7 := Option.some.inj e7
  obtain ⟨z8, e8, j8⟩ := hz 8 (by show 8 < 11; omega)
  obtain rfl : c8 = .int .i64 z8 := Option.some.inj e8
  obtain ⟨z9, e9, j9⟩ := hz 9 (by show 9 < 11; omega)
  obtain rfl : c9 = .int .i64 z9 := Option.some.inj e9
  obtain ⟨z10, e10, j10⟩ := hz 10 (by show 10 < 11; omega)
  obtain rfl : c10 = .int .i64 z10 := Option.some.inj e10
  exact ⟨⟨z0, z1, z2, z3, z4, z5, z6, z7, z8, z9, z10⟩, rfl, j0, j1, j2, j3, j4, j5, j6, j7, j8, j9, j10⟩
end
end Go.Proofs.Ytaokhkbfiplfmaa
