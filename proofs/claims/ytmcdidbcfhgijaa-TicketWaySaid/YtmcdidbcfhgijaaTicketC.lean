/-
  What the laws of layer 9 want of the program's functions: contracts, as one premise. Conditions: none.
-/
import Derived.Test.YtmcdidbcfhgijaaTicketRefCov
import Derived.Test.YtmcdidbcfhgijaaNats
namespace Go.Proofs.Ytmcdidbcfhgijaa
set_option linter.unusedVariables false
open Go.ChangeShapes Go.WideShapes Go.ChangeAt Go.RowKit

def InT (t : Tk) : Prop := In64 t.ser ∧ In64 t.kind ∧ In64 t.frm ∧ In64 t.till ∧ In64 t.cls ∧ In64 t.card ∧ In64 t.seat ∧ In64 t.day ∧ In64 t.days ∧ In64 t.uses ∧ In64 t.epoch
structure TC : Prop where
  is : ∀ (t : Tk) (b : Bool) (w : World), InT t → okT t = b → Calls Try.prog 12 #[.agg #[.int .i64 t.ser, .int .i64 t.kind, .int .i64 t.frm, .int .i64 t.till, .int .i64 t.cls, .int .i64 t.card, .int .i64 t.seat, .int .i64 t.day, .int .i64 t.days, .int .i64 t.uses, .int .i64 t.epoch]] w fun e w' => e = .returned (.bool b) ∧ Below w.heap.size w w'
  last : ∀ (t : Tk) (v E : Int) (w : World), InT t → lastV t = v → errT t = E → Calls Try.prog 7 #[.agg #[.int .i64 t.ser, .int .i64 t.kind, .int .i64 t.frm, .int .i64 t.till, .int .i64 t.cls, .int .i64 t.card, .int .i64 t.seat, .int .i64 t.day, .int .i64 t.days, .int .i64 t.uses, .int .i64 t.epoch]] w fun e w' => e = .returned (.tuple #[.int .i64 v, .int .i64 E]) ∧ Below w.heap.size w w'
  covers : ∀ (t : Tk) (s : Int) (b : Bool) (E : Int) (w : World), InT t → In64 s → covV t s = b → covE t s = E → Calls Try.prog 9 #[.agg #[.int .i64 t.ser, .int .i64 t.kind, .int .i64 t.frm, .int .i64 t.till, .int .i64 t.cls, .int .i64 t.card, .int .i64 t.seat, .int .i64 t.day, .int .i64 t.days, .int .i64 t.uses, .int .i64 t.epoch], .int .i64 s] w fun e w' => e = .returned (.tuple #[.bool b, .int .i64 E]) ∧ Below w.heap.size w w'
  price : ∀ (t : Tk) (v E : Int) (w : World), InT t → priceV t = v → errT t = E → Calls Try.prog 15 #[.agg #[.int .i64 t.ser, .int .i64 t.kind, .int .i64 t.frm, .int .i64 t.till, .int .i64 t.cls, .int .i64 t.card, .int .i64 t.seat, .int .i64 t.day, .int .i64 t.days, .int .i64 t.uses, .int .i64 t.epoch]] w fun e w' => e = .returned (.tuple #[.int .i64 v, .int .i64 E]) ∧ Below w.heap.size w w'
  stations : ∀ (low high E : Int) (l : List Nat) (n : Nat) (w : World), In64 low → In64 high → stV low high = l → n = l.length → stE low high = E → Calls Try.prog 14 #[.int .i64 low, .int .i64 high] w fun e w' => ∃ A c, e = .returned (.tuple #[.slice A n c, .int .i64 E]) ∧ Ns w' w'.heap.size l A c ∧ Below w.heap.size w w'
  single : ∀ (f t cl c v E : Int) (w : World), In64 f → In64 t → In64 cl → In64 c → singleV f t cl c = v → singleE f t cl c = E → Calls Try.prog 16 #[.int .i64 f, .int .i64 t, .int .i64 cl, .int .i64 c] w fun e w' => e = .returned (.tuple #[.int .i64 v, .int .i64 E]) ∧ Below w.heap.size w w'
theorem TBox.setAt {w : World} {b b' j : Nat} {t : Tk} (h : TBox w b t) (v : Value) (hne : b ≠ b') : TBox (w.setCell ⟨b', j, none⟩ v) b t := (heap_setCell_other w _ _ v hne).trans h
theorem TBox.setSer {w : World} {b : Nat} {t : Tk} (h : TBox w b t) (x : Int) : TBox (w.setCell ⟨b, 0, none⟩ (.int .i64 x)) b { t with ser := x } := heap_setCell_same w b 0 _ _ _ h
theorem TBox.setCard {w : World} {b : Nat} {t : Tk} (h : TBox w b t) (x : Int) : TBox (w.setCell ⟨b, 5, none⟩ (.int .i64 x)) b { t with card := x } := heap_setCell_same w b 5 _ _ _ h
theorem TBox.setSeat {w : World} {b : Nat} {t : Tk} (h : TBox w b t) (x : Int) : TBox (w.setCell ⟨b, 6, none⟩ (.int .i64 x)) b { t with seat := x } := heap_setCell_same w b 6 _ _ _ h
theorem TBox.setDay {w : World} {b : Nat} {t : Tk} (h : TBox w b t) (x : Int) : TBox (w.setCell ⟨b, 7, none⟩ (.int .i64 x)) b { t with day := x } := heap_setCell_same w b 7 _ _ _ h
theorem TBox.setUses {w : World} {b : Nat} {t : Tk} (h : TBox w b t) (x : Int) : TBox (w.setCell ⟨b, 9, none⟩ (.int .i64 x)) b { t with uses := x } := heap_setCell_same w b 9 _ _ _ h
theorem TBox.setEpoch {w : World} {b : Nat} {t : Tk} (h : TBox w b t) (x : Int) : TBox (w.setCell ⟨b, 10, none⟩ (.int .i64 x)) b { t with epoch := x } := heap_setCell_same w b 10 _ _ _ h
def t1 : Tk := ⟨7, 2, 20, 30, 2, 0, 0, 100, 7, 2, 0⟩
def t2 : Tk := ⟨7, 3, 1, 2, 1, 2, 0, 100, 10, 0, 0⟩
def t3 : Tk := ⟨7, 2, 20, 30, 2, 0, 0, 100, 7, 1, 0⟩
theorem t1_in : InT t1 := by unfold InT In64; decide
theorem t2_in : InT t2 := by unfold InT In64; decide
theorem t3_in : InT t3 := by unfold InT In64; decide
theorem sold_c : lastV t1 = 106 ∧ errT t1 = 0 ∧ covV t1 25 = true ∧ covE t1 25 = 0 ∧ covV t1 31 = false ∧ covE t1 31 = 0 ∧ priceV t1 = 666 ∧ priceV t2 = 2060 ∧ errT t2 = 0 ∧ covV t2 16 = true ∧ covE t2 16 = 0 ∧ lastV t3 = 0 ∧ errT t3 = 1 ∧ okT t2 = true ∧ okT t3 = false :=
  ⟨by kernel_rfl, by kernel_rfl, by kernel_rfl, by kernel_rfl, by kernel_rfl, by kernel_rfl, by kernel_rfl, by kernel_rfl, by kernel_rfl, by kernel_rfl, by kernel_rfl, by kernel_rfl, by kernel_rfl, by kernel_rfl, by kernel_rfl⟩
end Go.Proofs.Ytmcdidbcfhgijaa
