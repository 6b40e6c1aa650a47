/-
  Contract for slices.Clone of bytes: the same bytes, in memory of the call's own, or nil. Conditions: at most 2^40 of them.
-/
import Derived.Test.YtkjghmonpdbjeaaBsRow
import Derived.Laws.Cover3
namespace Go.Proofs.Ytkjghmonpdbjeaa
set_option linter.unusedVariables false
open Go.ChangeShapes Go.WideShapes Go.ChangeAt Go.RowKit

theorem eql_nil_bytes (A : Option Addr) (n c : Nat) (w : World) : (binOp .eql 24 (.slice A n c) (.slice none 0 0)).run Try.prog w = .ok (.bool A.isNone) w := by
  simp [binOp, run_equal_slice_nil w 24 5 A n c Try.underlying24]
set_option maxRecDepth 20000 in
theorem clone_any (s : List Nat) (n : Nat) (hn : n = s.length) (A : Option Addr) (c : Nat) (w : World) (h : Bs w w.heap.size s A c) (h1 : n ≤ 1099511627776) :
    Calls Try.prog 23 #[.slice A n c] w fun e w' => ∃ A' c', e = .returned (.slice A' n c') ∧ Bs w' w'.heap.size s A' c' ∧ Below w.heap.size w w' := by
  obtain ⟨i0, hi, hz0, hz1, hz2⟩ := info_parts infoU8
  rcases A with _ | ad
  · have hc : c = 0 := h.nil rfl
    have hl := h.len
    have h0 : n = 0 := by omega
    subst hc h0
    have hs : s = [] := List.eq_nil_of_length_eq_zero (by omega)
    have HH := Lib.hid h
    have hnil := eql_nil_bytes none 0 0
    clear h hl hn
    go_enter Try.func23, Try.ntmps23
    go_wp2
    go_ret
    exact ⟨none, 0, rfl, HH.out, Below.refl _ _⟩
  · have hbase : w.heap.size ≤ (w.alloc (.cells #[] 5)).heap.size := by simp
    have hown0 : (w.alloc (.cells #[] 5)).ownsRow w.heap.size 5 1 (.slice (some ⟨w.heap.size, 0, none⟩) 0 0) 0 [] := World.ownsRow_lit w #[] 0 (Nat.le_refl _) (by decide) rfl
    have HE := Lib.hid hown0
    have HAE := Lib.hid (h.rd.next (below_lit w #[] 5))
    have HUL := Lib.hid (show (U8 s).length = n by simp [U8, hn])
    have HLT := Lib.hid h.lt
    have hn0 : 0 + n ≤ maxLen := by unfold maxLen; omega
    have hn1 : (0 + n) * 1 ≤ 140737488355328 := by omega
    have hnil := eql_nil_bytes (some ad) n c
    clear h hn hown0
    go_enter Try.func23, Try.ntmps23
    go_wp2_with (at_builtin; refine wpList_append_rd _ rfl (.tmp 5) (.tmp 6) 24 rfl w.heap.size 5 i0 (.int .u8 0) 1 Try.underlying24 hi hz0 hz1 hz2 rfl (.slice (some ⟨w.heap.size, 0, none⟩) 0 0) 0 [] rfl HE.out (w.alloc (.cells #[] 5)).heap.size (some ad) n c (U8 s) rfl HAE.out HUL.out (fun h => by cases h) (U8_one s) hn0 hn1 hbase ?_)
    intro v1 w1 hown1 hg1
    have hb1 : Below w.heap.size w w1 := (below_lit w #[] 5).grown hg1 hbase (fun j hj => own_ge HE.out hj)
    have hown1' : w1.ownsRow w.heap.size 5 1 v1 n (U8 s) := by simpa using hown1
    obtain ⟨A', c', e, hbs⟩ := bs_of_own hown1' HLT.out
    subst e
    have HBS := Lib.hid hbs
    have HB1 := Lib.hid hb1
    clear hown1 hown1' hg1 hbs hb1
    go_wp2
    go_ret
    exact ⟨A', c', rfl, HBS.out, HB1.out⟩
end Go.Proofs.Ytkjghmonpdbjeaa
