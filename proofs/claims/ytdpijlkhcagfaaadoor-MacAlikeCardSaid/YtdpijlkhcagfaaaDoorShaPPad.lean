/-
  Contracts for padding and Pad of package sha: bytes are padded just so. Conditions: the slice reads as bytes, at most 2^47 - 4096 of them.
-/
import Derived.Test.YtdpijlkhcagfaaaDoorConcat
import Derived.Test.YtdpijlkhcagfaaaDoorPut
namespace Go.Proofs.YtdpijlkhcagfaaaDoor
set_option linter.unusedVariables false
open Go.ChangeShapes Go.WideShapes Go.ChangeAt Go.RowKit

/-- What stands behind n bytes. -/
def padB (n : Nat) : List Nat := 128 :: (List.replicate (zerosN n) 0 ++ putB (8 * n) 8)
theorem padN_padB (l : List Nat) : padN l = l ++ padB l.length := rfl
theorem length_padB (n : Nat) : (padB n).length = 9 + zerosN n := by simp [padB, length_putB]; omega

theorem parts_lit {w : World} {ps : List Part} {cs : Array Value} {t : TypeId} (h : cs = (ps.map Part.val).toArray) : ∀ i p, ps[i]? = some p → (w.alloc (.cells cs t)).cell? ⟨w.heap.size, i, none⟩ = some p.val := by
  intro i p hp
  rw [h, cell_of_row _ _ i _ t (0, 0) (heap_alloc_new w _), List.getElem?_toArray, List.getElem?_map, hp]; rfl
theorem Part.ok_alloc {w : World} {p : Part} (h : p.ok w) (o : Obj) : p.ok (w.alloc o) := ⟨(h.1.alloc (Nat.le_refl _) o).more (by simp), h.2⟩

set_option maxRecDepth 20000 in
theorem padding_any (n : Nat) (w : World) (hn : n ≤ 140737488351232) :
    Calls Tryd.prog 30 #[.int .i64 n] w fun e w' => ∃ v, e = .returned v ∧ w'.ownsRow w.heap.size 5 1 v (padB n).length (U8 (padB n)) ∧ Below w.heap.size w w' := by
  obtain ⟨i0, hi, hz0, hz1, hz2⟩ := info_parts infoU8
  go_enter Tryd.func30, Tryd.ntmps30
  go_wp2_with fail
  rw [show (8 : Int) * (n : Int) = ((8 * n : Nat) : Int) by omega]
  refine (put_ok (8 * n) 8 _ (by omega) (by omega) (by omega)).mono ?_
  rintro e w1 ⟨g1, c1, rfl, hown1, hb1⟩
  have HOWN1 := Lib.hid hown1
  have hs1 := hb1.size
  have hz : zerosN n ≤ 63 := by unfold zerosN; omega
  clear hown1
  go_wp2_with (at_make; refine wpList_make_full _ rfl (.tmp 21) (.tmp 21) 28 rfl w.heap.size 5 i0 (.int .u8 0) 1 Tryd.underlying28 hi hz0 hz1 _ _ _ _ (zerosN n) rfl rfl ?b0 ?b1 ?b2 ?b3 ?b4 ?_)
  case b0 => unfold zerosN; omega
  case b1 => unfold zerosN; omega
  case b2 => rw [hz2]; omega
  case b3 => unfold maxLen; omega
  case b4 => simp; omega
  intro w2 hown2 hg2
  rw [toList_madeCells_one] at hown2
  have hb12 : Below w1.heap.size w1 w2 := ((Below.refl _ _).alloc (Nat.le_refl _) _).grown hg2 (by simp) (by simp)
  have h128 : Rd w2 w2.heap.size (some ⟨w1.heap.size, 0, none⟩) (U8 [128]) := by
    have h1 := rd_lit w1 #[.int .u8 128] 5
    have h2 : Below (w1.alloc (.cells #[.int .u8 128] 5)).heap.size (w1.alloc (.cells #[.int .u8 128] 5)) w2 := (Below.refl _ _).grown hg2 (Nat.le_refl _) (by simp)
    exact h1.next h2
  have hsz2 : w1.heap.size + 1 ≤ w2.heap.size := by have := hg2.size; simpa using this
  have hrd2 := Rd.of_own hown2
  have hrd1 := (Rd.of_own HOWN1.out).next hb12
  have H128 := Lib.hid h128
  have HR1 := Lib.hid hrd1
  have HR2 := Lib.hid hrd2
  have hb2 : Below w.heap.size w w2 := hb1.trans (hb12.mono hs1)
  clear h128 hrd1 hrd2 hown2 hg2 hb12 hb1
  go_wp2_with fail
  have hfl : flat [⟨some ⟨w1.heap.size, 0, none⟩, [128], 1⟩, ⟨some ⟨w1.heap.size + 1, 0, none⟩, List.replicate (zerosN n) 0, zerosN n⟩, ⟨some ⟨g1, 0, none⟩, putB (8 * n) 8, c1⟩] = padB n := by simp [flat, padB]
  refine (concat_any [⟨some ⟨w1.heap.size, 0, none⟩, [128], 1⟩, ⟨some ⟨w1.heap.size + 1, 0, none⟩, List.replicate (zerosN n) 0, zerosN n⟩, ⟨some ⟨g1, 0, none⟩, putB (8 * n) 8, c1⟩] w2.heap.size 3 3 _ rfl (by simp) (parts_lit (by simp [Part.val, length_putB])) ?_ (by omega) (by rw [hfl, length_padB]; omega) (by rw [hfl, length_padB]; omega)).mono ?_
  · intro p hp
    refine Part.ok_alloc ?_ _
    simp only [List.mem_cons, List.not_mem_nil, or_false] at hp
    rcases hp with rfl | rfl | rfl
    · exact ⟨H128.out, fun h => by cases h⟩
    · refine ⟨?_, fun h => by cases h⟩
      have := HR2.out
      simp only [U8, List.map_replicate]
      simpa using this
    · exact ⟨HR1.out, fun h => by cases h⟩
  · rw [hfl]
    clear hfl
    rintro e w3 ⟨v3, rfl, hown3, hb3⟩
    have hbb : Below w.heap.size w w3 := (hb2.alloc hb2.size _).trans (hb3.mono (by have := hb2.size; simp; omega))
    have hown4 : w3.ownsRow w.heap.size 5 1 v3 (padB n).length (U8 (padB n)) := ⟨hown3.1, hown3.2.imp id fun ⟨g, cap, cur, h1, h2, h3⟩ => ⟨g, cap, cur, h1, by have := hb2.size; simp at h2; omega, h3⟩⟩
    have HO := Lib.hid hown4
    clear hown3 hown4
    go_wp2
    go_ret
    exact ⟨_, rfl, HO.out, hbb⟩

set_option maxRecDepth 20000 in
theorem pad_ok (l : List Nat) (A : Option Addr) (c : Nat) (w : World) (hA : Rd w w.heap.size A (U8 l)) (hnil : A = none → c = 0) (hl : l.length ≤ 140737488351232) :
    Calls Tryd.prog 11 #[.slice A l.length c] w fun e w' => ∃ v, e = .returned v ∧ w'.ownsRow w.heap.size 5 1 v (padN l).length (U8 (padN l)) ∧ Below w.heap.size w w' := by
  obtain ⟨n, hn⟩ : ∃ n, n = l.length := ⟨_, rfl⟩
  have HN := Lib.hid hn
  have HNIL := Lib.hid hnil
  rw [← hn] at hl ⊢
  clear hn hnil
  go_enter Tryd.func11, Tryd.ntmps11
  go_wp2_with fail
  refine (padding_any n w hl).mono ?_
  rintro e w1 ⟨v1, rfl, hown1, hb1⟩
  obtain ⟨A1, c1, rfl, hr1⟩ := own_shape hown1
  have hnil1 : A1 = none → c1 = 0 := by
    rintro rfl
    rcases hown1.2 with ⟨h, _⟩ | ⟨g, cap, cur, h, _⟩
    · simp at h; exact h.2
    · simp at h
  have HR1 := Lib.hid hr1
  have HNIL1 := Lib.hid hnil1
  clear hown1 hr1 hnil1
  have hA1 := hA.next hb1
  go_wp2_with fail
  have hfl : flat [⟨A, l, c⟩, ⟨A1, padB n, c1⟩] = padN l := by rw [padN_padB, ← HN.out]; simp [flat]
  refine (concat_any [⟨A, l, c⟩, ⟨A1, padB n, c1⟩] w1.heap.size 2 2 _ rfl (by simp) (parts_lit (by simp [Part.val]; exact HN.out)) ?_ (by omega) (by rw [hfl, length_padN]; omega) (by rw [hfl, length_padN, ← HN.out]; unfold zerosN; omega)).mono ?_
  · intro p hp
    refine Part.ok_alloc ?_ _
    simp only [List.mem_cons, List.not_mem_nil, or_false] at hp
    rcases hp with rfl | rfl
    · exact ⟨hA1, HNIL.out⟩
    · exact ⟨HR1.out, HNIL1.out⟩
  · rw [hfl]
    clear hfl
    rintro e w3 ⟨v3, rfl, hown3, hb3⟩
    have hbb : Below w.heap.size w w3 := (hb1.alloc hb1.size _).trans (hb3.mono (by have := hb1.size; simp; omega))
    have hown4 : w3.ownsRow w.heap.size 5 1 v3 (padN l).length (U8 (padN l)) := ⟨hown3.1, hown3.2.imp id fun ⟨g, cap, cur, h1, h2, h3⟩ => ⟨g, cap, cur, h1, by have := hb1.size; simp at h2; omega, h3⟩⟩
    have HO := Lib.hid hown4
    clear hown3 hown4
    go_wp2
    go_ret
    exact ⟨_, rfl, HO.out, hbb⟩
end Go.Proofs.YtdpijlkhcagfaaaDoor
