/-
  Contract for bits.Words: at most 4000 bytes are just these words, or refused if they are no multiple of 4. Conditions: the slice reads as bytes.
-/
import Derived.Test.YtdpijlkhcagfaaaDoorMem
namespace Go.Proofs.YtdpijlkhcagfaaaDoor
set_option linter.unusedVariables false
open Go.ChangeShapes Go.WideShapes Go.ChangeAt Go.RowKit

theorem words_bad (l : List Nat) (A : Option Addr) (c : Nat) (w : World) (hl : l.length ≤ 4000) (h4 : l.length % 4 ≠ 0) :
    Calls Tryd.prog 14 #[.slice A l.length c] w fun e w' => e = .returned (.tuple #[.slice none 0 0, .int .i64 1]) ∧ w = w' := by
  go_enter Tryd.func14, Tryd.ntmps14
  go_wp2
  go_ret2
  exact ⟨rfl, rfl⟩

theorem or_byte32 (a b : Nat) (ha : a < 16777216) (hb : b < 256) : bits .or .u32 ((a : Int) * 256) (b : Int) = ((a * 256 + b : Nat) : Int) := by
  have e : (a : Int) * 256 = ((a * 256 : Nat) : Int) := by omega
  rw [e, u32_or_nat _ _ (by omega) (by omega)]
  have h := Nat.two_pow_add_eq_or_of_lt (i := 8) (b := b) (by omega) a
  simp only [Nat.reducePow] at h
  rw [Nat.mul_comm, ← h, Nat.mul_comm]

theorem words_ok (l : List Nat) (A : Option Addr) (c : Nat) (w : World) (hA : Rd w w.heap.size A (U8 l)) (hb : ∀ x ∈ l, x < 256) (hl : l.length ≤ 4000) (h4 : l.length % 4 = 0) :
    Calls Tryd.prog 14 #[.slice A l.length c] w fun e w' => ∃ g cap, e = .returned (.tuple #[.slice (some ⟨g, 0, none⟩) (l.length / 4) cap, .int .i64 0]) ∧
      w'.ownsRow w.heap.size 22 1 (.slice (some ⟨g, 0, none⟩) (l.length / 4) cap) (l.length / 4) (U32 (wordsOf l)) ∧ Below w.heap.size w w' := by
  obtain ⟨i0, hi, hz0, hz1, hz2⟩ := info_parts infoU32
  obtain ⟨n, hn⟩ : ∃ n, n = l.length := ⟨_, rfl⟩
  rw [← hn] at hl h4 ⊢
  obtain ⟨m, hm⟩ : ∃ m, m = n / 4 := ⟨_, rfl⟩
  have HN := Lib.hid hn
  have HM := Lib.hid hm
  have HB := Lib.hid hb
  have hmn : 4 * m ≤ n := by omega
  have hnm : n ≤ 4 * m := by omega
  rw [← hm]
  clear hn hm hb
  go_enter Tryd.func14, Tryd.ntmps14
  go_wp2_with (at_make; refine wpList_make_full _ rfl _ _ 32 rfl w.heap.size 22 i0 (.int .u32 0) 1 Tryd.underlying32 hi hz0 hz1 _ _ _ _ m rfl rfl (by omega) (by omega) ?b2 ?b3 (Nat.le_refl _) ?_)
  case b2 => rw [hz2]; omega
  case b3 => unfold maxLen; omega
  intro w1 hown hg
  have hown1 : w1.ownsRow w.heap.size 22 1 (.slice (some ⟨w.heap.size, 0, none⟩) m m) m (U32 (wordsUpto l m 0)) := by
    rw [toList_madeCells_one] at hown
    rw [wordsUpto_zero, U32, List.map_replicate]
    exact hown
  have hbel : Below w.heap.size w w1 := (Below.refl _ _).grown hg (Nat.le_refl _) (by simp)
  clear hown hg
  go_wp2
  go_loopw [16] (fun i wr => ∃ k : Nat, k ≤ n ∧ i = .int .i64 k ∧ wr.ownsRow w.heap.size 22 1 (.slice (some ⟨w.heap.size, 0, none⟩) m m) m (U32 (wordsUpto l m k)) ∧ Below w.heap.size w wr) (fun i _ => n - (intOf i).toNat)
  case atStart => exact ⟨0, Nat.zero_le _, rfl, hown1, hbel⟩
  case round =>
    clear hown1 hbel
    obtain ⟨k, hk, rfl, hown, hbel⟩ := hrel
    by_cases hlt : k < n
    · have hkl : k < l.length := by rw [← HN.out]; exact hlt
      obtain ⟨ad, rfl, hab, hc0⟩ := hA k _ (U8_at l k hkl)
      have hc : wr.cell? (ad.add k) = some (.int .u8 (l[k] : Nat)) := (hbel.cell (by rw [add_block]; exact hab)).trans hc0
      have hkm : k / 4 < m := by omega
      have hc2 : wr.cell? ⟨w.heap.size, k / 4, none⟩ = some (.int .u32 (wordAt l k (k / 4) : Nat)) := by
        rw [hown.cellAt (k / 4) (by omega), U32, List.getElem?_map, wordsUpto_get l m k (k / 4) hkm]; rfl
      have hf := hown.frozenAt (k / 4)
      have hx := HB.out _ (List.getElem_mem hkl)
      have hy := wordAt_room l HB.out k
      have hst := (hown.stored (k / 4) (.int .u32 ((wordAt l k (k / 4) * 256 + l[k] : Nat) : Int))).1
      have hset : (U32 (wordsUpto l m k)).set (k / 4) (.int .u32 ((wordAt l k (k / 4) * 256 + l[k] : Nat) : Int)) = U32 (wordsUpto l m (k + 1)) := by
        rw [← wordsUpto_set l m k hkl, U32, U32, List.map_set]
      rw [hset] at hst
      clear hset
      generalize l[k] = x at *
      generalize wordAt l k (k / 4) = y at *
      have HST := Lib.hid hst
      have HOW := Lib.hid hown
      clear hst hown hA hc0 
      go_wp2
      go_region
      go_wp2
      go_roundw
      case rel =>
        refine ⟨k + 1, by omega, by go_num, ?_, ?_⟩
        · rw [or_byte32 y x hy hx]
          exact HST.out
        · exact (hbel.setCell (Nat.le_refl _) _).drew
      case measure => simp [intOf]; omega
    · have e : wordsUpto l m k = wordsOf l := by
        have e1 : k = l.length := by rw [← HN.out]; omega
        rw [e1, HM.out, HN.out]; rfl
      rw [e] at hown
      clear e
      go_wp2
      go_ret2
      exact ⟨_, _, rfl, hown, hbel⟩
end Go.Proofs.YtdpijlkhcagfaaaDoor
