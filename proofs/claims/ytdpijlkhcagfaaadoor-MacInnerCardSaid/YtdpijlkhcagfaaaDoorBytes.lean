/-
  Contract for bits.Bytes (at most 1000 words): just these bytes. Conditions: the slice reads as words.
-/
import Derived.Test.YtdpijlkhcagfaaaDoorMem
namespace Go.Proofs.YtdpijlkhcagfaaaDoor
set_option linter.unusedVariables false
open Go.ChangeShapes Go.WideShapes Go.ChangeAt Go.RowKit

theorem cast_byte (x e : Nat) : (x : Int) / 2 ^ e % 256 = ((x / 2 ^ e % 256 : Nat) : Int) := by simp

theorem bytes_ok (l : List Nat) (A : Option Addr) (c : Nat) (w : World) (hA : Rd w w.heap.size A (U32 l)) (hb : ∀ x ∈ l, x < 4294967296) (hl : l.length ≤ 1000) :
    Calls Tryd.prog 16 #[.slice A l.length c] w fun e w' => ∃ g cap, e = .returned (.slice (some ⟨g, 0, none⟩) (4 * l.length) cap) ∧
      w'.ownsRow w.heap.size 5 1 (.slice (some ⟨g, 0, none⟩) (4 * l.length) cap) (4 * l.length) (U8 (bytesOf l)) ∧ Below w.heap.size w w' := by
  obtain ⟨i0, hi, hz0, hz1, hz2⟩ := info_parts infoU8
  obtain ⟨n, hn⟩ : ∃ n, n = l.length := ⟨_, rfl⟩
  rw [← hn] at hl ⊢
  obtain ⟨m, hm⟩ : ∃ m, m = 4 * n := ⟨_, rfl⟩
  have HN := Lib.hid hn
  have HM := Lib.hid hm
  have HB := Lib.hid hb
  have hmn : 4 * n ≤ m := by omega
  have hnm : m ≤ 4 * n := by omega
  rw [← hm]
  clear hn hm hb
  go_enter Tryd.func16, Tryd.ntmps16
  go_wp2_with (at_make; refine wpList_make_full _ rfl _ _ 28 rfl w.heap.size 5 i0 (.int .u8 0) 1 Tryd.underlying28 hi hz0 hz1 _ _ _ _ m rfl rfl (by omega) (by omega) ?b2 ?b3 (Nat.le_refl _) ?_)
  case b2 => rw [hz2]; omega
  case b3 => unfold maxLen; omega
  intro w1 hown hg
  have hown1 : w1.ownsRow w.heap.size 5 1 (.slice (some ⟨w.heap.size, 0, none⟩) m m) m (U8 (bytesUpto l m 0)) := by
    rw [toList_madeCells_one] at hown
    rw [bytesUpto_zero, U8, List.map_replicate]
    exact hown
  have hbel : Below w.heap.size w w1 := (Below.refl _ _).grown hg (Nat.le_refl _) (by simp)
  clear hown hg
  go_wp2
  go_loopw [12] (fun i wr => ∃ k : Nat, k ≤ m ∧ i = .int .i64 k ∧ wr.ownsRow w.heap.size 5 1 (.slice (some ⟨w.heap.size, 0, none⟩) m m) m (U8 (bytesUpto l m k)) ∧ Below w.heap.size w wr) (fun i _ => m - (intOf i).toNat)
  case atStart => exact ⟨0, Nat.zero_le _, rfl, hown1, hbel⟩
  case round =>
    clear hown1 hbel
    obtain ⟨k, hk, rfl, hown, hbel⟩ := hrel
    by_cases hlt : k < m
    · have hkl : k / 4 < l.length := by rw [← HN.out]; omega
      obtain ⟨ad, rfl, hab, hc0⟩ := hA (k / 4) _ (U32_at l (k / 4) hkl)
      have hc : wr.cell? (ad.add (k / 4)) = some (.int .u32 (l[k / 4] : Nat)) := (hbel.cell (by rw [add_block]; exact hab)).trans hc0
      have hkn : k / 4 < n := by omega
      have hc2 : ∃ v, wr.cell? ⟨w.heap.size, k, none⟩ = some v := by
        rw [hown.cellAt k (by omega), U8, List.getElem?_map]
        rw [List.getElem?_eq_getElem (by simp [bytesUpto]; omega)]
        exact ⟨_, rfl⟩
      obtain ⟨v2, hc2⟩ := hc2
      have hf := hown.frozenAt k
      have hx := HB.out _ (List.getElem_mem hkl)
      have hst := (hown.stored k (.int .u8 ((byteAt l k : Nat) : Int))).1
      have hset : (U8 (bytesUpto l m k)).set k (.int .u8 ((byteAt l k : Nat) : Int)) = U8 (bytesUpto l m (k + 1)) := by
        rw [← bytesUpto_set l m k, U8, U8, List.map_set]
      rw [hset] at hst
      have hba : byteAt l k = l[k / 4] / 2 ^ (8 * (3 - k % 4)) % 256 := by
        unfold byteAt
        rw [List.getD_eq_getElem?_getD, List.getElem?_eq_getElem hkl]; rfl
      rw [hba] at hst
      clear hset hba
      generalize l[k / 4] = x at *
      have HST := Lib.hid hst
      have HOW := Lib.hid hown
      clear hst hown hA hc0 
      go_wp2
      go_roundw
      case rel =>
        refine ⟨k + 1, by omega, by go_num, ?_, hbel.setCell (Nat.le_refl _) _⟩
        rw [cast_byte]
        exact HST.out
      case measure => simp [intOf]; omega
    · have e : bytesUpto l m k = bytesOf l := by
        have e1 : k = m := by omega
        rw [e1, HM.out, HN.out, bytesUpto_all]
      rw [e] at hown
      clear e
      go_wp2
      go_ret
      exact ⟨_, _, rfl, hown, hbel⟩
end Go.Proofs.YtdpijlkhcagfaaaDoor
