/-
  Contract for the reference's Unpack. Conditions: the slice reads as bytes; at most 1000 of them.
-/
import Derived.Test.YtjlcaobffhihhaaTrackMath
import Derived.Test.YtjlcaobffhihhaaBools
import Derived.Test.YtjlcaobffhihhaaBsRow
namespace Go.Proofs.Ytjlcaobffhihhaa
set_option linter.unusedVariables false
open Go.ChangeShapes Go.WideShapes Go.ChangeAt Go.RowKit

theorem up_half (q : Nat) (h : q < 8) : 128 / 2 ^ q = 2 ^ (7 - q) ∧ 128 / 2 ^ (q + 1) = 2 ^ (7 - q) / 2 ∧ 1 ≤ 2 ^ (7 - q) ∧ 2 ^ (7 - q) ≤ 128 := by
  rcases (show q = 0 ∨ q = 1 ∨ q = 2 ∨ q = 3 ∨ q = 4 ∨ q = 5 ∨ q = 6 ∨ q = 7 by omega) with rfl | rfl | rfl | rfl | rfl | rfl | rfl | rfl <;> decide
theorem up_beq (d : Nat) : ((d : Int) % 2 == 1) = (d % 2 == 1) := by
  cases h : (d % 2 == 1)
  · rw [beq_eq_false_iff_ne] at h ⊢; omega
  · rw [beq_iff_eq] at h ⊢; omega
set_option maxRecDepth 100000 in
set_option maxHeartbeats 1600000 in
theorem refunpack_any (b : List Nat) (n : Nat) (hn : n = b.length) (hn2 : n ≤ 1000) (A : Option Addr) (c : Nat) (w : World) (hA : Bs w w.heap.size b A c) : Calls Try.prog 17 #[.slice A n c] w fun e w' => ∃ A' c', e = .returned (.slice A' ((8 * n : Nat)) c') ∧ Vs w' w'.heap.size (unpackL b) A' c' ∧ Below w.heap.size w w' := by
  obtain ⟨i0, hi, hz0, hz1, hz2⟩ := info_parts infoBoolT
  have HN := Lib.hid hn
  have HA := Lib.hid hA
  have hn3 : n ≤ 9223372036854775807 := by omega
  clear hn hA
  go_enter Try.func17, Try.ntmps17
  go_wp2
  go_loopw [3, 4] (fun v i wr => ∃ k : Nat, k ≤ n ∧ i = .int .i64 k ∧ wr.ownsRow w.heap.size 4 1 v (8 * k) (BL (unpackL (b.take k))) ∧ Below w.heap.size w wr) (fun _ i _ => n - (intOf i).toNat)
  case atStart => exact ⟨0, by omega, rfl, World.ownsRow_lit w #[] 0 (Nat.le_refl _) (by decide) rfl, below_lit w _ _⟩
  case round =>
    obtain ⟨k, hk, rfl, hown, hbel⟩ := hrel
    by_cases hlt : k < n
    · have hkl : k < b.length := by rw [← HN.out]; exact hlt
      obtain ⟨x, hx⟩ : ∃ x, b[k]? = some x := ⟨_, List.getElem?_eq_getElem hkl⟩
      have hx256 : x < 256 := HA.out.lt x (List.mem_of_getElem? hx)
      have hU : (U8 b)[k]? = some (.int .u8 (x : Int)) := by simp [U8, hx]
      obtain ⟨ad, rfl, hadl, hc⟩ := HA.out.rd k _ hU
      have HAD := Lib.hid hadl
      have HC := Lib.hid hc
      have HX := Lib.hid hx
      have HOW := Lib.hid hown
      have HBL := Lib.hid hbel
      have b0 : (0 : Int) ≤ (k : Int) := by omega
      have b1 : (k : Int) < (n : Int) := by omega
      clear hown hbel hx hkl hU hadl hc
      go_wp2
      go_loopw [3, 5, 6] (fun v y j wr => ∃ q : Nat, q ≤ 8 ∧ j = .int .i64 q ∧ y = .int .i64 (128 / 2 ^ q : Nat) ∧ wr.ownsRow w.heap.size 4 1 v (8 * k + q) (BL (unpackL (b.take k) ++ bitsOf x q)) ∧ Below w.heap.size w wr) (fun _ _ j _ => 8 - (intOf j).toNat)
      case atStart => exact ⟨0, by omega, rfl, rfl, by simpa [bitsOf] using HOW.out, HBL.out⟩
      case round =>
        obtain ⟨q, hq, rfl, rfl, hown, hbel⟩ := hrel
        replace HOW := Lib.hid hown
        replace HBL := Lib.hid hbel
        clear hown hbel
        by_cases hq8 : q < 8
        · have hc := (HBL.out.cell (by rw [add_block]; exact HAD.out)).trans HC.out
          have hsz := HBL.out.size
          have hu := up_half q hq8
          rw [hu.1]
          obtain ⟨y, hy⟩ : ∃ y, 2 ^ (7 - q) = y := ⟨_, rfl⟩
          have hbs0 := bitsOf_succ x q
          rw [hy] at hu hbs0 ⊢
          have hy1 := hu.2.2.1
          have hy2 := hu.2.2.2
          obtain ⟨d, hd⟩ : ∃ d, x / y = d := ⟨_, rfl⟩
          rw [hd, ← up_beq] at hbs0
          obtain ⟨t, ht⟩ : ∃ t, ((d : Int) % 2 == 1) = t := ⟨_, rfl⟩
          rw [ht] at hbs0
          have hdle : d ≤ x := by rw [← hd]; exact Nat.div_le_self _ _
          have hne : ¬ (y : Int) = 0 := by omega
          have hcast : ((x : Int) / (y : Int)) = (d : Int) := by rw [← hd]; simp
          have wd : IntKind.i64.wrap (d : Int) = (d : Int) := IntWalk.i64_in _ (by omega)
          have HU := Lib.hid hu.2.1
          have HBS := Lib.hid hbs0
          have b2 : (q : Int) < 8 := by omega
          have hm1 : 8 * k + q + 1 ≤ maxLen := by unfold maxLen; omega
          have hm2 : (8 * k + q + 1) * 1 ≤ 140737488355328 := by omega
          clear hu hbs0 hd hy
          go_wp2_with (at_builtin; refine wpList_append_own _ rfl (.tmp 18) (.tmp 28) 32 rfl w.heap.size 4 i0 (.bool false) 1 1 Try.underlying32 hi hz0 hz1 hz2 rfl (by decide) _ (8 * k + q) (BL (unpackL (b.take k) ++ bitsOf x q)) rfl (HOW.out.alloc _) ⟨_, 0, none⟩ 1 1 [.bool t] rfl rfl (bool_lit _ _) (bool_one _) hm1 hm2 (by simp; omega) ?_)
          intro v8 w8 hown8 hg8 _
          have HO8 := Lib.hid (show w8.ownsRow w.heap.size 4 1 v8 (8 * k + (q + 1)) (BL (unpackL (b.take k) ++ bitsOf x (q + 1))) by
            rw [HBS.out, ← List.append_assoc, BL_append, ← Nat.add_assoc]
            exact hown8)
          have HB8 := Lib.hid ((HBL.out.alloc HBL.out.size _).grown hg8 (by simp; omega) (fun p hp => own_ge HOW.out hp))
          clear hown8 hg8 hc HC HA HX HN HBS HOW HBL hcast ht
          have wy : IntKind.i64.wrap ((y : Int) / 2) = (y : Int) / 2 := IntWalk.i64_in _ (by omega)
          have HY := Lib.hid (show (y : Int) / 2 = ((y / 2 : Nat) : Int) by omega)
          clear hy1 hdle hx256 hlt hn3 hne hm1 hm2 wd b0 b1
          go_wp2
          go_roundw
          case rel => exact ⟨q + 1, by omega, by go_num, by rw [HY.out, HU.out], HO8.out, HB8.out⟩
          case measure => simp [intOf]; omega
        · have e : q = 8 := by omega
          have hb : ¬ ((q : Int) < 8) := by omega
          have HOK := Lib.hid (show wr.ownsRow w.heap.size 4 1 u3 (8 * (k + 1)) (BL (unpackL (b.take (k + 1)))) by
            rw [unpackL_take HX.out, ← show bitsOf x q = bitsOf x 8 by rw [e], show 8 * (k + 1) = 8 * k + q by omega]
            exact HOW.out)
          clear HOW
          go_wp2
          go_roundw
          case rel => exact ⟨k + 1, by omega, by go_num, HOK.out, HBL.out⟩
          case measure => simp [intOf]; omega
    · have e : k = n := by omega
      have hb : ¬ ((k : Int) < (n : Int)) := by omega
      have ht : unpackL (b.take k) = unpackL b := by rw [e, HN.out, List.take_length]
      rw [ht, e] at hown
      clear ht hlt
      obtain ⟨A', c', hv, _, hbs⟩ := vs_of_own hown
      subst hv
      go_wp2
      go_ret
      exact ⟨_, _, rfl, hbs, hbel⟩
end Go.Proofs.Ytjlcaobffhihhaa
