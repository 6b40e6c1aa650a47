/-
  Contract for the landed Put. Conditions: the slice reads as fields.
  Contracts for the landed ofBytes, asSigns, asBytes: a group's number, its signs, its bytes; and a byte of the constant of the signs. Conditions: three of them at most.
  Contracts for the landed groups: the function that tells bytes by so many at a time, whatever the loop's body does that keeps the two boxes. Conditions: three at a time at most; 2^47 bytes at most.
  A region that draws its order, in a round of a range over a function: what is shown of it outside a round holds in the round, where it defers nothing; and append as one step of it. No program of its own; no conditions.
-/
import Derived.Test.YtaokhkbfiplfmaaDoorTlvNum
import Derived.Test.YtaokhkbfiplfmaaDoorMath
import Derived.Test.YtaokhkbfiplfmaaDoorFitsP
import Derived.RangeFuncNested
import Derived.RangeFuncBound
import Derived.RangeFuncLeaves
import Derived.RangeFuncBox
import Derived.Shelf.Abstract
import Derived.WalkKit
import Derived.OwnWalkIn
import Derived.TacticsInMore
import Derived.LoopNIn
import Derived.LoopIn
import Derived.Maps.OwnIn
import Derived.Maps.AppendAt
import Derived.Maps.Views
import Derived.RegionIn
import Derived.Test.YtaokhkbfiplfmaaDoorMem
section
namespace Go.Proofs.YtaokhkbfiplfmaaDoor
set_option linter.unusedVariables false
open Go.ChangeShapes Go.WideShapes Go.ChangeAt Go.RowKit

theorem tu8_app (a b : List Nat) : U8 (a ++ b) = U8 a ++ U8 b := by simp [U8]
theorem tu8_len (a : List Nat) : (U8 a).length = a.length := by simp [U8]
theorem town_lt {w : World} {base : Nat} {e : TypeId} {size : Nat} {v : Value} {n : Nat} {xs : List Value} (h : w.ownsRow base e size v n xs) {g : Nat} (hg : v.ownBlock = some g) : g < w.heap.size := by
  rcases h.2 with ⟨rfl, _⟩ | ⟨g', cap, cur, rfl, _, hh, _⟩
  · simp [Value.ownBlock] at hg
  · simp [Value.ownBlock] at hg
    subst hg
    exact (Array.getElem?_eq_some_iff.1 hh).1
/-- Two bytes, just laid. -/
theorem rd_two (w : World) (t m : Nat) : Rd (w.alloc (.cells #[.int .u8 (t : Int), .int .u8 (m : Int)] 5)) (w.alloc (.cells #[.int .u8 (t : Int), .int .u8 (m : Int)] 5)).heap.size (some ⟨w.heap.size, 0, none⟩) (U8 [t, m]) := rd_lit w _ _
set_option maxRecDepth 100000 in
set_option maxHeartbeats 1600000 in
theorem pput_tlv (l : List Tf) (n : Nat) (hn : n = l.length) (E : Nat) (p : List Nat) (hp : outT l = (E, p)) (A : Option Addr) (c : Nat) (w : World) (hA : Ts w w.heap.size l A c) :
    Calls Tryd.prog 13 #[.slice A n c] w fun e w' => ∃ A' c', e = .returned (.tuple #[.slice A' (p.length : Nat) c', .int .i64 (E : Int)]) ∧ Bs w' w'.heap.size p A' c' ∧ Below w.heap.size w w' := by
  obtain ⟨i0, hi, hz0, hz1, hz2⟩ := info_parts infoU8
  have h1 : n ≤ 9223372036854775807 := by have h1 := hA.len; have h2 := hA.cap; omega
  have HN := Lib.hid hn
  have HP := Lib.hid hp
  have HA := Lib.hid hA
  clear hn hp hA
  cases hb : isT 0 l with
  | false =>
    have hp := HP.out
    rw [outT_bad hb] at hp
    cases hp
    have HB := Lib.hid hb
    clear hb
    go_enter Tryd.func13, Tryd.ntmps13
    go_wp2_with fail
    refine (pis_tlv l n HN.out false HB.out A c w HA.out).mono ?_
    rintro e w1 ⟨rfl, hb1⟩
    have HB1 := Lib.hid hb1
    clear hb1
    go_wp2
    go_ret2
    exact ⟨none, 0, rfl, Bs.empty _ _, HB1.out⟩
  | true =>
    have hp := HP.out
    rw [outT_ok hb] at hp
    obtain ⟨rfl, hp2⟩ := Prod.mk.inj hp
    obtain ⟨hl, hall⟩ := isT_short hb (by omega) (by omega)
    have hn255 : n ≤ 255 := by rw [HN.out]; omega
    have HALL := Lib.hid hall
    have HB := Lib.hid hb
    have HPP := Lib.hid hp2
    clear hb hp hp2 hl hall
    go_enter Tryd.func13, Tryd.ntmps13
    go_wp2_with fail
    refine (pis_tlv l n HN.out true HB.out A c w HA.out).mono ?_
    rintro e w1 ⟨rfl, hb1⟩
    have HB1 := Lib.hid hb1
    clear hb1
    go_wp2
    go_loopw [4, 13] (fun v i wr => ∃ (k : Nat) (q : List Nat), k ≤ n ∧ i = .int .i64 k ∧ q = putT (l.take k) ∧ q.length ≤ 257 * k ∧ wr.ownsRow w1.heap.size 5 1 v q.length (U8 q) ∧ Below w1.heap.size w1 wr) (fun _ i _ => n - (intOf i).toNat)
    case atStart => exact ⟨0, [], Nat.zero_le _, rfl, rfl, by simp, World.ownsRow_lit w1 #[] 0 (Nat.le_refl _) (by decide) rfl, (Below.refl _ _).alloc (Nat.le_refl _) _⟩
    case round =>
      obtain ⟨k, q, hk, rfl, hq, hql, hown, hbel⟩ := hrel
      have HQ := Lib.hid hq
      have HOW := Lib.hid hown
      have HBL := Lib.hid (HB1.out.trans (hbel.mono HB1.out.size))
      have HBW := Lib.hid hbel
      have hsz := hbel.size
      clear hq hown hbel
      by_cases hlt : k < n
      · obtain ⟨ad, S, cc, rfl, had, hk4⟩ := (HA.out.below HBL.out).rd k (by rw [← HN.out]; exact hlt)
        have HKL := Lib.hid (show k < l.length by rw [← HN.out]; exact hlt)
        have hmem : l.getD k TF0 ∈ l := by
          rw [List.getD_eq_getElem?_getD, List.getElem?_eq_getElem HKL.out]
          exact List.getElem_mem _
        obtain ⟨h3, h4, h5⟩ := HALL.out _ hmem
        have hsn := putT_snoc l k HKL.out
        obtain ⟨x, hx⟩ : ∃ x, x = l.getD k TF0 := ⟨_, rfl⟩
        rw [← hx] at hk4 h3 h4 h5 hsn
        obtain ⟨t, ht⟩ : ∃ t : Nat, t = x.tag.toNat := ⟨_, rfl⟩
        obtain ⟨s, hs⟩ : ∃ s : List Nat, s = x.val := ⟨_, rfl⟩
        obtain ⟨m, hm⟩ : ∃ m : Nat, m = s.length := ⟨_, rfl⟩
        have hc0 : wr.cell? (ad.add (k * 2)) = some (.int .i64 (t : Int)) := by rw [hk4.c0]; congr 2; omega
        have hc1 : wr.cell? ⟨(ad.add (k * 2)).block, (ad.add (k * 2)).off + 1, none⟩ = some (.slice S m cc) := by rw [hk4.c1, hm, hs]
        have HS := Lib.hid (show Bs wr w.heap.size s S cc by rw [hs]; exact hk4.bs)
        rw [← HQ.out, ← ht, ← hs, ← hm] at hsn
        have ht2 : t < 256 := by omega
        have hm2 : m < 256 := by rw [hm, hs]; omega
        have HSN := Lib.hid hsn
        have HM := Lib.hid hm
        obtain ⟨j, hj⟩ : ∃ j, j = q.length := ⟨_, rfl⟩
        rw [← hj] at HOW hql
        have HJ := Lib.hid hj
        have b1 : (0 : Int) ≤ (k : Int) := by omega
        have b2 : (k : Int) < (n : Int) := by omega
        have w1' : IntKind.u8.wrap (t : Int) = (t : Int) := u8_byte t ht2
        have w2' : IntKind.u8.wrap (m : Int) = (m : Int) := u8_byte m hm2
        clear hx hk4 h3 h4 h5 hsn ht hs hm hj hmem
        obtain ⟨wb, hwb⟩ : ∃ wb, wb = wr.alloc (.cells #[.int .i64 (t : Int), .slice S m cc] 66) := ⟨_, rfl⟩
        obtain ⟨wl, hwl⟩ : ∃ wl, wl = wb.alloc (.cells #[.int .u8 (t : Int), .int .u8 (m : Int)] 5) := ⟨_, rfl⟩
        have hbb : Below wr.heap.size wr wb := by rw [hwb]; exact below_lit wr _ _
        have hbl : Below wb.heap.size wb wl := by rw [hwl]; exact below_lit wb _ _
        have hbx : Below wr.heap.size wr wl := hbb.trans (hbl.mono hbb.size)
        have HO1 := Lib.hid (own_below HOW.out hbx)
        have hwbs : wb.heap.size = wr.heap.size + 1 := by rw [hwb]; simp
        have HR1 := Lib.hid (show Rd wl wl.heap.size (some ⟨wr.heap.size + 1, 0, none⟩) (U8 [t, m]) by rw [← hwbs, hwl]; exact rd_two wb t m)
        have hsz1 : w1.heap.size ≤ wl.heap.size := Nat.le_trans hsz hbx.size
        have hx1 : j + 2 ≤ maxLen := by unfold maxLen; omega
        have HBX := Lib.hid (show wl.heap[wr.heap.size]? = some (.cells #[.int .i64 (t : Int), .slice S m cc] 66 (0, 0)) from (hbl.block _ (by rw [hwb]; simp)).trans (by rw [hwb]; exact heap_alloc_new wr _))
        have HBWL := Lib.hid (HBW.out.trans (hbx.mono hsz))
        have hbsz : wr.heap.size < wl.heap.size := (Array.getElem?_eq_some_iff.1 HBX.out).1
        clear hbb hbl hbx hwbs
        rw [hwb] at hwl
        rw [hwl] at HO1 HR1 hsz1 HBX HBWL hbsz
        clear hwb hwl wb wl
        go_wp2_with (at_builtin; refine wpList_append_rd _ rfl (.tmp 17) (.tmp 25) 24 rfl w1.heap.size 5 i0 (.int .u8 0) 1 Tryd.underlying24 hi hz0 hz1 hz2 rfl _ j (U8 q) rfl HO1.out _ (some ⟨wr.heap.size + 1, 0, none⟩) 2 2 (U8 [t, m]) rfl HR1.out rfl (fun h => by cases h) (U8_one _) hx1 (by omega) hsz1 ?_)
        intro v2 x2 hown2 hg2
        have hne : some wr.heap.size ≠ u4.ownBlock := fun h => Nat.lt_irrefl _ (town_lt HOW.out h.symm)
        have hblk := (hg2.block wr.heap.size hbsz hne).trans HBX.out
        have hb1 : x2.cell? ⟨wr.heap.size, 1, none⟩ = some (.slice S m cc) := by rw [cell_of_row x2 _ 1 _ _ (0, 0) hblk]; rfl
        have HB2 := Lib.hid (show Below w1.heap.size w1 x2 from HBWL.out.grown hg2 hsz1 (fun g hg => own_ge HO1.out hg))
        have HW2 := Lib.hid (show Below w1.heap.size wr x2 from (((below_lit wr _ _).trans ((below_lit _ _ _).mono (below_lit wr _ _).size)).mono hsz).grown hg2 hsz1 (fun g hg => own_ge HO1.out hg))
        have HS2 := Lib.hid (HS.out.rd.below (HW2.out.mono HB1.out.size))
        rw [← tu8_app] at hown2
        have HO2 := Lib.hid hown2
        have hsz2 := HB2.out.size
        have hx2 : j + 2 + m ≤ maxLen := by unfold maxLen; omega
        have HML := Lib.hid (show (U8 s).length = m by rw [tu8_len, HM.out])
        clear hown2 hg2 hne hblk hx1 hbsz hsz1 HO1 HR1 HBX HBWL
        go_wp2_with (at_builtin; refine wpList_append_rd _ rfl (.tmp 27) (.tmp 29) 24 rfl w1.heap.size 5 i0 (.int .u8 0) 1 Tryd.underlying24 hi hz0 hz1 hz2 rfl _ (j + 2) (U8 (q ++ [t, m])) rfl HO2.out _ S m cc (U8 s) rfl HS2.out HML.out HS.out.nil (U8_one _) hx2 (by omega) hsz2 ?_)
        intro v3 x3 hown3 hg3
        have HB3 := Lib.hid (show Below w1.heap.size w1 x3 from HB2.out.grown hg3 hsz2 (fun g hg => own_ge HO2.out hg))
        rw [← tu8_app] at hown3
        obtain ⟨q', hq'⟩ : ∃ q', q' = q ++ [t, m] ++ s := ⟨_, rfl⟩
        have hql' : q'.length = j + 2 + m := by rw [hq', List.length_append, List.length_append, ← HJ.out, ← HM.out]; rfl
        rw [← hq', ← hql'] at hown3
        have HO3 := Lib.hid hown3
        have HQ' := Lib.hid (hq'.trans HSN.out.symm)
        have hqb : q'.length ≤ 257 * (k + 1) := by omega
        have HQB := Lib.hid hqb
        clear hown3 hg3 hq' hql' hqb hx2 hsz2 hb1 hc0 hc1
        go_wp2
        go_roundw
        case rel => exact ⟨k + 1, q', by omega, by go_num, HQ'.out, HQB.out, HO3.out, HB3.out⟩
        case measure => simp [intOf]; omega
      · have e : k = n := by omega
        have e2 : l.take k = l := List.take_of_length_le (by rw [← HN.out]; omega)
        have hqp : q = p := by rw [HQ.out, e2, HPP.out]
        have hown := HOW.out
        rw [hqp] at hown
        obtain ⟨AQ, cQ, e3, hbs⟩ := bs_of_own hown (by rw [← HPP.out]; exact putT_lt l HALL.out HA.out.vals)
        have HBS := Lib.hid hbs
        clear e2 hqp hown hbs
        subst e3
        go_wp2
        go_ret2
        exact ⟨_, _, rfl, HBS.out, HBL.out⟩
end Go.Proofs.YtaokhkbfiplfmaaDoor
end
section
namespace Go.Proofs.YtaokhkbfiplfmaaDoor
set_option linter.unusedVariables false
open Go.ChangeShapes Go.WideShapes Go.ChangeAt Go.RowKit

theorem run_index_sg : ∀ k : Nat, k < 45 → ∀ w : World, (Instr.index 9 (.string { data := #[48, 49, 50, 51, 52, 53, 54, 55, 56, 57, 65, 66, 67, 68, 69, 70, 71, 72, 73, 74, 75, 76, 77, 78, 79, 80, 81, 82, 83, 84, 85, 86, 87, 88, 89, 90, 32, 36, 37, 42, 43, 45, 46, 47, 58] }) (.int .i64 (k : Int))).run Tryd.prog w = .ok (.int .u8 ((sg k : Nat) : Int)) w
  | 0, _ => fun w => by kernel_rfl
  | 1, _ => fun w => by kernel_rfl
  | 2, _ => fun w => by kernel_rfl
  | 3, _ => fun w => by kernel_rfl
  | 4, _ => fun w => by kernel_rfl
  | 5, _ => fun w => by kernel_rfl
  | 6, _ => fun w => by kernel_rfl
  | 7, _ => fun w => by kernel_rfl
  | 8, _ => fun w => by kernel_rfl
  | 9, _ => fun w => by kernel_rfl
  | 10, _ => fun w => by kernel_rfl
  | 11, _ => fun w => by kernel_rfl
  | 12, _ => fun w => by kernel_rfl
  | 13, _ => fun w => by kernel_rfl
  | 14, _ => fun w => by kernel_rfl
  | 15, _ => fun w => by kernel_rfl
  | 16, _ => fun w => by kernel_rfl
  | 17, _ => fun w => by kernel_rfl
  | 18, _ => fun w => by kernel_rfl
  | 19, _ => fun w => by kernel_rfl
  | 20, _ => fun w => by kernel_rfl
  | 21, _ => fun w => by kernel_rfl
  | 22, _ => fun w => by kernel_rfl
  | 23, _ => fun w => by kernel_rfl
  | 24, _ => fun w => by kernel_rfl
  | 25, _ => fun w => by kernel_rfl
  | 26, _ => fun w => by kernel_rfl
  | 27, _ => fun w => by kernel_rfl
  | 28, _ => fun w => by kernel_rfl
  | 29, _ => fun w => by kernel_rfl
  | 30, _ => fun w => by kernel_rfl
  | 31, _ => fun w => by kernel_rfl
  | 32, _ => fun w => by kernel_rfl
  | 33, _ => fun w => by kernel_rfl
  | 34, _ => fun w => by kernel_rfl
  | 35, _ => fun w => by kernel_rfl
  | 36, _ => fun w => by kernel_rfl
  | 37, _ => fun w => by kernel_rfl
  | 38, _ => fun w => by kernel_rfl
  | 39, _ => fun w => by kernel_rfl
  | 40, _ => fun w => by kernel_rfl
  | 41, _ => fun w => by kernel_rfl
  | 42, _ => fun w => by kernel_rfl
  | 43, _ => fun w => by kernel_rfl
  | 44, _ => fun w => by kernel_rfl
  | k + 45, h => absurd h (by omega)

/-- The number that bytes are. -/
def nOf (l : List Nat) : Nat := l.foldl (fun a b => a * 256 + b) 0
theorem nOf_snoc (l : List Nat) (x : Nat) : nOf (l ++ [x]) = nOf l * 256 + x := by simp [nOf]
theorem nOf_lt : ∀ (l : List Nat), l.length ≤ 2 → (∀ x ∈ l, x < 256) → nOf l < 65536
  | [], _, _ => by decide
  | [a], _, h => by have := h a (by simp); simp [nOf]; omega
  | [a, b], _, h => by have := h a (by simp); have := h b (by simp); simp [nOf]; omega
  | _ :: _ :: _ :: _, h, _ => by simp at h
theorem take_snoc' {l : List Nat} {k x : Nat} (h : l[k]? = some x) : l.take (k + 1) = l.take k ++ [x] := by
  obtain ⟨hk, rfl⟩ := List.getElem?_eq_some_iff.1 h
  rw [List.take_append_getElem]
set_option maxHeartbeats 800000 in
theorem pofBytes_any (l : List Nat) (n : Nat) (hn : n = l.length) (h2 : n ≤ 2) (A : Option Addr) (c : Nat) (w : World) (hA : Bs w w.heap.size l A c) :
    Calls Tryd.prog 34 #[.slice A n c] w fun e w' => e = .returned (.int .i64 (nOf l : Nat)) ∧ w = w' := by
  have HN := Lib.hid hn
  have HA := Lib.hid hA
  clear hn hA
  go_enter Tryd.func34, Tryd.ntmps34
  go_wp2
  go_loop [3, 5, 8] (fun t _ i => ∃ k : Nat, k ≤ n ∧ i = .int .i64 k ∧ t = .int .i64 (nOf (l.take k) : Nat)) (fun _ _ i => n - (intOf i).toNat)
  case atStart => exact ⟨0, Nat.zero_le _, rfl, rfl⟩
  case round =>
    obtain ⟨k, hk, rfl, rfl⟩ := hrel
    by_cases hlt : k < n
    · have hkl : k < l.length := by rw [← HN.out]; exact hlt
      obtain ⟨x, hx⟩ : ∃ x, l[k]? = some x := ⟨_, List.getElem?_eq_getElem hkl⟩
      obtain ⟨ad, rfl, hb, hc⟩ := HA.out.rd k (.int .u8 (x : Int)) (by rw [U8, List.getElem?_map, hx]; rfl)
      have hst : nOf (l.take (k + 1)) = nOf (l.take k) * 256 + x := by rw [take_snoc' hx, nOf_snoc]
      have hx2 : x < 256 := HA.out.lt x (List.mem_of_getElem? hx)
      have hlt2 := nOf_lt (l.take k) (by rw [List.length_take]; omega) (fun y hy => HA.out.lt y (List.mem_of_mem_take hy))
      have HST := Lib.hid hst
      generalize nOf (l.take k) = a at *
      have w1 : IntKind.i64.wrap ((a : Int) * 256) = (a : Int) * 256 := IntWalk.i64_in _ (by omega)
      have w2 : IntKind.i64.wrap ((a : Int) * 256 + (x : Int)) = (a : Int) * 256 + (x : Int) := IntWalk.i64_in _ (by omega)
      have b1 : (0 : Int) ≤ (k : Int) := by omega
      have b2 : (k : Int) < (n : Int) := by omega
      clear hst hkl hx
      go_wp2
      go_round
      case rel => exact ⟨k + 1, by omega, by go_num, by rw [HST.out]; go_num⟩
      case measure => simp [intOf]; omega
    · obtain rfl : k = n := by omega
      have e : l.take k = l := List.take_of_length_le (by rw [← HN.out]; omega)
      rw [e]
      clear e
      go_wp2
      go_ret
      exact ⟨rfl, rfl⟩

/-- So many signs of a number, the lowest one first. -/
def sgs (n : Nat) : Nat → List Nat
  | 0 => []
  | k + 1 => sgs n k ++ [sg (n / 45 ^ k % 45)]
def sgsTo (n m k : Nat) : List Nat := sgs n k ++ List.replicate (m - k) 0
theorem sgs_len (n : Nat) : ∀ k, (sgs n k).length = k
  | 0 => rfl
  | k + 1 => by rw [sgs, List.length_append, sgs_len n k]; rfl
theorem sgsTo_zero (n m : Nat) : sgsTo n m 0 = List.replicate m 0 := by simp [sgsTo, sgs]
theorem sgsTo_all (n m : Nat) : sgsTo n m m = sgs n m := by simp [sgsTo]
theorem sgsTo_len (n m k : Nat) (h : k ≤ m) : (sgsTo n m k).length = m := by rw [sgsTo, List.length_append, sgs_len, List.length_replicate]; omega
theorem sgsTo_set (n m k : Nat) (h : k < m) : (sgsTo n m k).set k (sg (n / 45 ^ k % 45)) = sgsTo n m (k + 1) := by
  obtain ⟨j, hj⟩ : ∃ j, m - k = j + 1 := ⟨m - k - 1, by omega⟩
  have hj2 : m - (k + 1) = j := by omega
  rw [sgsTo, sgsTo, hj, hj2, List.set_append_right _ _ (by rw [sgs_len]; omega), sgs_len, Nat.sub_self, List.replicate_succ, List.set_cons_zero, sgs, List.append_assoc]
  rfl
theorem sgs_lt (n : Nat) : ∀ k, ∀ x ∈ sgs n k, x < 256
  | 0, x, hx => by simp [sgs] at hx
  | k + 1, x, hx => by
    rw [sgs, List.mem_append] at hx
    rcases hx with hx | hx
    · exact sgs_lt n k x hx
    · simp only [List.mem_singleton] at hx; subst hx; exact sg_lt _
theorem sgs_put : ∀ (l : List Nat), 1 ≤ l.length → l.length ≤ 2 → (∀ x ∈ l, x < 256) → sgs (nOf l) (l.length + 1) = putG l
  | [], h, _, _ => by simp at h
  | [a], _, _, h => by
    have := h a (by simp)
    have e : nOf [a] = a := by simp [nOf]
    rw [e]
    simp only [sgs, putG, put2, List.length_cons, List.length_nil, List.nil_append, List.cons_append, Nat.zero_add, Nat.pow_zero, Nat.pow_one, Nat.div_one]
    rw [Nat.mod_eq_of_lt (show a / 45 < 45 by omega)]
  | [a, b], _, _, h => by
    have := h a (by simp)
    have := h b (by simp)
    have e : nOf [a, b] = a * 256 + b := by simp [nOf]
    rw [e]
    simp only [sgs, putG, put3, List.length_cons, List.length_nil, List.nil_append, List.cons_append, Nat.zero_add, Nat.pow_zero, Nat.pow_one, Nat.div_one]
    rw [Nat.mod_eq_of_lt (show (a * 256 + b) / 45 ^ 2 < 45 by omega)]
  | _ :: _ :: _ :: _, _, h, _ => by simp at h
set_option maxRecDepth 100000 in
set_option maxHeartbeats 1600000 in
theorem pasSigns_any (N s : Nat) (p : List Nat) (hp : sgs N s = p) (w : World) (hN : N < 65536) (hs : s ≤ 3) :
    Calls Tryd.prog 33 #[.int .i64 N, .int .i64 s] w fun e w' => e = .returned (.slice (some ⟨w.heap.size, 0, none⟩) s s) ∧ Bs w' w'.heap.size p (some ⟨w.heap.size, 0, none⟩) s ∧ Below w.heap.size w w' := by
  obtain ⟨i0, hi, hz0, hz1, hz2⟩ := info_parts infoU8
  have HP := Lib.hid hp
  clear hp
  go_enter Tryd.func33, Tryd.ntmps33
  go_wp2_with (at_make; refine wpList_make_full _ rfl _ _ 24 rfl w.heap.size 5 i0 (.int .u8 0) 1 Tryd.underlying24 hi hz0 hz1 _ _ _ _ s rfl rfl (by omega) (by omega) ?b2 ?b3 (Nat.le_refl _) ?_)
  case b2 => rw [hz2]; omega
  case b3 => unfold maxLen; omega
  intro w1 hown hg
  have hown1 : w1.ownsRow w.heap.size 5 1 (.slice (some ⟨w.heap.size, 0, none⟩) s s) s (U8 (sgsTo N s 0)) := by
    rw [toList_madeCells_one] at hown
    rw [sgsTo_zero, U8, List.map_replicate]
    exact hown
  have hbel : Below w.heap.size w w1 := (Below.refl _ _).grown hg (Nat.le_refl _) (by simp)
  clear hown hg
  go_wp2
  go_loopw [0, 11] (fun m i wr => ∃ k : Nat, k ≤ s ∧ i = .int .i64 (k : Int) ∧ m = .int .i64 (N / 45 ^ k : Nat) ∧ wr.ownsRow w.heap.size 5 1 (.slice (some ⟨w.heap.size, 0, none⟩) s s) s (U8 (sgsTo N s k)) ∧ Below w.heap.size w wr) (fun _ i _ => s - (intOf i).toNat)
  case atStart => exact ⟨0, Nat.zero_le _, by simp, by simp, hown1, hbel⟩
  case round =>
    clear hown1 hbel
    obtain ⟨k, hk, rfl, rfl, hown, hbel⟩ := hrel
    have hy : N / 45 ^ k < 65536 := Nat.lt_of_le_of_lt (Nat.div_le_self _ _) hN
    by_cases hlt : k < s
    · have hc2 : ∃ v, wr.cell? ⟨w.heap.size, k, none⟩ = some v := by
        rw [hown.cellAt k (by omega), U8, List.getElem?_map]
        rw [List.getElem?_eq_getElem (by rw [sgsTo_len _ _ _ hk]; omega)]
        exact ⟨_, rfl⟩
      obtain ⟨v2, hc2⟩ := hc2
      have hf := hown.frozenAt k
      have hst := (hown.stored k (.int .u8 ((sg (N / 45 ^ k % 45) : Nat) : Int))).1
      have hset : (U8 (sgsTo N s k)).set k (.int .u8 ((sg (N / 45 ^ k % 45) : Nat) : Int)) = U8 (sgsTo N s (k + 1)) := by
        rw [← sgsTo_set N s k hlt, U8, U8, List.map_set]
      rw [hset] at hst
      have hnx : N / 45 ^ (k + 1) = N / 45 ^ k / 45 := by rw [Nat.pow_succ, Nat.div_div_eq_div_mul]
      have HNX := Lib.hid hnx
      clear hset hnx
      generalize N / 45 ^ k = y at *
      obtain ⟨r, hr⟩ : ∃ r, r = y % 45 := ⟨_, rfl⟩
      obtain ⟨q, hq⟩ : ∃ q, q = y / 45 := ⟨_, rfl⟩
      have hr45 : r < 45 := by omega
      have t1 : (y : Int).tmod 45 = (r : Int) := by rw [Int.tmod_eq_emod_of_nonneg (by omega)]; omega
      have t2 : (y : Int).tdiv 45 = (q : Int) := by rw [Int.tdiv_eq_ediv_of_nonneg (by omega)]; omega
      have w1 : IntKind.i64.wrap (r : Int) = (r : Int) := IntWalk.i64_in _ (by omega)
      have w2 : IntKind.i64.wrap (q : Int) = (q : Int) := IntWalk.i64_in _ (by omega)
      have hix := run_index_sg r hr45
      rw [← hr] at hst
      rw [← hq] at HNX
      have HST := Lib.hid hst
      have HOW := Lib.hid hown
      clear hst hown hr hq
      have b1 : (0 : Int) ≤ (k : Int) := by omega
      have b2 : (k : Int) < (s : Int) := by omega
      go_wp2
      go_roundw
      case rel =>
        refine ⟨k + 1, by omega, by go_num, ?_, ?_, hbel.setCell (Nat.le_refl _) _⟩
        · rw [HNX.out]
        · exact HST.out
      case measure => simp only [intOf]; omega
    · obtain rfl : k = s := by omega
      rw [sgsTo_all, HP.out] at hown
      have hl : p.length = k := by rw [← HP.out, sgs_len]
      have hpx : ∀ x ∈ p, x < 256 := by rw [← HP.out]; exact sgs_lt N k
      have HO := Lib.hid hown
      have HL := Lib.hid hl
      have HX := Lib.hid hpx
      clear hown hl hpx hy
      generalize N / 45 ^ k = y at *
      go_wp2
      go_ret
      exact ⟨rfl, ⟨Rd.of_own HO.out, by simp, by rw [HL.out]; omega, by omega, HX.out⟩, hbel⟩
end Go.Proofs.YtaokhkbfiplfmaaDoor
end
section
namespace Go.Proofs.YtaokhkbfiplfmaaDoor
set_option linter.unusedVariables false
open Go.ChangeShapes Go.WideShapes Go.ChangeAt Go.RowKit Go.Shelf
attribute [local go_sem] Oper.semAt_some

/-- The k-th group. -/
def grp (l : List Nat) (sz k : Nat) : List Nat := (l.drop (sz * k)).take sz
def eOf (n sz f : Nat) : Nat := if n < f + sz then n else f + sz
theorem grp_len (l : List Nat) (sz k : Nat) (h : sz * k < l.length) : (grp l sz k).length = eOf l.length sz (sz * k) - sz * k := by
  rw [grp, List.length_take, List.length_drop, eOf]
  split <;> omega
theorem fadd_addr (ad : Addr) (i j : Nat) : (ad.add i).add j = ad.add (i + j) := by
  unfold Addr.add
  split <;> split <;> simp_all <;> omega
theorem grp_mem {l : List Nat} {sz k x : Nat} (h : x ∈ grp l sz k) : x ∈ l := List.mem_of_mem_drop (List.mem_of_mem_take h)
theorem grp_bs {W : World} {B : Nat} {l : List Nat} {A : Option Addr} {c : Nat} (h : Bs W B l A c) (sz k : Nat) (hk : sz * k < l.length) : Bs W B (grp l sz k) (A.map (fun x => x.add (sz * k))) (c - sz * k) := by
  have hl := h.len
  have hcap := h.cap
  refine ⟨fun j u hu => ?_, fun he => ?_, ?_, by omega, fun x hx => h.lt x (grp_mem hx)⟩
  · have hat : (U8 l)[sz * k + j]? = some u := by
      rw [U8, List.getElem?_map] at hu ⊢
      rw [grp] at hu
      have hj : j < sz := by
        rcases Nat.lt_or_ge j sz with h1 | h1
        · exact h1
        · rw [List.getElem?_eq_none (by rw [List.length_take]; omega)] at hu; cases hu
      rw [List.getElem?_take_of_lt hj, List.getElem?_drop] at hu
      exact hu
    obtain ⟨ad, rfl, hb, hc⟩ := h.rd _ _ hat
    refine ⟨ad.add (sz * k), rfl, by rw [add_block]; exact hb, ?_⟩
    rw [fadd_addr]; exact hc
  · obtain ⟨ad, rfl, hb, hc⟩ := h.rd _ _ (U8_at l _ hk)
    cases he
  · rw [grp, List.length_take, List.length_drop]; omega
def encG {m : Nat} (A : Option Addr) (n sz c : Nat) (x : Fin m) : Array Value := #[.slice (A.map (fun a => a.add (sz * x.val))) (eOf n sz (sz * x.val) - sz * x.val) (c - sz * x.val)]
def idx {m : Nat} (pre : List (Fin m)) : List Nat := pre.map (·.val)
theorem idx_snoc {m : Nat} (pre : List (Fin m)) (x : Fin m) : idx (pre ++ [x]) = idx pre ++ [x.val] := by simp [idx]
theorem idx_len {m : Nat} (pre : List (Fin m)) : (idx pre).length = pre.length := by simp [idx]
/-- The two boxes that the function value has captured hold what they held. -/
def KpG (BA BB : Nat) (W W' : World) : Prop := ∀ k v, (k = BA ∨ k = BB) → W.cell? ⟨k, 0, none⟩ = some v → W'.cell? ⟨k, 0, none⟩ = some v
theorem KpG.refl (BA BB : Nat) (W : World) : KpG BA BB W W := fun _ _ _ h => h
theorem KpG.trans {BA BB : Nat} {X Y Z : World} (h : KpG BA BB X Y) (g : KpG BA BB Y Z) : KpG BA BB X Z := fun k v hk hv => g k v hk (h k v hk hv)
theorem KpG.put {BA BB : Nat} (W : World) (l : Nat) (o o' : Obj) (hl : W.heap[l]? = some o) (ho : o.isCells = false) : KpG BA BB W (W.putObj l o') := fun k v _ hv => cell_kept hv (grownBy_putObj' W l o') (fun r e => by cases e; exact ⟨o, hl, ho⟩)
theorem KpG.boxed {BA BB : Nat} {t t' : TypeId} {u u' : Value} {W W' : World} (h1 : Boxed W BA t u) (h2 : Boxed W BB t' u') (g1 : Boxed W' BA t u) (g2 : Boxed W' BB t' u') : KpG BA BB W W' := by
  intro k v hk hv
  rcases hk with rfl | rfl
  · rw [h1.cell] at hv; cases hv; exact g1.cell
  · rw [h2.cell] at hv; cases hv; exact g2.cell
theorem groups_in (F : Fence) (n : Nat) (hf : F.fn 32) (hro : F.round = none) (A : Option Addr) (m c : Nat) (sz : Int) (w : World) :
    CallsIn F n Tryd.prog 32 #[.slice A m c, .int .i64 sz] w fun e w' => e = .returned (.func (.func 45) #[] #[.pointer (some ⟨w.heap.size, 0, none⟩), .pointer (some ⟨w.heap.size + 1, 0, none⟩)]) ∧ w' = (w.alloc (.cells #[.slice A m c] 24)).alloc (.cells #[.int .i64 sz] 3) := by
  refine callsIn_of_wp Tryd.func32 rfl hf ?_ hro
  simp only [Tryd.ntmps32, List.size_toArray, List.length_cons, List.length_nil, Nat.reduceAdd, Nat.reduceSub, Array.replicate_succ, Array.replicate_zero, List.push_toArray, List.append_toArray, List.nil_append, List.cons_append]
  gi_wp2
  go_ret
  exact ⟨rfl, rfl⟩
set_option maxRecDepth 100000 in
set_option maxHeartbeats 2000000 in
theorem groups1_in (F : Fence) (N : Nat) (hf : F.fn 45) (hro : F.round = none) (hN : 1 ≤ N) (lp BA BB : Nat) (A : Option Addr) (n c sz m : Nat) (hm : ∀ k, k < m ↔ sz * k < n) (hsz : sz ≤ 3) (hn4 : n ≤ 140737488355328) (hnc : n ≤ c) (hcc : c ≤ 9223372036854775807) (J Jx : List (Fin m) → World → Prop)
    (hY : ∀ pre x W, J pre W → pre.length < m → YieldAt F (N - 1) Tryd.prog lp (encG A n sz c x) W fun e W' =>
      (e = .returned (.bool true) ∧ J (pre ++ [x]) W' ∧ KpG BA BB W W') ∨ (e = .returned (.bool false) ∧ Jx (pre ++ [x]) W'))
    (W : World) (hA : W.cell? ⟨BA, 0, none⟩ = some (.slice A n c)) (hB : W.cell? ⟨BB, 0, none⟩ = some (.int .i64 sz)) (h0 : J [] W) :
    CallsIn F N Tryd.prog 45 #[.func (.yield lp) #[] #[], .pointer (some ⟨BA, 0, none⟩), .pointer (some ⟨BB, 0, none⟩)] W fun e W' => (∃ v, e = .returned v) ∧
      ((∃ ys, idx ys = List.range m ∧ J ys W') ∨ (∃ pre, (∃ k, k ≤ m ∧ idx pre = List.range k) ∧ Jx pre W')) := by
  have HA := Lib.hid hA
  have HB := Lib.hid hB
  have HM := Lib.hid hm
  have HY := Lib.hid hY
  clear hm hY
  refine callsIn_of_wp Tryd.func45 rfl hf ?_ hro
  simp only [Tryd.ntmps45, List.size_toArray, List.length_cons, List.length_nil, Nat.reduceAdd, Nat.reduceSub, Array.replicate_succ, Array.replicate_zero, List.push_toArray, List.append_toArray, List.nil_append, List.cons_append]
  gi_wp2
  gi_loopw [4] (fun i wr => ∃ (k : Nat) (pre : List (Fin m)), k ≤ m ∧ i = .int .i64 ((sz * k : Nat) : Int) ∧ idx pre = List.range k ∧ J pre wr ∧ KpG BA BB W wr)
    (fun i _ => ((n : Int) - intOf i).toNat)
  case atStart =>
    exact ⟨0, [], Nat.zero_le _, rfl, rfl, h0, KpG.refl _ _ _⟩
  case round =>
    obtain ⟨k, pre, hk, rfl, hpre, hJs, hnx⟩ := hrel
    have hcA : wr.cell? ⟨BA, 0, none⟩ = some (.slice A n c) := hnx BA _ (.inl rfl) HA.out
    have hcB : wr.cell? ⟨BB, 0, none⟩ = some (.int .i64 sz) := hnx BB _ (.inr rfl) HB.out
    have hpl : pre.length = k := by rw [← idx_len, hpre, List.length_range]
    by_cases hlt : k < m
    · have hf := (HM.out k).1 hlt
      have hs1 : 1 ≤ sz := by
        rcases Nat.eq_zero_or_pos sz with h1 | h1
        · have := (HM.out m).2 (by rw [h1, Nat.zero_mul]; rw [h1, Nat.zero_mul] at hf; exact hf); omega
        · exact h1
      obtain ⟨x, hx⟩ : ∃ x : Fin m, x.val = k := ⟨⟨k, hlt⟩, rfl⟩
      obtain ⟨fn, tmps, assign, body, hy, hR⟩ := HY.out pre x wr hJs (by rw [hpl]; exact hlt)
      dsimp only [encG] at hy
      have hsn : idx (pre ++ [x]) = List.range (k + 1) := by rw [idx_snoc, hpre, List.range_succ, hx]
      rw [hx] at hy
      have hnext : sz * (k + 1) = sz * k + sz := Nat.mul_succ sz k
      have HSN := Lib.hid hsn
      have HNEXT := Lib.hid hnext
      have HK := Lib.hid hlt
      have HNX := Lib.hid hnx
      have HR := Lib.hid hR
      clear hnx hlt hsn hnext hpre hpl hR hJs
      generalize sz * k = f at *
      obtain ⟨e, he⟩ : ∃ e, e = eOf n sz f := ⟨_, rfl⟩
      rw [← he] at hy
      have hmin : (if (n : Int) < (f : Int) + (sz : Int) then (n : Int) else (f : Int) + (sz : Int)) = (e : Int) := by
        rw [he, eOf]
        split <;> split <;> omega
      have he1 : e ≤ n := by rw [he, eOf]; split <;> omega
      have he2 : f < e := by rw [he, eOf]; split <;> omega
      have hcf : ¬ c = f := by omega
      have w1 : IntKind.i64.wrap ((f : Int) + (sz : Int)) = (f : Int) + (sz : Int) := IntWalk.i64_in _ (by omega)
      have b1 : (f : Int) < (n : Int) := by omega
      have b2 : (f : Int) ≤ (e : Int) := by omega
      have b3 : (e : Int) ≤ (c : Int) := by omega
      have b4 : (0 : Int) ≤ (f : Int) := by omega
      clear he
      clear hx
      gi_wp2
      refine HR.out.mono ?_
      rintro e' W3 (⟨rfl, hJ3, hk3⟩ | ⟨rfl, hJx3⟩)
      · have hcB3 : W3.cell? ⟨BB, 0, none⟩ = some (.int .i64 sz) := hk3 BB _ (.inr rfl) hcB
        gi_wp2
        go_roundw
        case rel => exact ⟨k + 1, pre ++ [x], by have := HK.out; omega, by rw [HNEXT.out]; go_num, HSN.out, hJ3, HNX.out.trans hk3⟩
        case measure => simp [intOf] <;> omega
      · gi_wp2
        refine bodyPost_ret (results_none rfl _ _ _) rfl ?_
        exact ⟨⟨_, rfl⟩, .inr ⟨_, ⟨k + 1, by have := HK.out; omega, HSN.out⟩, hJx3⟩⟩
    · obtain rfl : k = m := by omega
      have hf : ¬ sz * k < n := fun h => hlt ((HM.out k).2 h)
      generalize sz * k = f at *
      have b1 : ¬ ((f : Int) < (n : Int)) := by omega
      have HPRE := Lib.hid hpre
      clear hpre hpl
      gi_wp2
      go_end0
      exact ⟨⟨_, rfl⟩, .inl ⟨pre, HPRE.out, hJs⟩⟩
theorem groups_stops (F : Fence) (N : Nat) (hf : F.fn 45) (hro : F.round = none) (hN : 1 ≤ N) (BA BB : Nat) (A : Option Addr) (n c sz m : Nat) (hm : ∀ k, k < m ↔ sz * k < n) (hsz : sz ≤ 3) (hn4 : n ≤ 140737488355328) (hnc : n ≤ c) (hcc : c ≤ 9223372036854775807) (w : World) (hBA : BA < w.heap.size) (hBB : BB < w.heap.size)
    (hA : w.cell? ⟨BA, 0, none⟩ = some (.slice A n c)) (hB : w.cell? ⟨BB, 0, none⟩ = some (.int .i64 sz)) :
    SeqStopsK F N Tryd.prog 45 #[.pointer (some ⟨BA, 0, none⟩), .pointer (some ⟨BB, 0, none⟩)] (encG (m := m) A n sz c) (KpG BA BB) (fun ys => idx ys = List.range m) (fun pre => ∃ k, k ≤ m ∧ idx pre = List.range k) m w := fun lp J Jx W hW _ _ hY h0 =>
  groups1_in F N hf hro hN lp BA BB A n c sz m hm hsz hn4 hnc hcc J Jx hY W ((hW.cell (p := ⟨BA, 0, none⟩) hBA).trans hA) ((hW.cell (p := ⟨BB, 0, none⟩) hBB).trans hB) h0
end Go.Proofs.YtaokhkbfiplfmaaDoor
end
section
namespace Go.Proofs.YtaokhkbfiplfmaaDoor
set_option linter.unusedVariables false
open Go.ChangeShapes Go.WideShapes Go.ChangeAt Go.RowKit

theorem oper_inRound {F : Fence} {n : Nat} {P : Program} {Q : Exit → Act → World → Prop} (l : Nat) (hro : F.round = none) {o : Oper} (hd : ∀ c, o.op ≠ .defer c) {a : Act} {w : World} {K : Act → World → Prop} (h : o.wpIn F n P a w K Q) : o.wpIn (F.inRound l) n P a w K Q := by
  unfold Oper.wpIn at h ⊢
  obtain ⟨h1, h2⟩ := h
  refine ⟨h1, ?_⟩
  rw [hro, Oper.semAt_none] at h2
  rw [Fence.inRound_round, Oper.semAt_some l _ _ hd]
  generalize (execOp a.eval o).run P w = r at *
  cases r with
  | ok x w' => cases x <;> exact h2
  | halt x w' => cases x <;> exact h2
theorem any_inRound {F : Fence} {n : Nat} {P : Program} {ops : Array Oper} {Q : Exit → Act → World → Prop} {md : Region.Mode} (l : Nat) (hro : F.round = none) (hd : ∀ (i : Nat) (o : Oper), ops[i]? = some o → ∀ c, o.op ≠ .defer c) :
    ∀ (fuel : Nat) (listed : Array Bool) (a : Act) (w : World), wpAnyIn F n P md ops Q fuel listed a w → wpAnyIn (F.inRound l) n P md ops Q fuel listed a w
  | 0, listed, a, w, h => h
  | fuel + 1, listed, a, w, h => by
    refine ⟨h.1, fun i hi => ?_⟩
    have h2 := wpOpIn_mono (fun a w => any_inRound l hro hd fuel (listed.setIfInBounds i true) a w) (h.2 i hi)
    unfold wpOpIn at h2 ⊢
    split
    · rename_i e; rw [e] at h2; exact h2
    · rename_i o e
      rw [e] at h2
      simp only at h2
      split
      · rename_i hw
        rw [if_pos hw] at h2
        exact oper_inRound l hro (hd i o e) h2
      · rename_i hw
        rw [if_neg hw] at h2
        exact h2
/-- No operation of a region defers. -/
def noDefer (ops : Array Oper) : Bool := ops.all (fun o => match o.op with | .defer _ => false | _ => true)
theorem noDefer_spec {ops : Array Oper} (h : noDefer ops = true) : ∀ (i : Nat) (o : Oper), ops[i]? = some o → ∀ c, o.op ≠ .defer c := by
  intro i o ho c hc
  obtain ⟨hi, he⟩ := Array.getElem?_eq_some_iff.1 ho
  have := Array.all_eq_true.1 h i hi
  rw [he, hc] at this
  cases this
/-- append as one step of a region that draws its order, inside a fence. -/
theorem step_append_in {F : Fence} {nF : Nat} {P : Program} (w : World) {ops : Array Oper} {o : Oper} {a : Act} {K : Act → World → Prop} {Q : Exit → Act → World → Prop} {E : Prop} (hw : Region.wanted o (yielded ops a.tmps) = true) (s x : Operand) (t : TypeId)
    (ho : o.op = .call { callee := .builtin .append, args := #[s, x], argTypes := #[t, t] })
    (base : Nat) (e : TypeId) (i : TypeInfo) (z : Value) (bytes : Nat) (ht : P.underlying t = some (.slice e)) (hi : P.info? e = some i) (hz : i.zero = some z) (hsize : i.size = 1) (hby : i.bytes = bytes) (hzs : z.cells.size = 1)
    (v : Value) (n : Nat) (xs : List Value) (hs : a.eval s = v) (hown : w.ownsRow base e 1 v n xs)
    (ad : Addr) (m c : Nat) (news : List Value) (hx : a.eval x = .slice (some ad) m c) (hl : news.length = m) (hnews : ∀ j u, news[j]? = some u → w.cell? (ad.add j) = some u)
    (h1 : ∀ u ∈ news, u.oneCell' = true) (h63 : n + m ≤ maxLen) (hbytes : (n + m) * bytes ≤ 140737488355328) (hbase : base ≤ w.heap.size)
    (h : ∀ v' w', w'.ownsRow base e 1 v' (n + m) (xs ++ news) → w.grownBy w' v.ownBlock → K (a.put o.dst v') w') :
    if Region.wanted o (yielded ops a.tmps) = true then Oper.wpIn F nF P o a w K Q else E := by
  rw [if_pos hw]
  obtain ⟨v', w', hrun, h2, h3, _⟩ := run_append_own (P := P) w base t o.type e i z 1 bytes ht hi hz hsize hby hzs (by omega) v n xs hown ad m c news (by omega) hnews h1 h63 hbytes hbase
  unfold Oper.wpIn
  refine ⟨by simp [Oper.about, ho, resolve, Target.leads, Sem.run_pure], ?_⟩
  rw [Oper.semAt_plain F _ _ (by rw [ho]; intro c hc'; cases hc')]
  simp [execOp, ho, resolve, invoke, builtin, hs, hx, hrun, Result.andThen]
  exact h v' w' h2 h3
theorem u8_app (a b : List Nat) : U8 (a ++ b) = U8 a ++ U8 b := by simp [U8]
theorem keeps_below {B : Nat} {W W' : World} (hb : Below W.heap.size W W') : KeepsFrom B W W' := ⟨hb.size, fun k o _ hk _ => (hb.block k (Array.getElem?_eq_some_iff.1 hk).1).trans hk⟩
theorem boxed_belowD {W W' : World} {B : Nat} {t : TypeId} {v : Value} (h : Boxed W B t v) (hb : Below W.heap.size W W') : Boxed W' B t v := (hb.block B h.lt).trans h
/-- A box's slice is appended to, in a world that has grown since, and laid back. -/
theorem boxed_grown {W Wc w1 : World} {n₀ B : Nat} {t e : TypeId} {v v' : Value} {k m : Nat} {xs ys : List Value} (K : Nat)
    (hv : Boxed W B t v) (hte : t ≠ e) (hrow : W.ownsRow n₀ e 1 v k xs) (hn₀ : n₀ ≤ W.heap.size) (hB : n₀ ≤ B) (hb : Below W.heap.size W Wc)
    (hown' : w1.ownsRow n₀ e 1 v' m ys) (hgrow : Wc.grownBy w1 v.ownBlock) :
    Boxed w1 B t v ∧ Boxed (w1.setCell ⟨B, 0, none⟩ v') B t v' ∧ (w1.setCell ⟨B, 0, none⟩ v').ownsRow n₀ e 1 v' m ys ∧ KeepsFrom K W (w1.setCell ⟨B, 0, none⟩ v') ∧ Below n₀ W (w1.setCell ⟨B, 0, none⟩ v') := by
  have hrow' := own_below hrow hb
  have hv1 : Boxed w1 B t v := (boxed_belowD hv hb).kept hgrow (hv.not_row hte hrow)
  refine ⟨hv1, hv1.set v', hown'.kept (grownBy_setCell' w1 B v') (.inr (hv1.not_row hte hown').symm), ?_, ?_⟩
  · refine ((keeps_below hb).trans ((KeepsOthers.of_grownBy hgrow fun j o ej hj => ?_).from _)).trans ((KeepsOthers.setCell _ _ _).from _)
    rcases hrow'.2 with ⟨rfl, _⟩ | ⟨g, cap, cur, rfl, _, hgb, _⟩
    · simp [Value.ownBlock] at ej
    · obtain rfl : g = j := by simpa [Value.ownBlock] using ej
      rw [hgb] at hj; cases hj; rfl
  · exact ((hb.mono hn₀).grown hgrow (Nat.le_trans hn₀ hb.size) fun j ej => own_ge hrow ej).setCell (p := ⟨B, 0, none⟩) hB v'
/-- A box beside it. -/
theorem boxed_beside {W Wc w1 : World} {n₀ B B' : Nat} {t e : TypeId} {u v v' : Value} {k : Nat} {xs : List Value}
    (hu : Boxed W B' t u) (hte : t ≠ e) (hrow : W.ownsRow n₀ e 1 v k xs) (hb : Below W.heap.size W Wc) (hgrow : Wc.grownBy w1 v.ownBlock) (hne : B' ≠ B) : Boxed (w1.setCell ⟨B, 0, none⟩ v') B' t u :=
  ((boxed_belowD hu hb).kept hgrow (hu.not_row hte hrow)).other hne _
end Go.Proofs.YtaokhkbfiplfmaaDoor
end
