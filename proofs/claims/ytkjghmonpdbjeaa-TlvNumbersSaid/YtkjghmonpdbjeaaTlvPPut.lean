/-
  Contract for the landed Put. Conditions: the slice reads as fields.
-/
import Derived.Test.YtkjghmonpdbjeaaTlvPIs
import Derived.Test.YtkjghmonpdbjeaaTlvNum
namespace Go.Proofs.Ytkjghmonpdbjeaa
set_option linter.unusedVariables false
open Go.ChangeShapes Go.WideShapes Go.ChangeAt Go.RowKit

theorem tu8_app (a b : List Nat) : U8 (a ++ b) = U8 a ++ U8 b := by simp [U8]
theorem tu8_len (a : List Nat) : (U8 a).length = a.length := by simp [U8]
theorem town_lt {w : World} {base : Nat} {e : TypeId} {size : Nat} {v : Value} {n : Nat} {xs : List Value} (h : w.ownsRow base e size v n xs) {g : Nat} (hg : v.ownBlock = some g) : g < w.heap.size := by
  rcases h.2 with ⟨rfl, _⟩ | ⟨g', cap, cur, rfl, _, hh, _⟩
  · simp [Value.ownBlock] at hg
  · simp [Value.ownBlock] at hg
    subst hg
    exact (Array.getElem?_eq_some_iff.1 hh).1
/-- Two bytes, just laid. -/
theorem rd_two (w : World) (t m : Nat) : Rd (w.alloc (.cells #[.int .u8 (t : Int), .int .u8 (m : Int)] 5)) (w.alloc (.cells #[.int .u8 (t : Int), .int .u8 (m : Int)] 5)).heap.size (some ⟨w.heap.size, 0, none⟩) (U8 [t, m]) := rd_lit w _ _
set_option maxRecDepth 100000 in
set_option maxHeartbeats 1600000 in
theorem pput_tlv (l : List Tf) (n : Nat) (hn : n = l.length) (E : Nat) (p : List Nat) (hp : outT l = (E, p)) (A : Option Addr) (c : Nat) (w : World) (hA : Ts w w.heap.size l A c) :
    Calls Try.prog 10 #[.slice A n c] w fun e w' => ∃ A' c', e = .returned (.tuple #[.slice A' (p.length : Nat) c', .int .i64 (E : Int)]) ∧ Bs w' w'.heap.size p A' c' ∧ Below w.heap.size w w' := by
  obtain ⟨i0, hi, hz0, hz1, hz2⟩ := info_parts infoU8
  have h1 : n ≤ 9223372036854775807 := by have h1 := hA.len; have h2 := hA.cap; omega
  have HN := Lib.hid hn
  have HP := Lib.hid hp
  have HA := Lib.hid hA
  clear hn hp hA
  cases hb : isT 0 l with
  | false =>
    have hp := HP.out
    rw [outT_bad hb] at hp
    cases hp
    have HB := Lib.hid hb
    clear hb
    go_enter Try.func10, Try.ntmps10
    go_wp2_with fail
    refine (pis_tlv l n HN.out false HB.out A c w HA.out).mono ?_
    rintro e w1 ⟨rfl, hb1⟩
    have HB1 := Lib.hid hb1
    clear hb1
    go_wp2
    go_ret2
    exact ⟨none, 0, rfl, Bs.empty _ _, HB1.out⟩
  | true =>
    have hp := HP.out
    rw [outT_ok hb] at hp
    obtain ⟨rfl, hp2⟩ := Prod.mk.inj hp
    obtain ⟨hl, hall⟩ := isT_short hb (by omega) (by omega)
    have hn255 : n ≤ 255 := by rw [HN.out]; omega
    have HALL := Lib.hid hall
    have HB := Lib.hid hb
    have HPP := Lib.hid hp2
    clear hb hp hp2 hl hall
    go_enter Try.func10, Try.ntmps10
    go_wp2_with fail
    refine (pis_tlv l n HN.out true HB.out A c w HA.out).mono ?_
    rintro e w1 ⟨rfl, hb1⟩
    have HB1 := Lib.hid hb1
    clear hb1
    go_wp2
    go_loopw [4, 13] (fun v i wr => ∃ (k : Nat) (q : List Nat), k ≤ n ∧ i = .int .i64 k ∧ q = putT (l.take k) ∧ q.length ≤ 257 * k ∧ wr.ownsRow w1.heap.size 5 1 v q.length (U8 q) ∧ Below w1.heap.size w1 wr) (fun _ i _ => n - (intOf i).toNat)
    case atStart => exact ⟨0, [], Nat.zero_le _, rfl, rfl, by simp, World.ownsRow_lit w1 #[] 0 (Nat.le_refl _) (by decide) rfl, (Below.refl _ _).alloc (Nat.le_refl _) _⟩
    case round =>
      obtain ⟨k, q, hk, rfl, hq, hql, hown, hbel⟩ := hrel
      have HQ := Lib.hid hq
      have HOW := Lib.hid hown
      have HBL := Lib.hid (HB1.out.trans (hbel.mono HB1.out.size))
      have HBW := Lib.hid hbel
      have hsz := hbel.size
      clear hq hown hbel
      by_cases hlt : k < n
      · obtain ⟨ad, S, cc, rfl, had, hk4⟩ := (HA.out.below HBL.out).rd k (by rw [← HN.out]; exact hlt)
        have HKL := Lib.hid (show k < l.length by rw [← HN.out]; exact hlt)
        have hmem : l.getD k TF0 ∈ l := by
          rw [List.getD_eq_getElem?_getD, List.getElem?_eq_getElem HKL.out]
          exact List.getElem_mem _
        obtain ⟨h3, h4, h5⟩ := HALL.out _ hmem
        have hsn := putT_snoc l k HKL.out
        obtain ⟨x, hx⟩ : ∃ x, x = l.getD k TF0 := ⟨_, rfl⟩
        rw [← hx] at hk4 h3 h4 h5 hsn
        obtain ⟨t, ht⟩ : ∃ t : Nat, t = x.tag.toNat := ⟨_, rfl⟩
        obtain ⟨s, hs⟩ : ∃ s : List Nat, s = x.val := ⟨_, rfl⟩
        obtain ⟨m, hm⟩ : ∃ m : Nat, m = s.length := ⟨_, rfl⟩
        have hc0 : wr.cell? (ad.add (k * 2)) = some (.int .i64 (t : Int)) := by rw [hk4.c0]; congr 2; omega
        have hc1 : wr.cell? ⟨(ad.add (k * 2)).block, (ad.add (k * 2)).off + 1, none⟩ = some (.slice S m cc) := by rw [hk4.c1, hm, hs]
        have HS := Lib.hid (show Bs wr w.heap.size s S cc by rw [hs]; exact hk4.bs)
        rw [← HQ.out, ← ht, ← hs, ← hm] at hsn
        have ht2 : t < 256 := by omega
        have hm2 : m < 256 := by rw [hm, hs]; omega
        have HSN := Lib.hid hsn
        have HM := Lib.hid hm
        obtain ⟨j, hj⟩ : ∃ j, j = q.length := ⟨_, rfl⟩
        rw [← hj] at HOW hql
        have HJ := Lib.hid hj
        have b1 : (0 : Int) ≤ (k : Int) := by omega
        have b2 : (k : Int) < (n : Int) := by omega
        have w1' : IntKind.u8.wrap (t : Int) = (t : Int) := u8_byte t ht2
        have w2' : IntKind.u8.wrap (m : Int) = (m : Int) := u8_byte m hm2
        clear hx hk4 h3 h4 h5 hsn ht hs hm hj hmem
        obtain ⟨wb, hwb⟩ : ∃ wb, wb = wr.alloc (.cells #[.int .i64 (t : Int), .slice S m cc] 40) := ⟨_, rfl⟩
        obtain ⟨wl, hwl⟩ : ∃ wl, wl = wb.alloc (.cells #[.int .u8 (t : Int), .int .u8 (m : Int)] 5) := ⟨_, rfl⟩
        have hbb : Below wr.heap.size wr wb := by rw [hwb]; exact below_lit wr _ _
        have hbl : Below wb.heap.size wb wl := by rw [hwl]; exact below_lit wb _ _
        have hbx : Below wr.heap.size wr wl := hbb.trans (hbl.mono hbb.size)
        have HO1 := Lib.hid (own_below HOW.out hbx)
        have hwbs : wb.heap.size = wr.heap.size + 1 := by rw [hwb]; simp
        have HR1 := Lib.hid (show Rd wl wl.heap.size (some ⟨wr.heap.size + 1, 0, none⟩) (U8 [t, m]) by rw [← hwbs, hwl]; exact rd_two wb t m)
        have hsz1 : w1.heap.size ≤ wl.heap.size := Nat.le_trans hsz hbx.size
        have hx1 : j + 2 ≤ maxLen := by unfold maxLen; omega
        have HBX := Lib.hid (show wl.heap[wr.heap.size]? = some (.cells #[.int .i64 (t : Int), .slice S m cc] 40 (0, 0)) from (hbl.block _ (by rw [hwb]; simp)).trans (by rw [hwb]; exact heap_alloc_new wr _))
        have HBWL := Lib.hid (HBW.out.trans (hbx.mono hsz))
        have hbsz : wr.heap.size < wl.heap.size := (Array.getElem?_eq_some_iff.1 HBX.out).1
        clear hbb hbl hbx hwbs
        rw [hwb] at hwl
        rw [hwl] at HO1 HR1 hsz1 HBX HBWL hbsz
        clear hwb hwl wb wl
        go_wp2_with (at_builtin; refine wpList_append_rd _ rfl (.tmp 17) (.tmp 25) 24 rfl w1.heap.size 5 i0 (.int .u8 0) 1 Try.underlying24 hi hz0 hz1 hz2 rfl _ j (U8 q) rfl HO1.out _ (some ⟨wr.heap.size + 1, 0, none⟩) 2 2 (U8 [t, m]) rfl HR1.out rfl (fun h => by cases h) (U8_one _) hx1 (by omega) hsz1 ?_)
        intro v2 x2 hown2 hg2
        have hne : some wr.heap.size ≠ u4.ownBlock := fun h => Nat.lt_irrefl _ (town_lt HOW.out h.symm)
        have hblk := (hg2.block wr.heap.size hbsz hne).trans HBX.out
        have hb1 : x2.cell? ⟨wr.heap.size, 1, none⟩ = some (.slice S m cc) := by rw [cell_of_row x2 _ 1 _ _ (0, 0) hblk]; rfl
        have HB2 := Lib.hid (show Below w1.heap.size w1 x2 from HBWL.out.grown hg2 hsz1 (fun g hg => own_ge HO1.out hg))
        have HW2 := Lib.hid (show Below w1.heap.size wr x2 from (((below_lit wr _ _).trans ((below_lit _ _ _).mono (below_lit wr _ _).size)).mono hsz).grown hg2 hsz1 (fun g hg => own_ge HO1.out hg))
        have HS2 := Lib.hid (HS.out.rd.below (HW2.out.mono HB1.out.size))
        rw [← tu8_app] at hown2
        have HO2 := Lib.hid hown2
        have hsz2 := HB2.out.size
        have hx2 : j + 2 + m ≤ maxLen := by unfold maxLen; omega
        have HML := Lib.hid (show (U8 s).length = m by rw [tu8_len, HM.out])
        clear hown2 hg2 hne hblk hx1 hbsz hsz1 HO1 HR1 HBX HBWL
        go_wp2_with (at_builtin; refine wpList_append_rd _ rfl (.tmp 27) (.tmp 29) 24 rfl w1.heap.size 5 i0 (.int .u8 0) 1 Try.underlying24 hi hz0 hz1 hz2 rfl _ (j + 2) (U8 (q ++ [t, m])) rfl HO2.out _ S m cc (U8 s) rfl HS2.out HML.out HS.out.nil (U8_one _) hx2 (by omega) hsz2 ?_)
        intro v3 x3 hown3 hg3
        have HB3 := Lib.hid (show Below w1.heap.size w1 x3 from HB2.out.grown hg3 hsz2 (fun g hg => own_ge HO2.out hg))
        rw [← tu8_app] at hown3
        obtain ⟨q', hq'⟩ : ∃ q', q' = q ++ [t, m] ++ s := ⟨_, rfl⟩
        have hql' : q'.length = j + 2 + m := by rw [hq', List.length_append, List.length_append, ← HJ.out, ← HM.out]; rfl
        rw [← hq', ← hql'] at hown3
        have HO3 := Lib.hid hown3
        have HQ' := Lib.hid (hq'.trans HSN.out.symm)
        have hqb : q'.length ≤ 257 * (k + 1) := by omega
        have HQB := Lib.hid hqb
        clear hown3 hg3 hq' hql' hqb hx2 hsz2 hb1 hc0 hc1
        go_wp2
        go_roundw
        case rel => exact ⟨k + 1, q', by omega, by go_num, HQ'.out, HQB.out, HO3.out, HB3.out⟩
        case measure => simp [intOf]; omega
      · have e : k = n := by omega
        have e2 : l.take k = l := List.take_of_length_le (by rw [← HN.out]; omega)
        have hqp : q = p := by rw [HQ.out, e2, HPP.out]
        have hown := HOW.out
        rw [hqp] at hown
        obtain ⟨AQ, cQ, e3, hbs⟩ := bs_of_own hown (by rw [← HPP.out]; exact putT_lt l HALL.out HA.out.vals)
        have HBS := Lib.hid hbs
        clear e2 hqp hown hbs
        subst e3
        go_wp2
        go_ret2
        exact ⟨_, _, rfl, HBS.out, HBL.out⟩
end Go.Proofs.Ytkjghmonpdbjeaa
