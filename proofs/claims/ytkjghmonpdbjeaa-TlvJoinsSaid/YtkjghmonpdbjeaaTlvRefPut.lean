/-
  Contract for the reference's Put. Conditions: the slice reads as fields.
-/
import Derived.Test.YtkjghmonpdbjeaaTlvRefIs
import Derived.Test.YtkjghmonpdbjeaaTlvPPut
import Derived.StillTailTactics
namespace Go.Proofs.Ytkjghmonpdbjeaa
set_option linter.unusedVariables false
open Go.ChangeShapes Go.WideShapes Go.ChangeAt Go.RowKit

set_option maxRecDepth 100000 in
set_option maxHeartbeats 1600000 in
theorem refput_tlv (l : List Tf) (n : Nat) (hn : n = l.length) (E : Nat) (p : List Nat) (hp : outT l = (E, p)) (A : Option Addr) (c : Nat) (w : World) (hA : Ts w w.heap.size l A c) :
    Calls Try.prog 11 #[.slice A n c] w fun e w' => ∃ A' c', e = .returned (.tuple #[.slice A' (p.length : Nat) c', .int .i64 (E : Int)]) ∧ Bs w' w'.heap.size p A' c' ∧ Below w.heap.size w w' := by
  obtain ⟨i0, hi, hz0, hz1, hz2⟩ := info_parts infoU8
  have h1 : n ≤ 9223372036854775807 := by have h1 := hA.len; have h2 := hA.cap; omega
  have HN := Lib.hid hn
  have HP := Lib.hid hp
  have HA := Lib.hid hA
  clear hn hp hA
  cases hb : isT 0 l with
  | false =>
    have hp := HP.out
    rw [outT_bad hb] at hp
    cases hp
    have HB := Lib.hid hb
    clear hb
    go_enter Try.func11, Try.ntmps11
    go_wp2_with fail
    refine (refis_tlv l n HN.out false HB.out A c w HA.out).mono ?_
    rintro e w1 ⟨rfl, hb1⟩
    have HB1 := Lib.hid hb1
    clear hb1
    go_wp2
    go_ret2
    exact ⟨none, 0, rfl, Bs.empty _ _, HB1.out⟩
  | true =>
    have hp := HP.out
    rw [outT_ok hb] at hp
    obtain ⟨rfl, hp2⟩ := Prod.mk.inj hp
    obtain ⟨hl, hall⟩ := isT_short hb (by omega) (by omega)
    have hn255 : n ≤ 255 := by rw [HN.out]; omega
    have HALL := Lib.hid hall
    have HB := Lib.hid hb
    have HPP := Lib.hid hp2
    clear hb hp hp2 hl hall
    go_enter Try.func11, Try.ntmps11
    go_wp2_with fail
    refine (refis_tlv l n HN.out true HB.out A c w HA.out).mono ?_
    rintro e w1 ⟨rfl, hb1⟩
    have HB1 := Lib.hid hb1
    clear hb1
    go_wp2
    go_loopw [4, 5] (fun v i wr => ∃ (k : Nat) (q : List Nat), k ≤ n ∧ i = .int .i64 k ∧ q = putT (l.take k) ∧ q.length ≤ 257 * k ∧ wr.ownsRow w1.heap.size 5 1 v q.length (U8 q) ∧ Below w1.heap.size w1 wr) (fun _ i _ => n - (intOf i).toNat)
    case atStart => exact ⟨0, [], Nat.zero_le _, rfl, rfl, by simp, World.ownsRow_lit w1 #[] 0 (Nat.le_refl _) (by decide) rfl, (Below.refl _ _).alloc (Nat.le_refl _) _⟩
    case round =>
      obtain ⟨k, q, hk, rfl, hq, hql, hown, hbel⟩ := hrel
      have HQ := Lib.hid hq
      have HOW := Lib.hid hown
      have HBL := Lib.hid (HB1.out.trans (hbel.mono HB1.out.size))
      have HBW := Lib.hid hbel
      have hsz := hbel.size
      clear hq hown hbel
      by_cases hlt : k < n
      · obtain ⟨ad, S, cc, rfl, had, hk4⟩ := (HA.out.below HBL.out).rd k (by rw [← HN.out]; exact hlt)
        have HKL := Lib.hid (show k < l.length by rw [← HN.out]; exact hlt)
        have hmem : l.getD k TF0 ∈ l := by
          rw [List.getD_eq_getElem?_getD, List.getElem?_eq_getElem HKL.out]
          exact List.getElem_mem _
        obtain ⟨h3, h4, h5⟩ := HALL.out _ hmem
        have hsn := putT_snoc l k HKL.out
        obtain ⟨x, hx⟩ : ∃ x, x = l.getD k TF0 := ⟨_, rfl⟩
        rw [← hx] at hk4 h3 h4 h5 hsn
        obtain ⟨t, ht⟩ : ∃ t : Nat, t = x.tag.toNat := ⟨_, rfl⟩
        obtain ⟨s, hs⟩ : ∃ s : List Nat, s = x.val := ⟨_, rfl⟩
        obtain ⟨m, hm⟩ : ∃ m : Nat, m = s.length := ⟨_, rfl⟩
        have hc0 : wr.cell? (ad.add (k * 2)) = some (.int .i64 (t : Int)) := by rw [hk4.c0]; congr 2; omega
        have hc1 : wr.cell? ⟨(ad.add (k * 2)).block, (ad.add (k * 2)).off + 1, none⟩ = some (.slice S m cc) := by rw [hk4.c1, hm, hs]
        have HS := Lib.hid (show Bs wr w.heap.size s S cc by rw [hs]; exact hk4.bs)
        rw [← HQ.out, ← ht, ← hs, ← hm] at hsn
        have ht2 : t < 256 := by omega
        have hm2 : m < 256 := by rw [hm, hs]; omega
        have HSN := Lib.hid hsn
        have HM := Lib.hid hm
        obtain ⟨j, hj⟩ : ∃ j, j = q.length := ⟨_, rfl⟩
        rw [← hj] at HOW hql
        have HJ := Lib.hid hj
        have b1 : (0 : Int) ≤ (k : Int) := by omega
        have b2 : (k : Int) < (n : Int) := by omega
        have w1' : IntKind.u8.wrap (t : Int) = (t : Int) := u8_byte t ht2
        have w2' : IntKind.u8.wrap (m : Int) = (m : Int) := u8_byte m hm2
        clear hx hk4 h3 h4 h5 hsn ht hs hm hj hmem
        have hge : ∀ g, u4.ownBlock = some g → w1.heap.size ≤ g := fun g hg => own_ge HOW.out hg
        have hne : u4.ownBlock ≠ some (ad.add (k * 2)).block := by
          intro e
          have := hge _ e
          rw [add_block] at this
          have := HB1.out.size
          omega
        have lk := World.block_lt_of_cell? wr _ hc0
        have HGE := Lib.hid hge
        have hown := HOW.out
        have lkw : (ad.add (k * 2)).block < w1.heap.size := by rw [add_block]; exact Nat.lt_of_lt_of_le had HB1.out.size
        have KB : ∀ x, ((wr.alloc (.cells #[.int .u8 (IntKind.u8.wrap (t : Int)), .int .u8 (IntKind.u8.wrap (m : Int))] 5)).drew).grownBy x u4.ownBlock → Below w1.heap.size wr x := fun x hg => (((Below.refl _ wr).alloc hsz _).drew).grown hg (by simp; omega) HGE.out
        clear hge w1' w2'
        go_wp2
        go_region_held3 (fun w' => w'.cell? (ad.add (k * 2)) = some (.int .i64 (t : Int)) ∧ w'.cell? ⟨(ad.add (k * 2)).block, (ad.add (k * 2)).off + 1, none⟩ = some (.slice S m cc))
          (first | exact ⟨hc0, hc1⟩ | go_keep | exact ⟨((KB _ hgrow).cell (p := ad.add (k * 2)) lkw).trans hc0, ((KB _ hgrow).cell (p := ⟨(ad.add (k * 2)).block, (ad.add (k * 2)).off + 1, none⟩) lkw).trans hc1⟩)
          ((refine step_append_lies _ (by rfl) _ _ _ (by rfl) w1.heap.size 5 i0 _ 1 1 Try.underlying24 hi hz0 hz1 hz2 rfl (by omega) u4 j (U8 q) (by rfl) ((hown.alloc _).drew)
              ⟨wr.heap.size, 0, none⟩ 2 2 [.int .u8 (IntKind.u8.wrap (t : Int)), .int .u8 (IntKind.u8.wrap (m : Int))] (by rfl) (by rfl)
              (World.news_of_block (cs := #[.int .u8 (IntKind.u8.wrap (t : Int)), .int .u8 (IntKind.u8.wrap (m : Int))]) (t := 5) (fr := (0, 0)) (heap_alloc_new wr _)) (by simp [Value.oneCell'])
              (by omega) (by unfold maxLen; omega) (by omega) (by simp; omega) (wr.heap.size + 1) (by simp) ?_; intro gg cap x2 hown2 hgrow hat hlt1))
        have hw1 : IntKind.u8.wrap (t : Int) = (t : Int) := u8_byte t ht2
        have hw2 : IntKind.u8.wrap (m : Int) = (m : Int) := u8_byte m hm2
        have HBO := Lib.hid (KB _ hgrow)
        have hown3 : x2.ownsRow w1.heap.size 5 1 (.slice (some ⟨gg, 0, none⟩) (j + 2) cap) (j + 2) (U8 (q ++ [t, m])) := by
          rw [tu8_app, U8, U8, List.map_cons, List.map_cons, List.map_nil, ← U8]
          rw [hw1, hw2] at hown2
          exact hown2
        have HO2 := Lib.hid hown3
        have HB2 := Lib.hid (HBW.out.trans HBO.out)
        have HS2 := Lib.hid (HS.out.rd.below (HBO.out.mono HB1.out.size))
        have hd1 : x2.cell? ⟨(ad.add (k * 2)).block, (ad.add (k * 2)).off + 1, none⟩ = some (.slice S m cc) := (HBO.out.cell (p := ⟨(ad.add (k * 2)).block, (ad.add (k * 2)).off + 1, none⟩) lkw).trans hc1
        have hsz2 := HB2.out.size
        have hx2 : j + 2 + m ≤ maxLen := by unfold maxLen; omega
        have HML := Lib.hid (show (U8 s).length = m by rw [tu8_len, HM.out])
        clear hown2 hown3 hgrow hat hlt1 hne lk hown KB hw1 hw2 hc0 hc1
        go_wp2_with (at_builtin; refine wpList_append_rd _ rfl (.tmp 32) (.tmp 37) 24 rfl w1.heap.size 5 i0 (.int .u8 0) 1 Try.underlying24 hi hz0 hz1 hz2 rfl _ (j + 2) (U8 (q ++ [t, m])) rfl HO2.out _ S m cc (U8 s) rfl HS2.out HML.out HS.out.nil (U8_one _) hx2 (by omega) hsz2 ?_)
        intro v3 x3 hown3 hg3
        have HB3 := Lib.hid (show Below w1.heap.size w1 x3 from HB2.out.grown hg3 hsz2 (fun g hg => own_ge HO2.out hg))
        rw [← tu8_app] at hown3
        obtain ⟨q', hq'⟩ : ∃ q', q' = q ++ [t, m] ++ s := ⟨_, rfl⟩
        have hql' : q'.length = j + 2 + m := by rw [hq', List.length_append, List.length_append, ← HJ.out, ← HM.out]; rfl
        rw [← hq', ← hql'] at hown3
        have HO3 := Lib.hid hown3
        have HQ' := Lib.hid (hq'.trans HSN.out.symm)
        have hqb : q'.length ≤ 257 * (k + 1) := by omega
        have HQB := Lib.hid hqb
        clear hown3 hg3 hq' hql' hqb hx2 hsz2 hd1
        go_wp2
        go_roundw
        case rel => exact ⟨k + 1, q', by omega, by go_num, HQ'.out, HQB.out, HO3.out, HB3.out⟩
        case measure => simp [intOf]; omega
      · have e : k = n := by omega
        have e2 : l.take k = l := List.take_of_length_le (by rw [← HN.out]; omega)
        have hqp : q = p := by rw [HQ.out, e2, HPP.out]
        have hown := HOW.out
        rw [hqp] at hown
        obtain ⟨AQ, cQ, e3, hbs⟩ := bs_of_own hown (by rw [← HPP.out]; exact putT_lt l HALL.out HA.out.vals)
        have HBS := Lib.hid hbs
        clear e2 hqp hown hbs
        subst e3
        go_wp2
        go_ret2
        exact ⟨_, _, rfl, HBS.out, HBL.out⟩
end Go.Proofs.Ytkjghmonpdbjeaa
