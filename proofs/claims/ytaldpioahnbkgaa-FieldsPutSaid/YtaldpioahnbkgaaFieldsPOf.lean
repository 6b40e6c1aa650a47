/-
  Contract for the landed fieldsOf. Conditions: the reading's block is there; the tags are tags, their numbers not below 0.
-/
import Derived.Test.YtaldpioahnbkgaaFieldsA
import Derived.Test.YtaldpioahnbkgaaFieldsTy
import Derived.Test.YtaldpioahnbkgaaTlvNum
import Derived.OwnWalk
namespace Go.Proofs.Ytaldpioahnbkgaa
set_option linter.unusedVariables false
open Go.ChangeShapes Go.WideShapes Go.ChangeAt Go.RowKit

set_option maxRecDepth 100000 in
set_option maxHeartbeats 1600000 in
theorem pfldof_any (r : Rg) (X : Nat) (ts : List Nat) (n : Nat) (hn : n = ts.length) (hn13 : n ≤ 13) (hts : ∀ t ∈ ts, 1 ≤ t ∧ t ≤ 13 ∧ 0 ≤ (numL r).getD (t - 1) 0 ∧ (numL r).getD (t - 1) 0 < 9223372036854775808) (A : Option Addr) (c : Nat) (w : World) (hX : FBox w X (rgL r)) (hA : Zs w w.heap.size (zI ts) A c) :
    Calls Try.prog 25 #[.slice A n c, .func (.func 23) #[.pointer (some ⟨X, 0, none⟩)] #[]] w fun e w' => ∃ A' c', e = .returned (.tuple #[.slice A' n c', .int .i64 0]) ∧ Ts w' w'.heap.size (fldT (numL r) ts) A' c' ∧ Below w.heap.size w w' := by
  obtain ⟨i0, hi, hz0, hz1, hz2⟩ := info_parts infoField3
  have HX := Lib.hid hX
  have HN := Lib.hid hn
  have HT := Lib.hid hts
  have HA := Lib.hid hA
  clear hX hn hts hA
  go_enter Try.func25, Try.ntmps25
  go_wp2_with (at_make; refine wpList_make_own _ rfl _ _ 28 rfl w.heap.size 56 i0 _ 2 Try.underlying28 hi hz0 hz1 _ _ _ n rfl rfl rfl ?b2 ?b3 ?b4 ?_)
  case b2 => rw [hz2]; omega
  case b3 => unfold maxLen; omega
  case b4 => exact Nat.le_refl _
  intro w2 hown hgr
  have HO0 := Lib.hid hown
  have HB2 := Lib.hid (show Below w.heap.size w w2 from (Below.refl _ _).grown hgr (Nat.le_refl _) (fun j hj => by cases hj))
  clear hown hgr
  go_wp2
  go_loopw [6, 16] (fun v i wr => ∃ (k : Nat) (M : List TV), k ≤ n ∧ i = .int .i64 k ∧ M.map (·.f) = fldT (numL r) (ts.take k) ∧ wr.ownsRow w.heap.size 56 2 v k (flatV M) ∧ (∀ q ∈ M, TyB wr q.S ∧ Bs wr wr.heap.size q.f.val q.S q.c) ∧ Below w.heap.size w wr) (fun _ i _ => n - (intOf i).toNat)
  case atStart => exact ⟨0, [], Nat.zero_le _, rfl, rfl, HO0.out, by simp, HB2.out⟩
  case round =>
    obtain ⟨k, M, hk, rfl, hmap, hown, hvals, hbel⟩ := hrel
    have HMP := Lib.hid hmap
    have HO := Lib.hid hown
    have HV := Lib.hid hvals
    have HBL := Lib.hid hbel
    have hsz := hbel.size
    clear hmap hown hvals hbel
    by_cases hlt : k < n
    · obtain ⟨t, ht⟩ : ∃ t, ts[k]? = some t := ⟨_, List.getElem?_eq_getElem (by rw [← HN.out]; exact hlt)⟩
      obtain ⟨ad, rfl, had, hc⟩ := (HA.out.next HBL.out).at (zI_at ht)
      obtain ⟨t1, t2, t3, t4⟩ := HT.out t (List.mem_of_getElem? ht)
      have hcx := (HX.out.next HBL.out).cell (pos_at r t1 t2)
      have hsn := fldT_snoc (numL r) ts k t ht
      rw [← HMP.out] at hsn
      obtain ⟨x, hx⟩ : ∃ x, x = (numL r).getD (t - 1) 0 := ⟨_, rfl⟩
      rw [← hx] at hcx t3 t4 hsn
      obtain ⟨o, ho⟩ : ∃ o, o = posN t := ⟨_, rfl⟩
      rw [← ho] at hcx
      have HX0 := Lib.hid t3
      obtain ⟨p, hp⟩ : ∃ p, p = numB x.toNat := ⟨_, rfl⟩
      rw [← hp] at hsn
      have HSN := Lib.hid hsn
      obtain ⟨N, hN⟩ : ∃ N : Nat, x = (N : Int) := ⟨x.toNat, by have := HX0.out; omega⟩
      subst hN
      rw [Int.toNat_natCast] at hp
      have HP := Lib.hid hp.symm
      have HPO := Lib.hid ho.symm
      have HTT := Lib.hid (And.intro t1 t2)
      have b1 : (0 : Int) ≤ (k : Int) := by omega
      have b2 : (k : Int) < (n : Int) := by omega
      clear ht hx hp hsn t1 t2 t3 ho
      go_wp2_with fail
      refine (pnum_any X t HTT.out.1 HTT.out.2 wr).mono ?_
      rintro e w1 ⟨rfl, rfl⟩
      rw [HPO.out]
      go_wp2_with fail
      refine (pnumber_own N (by omega) p HP.out wr).mono ?_
      rintro e w1 ⟨vv, rfl, hwn, hb⟩
      obtain ⟨S, cs, rfl, hbs⟩ := bs_of_own hwn (by rw [← HP.out]; exact numB_lt N)
      have HTY := Lib.hid (tyb_of_own hwn)
      clear hwn
      have HBS := Lib.hid hbs
      have HB1 := Lib.hid hb
      have HO1 := Lib.hid (own_below HO.out hb)
      have hs1 : w.heap.size ≤ w1.heap.size := Nat.le_trans hsz hb.size
      have HV1 := Lib.hid (fun q hq => And.intro ((HV.out q hq).1.next hb) ((HV.out q hq).2.next hb))
      have HBL1 := Lib.hid (HBL.out.trans (hb.mono hsz))
      clear hbs hb
      go_wp2_with (at_builtin; refine wpList_append_field rfl (.tmp 32) (.tmp 36) rfl w1 w.heap.size k u6 M ⟨⟨(t : Int), p⟩, S, cs⟩ rfl HO1.out w1.heap.size rfl rfl (by omega) hs1 ?_; intro v3 w3 hown3 hg3)
      have hge : ∀ g, u6.ownBlock = some g → w.heap.size ≤ g := fun g hg => own_ge HO1.out hg
      have hb3 : Below w.heap.size w w3 := HBL1.out.grown hg3 hs1 hge
      have HB3 := Lib.hid hb3
      have HO3 := Lib.hid hown3
      have HV3 := Lib.hid (show ∀ q ∈ M ++ [(⟨⟨(t : Int), p⟩, S, cs⟩ : TV)], TyB w3 q.S ∧ Bs w3 w3.heap.size q.f.val q.S q.c from fun q hq => by
        rcases List.mem_append.1 hq with h | h
        · exact bs_grown (HV1.out q h).1 (HV1.out q h).2 HO1.out hg3
        · rw [List.mem_singleton] at h
          subst h
          exact bs_grown HTY.out HBS.out HO1.out hg3)
      clear hown3 hg3 hge hb3 HO1 HV1
      go_wp2
      go_roundw
      case rel => exact ⟨k + 1, M ++ [⟨⟨(t : Int), p⟩, S, cs⟩], by omega, by go_num, by rw [List.map_append]; exact HSN.out.symm, HO3.out, HV3.out, HB3.out⟩
      case measure => simp [intOf]; omega
    · have e : k = n := by omega
      have e2 : ts.take k = ts := List.take_of_length_le (by rw [← HN.out]; omega)
      have hmp := HMP.out
      rw [e2] at hmp
      obtain ⟨A2, c2, e3, hts⟩ := ts_of_own HO.out (fun q hq => (HV.out q hq).2)
      rw [hmp] at hts
      have HTS := Lib.hid hts
      subst e
      clear e2 hmp hts hlt
      subst e3
      go_wp2
      go_ret2
      exact ⟨A2, c2, rfl, HTS.out, HBL.out⟩
end Go.Proofs.Ytaldpioahnbkgaa
