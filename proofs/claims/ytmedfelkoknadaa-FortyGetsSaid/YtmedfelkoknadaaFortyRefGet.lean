/-
  Contract for the reference's Get. Conditions: 4000 signs at most.
-/
import Derived.Test.YtmedfelkoknadaaFortyRefPut
import Derived.Test.YtmedfelkoknadaaFortyPGet
namespace Go.Proofs.Ytmedfelkoknadaa
set_option linter.unusedVariables false
set_option linter.unusedSimpArgs false
open Go.ChangeShapes Go.WideShapes Go.ChangeAt Go.RowKit

theorem goodG_range {l : List Nat} {k : Nat} (h : goodG l (List.range k)) (hk : (getG (grp l 3 k)).1 = 0) : goodG l (List.range (k + 1)) := by rw [List.range_succ]; exact goodG_snoc h hk
theorem outG_range (l : List Nat) (k : Nat) : outG l (List.range (k + 1)) = outG l (List.range k) ++ (getG (grp l 3 k)).2 := by rw [List.range_succ]; exact outG_snoc l _ k
theorem grp_at {l : List Nat} {sz k j x : Nat} (hj : j < sz) (h : l[sz * k + j]? = some x) : (grp l sz k)[j]? = some x := by
  rw [grp, List.getElem?_take_of_lt hj, List.getElem?_drop]; exact h
set_option maxRecDepth 100000 in
set_option maxHeartbeats 2000000 in
theorem refget_in (l : List Nat) (n : Nat) (hn : n = l.length) (hn4 : n ≤ 4000) (hn3 : n % 3 ≠ 1) (E : Nat) (p : List Nat) (hp : getR l = (E, p)) (m : Nat) (hm : ∀ k, k < m ↔ 3 * k < n) (A : Option Addr) (c : Nat) (w : World) (hA : Bs w w.heap.size l A c) :
    Calls Try.prog 13 #[.slice A n c] w fun e w' => ∃ A' c', e = .returned (.tuple #[.slice A' (p.length : Nat) c', .int .i64 (E : Int)]) ∧ Bs w' w'.heap.size p A' c' ∧ Below w.heap.size w w' := by
  obtain ⟨i0, hi, hz0, hz1, hz2⟩ := info_parts infoU8
  have HN := Lib.hid hn
  have HP := Lib.hid hp
  have HM := Lib.hid hm
  have HA := Lib.hid hA
  have HN3 := Lib.hid hn3
  obtain ⟨r, hr⟩ : ∃ r, r = n % 3 := ⟨_, rfl⟩
  have t1 : (n : Int).tmod 3 = (r : Int) := by rw [Int.tmod_eq_emod_of_nonneg (by omega)]; omega
  have hr1 : ((r : Int) == 1) = false := by rw [beq_eq_false_iff_ne]; omega
  have w1' : IntKind.i64.wrap (r : Int) = (r : Int) := IntWalk.i64_in _ (by omega)
  have hmn : 3 * m ≤ n + 2 := by
    rcases Nat.eq_zero_or_pos m with h | h
    · omega
    · have := (hm (m - 1)).1 (by omega); omega
  have hmn2 : n ≤ 3 * m := by
    rcases Nat.lt_or_ge (3 * m) n with h | h
    · have := (hm m).2 h; omega
    · exact h
  clear hn hp hA hr hn3 hm
  go_enter Try.func13, Try.ntmps13
  go_wp2
  go_loopw [4, 5, 6, 7, 8, 9] (fun v i _ _ _ _ wr => ∃ (k : Nat) (o : List Nat), k ≤ m ∧ i = .int .i64 ((3 * k : Nat) : Int) ∧ o = outG l (List.range k) ∧ o.length ≤ 2 * k ∧ goodG l (List.range k) ∧ wr.ownsRow w.heap.size 5 1 v o.length (U8 o) ∧ Below w.heap.size w wr) (fun _ i _ _ _ _ _ => n + 3 - (intOf i).toNat)
  case atStart => exact ⟨0, [], by omega, rfl, rfl, by simp, fun k hk => by simp at hk, World.ownsRow_lit w #[] 0 (Nat.le_refl _) (by decide) rfl, (Below.refl _ _).alloc (Nat.le_refl _) _⟩
  case round =>
    obtain ⟨k, o, hk, rfl, ho, hol, hgood, hown, hbel⟩ := hrel
    obtain ⟨f, hf⟩ : ∃ f, f = 3 * k := ⟨_, rfl⟩
    rw [← hf]
    have HO := Lib.hid ho
    have HOW := Lib.hid hown
    have HBL := Lib.hid hbel
    have HF := Lib.hid hf
    have HG := Lib.hid hgood
    clear ho hown hbel hgood
    have hge : ∀ g, u4.ownBlock = some g → w.heap.size ≤ g := fun g hg => own_ge HOW.out hg
    have HGE := Lib.hid hge
    obtain ⟨j, hj⟩ : ∃ j, j = o.length := ⟨_, rfl⟩
    rw [← hj] at HOW hol
    have HJ := Lib.hid hj
    have hbs := HBL.out.size
    clear hj hge
    by_cases hlt : f < n
    · have b0 : (0 : Int) ≤ (f : Int) := by omega
      have b1 : (f : Int) < (n : Int) := by omega
      have wf3 : IntKind.i64.wrap ((f : Int) + 3) = (f : Int) + 3 := IntWalk.i64_in _ (by omega)
      have hgl := grp_len l 3 k (by rw [← HN.out, ← hf]; exact hlt)
      rw [← HN.out, ← hf] at hgl
      obtain ⟨g, hgg⟩ : ∃ g, g = grp l 3 k := ⟨_, rfl⟩
      rw [← hgg] at hgl
      obtain ⟨d, hd⟩ : ∃ d, d = g.length := ⟨_, rfl⟩
      have hd23 : d = 2 ∨ d = 3 := by
        have h3 := HN3.out
        rw [hd, hgl, eOf]
        split <;> omega
      have hdn : f + d ≤ n := by rw [hd, hgl, eOf]; split <;> omega
      have hdm : d = 3 ∨ f + d = n := by rw [hd, hgl, eOf]; split <;> omega
      have hgp := getG_prog g (by rw [← hd]; exact hd23)
      rw [← hd] at hgp
      have hgat : ∀ j, j < d → ∃ x, g[j]? = some x ∧ l[f + j]? = some x := fun j hj => by
        have h1 : f + j < l.length := by rw [← HN.out]; omega
        refine ⟨l[f + j], ?_, List.getElem?_eq_getElem h1⟩
        rw [hgg]
        exact grp_at (by omega) (by rw [← hf]; exact List.getElem?_eq_getElem h1)
      have HGAT := Lib.hid hgat
      have HGP := Lib.hid hgp
      have HD := Lib.hid hd
      have HGG := Lib.hid hgg
      have hns := nS_lt g (by omega)
      clear hgl hgp hgat hgg hd hf
      have hbad : ∀ e, getG g = (e, []) → e ≠ 0 → E = e ∧ p = [] := fun e he h0 => by
        have h3 : 3 * k < l.length := by rw [← HN.out]; have := HF.out; omega
        have h4 := getR_stop l k (by rw [← HN.out]; exact HN3.out) h3 HG.out (by rw [← HGG.out, he]; exact h0)
        rw [← HGG.out, he, HP.out] at h4
        exact ⟨(Prod.mk.inj h4).1, (Prod.mk.inj h4).2⟩
      have hgo : ∀ b, getG g = (0, b) → goodG l (List.range (k + 1)) ∧ outG l (List.range (k + 1)) = o ++ b := fun b hb =>
        ⟨goodG_range HG.out (by rw [← HGG.out, hb]), by rw [outG_range, ← HGG.out, hb, HO.out]⟩
      have HBAD := Lib.hid hbad
      have HGO := Lib.hid hgo
      clear hbad hgo
      go_wp2
      go_loop [6, 7, 8, 9] (fun t b q _ => ∃ i : Nat, i ≤ d ∧ t = .int .i64 (nS (g.take i) : Nat) ∧ b = .int .i64 (45 ^ i : Nat) ∧ q = .int .i64 ((f + i : Nat) : Int) ∧ okL (g.take i) = true) (fun _ _ q _ => f + 3 - (intOf q).toNat)
      case atStart => exact ⟨0, by omega, rfl, rfl, rfl, rfl⟩
      case round =>
        obtain ⟨i, hid, rfl, rfl, rfl, hok⟩ := hrel
        have HOK := Lib.hid hok
        obtain ⟨q, hq⟩ : ∃ q, q = f + i := ⟨_, rfl⟩
        rw [← hq]
        have HQ := Lib.hid hq
        clear hok hq
        by_cases hlt2 : i < d
        · obtain ⟨x, hgx, hlx⟩ := HGAT.out i hlt2
          rw [← HQ.out] at hlx
          have hx2 : x < 256 := HA.out.lt x (List.mem_of_getElem? hlx)
          obtain ⟨ad, rfl, hb0, hc⟩ := (HA.out.below HBL.out).rd q (.int .u8 (x : Int)) (by rw [U8, List.getElem?_map, hlx]; rfl)
          have hqq := HQ.out
          have c0 : (0 : Int) ≤ (q : Int) := by omega
          have c1 : (q : Int) < (f : Int) + 3 := by omega
          have c2 : (q : Int) < (n : Int) := by omega
          have hl := nS_lt (g.take i) (by rw [List.length_take, ← HD.out]; omega)
          have hl2 := nS_lt (g.take (i + 1)) (by rw [List.length_take, ← HD.out]; omega)
          have hst : nS (g.take (i + 1)) = nS (g.take i) + 45 ^ i * vl x := by rw [take_snoc' hgx, nS_snoc, List.length_take, Nat.min_eq_left (by rw [← HD.out]; omega)]
          have hp45 : 45 ^ i ≤ 2025 := Nat.le_trans (Nat.pow_le_pow_right (by omega) (show i ≤ 2 by omega)) (by decide)
          have hp2 : 45 ^ (i + 1) = 45 ^ i * 45 := Nat.pow_succ 45 i
          have hokn : okL (g.take (i + 1)) = okS x := by rw [take_snoc' hgx, okL_snoc, HOK.out, Bool.true_and]
          have HOKN := Lib.hid hokn
          have HP2 := Lib.hid hp2
          rw [hst] at hl2
          have HST := Lib.hid hst
          have HGX := Lib.hid hgx
          clear hgx hlx hst hp2 hokn hqq
          generalize nS (g.take i) = a at *
          generalize 45 ^ i = pw at *
          cases hs : okS x with
          | true =>
            have hsi : sgI x = ((vl x : Nat) : Int) := by rw [sgI, hs]; rfl
            have hsg := refsign_any x hx2 _ hsi wr
            have HSG := Lib.hid hsg
            have hvl := okS_lt hs
            have HS := Lib.hid hs
            clear hs hsi hsg
            generalize vl x = y at *
            obtain ⟨z, hz⟩ : ∃ z, z = pw * y := ⟨_, rfl⟩
            rw [← hz] at HST hl2
            have hpm : (pw : Int) * (y : Int) = (z : Int) := by rw [hz]; push_cast; rfl
            have v1 : IntKind.i64.wrap (z : Int) = (z : Int) := IntWalk.i64_in _ (by omega)
            have v2 : IntKind.i64.wrap ((a : Int) + (z : Int)) = (a : Int) + (z : Int) := IntWalk.i64_in _ (by omega)
            have v3 : IntKind.i64.wrap ((pw : Int) * 45) = (pw : Int) * 45 := IntWalk.i64_in _ (by omega)
            have v4 : IntKind.i64.wrap ((q : Int) + 1) = (q : Int) + 1 := IntWalk.i64_in _ (by omega)
            have v5 : ¬ ((y : Int) < 0) := by omega
            clear hz
            go_wp2_with (go_at_call 21; refine HSG.out.mono ?_; rintro e w1 ⟨rfl, rfl⟩)
            go_round
            case rel => exact ⟨i + 1, by omega, by rw [HST.out]; go_num, by rw [HP2.out]; go_num, by have := HQ.out; exact congrArg (Value.int .i64) (by omega), by rw [HOKN.out]; exact HS.out⟩
            case measure => simp [intOf]; omega
          | false =>
            have hsi : sgI x = -1 := by rw [sgI, hs]; rfl
            have hsg := refsign_any x hx2 _ hsi wr
            have HSG := Lib.hid hsg
            obtain ⟨rfl, rfl⟩ := HBAD.out 7 (by rw [HGP.out, if_pos (okL_bad HGX.out hs)]) (by omega)
            clear hs hsi hsg HST HP2 HOKN HOK HGX
            go_wp2_with (go_at_call 21; refine HSG.out.mono ?_; rintro e w1 ⟨rfl, rfl⟩)
            go_ret2
            exact ⟨none, 0, rfl, ⟨by intro j u hu; simp [U8] at hu, fun _ => rfl, by simp, by omega, by simp⟩, HBL.out⟩
        · obtain rfl : i = d := by omega
          have etk : g.take i = g := List.take_of_length_le (by rw [← HD.out]; omega)
          have hok2 := HOK.out
          rw [etk] at hok2 ⊢
          have hge : getG g = if nS g / 256 ^ (i - 1) ≠ 0 then (23, []) else (0, bysH (nS g) (i - 1)) := by rw [HGP.out, hok2, if_neg (by simp)]
          have HGE2 := Lib.hid hge
          have hqq := HQ.out
          have wf2 : IntKind.i64.wrap ((f : Int) + 2) = (f : Int) + 2 := IntWalk.i64_in _ (by omega)
          have hj4 : j ≤ 8000 := by omega
          clear etk hok2 hge HOK HGP
          generalize nS g = y at *
          generalize 45 ^ i = pw at *
          rcases hd23 with rfl | rfl
          · obtain rfl : q = n := by omega
            have c1 : (q : Int) < (f : Int) + 3 := by omega
            have c2 : ¬ ((q : Int) < (q : Int)) := by omega
            have c3 : ¬ ((f : Int) + 2 < (q : Int)) := by omega
            clear hqq
            by_cases hov : 255 < y
            · have hov2 : (255 : Int) < (y : Int) := by omega
              obtain ⟨rfl, rfl⟩ := HBAD.out 23 (by rw [HGE2.out, if_pos (by simp only [Nat.add_one_sub_one, Nat.reduceSub, Nat.pow_one]; omega)]) (by omega)
              clear HGE2 HBAD HGO
              go_wp2
              go_ret2
              exact ⟨none, 0, rfl, ⟨by intro j u hu; simp [U8] at hu, fun _ => rfl, by simp, by omega, by simp⟩, HBL.out⟩
            · have hov2 : ¬ ((255 : Int) < (y : Int)) := by omega
              have hgz : getG g = (0, [y]) := by
                rw [HGE2.out, if_neg (by simp only [Nat.add_one_sub_one, Nat.reduceSub, Nat.pow_one]; omega)]
                simp only [Nat.add_one_sub_one, Nat.reduceSub, bysH, Nat.pow_zero, Nat.div_one]
                rw [Nat.mod_eq_of_lt (by omega)]
              have hgo := HGO.out _ hgz
              have HGZ := Lib.hid hgo
              have v1 : IntKind.u8.wrap (y : Int) = (y : Int) := u8_small y (by omega)
              have v6 : IntKind.i64.wrap ((f : Int) + 3) = (f : Int) + 3 := IntWalk.i64_in _ (by omega)
              have hm1 : j + 1 ≤ maxLen := by unfold maxLen; omega
              have hm2 : (j + 1) * 1 ≤ 140737488355328 := by omega
              clear hgo hgz HGE2 HBAD HGO
              go_wp2_with (at_builtin; refine wpList_append_own _ rfl (.tmp 66) (.tmp 69) 22 rfl w.heap.size 5 i0 (.int .u8 0) 1 1 Try.underlying22 hi hz0 hz1 hz2 rfl (by decide) _ j (U8 o) rfl (HOW.out.alloc _) ⟨_, 0, none⟩ 1 1 [.int .u8 (y : Int)] rfl rfl (cell_one_new _ _ _) (U8_one [y]) hm1 hm2 (by simp; omega) ?_)
              intro v8 w8 hown8 hg8 _
              have HO8 := Lib.hid (show w8.ownsRow w.heap.size 5 1 v8 (o ++ [y]).length (U8 (o ++ [y])) by
                rw [u8_app, List.length_append, ← HJ.out]
                exact hown8)
              have HB8 := Lib.hid ((HBL.out.alloc HBL.out.size _).grown hg8 (by simp; omega) HGE.out)
              clear hown8 hg8
              go_wp2
              go_roundw
              case rel => exact ⟨k + 1, o ++ [y], by have := HF.out; have := HQ.out; omega, by have := HF.out; exact congrArg (Value.int .i64) (by omega), HGZ.out.2.symm, by rw [List.length_append, ← HJ.out]; simp only [List.length_cons, List.length_nil]; omega, HGZ.out.1, HO8.out, HB8.out⟩
              case measure => simp [intOf]; omega
          · have c1 : ¬ ((q : Int) < (f : Int) + 3) := by omega
            have c3 : (f : Int) + 2 < (n : Int) := by omega
            clear hqq
            by_cases hov : 65535 < y
            · have hov2 : (65535 : Int) < (y : Int) := by omega
              obtain ⟨rfl, rfl⟩ := HBAD.out 23 (by rw [HGE2.out, if_pos (by simp only [Nat.add_one_sub_one, Nat.reduceSub, Nat.reducePow]; omega)]) (by omega)
              clear HGE2 HBAD HGO
              go_wp2
              go_ret2
              exact ⟨none, 0, rfl, ⟨by intro j u hu; simp [U8] at hu, fun _ => rfl, by simp, by omega, by simp⟩, HBL.out⟩
            · have hov2 : ¬ ((65535 : Int) < (y : Int)) := by omega
              obtain ⟨q1, hq1⟩ : ∃ q1, q1 = y / 256 := ⟨_, rfl⟩
              obtain ⟨r1, hr1'⟩ : ∃ r1, r1 = y % 256 := ⟨_, rfl⟩
              have hgz : getG g = (0, [q1, r1]) := by
                rw [HGE2.out, if_neg (by simp only [Nat.add_one_sub_one, Nat.reduceSub, Nat.reducePow]; omega)]
                simp only [Nat.add_one_sub_one, Nat.reduceSub, bysH, Nat.pow_zero, Nat.div_one, Nat.pow_one]
                rw [← hq1, ← hr1', Nat.mod_eq_of_lt (by omega)]
              have hgo := HGO.out _ hgz
              have HGZ := Lib.hid hgo
              have t2 : (y : Int).tdiv 256 = (q1 : Int) := by rw [Int.tdiv_eq_ediv_of_nonneg (by omega)]; omega
              have t3 : (y : Int).tmod 256 = (r1 : Int) := by rw [Int.tmod_eq_emod_of_nonneg (by omega)]; omega
              have v1 : IntKind.u8.wrap (q1 : Int) = (q1 : Int) := u8_small q1 (by omega)
              have v2 : IntKind.u8.wrap (r1 : Int) = (r1 : Int) := u8_small r1 (by omega)
              have v3 : IntKind.i64.wrap (q1 : Int) = (q1 : Int) := IntWalk.i64_in _ (by omega)
              have v4 : IntKind.i64.wrap (r1 : Int) = (r1 : Int) := IntWalk.i64_in _ (by omega)
              have v6 : IntKind.i64.wrap ((f : Int) + 3) = (f : Int) + 3 := IntWalk.i64_in _ (by omega)
              have hm1 : j + 2 ≤ maxLen := by unfold maxLen; omega
              have hm2 : (j + 2) * 1 ≤ 140737488355328 := by omega
              clear hgo hgz HGE2 HBAD HGO hq1 hr1'
              go_wp2_with (at_builtin; refine wpList_append_own _ rfl (.tmp 55) (.tmp 62) 22 rfl w.heap.size 5 i0 (.int .u8 0) 1 1 Try.underlying22 hi hz0 hz1 hz2 rfl (by decide) _ j (U8 o) rfl (HOW.out.alloc _) ⟨_, 0, none⟩ 2 2 [.int .u8 (q1 : Int), .int .u8 (r1 : Int)] rfl rfl (World.news_of_block (cs := #[.int .u8 (q1 : Int), .int .u8 (r1 : Int)]) (t := 5) (fr := (0, 0)) (heap_alloc_new wr _)) (U8_one [q1, r1]) hm1 hm2 (by simp; omega) ?_)
              intro v8 w8 hown8 hg8 _
              have HO8 := Lib.hid (show w8.ownsRow w.heap.size 5 1 v8 (o ++ [q1, r1]).length (U8 (o ++ [q1, r1])) by
                rw [u8_app, List.length_append, ← HJ.out]
                exact hown8)
              have HB8 := Lib.hid ((HBL.out.alloc HBL.out.size _).grown hg8 (by simp; omega) HGE.out)
              clear hown8 hg8
              go_wp2
              go_roundw
              case rel => exact ⟨k + 1, o ++ [q1, r1], by have := HF.out; omega, by have := HF.out; exact congrArg (Value.int .i64) (by omega), HGZ.out.2.symm, by rw [List.length_append, ← HJ.out]; simp only [List.length_cons, List.length_nil]; omega, HGZ.out.1, HO8.out, HB8.out⟩
              case measure => simp [intOf]; omega
    · have b1 : ¬ ((f : Int) < (n : Int)) := by omega
      obtain rfl : k = m := by have h1 := (HM.out k); have := HF.out; omega
      have hval := getR_all l k (by rw [← HN.out]; exact HN3.out) (by rw [← HN.out]; exact HM.out) HG.out
      rw [← HO.out] at hval
      obtain ⟨rfl, rfl⟩ : E = 0 ∧ p = o := by have := HP.out; rw [hval] at this; exact ⟨(Prod.mk.inj this).1.symm, (Prod.mk.inj this).2.symm⟩
      have hplt : ∀ x ∈ p, x < 256 := by
        have h9 : getX l = (0, p) := by unfold getX; rw [if_neg (by rw [← HN.out]; exact HN3.out)]; exact HP.out
        exact getX_lt h9
      obtain ⟨A2, c2, rfl, hbs2⟩ := bs_of_own HOW.out hplt
      have HBS := Lib.hid hbs2
      clear hbs2 hplt hval HGE
      go_wp2
      go_ret2
      exact ⟨A2, c2, by rw [HJ.out]; rfl, HBS.out, HBL.out⟩
theorem refget_len (n : Nat) (hn : n % 3 = 1) (h63 : n ≤ 9223372036854775807) (A : Option Addr) (c : Nat) (w : World) :
    Calls Try.prog 13 #[.slice A n c] w fun e w' => e = .returned (.tuple #[.slice none 0 0, .int .i64 14]) ∧ w = w' := by
  have t1 : (n : Int).tmod 3 = 1 := by rw [Int.tmod_eq_emod_of_nonneg (by omega)]; omega
  go_enter Try.func13, Try.ntmps13
  go_wp2
  go_ret2
  exact ⟨rfl, rfl⟩
theorem refget_forty (l : List Nat) (n : Nat) (hn : n = l.length) (hn4 : n ≤ 4000) (E : Nat) (p : List Nat) (hp : getX l = (E, p)) (A : Option Addr) (c : Nat) (w : World) (hA : Bs w w.heap.size l A c) :
    Calls Try.prog 13 #[.slice A n c] w fun e w' => ∃ A' c', e = .returned (.tuple #[.slice A' (p.length : Nat) c', .int .i64 (E : Int)]) ∧ Bs w' w'.heap.size p A' c' ∧ Below w.heap.size w w' := by
  unfold getX at hp
  by_cases h3 : n % 3 = 1
  · rw [if_pos (by rw [← hn]; exact h3)] at hp
    obtain ⟨rfl, rfl⟩ := Prod.mk.inj hp
    refine (refget_len n h3 (by omega) A c w).mono ?_
    rintro e w1 ⟨rfl, rfl⟩
    exact ⟨none, 0, rfl, ⟨by intro j u hu; simp [U8] at hu, fun _ => rfl, by simp, by omega, by simp⟩, Below.refl _ _⟩
  · rw [if_neg (by rw [← hn]; exact h3)] at hp
    exact refget_in l n hn hn4 h3 E p hp ((n + 2) / 3) (fun k => by omega) A c w hA
end Go.Proofs.Ytmedfelkoknadaa
