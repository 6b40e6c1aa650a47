/-
  The reference's functions of bcd.
-/
import Derived.Test.YtpniolinndlepaaGreatDoorBcdA
import Derived.BigRegionIn
import Derived.BigQuiet
import Derived.Test.YtpniolinndlepaaGreatDoorBase
import Derived.Test.YtpniolinndlepaaGreatDoorBcdB
namespace Go.Proofs.YtpniolinndlepaaGreatDoor
set_option linter.unusedVariables false
open Go.ChangeShapes Go.WideShapes Go.ChangeAt Go.RowKit

theorem rput_arg (n s : Int) (w : World) (h : n < 0 ∨ s < 0 ∨ 18 < s) : Calls Tryz.prog 102 #[.int .i64 n, .int .i64 s] w fun e w' => e = .returned (.tuple #[.slice none 0 0, .int .i64 1]) ∧ w = w' := by
  by_cases h1 : n < 0
  · clear h
    go_enter Tryz.func102, Tryz.ntmps102
    go_wp2
    go_ret2
    exact ⟨rfl, rfl⟩
  by_cases h2 : s < 0
  · have h1' : 0 ≤ n := by omega
    clear h h1
    go_enter Tryz.func102, Tryz.ntmps102
    go_wp2
    go_ret2
    exact ⟨rfl, rfl⟩
  have h1' : 0 ≤ n := by omega
  have h2' : 0 ≤ s := by omega
  have h3 : 18 < s := by omega
  clear h h1 h2
  go_enter Tryz.func102, Tryz.ntmps102
  go_wp2
  go_ret2
  exact ⟨rfl, rfl⟩
/-- What Put has gathered behind k rounds. -/
def GathD (wr : World) (base N k : Nat) (v : Value) : Prop := ∃ g cap, v = .slice (some ⟨g, 0, none⟩) k cap ∧ wr.ownsRow base 5 1 (.slice (some ⟨g, 0, none⟩) k cap) k (U8 (dg N k))
set_option maxRecDepth 100000 in
set_option maxHeartbeats 1600000 in
theorem rput_fit (N s : Nat) (E : Int) (p : List Nat) (hE : bputE N s = E) (hp : bputL N s = p) (w : World) (hN : N < 9223372036854775808) (hs : s ≤ 18) :
    Calls Tryz.prog 102 #[.int .i64 N, .int .i64 s] w fun e w' => ∃ A c, e = .returned (.tuple #[.slice A (p.length : Nat) c, .int .i64 E]) ∧ Bs w' w'.heap.size p A c ∧ Below w.heap.size w w' := by
  obtain ⟨i0, hi, hz0, hz1, hz2⟩ := info_parts infoU8
  have HE := Lib.hid hE
  have HP := Lib.hid hp
  clear hE hp
  go_enter Tryz.func102, Tryz.ntmps102
  go_wp2
  go_loopw [0, 6, 7] (fun t v i wr => ∃ k : Nat, k ≤ s ∧ i = .int .i64 k ∧ t = .int .i64 (N / 10 ^ k : Nat) ∧ GathD wr w.heap.size N k v ∧ Below w.heap.size w wr) (fun _ _ i _ => s - (intOf i).toNat)
  case atStart => exact ⟨0, Nat.zero_le _, rfl, by simp, ⟨_, _, rfl, World.ownsRow_lit w #[] 0 (Nat.le_refl _) (by decide) rfl⟩, (Below.refl _ _).alloc (Nat.le_refl _) _⟩
  case round =>
    obtain ⟨k, hk, rfl, rfl, ⟨g, cap, rfl, hown⟩, hbel⟩ := hrel
    have hy : N / 10 ^ k < 9223372036854775808 := Nat.lt_of_le_of_lt (Nat.div_le_self _ _) hN
    have hy2 : N / 10 ^ (k + 1) = N / 10 ^ k / 10 := by rw [Nat.pow_succ, Nat.div_div_eq_div_mul]
    have hp : dg N (k + 1) = N / 10 ^ k % 10 :: dg N k := rfl
    by_cases hlt : k < s
    · generalize N / 10 ^ k = y at *
      have HY := Lib.hid hy2
      have HPP := Lib.hid hp
      clear hy2 hp
      have hrd := Rd.of_own hown
      have hnews : ∀ j u, (U8 (dg N k))[j]? = some u → (wr.alloc (.cells #[.int .u8 ((y : Int) % 10)] 5)).cell? ((⟨g, 0, none⟩ : Addr).add j) = some u := by
        intro j u hu
        obtain ⟨ad, e, hb1, hc1⟩ := hrd j u hu
        cases e
        rw [World.cell?_alloc_lt _ _ _ (by rw [add_block]; exact hb1)]
        exact hc1
      have hlen : (U8 (dg N k)).length = k * 1 := by simp [U8, dg_len]
      have HL := Lib.hid hlen
      have HNW := Lib.hid hnews
      have hbs := hbel.size
      clear hlen hnews hrd
      go_wp2_with (at_builtin; refine wpList_append_own _ rfl _ _ 30 rfl w.heap.size 5 i0 (.int .u8 0) 1 1 Tryz.underlying30 hi hz0 hz1 hz2 rfl (by decide) _ 1 [.int .u8 ((y : Int) % 10)] rfl (World.ownsRow_lit wr #[.int .u8 ((y : Int) % 10)] 1 hbs (by decide) rfl) ⟨g, 0, none⟩ k cap (U8 (dg N k)) rfl HL.out HNW.out (U8_one _) ?c3 ?c4 ?c5 ?_)
      case c3 => unfold maxLen; omega
      case c4 => omega
      case c5 => simp; omega
      intro v' w1 hown' hgrow hnil
      have hbel1 : Below w.heap.size w w1 := (hbel.alloc hbs _).grown hgrow (by simp; omega) (fun g hg => by simp [Value.ownBlock] at hg; omega)
      have hown1 : w1.ownsRow w.heap.size 5 1 v' (k + 1) (U8 (dg N (k + 1))) := by
        rw [HPP.out, U8, List.map_cons, Nat.add_comm k 1]
        have e : Value.int .u8 ((y % 10 : Nat) : Int) = .int .u8 ((y : Int) % 10) := by simp
        rw [e]
        exact hown'
      have hga : GathD w1 w.heap.size N (k + 1) v' := by
        obtain ⟨g', cap', e, _⟩ := hown1.form (by omega)
        subst e
        exact ⟨g', cap', rfl, hown1⟩
      have HG := Lib.hid hga
      clear hown' hgrow hnil hown hown1 hga hbel
      go_wp2
      go_roundw
      case rel => exact ⟨k + 1, by omega, by go_num, by rw [HY.out]; go_num, HG.out, hbel1⟩
      case measure => simp [intOf]; omega
    · have ek : k = s := by omega
      subst ek
      have HO := Lib.hid hown
      clear hp hy2 hown
      by_cases hov : 10 ^ k ≤ N
      · have hpos : 0 < N / 10 ^ k := Nat.div_pos hov (pow_pos10 k)
        obtain ⟨e1, e2⟩ := bput_over hs hov
        obtain rfl : E = 23 := by rw [← HE.out, e1]
        obtain rfl : p = [] := by rw [← HP.out, e2]
        clear HE HP e1 e2 hov
        generalize N / 10 ^ k = y at *
        go_wp2
        go_ret2
        exact ⟨none, 0, rfl, bbs_nil _, hbel⟩
      · have hz : N / 10 ^ k = 0 := Nat.div_eq_of_lt (by omega)
        obtain ⟨e1, e2⟩ := bput_ok hs (show N < 10 ^ k by omega)
        obtain rfl : E = 0 := by rw [← HE.out, e1]
        have hpl : p = dg N k := by rw [← HP.out, e2]
        have hl : p.length = k := by rw [hpl, dg_len]
        have HPL := Lib.hid hpl
        have HL := Lib.hid hl
        rw [hz]
        clear HE HP e1 e2 hov hpl hl hz
        go_wp2
        go_ret2
        refine ⟨some ⟨g, 0, none⟩, cap, by rw [HL.out]; rfl, ?_, hbel⟩
        rw [HPL.out]
        exact bbs_own HO.out (fun x hx => by have := dg_lt N k x hx; omega)
theorem rput_any (n s : Int) (E : Int) (p : List Nat) (hE : bputE n s = E) (hp : bputL n s = p) (w : World) (hn : n ≤ 9223372036854775807) :
    Calls Tryz.prog 102 #[.int .i64 n, .int .i64 s] w fun e w' => ∃ A c, e = .returned (.tuple #[.slice A (p.length : Nat) c, .int .i64 E]) ∧ Bs w' w'.heap.size p A c ∧ Below w.heap.size w w' := by
  by_cases h : n < 0 ∨ s < 0 ∨ 18 < s
  · obtain ⟨e1, e2⟩ := bput_arg h
    obtain rfl : E = 1 := by rw [← hE, e1]
    obtain rfl : p = [] := by rw [← hp, e2]
    refine (rput_arg n s w h).mono ?_
    rintro e w1 ⟨rfl, rfl⟩
    exact ⟨none, 0, rfl, bbs_nil _, Below.refl _ _⟩
  · obtain ⟨N, rfl⟩ : ∃ N : Nat, n = N := ⟨n.toNat, by omega⟩
    obtain ⟨S, rfl⟩ : ∃ S : Nat, s = S := ⟨s.toNat, by omega⟩
    exact rput_fit N S E p hE hp w (by omega) (by omega)
set_option linter.unusedVariables false
open Go.ChangeShapes Go.WideShapes Go.ChangeAt Go.RowKit

set_option maxRecDepth 100000 in
set_option maxHeartbeats 1600000 in
theorem rjoin_any (vs ws : List Int) (n m : Nat) (hn : n = vs.length) (hm : m = ws.length) (E : Int) (p : List Nat) (hE : joinX vs ws = (E, p)) (A A' : Option Addr) (c c' : Nat) (w : World) (hA : Zs w w.heap.size vs A c) (hA' : Zs w w.heap.size ws A' c') (hv : ∀ v ∈ vs, In64 v) :
    Calls Tryz.prog 72 #[.slice A n c, .slice A' m c'] w fun e w' => ∃ A2 c2, e = .returned (.tuple #[.slice A2 (p.length : Nat) c2, .int .i64 E]) ∧ Bs w' w'.heap.size p A2 c2 ∧ Below w.heap.size w w' := by
  obtain ⟨i0, hi, hz0, hz1, hz2⟩ := info_parts infoU8
  have h63 : n ≤ 9223372036854775807 := by have := hA.len; have := hA.cap; omega
  have h63' : m ≤ 9223372036854775807 := by have := hA'.len; have := hA'.cap; omega
  have HN := Lib.hid hn
  have HM := Lib.hid hm
  have HA := Lib.hid hA
  have HA' := Lib.hid hA'
  have HE := Lib.hid hE
  have HV := Lib.hid hv
  clear hn hm hA hA' hE hv
  by_cases h1 : n ≠ m ∨ 20 < n
  · have h2 : joinX vs ws = (1, []) := by rw [joinX, if_pos (by rw [← HN.out, ← HM.out]; exact h1)]
    obtain ⟨rfl, rfl⟩ : E = 1 ∧ p = [] := by have := HE.out; rw [h2] at this; exact ⟨(Prod.mk.inj this).1.symm, (Prod.mk.inj this).2.symm⟩
    clear HE h2
    by_cases h3 : n ≠ m
    · have b1 : ((n : Int) != (m : Int)) = true := by simp; omega
      have b2 : (n != m) = true := by simpa using h3
      clear h1
      go_enter Tryz.func72, Tryz.ntmps72
      go_wp2
      go_ret2
      exact ⟨none, 0, rfl, bbs_nil _, Below.refl _ _⟩
    · obtain rfl : n = m := by omega
      have h4 : 20 < n := by omega
      clear h1 h3
      go_enter Tryz.func72, Tryz.ntmps72
      go_wp2
      go_ret2
      exact ⟨none, 0, rfl, bbs_nil _, Below.refl _ _⟩
  obtain rfl : n = m := by omega
  have h20 : n ≤ 20 := by omega
  have HR := Lib.hid (show joinR vs ws [] = (E, p) by rw [← HE.out, joinX, if_neg (by rw [← HN.out, ← HM.out]; exact h1)])
  clear h1 HE
  go_enter Tryz.func72, Tryz.ntmps72
  go_wp2
  go_loopw [6, 7] (fun v i wr => ∃ (k : Nat) (out : List Nat), k ≤ n ∧ i = .int .i64 k ∧ wr.ownsRow w.heap.size 5 1 v out.length (U8 out) ∧ (∀ x ∈ out, x ≤ 9) ∧ out.length ≤ 18 * k ∧ joinR (vs.drop k) (ws.drop k) out = (E, p) ∧ Below w.heap.size w wr) (fun _ i _ => n - (intOf i).toNat)
  case atStart => exact ⟨0, [], Nat.zero_le _, rfl, World.ownsRow_lit w #[] 0 (Nat.le_refl _) (by decide) rfl, by simp, by simp, HR.out, (Below.refl _ _).alloc (Nat.le_refl _) _⟩
  case round =>
    obtain ⟨k, out, hk, rfl, hown, h9, hlen, hjr, hbel⟩ := hrel
    have HO := Lib.hid hown
    have H9 := Lib.hid h9
    have HBL := Lib.hid hbel
    have HJR := Lib.hid hjr
    clear hown h9 hjr hbel
    by_cases hlt : k < n
    · have hkv : k < vs.length := by rw [← HN.out]; exact hlt
      have hkw : k < ws.length := by rw [← HM.out]; exact hlt
      obtain ⟨x, hx⟩ : ∃ x, vs[k]? = some x := ⟨_, List.getElem?_eq_getElem hkv⟩
      obtain ⟨y, hy⟩ : ∃ y, ws[k]? = some y := ⟨_, List.getElem?_eq_getElem hkw⟩
      have hdv : vs.drop k = x :: vs.drop (k + 1) := by rw [drop_at hkv]; congr 1; rw [List.getElem?_eq_getElem hkv] at hx; exact Option.some.inj hx
      have hdw : ws.drop k = y :: ws.drop (k + 1) := by rw [drop_at hkw]; congr 1; rw [List.getElem?_eq_getElem hkw] at hy; exact Option.some.inj hy
      have hx64 : In64 x := HV.out x (List.mem_of_getElem? hx)
      obtain ⟨ad, rfl, hb, hc⟩ := (HA.out.next HBL.out).at hx
      obtain ⟨ad', rfl, hb', hc'⟩ := (HA'.out.next HBL.out).at hy
      have HX := Lib.hid hx64
      have hj := HJR.out
      rw [hdv, hdw, joinR, List.headD_cons, List.tail_cons] at hj
      have b1 : (0 : Int) ≤ (k : Int) := by omega
      have b2 : (k : Int) < (n : Int) := by omega
      clear hkv hkw hx hy hdv hdw HJR
      by_cases h0 : bputE x y = 0
      · rw [if_pos h0] at hj
        have HJ := Lib.hid hj
        clear hj
        obtain ⟨q, hq⟩ : ∃ q, q = bputL x y := ⟨_, rfl⟩
        have hq18 : q.length ≤ 18 := by rw [hq]; exact put_le x y
        have hq9 : ∀ z ∈ q, z ≤ 9 := by rw [hq]; exact put_lt x y
        have HQ9 := Lib.hid hq9
        have HP0 := Lib.hid h0
        have HQ := Lib.hid hq
        rw [← hq] at HJ
        clear hq9 h0 hq
        go_wp2
        rename_i K hK
        have HKK := Lib.hid hK
        clear hK
        go_region_with (go_at_call 102; refine (rput_any x y 0 q HP0.out HQ.out.symm _ HX.out.2).mono ?_; rintro e w1 ⟨A1, c1, rfl, hb1, hbd⟩; have HB1 := Lib.hid hb1; have HBD := Lib.hid ((below_drewN (Below.refl _ _) _).trans (hbd.mono (Nat.le_refl _))); have HBL1 := Lib.hid (HBL.out.trans (HBD.out.mono HBL.out.size)); clear hb1 hbd)
        all_goals
          have hK := HKK.out
          go_wp2_with (at_builtin; refine wpList_append_rd _ rfl _ _ 30 rfl w.heap.size 5 i0 (.int .u8 0) 1 Tryz.underlying30 hi hz0 hz1 hz2 rfl _ out.length (U8 out) rfl (own_below HO.out HBD.out) _ _ q.length c1 (U8 q) rfl HB1.out.rd (by simp [U8]) HB1.out.nil (U8_one _) (by unfold maxLen; omega) (by omega) (by have := HBL1.out.size; omega) ?_; intro v' w2 hown' hgrow; have HO2 := Lib.hid hown'; have HB2 := Lib.hid (HBL1.out.grown hgrow HBL1.out.size (fun j hj => own_ge (own_below HO.out HBD.out) hj)); clear hown' hgrow)
          go_roundw
          case rel => exact ⟨k + 1, out ++ q, by omega, by go_num, by rw [List.length_append, U8, List.map_append]; exact HO2.out, fun z hz => (List.mem_append.1 hz).elim (H9.out z) (HQ9.out z), by rw [List.length_append]; omega, HJ.out, HB2.out⟩
          case measure => simp [intOf]; omega
      · rw [if_neg h0] at hj
        have hEE : bputE x y = E := (Prod.mk.inj hj).1
        obtain rfl : p = [] := (Prod.mk.inj hj).2.symm
        obtain ⟨q, hq⟩ : ∃ q, q = bputL x y := ⟨_, rfl⟩
        have hne : (E != 0) = true := by rw [← hEE]; simpa using h0
        have HEE := Lib.hid hEE
        have HQ := Lib.hid hq
        clear h0 hj hEE hq
        go_wp2
        go_region_with (go_at_call 102; refine (rput_any x y E q HEE.out HQ.out.symm _ HX.out.2).mono ?_; rintro e w1 ⟨A1, c1, rfl, hb1, hbd⟩; have HBD := Lib.hid ((below_drewN (Below.refl _ _) _).trans (hbd.mono (Nat.le_refl _))); have HBL1 := Lib.hid (HBL.out.trans (HBD.out.mono HBL.out.size)); clear hb1 hbd)
        all_goals go_wp2
        all_goals go_ret2
        all_goals exact ⟨none, 0, rfl, bbs_nil _, HBL1.out⟩
    · have e1 : k = n := by omega
      subst e1
      have hj := HJR.out
      rw [List.drop_of_length_le (by rw [← HN.out]; omega), joinR] at hj
      obtain ⟨rfl, rfl⟩ : E = 0 ∧ p = out := ⟨(Prod.mk.inj hj).1.symm, (Prod.mk.inj hj).2.symm⟩
      obtain ⟨A2, c2, rfl, hbs⟩ := bs_of_own HO.out (fun x hx => by have := H9.out x hx; omega)
      have HBS := Lib.hid hbs
      clear HJR hj hbs
      go_wp2
      go_ret2
      exact ⟨A2, c2, rfl, HBS.out, HBL.out⟩
set_option linter.unusedVariables false
open Go.ChangeShapes Go.WideShapes Go.ChangeAt Go.RowKit

set_option maxRecDepth 100000 in
set_option maxHeartbeats 1600000 in
theorem rget_any (l : List Nat) (n : Nat) (hn : n = l.length) (E : Int) (N : Nat) (hE : bgetX l = (E, N)) (A : Option Addr) (c : Nat) (w : World) (hA : Bs w w.heap.size l A c) :
    Calls Tryz.prog 113 #[.slice A n c] w fun e w' => e = .returned (.tuple #[.int .i64 (N : Nat), .int .i64 E]) ∧ w = w' := by
  have h63 : n ≤ 9223372036854775807 := by have := hA.len; have := hA.cap; omega
  have HN := Lib.hid hn
  have HA := Lib.hid hA
  have HE := Lib.hid hE
  clear hn hA hE
  by_cases h18 : 18 < n
  · have h1 : bgetX l = (1, 0) := by rw [bgetX, if_pos (by rw [← HN.out]; exact h18)]
    obtain ⟨rfl, rfl⟩ : E = 1 ∧ N = 0 := by have := HE.out; rw [h1] at this; exact ⟨(Prod.mk.inj this).1.symm, (Prod.mk.inj this).2.symm⟩
    clear HE h1
    go_enter Tryz.func113, Tryz.ntmps113
    go_wp2
    go_ret2
    exact ⟨rfl, rfl⟩
  have h18' : n ≤ 18 := by omega
  have HR := Lib.hid (show getR l 0 = (E, N) by rw [← HE.out, bgetX, if_neg (by rw [← HN.out]; exact h18)])
  clear h18 HE h63
  go_enter Tryz.func113, Tryz.ntmps113
  go_wp2
  go_loop [4, 5] (fun t i => ∃ (k a : Nat), k ≤ n ∧ i = .int .i64 k ∧ t = .int .i64 (a : Nat) ∧ a < 10 ^ k ∧ getR (l.drop k) a = (E, N)) (fun _ i => n - (intOf i).toNat)
  case atStart => exact ⟨0, 0, Nat.zero_le _, rfl, rfl, by decide, HR.out⟩
  case round =>
    obtain ⟨k, a, hk, rfl, rfl, ha, hr⟩ := hrel
    by_cases hlt : k < n
    · have hkl : k < l.length := by rw [← HN.out]; exact hlt
      obtain ⟨ad, rfl, hb, hc⟩ := HA.out.rd k _ (U8_at l k hkl)
      rw [drop_at hkl] at hr
      generalize l[k] = x at *
      have h10 := pow18 (show k ≤ 18 by omega)
      have h11 : k + 1 ≤ 18 := by omega
      have HS := Lib.hid hr
      clear hr hkl
      by_cases hx : 9 < x
      · obtain ⟨rfl, rfl⟩ : E = 7 ∧ N = 0 := by have := HS.out; rw [getR, if_pos hx] at this; exact ⟨(Prod.mk.inj this).1.symm, (Prod.mk.inj this).2.symm⟩
        clear HS
        go_wp2
        go_ret2
        exact ⟨rfl, rfl⟩
      · have hx9 : x ≤ 9 := by omega
        have hr2 : getR (l.drop (k + 1)) (10 * a + x) = (E, N) := by have := HS.out; rwa [getR, if_neg hx] at this
        have ha2 : 10 * a + x < 10 ^ (k + 1) := by rw [Nat.pow_succ]; omega
        have hb2 := Nat.lt_of_lt_of_le ha2 (pow18 h11)
        have HR2 := Lib.hid hr2
        have HA2 := Lib.hid ha2
        have HAK := Lib.hid ha
        have w1 : IntKind.i64.wrap (10 * (a : Int)) = 10 * (a : Int) := IntWalk.i64_in _ (by omega)
        have w2 : IntKind.i64.wrap ((a : Int) * 10) = (a : Int) * 10 := IntWalk.i64_in _ (by omega)
        have w3 : IntKind.i64.wrap (10 * (a : Int) + (x : Int)) = 10 * (a : Int) + (x : Int) := IntWalk.i64_in _ (by omega)
        have w4 : IntKind.i64.wrap ((a : Int) * 10 + (x : Int)) = (a : Int) * 10 + (x : Int) := IntWalk.i64_in _ (by omega)
        clear HS hx hr2 ha2 ha h10
        go_wp2
        go_round
        case rel => exact ⟨k + 1, 10 * a + x, by omega, by go_num, by go_num, HA2.out, HR2.out⟩
        case measure => simp [intOf]; omega
    · have e : l.drop k = [] := List.drop_of_length_le (by rw [← HN.out]; omega)
      rw [e, getR] at hr
      obtain ⟨rfl, rfl⟩ : E = 0 ∧ N = a := ⟨(Prod.mk.inj hr).1.symm, (Prod.mk.inj hr).2.symm⟩
      have h10 := Nat.lt_of_lt_of_le ha (pow18 (show k ≤ 18 by omega))
      clear hr e ha
      go_wp2
      go_ret2
      exact ⟨rfl, rfl⟩
set_option linter.unusedVariables false
open Go.ChangeShapes Go.WideShapes Go.ChangeAt Go.RowKit

theorem part_bsc {W : World} {B : Nat} {l : List Nat} {A : Option Addr} {c : Nat} (h : Bs W B l A c) (o y : Nat) {a : Option Addr} {s : List Nat} (hs : s = (l.drop o).take y) (ha : a = if c = o then A else A.map (fun x => x.add o)) : Bs W B s a (c - o) := by
  have hlen := h.len
  have hcap := h.cap
  have hsl : s.length ≤ l.length - o := by rw [hs, List.length_take, List.length_drop]; omega
  by_cases h0 : s = []
  · subst h0
    refine ⟨by intro j u hu; simp [U8] at hu, fun e => ?_, by simp, by omega, by simp⟩
    rw [ha] at e
    have : A = none := by
      split at e
      · exact e
      · cases A
        · rfl
        · cases e
    have := h.nil this
    omega
  have hp : 0 < s.length := List.length_pos_iff.2 h0
  have hco : c ≠ o := by omega
  rw [if_neg hco] at ha
  have hp : IsPart A l a s := fun _ => ⟨o, ha, (l.drop o).drop y, by rw [hs, List.take_append_drop]⟩
  have hb := part_bs h hp (by omega)
  refine ⟨hb.rd, fun e => ?_, by omega, by omega, hb.lt⟩
  have := hb.nil e
  omega
theorem int_one1 (x : Int) : ∀ u ∈ ([.int .i64 x] : List Value), u.oneCell' = true := by
  intro u hu
  simp at hu
  subst hu
  rfl
set_option maxRecDepth 100000 in
set_option maxHeartbeats 1600000 in
theorem rsplit_any (l : List Nat) (ws : List Int) (ml m : Nat) (hml : ml = l.length) (hm : m = ws.length) (E : Int) (p : List Int) (hR : splitX l ws = (E, p)) (A A' : Option Addr) (c c' : Nat) (w : World) (hA : Bs w w.heap.size l A c) (hA' : Zs w w.heap.size ws A' c') :
    Calls Tryz.prog 80 #[.slice A ml c, .slice A' m c'] w fun e w' => ∃ A2 c2, e = .returned (.tuple #[.slice A2 (p.length : Nat) c2, .int .i64 E]) ∧ Zs w' w'.heap.size p A2 c2 ∧ Below w.heap.size w w' := by
  obtain ⟨i0, hi, hz0, hz1, hz2⟩ := info_parts infoInt
  have h63 : m ≤ 9223372036854775807 := by have := hA'.len; have := hA'.cap; omega
  have h63' : ml ≤ 9223372036854775807 := by have := hA.len; have := hA.cap; omega
  obtain ⟨T, hT⟩ : ∃ T, totX ws = T := ⟨_, rfl⟩
  rw [splitX, hT] at hR
  have HML := Lib.hid hml
  have HM := Lib.hid hm
  have HA := Lib.hid hA
  have HA' := Lib.hid hA'
  have HR := Lib.hid hR
  have HT := Lib.hid hT
  clear hml hm hA hA' hR hT
  by_cases h1 : 20 < m
  · have h2 : T = (0, 1) := by rw [← HT.out, totX, if_pos (by rw [← HM.out]; exact h1)]
    obtain ⟨rfl, rfl⟩ : E = 1 ∧ p = [] := by have := HR.out; rw [h2, if_pos (by decide)] at this; exact ⟨(Prod.mk.inj this).1.symm, (Prod.mk.inj this).2.symm⟩
    clear HR HT h2
    go_enter Tryz.func80, Tryz.ntmps80
    go_wp2
    go_ret2
    exact ⟨none, 0, rfl, zs_nil _, Below.refl _ _⟩
  have h20 : m ≤ 20 := by omega
  have HTR := Lib.hid (show totR ws 0 = T by rw [← HT.out, totX, if_neg (by rw [← HM.out]; exact h1)])
  clear h1
  go_enter Tryz.func80, Tryz.ntmps80
  go_wp2
  go_loop [6, 7] (fun t i => ∃ (k : Nat) (s : Int), k ≤ m ∧ i = .int .i64 k ∧ t = .int .i64 s ∧ 0 ≤ s ∧ s ≤ 18 * (k : Int) ∧ totR (ws.drop k) s = T) (fun _ i => m - (intOf i).toNat)
  case atStart => exact ⟨0, 0, Nat.zero_le _, rfl, rfl, by omega, by omega, HTR.out⟩
  case round =>
    obtain ⟨k, s, hk, rfl, rfl, hs0, hs1, hr⟩ := hrel
    have HRR := Lib.hid hr
    clear hr
    by_cases hlt : k < m
    · have hkw : k < ws.length := by rw [← HM.out]; exact hlt
      obtain ⟨y, hy⟩ : ∃ y, ws[k]? = some y := ⟨_, List.getElem?_eq_getElem hkw⟩
      have hdw : ws.drop k = y :: ws.drop (k + 1) := by rw [drop_at hkw]; congr 1; rw [List.getElem?_eq_getElem hkw] at hy; exact Option.some.inj hy
      obtain ⟨ad', rfl, hb', hc'⟩ := HA'.out.at hy
      have hj := HRR.out
      rw [hdw, totR] at hj
      have b1 : (0 : Int) ≤ (k : Int) := by omega
      have b2 : (k : Int) < (m : Int) := by omega
      clear hkw hy hdw HRR
      by_cases h0 : 0 ≤ y ∧ y ≤ 18
      · rw [if_pos h0] at hj
        have HJ := Lib.hid hj
        obtain ⟨hy0, hy1⟩ := h0
        have w1 : IntKind.i64.wrap (s + y) = s + y := IntWalk.i64_in _ (by omega)
        clear hj
        go_wp2
        go_round
        case rel => exact ⟨k + 1, s + y, by omega, by go_num, by go_num, by omega, by omega, HJ.out⟩
        case measure => simp [intOf]; omega
      · rw [if_neg h0] at hj
        obtain ⟨rfl, rfl⟩ : E = 1 ∧ p = [] := by have := HR.out; rw [← hj, if_pos (by decide)] at this; exact ⟨(Prod.mk.inj this).1.symm, (Prod.mk.inj this).2.symm⟩
        clear hj
        by_cases h0' : y < 0
        · clear h0
          go_wp2
          go_ret2
          exact ⟨none, 0, rfl, zs_nil _, Below.refl _ _⟩
        · have h1' : 0 ≤ y := by omega
          have h2' : 18 < y := by omega
          clear h0 h0'
          go_wp2
          go_ret2
          exact ⟨none, 0, rfl, zs_nil _, Below.refl _ _⟩
    · obtain rfl : k = m := by omega
      have hj := HRR.out
      rw [List.drop_of_length_le (by rw [← HM.out]; omega), totR] at hj
      have hT0 : totX ws = (s, 0) := by rw [HT.out, hj]
      obtain ⟨_, hw18, hsum⟩ := totX_ok (ws := ws) (by rw [hT0])
      rw [hT0] at hsum
      have hr := HR.out
      rw [← hj, if_neg (by simp)] at hr
      have HW18 := Lib.hid hw18
      have HSUM := Lib.hid hsum
      clear HRR hj hT0 hw18 hsum HTR HT HR
      by_cases hS : (l.length : Int) ≠ s
      · rw [if_pos hS] at hr
        obtain ⟨rfl, rfl⟩ := Prod.mk.inj hr
        have hne : (s != (ml : Int)) = true := by rw [bne_iff_ne, HML.out]; exact fun e => hS e.symm
        clear hr hS
        go_wp2
        go_ret2
        exact ⟨none, 0, rfl, zs_nil _, Below.refl _ _⟩
      rw [if_neg hS] at hr
      have hSe : s = (ml : Int) := by rw [HML.out]; omega
      subst hSe
      have HGR := Lib.hid hr
      have HS := Lib.hid (show (l.length : Int) = ws.sum by rw [← HML.out]; exact HSUM.out)
      have hml360 : ml ≤ 360 := by omega
      clear hr hS HSUM
      go_wp2
      go_loopw [8, 9, 10] (fun v t i wr => ∃ (j o : Nat) (out : List Int), j ≤ k ∧ i = .int .i64 j ∧ t = .int .i64 o ∧ o ≤ ml ∧ wr.ownsRow w.heap.size 3 1 v j (I64 out) ∧ getsR (cuts (l.drop o) (ws.drop j)) out = (E, p) ∧ ((l.drop o).length : Int) = (ws.drop j).sum ∧ Below w.heap.size w wr) (fun _ _ i _ => k - (intOf i).toNat)
      case atStart => exact ⟨0, 0, [], Nat.zero_le _, rfl, rfl, Nat.zero_le _, World.ownsRow_lit w #[] 0 (Nat.le_refl _) (by decide) rfl, HGR.out, HS.out, (Below.refl _ _).alloc (Nat.le_refl _) _⟩
      case round =>
        obtain ⟨j, o, out, hj, rfl, rfl, ho, hown, hgr, hsu, hbel⟩ := hrel
        have HO := Lib.hid hown
        have HG2 := Lib.hid hgr
        have HSU := Lib.hid hsu
        have HBL := Lib.hid hbel
        clear hown hgr hsu hbel HGR HS
        by_cases hjlt : j < k
        · have hkw : j < ws.length := by rw [← HM.out]; exact hjlt
          obtain ⟨y, hy⟩ : ∃ y, ws[j]? = some y := ⟨_, List.getElem?_eq_getElem hkw⟩
          have hdw : ws.drop j = y :: ws.drop (j + 1) := by rw [drop_at hkw]; congr 1; rw [List.getElem?_eq_getElem hkw] at hy; exact Option.some.inj hy
          obtain ⟨hy0, hy18⟩ := HW18.out y (List.mem_of_getElem? hy)
          obtain ⟨Y, rfl⟩ : ∃ Y : Nat, y = Y := ⟨y.toNat, by omega⟩
          have hsr := sum_nat (ws.drop (j + 1)) (fun x hx => HW18.out x (List.mem_of_mem_drop hx))
          have hss := HSU.out
          rw [hdw, List.sum_cons, List.length_drop, ← HML.out] at hss
          have hYr : o + Y ≤ ml := by omega
          have hsd : ((l.drop (o + Y)).length : Int) = (ws.drop (j + 1)).sum := by rw [List.length_drop, ← HML.out]; omega
          obtain ⟨ad', rfl, hb', hc'⟩ := (HA'.out.next HBL.out).at hy
          have hgr := HG2.out
          rw [hdw, cuts, Int.toNat_natCast, List.drop_drop, getsR] at hgr
          obtain ⟨q, hq⟩ : ∃ q, q = (l.drop o).take Y := ⟨_, rfl⟩
          have hql : Y = q.length := by rw [hq, List.length_take, List.length_drop, ← HML.out]; omega
          rw [← hq] at hgr
          obtain ⟨eg, zg, hg⟩ : ∃ eg zg, bgetX q = (eg, zg) := ⟨_, _, rfl⟩
          rw [hg] at hgr
          obtain ⟨ap, hap⟩ : ∃ ap, ap = if c = o then A else A.map (fun x => x.add o) := ⟨_, rfl⟩
          have HBS := Lib.hid (part_bsc (HA.out.next HBL.out) o Y hq hap)
          have HQL := Lib.hid hql
          have HG := Lib.hid hg
          have HSD := Lib.hid hsd
          have HGR := Lib.hid hgr
          have hmc : ml ≤ c := by rw [HML.out]; exact HA.out.len
          have b1 : (0 : Int) ≤ (j : Int) := by omega
          have b2 : (j : Int) < (k : Int) := by omega
          have w1 : IntKind.i64.wrap ((o : Int) + (Y : Int)) = (o : Int) + (Y : Int) := IntWalk.i64_in _ (by omega)
          have t1 : ((o : Int) + (Y : Int)).toNat = o + Y := by omega
          have t2 : o + Y - o = Y := by omega
          have g1 : (o : Int) ≤ (o : Int) + (Y : Int) := by omega
          have g2 : (o : Int) + (Y : Int) ≤ (c : Int) := by omega
          have HBL2 := Lib.hid HBL.out.size
          have HY := Lib.hid hy
          clear hkw hy hdw hsr hss hsd hgr hq hql hg
          have HAP := Lib.hid hap
          by_cases hco : c = o
          · have ea : ap = A := by have := HAP.out; rwa [if_pos hco] at this
            have HB0 := Lib.hid (show Bs wr wr.heap.size q ap 0 by have := HBS.out; rwa [hco, Nat.sub_self] at this)
            clear hap
            subst ea
            subst hco
            by_cases e0 : eg = 0
            · subst e0
              have hgr2 : getsR (cuts (l.drop (c + Y)) (ws.drop (j + 1))) (out ++ [(zg : Int)]) = (E, p) := by have := HGR.out; rwa [if_pos rfl] at this
              have HG3 := Lib.hid hgr2
              clear hgr2
              go_wp2_with (first | (go_at_call 113; refine (rget_any q Y HQL.out 0 zg HG.out ap 0 wr HB0.out).mono ?_; rintro e w' ⟨rfl, rfl⟩) | (at_builtin; refine wpList_append_own _ rfl _ _ 82 rfl w.heap.size 3 i0 (.int .i64 0) 1 8 Tryz.underlying82 hi hz0 hz1 hz2 rfl (by decide) _ j (I64 out) rfl (HO.out.alloc _) ⟨_, 0, none⟩ 1 1 [.int .i64 (zg : Int)] rfl rfl (cell_one_new _ _ _) (int_one1 _) ?c3 ?c4 ?c5 ?_))
              case c3 => unfold maxLen; omega
              case c4 => omega
              case c5 => have := HBL.out.size; simp; omega
              intro v' w2 hown' hgrow hnil
              have hbel2 : Below w.heap.size w w2 := (HBL.out.alloc HBL.out.size _).grown hgrow (by have := HBL.out.size; simp; omega) (fun g hg => own_ge HO.out hg)
              have hown1 : w2.ownsRow w.heap.size 3 1 v' (j + 1) (I64 (out ++ [(zg : Int)])) := by rw [I64_append]; exact hown'
              have HO2 := Lib.hid hown1
              obtain ⟨ad2, e2, _, hc2⟩ := (HA'.out.next hbel2).at HY.out
              cases e2
              clear hown' hgrow hnil hown1
              go_wp2
              go_roundw
              case rel => exact ⟨j + 1, c + Y, out ++ [(zg : Int)], by omega, by go_num, by go_num, by omega, HO2.out, HG3.out, HSD.out, hbel2⟩
              case measure => simp [intOf]; omega
            · have hne : (eg != 0) = true := by rw [bne_iff_ne]; exact e0
              obtain ⟨he, rfl⟩ : E = eg ∧ p = [] := by have := HGR.out; rw [if_neg e0] at this; exact ⟨(Prod.mk.inj this).1.symm, (Prod.mk.inj this).2.symm⟩
              subst he
              go_wp2_with (go_at_call 113; refine (rget_any q Y HQL.out E zg HG.out ap 0 wr HB0.out).mono ?_; rintro e w' ⟨rfl, rfl⟩)
              go_ret2
              exact ⟨none, 0, rfl, zs_nil _, HBL.out⟩
          · have ea : ap = A.map (fun x => x.add o) := by have := HAP.out; rwa [if_neg hco] at this
            have HB0 := HBS
            clear hap
            subst ea
            by_cases e0 : eg = 0
            · subst e0
              have hgr2 : getsR (cuts (l.drop (o + Y)) (ws.drop (j + 1))) (out ++ [(zg : Int)]) = (E, p) := by have := HGR.out; rwa [if_pos rfl] at this
              have HG3 := Lib.hid hgr2
              clear hgr2
              go_wp2_with (first | (go_at_call 113; refine (rget_any q Y HQL.out 0 zg HG.out _ (c - o) wr HB0.out).mono ?_; rintro e w' ⟨rfl, rfl⟩) | (at_builtin; refine wpList_append_own _ rfl _ _ 82 rfl w.heap.size 3 i0 (.int .i64 0) 1 8 Tryz.underlying82 hi hz0 hz1 hz2 rfl (by decide) _ j (I64 out) rfl (HO.out.alloc _) ⟨_, 0, none⟩ 1 1 [.int .i64 (zg : Int)] rfl rfl (cell_one_new _ _ _) (int_one1 _) ?c3 ?c4 ?c5 ?_))
              case c3 => unfold maxLen; omega
              case c4 => omega
              case c5 => have := HBL.out.size; simp; omega
              intro v' w2 hown' hgrow hnil
              have hbel2 : Below w.heap.size w w2 := (HBL.out.alloc HBL.out.size _).grown hgrow (by have := HBL.out.size; simp; omega) (fun g hg => own_ge HO.out hg)
              have hown1 : w2.ownsRow w.heap.size 3 1 v' (j + 1) (I64 (out ++ [(zg : Int)])) := by rw [I64_append]; exact hown'
              have HO2 := Lib.hid hown1
              obtain ⟨ad2, e2, _, hc2⟩ := (HA'.out.next hbel2).at HY.out
              cases e2
              clear hown' hgrow hnil hown1
              go_wp2
              go_roundw
              case rel => exact ⟨j + 1, o + Y, out ++ [(zg : Int)], by omega, by go_num, by go_num, by omega, HO2.out, HG3.out, HSD.out, hbel2⟩
              case measure => simp [intOf]; omega
            · have hne : (eg != 0) = true := by rw [bne_iff_ne]; exact e0
              obtain ⟨he, rfl⟩ : E = eg ∧ p = [] := by have := HGR.out; rw [if_neg e0] at this; exact ⟨(Prod.mk.inj this).1.symm, (Prod.mk.inj this).2.symm⟩
              subst he
              go_wp2_with (go_at_call 113; refine (rget_any q Y HQL.out E zg HG.out _ (c - o) wr HB0.out).mono ?_; rintro e w' ⟨rfl, rfl⟩)
              go_ret2
              exact ⟨none, 0, rfl, zs_nil _, HBL.out⟩
        · obtain rfl : j = k := by omega
          have hj := HG2.out
          rw [List.drop_of_length_le (show ws.length ≤ j by rw [← HM.out]; exact Nat.le_refl _), cuts, getsR] at hj
          obtain ⟨rfl, rfl⟩ : E = 0 ∧ p = out := ⟨(Prod.mk.inj hj).1.symm, (Prod.mk.inj hj).2.symm⟩
          obtain ⟨A2, c2, rfl, hjl, hz⟩ := zs_of_own HO.out
          have HZ := Lib.hid hz
          have HJL := Lib.hid hjl
          clear hj hz hjl
          go_wp2
          go_ret2
          exact ⟨A2, c2, by rw [HJL.out]; rfl, HZ.out, HBL.out⟩
end Go.Proofs.YtpniolinndlepaaGreatDoor
