/-
  Contract for the reference's Split: the numbers of the parts, or the document's error. Conditions: none.
-/
import Derived.Test.YtekgoleadblhhaaBcdPParts
import Derived.Test.YtekgoleadblhhaaBcdRefGet
namespace Go.Proofs.Ytekgoleadblhhaa
set_option linter.unusedVariables false
open Go.ChangeShapes Go.WideShapes Go.ChangeAt Go.RowKit

theorem part_bsc {W : World} {B : Nat} {l : List Nat} {A : Option Addr} {c : Nat} (h : Bs W B l A c) (o y : Nat) {a : Option Addr} {s : List Nat} (hs : s = (l.drop o).take y) (ha : a = if c = o then A else A.map (fun x => x.add o)) : Bs W B s a (c - o) := by
  have hlen := h.len
  have hcap := h.cap
  have hsl : s.length ≤ l.length - o := by rw [hs, List.length_take, List.length_drop]; omega
  by_cases h0 : s = []
  · subst h0
    refine ⟨by intro j u hu; simp [U8] at hu, fun e => ?_, by simp, by omega, by simp⟩
    rw [ha] at e
    have : A = none := by
      split at e
      · exact e
      · cases A
        · rfl
        · cases e
    have := h.nil this
    omega
  have hp : 0 < s.length := List.length_pos_iff.2 h0
  have hco : c ≠ o := by omega
  rw [if_neg hco] at ha
  have hp : IsPart A l a s := fun _ => ⟨o, ha, (l.drop o).drop y, by rw [hs, List.take_append_drop]⟩
  have hb := part_bs h hp (by omega)
  refine ⟨hb.rd, fun e => ?_, by omega, by omega, hb.lt⟩
  have := hb.nil e
  omega
theorem int_one1 (x : Int) : ∀ u ∈ ([.int .i64 x] : List Value), u.oneCell' = true := by
  intro u hu
  simp at hu
  subst hu
  rfl
set_option maxRecDepth 100000 in
set_option maxHeartbeats 1600000 in
theorem rsplit_any (l : List Nat) (ws : List Int) (ml m : Nat) (hml : ml = l.length) (hm : m = ws.length) (E : Int) (p : List Int) (hR : splitX l ws = (E, p)) (A A' : Option Addr) (c c' : Nat) (w : World) (hA : Bs w w.heap.size l A c) (hA' : Zs w w.heap.size ws A' c') :
    Calls Try.prog 17 #[.slice A ml c, .slice A' m c'] w fun e w' => ∃ A2 c2, e = .returned (.tuple #[.slice A2 (p.length : Nat) c2, .int .i64 E]) ∧ Zs w' w'.heap.size p A2 c2 ∧ Below w.heap.size w w' := by
  obtain ⟨i0, hi, hz0, hz1, hz2⟩ := info_parts infoInt
  have h63 : m ≤ 9223372036854775807 := by have := hA'.len; have := hA'.cap; omega
  have h63' : ml ≤ 9223372036854775807 := by have := hA.len; have := hA.cap; omega
  obtain ⟨T, hT⟩ : ∃ T, totX ws = T := ⟨_, rfl⟩
  rw [splitX, hT] at hR
  have HML := Lib.hid hml
  have HM := Lib.hid hm
  have HA := Lib.hid hA
  have HA' := Lib.hid hA'
  have HR := Lib.hid hR
  have HT := Lib.hid hT
  clear hml hm hA hA' hR hT
  by_cases h1 : 20 < m
  · have h2 : T = (0, 1) := by rw [← HT.out, totX, if_pos (by rw [← HM.out]; exact h1)]
    obtain ⟨rfl, rfl⟩ : E = 1 ∧ p = [] := by have := HR.out; rw [h2, if_pos (by decide)] at this; exact ⟨(Prod.mk.inj this).1.symm, (Prod.mk.inj this).2.symm⟩
    clear HR HT h2
    go_enter Try.func17, Try.ntmps17
    go_wp2
    go_ret2
    exact ⟨none, 0, rfl, zs_nil _, Below.refl _ _⟩
  have h20 : m ≤ 20 := by omega
  have HTR := Lib.hid (show totR ws 0 = T by rw [← HT.out, totX, if_neg (by rw [← HM.out]; exact h1)])
  clear h1
  go_enter Try.func17, Try.ntmps17
  go_wp2
  go_loop [6, 7] (fun t i => ∃ (k : Nat) (s : Int), k ≤ m ∧ i = .int .i64 k ∧ t = .int .i64 s ∧ 0 ≤ s ∧ s ≤ 18 * (k : Int) ∧ totR (ws.drop k) s = T) (fun _ i => m - (intOf i).toNat)
  case atStart => exact ⟨0, 0, Nat.zero_le _, rfl, rfl, by omega, by omega, HTR.out⟩
  case round =>
    obtain ⟨k, s, hk, rfl, rfl, hs0, hs1, hr⟩ := hrel
    have HRR := Lib.hid hr
    clear hr
    by_cases hlt : k < m
    · have hkw : k < ws.length := by rw [← HM.out]; exact hlt
      obtain ⟨y, hy⟩ : ∃ y, ws[k]? = some y := ⟨_, List.getElem?_eq_getElem hkw⟩
      have hdw : ws.drop k = y :: ws.drop (k + 1) := by rw [drop_at hkw]; congr 1; rw [List.getElem?_eq_getElem hkw] at hy; exact Option.some.inj hy
      obtain ⟨ad', rfl, hb', hc'⟩ := HA'.out.at hy
      have hj := HRR.out
      rw [hdw, totR] at hj
      have b1 : (0 : Int) ≤ (k : Int) := by omega
      have b2 : (k : Int) < (m : Int) := by omega
      clear hkw hy hdw HRR
      by_cases h0 : 0 ≤ y ∧ y ≤ 18
      · rw [if_pos h0] at hj
        have HJ := Lib.hid hj
        obtain ⟨hy0, hy1⟩ := h0
        have w1 : IntKind.i64.wrap (s + y) = s + y := IntWalk.i64_in _ (by omega)
        clear hj
        go_wp2
        go_round
        case rel => exact ⟨k + 1, s + y, by omega, by go_num, by go_num, by omega, by omega, HJ.out⟩
        case measure => simp [intOf]; omega
      · rw [if_neg h0] at hj
        obtain ⟨rfl, rfl⟩ : E = 1 ∧ p = [] := by have := HR.out; rw [← hj, if_pos (by decide)] at this; exact ⟨(Prod.mk.inj this).1.symm, (Prod.mk.inj this).2.symm⟩
        clear hj
        by_cases h0' : y < 0
        · clear h0
          go_wp2
          go_ret2
          exact ⟨none, 0, rfl, zs_nil _, Below.refl _ _⟩
        · have h1' : 0 ≤ y := by omega
          have h2' : 18 < y := by omega
          clear h0 h0'
          go_wp2
          go_ret2
          exact ⟨none, 0, rfl, zs_nil _, Below.refl _ _⟩
    · obtain rfl : k = m := by omega
      have hj := HRR.out
      rw [List.drop_of_length_le (by rw [← HM.out]; omega), totR] at hj
      have hT0 : totX ws = (s, 0) := by rw [HT.out, hj]
      obtain ⟨_, hw18, hsum⟩ := totX_ok (ws := ws) (by rw [hT0])
      rw [hT0] at hsum
      have hr := HR.out
      rw [← hj, if_neg (by simp)] at hr
      have HW18 := Lib.hid hw18
      have HSUM := Lib.hid hsum
      clear HRR hj hT0 hw18 hsum HTR HT HR
      by_cases hS : (l.length : Int) ≠ s
      · rw [if_pos hS] at hr
        obtain ⟨rfl, rfl⟩ := Prod.mk.inj hr
        have hne : (s != (ml : Int)) = true := by rw [bne_iff_ne, HML.out]; exact fun e => hS e.symm
        clear hr hS
        go_wp2
        go_ret2
        exact ⟨none, 0, rfl, zs_nil _, Below.refl _ _⟩
      rw [if_neg hS] at hr
      have hSe : s = (ml : Int) := by rw [HML.out]; omega
      subst hSe
      have HGR := Lib.hid hr
      have HS := Lib.hid (show (l.length : Int) = ws.sum by rw [← HML.out]; exact HSUM.out)
      have hml360 : ml ≤ 360 := by omega
      clear hr hS HSUM
      go_wp2
      go_loopw [8, 9, 10] (fun v t i wr => ∃ (j o : Nat) (out : List Int), j ≤ k ∧ i = .int .i64 j ∧ t = .int .i64 o ∧ o ≤ ml ∧ wr.ownsRow w.heap.size 3 1 v j (I64 out) ∧ getsR (cuts (l.drop o) (ws.drop j)) out = (E, p) ∧ ((l.drop o).length : Int) = (ws.drop j).sum ∧ Below w.heap.size w wr) (fun _ _ i _ => k - (intOf i).toNat)
      case atStart => exact ⟨0, 0, [], Nat.zero_le _, rfl, rfl, Nat.zero_le _, World.ownsRow_lit w #[] 0 (Nat.le_refl _) (by decide) rfl, HGR.out, HS.out, (Below.refl _ _).alloc (Nat.le_refl _) _⟩
      case round =>
        obtain ⟨j, o, out, hj, rfl, rfl, ho, hown, hgr, hsu, hbel⟩ := hrel
        have HO := Lib.hid hown
        have HG2 := Lib.hid hgr
        have HSU := Lib.hid hsu
        have HBL := Lib.hid hbel
        clear hown hgr hsu hbel HGR HS
        by_cases hjlt : j < k
        · have hkw : j < ws.length := by rw [← HM.out]; exact hjlt
          obtain ⟨y, hy⟩ : ∃ y, ws[j]? = some y := ⟨_, List.getElem?_eq_getElem hkw⟩
          have hdw : ws.drop j = y :: ws.drop (j + 1) := by rw [drop_at hkw]; congr 1; rw [List.getElem?_eq_getElem hkw] at hy; exact Option.some.inj hy
          obtain ⟨hy0, hy18⟩ := HW18.out y (List.mem_of_getElem? hy)
          obtain ⟨Y, rfl⟩ : ∃ Y : Nat, y = Y := ⟨y.toNat, by omega⟩
          have hsr := sum_nat (ws.drop (j + 1)) (fun x hx => HW18.out x (List.mem_of_mem_drop hx))
          have hss := HSU.out
          rw [hdw, List.sum_cons, List.length_drop, ← HML.out] at hss
          have hYr : o + Y ≤ ml := by omega
          have hsd : ((l.drop (o + Y)).length : Int) = (ws.drop (j + 1)).sum := by rw [List.length_drop, ← HML.out]; omega
          obtain ⟨ad', rfl, hb', hc'⟩ := (HA'.out.next HBL.out).at hy
          have hgr := HG2.out
          rw [hdw, cuts, Int.toNat_natCast, List.drop_drop, getsR] at hgr
          obtain ⟨q, hq⟩ : ∃ q, q = (l.drop o).take Y := ⟨_, rfl⟩
          have hql : Y = q.length := by rw [hq, List.length_take, List.length_drop, ← HML.out]; omega
          rw [← hq] at hgr
          obtain ⟨eg, zg, hg⟩ : ∃ eg zg, getX q = (eg, zg) := ⟨_, _, rfl⟩
          rw [hg] at hgr
          obtain ⟨ap, hap⟩ : ∃ ap, ap = if c = o then A else A.map (fun x => x.add o) := ⟨_, rfl⟩
          have HBS := Lib.hid (part_bsc (HA.out.next HBL.out) o Y hq hap)
          have HQL := Lib.hid hql
          have HG := Lib.hid hg
          have HSD := Lib.hid hsd
          have HGR := Lib.hid hgr
          have hmc : ml ≤ c := by rw [HML.out]; exact HA.out.len
          have b1 : (0 : Int) ≤ (j : Int) := by omega
          have b2 : (j : Int) < (k : Int) := by omega
          have w1 : IntKind.i64.wrap ((o : Int) + (Y : Int)) = (o : Int) + (Y : Int) := IntWalk.i64_in _ (by omega)
          have t1 : ((o : Int) + (Y : Int)).toNat = o + Y := by omega
          have t2 : o + Y - o = Y := by omega
          have g1 : (o : Int) ≤ (o : Int) + (Y : Int) := by omega
          have g2 : (o : Int) + (Y : Int) ≤ (c : Int) := by omega
          have HBL2 := Lib.hid HBL.out.size
          have HY := Lib.hid hy
          clear hkw hy hdw hsr hss hsd hgr hq hql hg
          have HAP := Lib.hid hap
          by_cases hco : c = o
          · have ea : ap = A := by have := HAP.out; rwa [if_pos hco] at this
            have HB0 := Lib.hid (show Bs wr wr.heap.size q ap 0 by have := HBS.out; rwa [hco, Nat.sub_self] at this)
            clear hap
            subst ea
            subst hco
            by_cases e0 : eg = 0
            · subst e0
              have hgr2 : getsR (cuts (l.drop (c + Y)) (ws.drop (j + 1))) (out ++ [(zg : Int)]) = (E, p) := by have := HGR.out; rwa [if_pos rfl] at this
              have HG3 := Lib.hid hgr2
              clear hgr2
              go_wp2_with (first | (go_at_call 11; refine (rget_any q Y HQL.out 0 zg HG.out ap 0 wr HB0.out).mono ?_; rintro e w' ⟨rfl, rfl⟩) | (at_builtin; refine wpList_append_own _ rfl _ _ 31 rfl w.heap.size 3 i0 (.int .i64 0) 1 8 Try.underlying31 hi hz0 hz1 hz2 rfl (by decide) _ j (I64 out) rfl (HO.out.alloc _) ⟨_, 0, none⟩ 1 1 [.int .i64 (zg : Int)] rfl rfl (cell_one_new _ _ _) (int_one1 _) ?c3 ?c4 ?c5 ?_))
              case c3 => unfold maxLen; omega
              case c4 => omega
              case c5 => have := HBL.out.size; simp; omega
              intro v' w2 hown' hgrow hnil
              have hbel2 : Below w.heap.size w w2 := (HBL.out.alloc HBL.out.size _).grown hgrow (by have := HBL.out.size; simp; omega) (fun g hg => own_ge HO.out hg)
              have hown1 : w2.ownsRow w.heap.size 3 1 v' (j + 1) (I64 (out ++ [(zg : Int)])) := by rw [I64_append]; exact hown'
              have HO2 := Lib.hid hown1
              obtain ⟨ad2, e2, _, hc2⟩ := (HA'.out.next hbel2).at HY.out
              cases e2
              clear hown' hgrow hnil hown1
              go_wp2
              go_roundw
              case rel => exact ⟨j + 1, c + Y, out ++ [(zg : Int)], by omega, by go_num, by go_num, by omega, HO2.out, HG3.out, HSD.out, hbel2⟩
              case measure => simp [intOf]; omega
            · have hne : (eg != 0) = true := by rw [bne_iff_ne]; exact e0
              obtain ⟨he, rfl⟩ : E = eg ∧ p = [] := by have := HGR.out; rw [if_neg e0] at this; exact ⟨(Prod.mk.inj this).1.symm, (Prod.mk.inj this).2.symm⟩
              subst he
              go_wp2_with (go_at_call 11; refine (rget_any q Y HQL.out E zg HG.out ap 0 wr HB0.out).mono ?_; rintro e w' ⟨rfl, rfl⟩)
              go_ret2
              exact ⟨none, 0, rfl, zs_nil _, HBL.out⟩
          · have ea : ap = A.map (fun x => x.add o) := by have := HAP.out; rwa [if_neg hco] at this
            have HB0 := HBS
            clear hap
            subst ea
            by_cases e0 : eg = 0
            · subst e0
              have hgr2 : getsR (cuts (l.drop (o + Y)) (ws.drop (j + 1))) (out ++ [(zg : Int)]) = (E, p) := by have := HGR.out; rwa [if_pos rfl] at this
              have HG3 := Lib.hid hgr2
              clear hgr2
              go_wp2_with (first | (go_at_call 11; refine (rget_any q Y HQL.out 0 zg HG.out _ (c - o) wr HB0.out).mono ?_; rintro e w' ⟨rfl, rfl⟩) | (at_builtin; refine wpList_append_own _ rfl _ _ 31 rfl w.heap.size 3 i0 (.int .i64 0) 1 8 Try.underlying31 hi hz0 hz1 hz2 rfl (by decide) _ j (I64 out) rfl (HO.out.alloc _) ⟨_, 0, none⟩ 1 1 [.int .i64 (zg : Int)] rfl rfl (cell_one_new _ _ _) (int_one1 _) ?c3 ?c4 ?c5 ?_))
              case c3 => unfold maxLen; omega
              case c4 => omega
              case c5 => have := HBL.out.size; simp; omega
              intro v' w2 hown' hgrow hnil
              have hbel2 : Below w.heap.size w w2 := (HBL.out.alloc HBL.out.size _).grown hgrow (by have := HBL.out.size; simp; omega) (fun g hg => own_ge HO.out hg)
              have hown1 : w2.ownsRow w.heap.size 3 1 v' (j + 1) (I64 (out ++ [(zg : Int)])) := by rw [I64_append]; exact hown'
              have HO2 := Lib.hid hown1
              obtain ⟨ad2, e2, _, hc2⟩ := (HA'.out.next hbel2).at HY.out
              cases e2
              clear hown' hgrow hnil hown1
              go_wp2
              go_roundw
              case rel => exact ⟨j + 1, o + Y, out ++ [(zg : Int)], by omega, by go_num, by go_num, by omega, HO2.out, HG3.out, HSD.out, hbel2⟩
              case measure => simp [intOf]; omega
            · have hne : (eg != 0) = true := by rw [bne_iff_ne]; exact e0
              obtain ⟨he, rfl⟩ : E = eg ∧ p = [] := by have := HGR.out; rw [if_neg e0] at this; exact ⟨(Prod.mk.inj this).1.symm, (Prod.mk.inj this).2.symm⟩
              subst he
              go_wp2_with (go_at_call 11; refine (rget_any q Y HQL.out E zg HG.out _ (c - o) wr HB0.out).mono ?_; rintro e w' ⟨rfl, rfl⟩)
              go_ret2
              exact ⟨none, 0, rfl, zs_nil _, HBL.out⟩
        · obtain rfl : j = k := by omega
          have hj := HG2.out
          rw [List.drop_of_length_le (show ws.length ≤ j by rw [← HM.out]; exact Nat.le_refl _), cuts, getsR] at hj
          obtain ⟨rfl, rfl⟩ : E = 0 ∧ p = out := ⟨(Prod.mk.inj hj).1.symm, (Prod.mk.inj hj).2.symm⟩
          obtain ⟨A2, c2, rfl, hjl, hz⟩ := zs_of_own HO.out
          have HZ := Lib.hid hz
          have HJL := Lib.hid hjl
          clear hj hz hjl
          go_wp2
          go_ret2
          exact ⟨A2, c2, by rw [HJL.out]; rfl, HZ.out, HBL.out⟩
end Go.Proofs.Ytekgoleadblhhaa
