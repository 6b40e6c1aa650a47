/-
  Contract for the reference's On: the key of the greatest number that is used on a day, or the document's errors. Conditions: the slice reads as keys.
-/
import Derived.Test.YtedkgkokfaadfaaRingFind
namespace Go.Proofs.Ytedkgkokfaadfaa
set_option linter.unusedVariables false
open Go.ChangeShapes Go.WideShapes Go.ChangeAt Go.RowKit

def usedOn (day : Int) (q : K) : Bool := decide (q.frm ≤ day) && decide (day ≤ q.til)
/-- What On answers. -/
def onK (l : List K) (day : Int) : K := if isR l = true then (l.reverse.find? (usedOn day)).getD K0 else K0
def onE (l : List K) (day : Int) : Int := if isR l = true then (if (l.reverse.find? (usedOn day)).isSome then 0 else 20) else 1
theorem rev_getD (l : List K) (j : Nat) (hj : j < l.length) : l.reverse.getD j K0 = l.getD (l.length - 1 - j) K0 := by
  rw [List.getD_eq_getElem?_getD, List.getD_eq_getElem?_getD, List.getElem?_reverse hj]
theorem rfind_at {l : List K} {p : K → Bool} (k : Nat) (hk : k < l.length) (h : ∀ j, k < j → j < l.length → p (l.getD j K0) = false) (hp : p (l.getD k K0) = true) : l.reverse.find? p = some (l.getD k K0) := by
  have e : l.reverse.getD (l.length - 1 - k) K0 = l.getD k K0 := by rw [rev_getD l _ (by omega)]; congr 1; omega
  rw [← e]
  refine find_at _ (by simp; omega) (fun j hj => ?_) (by rw [e]; exact hp)
  rw [rev_getD l j (by omega)]
  exact h _ (by omega) (by omega)
theorem rfind_none {l : List K} {p : K → Bool} (h : ∀ j, j < l.length → p (l.getD j K0) = false) : l.reverse.find? p = none := by
  refine find_none fun j hj => ?_
  have hj' : j < l.length := by simpa using hj
  rw [rev_getD l j hj']
  exact h _ (by omega)

set_option maxRecDepth 20000 in
theorem refon_any (l : List K) (n : Nat) (hn : n = l.length) (day : Int) (A : Option Addr) (c : Nat) (w : World) (hA : Ks w w.heap.size A l) (h1 : n ≤ 9223372036854775807)
    (r : K) (E : Int) (hr : r = onK l day) (hE : E = onE l day) :
    Calls Try.prog 12 #[.slice A n c, .int .i64 day] w fun e w' => ∃ S cc, e = .returned (.tuple #[.agg #[.int .i64 r.id, .slice S r.sec.length cc, .int .i64 r.frm, .int .i64 r.til], .int .i64 E]) ∧ Bs w' w'.heap.size r.sec S cc ∧ Below w.heap.size w w' := by
  have HN := Lib.hid hn
  have HA := Lib.hid hA
  have HR := Lib.hid hr
  have HE := Lib.hid hE
  clear hn hA hr hE
  have HA1 := Lib.hid (HA.out.next (below_lit w #[.int .i64 0, .slice none 0 0, .int .i64 0, .int .i64 0] 26))
  cases his : isR l with
  | false =>
    have hr : r = K0 := by rw [HR.out, onK, his]; rfl
    have hE : E = 1 := by rw [HE.out, onE, his]; rfl
    subst hr hE
    go_enter Try.func12, Try.ntmps12
    go_wp2_with fail
    refine (refis_named l n HN.out false his A c _ HA1.out h1).mono ?_
    rintro e w1 ⟨rfl, hb1⟩
    have HBX := Lib.hid (show w1.heap[w.heap.size]? = some (.cells #[.int .i64 0, .slice none 0 0, .int .i64 0, .int .i64 0] 26 (0, 0)) from (hb1.block _ (by simp)).trans (heap_alloc_new w _))
    have HB1 := Lib.hid (below_after _ _ hb1)
    clear hb1
    go_wp2_with ((with_reducible refine at_store 4 ?_); refine wpList_store_named (o := ⟨none, .store 26 (.tmp 4) (.tmp 10), _, _, _, _⟩) rfl 26 (.tmp 4) (.tmp 10) rfl w.heap.size #[.int .i64 0, .slice none 0 0, .int .i64 0, .int .i64 0] rfl rfl 26 #[.int .i64 0, .slice none 0 0, .int .i64 0, .int .i64 0] HBX.out infoKey rfl (kc_one _ _ _ _ _ _) ?_; intro w5 hw5)
    have hr5 := setRow_heap w1 w.heap.size #[.int .i64 0, .slice none 0 0, .int .i64 0, .int .i64 0] #[.int .i64 0, .slice none 0 0, .int .i64 0, .int .i64 0] 26 (0, 0) HBX.out
    rw [← hw5.out] at hr5
    have hb5 := below_row hw5.out (Nat.le_refl w.heap.size)
    refine bodyPost_ret (results_row_tmp Try.results12 _ w5 w.heap.size 26 #[.int .i64 0, .slice none 0 0, .int .i64 0, .int .i64 0] (0, 0) _ rfl hr5 Try.underlying26 rfl infoKey) rfl ⟨none, 0, rfl, Bs.empty _ _, HB1.out.trans hb5⟩
  | true =>
    go_enter Try.func12, Try.ntmps12
    go_wp2_with fail
    refine (refis_named l n HN.out true his A c _ HA1.out h1).mono ?_
    rintro e w1 ⟨rfl, hb1⟩
    have HBX := Lib.hid (show w1.heap[w.heap.size]? = some (.cells #[.int .i64 0, .slice none 0 0, .int .i64 0, .int .i64 0] 26 (0, 0)) from (hb1.block _ (by simp)).trans (heap_alloc_new w _))
    have HB1 := Lib.hid (below_after _ _ hb1)
    have HK1 := Lib.hid (HA.out.below (below_after _ _ hb1))
    have hnn : IntKind.i64.wrap ((n : Int) - 1) = (n : Int) - 1 := IntWalk.i64_in _ (by omega)
    clear hb1
    go_wp2
    go_loop [6] (fun i => ∃ k : Nat, k ≤ n ∧ i = .int .i64 ((k : Int) - 1) ∧ ∀ j, k ≤ j → j < n → usedOn day (l.getD j K0) = false) (fun i => (intOf i + 1).toNat)
    case atStart => exact ⟨n, Nat.le_refl _, rfl, by omega⟩
    case round =>
      obtain ⟨k, hk, hi, hall⟩ := hrel
      cases k with
      | succ m =>
        rw [show ((m + 1 : Nat) : Int) - 1 = (m : Int) by omega] at hi
        subst hi
        obtain ⟨ad, S, cc, rfl, had, hk4⟩ := HK1.out m (by rw [← HN.out]; omega)
        have HKL := Lib.hid (show m < l.length by rw [← HN.out]; omega)
        have HH := Lib.hid hall
        obtain ⟨x, hx⟩ : ∃ x, x = l.getD m K0 := ⟨_, rfl⟩
        rw [← hx] at hk4
        have HX := Lib.hid hx
        have HBS := Lib.hid hk4.bs
        have hc0 := hk4.c0
        have hc1 := hk4.c1
        have hc2 := hk4.c2
        have hc3 := hk4.c3
        have b1 : (0 : Int) ≤ (m : Int) := by omega
        have b2 : (m : Int) < (n : Int) := by omega
        clear hall hx hk4
        by_cases hu : x.frm ≤ day ∧ day ≤ x.til
        · obtain ⟨hu1, hu2⟩ := hu
          have hf : (l.reverse.find? (usedOn day)) = some x := by
            rw [HX.out]
            refine rfind_at m HKL.out (fun j hj hjl => HH.out j (by omega) (by rw [HN.out]; exact hjl)) ?_
            rw [← HX.out, usedOn]
            simp [hu1, hu2]
          have hr : r = x := by rw [HR.out, onK, his, hf]; rfl
          have hE : E = 0 := by rw [HE.out, onE, his, hf]; rfl
          subst hr hE
          clear hf
          go_wp2_with ((with_reducible refine at_store 4 ?_); refine wpList_store_named (o := ⟨none, .store 26 (.tmp 4) (.tmp 37), _, _, _, _⟩) rfl 26 (.tmp 4) (.tmp 37) rfl w.heap.size #[.int .i64 r.id, .slice S r.sec.length cc, .int .i64 r.frm, .int .i64 r.til] rfl rfl 26 #[.int .i64 0, .slice none 0 0, .int .i64 0, .int .i64 0] HBX.out infoKey rfl (kc_one _ _ _ _ _ _) ?_; intro w5 hw5)
          have hr5 := setRow_heap w1 w.heap.size #[.int .i64 0, .slice none 0 0, .int .i64 0, .int .i64 0] #[.int .i64 r.id, .slice S r.sec.length cc, .int .i64 r.frm, .int .i64 r.til] 26 (0, 0) HBX.out
          rw [← hw5.out] at hr5
          have hb5 := below_row hw5.out (Nat.le_refl w.heap.size)
          refine bodyPost_ret (results_row_tmp Try.results12 _ w5 w.heap.size 26 #[.int .i64 r.id, .slice S r.sec.length cc, .int .i64 r.frm, .int .i64 r.til] (0, 0) _ rfl hr5 Try.underlying26 rfl infoKey) rfl ⟨S, cc, rfl, (HBS.out.below hb5).more (HB1.out.trans hb5).size, HB1.out.trans hb5⟩
        · have HST := Lib.hid (show ∀ j, m ≤ j → j < n → usedOn day (l.getD j K0) = false from by
            intro j hj hjn
            rcases Nat.lt_or_ge m j with h | h
            · exact HH.out j h hjn
            · have e : j = m := by omega
              subst e
              rw [← HX.out, usedOn]
              simp; omega)
          have hmm : IntKind.i64.wrap ((m : Int) - 1) = (m : Int) - 1 := IntWalk.i64_in _ (by omega)
          rcases (show day < x.frm ∨ (x.frm ≤ day ∧ x.til < day) by omega) with h | ⟨h, h'⟩
          all_goals
            go_wp2
            go_round
            case rel => exact ⟨m, by omega, rfl, HST.out⟩
            case measure => simp [intOf]
      | zero =>
        rw [show ((0 : Nat) : Int) - 1 = -1 by rfl] at hi
        subst hi
        have hf : (l.reverse.find? (usedOn day)) = none := rfind_none (fun j hj => hall j (Nat.zero_le _) (by rw [HN.out]; exact hj))
        have hr : r = K0 := by rw [HR.out, onK, his, hf]; rfl
        have hE : E = 20 := by rw [HE.out, onE, his, hf]; rfl
        subst hr hE
        clear hf hall
        go_wp2_with ((with_reducible refine at_store 4 ?_); refine wpList_store_named (o := ⟨none, .store 26 (.tmp 4) (.tmp 38), _, _, _, _⟩) rfl 26 (.tmp 4) (.tmp 38) rfl w.heap.size #[.int .i64 0, .slice none 0 0, .int .i64 0, .int .i64 0] rfl rfl 26 #[.int .i64 0, .slice none 0 0, .int .i64 0, .int .i64 0] HBX.out infoKey rfl (kc_one _ _ _ _ _ _) ?_; intro w5 hw5)
        have hr5 := setRow_heap w1 w.heap.size #[.int .i64 0, .slice none 0 0, .int .i64 0, .int .i64 0] #[.int .i64 0, .slice none 0 0, .int .i64 0, .int .i64 0] 26 (0, 0) HBX.out
        rw [← hw5.out] at hr5
        have hb5 := below_row hw5.out (Nat.le_refl w.heap.size)
        refine bodyPost_ret (results_row_tmp Try.results12 _ w5 w.heap.size 26 #[.int .i64 0, .slice none 0 0, .int .i64 0, .int .i64 0] (0, 0) _ rfl hr5 Try.underlying26 rfl infoKey) rfl ⟨none, 0, rfl, Bs.empty _ _, HB1.out.trans hb5⟩
end Go.Proofs.Ytedkgkokfaadfaa
