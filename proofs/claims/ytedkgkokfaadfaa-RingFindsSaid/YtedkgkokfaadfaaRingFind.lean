/-
  Contract for the reference's Find: the key of a number, or the document's errors. Conditions: the slice reads as keys.
-/
import Derived.Test.YtedkgkokfaadfaaRingIs
import Derived.Test.YtedkgkokfaadfaaRingBox
namespace Go.Proofs.Ytedkgkokfaadfaa
set_option linter.unusedVariables false
open Go.ChangeShapes Go.WideShapes Go.ChangeAt Go.RowKit

/-- What Find answers. -/
def findK (l : List K) (id : Int) : K := if isR l = true then (l.find? fun k => k.id == id).getD K0 else K0
def findE (l : List K) (id : Int) : Int := if isR l = true then (if (l.find? fun k => k.id == id).isSome then 0 else 10) else 1
theorem find_at {l : List K} {p : K → Bool} (k : Nat) (hk : k < l.length) (h : ∀ j, j < k → p (l.getD j K0) = false) (hp : p (l.getD k K0) = true) : l.find? p = some (l.getD k K0) := by
  induction l generalizing k with
  | nil => simp at hk
  | cons x l ih =>
    cases k with
    | zero => simp at hp; simp [hp]
    | succ k =>
      have h0 := h 0 (by omega)
      simp at h0
      rw [List.find?_cons_of_neg (by simp [h0])]
      have := ih k (by simpa using hk) (fun j hj => by have := h (j + 1) (by omega); simpa using this) (by simpa using hp)
      simpa using this
theorem find_none {l : List K} {p : K → Bool} (h : ∀ j, j < l.length → p (l.getD j K0) = false) : l.find? p = none := by
  rw [List.find?_eq_none]
  intro x hx
  obtain ⟨j, hj, rfl⟩ := List.getElem_of_mem hx
  have := h j hj
  rw [List.getD_eq_getElem?_getD, List.getElem?_eq_getElem hj] at this
  simpa using this
theorem refis_named (l : List K) (n : Nat) (hn : n = l.length) (b : Bool) (hb : isR l = b) (A : Option Addr) (c : Nat) (w : World) (hA : Ks w w.heap.size A l) (h1 : n ≤ 9223372036854775807) :
    Calls Try.prog 16 #[.slice A n c] w fun e w' => e = .returned (.bool b) ∧ Below w.heap.size w w' := by
  subst hb
  exact refis_any l n hn A c w hA h1
set_option maxRecDepth 20000 in
theorem reffind_any (l : List K) (n : Nat) (hn : n = l.length) (id : Int) (A : Option Addr) (c : Nat) (w : World) (hA : Ks w w.heap.size A l) (h1 : n ≤ 9223372036854775807)
    (r : K) (E : Int) (hr : r = findK l id) (hE : E = findE l id) :
    Calls Try.prog 10 #[.slice A n c, .int .i64 id] w fun e w' => ∃ S cc, e = .returned (.tuple #[.agg #[.int .i64 r.id, .slice S r.sec.length cc, .int .i64 r.frm, .int .i64 r.til], .int .i64 E]) ∧ Bs w' w'.heap.size r.sec S cc ∧ Below w.heap.size w w' := by
  have HN := Lib.hid hn
  have HA := Lib.hid hA
  have HR := Lib.hid hr
  have HE := Lib.hid hE
  clear hn hA hr hE
  have HA1 := Lib.hid (HA.out.next (below_lit w #[.int .i64 0, .slice none 0 0, .int .i64 0, .int .i64 0] 26))
  cases his : isR l with
  | false =>
    have hr : r = K0 := by rw [HR.out, findK, his]; rfl
    have hE : E = 1 := by rw [HE.out, findE, his]; rfl
    subst hr hE
    go_enter Try.func10, Try.ntmps10
    go_wp2_with fail
    refine (refis_named l n HN.out false his A c _ HA1.out h1).mono ?_
    rintro e w1 ⟨rfl, hb1⟩
    have HBX := Lib.hid (show w1.heap[w.heap.size]? = some (.cells #[.int .i64 0, .slice none 0 0, .int .i64 0, .int .i64 0] 26 (0, 0)) from (hb1.block _ (by simp)).trans (heap_alloc_new w _))
    have HB1 := Lib.hid (below_after _ _ hb1)
    clear hb1
    go_wp2_with ((with_reducible refine at_store 4 ?_); refine wpList_store_named (o := ⟨none, .store 26 (.tmp 4) (.tmp 10), _, _, _, _⟩) rfl 26 (.tmp 4) (.tmp 10) rfl w.heap.size #[.int .i64 0, .slice none 0 0, .int .i64 0, .int .i64 0] rfl rfl 26 #[.int .i64 0, .slice none 0 0, .int .i64 0, .int .i64 0] HBX.out infoKey rfl (kc_one _ _ _ _ _ _) ?_; intro w5 hw5)
    have hr5 := setRow_heap w1 w.heap.size #[.int .i64 0, .slice none 0 0, .int .i64 0, .int .i64 0] #[.int .i64 0, .slice none 0 0, .int .i64 0, .int .i64 0] 26 (0, 0) HBX.out
    rw [← hw5.out] at hr5
    have hb5 := below_row hw5.out (Nat.le_refl w.heap.size)
    refine bodyPost_ret (results_row_tmp Try.results10 _ w5 w.heap.size 26 #[.int .i64 0, .slice none 0 0, .int .i64 0, .int .i64 0] (0, 0) _ rfl hr5 Try.underlying26 rfl infoKey) rfl ⟨none, 0, rfl, Bs.empty _ _, HB1.out.trans hb5⟩
  | true =>
    go_enter Try.func10, Try.ntmps10
    go_wp2_with fail
    refine (refis_named l n HN.out true his A c _ HA1.out h1).mono ?_
    rintro e w1 ⟨rfl, hb1⟩
    have HBX := Lib.hid (show w1.heap[w.heap.size]? = some (.cells #[.int .i64 0, .slice none 0 0, .int .i64 0, .int .i64 0] 26 (0, 0)) from (hb1.block _ (by simp)).trans (heap_alloc_new w _))
    have HB1 := Lib.hid (below_after _ _ hb1)
    have HK1 := Lib.hid (HA.out.below (below_after _ _ hb1))
    clear hb1
    go_wp2
    go_loop [6] (fun i => ∃ k : Nat, k ≤ n ∧ i = .int .i64 k ∧ ∀ j, j < k → ((fun q : K => q.id == id) (l.getD j K0)) = false) (fun i => n - (intOf i).toNat)
    case atStart => exact ⟨0, Nat.zero_le _, rfl, by omega⟩
    case round =>
      obtain ⟨k, hk, rfl, hall⟩ := hrel
      by_cases hlt : k < n
      · obtain ⟨ad, S, cc, rfl, had, hk4⟩ := HK1.out k (by rw [← HN.out]; exact hlt)
        have HKL := Lib.hid (show k < l.length by rw [← HN.out]; exact hlt)
        have HH := Lib.hid hall
        obtain ⟨x, hx⟩ : ∃ x, x = l.getD k K0 := ⟨_, rfl⟩
        rw [← hx] at hk4
        have HX := Lib.hid hx
        have HBS := Lib.hid hk4.bs
        have hc0 := hk4.c0
        have hc1 := hk4.c1
        have hc2 := hk4.c2
        have hc3 := hk4.c3
        have b1 : (0 : Int) ≤ (k : Int) := by omega
        have b2 : (k : Int) < (n : Int) := by omega
        clear hall hx hk4
        by_cases hid : x.id = id
        · have hf : (l.find? fun q => q.id == id) = some x := by rw [HX.out]; exact find_at k HKL.out HH.out (by rw [← HX.out]; simpa using hid)
          have hr : r = x := by rw [HR.out, findK, his, hf]; rfl
          have hE : E = 0 := by rw [HE.out, findE, his, hf]; rfl
          subst hr hE
          have e1 : (r.id == id) = true := by simpa using hid
          clear hf hid
          go_wp2_with ((with_reducible refine at_store 4 ?_); refine wpList_store_named (o := ⟨none, .store 26 (.tmp 4) (.tmp 27), _, _, _, _⟩) rfl 26 (.tmp 4) (.tmp 27) rfl w.heap.size #[.int .i64 r.id, .slice S r.sec.length cc, .int .i64 r.frm, .int .i64 r.til] rfl rfl 26 #[.int .i64 0, .slice none 0 0, .int .i64 0, .int .i64 0] HBX.out infoKey rfl (kc_one _ _ _ _ _ _) ?_; intro w5 hw5)
          have hr5 := setRow_heap w1 w.heap.size #[.int .i64 0, .slice none 0 0, .int .i64 0, .int .i64 0] #[.int .i64 r.id, .slice S r.sec.length cc, .int .i64 r.frm, .int .i64 r.til] 26 (0, 0) HBX.out
          rw [← hw5.out] at hr5
          have hb5 := below_row hw5.out (Nat.le_refl w.heap.size)
          refine bodyPost_ret (results_row_tmp Try.results10 _ w5 w.heap.size 26 #[.int .i64 r.id, .slice S r.sec.length cc, .int .i64 r.frm, .int .i64 r.til] (0, 0) _ rfl hr5 Try.underlying26 rfl infoKey) rfl ⟨S, cc, rfl, (HBS.out.below hb5).more (HB1.out.trans hb5).size, HB1.out.trans hb5⟩
        · have HST := Lib.hid (show ∀ j, j < k + 1 → ((fun q : K => q.id == id) (l.getD j K0)) = false from by
            intro j hj
            rcases Nat.lt_or_ge j k with h | h
            · exact HH.out j h
            · have e : j = k := by omega
              subst e
              rw [← HX.out]
              simpa using hid)
          go_wp2
          go_round
          case rel => exact ⟨k + 1, by omega, by go_num, HST.out⟩
          case measure => simp [intOf]; omega
      · have e : k = n := by omega
        have hf : (l.find? fun q => q.id == id) = none := find_none (by rw [← HN.out, ← e]; exact hall)
        have hr : r = K0 := by rw [HR.out, findK, his, hf]; rfl
        have hE : E = 10 := by rw [HE.out, findE, his, hf]; rfl
        subst hr hE
        clear hf hall
        go_wp2_with ((with_reducible refine at_store 4 ?_); refine wpList_store_named (o := ⟨none, .store 26 (.tmp 4) (.tmp 28), _, _, _, _⟩) rfl 26 (.tmp 4) (.tmp 28) rfl w.heap.size #[.int .i64 0, .slice none 0 0, .int .i64 0, .int .i64 0] rfl rfl 26 #[.int .i64 0, .slice none 0 0, .int .i64 0, .int .i64 0] HBX.out infoKey rfl (kc_one _ _ _ _ _ _) ?_; intro w5 hw5)
        have hr5 := setRow_heap w1 w.heap.size #[.int .i64 0, .slice none 0 0, .int .i64 0, .int .i64 0] #[.int .i64 0, .slice none 0 0, .int .i64 0, .int .i64 0] 26 (0, 0) HBX.out
        rw [← hw5.out] at hr5
        have hb5 := below_row hw5.out (Nat.le_refl w.heap.size)
        refine bodyPost_ret (results_row_tmp Try.results10 _ w5 w.heap.size 26 #[.int .i64 0, .slice none 0 0, .int .i64 0, .int .i64 0] (0, 0) _ rfl hr5 Try.underlying26 rfl infoKey) rfl ⟨none, 0, rfl, Bs.empty _ _, HB1.out.trans hb5⟩
end Go.Proofs.Ytedkgkokfaadfaa
