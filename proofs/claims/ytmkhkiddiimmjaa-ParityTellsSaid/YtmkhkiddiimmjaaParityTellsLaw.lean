/-
  Law ParityTells walked, out of the contracts: it answers true. Conditions: the slice reads as ints that fit an int; the numbers fit an int.
-/
import Derived.Test.YtmkhkiddiimmjaaParityBackLaw
import Derived.Test.YtmkhkiddiimmjaaBitsEq
namespace Go.Proofs.Ytmkhkiddiimmjaa
set_option linter.unusedVariables false
open Go.ChangeShapes Go.WideShapes Go.ChangeAt Go.RowKit

theorem own_set_int {w : World} {base g n cap i : Nat} {l : List Int} (h : w.ownsRow base 3 1 (.slice (some ⟨g, 0, none⟩) n cap) n (I64 l)) (x : Int) (hi : i < l.length) :
    (w.setCell ⟨g, i, none⟩ (.int .i64 x)).ownsRow base 3 1 (.slice (some ⟨g, 0, none⟩) n cap) n (I64 (l.set i x)) := by
  have hl := h.1
  rcases h.2 with ⟨h', _⟩ | ⟨g', cap', cur, h', hb, hg, hnc, hcm, hcs, htake⟩
  · simp at h'
  · simp only [Value.slice.injEq, Option.some.injEq, Addr.mk.injEq, and_true, true_and] at h'
    obtain ⟨rfl, rfl⟩ := h'
    refine ⟨by rw [I64_len, List.length_set, ← I64_len]; exact hl, .inr ⟨g, cap, cur.setIfInBounds i (.int .i64 x), rfl, hb, heap_setCell_same w g i cur _ (.int .i64 x) hg, hnc, hcm, by simpa using hcs, ?_⟩⟩
    have e : I64 (l.set i x) = (I64 l).set i (.int .i64 x) := by simp [I64]
    rw [e, ← htake]
    simp only [Array.toList_setIfInBounds, List.take_set]
theorem Zs.cells {w : World} {B : Nat} {l : List Int} {ad : Addr} {c : Nat} (h : Zs w B l (some ad) c) : ∀ j u, (I64 l)[j]? = some u → w.cell? (ad.add j) = some u := by
  intro j u hu
  obtain ⟨ad', e, _, hc⟩ := h.rd j u hu
  cases e
  exact hc
set_option maxRecDepth 100000 in
set_option maxHeartbeats 1600000 in
theorem tells10_any (C : PC) (l : List Int) (n : Nat) (hn : n = l.length) (A : Option Addr) (c : Nat) (i v : Int) (jl : ∀ z ∈ l, In64 z) (ji : In64 i) (jv : In64 v) (w : World) (hA : Zs w w.heap.size l A c) : Calls Try.prog 7 #[.slice A n c, .int .i64 i, .int .i64 v] w fun e w' => e = .returned (.bool true) ∧ Below w.heap.size w w' := by
  obtain ⟨i0, hi, hz0, hz1, hz2⟩ := info_parts infoInt
  have RL := Lib.hid jl
  have HN := Lib.hid hn
  have L1 := Lib.hid hA
  have hc := hA.cap
  have hlc := hA.len
  have hn3 : n ≤ 9223372036854775807 := by omega
  clear jl hn hA hc hlc
  obtain ⟨x, hx⟩ : ∃ x, sumV l = x := ⟨_, rfl⟩
  have HX := Lib.hid hx
  clear hx
  have HBL := Lib.hid (Below.refl w.heap.size w)
  cases q0 : decide (1000 < n)
  case true =>
    have p0 : decide ((1000 : Int) < (n : Int)) = true := by rw [decide_eq_true_iff] at q0; exact decide_eq_true (by omega)
    obtain ⟨E, hE⟩ : ∃ E, sumE l = E := ⟨_, rfl⟩
    have HE := Lib.hid hE
    clear hE q0
    go_enter Try.func7, Try.ntmps7
    go_wp2_with fail
    refine (C.sum l n A c x E w HN.out RL.out HX.out HE.out L1.out).mono ?_
    rintro e w1 ⟨rfl, hb⟩
    replace L1 := Lib.hid (L1.out.next hb)
    replace HBL := Lib.hid (HBL.out.trans (hb.mono HBL.out.size))
    clear hb
    go_wp2_with fail
    refine (odd_any C w1).mono ?_
    rintro e w2 ⟨rfl, hb⟩
    replace L1 := Lib.hid (L1.out.next hb)
    replace HBL := Lib.hid (HBL.out.trans (hb.mono HBL.out.size))
    clear hb
    go_wp2
    go_ret
    exact ⟨rfl, HBL.out⟩
  case false =>
    have p0 : decide ((1000 : Int) < (n : Int)) = false := by rw [decide_eq_false_iff_not] at q0; exact decide_eq_false (by omega)
    have hn4 : n ≤ 1000 := by rw [decide_eq_false_iff_not] at q0; omega
    clear q0
    cases hs : sumOk l with
    | false =>
      have HE := Lib.hid (show sumE l = 1 by rw [sumE, hs]; rfl)
      clear hs
      go_enter Try.func7, Try.ntmps7
      go_wp2_with fail
      refine (C.sum l n A c x 1 w HN.out RL.out HX.out HE.out L1.out).mono ?_
      rintro e w1 ⟨rfl, hb⟩
      replace L1 := Lib.hid (L1.out.next hb)
      replace HBL := Lib.hid (HBL.out.trans (hb.mono HBL.out.size))
      clear hb
      go_wp2_with fail
      refine (odd_any C w1).mono ?_
      rintro e w2 ⟨rfl, hb⟩
      replace L1 := Lib.hid (L1.out.next hb)
      replace HBL := Lib.hid (HBL.out.trans (hb.mono HBL.out.size))
      clear hb
      go_wp2
      go_ret
      exact ⟨rfl, HBL.out⟩
    | true =>
      have HE := Lib.hid (show sumE l = 0 by rw [sumE, if_pos hs])
      have HS := Lib.hid hs
      clear hs
      cases q1 : decide (i < 0)
      case true =>
        go_enter Try.func7, Try.ntmps7
        go_wp2_with fail
        refine (C.sum l n A c x 0 w HN.out RL.out HX.out HE.out L1.out).mono ?_
        rintro e w1 ⟨rfl, hb⟩
        replace L1 := Lib.hid (L1.out.next hb)
        replace HBL := Lib.hid (HBL.out.trans (hb.mono HBL.out.size))
        clear hb
        go_wp2_with fail
        refine (odd_any C w1).mono ?_
        rintro e w2 ⟨rfl, hb⟩
        replace L1 := Lib.hid (L1.out.next hb)
        replace HBL := Lib.hid (HBL.out.trans (hb.mono HBL.out.size))
        clear hb
        go_wp2
        go_ret
        exact ⟨rfl, HBL.out⟩
      case false =>
        cases q2 : decide ((n : Int) ≤ i)
        case true =>
          go_enter Try.func7, Try.ntmps7
          go_wp2_with fail
          refine (C.sum l n A c x 0 w HN.out RL.out HX.out HE.out L1.out).mono ?_
          rintro e w1 ⟨rfl, hb⟩
          replace L1 := Lib.hid (L1.out.next hb)
          replace HBL := Lib.hid (HBL.out.trans (hb.mono HBL.out.size))
          clear hb
          go_wp2_with fail
          refine (odd_any C w1).mono ?_
          rintro e w2 ⟨rfl, hb⟩
          replace L1 := Lib.hid (L1.out.next hb)
          replace HBL := Lib.hid (HBL.out.trans (hb.mono HBL.out.size))
          clear hb
          go_wp2
          go_ret
          exact ⟨rfl, HBL.out⟩
        case false =>
          cases q3 : decide (v < 0)
          case true =>
            go_enter Try.func7, Try.ntmps7
            go_wp2_with fail
            refine (C.sum l n A c x 0 w HN.out RL.out HX.out HE.out L1.out).mono ?_
            rintro e w1 ⟨rfl, hb⟩
            replace L1 := Lib.hid (L1.out.next hb)
            replace HBL := Lib.hid (HBL.out.trans (hb.mono HBL.out.size))
            clear hb
            go_wp2_with fail
            refine (odd_any C w1).mono ?_
            rintro e w2 ⟨rfl, hb⟩
            replace L1 := Lib.hid (L1.out.next hb)
            replace HBL := Lib.hid (HBL.out.trans (hb.mono HBL.out.size))
            clear hb
            go_wp2
            go_ret
            exact ⟨rfl, HBL.out⟩
          case false =>
            cases q4 : decide (15 < v)
            case true =>
              go_enter Try.func7, Try.ntmps7
              go_wp2_with fail
              refine (C.sum l n A c x 0 w HN.out RL.out HX.out HE.out L1.out).mono ?_
              rintro e w1 ⟨rfl, hb⟩
              replace L1 := Lib.hid (L1.out.next hb)
              replace HBL := Lib.hid (HBL.out.trans (hb.mono HBL.out.size))
              clear hb
              go_wp2_with fail
              refine (odd_any C w1).mono ?_
              rintro e w2 ⟨rfl, hb⟩
              replace L1 := Lib.hid (L1.out.next hb)
              replace HBL := Lib.hid (HBL.out.trans (hb.mono HBL.out.size))
              clear hb
              go_wp2
              go_ret
              exact ⟨rfl, HBL.out⟩
            case false =>
              obtain ⟨k, hk⟩ : ∃ k : Nat, i = (k : Int) := ⟨i.toNat, by rw [decide_eq_false_iff_not] at q1; omega⟩
              subst hk
              have hkn : k < n := by rw [decide_eq_false_iff_not] at q2; omega
              have hkl : k < l.length := by rw [← HN.out]; exact hkn
              obtain ⟨z, hz⟩ : ∃ z, l[k]? = some z := ⟨_, List.getElem?_eq_getElem hkl⟩
              have hvv : isV v = true := by rw [decide_eq_false_iff_not] at q3 q4; exact (isV_iff v).2 ⟨by omega, by omega⟩
              have b0 : (0 : Int) ≤ (k : Int) := by omega
              have b1 : (k : Int) < (n : Int) := by omega
              go_enter Try.func7, Try.ntmps7
              go_wp2_with fail
              refine (C.sum l n A c x 0 w HN.out RL.out HX.out HE.out L1.out).mono ?_
              rintro e w1 ⟨rfl, hb⟩
              replace L1 := Lib.hid (L1.out.next hb)
              replace HBL := Lib.hid (HBL.out.trans (hb.mono HBL.out.size))
              clear hb
              obtain ⟨ad, rfl, hadl, hcz⟩ := L1.out.at hz
              have q5 : decide (n ≤ k) = false := decide_eq_false (by omega)
              have h63 : 0 + n ≤ maxLen := by unfold maxLen; omega
              have hby : (0 + n) * 8 ≤ 140737488355328 := by omega
              have hlit : (w1.alloc (.cells #[] 3)).ownsRow w1.heap.size 3 1 (.slice (some ⟨w1.heap.size, 0, none⟩) 0 0) 0 [] := World.ownsRow_lit w1 #[] 0 (Nat.le_refl _) (by decide) rfl
              have hnews := (L1.out.next (below_lit w1 #[] 3)).cells
              have HLEN := Lib.hid (show (I64 l).length = n * 1 by rw [I64_len, HN.out, Nat.mul_one])
              go_wp2_with (at_builtin; refine wpList_append_own _ rfl (.tmp 44) (.tmp 45) 27 rfl w1.heap.size 3 i0 (.int .i64 0) 1 8 Try.underlying27 hi hz0 hz1 hz2 rfl (by decide) _ 0 [] rfl hlit ad n c (I64 l) rfl HLEN.out hnews (I64_one l) h63 hby (by simp) ?_)
              intro m8 w8 hown8 hg8 hnil8
              rcases hown8.2 with ⟨h0, _⟩ | ⟨g, cap, cur, rfl, hgg, hrow, _⟩
              · exact absurd h0 hnil8
              have HB8 := ((Below.refl w1.heap.size w1).alloc (Nat.le_refl _) (.cells #[] 3)).grown hg8 (by simp) (fun q hq => own_ge hlit hq)
              obtain ⟨A8, c8, e8, hq8, hz8⟩ := zs_of_own hown8
              cases e8
              clear hq8
              have hcg : w8.cell? ⟨g, k, none⟩ = some (.int .i64 z) := by
                have := hz8.cells k _ (I64_at hz)
                rwa [at_add] at this
              have hfz : w8.frozen? ⟨g, k, none⟩ = false := frozen_of_row w8 g k _ _ hrow
              have HO9 := Lib.hid (own_set_int hown8 v hkl)
              have HB9 := Lib.hid (HB8.setCell (p := ⟨g, k, none⟩) hgg (.int .i64 v))
              have HNX := Lib.hid (show (1 : Int) * (k : Int) = (k : Int) by omega)
              have HZ := Lib.hid hz
              have HVV := Lib.hid hvv
              have HKL := Lib.hid hkl
              clear hrow hown8 hg8 hnil8 hlit hnews HB8 hz8 hgg hz hvv hkl hadl hcz
              go_wp2_with fail
              obtain ⟨w9, hw9⟩ : ∃ w9, w9 = w8.setCell ⟨g, k, none⟩ (.int .i64 v) := ⟨_, rfl⟩
              rw [← hw9]
              rw [← hw9] at HO9 HB9
              clear hw9
              obtain ⟨A9, c9, e9, hq9, hz9⟩ := zs_of_own HO9.out
              cases e9
              clear hq9
              replace L1 := Lib.hid (L1.out.next HB9.out)
              replace HBL := Lib.hid (HBL.out.trans (HB9.out.mono HBL.out.size))
              obtain ⟨t, ht⟩ : ∃ t, sumV (l.set k v) = t := ⟨_, rfl⟩
              have HT := Lib.hid ht
              have hso := sumOk_set HS.out HVV.out (i := k)
              have HTE := Lib.hid (show sumE (l.set k v) = 0 by rw [sumE, if_pos hso])
              have ex : x = ((sumX l : Nat) : Int) := by rw [← HX.out, sumV, if_pos HS.out]
              have et : t = ((sumX (l.set k v) : Nat) : Int) := by rw [← ht, sumV, if_pos hso]
              have htell := sum_tells HS.out HZ.out HVV.out
              have hlx := sumX_lt l HS.out
              have q6 : decide (0 ≤ x) = true := decide_eq_true (by omega)
              have q7 : decide (x ≤ 15) = true := decide_eq_true (by omega)
              have q8 : (x == t) = (v == z) := by
                by_cases hvz : v = z
                · rw [beq_iff_eq.2 hvz, beq_iff_eq, ex, et, htell.2 hvz]
                · rw [beq_eq_false_iff_ne.2 hvz, beq_eq_false_iff_ne, ex, et]
                  intro h
                  exact hvz (htell.1 (by exact_mod_cast h))
              have RL9 := Lib.hid (show ∀ y ∈ l.set k v, In64 y by
                intro y hy
                rcases List.mem_or_eq_of_mem_set hy with h1 | h1
                · exact RL.out y h1
                · rw [h1]; exact jv)
              have HN9 := Lib.hid (show n = (l.set k v).length by rw [List.length_set, HN.out])
              clear ht hso ex et htell hlx HO9 HB9
              refine (C.sum (l.set k v) n _ _ t 0 w9 HN9.out RL9.out HT.out HTE.out hz9).mono ?_
              rintro e w10 ⟨rfl, hb⟩
              replace L1 := Lib.hid (L1.out.next hb)
              replace HBL := Lib.hid (HBL.out.trans (hb.mono HBL.out.size))
              clear hb
              clear hz9
              go_wp2_with fail
              refine (odd_any C w10).mono ?_
              rintro e w11 ⟨rfl, hb⟩
              replace L1 := Lib.hid (L1.out.next hb)
              replace HBL := Lib.hid (HBL.out.trans (hb.mono HBL.out.size))
              clear hb
              have hcl := L1.out.cells k _ (I64_at HZ.out)
              go_wp2
              go_ret
              exact ⟨rfl, HBL.out⟩
end Go.Proofs.Ytmkhkiddiimmjaa
