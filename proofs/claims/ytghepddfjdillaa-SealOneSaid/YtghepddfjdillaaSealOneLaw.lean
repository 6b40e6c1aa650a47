/-
  Proved: for all bytes, places and bits the law SealOne answers true, and leaves what came in as it was. Conditions: none beyond the statement's own.
-/
import Derived.Test.YtghepddfjdillaaSealNamed
namespace Go.Proofs.Ytghepddfjdillaa
set_option linter.unusedVariables false
open Go.ChangeShapes Go.WideShapes Go.ChangeAt Go.RowKit

/-- The row of its own, one byte turned. -/
theorem own_set {w : World} {base : Nat} {g cap n : Nat} {l : List Nat} (i y : Nat) (h : w.ownsRow base 5 1 (.slice (some ⟨g, 0, none⟩) n cap) n (U8 l)) (hi : i < n) :
    (∃ v, w.cell? ⟨g, i, none⟩ = some v) ∧ w.frozen? ⟨g, i, none⟩ = false ∧ Rd (w.setCell ⟨g, i, none⟩ (.int .u8 (y : Int))) (w.setCell ⟨g, i, none⟩ (.int .u8 (y : Int))).heap.size (some ⟨g, 0, none⟩) (U8 (l.set i y)) := by
  have hlen : (U8 l).length = n := by have := h.1; simpa using this
  have hl : l.length = n := by simpa [U8] using hlen
  refine ⟨?_, h.frozenAt i, ?_⟩
  · rw [h.cellAt i (by omega), U8, List.getElem?_map, List.getElem?_eq_getElem (by omega)]
    exact ⟨_, rfl⟩
  · have hst := (h.stored i (.int .u8 (y : Int))).1
    have e : (U8 l).set i (.int .u8 (y : Int)) = U8 (l.set i y) := by rw [U8, U8, List.map_set]
    rw [e] at hst
    exact Rd.of_own hst

set_option maxRecDepth 100000 in
set_option maxHeartbeats 800000 in
theorem one_any (a : List Nat) (n i x : Nat) (hn : n = a.length) (A : Option Addr) (c : Nat) (w : World) (hA : Rd w w.heap.size A (U8 a)) (hnil : A = none → c = 0) (ha : ∀ x ∈ a, x < 256) (hc : n ≤ c) (hcm : c ≤ 9223372036854775807) (h1 : n ≤ 2000) (hi : i < n) (hx : x < 256) :
    Calls Try.prog 5 #[.slice A n c, .int .i64 i, .int .u8 x] w fun e w' => e = .returned (.bool true) ∧ Below w.heap.size w w' := by
  obtain ⟨i0, hif, hz0, hz1, hz2⟩ := info_parts infoU8
  obtain ⟨y, hy⟩ : ∃ y, y = a.getD i 0 := ⟨_, rfl⟩
  obtain ⟨b, hb⟩ : ∃ b, b = a.set i (y ^^^ x) := ⟨_, rfl⟩
  obtain ⟨p, hp⟩ : ∃ p, p = a.take i := ⟨_, rfl⟩
  obtain ⟨s, hs⟩ : ∃ s, (x == 0) = s := ⟨_, rfl⟩
  have hbl : n = b.length := by rw [hb, List.length_set, hn]
  have hpl : i = p.length := by rw [hp, List.length_take]; omega
  have hy8 : y < 256 := by rw [hy]; exact seal_getD_lt ha i
  have hxy : y ^^^ x < 256 := Nat.xor_lt_two_pow (n := 8) hy8 hx
  have hb8 : ∀ z ∈ b, z < 256 := by
    rw [hb]; intro z hz
    rcases List.mem_or_eq_of_mem_set hz with h | h
    · exact ha z h
    · rw [h]; exact hxy
  have hp8 : ∀ z ∈ p, z < 256 := by rw [hp]; intro z hz; exact ha z (List.mem_of_mem_take hz)
  have hd : x = dn a b (min n n) := by
    rw [hb, hy, Nat.min_self, dn_set a i x n (by omega), if_pos hi]
  have hq : true = (n == n) := by simp
  have hab : (a == b) = s := by
    have h := dn_same a b
    rw [← hn, ← hbl, ← hd, hs] at h
    simpa using h.symm
  have hap : (a == p) = false := by
    simp only [beq_eq_false_iff_ne, ne_eq]
    intro e
    have := congrArg List.length e
    omega
  have hs3 : ((x : Int) == 0) = s := by rw [show (0 : Int) = ((0 : Nat) : Int) from rfl, eq_cast, hs]
  have hxor := u8_xor_nat y x hy8 hx
  have HN := Lib.hid hn
  have HA := Lib.hid ha
  have HY := Lib.hid hy
  have HB := Lib.hid hb
  have HP := Lib.hid hp
  have HBL := Lib.hid hbl
  have HPL := Lib.hid hpl
  have HB8 := Lib.hid hb8
  have HP8 := Lib.hid hp8
  have HD := Lib.hid hd
  have HQ := Lib.hid hq
  have HAB := Lib.hid hab
  have HAP := Lib.hid hap
  have HS3 := Lib.hid hs3
  have HXOR := Lib.hid hxor
  have HNIL := Lib.hid hnil
  have hbase : w.heap.size ≤ (w.alloc (.cells #[] 5)).heap.size := by simp
  have hown0 : (w.alloc (.cells #[] 5)).ownsRow w.heap.size 5 1 (.slice (some ⟨w.heap.size, 0, none⟩) 0 0) 0 [] := World.ownsRow_lit w #[] 0 (Nat.le_refl _) (by decide) rfl
  have HE := Lib.hid hown0
  have HAE := Lib.hid (hA.next (below_lit w #[] 5))
  have HUL := Lib.hid (show (U8 a).length = n by simp [U8, hn])
  have hn0 : 0 + n ≤ maxLen := by unfold maxLen; omega
  have hn1 : (0 + n) * 1 ≤ 140737488355328 := by omega
  have HA0 := Lib.hid hA
  clear hn ha hy hb hp hbl hpl hb8 hp8 hd hq hab hap hs hs3 hxor hnil hA hown0
  have bi0 : (0 : Int) ≤ (i : Int) := by omega
  have bi1 : (i : Int) < (n : Int) := by omega
  go_enter Try.func5, Try.ntmps5
  go_wp2_with (at_builtin; refine wpList_append_rd _ rfl (.tmp 25) (.tmp 26) 22 rfl w.heap.size 5 i0 (.int .u8 0) 1 Try.underlying22 hif hz0 hz1 hz2 rfl (.slice (some ⟨w.heap.size, 0, none⟩) 0 0) 0 [] rfl HE.out (w.alloc (.cells #[] 5)).heap.size A n c (U8 a) rfl HAE.out HUL.out HNIL.out (U8_one a) hn0 hn1 hbase ?_)
  intro v1 w1 hown1 hg1
  have hbl1 : Below w.heap.size w w1 := (below_lit w #[] 5).grown hg1 hbase (fun j hj => own_ge HE.out hj)
  obtain ⟨g, cap, e1, _⟩ := hown1.form (by omega)
  subst e1
  have hgb : w.heap.size ≤ g := own_ge hown1 rfl
  obtain ⟨⟨v2, hc2⟩, hfz, hrd2⟩ := own_set i (y ^^^ x) hown1 hi
  obtain ⟨ad, rfl, hadlt, hca⟩ := seal_at (HA0.out.next hbl1) i (by rw [← HN.out]; exact hi)
  rw [← HY.out] at hca
  have HA1 := Lib.hid (HA0.out.next hbl1)
  have HRD2 := Lib.hid hrd2
  have HB1 := Lib.hid hbl1
  have HXO := HXOR.out
  clear hg1 hown1 hrd2 hbl1
  go_wp2_with fail
  have HB2 := Lib.hid (show Below w.heap.size w (w1.setCell ⟨g, i, none⟩ (.int .u8 ((y ^^^ x : Nat) : Int))) from HB1.out.setCell hgb _)
  have HA2 := Lib.hid (HA0.out.next HB2.out)
  have HRD2' : Hid (Rd (w1.setCell ⟨g, i, none⟩ (.int .u8 ((y ^^^ x : Nat) : Int))) (w1.setCell ⟨g, i, none⟩ (.int .u8 ((y ^^^ x : Nat) : Int))).heap.size (some ⟨g, 0, none⟩) (U8 b)) := by
    have h := HRD2.out
    rw [← HB.out] at h
    exact Lib.hid h
  refine (diff_named a b n n HN.out HBL.out (some ad) (some ⟨g, 0, none⟩) c cap _ HA2.out HRD2'.out HA.out HB8.out (by omega) (by omega) x true HD.out HQ.out).mono ?_
  rintro e w3 ⟨rfl, hb3⟩
  have HA3 := Lib.hid (HA2.out.next hb3)
  have HR3 := Lib.hid (HRD2'.out.next hb3)
  have HB3 := Lib.hid (HB2.out.trans (hb3.mono HB2.out.size))
  clear hb3 hca hadlt hc2 hfz
  go_wp2_with fail
  refine (sealed_any w3).mono ?_
  rintro e w4 ⟨rfl, hb4⟩
  have HA4 := Lib.hid (HA3.out.next hb4)
  have HR4 := Lib.hid (HR3.out.next hb4)
  have HB4 := Lib.hid (HB3.out.trans (hb4.mono HB3.out.size))
  clear hb4
  go_wp2_with fail
  refine (sealsame_named a b n n HN.out HBL.out (some ad) (some ⟨g, 0, none⟩) c cap w4 HA4.out HR4.out HA.out HB8.out (by omega) (by omega) s HAB.out).mono ?_
  rintro e w5 ⟨rfl, hb5⟩
  have HA5 := Lib.hid (HA4.out.next hb5)
  have HB5 := Lib.hid (HB4.out.trans (hb5.mono HB4.out.size))
  clear hb5
  have hs3 := HS3.out
  have hic : i ≤ c := by omega
  go_wp2_with fail
  have HP5 : Hid (Rd w5 w5.heap.size (some ad) (U8 p)) := by
    have h := HA5.out
    refine Lib.hid fun k u hu => h k u ?_
    rw [HP.out, U8, List.map_take, List.getElem?_take] at hu
    split at hu
    · exact hu
    · cases hu
  refine (sealsame_named a p n i HN.out HPL.out (some ad) (some ad) c c w5 HA5.out HP5.out HA.out HP8.out (by omega) (by omega) false HAP.out).mono ?_
  rintro e w6 ⟨rfl, hb6⟩
  have HB6 := Lib.hid (HB5.out.trans (hb6.mono HB5.out.size))
  clear hb6
  go_wp2_with fail
  go_ret
  exact ⟨by simp, HB6.out⟩

set_option maxRecDepth 100000 in
theorem one_out1 (n x : Nat) (i : Int) (A : Option Addr) (c : Nat) (w : World) (h1 : n ≤ 9223372036854775807) (h : 2000 < n) :
    Calls Try.prog 5 #[.slice A n c, .int .i64 i, .int .u8 x] w fun e w' => e = .returned (.bool true) ∧ Below w.heap.size w w' := by
  go_enter Try.func5, Try.ntmps5
  go_wp2_with fail
  refine (sealed_any w).mono ?_
  rintro e w1 ⟨rfl, hb1⟩
  go_wp2_with fail
  go_ret
  exact ⟨rfl, hb1⟩
set_option maxRecDepth 100000 in
theorem one_out2 (n x : Nat) (i : Int) (A : Option Addr) (c : Nat) (w : World) (h1 : n ≤ 2000) (h : i < 0) :
    Calls Try.prog 5 #[.slice A n c, .int .i64 i, .int .u8 x] w fun e w' => e = .returned (.bool true) ∧ Below w.heap.size w w' := by
  go_enter Try.func5, Try.ntmps5
  go_wp2_with fail
  refine (sealed_any w).mono ?_
  rintro e w1 ⟨rfl, hb1⟩
  go_wp2_with fail
  go_ret
  exact ⟨rfl, hb1⟩
set_option maxRecDepth 100000 in
theorem one_out3 (n x : Nat) (i : Int) (A : Option Addr) (c : Nat) (w : World) (h1 : n ≤ 2000) (h0 : 0 ≤ i) (h : (n : Int) ≤ i) :
    Calls Try.prog 5 #[.slice A n c, .int .i64 i, .int .u8 x] w fun e w' => e = .returned (.bool true) ∧ Below w.heap.size w w' := by
  go_enter Try.func5, Try.ntmps5
  go_wp2_with fail
  refine (sealed_any w).mono ?_
  rintro e w1 ⟨rfl, hb1⟩
  go_wp2_with fail
  go_ret
  exact ⟨rfl, hb1⟩

set_option maxRecDepth 100000 in
theorem one_lifted (os : Os) (started : os.Started) (H : Type) (enc : TypeId × Value → H) :
    ReturnsInHanded {} Try.checked os 5 .any (Rows.sealOneSpec.pre6 enc Try.prog Try.f5 Rows.sealOneRow.domain false) (Rows.sealOneSpec.post enc Try.prog Try.f5 false true false false) := by
  refine returnsInHanded_of_change (C := Try.checked) Try.own started (by kernel_rfl) Try.func5
    (ChangeSpec.witness6 (enc := enc) (C := Try.checked) false ⟨#[], #[.slice none 0 0, .int .i64 0, .int .u8 0], []⟩ 8 (by kernel_rfl) (by kernel_rfl) (by kernel_rfl) (by kernel_rfl)) ?_
  intro W base args ds gs before hval0 hW _ _
  have hval : ∀ (j : Nat) t v, Try.f5.params[j]? = some t → args[j]? = some v → Value.okWide Try.prog W .any base t v := hval0
  have hW' := hW
  obtain ⟨p, q, hA0, hV, rfl, _, _⟩ := hW'
  have hA : DataW.TrodAll enc Try.prog W 0 (fun _ => true) true Try.f5.params.toList args.toList ds p := hA0
  rw [Try.params5] at hA hval
  obtain ⟨v0, vs0, d0, ds0, p0, q0, hargs0, rfl, rfl, h0, r0⟩ := trodAll_cons hA
  obtain ⟨v1, vs1, d1, ds1, p1, q1, hargs1, rfl, rfl, h1, r1⟩ := trodAll_cons r0
  obtain ⟨v2, vs2, d2, ds2, p2, q2, hargs2, rfl, rfl, h2, r2⟩ := trodAll_cons r1
  obtain ⟨rfl, rfl, rfl⟩ := trodAll_nil r2
  obtain rfl : args = #[v0, v1, v2] := by cases args; simp_all
  obtain ⟨A0, l0, c0, rfl, hr0, hl0, hc0, hm0, hn0, hw0⟩ := open_nats_full Try.underlying22 Try.underlying5 Try.cellsU8 wf_u8 (hval 0 22 v0 rfl rfl) h0
  obtain ⟨x1, rfl, _, _, wx1⟩ := open_int Try.underlying3 (hval 1 3 v1 rfl rfl) h1
  obtain ⟨x2, rfl, _, _, wx2⟩ := open_int Try.underlying5 (hval 2 5 v2 rfl rfl) h2
  unfold maxLen at hm0
  have bx := wf_u8 _ wx2
  obtain ⟨x, rfl⟩ : ∃ x : Nat, x2 = (x : Int) := ⟨x2.toNat, by omega⟩
  have hlaw : Calls Try.prog 5 #[.slice A0 l0.length c0, .int .i64 x1, .int .u8 x] W fun e w' => e = .returned (.bool true) ∧ Below W.heap.size W w' := by
    by_cases h : 2000 < l0.length
    · exact one_out1 _ x x1 A0 c0 W (by omega) h
    · by_cases h' : x1 < 0
      · exact one_out2 _ x x1 A0 c0 W (by omega) h'
      · by_cases h'' : (l0.length : Int) ≤ x1
        · exact one_out3 _ x x1 A0 c0 W (by omega) (by omega) h''
        · obtain ⟨i, rfl⟩ : ∃ i : Nat, x1 = (i : Int) := ⟨x1.toNat, by omega⟩
          exact one_any l0 _ i x rfl A0 c0 W hr0 hn0 hl0 (by omega) (by omega) (by omega) (by omega) (by omega)
  refine hlaw.mono fun e W' ⟨he, hb⟩ => ?_
  subst he
  exact ⟨_, rfl, law_post Try.laidOut Try.underlying4 hW rfl (by kernel_rfl) (by kernel_rfl) rfl hb⟩

theorem sealOne_holds : Rows.SealOneSaid :=
  OpenClaim.holds_of_wide 5 Try.f5 rfl rfl rfl rfl rfl rfl rfl ⟨rfl, rfl, rfl, rfl, rfl⟩ rfl rfl rfl rfl rfl (by kernel_rfl) Try.func5 (by kernel_rfl)
    (of_decide_eq_true (by kernel_rfl)) (by unfold Func.isWrapper; first | (rw [if_pos (by decide +kernel)]; kernel_rfl) | (rw [if_neg (by decide +kernel)]; exact ⟨rfl, rfl⟩))
    (fun os started H enc _ => one_lifted os started H enc)
#print axioms sealOne_holds
end Go.Proofs.Ytghepddfjdillaa
