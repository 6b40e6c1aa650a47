/-
  Law FortyJoins walked: it answers true. Conditions: the slices read as bytes.
-/
import Derived.Test.YtmedfelkoknadaaFortySigned
namespace Go.Proofs.Ytmedfelkoknadaa
set_option linter.unusedVariables false
open Go.ChangeShapes Go.WideShapes Go.ChangeAt Go.RowKit

theorem u8_len (l : List Nat) : (U8 l).length = l.length := by simp [U8]
set_option maxRecDepth 100000 in
set_option maxHeartbeats 1600000 in
theorem joins16_any (b b' : List Nat) (n n' : Nat) (hn : n = b.length) (hn' : n' = b'.length) (A A' : Option Addr) (c c' : Nat) (w : World) (hA : Bs w w.heap.size b A c) (hA' : Bs w w.heap.size b' A' c') : Calls Try.prog 6 #[.slice A n c, .slice A' n' c'] w fun e w' => e = .returned (.bool true) ∧ Below w.heap.size w w' := by
  obtain ⟨i0, hi, hz0, hz1, hz2⟩ := info_parts infoU8
  have h1 := hA.len
  have h2 := hA.cap
  have h3 := hA'.len
  have h4 := hA'.cap
  have hn3 : n ≤ 9223372036854775807 := by omega
  have hn4 : n' ≤ 9223372036854775807 := by omega
  have HN := Lib.hid hn
  have HN' := Lib.hid hn'
  have B1 := Lib.hid hA
  have B2 := Lib.hid hA'
  have HBL := Lib.hid (Below.refl w.heap.size w)
  clear h1 h2 h3 h4 hn hn' hA hA'
  by_cases q0 : 1000 < n
  · have p0 : (1000 : Int) < (n : Int) := by omega
    go_enter Try.func6, Try.ntmps6
    go_wp2_with fail
    refine (signed_any w).mono ?_
    rintro e w1 ⟨rfl, hb⟩
    replace HBL := Lib.hid (HBL.out.trans (hb.mono HBL.out.size))
    clear hb
    go_wp2
    go_ret
    exact ⟨rfl, HBL.out⟩
  have p0 : ¬ ((1000 : Int) < (n : Int)) := by omega
  by_cases q1 : 1000 < n'
  · have p1 : (1000 : Int) < (n' : Int) := by omega
    go_enter Try.func6, Try.ntmps6
    go_wp2_with fail
    refine (signed_any w).mono ?_
    rintro e w1 ⟨rfl, hb⟩
    replace HBL := Lib.hid (HBL.out.trans (hb.mono HBL.out.size))
    clear hb
    go_wp2
    go_ret
    exact ⟨rfl, HBL.out⟩
  have p1 : ¬ ((1000 : Int) < (n' : Int)) := by omega
  obtain ⟨r, hr⟩ : ∃ r, r = n % 2 := ⟨_, rfl⟩
  have d2 : (n : Int).tmod 2 = (r : Int) := by rw [Int.tmod_eq_emod_of_nonneg (by omega)]; omega
  have v2 : IntKind.i64.wrap (r : Int) = (r : Int) := IntWalk.i64_in _ (by omega)
  by_cases q2 : r = 1
  · have p2 : ((r : Int) == 1) = true := by rw [beq_iff_eq]; omega
    have p3 : (r == 1) = true := by rw [beq_iff_eq]; exact q2
    clear hr
    subst q2
    go_enter Try.func6, Try.ntmps6
    go_wp2_with fail
    refine (signed_any w).mono ?_
    rintro e w1 ⟨rfl, hb⟩
    replace HBL := Lib.hid (HBL.out.trans (hb.mono HBL.out.size))
    clear hb
    go_wp2
    go_ret
    exact ⟨rfl, HBL.out⟩
  have p2 : ((r : Int) == 1) = false := by rw [beq_eq_false_iff_ne]; omega
  have p3 : (r == 1) = false := by rw [beq_eq_false_iff_ne]; exact q2
  have hjn := putF_append b b' (by rw [← HN.out]; omega)
  obtain ⟨pa, hpa⟩ : ∃ p, putF b = p := ⟨_, rfl⟩
  obtain ⟨pb, hpb⟩ : ∃ p, putF b' = p := ⟨_, rfl⟩
  have hla := putF_len b
  have hlb := putF_len b'
  rw [hpa] at hla
  rw [hpb] at hlb
  rw [hpa, hpb] at hjn
  rw [← HN.out] at hla
  rw [← HN'.out] at hlb
  obtain ⟨ma, hma⟩ : ∃ m, m = pa.length := ⟨_, rfl⟩
  obtain ⟨mb, hmb⟩ : ∃ m, m = pb.length := ⟨_, rfl⟩
  rw [← hma] at hla
  rw [← hmb] at hlb
  have hma2 : ma ≤ 3000 := by omega
  have hmb2 : mb ≤ 3000 := by omega
  have HJN := Lib.hid hjn
  have HPA := Lib.hid hpa
  have HPB := Lib.hid hpb
  have HMA := Lib.hid hma
  have HMB := Lib.hid hmb
  clear hr q2 hjn hpa hpb hla hlb hma hmb
  go_enter Try.func6, Try.ntmps6
  go_wp2_with (at_builtin; refine wpList_append_rd _ rfl _ _ 22 rfl w.heap.size 5 i0 (.int .u8 0) 1 Try.underlying22 hi hz0 hz1 hz2 rfl _ 0 [] rfl (World.ownsRow_lit w #[] 0 (Nat.le_refl _) (by decide) rfl) w.heap.size A n c (U8 b) rfl (B1.out.rd.alloc (Nat.le_refl _) _) (by rw [u8_len, ← HN.out]) B1.out.nil (U8_one _) (by unfold maxLen; omega) (by omega) (by simp) ?_)
  intro v1 x2 hown1 hg1
  have HB1 := Lib.hid (show Below w.heap.size w x2 from ((Below.refl _ w).alloc (Nat.le_refl _) _).grown hg1 (by simp) (fun p hp => by cases hp; exact Nat.le_refl _))
  have HO1 := Lib.hid hown1
  clear hown1 hg1
  have hs2 := HB1.out.size
  have hx1 : n + n' ≤ maxLen := by unfold maxLen; omega
  go_wp2_with (at_builtin; refine wpList_append_rd _ rfl _ _ 22 rfl w.heap.size 5 i0 (.int .u8 0) 1 Try.underlying22 hi hz0 hz1 hz2 rfl _ n (U8 b) rfl HO1.out w.heap.size A' n' c' (U8 b') rfl (B2.out.below HB1.out).rd (by rw [u8_len, ← HN'.out]) B2.out.nil (U8_one _) hx1 (by omega) hs2 ?_)
  intro v2 x3 hown2 hg2
  have HB2 := Lib.hid (show Below w.heap.size w x3 from HB1.out.grown hg2 hs2 (fun p hp => own_ge HO1.out hp))
  rw [← u8_app] at hown2
  obtain ⟨L, hL⟩ : ∃ L, L = b ++ b' := ⟨_, rfl⟩
  have hLlt : ∀ x ∈ L, x < 256 := by rw [hL]; exact fun x hx => (List.mem_append.1 hx).elim (B1.out.lt x) (B2.out.lt x)
  have hLn : n + n' = L.length := by rw [hL, List.length_append, ← HN.out, ← HN'.out]
  rw [← hL] at hown2
  have HPL := Lib.hid (show putF L = pa ++ pb by rw [hL]; exact HJN.out)
  obtain ⟨nl, hnl⟩ : ∃ nl, nl = n + n' := ⟨_, rfl⟩
  rw [← hnl] at hown2 hLn
  have hnl2 : nl ≤ 2000 := by omega
  obtain ⟨AL, cL, rfl, hbl⟩ := bs_of_own hown2 hLlt
  have HNL := Lib.hid hLn
  replace HBL := Lib.hid HB2.out
  have BL := Lib.hid hbl
  replace B1 := Lib.hid ((B1.out.below HBL.out).more HBL.out.size)
  replace B2 := Lib.hid ((B2.out.below HBL.out).more HBL.out.size)
  clear hown2 hg2 hL hLlt hLn hnl hbl hx1 hs2 HO1 HB1 HB2
  go_wp2_with fail
  obtain ⟨x4, hw⟩ : ∃ x4, x4 = x3.alloc (.cells #[] 5) := ⟨_, rfl⟩
  have ho0 : x4.ownsRow x3.heap.size 5 1 (.slice (some ⟨x3.heap.size, 0, none⟩) 0 0) 0 [] := by rw [hw]; exact World.ownsRow_lit x3 #[] 0 (Nat.le_refl _) (by decide) rfl
  have hb4 : Below x3.heap.size x3 x4 := by rw [hw]; exact (Below.refl _ _).alloc (Nat.le_refl _) _
  rw [← hw]
  have HO0 := Lib.hid ho0
  have HX := Lib.hid hb4
  clear ho0 hb4 hw
  refine (pput_forty b n HN.out (by omega) pa HPA.out A c x4 (B1.out.next HX.out)).mono ?_
  rintro e x5 ⟨AP, cP, rfl, hs, hb⟩
  have HP1 := Lib.hid hs
  have HO5 := Lib.hid (own_below HO0.out hb)
  replace HX := Lib.hid (HX.out.trans (hb.mono HX.out.size))
  clear hs hb HO0
  have hs5 := HX.out.size
  have hx5 : 0 + ma ≤ maxLen := by unfold maxLen; omega
  rw [← HMA.out]
  go_wp2_with (at_builtin; refine wpList_append_rd _ rfl _ _ 22 rfl x3.heap.size 5 i0 (.int .u8 0) 1 Try.underlying22 hi hz0 hz1 hz2 rfl _ 0 [] rfl HO5.out x5.heap.size AP ma cP (U8 pa) rfl HP1.out.rd (by rw [u8_len, ← HMA.out]) HP1.out.nil (U8_one _) hx5 (by omega) hs5 ?_)
  intro v6 x6 hown6 hg6
  replace HX := Lib.hid (HX.out.grown hg6 hs5 (fun p hp => own_ge HO5.out hp))
  have HO6 := Lib.hid hown6
  clear hown6 hg6 HO5 HP1 hx5 hs5
  go_wp2_with fail
  refine (pput_forty b' n' HN'.out (by omega) pb HPB.out A' c' x6 (B2.out.next HX.out)).mono ?_
  rintro e x7 ⟨AQ, cQ, rfl, hs, hb⟩
  have HP2 := Lib.hid hs
  have HO7 := Lib.hid (own_below HO6.out hb)
  replace HX := Lib.hid (HX.out.trans (hb.mono HX.out.size))
  clear hs hb HO6
  have hs7 := HX.out.size
  have hx7 : ma + mb ≤ maxLen := by unfold maxLen; omega
  rw [← HMB.out]
  go_wp2_with (at_builtin; refine wpList_append_rd _ rfl _ _ 22 rfl x3.heap.size 5 i0 (.int .u8 0) 1 Try.underlying22 hi hz0 hz1 hz2 rfl _ ma (U8 pa) rfl HO7.out x7.heap.size AQ mb cQ (U8 pb) rfl HP2.out.rd (by rw [u8_len, ← HMB.out]) HP2.out.nil (U8_one _) hx7 (by omega) hs7 ?_)
  intro v8 x8 hown8 hg8
  replace HX := Lib.hid (HX.out.grown hg8 hs7 (fun p hp => own_ge HO7.out hp))
  rw [← u8_app] at hown8
  obtain ⟨P, hP⟩ : ∃ P, P = pa ++ pb := ⟨_, rfl⟩
  rw [← hP] at hown8
  have HPQ := Lib.hid (show putF L = P by rw [hP]; exact HPL.out)
  have hplt : ∀ x ∈ P, x < 256 := by rw [← HPQ.out]; exact putF_lt L
  have hmm : ma + mb = P.length := by rw [hP, List.length_append, ← HMA.out, ← HMB.out]
  obtain ⟨mx, hmx⟩ : ∃ mx, mx = ma + mb := ⟨_, rfl⟩
  rw [← hmx] at hown8 hmm
  obtain ⟨AX, cX, rfl, hbx⟩ := bs_of_own hown8 hplt
  have HMX := Lib.hid hmm
  replace BL := Lib.hid (BL.out.next HX.out)
  replace HBL := Lib.hid (HBL.out.trans (HX.out.mono HBL.out.size))
  have BX := Lib.hid hbx
  clear hown8 hg8 hplt hmm hmx hP hbx hx7 hs7 HO7 HP2 HX B1 B2
  go_wp2_with fail
  refine (signed_any x8).mono ?_
  rintro e w1 ⟨rfl, hb⟩
  replace BL := Lib.hid (BL.out.next hb)
  replace BX := Lib.hid (BX.out.next hb)
  replace HBL := Lib.hid (HBL.out.trans (hb.mono HBL.out.size))
  clear hb
  go_wp2_with fail
  refine (pput_forty L nl HNL.out (by omega) P HPQ.out AL cL w1 BL.out).mono ?_
  rintro e w2 ⟨APL, cPL, rfl, hs, hb⟩
  replace BL := Lib.hid (BL.out.next hb)
  replace BX := Lib.hid (BX.out.next hb)
  replace HBL := Lib.hid (HBL.out.trans (hb.mono HBL.out.size))
  have PL := Lib.hid hs
  clear hb hs
  go_wp2_with fail
  refine (same_true P P.length mx rfl HMX.out APL AX cPL cX w2 PL.out BX.out).mono ?_
  rintro e w3 ⟨rfl, hb⟩
  replace BL := Lib.hid (BL.out.next hb)
  replace BX := Lib.hid (BX.out.next hb)
  replace PL := Lib.hid (PL.out.next hb)
  replace HBL := Lib.hid (HBL.out.trans (hb.mono HBL.out.size))
  clear hb
  go_wp2
  go_ret
  exact ⟨rfl, HBL.out⟩
end Go.Proofs.Ytmedfelkoknadaa
