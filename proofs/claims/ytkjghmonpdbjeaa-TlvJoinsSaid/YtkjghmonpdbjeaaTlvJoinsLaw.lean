/-
  Law TlvJoins walked: it answers true. Conditions: the slices read as fields.
-/
import Derived.Test.YtkjghmonpdbjeaaTlvListed
import Derived.Test.YtkjghmonpdbjeaaTlvJoin
namespace Go.Proofs.Ytkjghmonpdbjeaa
set_option linter.unusedVariables false
open Go.ChangeShapes Go.WideShapes Go.ChangeAt Go.RowKit

theorem outT_len {l : List Tf} {E : Nat} {p : List Nat} (h : outT l = (E, p)) : p.length ≤ 65535 := by
  cases hi : isT 0 l with
  | false =>
    rw [outT_bad hi] at h
    cases h
    simp
  | true =>
    rw [outT_ok hi] at h
    cases h
    obtain ⟨i1, i2⟩ := isT_short hi (by omega) (by omega)
    have i3 := putT_len l (fun f hf => (i2 f hf).1)
    omega
set_option maxRecDepth 100000 in
set_option maxHeartbeats 1600000 in
theorem joins17_ee (l l' : List Tf) (n n' : Nat) (hn : n = l.length) (hn' : n' = l'.length) (A A' : Option Addr) (c c' : Nat) (w : World) (hb : bigT l = false) (hb' : bigT l' = false) (E1 E2 E3 : Nat) (p1 p2 p3 : List Nat) (hp1 : outT l = (E1, p1)) (hp2 : outT l' = (E2, p2)) (hp3 : outT (l ++ l') = (E3, p3)) (h1 : E1 = 0 ∧ E2 = 1 ∨ E1 = 1 ∧ E2 = 0 ∨ E1 = 1 ∧ E2 = 1) (h3 : E3 = 1) (hA : Ts w w.heap.size l A c) (hA' : Ts w w.heap.size l' A' c') : Calls Try.prog 8 #[.slice A n c, .slice A' n' c'] w fun e w' => e = .returned (.bool true) ∧ Below w.heap.size w w' := by
  obtain ⟨i0, hi, hz0, hz1, hz2⟩ := info_parts infoU8
  have h1 := hA.len
  have h2 := hA.cap
  have h3 := hA'.len
  have h4 := hA'.cap
  have hn3 : n ≤ 9223372036854775807 := by omega
  have hn4 : n' ≤ 9223372036854775807 := by omega
  have HN := Lib.hid hn
  have HN' := Lib.hid hn'
  have B1 := Lib.hid hA
  have B2 := Lib.hid hA'
  have HBL := Lib.hid (Below.refl w.heap.size w)
  clear h1 h2 h3 h4 hn hn' hA hA'
  have hlim := (bigT_false hb).1
  have hlim' := (bigT_false hb').1
  rw [← HN.out] at hlim
  rw [← HN'.out] at hlim'
  have HNN := Lib.hid (show n + n' = (l ++ l').length by rw [List.length_append, ← HN.out, ← HN'.out])
  have HB := Lib.hid hb
  have HB' := Lib.hid hb'
  have HP1 := Lib.hid hp1
  have HP2 := Lib.hid hp2
  have HP3 := Lib.hid hp3
  have hl1 := outT_len hp1
  have hl2 := outT_len hp2
  clear hb hb' hp1 hp2 hp3
  subst h3
  rcases h1 with ⟨rfl, rfl⟩ | ⟨rfl, rfl⟩ | ⟨rfl, rfl⟩
  · go_enter Try.func8, Try.ntmps8
    go_wp2_with fail
    refine (refbig_tlv l _ HN.out false HB.out A c w B1.out).mono ?_
    rintro e _ ⟨rfl, rfl⟩
    go_wp2_with fail
    refine (refbig_tlv l' _ HN'.out false HB'.out A' c' w B2.out).mono ?_
    rintro e _ ⟨rfl, rfl⟩
    go_wp2_with fail
    refine (pput_tlv l _ HN.out _ _ HP1.out A c w B1.out).mono ?_
    rintro e w1 ⟨AP1, cP1, rfl, hs, hb⟩
    replace B1 := Lib.hid (B1.out.next hb)
    replace B2 := Lib.hid (B2.out.next hb)
    replace HBL := Lib.hid (HBL.out.trans (hb.mono HBL.out.size))
    have P1 := Lib.hid hs
    clear hb hs
    go_wp2_with fail
    refine (pput_tlv l' _ HN'.out _ _ HP2.out A' c' w1 B2.out).mono ?_
    rintro e w2 ⟨AP2, cP2, rfl, hs, hb⟩
    replace B1 := Lib.hid (B1.out.next hb)
    replace B2 := Lib.hid (B2.out.next hb)
    replace P1 := Lib.hid (P1.out.next hb)
    replace HBL := Lib.hid (HBL.out.trans (hb.mono HBL.out.size))
    have P2 := Lib.hid hs
    clear hb hs
    have HR0 := Lib.hid (World.ownsRow_lit (e := 40) (base := w2.heap.size) (size := 2) w2 #[] 0 (Nat.le_refl _) (by decide) rfl)
    have HT1 := Lib.hid (B1.out.below (below_lit w2 #[] 40))
    have HS0 := Lib.hid (below_lit w2 #[] 40)
    have hs0 := HS0.out.size
    go_wp2_with (at_builtin; refine wpList_append_ts rfl (.tmp 30) (.tmp 31) rfl w2.heap.size _ 0 [] rfl HR0.out w2.heap.size l A _ c HN.out rfl HT1.out (by omega) hs0 ?_)
    intro v1 x1 L1 hL1 hB1 hown1 hg1
    have HO1 := Lib.hid hown1
    have HX1 := Lib.hid (show Below w2.heap.size w2 x1 from HS0.out.grown hg1 hs0 (fun g hg => own_ge HR0.out hg))
    have HQ1 := Lib.hid hB1
    have HL1 := Lib.hid hL1
    have hs1 := HX1.out.size
    have HT2 := Lib.hid (B2.out.below HX1.out)
    have hB1' : ∀ q ∈ L1, Bs x1 w2.heap.size q.f.val q.S q.c := fun q hq => (HQ1.out q hq).below (show Below w2.heap.size (w2.alloc (.cells #[] 40)) x1 from (Below.refl _ _).grown hg1 hs0 (fun g hg => own_ge HR0.out hg))
    have HQ1' := Lib.hid hB1'
    clear hown1 hg1 hL1 hB1 hB1' HR0 HT1 HQ1
    go_wp2_with (at_builtin; refine wpList_append_ts rfl (.tmp 33) (.tmp 34) rfl w2.heap.size v1 _ L1 rfl HO1.out w2.heap.size l' A' _ c' HN'.out rfl HT2.out (by omega) hs1 ?_)
    intro v2 x2 L2 hL2 hB2 hown2 hg2
    have hx2 : Below w2.heap.size x1 x2 := (Below.refl _ _).grown hg2 hs1 (fun g hg => own_ge HO1.out hg)
    have hb := HX1.out.trans hx2
    have hq2 : ∀ q ∈ L1 ++ L2, Bs x2 x2.heap.size q.f.val q.S q.c := fun q hq => by
      rcases List.mem_append.1 hq with h | h
      · exact ((HQ1'.out q h).below hx2).more hb.size
      · exact ((hB2 q h).below hx2).more hb.size
    obtain ⟨A3, c3, hv2, hts⟩ := ts_of_own hown2 hq2
    have hmap : (L1 ++ L2).map (·.f) = l ++ l' := by rw [List.map_append]; exact congr (congrArg _ HL1.out) hL2
    rw [hmap] at hts
    subst hv2
    have HT3 := Lib.hid hts
    clear hown2 hg2 hL2 hB2 hq2 hts hmap hx2 HS0 HO1 HX1 HL1 HQ1' HT2 hs1 hs0
    replace B1 := Lib.hid (B1.out.next hb)
    replace B2 := Lib.hid (B2.out.next hb)
    replace P1 := Lib.hid (P1.out.next hb)
    replace P2 := Lib.hid (P2.out.next hb)
    replace HBL := Lib.hid (HBL.out.trans (hb.mono HBL.out.size))
    clear hb
    go_wp2_with fail
    refine (pput_tlv (l ++ l') _ HNN.out _ _ HP3.out A3 c3 x2 HT3.out).mono ?_
    rintro e w21 ⟨AP3, cP3, rfl, hs, hb⟩
    replace B1 := Lib.hid (B1.out.next hb)
    replace B2 := Lib.hid (B2.out.next hb)
    replace P1 := Lib.hid (P1.out.next hb)
    replace P2 := Lib.hid (P2.out.next hb)
    replace HT3 := Lib.hid (HT3.out.next hb)
    replace HBL := Lib.hid (HBL.out.trans (hb.mono HBL.out.size))
    have P3 := Lib.hid hs
    clear hb hs
    go_wp2_with fail
    refine (listed_any w21).mono ?_
    rintro e w22 ⟨rfl, hb⟩
    replace B1 := Lib.hid (B1.out.next hb)
    replace B2 := Lib.hid (B2.out.next hb)
    replace P1 := Lib.hid (P1.out.next hb)
    replace P2 := Lib.hid (P2.out.next hb)
    replace P3 := Lib.hid (P3.out.next hb)
    replace HBL := Lib.hid (HBL.out.trans (hb.mono HBL.out.size))
    clear hb
    go_wp2
    go_ret
    exact ⟨rfl, HBL.out⟩
  · go_enter Try.func8, Try.ntmps8
    go_wp2_with fail
    refine (refbig_tlv l _ HN.out false HB.out A c w B1.out).mono ?_
    rintro e _ ⟨rfl, rfl⟩
    go_wp2_with fail
    refine (refbig_tlv l' _ HN'.out false HB'.out A' c' w B2.out).mono ?_
    rintro e _ ⟨rfl, rfl⟩
    go_wp2_with fail
    refine (pput_tlv l _ HN.out _ _ HP1.out A c w B1.out).mono ?_
    rintro e w1 ⟨AP1, cP1, rfl, hs, hb⟩
    replace B1 := Lib.hid (B1.out.next hb)
    replace B2 := Lib.hid (B2.out.next hb)
    replace HBL := Lib.hid (HBL.out.trans (hb.mono HBL.out.size))
    have P1 := Lib.hid hs
    clear hb hs
    go_wp2_with fail
    refine (pput_tlv l' _ HN'.out _ _ HP2.out A' c' w1 B2.out).mono ?_
    rintro e w2 ⟨AP2, cP2, rfl, hs, hb⟩
    replace B1 := Lib.hid (B1.out.next hb)
    replace B2 := Lib.hid (B2.out.next hb)
    replace P1 := Lib.hid (P1.out.next hb)
    replace HBL := Lib.hid (HBL.out.trans (hb.mono HBL.out.size))
    have P2 := Lib.hid hs
    clear hb hs
    have HR0 := Lib.hid (World.ownsRow_lit (e := 40) (base := w2.heap.size) (size := 2) w2 #[] 0 (Nat.le_refl _) (by decide) rfl)
    have HT1 := Lib.hid (B1.out.below (below_lit w2 #[] 40))
    have HS0 := Lib.hid (below_lit w2 #[] 40)
    have hs0 := HS0.out.size
    go_wp2_with (at_builtin; refine wpList_append_ts rfl (.tmp 30) (.tmp 31) rfl w2.heap.size _ 0 [] rfl HR0.out w2.heap.size l A _ c HN.out rfl HT1.out (by omega) hs0 ?_)
    intro v1 x1 L1 hL1 hB1 hown1 hg1
    have HO1 := Lib.hid hown1
    have HX1 := Lib.hid (show Below w2.heap.size w2 x1 from HS0.out.grown hg1 hs0 (fun g hg => own_ge HR0.out hg))
    have HQ1 := Lib.hid hB1
    have HL1 := Lib.hid hL1
    have hs1 := HX1.out.size
    have HT2 := Lib.hid (B2.out.below HX1.out)
    have hB1' : ∀ q ∈ L1, Bs x1 w2.heap.size q.f.val q.S q.c := fun q hq => (HQ1.out q hq).below (show Below w2.heap.size (w2.alloc (.cells #[] 40)) x1 from (Below.refl _ _).grown hg1 hs0 (fun g hg => own_ge HR0.out hg))
    have HQ1' := Lib.hid hB1'
    clear hown1 hg1 hL1 hB1 hB1' HR0 HT1 HQ1
    go_wp2_with (at_builtin; refine wpList_append_ts rfl (.tmp 33) (.tmp 34) rfl w2.heap.size v1 _ L1 rfl HO1.out w2.heap.size l' A' _ c' HN'.out rfl HT2.out (by omega) hs1 ?_)
    intro v2 x2 L2 hL2 hB2 hown2 hg2
    have hx2 : Below w2.heap.size x1 x2 := (Below.refl _ _).grown hg2 hs1 (fun g hg => own_ge HO1.out hg)
    have hb := HX1.out.trans hx2
    have hq2 : ∀ q ∈ L1 ++ L2, Bs x2 x2.heap.size q.f.val q.S q.c := fun q hq => by
      rcases List.mem_append.1 hq with h | h
      · exact ((HQ1'.out q h).below hx2).more hb.size
      · exact ((hB2 q h).below hx2).more hb.size
    obtain ⟨A3, c3, hv2, hts⟩ := ts_of_own hown2 hq2
    have hmap : (L1 ++ L2).map (·.f) = l ++ l' := by rw [List.map_append]; exact congr (congrArg _ HL1.out) hL2
    rw [hmap] at hts
    subst hv2
    have HT3 := Lib.hid hts
    clear hown2 hg2 hL2 hB2 hq2 hts hmap hx2 HS0 HO1 HX1 HL1 HQ1' HT2 hs1 hs0
    replace B1 := Lib.hid (B1.out.next hb)
    replace B2 := Lib.hid (B2.out.next hb)
    replace P1 := Lib.hid (P1.out.next hb)
    replace P2 := Lib.hid (P2.out.next hb)
    replace HBL := Lib.hid (HBL.out.trans (hb.mono HBL.out.size))
    clear hb
    go_wp2_with fail
    refine (pput_tlv (l ++ l') _ HNN.out _ _ HP3.out A3 c3 x2 HT3.out).mono ?_
    rintro e w21 ⟨AP3, cP3, rfl, hs, hb⟩
    replace B1 := Lib.hid (B1.out.next hb)
    replace B2 := Lib.hid (B2.out.next hb)
    replace P1 := Lib.hid (P1.out.next hb)
    replace P2 := Lib.hid (P2.out.next hb)
    replace HT3 := Lib.hid (HT3.out.next hb)
    replace HBL := Lib.hid (HBL.out.trans (hb.mono HBL.out.size))
    have P3 := Lib.hid hs
    clear hb hs
    go_wp2_with fail
    refine (listed_any w21).mono ?_
    rintro e w22 ⟨rfl, hb⟩
    replace B1 := Lib.hid (B1.out.next hb)
    replace B2 := Lib.hid (B2.out.next hb)
    replace P1 := Lib.hid (P1.out.next hb)
    replace P2 := Lib.hid (P2.out.next hb)
    replace P3 := Lib.hid (P3.out.next hb)
    replace HBL := Lib.hid (HBL.out.trans (hb.mono HBL.out.size))
    clear hb
    go_wp2
    go_ret
    exact ⟨rfl, HBL.out⟩
  · go_enter Try.func8, Try.ntmps8
    go_wp2_with fail
    refine (refbig_tlv l _ HN.out false HB.out A c w B1.out).mono ?_
    rintro e _ ⟨rfl, rfl⟩
    go_wp2_with fail
    refine (refbig_tlv l' _ HN'.out false HB'.out A' c' w B2.out).mono ?_
    rintro e _ ⟨rfl, rfl⟩
    go_wp2_with fail
    refine (pput_tlv l _ HN.out _ _ HP1.out A c w B1.out).mono ?_
    rintro e w1 ⟨AP1, cP1, rfl, hs, hb⟩
    replace B1 := Lib.hid (B1.out.next hb)
    replace B2 := Lib.hid (B2.out.next hb)
    replace HBL := Lib.hid (HBL.out.trans (hb.mono HBL.out.size))
    have P1 := Lib.hid hs
    clear hb hs
    go_wp2_with fail
    refine (pput_tlv l' _ HN'.out _ _ HP2.out A' c' w1 B2.out).mono ?_
    rintro e w2 ⟨AP2, cP2, rfl, hs, hb⟩
    replace B1 := Lib.hid (B1.out.next hb)
    replace B2 := Lib.hid (B2.out.next hb)
    replace P1 := Lib.hid (P1.out.next hb)
    replace HBL := Lib.hid (HBL.out.trans (hb.mono HBL.out.size))
    have P2 := Lib.hid hs
    clear hb hs
    have HR0 := Lib.hid (World.ownsRow_lit (e := 40) (base := w2.heap.size) (size := 2) w2 #[] 0 (Nat.le_refl _) (by decide) rfl)
    have HT1 := Lib.hid (B1.out.below (below_lit w2 #[] 40))
    have HS0 := Lib.hid (below_lit w2 #[] 40)
    have hs0 := HS0.out.size
    go_wp2_with (at_builtin; refine wpList_append_ts rfl (.tmp 30) (.tmp 31) rfl w2.heap.size _ 0 [] rfl HR0.out w2.heap.size l A _ c HN.out rfl HT1.out (by omega) hs0 ?_)
    intro v1 x1 L1 hL1 hB1 hown1 hg1
    have HO1 := Lib.hid hown1
    have HX1 := Lib.hid (show Below w2.heap.size w2 x1 from HS0.out.grown hg1 hs0 (fun g hg => own_ge HR0.out hg))
    have HQ1 := Lib.hid hB1
    have HL1 := Lib.hid hL1
    have hs1 := HX1.out.size
    have HT2 := Lib.hid (B2.out.below HX1.out)
    have hB1' : ∀ q ∈ L1, Bs x1 w2.heap.size q.f.val q.S q.c := fun q hq => (HQ1.out q hq).below (show Below w2.heap.size (w2.alloc (.cells #[] 40)) x1 from (Below.refl _ _).grown hg1 hs0 (fun g hg => own_ge HR0.out hg))
    have HQ1' := Lib.hid hB1'
    clear hown1 hg1 hL1 hB1 hB1' HR0 HT1 HQ1
    go_wp2_with (at_builtin; refine wpList_append_ts rfl (.tmp 33) (.tmp 34) rfl w2.heap.size v1 _ L1 rfl HO1.out w2.heap.size l' A' _ c' HN'.out rfl HT2.out (by omega) hs1 ?_)
    intro v2 x2 L2 hL2 hB2 hown2 hg2
    have hx2 : Below w2.heap.size x1 x2 := (Below.refl _ _).grown hg2 hs1 (fun g hg => own_ge HO1.out hg)
    have hb := HX1.out.trans hx2
    have hq2 : ∀ q ∈ L1 ++ L2, Bs x2 x2.heap.size q.f.val q.S q.c := fun q hq => by
      rcases List.mem_append.1 hq with h | h
      · exact ((HQ1'.out q h).below hx2).more hb.size
      · exact ((hB2 q h).below hx2).more hb.size
    obtain ⟨A3, c3, hv2, hts⟩ := ts_of_own hown2 hq2
    have hmap : (L1 ++ L2).map (·.f) = l ++ l' := by rw [List.map_append]; exact congr (congrArg _ HL1.out) hL2
    rw [hmap] at hts
    subst hv2
    have HT3 := Lib.hid hts
    clear hown2 hg2 hL2 hB2 hq2 hts hmap hx2 HS0 HO1 HX1 HL1 HQ1' HT2 hs1 hs0
    replace B1 := Lib.hid (B1.out.next hb)
    replace B2 := Lib.hid (B2.out.next hb)
    replace P1 := Lib.hid (P1.out.next hb)
    replace P2 := Lib.hid (P2.out.next hb)
    replace HBL := Lib.hid (HBL.out.trans (hb.mono HBL.out.size))
    clear hb
    go_wp2_with fail
    refine (pput_tlv (l ++ l') _ HNN.out _ _ HP3.out A3 c3 x2 HT3.out).mono ?_
    rintro e w21 ⟨AP3, cP3, rfl, hs, hb⟩
    replace B1 := Lib.hid (B1.out.next hb)
    replace B2 := Lib.hid (B2.out.next hb)
    replace P1 := Lib.hid (P1.out.next hb)
    replace P2 := Lib.hid (P2.out.next hb)
    replace HT3 := Lib.hid (HT3.out.next hb)
    replace HBL := Lib.hid (HBL.out.trans (hb.mono HBL.out.size))
    have P3 := Lib.hid hs
    clear hb hs
    go_wp2_with fail
    refine (listed_any w21).mono ?_
    rintro e w22 ⟨rfl, hb⟩
    replace B1 := Lib.hid (B1.out.next hb)
    replace B2 := Lib.hid (B2.out.next hb)
    replace P1 := Lib.hid (P1.out.next hb)
    replace P2 := Lib.hid (P2.out.next hb)
    replace P3 := Lib.hid (P3.out.next hb)
    replace HBL := Lib.hid (HBL.out.trans (hb.mono HBL.out.size))
    clear hb
    go_wp2
    go_ret
    exact ⟨rfl, HBL.out⟩
set_option maxRecDepth 100000 in
set_option maxHeartbeats 1600000 in
theorem joins17_n0 (l l' : List Tf) (n n' : Nat) (hn : n = l.length) (hn' : n' = l'.length) (A A' : Option Addr) (c c' : Nat) (w : World) (hb : bigT l = false) (hb' : bigT l' = false) (E1 E2 E3 : Nat) (p1 p2 p3 : List Nat) (hp1 : outT l = (E1, p1)) (hp2 : outT l' = (E2, p2)) (hp3 : outT (l ++ l') = (E3, p3)) (h1 : E1 = 0) (h2 : E2 = 0) (h3 : E3 = 0) (hj : p1 ++ p2 = p3) (hk : n = 0) (hA : Ts w w.heap.size l A c) (hA' : Ts w w.heap.size l' A' c') : Calls Try.prog 8 #[.slice A n c, .slice A' n' c'] w fun e w' => e = .returned (.bool true) ∧ Below w.heap.size w w' := by
  obtain ⟨i0, hi, hz0, hz1, hz2⟩ := info_parts infoU8
  have h1 := hA.len
  have h2 := hA.cap
  have h3 := hA'.len
  have h4 := hA'.cap
  have hn3 : n ≤ 9223372036854775807 := by omega
  have hn4 : n' ≤ 9223372036854775807 := by omega
  have HN := Lib.hid hn
  have HN' := Lib.hid hn'
  have B1 := Lib.hid hA
  have B2 := Lib.hid hA'
  have HBL := Lib.hid (Below.refl w.heap.size w)
  clear h1 h2 h3 h4 hn hn' hA hA'
  have hlim := (bigT_false hb).1
  have hlim' := (bigT_false hb').1
  rw [← HN.out] at hlim
  rw [← HN'.out] at hlim'
  have HNN := Lib.hid (show n' = (l ++ l').length by rw [List.length_append, ← HN.out, ← HN'.out]; omega)
  have HB := Lib.hid hb
  have HB' := Lib.hid hb'
  have HP1 := Lib.hid hp1
  have HP2 := Lib.hid hp2
  have HP3 := Lib.hid hp3
  have hl1 := outT_len hp1
  have hl2 := outT_len hp2
  clear hb hb' hp1 hp2 hp3
  subst h1 h2 h3
  have HPJ := Lib.hid hj
  have HPL := Lib.hid (show p1.length + p2.length = p3.length by rw [← hj, List.length_append])
  clear hj
  subst hk
  go_enter Try.func8, Try.ntmps8
  go_wp2_with fail
  refine (refbig_tlv l _ HN.out false HB.out A c w B1.out).mono ?_
  rintro e _ ⟨rfl, rfl⟩
  go_wp2_with fail
  refine (refbig_tlv l' _ HN'.out false HB'.out A' c' w B2.out).mono ?_
  rintro e _ ⟨rfl, rfl⟩
  go_wp2_with fail
  refine (pput_tlv l _ HN.out _ _ HP1.out A c w B1.out).mono ?_
  rintro e w1 ⟨AP1, cP1, rfl, hs, hb⟩
  replace B1 := Lib.hid (B1.out.next hb)
  replace B2 := Lib.hid (B2.out.next hb)
  replace HBL := Lib.hid (HBL.out.trans (hb.mono HBL.out.size))
  have P1 := Lib.hid hs
  clear hb hs
  go_wp2_with fail
  refine (pput_tlv l' _ HN'.out _ _ HP2.out A' c' w1 B2.out).mono ?_
  rintro e w2 ⟨AP2, cP2, rfl, hs, hb⟩
  replace B1 := Lib.hid (B1.out.next hb)
  replace B2 := Lib.hid (B2.out.next hb)
  replace P1 := Lib.hid (P1.out.next hb)
  replace HBL := Lib.hid (HBL.out.trans (hb.mono HBL.out.size))
  have P2 := Lib.hid hs
  clear hb hs
  have HR0 := Lib.hid (World.ownsRow_lit (e := 40) (base := w2.heap.size) (size := 2) w2 #[] 0 (Nat.le_refl _) (by decide) rfl)
  have HT1 := Lib.hid (B1.out.below (below_lit w2 #[] 40))
  have HS0 := Lib.hid (below_lit w2 #[] 40)
  have hs0 := HS0.out.size
  go_wp2_with (at_builtin; refine wpList_append_ts rfl (.tmp 30) (.tmp 31) rfl w2.heap.size _ 0 [] rfl HR0.out w2.heap.size l A _ c HN.out rfl HT1.out (by omega) hs0 ?_)
  intro v1 x1 L1 hL1 hB1 hown1 hg1
  have HO1 := Lib.hid hown1
  have HX1 := Lib.hid (show Below w2.heap.size w2 x1 from HS0.out.grown hg1 hs0 (fun g hg => own_ge HR0.out hg))
  have HQ1 := Lib.hid hB1
  have HL1 := Lib.hid hL1
  have hs1 := HX1.out.size
  have HT2 := Lib.hid (B2.out.below HX1.out)
  have hB1' : ∀ q ∈ L1, Bs x1 w2.heap.size q.f.val q.S q.c := fun q hq => (HQ1.out q hq).below (show Below w2.heap.size (w2.alloc (.cells #[] 40)) x1 from (Below.refl _ _).grown hg1 hs0 (fun g hg => own_ge HR0.out hg))
  have HQ1' := Lib.hid hB1'
  clear hown1 hg1 hL1 hB1 hB1' HR0 HT1 HQ1
  go_wp2_with (at_builtin; refine wpList_append_ts rfl (.tmp 33) (.tmp 34) rfl w2.heap.size v1 _ L1 rfl HO1.out w2.heap.size l' A' _ c' HN'.out rfl HT2.out (by omega) hs1 ?_)
  intro v2 x2 L2 hL2 hB2 hown2 hg2
  have hx2 : Below w2.heap.size x1 x2 := (Below.refl _ _).grown hg2 hs1 (fun g hg => own_ge HO1.out hg)
  have hb := HX1.out.trans hx2
  have hq2 : ∀ q ∈ L1 ++ L2, Bs x2 x2.heap.size q.f.val q.S q.c := fun q hq => by
    rcases List.mem_append.1 hq with h | h
    · exact ((HQ1'.out q h).below hx2).more hb.size
    · exact ((hB2 q h).below hx2).more hb.size
  obtain ⟨A3, c3, hv2, hts⟩ := ts_of_own hown2 hq2
  have hmap : (L1 ++ L2).map (·.f) = l ++ l' := by rw [List.map_append]; exact congr (congrArg _ HL1.out) hL2
  rw [hmap] at hts
  subst hv2
  have HT3 := Lib.hid hts
  clear hown2 hg2 hL2 hB2 hq2 hts hmap hx2 HS0 HO1 HX1 HL1 HQ1' HT2 hs1 hs0
  replace B1 := Lib.hid (B1.out.next hb)
  replace B2 := Lib.hid (B2.out.next hb)
  replace P1 := Lib.hid (P1.out.next hb)
  replace P2 := Lib.hid (P2.out.next hb)
  replace HBL := Lib.hid (HBL.out.trans (hb.mono HBL.out.size))
  clear hb
  go_wp2_with fail
  refine (pput_tlv (l ++ l') _ HNN.out _ _ HP3.out A3 c3 x2 HT3.out).mono ?_
  rintro e w21 ⟨AP3, cP3, rfl, hs, hb⟩
  replace B1 := Lib.hid (B1.out.next hb)
  replace B2 := Lib.hid (B2.out.next hb)
  replace P1 := Lib.hid (P1.out.next hb)
  replace P2 := Lib.hid (P2.out.next hb)
  replace HT3 := Lib.hid (HT3.out.next hb)
  replace HBL := Lib.hid (HBL.out.trans (hb.mono HBL.out.size))
  have P3 := Lib.hid hs
  clear hb hs
  go_wp2
  go_quiet (fail)
  obtain ⟨y0, hy0⟩ : ∃ y0, y0 = w21.drewN nq := ⟨_, rfl⟩
  rw [← hy0]
  have hb : Below w21.heap.size w21 y0 := by rw [hy0]; exact below_drewN (Below.refl _ _) _
  replace B1 := Lib.hid (B1.out.next hb)
  replace B2 := Lib.hid (B2.out.next hb)
  replace P1 := Lib.hid (P1.out.next hb)
  replace P2 := Lib.hid (P2.out.next hb)
  replace P3 := Lib.hid (P3.out.next hb)
  replace HBL := Lib.hid (HBL.out.trans (hb.mono HBL.out.size))
  clear hb hy0
  have HR0 := Lib.hid (World.ownsRow_lit (e := 5) (base := y0.heap.size) (size := 1) y0 #[] 0 (Nat.le_refl _) (by decide) rfl)
  have HT1 := Lib.hid (P1.out.rd.alloc (Nat.le_refl _) (.cells #[] 5))
  have HS0 := Lib.hid (below_lit y0 #[] 5)
  have hs0 := HS0.out.size
  have ht1 : 0 + p1.length ≤ maxLen := by unfold maxLen; omega
  go_wp2_with (at_builtin; refine wpList_append_rd _ rfl (.tmp 80) (.tmp 81) 24 rfl y0.heap.size 5 i0 (.int .u8 0) 1 Try.underlying24 hi hz0 hz1 hz2 rfl _ 0 [] rfl HR0.out y0.heap.size AP1 p1.length cP1 (U8 p1) rfl HT1.out (tu8_len p1) P1.out.nil (U8_one _) ht1 (by omega) hs0 ?_)
  intro v5 y1 hown1 hg1
  have HO1 := Lib.hid hown1
  have HX1 := Lib.hid (show Below y0.heap.size y0 y1 from HS0.out.grown hg1 hs0 (fun g hg => own_ge HR0.out hg))
  have hs1 := HX1.out.size
  have HT2 := Lib.hid (P2.out.rd.below HX1.out)
  have ht2 : p1.length + p2.length ≤ maxLen := by unfold maxLen; omega
  clear hown1 hg1 HR0 HT1 HS0 hs0
  go_wp2_with (at_builtin; refine wpList_append_rd _ rfl (.tmp 83) (.tmp 84) 24 rfl y0.heap.size 5 i0 (.int .u8 0) 1 Try.underlying24 hi hz0 hz1 hz2 rfl v5 p1.length (U8 p1) rfl HO1.out y0.heap.size AP2 p2.length cP2 (U8 p2) rfl HT2.out (tu8_len p2) P2.out.nil (U8_one _) ht2 (by omega) hs1 ?_)
  intro v6 y2 hown2 hg2
  have hb := HX1.out.grown hg2 hs1 (fun g hg => own_ge HO1.out hg)
  rw [← tu8_app, HPJ.out] at hown2
  obtain ⟨AX, cX, hv6, hbx⟩ := bs_of_own hown2 (by rw [← HPJ.out]; exact fun x hx => (List.mem_append.1 hx).elim (P1.out.lt x) (P2.out.lt x))
  subst hv6
  have BX := Lib.hid hbx
  clear hown2 hg2 hbx HO1 HX1 HT2 hs1
  replace B1 := Lib.hid (B1.out.next hb)
  replace B2 := Lib.hid (B2.out.next hb)
  replace P1 := Lib.hid (P1.out.next hb)
  replace P2 := Lib.hid (P2.out.next hb)
  replace P3 := Lib.hid (P3.out.next hb)
  replace HBL := Lib.hid (HBL.out.trans (hb.mono HBL.out.size))
  clear hb
  go_wp2_with fail
  refine (listed_any y2).mono ?_
  rintro e w41 ⟨rfl, hb⟩
  replace B1 := Lib.hid (B1.out.next hb)
  replace B2 := Lib.hid (B2.out.next hb)
  replace P1 := Lib.hid (P1.out.next hb)
  replace P2 := Lib.hid (P2.out.next hb)
  replace P3 := Lib.hid (P3.out.next hb)
  replace BX := Lib.hid (BX.out.next hb)
  replace HBL := Lib.hid (HBL.out.trans (hb.mono HBL.out.size))
  clear hb
  go_wp2_with fail
  refine (same_true p3 p3.length (p1.length + p2.length) rfl HPL.out AP3 AX cP3 cX w41 P3.out BX.out).mono ?_
  rintro e w42 ⟨rfl, hb⟩
  replace B1 := Lib.hid (B1.out.next hb)
  replace B2 := Lib.hid (B2.out.next hb)
  replace P1 := Lib.hid (P1.out.next hb)
  replace P2 := Lib.hid (P2.out.next hb)
  replace P3 := Lib.hid (P3.out.next hb)
  replace BX := Lib.hid (BX.out.next hb)
  replace HBL := Lib.hid (HBL.out.trans (hb.mono HBL.out.size))
  clear hb
  go_wp2
  go_ret
  exact ⟨rfl, HBL.out⟩
set_option maxRecDepth 100000 in
set_option maxHeartbeats 1600000 in
theorem joins17_m0 (l l' : List Tf) (n n' : Nat) (hn : n = l.length) (hn' : n' = l'.length) (A A' : Option Addr) (c c' : Nat) (w : World) (hb : bigT l = false) (hb' : bigT l' = false) (E1 E2 E3 : Nat) (p1 p2 p3 : List Nat) (hp1 : outT l = (E1, p1)) (hp2 : outT l' = (E2, p2)) (hp3 : outT (l ++ l') = (E3, p3)) (h1 : E1 = 0) (h2 : E2 = 0) (h3 : E3 = 0) (hj : p1 ++ p2 = p3) (hk : 0 < n) (hk' : n' = 0) (hA : Ts w w.heap.size l A c) (hA' : Ts w w.heap.size l' A' c') : Calls Try.prog 8 #[.slice A n c, .slice A' n' c'] w fun e w' => e = .returned (.bool true) ∧ Below w.heap.size w w' := by
  obtain ⟨i0, hi, hz0, hz1, hz2⟩ := info_parts infoU8
  have h1 := hA.len
  have h2 := hA.cap
  have h3 := hA'.len
  have h4 := hA'.cap
  have hn3 : n ≤ 9223372036854775807 := by omega
  have hn4 : n' ≤ 9223372036854775807 := by omega
  have HN := Lib.hid hn
  have HN' := Lib.hid hn'
  have B1 := Lib.hid hA
  have B2 := Lib.hid hA'
  have HBL := Lib.hid (Below.refl w.heap.size w)
  clear h1 h2 h3 h4 hn hn' hA hA'
  have hlim := (bigT_false hb).1
  have hlim' := (bigT_false hb').1
  rw [← HN.out] at hlim
  rw [← HN'.out] at hlim'
  have HNN := Lib.hid (show n = (l ++ l').length by rw [List.length_append, ← HN.out, ← HN'.out]; omega)
  have HB := Lib.hid hb
  have HB' := Lib.hid hb'
  have HP1 := Lib.hid hp1
  have HP2 := Lib.hid hp2
  have HP3 := Lib.hid hp3
  have hl1 := outT_len hp1
  have hl2 := outT_len hp2
  clear hb hb' hp1 hp2 hp3
  subst h1 h2 h3
  have HPJ := Lib.hid hj
  have HPL := Lib.hid (show p1.length + p2.length = p3.length by rw [← hj, List.length_append])
  clear hj
  obtain ⟨j, hj⟩ : ∃ j, j + 1 = n := ⟨n - 1, by omega⟩
  obtain ⟨ad, S, cc, hsome, had, hat⟩ := B1.out.rd j (by rw [← HN.out]; omega)
  subst hsome
  have hc0 := hat.c0
  have k1 : (0 : Int) < (n : Int) := by omega
  have k2 : decide (0 < n) = true := decide_eq_true hk
  subst hk'
  clear hat hj
  go_enter Try.func8, Try.ntmps8
  go_wp2_with fail
  refine (refbig_tlv l _ HN.out false HB.out (some ad) c w B1.out).mono ?_
  rintro e _ ⟨rfl, rfl⟩
  go_wp2_with fail
  refine (refbig_tlv l' _ HN'.out false HB'.out A' c' w B2.out).mono ?_
  rintro e _ ⟨rfl, rfl⟩
  go_wp2_with fail
  refine (pput_tlv l _ HN.out _ _ HP1.out (some ad) c w B1.out).mono ?_
  rintro e w1 ⟨AP1, cP1, rfl, hs, hb⟩
  replace B1 := Lib.hid (B1.out.next hb)
  replace B2 := Lib.hid (B2.out.next hb)
  replace HBL := Lib.hid (HBL.out.trans (hb.mono HBL.out.size))
  have P1 := Lib.hid hs
  clear hb hs
  go_wp2_with fail
  refine (pput_tlv l' _ HN'.out _ _ HP2.out A' c' w1 B2.out).mono ?_
  rintro e w2 ⟨AP2, cP2, rfl, hs, hb⟩
  replace B1 := Lib.hid (B1.out.next hb)
  replace B2 := Lib.hid (B2.out.next hb)
  replace P1 := Lib.hid (P1.out.next hb)
  replace HBL := Lib.hid (HBL.out.trans (hb.mono HBL.out.size))
  have P2 := Lib.hid hs
  clear hb hs
  have HR0 := Lib.hid (World.ownsRow_lit (e := 40) (base := w2.heap.size) (size := 2) w2 #[] 0 (Nat.le_refl _) (by decide) rfl)
  have HT1 := Lib.hid (B1.out.below (below_lit w2 #[] 40))
  have HS0 := Lib.hid (below_lit w2 #[] 40)
  have hs0 := HS0.out.size
  go_wp2_with (at_builtin; refine wpList_append_ts rfl (.tmp 30) (.tmp 31) rfl w2.heap.size _ 0 [] rfl HR0.out w2.heap.size l (some ad) _ c HN.out rfl HT1.out (by omega) hs0 ?_)
  intro v1 x1 L1 hL1 hB1 hown1 hg1
  have HO1 := Lib.hid hown1
  have HX1 := Lib.hid (show Below w2.heap.size w2 x1 from HS0.out.grown hg1 hs0 (fun g hg => own_ge HR0.out hg))
  have HQ1 := Lib.hid hB1
  have HL1 := Lib.hid hL1
  have hs1 := HX1.out.size
  have HT2 := Lib.hid (B2.out.below HX1.out)
  have hB1' : ∀ q ∈ L1, Bs x1 w2.heap.size q.f.val q.S q.c := fun q hq => (HQ1.out q hq).below (show Below w2.heap.size (w2.alloc (.cells #[] 40)) x1 from (Below.refl _ _).grown hg1 hs0 (fun g hg => own_ge HR0.out hg))
  have HQ1' := Lib.hid hB1'
  clear hown1 hg1 hL1 hB1 hB1' HR0 HT1 HQ1
  go_wp2_with (at_builtin; refine wpList_append_ts rfl (.tmp 33) (.tmp 34) rfl w2.heap.size v1 _ L1 rfl HO1.out w2.heap.size l' A' _ c' HN'.out rfl HT2.out (by omega) hs1 ?_)
  intro v2 x2 L2 hL2 hB2 hown2 hg2
  have hx2 : Below w2.heap.size x1 x2 := (Below.refl _ _).grown hg2 hs1 (fun g hg => own_ge HO1.out hg)
  have hb := HX1.out.trans hx2
  have hq2 : ∀ q ∈ L1 ++ L2, Bs x2 x2.heap.size q.f.val q.S q.c := fun q hq => by
    rcases List.mem_append.1 hq with h | h
    · exact ((HQ1'.out q h).below hx2).more hb.size
    · exact ((hB2 q h).below hx2).more hb.size
  obtain ⟨A3, c3, hv2, hts⟩ := ts_of_own hown2 hq2
  have hmap : (L1 ++ L2).map (·.f) = l ++ l' := by rw [List.map_append]; exact congr (congrArg _ HL1.out) hL2
  rw [hmap] at hts
  subst hv2
  have HT3 := Lib.hid hts
  clear hown2 hg2 hL2 hB2 hq2 hts hmap hx2 HS0 HO1 HX1 HL1 HQ1' HT2 hs1 hs0
  replace B1 := Lib.hid (B1.out.next hb)
  replace B2 := Lib.hid (B2.out.next hb)
  replace P1 := Lib.hid (P1.out.next hb)
  replace P2 := Lib.hid (P2.out.next hb)
  replace HBL := Lib.hid (HBL.out.trans (hb.mono HBL.out.size))
  clear hb
  go_wp2_with fail
  refine (pput_tlv (l ++ l') _ HNN.out _ _ HP3.out A3 c3 x2 HT3.out).mono ?_
  rintro e w21 ⟨AP3, cP3, rfl, hs, hb⟩
  replace B1 := Lib.hid (B1.out.next hb)
  replace B2 := Lib.hid (B2.out.next hb)
  replace P1 := Lib.hid (P1.out.next hb)
  replace P2 := Lib.hid (P2.out.next hb)
  replace HT3 := Lib.hid (HT3.out.next hb)
  replace HBL := Lib.hid (HBL.out.trans (hb.mono HBL.out.size))
  have P3 := Lib.hid hs
  clear hb hs
  go_wp2
  go_quiet (fail)
  obtain ⟨y0, hy0⟩ : ∃ y0, y0 = w21.drewN nq := ⟨_, rfl⟩
  rw [← hy0]
  have hb : Below w21.heap.size w21 y0 := by rw [hy0]; exact below_drewN (Below.refl _ _) _
  replace B1 := Lib.hid (B1.out.next hb)
  replace B2 := Lib.hid (B2.out.next hb)
  replace P1 := Lib.hid (P1.out.next hb)
  replace P2 := Lib.hid (P2.out.next hb)
  replace P3 := Lib.hid (P3.out.next hb)
  replace HBL := Lib.hid (HBL.out.trans (hb.mono HBL.out.size))
  clear hb hy0
  have HR0 := Lib.hid (World.ownsRow_lit (e := 5) (base := y0.heap.size) (size := 1) y0 #[] 0 (Nat.le_refl _) (by decide) rfl)
  have HT1 := Lib.hid (P1.out.rd.alloc (Nat.le_refl _) (.cells #[] 5))
  have HS0 := Lib.hid (below_lit y0 #[] 5)
  have hs0 := HS0.out.size
  have ht1 : 0 + p1.length ≤ maxLen := by unfold maxLen; omega
  go_wp2_with (at_builtin; refine wpList_append_rd _ rfl (.tmp 80) (.tmp 81) 24 rfl y0.heap.size 5 i0 (.int .u8 0) 1 Try.underlying24 hi hz0 hz1 hz2 rfl _ 0 [] rfl HR0.out y0.heap.size AP1 p1.length cP1 (U8 p1) rfl HT1.out (tu8_len p1) P1.out.nil (U8_one _) ht1 (by omega) hs0 ?_)
  intro v5 y1 hown1 hg1
  have HO1 := Lib.hid hown1
  have HX1 := Lib.hid (show Below y0.heap.size y0 y1 from HS0.out.grown hg1 hs0 (fun g hg => own_ge HR0.out hg))
  have hs1 := HX1.out.size
  have HT2 := Lib.hid (P2.out.rd.below HX1.out)
  have ht2 : p1.length + p2.length ≤ maxLen := by unfold maxLen; omega
  clear hown1 hg1 HR0 HT1 HS0 hs0
  go_wp2_with (at_builtin; refine wpList_append_rd _ rfl (.tmp 83) (.tmp 84) 24 rfl y0.heap.size 5 i0 (.int .u8 0) 1 Try.underlying24 hi hz0 hz1 hz2 rfl v5 p1.length (U8 p1) rfl HO1.out y0.heap.size AP2 p2.length cP2 (U8 p2) rfl HT2.out (tu8_len p2) P2.out.nil (U8_one _) ht2 (by omega) hs1 ?_)
  intro v6 y2 hown2 hg2
  have hb := HX1.out.grown hg2 hs1 (fun g hg => own_ge HO1.out hg)
  rw [← tu8_app, HPJ.out] at hown2
  obtain ⟨AX, cX, hv6, hbx⟩ := bs_of_own hown2 (by rw [← HPJ.out]; exact fun x hx => (List.mem_append.1 hx).elim (P1.out.lt x) (P2.out.lt x))
  subst hv6
  have BX := Lib.hid hbx
  clear hown2 hg2 hbx HO1 HX1 HT2 hs1
  replace B1 := Lib.hid (B1.out.next hb)
  replace B2 := Lib.hid (B2.out.next hb)
  replace P1 := Lib.hid (P1.out.next hb)
  replace P2 := Lib.hid (P2.out.next hb)
  replace P3 := Lib.hid (P3.out.next hb)
  replace HBL := Lib.hid (HBL.out.trans (hb.mono HBL.out.size))
  clear hb
  go_wp2_with fail
  refine (listed_any y2).mono ?_
  rintro e w41 ⟨rfl, hb⟩
  replace B1 := Lib.hid (B1.out.next hb)
  replace B2 := Lib.hid (B2.out.next hb)
  replace P1 := Lib.hid (P1.out.next hb)
  replace P2 := Lib.hid (P2.out.next hb)
  replace P3 := Lib.hid (P3.out.next hb)
  replace BX := Lib.hid (BX.out.next hb)
  replace HBL := Lib.hid (HBL.out.trans (hb.mono HBL.out.size))
  clear hb
  go_wp2_with fail
  refine (same_true p3 p3.length (p1.length + p2.length) rfl HPL.out AP3 AX cP3 cX w41 P3.out BX.out).mono ?_
  rintro e w42 ⟨rfl, hb⟩
  replace B1 := Lib.hid (B1.out.next hb)
  replace B2 := Lib.hid (B2.out.next hb)
  replace P1 := Lib.hid (P1.out.next hb)
  replace P2 := Lib.hid (P2.out.next hb)
  replace P3 := Lib.hid (P3.out.next hb)
  replace BX := Lib.hid (BX.out.next hb)
  replace HBL := Lib.hid (HBL.out.trans (hb.mono HBL.out.size))
  clear hb
  go_wp2
  go_ret
  exact ⟨rfl, HBL.out⟩
set_option maxRecDepth 100000 in
set_option maxHeartbeats 1600000 in
theorem joins17_bad (l l' : List Tf) (n n' : Nat) (hn : n = l.length) (hn' : n' = l'.length) (A A' : Option Addr) (c c' : Nat) (w : World) (hb : bigT l = false) (hb' : bigT l' = false) (E1 E2 E3 : Nat) (p1 p2 p3 : List Nat) (hp1 : outT l = (E1, p1)) (hp2 : outT l' = (E2, p2)) (hp3 : outT (l ++ l') = (E3, p3)) (h1 : E1 = 0) (h2 : E2 = 0) (h3 : E3 = 1) (hk : 0 < n) (hk' : 0 < n') (hq : (l'.getD 0 TF0).tag ≤ lastT 0 l) (hA : Ts w w.heap.size l A c) (hA' : Ts w w.heap.size l' A' c') : Calls Try.prog 8 #[.slice A n c, .slice A' n' c'] w fun e w' => e = .returned (.bool true) ∧ Below w.heap.size w w' := by
  obtain ⟨i0, hi, hz0, hz1, hz2⟩ := info_parts infoU8
  have h1 := hA.len
  have h2 := hA.cap
  have h3 := hA'.len
  have h4 := hA'.cap
  have hn3 : n ≤ 9223372036854775807 := by omega
  have hn4 : n' ≤ 9223372036854775807 := by omega
  have HN := Lib.hid hn
  have HN' := Lib.hid hn'
  have B1 := Lib.hid hA
  have B2 := Lib.hid hA'
  have HBL := Lib.hid (Below.refl w.heap.size w)
  clear h1 h2 h3 h4 hn hn' hA hA'
  have hlim := (bigT_false hb).1
  have hlim' := (bigT_false hb').1
  rw [← HN.out] at hlim
  rw [← HN'.out] at hlim'
  have HNN := Lib.hid (show n + n' = (l ++ l').length by rw [List.length_append, ← HN.out, ← HN'.out])
  have HB := Lib.hid hb
  have HB' := Lib.hid hb'
  have HP1 := Lib.hid hp1
  have HP2 := Lib.hid hp2
  have HP3 := Lib.hid hp3
  have hl1 := outT_len hp1
  have hl2 := outT_len hp2
  clear hb hb' hp1 hp2 hp3
  subst h1 h2 h3
  obtain ⟨j, hj⟩ : ∃ j, j + 1 = n := ⟨n - 1, by omega⟩
  obtain ⟨ad, S, cc, hsome, had, hat⟩ := B1.out.rd j (by rw [← HN.out]; omega)
  subst hsome
  have hc0 := hat.c0
  have k1 : (0 : Int) < (n : Int) := by omega
  have k2 : decide (0 < n) = true := decide_eq_true hk
  obtain ⟨ad', S', cc', hsome', had', hat'⟩ := B2.out.rd 0 (by rw [← HN'.out]; exact hk')
  subst hsome'
  have hc1 := hat'.c0
  rw [Nat.zero_mul, add_zero'] at hc1
  have k3 : (0 : Int) < (n' : Int) := by omega
  have k4 : decide (0 < n') = true := decide_eq_true hk'
  rw [lastT_end (j := j) (by rw [hj]; exact HN.out)] at hq
  have j1 : IntKind.i64.wrap ((n : Int) - 1) = (j : Int) := by rw [IntWalk.i64_in _ (by omega)]; omega
  have j2 : (0 : Int) ≤ (j : Int) := by omega
  have j3 : (j : Int) < (n : Int) := by omega
  generalize l.getD j TF0 = f at *
  generalize l'.getD 0 TF0 = g at *
  have k5 : decide (g.tag ≤ f.tag) = true := decide_eq_true hq
  clear hat hat' hj
  go_enter Try.func8, Try.ntmps8
  go_wp2_with fail
  refine (refbig_tlv l _ HN.out false HB.out (some ad) c w B1.out).mono ?_
  rintro e _ ⟨rfl, rfl⟩
  go_wp2_with fail
  refine (refbig_tlv l' _ HN'.out false HB'.out (some ad') c' w B2.out).mono ?_
  rintro e _ ⟨rfl, rfl⟩
  go_wp2_with fail
  refine (pput_tlv l _ HN.out _ _ HP1.out (some ad) c w B1.out).mono ?_
  rintro e w1 ⟨AP1, cP1, rfl, hs, hb⟩
  replace B1 := Lib.hid (B1.out.next hb)
  replace B2 := Lib.hid (B2.out.next hb)
  replace HBL := Lib.hid (HBL.out.trans (hb.mono HBL.out.size))
  have P1 := Lib.hid hs
  clear hb hs
  go_wp2_with fail
  refine (pput_tlv l' _ HN'.out _ _ HP2.out (some ad') c' w1 B2.out).mono ?_
  rintro e w2 ⟨AP2, cP2, rfl, hs, hb⟩
  replace B1 := Lib.hid (B1.out.next hb)
  replace B2 := Lib.hid (B2.out.next hb)
  replace P1 := Lib.hid (P1.out.next hb)
  replace HBL := Lib.hid (HBL.out.trans (hb.mono HBL.out.size))
  have P2 := Lib.hid hs
  clear hb hs
  have HR0 := Lib.hid (World.ownsRow_lit (e := 40) (base := w2.heap.size) (size := 2) w2 #[] 0 (Nat.le_refl _) (by decide) rfl)
  have HT1 := Lib.hid (B1.out.below (below_lit w2 #[] 40))
  have HS0 := Lib.hid (below_lit w2 #[] 40)
  have hs0 := HS0.out.size
  go_wp2_with (at_builtin; refine wpList_append_ts rfl (.tmp 30) (.tmp 31) rfl w2.heap.size _ 0 [] rfl HR0.out w2.heap.size l (some ad) _ c HN.out rfl HT1.out (by omega) hs0 ?_)
  intro v1 x1 L1 hL1 hB1 hown1 hg1
  have HO1 := Lib.hid hown1
  have HX1 := Lib.hid (show Below w2.heap.size w2 x1 from HS0.out.grown hg1 hs0 (fun g hg => own_ge HR0.out hg))
  have HQ1 := Lib.hid hB1
  have HL1 := Lib.hid hL1
  have hs1 := HX1.out.size
  have HT2 := Lib.hid (B2.out.below HX1.out)
  have hB1' : ∀ q ∈ L1, Bs x1 w2.heap.size q.f.val q.S q.c := fun q hq => (HQ1.out q hq).below (show Below w2.heap.size (w2.alloc (.cells #[] 40)) x1 from (Below.refl _ _).grown hg1 hs0 (fun g hg => own_ge HR0.out hg))
  have HQ1' := Lib.hid hB1'
  clear hown1 hg1 hL1 hB1 hB1' HR0 HT1 HQ1
  go_wp2_with (at_builtin; refine wpList_append_ts rfl (.tmp 33) (.tmp 34) rfl w2.heap.size v1 _ L1 rfl HO1.out w2.heap.size l' (some ad') _ c' HN'.out rfl HT2.out (by omega) hs1 ?_)
  intro v2 x2 L2 hL2 hB2 hown2 hg2
  have hx2 : Below w2.heap.size x1 x2 := (Below.refl _ _).grown hg2 hs1 (fun g hg => own_ge HO1.out hg)
  have hb := HX1.out.trans hx2
  have hq2 : ∀ q ∈ L1 ++ L2, Bs x2 x2.heap.size q.f.val q.S q.c := fun q hq => by
    rcases List.mem_append.1 hq with h | h
    · exact ((HQ1'.out q h).below hx2).more hb.size
    · exact ((hB2 q h).below hx2).more hb.size
  obtain ⟨A3, c3, hv2, hts⟩ := ts_of_own hown2 hq2
  have hmap : (L1 ++ L2).map (·.f) = l ++ l' := by rw [List.map_append]; exact congr (congrArg _ HL1.out) hL2
  rw [hmap] at hts
  subst hv2
  have HT3 := Lib.hid hts
  clear hown2 hg2 hL2 hB2 hq2 hts hmap hx2 HS0 HO1 HX1 HL1 HQ1' HT2 hs1 hs0
  replace B1 := Lib.hid (B1.out.next hb)
  replace B2 := Lib.hid (B2.out.next hb)
  replace P1 := Lib.hid (P1.out.next hb)
  replace P2 := Lib.hid (P2.out.next hb)
  replace HBL := Lib.hid (HBL.out.trans (hb.mono HBL.out.size))
  clear hb
  go_wp2_with fail
  refine (pput_tlv (l ++ l') _ HNN.out _ _ HP3.out A3 c3 x2 HT3.out).mono ?_
  rintro e w21 ⟨AP3, cP3, rfl, hs, hb⟩
  replace B1 := Lib.hid (B1.out.next hb)
  replace B2 := Lib.hid (B2.out.next hb)
  replace P1 := Lib.hid (P1.out.next hb)
  replace P2 := Lib.hid (P2.out.next hb)
  replace HT3 := Lib.hid (HT3.out.next hb)
  replace HBL := Lib.hid (HBL.out.trans (hb.mono HBL.out.size))
  have P3 := Lib.hid hs
  clear hb hs
  have d0 := (HBL.out.cell (p := ad.add (j * 2)) (by rw [add_block]; exact had)).trans hc0
  have d1 := (HBL.out.cell (p := ad') had').trans hc1
  go_wp2
  go_quiet (fail)
  replace HBL := Lib.hid (below_drewN HBL.out nq)
  go_wp2_with fail
  refine (listed_any (w21.drewN nq)).mono ?_
  rintro e w22 ⟨rfl, hb⟩
  replace HBL := Lib.hid (HBL.out.trans (hb.mono HBL.out.size))
  clear hb
  go_wp2
  go_ret
  exact ⟨rfl, HBL.out⟩
set_option maxRecDepth 100000 in
set_option maxHeartbeats 1600000 in
theorem joins17_ok (l l' : List Tf) (n n' : Nat) (hn : n = l.length) (hn' : n' = l'.length) (A A' : Option Addr) (c c' : Nat) (w : World) (hb : bigT l = false) (hb' : bigT l' = false) (E1 E2 E3 : Nat) (p1 p2 p3 : List Nat) (hp1 : outT l = (E1, p1)) (hp2 : outT l' = (E2, p2)) (hp3 : outT (l ++ l') = (E3, p3)) (h1 : E1 = 0) (h2 : E2 = 0) (h3 : E3 = 0) (hj : p1 ++ p2 = p3) (hk : 0 < n) (hk' : 0 < n') (hq : lastT 0 l < (l'.getD 0 TF0).tag) (hA : Ts w w.heap.size l A c) (hA' : Ts w w.heap.size l' A' c') : Calls Try.prog 8 #[.slice A n c, .slice A' n' c'] w fun e w' => e = .returned (.bool true) ∧ Below w.heap.size w w' := by
  obtain ⟨i0, hi, hz0, hz1, hz2⟩ := info_parts infoU8
  have h1 := hA.len
  have h2 := hA.cap
  have h3 := hA'.len
  have h4 := hA'.cap
  have hn3 : n ≤ 9223372036854775807 := by omega
  have hn4 : n' ≤ 9223372036854775807 := by omega
  have HN := Lib.hid hn
  have HN' := Lib.hid hn'
  have B1 := Lib.hid hA
  have B2 := Lib.hid hA'
  have HBL := Lib.hid (Below.refl w.heap.size w)
  clear h1 h2 h3 h4 hn hn' hA hA'
  have hlim := (bigT_false hb).1
  have hlim' := (bigT_false hb').1
  rw [← HN.out] at hlim
  rw [← HN'.out] at hlim'
  have HNN := Lib.hid (show n + n' = (l ++ l').length by rw [List.length_append, ← HN.out, ← HN'.out])
  have HB := Lib.hid hb
  have HB' := Lib.hid hb'
  have HP1 := Lib.hid hp1
  have HP2 := Lib.hid hp2
  have HP3 := Lib.hid hp3
  have hl1 := outT_len hp1
  have hl2 := outT_len hp2
  clear hb hb' hp1 hp2 hp3
  subst h1 h2 h3
  have HPJ := Lib.hid hj
  have HPL := Lib.hid (show p1.length + p2.length = p3.length by rw [← hj, List.length_append])
  clear hj
  obtain ⟨j, hj⟩ : ∃ j, j + 1 = n := ⟨n - 1, by omega⟩
  obtain ⟨ad, S, cc, hsome, had, hat⟩ := B1.out.rd j (by rw [← HN.out]; omega)
  subst hsome
  have hc0 := hat.c0
  have k1 : (0 : Int) < (n : Int) := by omega
  have k2 : decide (0 < n) = true := decide_eq_true hk
  obtain ⟨ad', S', cc', hsome', had', hat'⟩ := B2.out.rd 0 (by rw [← HN'.out]; exact hk')
  subst hsome'
  have hc1 := hat'.c0
  rw [Nat.zero_mul, add_zero'] at hc1
  have k3 : (0 : Int) < (n' : Int) := by omega
  have k4 : decide (0 < n') = true := decide_eq_true hk'
  rw [lastT_end (j := j) (by rw [hj]; exact HN.out)] at hq
  have j1 : IntKind.i64.wrap ((n : Int) - 1) = (j : Int) := by rw [IntWalk.i64_in _ (by omega)]; omega
  have j2 : (0 : Int) ≤ (j : Int) := by omega
  have j3 : (j : Int) < (n : Int) := by omega
  generalize l.getD j TF0 = f at *
  generalize l'.getD 0 TF0 = g at *
  have k5 : decide (g.tag ≤ f.tag) = false := decide_eq_false (by omega)
  clear hat hat' hj
  go_enter Try.func8, Try.ntmps8
  go_wp2_with fail
  refine (refbig_tlv l _ HN.out false HB.out (some ad) c w B1.out).mono ?_
  rintro e _ ⟨rfl, rfl⟩
  go_wp2_with fail
  refine (refbig_tlv l' _ HN'.out false HB'.out (some ad') c' w B2.out).mono ?_
  rintro e _ ⟨rfl, rfl⟩
  go_wp2_with fail
  refine (pput_tlv l _ HN.out _ _ HP1.out (some ad) c w B1.out).mono ?_
  rintro e w1 ⟨AP1, cP1, rfl, hs, hb⟩
  replace B1 := Lib.hid (B1.out.next hb)
  replace B2 := Lib.hid (B2.out.next hb)
  replace HBL := Lib.hid (HBL.out.trans (hb.mono HBL.out.size))
  have P1 := Lib.hid hs
  clear hb hs
  go_wp2_with fail
  refine (pput_tlv l' _ HN'.out _ _ HP2.out (some ad') c' w1 B2.out).mono ?_
  rintro e w2 ⟨AP2, cP2, rfl, hs, hb⟩
  replace B1 := Lib.hid (B1.out.next hb)
  replace B2 := Lib.hid (B2.out.next hb)
  replace P1 := Lib.hid (P1.out.next hb)
  replace HBL := Lib.hid (HBL.out.trans (hb.mono HBL.out.size))
  have P2 := Lib.hid hs
  clear hb hs
  have HR0 := Lib.hid (World.ownsRow_lit (e := 40) (base := w2.heap.size) (size := 2) w2 #[] 0 (Nat.le_refl _) (by decide) rfl)
  have HT1 := Lib.hid (B1.out.below (below_lit w2 #[] 40))
  have HS0 := Lib.hid (below_lit w2 #[] 40)
  have hs0 := HS0.out.size
  go_wp2_with (at_builtin; refine wpList_append_ts rfl (.tmp 30) (.tmp 31) rfl w2.heap.size _ 0 [] rfl HR0.out w2.heap.size l (some ad) _ c HN.out rfl HT1.out (by omega) hs0 ?_)
  intro v1 x1 L1 hL1 hB1 hown1 hg1
  have HO1 := Lib.hid hown1
  have HX1 := Lib.hid (show Below w2.heap.size w2 x1 from HS0.out.grown hg1 hs0 (fun g hg => own_ge HR0.out hg))
  have HQ1 := Lib.hid hB1
  have HL1 := Lib.hid hL1
  have hs1 := HX1.out.size
  have HT2 := Lib.hid (B2.out.below HX1.out)
  have hB1' : ∀ q ∈ L1, Bs x1 w2.heap.size q.f.val q.S q.c := fun q hq => (HQ1.out q hq).below (show Below w2.heap.size (w2.alloc (.cells #[] 40)) x1 from (Below.refl _ _).grown hg1 hs0 (fun g hg => own_ge HR0.out hg))
  have HQ1' := Lib.hid hB1'
  clear hown1 hg1 hL1 hB1 hB1' HR0 HT1 HQ1
  go_wp2_with (at_builtin; refine wpList_append_ts rfl (.tmp 33) (.tmp 34) rfl w2.heap.size v1 _ L1 rfl HO1.out w2.heap.size l' (some ad') _ c' HN'.out rfl HT2.out (by omega) hs1 ?_)
  intro v2 x2 L2 hL2 hB2 hown2 hg2
  have hx2 : Below w2.heap.size x1 x2 := (Below.refl _ _).grown hg2 hs1 (fun g hg => own_ge HO1.out hg)
  have hb := HX1.out.trans hx2
  have hq2 : ∀ q ∈ L1 ++ L2, Bs x2 x2.heap.size q.f.val q.S q.c := fun q hq => by
    rcases List.mem_append.1 hq with h | h
    · exact ((HQ1'.out q h).below hx2).more hb.size
    · exact ((hB2 q h).below hx2).more hb.size
  obtain ⟨A3, c3, hv2, hts⟩ := ts_of_own hown2 hq2
  have hmap : (L1 ++ L2).map (·.f) = l ++ l' := by rw [List.map_append]; exact congr (congrArg _ HL1.out) hL2
  rw [hmap] at hts
  subst hv2
  have HT3 := Lib.hid hts
  clear hown2 hg2 hL2 hB2 hq2 hts hmap hx2 HS0 HO1 HX1 HL1 HQ1' HT2 hs1 hs0
  replace B1 := Lib.hid (B1.out.next hb)
  replace B2 := Lib.hid (B2.out.next hb)
  replace P1 := Lib.hid (P1.out.next hb)
  replace P2 := Lib.hid (P2.out.next hb)
  replace HBL := Lib.hid (HBL.out.trans (hb.mono HBL.out.size))
  clear hb
  go_wp2_with fail
  refine (pput_tlv (l ++ l') _ HNN.out _ _ HP3.out A3 c3 x2 HT3.out).mono ?_
  rintro e w21 ⟨AP3, cP3, rfl, hs, hb⟩
  replace B1 := Lib.hid (B1.out.next hb)
  replace B2 := Lib.hid (B2.out.next hb)
  replace P1 := Lib.hid (P1.out.next hb)
  replace P2 := Lib.hid (P2.out.next hb)
  replace HT3 := Lib.hid (HT3.out.next hb)
  replace HBL := Lib.hid (HBL.out.trans (hb.mono HBL.out.size))
  have P3 := Lib.hid hs
  clear hb hs
  have d0 := (HBL.out.cell (p := ad.add (j * 2)) (by rw [add_block]; exact had)).trans hc0
  have d1 := (HBL.out.cell (p := ad') had').trans hc1
  go_wp2
  go_quiet (fail)
  obtain ⟨y0, hy0⟩ : ∃ y0, y0 = w21.drewN nq := ⟨_, rfl⟩
  rw [← hy0]
  have hb : Below w21.heap.size w21 y0 := by rw [hy0]; exact below_drewN (Below.refl _ _) _
  replace B1 := Lib.hid (B1.out.next hb)
  replace B2 := Lib.hid (B2.out.next hb)
  replace P1 := Lib.hid (P1.out.next hb)
  replace P2 := Lib.hid (P2.out.next hb)
  replace P3 := Lib.hid (P3.out.next hb)
  replace HBL := Lib.hid (HBL.out.trans (hb.mono HBL.out.size))
  clear hb hy0
  have HR0 := Lib.hid (World.ownsRow_lit (e := 5) (base := y0.heap.size) (size := 1) y0 #[] 0 (Nat.le_refl _) (by decide) rfl)
  have HT1 := Lib.hid (P1.out.rd.alloc (Nat.le_refl _) (.cells #[] 5))
  have HS0 := Lib.hid (below_lit y0 #[] 5)
  have hs0 := HS0.out.size
  have ht1 : 0 + p1.length ≤ maxLen := by unfold maxLen; omega
  go_wp2_with (at_builtin; refine wpList_append_rd _ rfl (.tmp 80) (.tmp 81) 24 rfl y0.heap.size 5 i0 (.int .u8 0) 1 Try.underlying24 hi hz0 hz1 hz2 rfl _ 0 [] rfl HR0.out y0.heap.size AP1 p1.length cP1 (U8 p1) rfl HT1.out (tu8_len p1) P1.out.nil (U8_one _) ht1 (by omega) hs0 ?_)
  intro v5 y1 hown1 hg1
  have HO1 := Lib.hid hown1
  have HX1 := Lib.hid (show Below y0.heap.size y0 y1 from HS0.out.grown hg1 hs0 (fun g hg => own_ge HR0.out hg))
  have hs1 := HX1.out.size
  have HT2 := Lib.hid (P2.out.rd.below HX1.out)
  have ht2 : p1.length + p2.length ≤ maxLen := by unfold maxLen; omega
  clear hown1 hg1 HR0 HT1 HS0 hs0
  go_wp2_with (at_builtin; refine wpList_append_rd _ rfl (.tmp 83) (.tmp 84) 24 rfl y0.heap.size 5 i0 (.int .u8 0) 1 Try.underlying24 hi hz0 hz1 hz2 rfl v5 p1.length (U8 p1) rfl HO1.out y0.heap.size AP2 p2.length cP2 (U8 p2) rfl HT2.out (tu8_len p2) P2.out.nil (U8_one _) ht2 (by omega) hs1 ?_)
  intro v6 y2 hown2 hg2
  have hb := HX1.out.grown hg2 hs1 (fun g hg => own_ge HO1.out hg)
  rw [← tu8_app, HPJ.out] at hown2
  obtain ⟨AX, cX, hv6, hbx⟩ := bs_of_own hown2 (by rw [← HPJ.out]; exact fun x hx => (List.mem_append.1 hx).elim (P1.out.lt x) (P2.out.lt x))
  subst hv6
  have BX := Lib.hid hbx
  clear hown2 hg2 hbx HO1 HX1 HT2 hs1
  replace B1 := Lib.hid (B1.out.next hb)
  replace B2 := Lib.hid (B2.out.next hb)
  replace P1 := Lib.hid (P1.out.next hb)
  replace P2 := Lib.hid (P2.out.next hb)
  replace P3 := Lib.hid (P3.out.next hb)
  replace HBL := Lib.hid (HBL.out.trans (hb.mono HBL.out.size))
  clear hb
  go_wp2_with fail
  refine (listed_any y2).mono ?_
  rintro e w41 ⟨rfl, hb⟩
  replace B1 := Lib.hid (B1.out.next hb)
  replace B2 := Lib.hid (B2.out.next hb)
  replace P1 := Lib.hid (P1.out.next hb)
  replace P2 := Lib.hid (P2.out.next hb)
  replace P3 := Lib.hid (P3.out.next hb)
  replace BX := Lib.hid (BX.out.next hb)
  replace HBL := Lib.hid (HBL.out.trans (hb.mono HBL.out.size))
  clear hb
  go_wp2_with fail
  refine (same_true p3 p3.length (p1.length + p2.length) rfl HPL.out AP3 AX cP3 cX w41 P3.out BX.out).mono ?_
  rintro e w42 ⟨rfl, hb⟩
  replace B1 := Lib.hid (B1.out.next hb)
  replace B2 := Lib.hid (B2.out.next hb)
  replace P1 := Lib.hid (P1.out.next hb)
  replace P2 := Lib.hid (P2.out.next hb)
  replace P3 := Lib.hid (P3.out.next hb)
  replace BX := Lib.hid (BX.out.next hb)
  replace HBL := Lib.hid (HBL.out.trans (hb.mono HBL.out.size))
  clear hb
  go_wp2
  go_ret
  exact ⟨rfl, HBL.out⟩
set_option maxRecDepth 100000 in
set_option maxHeartbeats 1600000 in
theorem joins17_any (l l' : List Tf) (n n' : Nat) (hn : n = l.length) (hn' : n' = l'.length) (A A' : Option Addr) (c c' : Nat) (w : World) (hA : Ts w w.heap.size l A c) (hA' : Ts w w.heap.size l' A' c') : Calls Try.prog 8 #[.slice A n c, .slice A' n' c'] w fun e w' => e = .returned (.bool true) ∧ Below w.heap.size w w' := by
  cases hb : bigT l with
  | true =>
    have h1 := hA.len
    have h2 := hA.cap
    have h3 := hA'.len
    have h4 := hA'.cap
    have hn3 : n ≤ 9223372036854775807 := by omega
    have hn4 : n' ≤ 9223372036854775807 := by omega
    have HN := Lib.hid hn
    have HN' := Lib.hid hn'
    have B1 := Lib.hid hA
    have B2 := Lib.hid hA'
    have HBL := Lib.hid (Below.refl w.heap.size w)
    clear h1 h2 h3 h4 hn hn' hA hA'
    have HB := Lib.hid hb
    clear hb
    go_enter Try.func8, Try.ntmps8
    go_wp2_with fail
    refine (refbig_tlv l n HN.out true HB.out A c w B1.out).mono ?_
    rintro e _ ⟨rfl, rfl⟩
    go_wp2
    go_ret
    exact ⟨rfl, HBL.out⟩
  | false =>
    cases hb' : bigT l' with
    | true =>
      have h1 := hA.len
      have h2 := hA.cap
      have h3 := hA'.len
      have h4 := hA'.cap
      have hn3 : n ≤ 9223372036854775807 := by omega
      have hn4 : n' ≤ 9223372036854775807 := by omega
      have HN := Lib.hid hn
      have HN' := Lib.hid hn'
      have B1 := Lib.hid hA
      have B2 := Lib.hid hA'
      have HBL := Lib.hid (Below.refl w.heap.size w)
      clear h1 h2 h3 h4 hn hn' hA hA'
      have HB := Lib.hid hb
      have HB' := Lib.hid hb'
      clear hb hb'
      go_enter Try.func8, Try.ntmps8
      go_wp2_with fail
      refine (refbig_tlv l _ HN.out false HB.out A c w B1.out).mono ?_
      rintro e _ ⟨rfl, rfl⟩
      go_wp2_with fail
      refine (refbig_tlv l' n' HN'.out true HB'.out A' c' w B2.out).mono ?_
      rintro e _ ⟨rfl, rfl⟩
      go_wp2
      go_ret
      exact ⟨rfl, HBL.out⟩
    | false =>
      cases hl : isT 0 l with
      | false =>
        have h3 := outT_bad (isT_join_no (m := l') (.inl hl))
        cases hm : isT 0 l' with
        | false => exact joins17_ee l l' n n' hn hn' A A' c c' w hb hb' 1 1 1 _ _ _ (outT_bad hl) (outT_bad hm) h3 (.inr (.inr ⟨rfl, rfl⟩)) rfl hA hA'
        | true => exact joins17_ee l l' n n' hn hn' A A' c c' w hb hb' 1 0 1 _ _ _ (outT_bad hl) (outT_ok hm) h3 (.inr (.inl ⟨rfl, rfl⟩)) rfl hA hA'
      | true =>
        cases hm : isT 0 l' with
        | false => exact joins17_ee l l' n n' hn hn' A A' c c' w hb hb' 0 1 1 _ _ _ (outT_ok hl) (outT_bad hm) (outT_bad (isT_join_no (.inr hm))) (.inl ⟨rfl, rfl⟩) rfl hA hA'
        | true =>
          have hok : l.length = 0 ∨ l'.length = 0 ∨ lastT 0 l < (l'.getD 0 TF0).tag → outT (l ++ l') = (0, putT (l ++ l')) := fun h => outT_ok (isT_join_ok hl hm h)
          rcases Nat.eq_zero_or_pos n with h0 | h0
          · exact joins17_n0 l l' n n' hn hn' A A' c c' w hb hb' 0 0 0 _ _ _ (outT_ok hl) (outT_ok hm) (hok (.inl (by omega))) rfl rfl rfl (putT_append l l').symm h0 hA hA'
          · rcases Nat.eq_zero_or_pos n' with h1 | h1
            · exact joins17_m0 l l' n n' hn hn' A A' c c' w hb hb' 0 0 0 _ _ _ (outT_ok hl) (outT_ok hm) (hok (.inr (.inl (by omega)))) rfl rfl rfl (putT_append l l').symm h0 h1 hA hA'
            · rcases Int.lt_or_le (lastT 0 l) (l'.getD 0 TF0).tag with h2 | h2
              · exact joins17_ok l l' n n' hn hn' A A' c c' w hb hb' 0 0 0 _ _ _ (outT_ok hl) (outT_ok hm) (hok (.inr (.inr h2))) rfl rfl rfl (putT_append l l').symm h0 h1 h2 hA hA'
              · exact joins17_bad l l' n n' hn hn' A A' c c' w hb hb' 0 0 1 _ _ _ (outT_ok hl) (outT_ok hm) (outT_bad (isT_join_bad (by omega) h2)) rfl rfl rfl h0 h1 h2 hA hA'
end Go.Proofs.Ytkjghmonpdbjeaa
