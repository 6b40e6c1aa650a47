/-
  Contract for the reference's Get. Conditions: the slice reads as bytes; at most 1000 of them.
-/
import Derived.Test.YtpniolinndlepaaGreatDoorTrackA
import Derived.Test.YtpniolinndlepaaGreatDoorBase
namespace Go.Proofs.YtpniolinndlepaaGreatDoor
set_option linter.unusedVariables false
open Go.ChangeShapes Go.WideShapes Go.ChangeAt Go.RowKit

set_option maxRecDepth 100000 in
set_option maxHeartbeats 1600000 in
theorem refget11_any (b : List Nat) (n : Nat) (hn : n = b.length) (hn2 : n ≤ 1000) (E : Int) (hE : getE b = E) (p : List Nat) (hP : getL b = p) (A : Option Addr) (c : Nat) (w : World) (hA : Bs w w.heap.size b A c) : Calls Tryz.prog 78 #[.slice A n c] w fun e w' => ∃ A' c', e = .returned (.tuple #[.slice A' (p.length : Nat) c', .int .i64 E]) ∧ Bs w' w'.heap.size p A' c' ∧ Below w.heap.size w w' := by
  obtain ⟨i0, hi, hz0, hz1, hz2⟩ := info_parts infoInt
  obtain ⟨j0, hj, hy0, hy1, hy2⟩ := info_parts infoU8
  have HN := Lib.hid hn
  have HA := Lib.hid hA
  have HE := Lib.hid hE
  have HP := Lib.hid hP
  by_cases h0 : n < 2
  · have b0 : (n : Int) < 2 := by omega
    have HW := Lib.hid (get_len (b := b) (.inl (by omega)))
    clear hn hA hE hP
    go_enter Tryz.func78, Tryz.ntmps78
    have hw := HW.out
    have eE : E = 14 := HE.out.symm.trans hw.1
    have eP : p = [] := HP.out.symm.trans hw.2
    subst eE eP
    clear hw
    go_wp2
    go_ret2
    exact ⟨none, 0, rfl, bs_nil _ _, Below.refl _ _⟩
  have b0 : ¬ ((n : Int) < 2) := by omega
  by_cases h50 : 50 < n
  · have b1 : (50 : Int) < (n : Int) := by omega
    have HW := Lib.hid (get_len (b := b) (.inr (by omega)))
    clear hn hA hE hP
    go_enter Tryz.func78, Tryz.ntmps78
    have hw := HW.out
    have eE : E = 14 := HE.out.symm.trans hw.1
    have eP : p = [] := HP.out.symm.trans hw.2
    subst eE eP
    clear hw
    go_wp2
    go_ret2
    exact ⟨none, 0, rfl, bs_nil _ _, Below.refl _ _⟩
  have b1 : ¬ ((50 : Int) < (n : Int)) := by omega
  have HNL := Lib.hid (show ¬ (b.length < 2 ∨ 50 < b.length) by omega)
  obtain ⟨l, hl⟩ : ∃ l, unpackL b = l := ⟨_, rfl⟩
  obtain ⟨m, hm⟩ : ∃ m, 8 * n = m := ⟨_, rfl⟩
  have HL := Lib.hid hl
  have HM := Lib.hid (show m = l.length by rw [← hl, unpackL_len, ← hn, hm])
  have hm16 : 16 ≤ m := by omega
  have hm400 : m ≤ 400 := by omega
  have HM8 := Lib.hid hm
  clear hn hA hE hP hl hm
  go_enter Tryz.func78, Tryz.ntmps78
  go_wp2_with (go_at_call 110; refine (refunpack_any b n HN.out hn2 A c _ HA.out).mono ?_; rintro e w3 ⟨A3, c3, rfl, hvs, hb3⟩; rw [HL.out] at hvs; rw [HM8.out])
  have HVS := Lib.hid hvs
  have HB3 := Lib.hid hb3
  have HA3 := Lib.hid (HA.out.next hb3)
  obtain ⟨a3, rfl, _, _⟩ := hvs.at (show l[0]? = some (l[0]'(by rw [← HM.out]; omega)) from List.getElem?_eq_getElem _)
  have hc3 := hvs.len
  have hc3' := hvs.cap
  clear hvs hb3
  by_cases h11 : ¬ chAt l 0 = 11
  · have HW := Lib.hid (get_start HNL.out (by rw [HL.out]; exact h11))
    obtain ⟨z, hz⟩ : ∃ z, chAt l 0 = z := ⟨_, rfl⟩
    have HZ := Lib.hid hz
    have z1 : ((z : Int) == 11) = false := by rw [beq_eq_false_iff_ne]; omega
    have z2 : ((z : Int) != 11) = true := by rw [bne_iff_ne]; omega
    have z3 : ¬ ((z : Int) = 11) := by omega
    clear hz
    go_wp2_with (go_at_call 111; refine (refat_any l m HM.out (by omega) 0 (by omega) z HZ.out (some a3) c3 _ HVS.out).mono ?_; rintro e w4 ⟨rfl, hb4⟩)
    have hw := HW.out
    have eE : E = 4 := HE.out.symm.trans hw.1
    have eP : p = [] := HP.out.symm.trans hw.2
    subst eE eP
    clear hw
    go_wp2
    go_ret2
    exact ⟨none, 0, rfl, bs_nil _ _, HB3.out.trans (hb4.mono HB3.out.size)⟩
  have h11 : chAt l 0 = 11 := by omega
  obtain ⟨X, hX⟩ : ∃ X, scanL l l.length 5 [] = X := ⟨_, rfl⟩
  have HG := Lib.hid (get_scan HNL.out (by rw [HL.out]; exact h11) (R := X) (by rw [HL.out]; exact hX))
  have HX := Lib.hid hX
  have H11 := Lib.hid h11
  clear hX h11
  go_wp2_with (go_at_call 111; refine (refat_any l m HM.out (by omega) 0 (by omega) 11 H11.out (some a3) c3 _ HVS.out).mono ?_; rintro e w4 ⟨rfl, hb4⟩)
  have hs4 := hb4.size
  have hb4' : Below w3.heap.size w3 w4 := hb4
  go_loopw [5, 6, 7] (fun v o q wr => ∃ (i : Nat) (out : List Nat), q = .int .i64 (i : Int) ∧ i ≤ m ∧ wr.ownsRow w3.heap.size 5 1 o out.length (U8 out) ∧ digitsOk out = true ∧ Below w3.heap.size w3 wr ∧
      ((i = 5 * (out.length + 1) ∧ wr.ownsRow w3.heap.size 3 1 v (out.length + 1) (I64 (NZ (11 :: out))) ∧ ∃ f, l.length + 5 ≤ f + i ∧ scanL l f i out = X) ∨
       (i = 5 * (out.length + 2) ∧ wr.ownsRow w3.heap.size 3 1 v (out.length + 2) (I64 (NZ (putVals out))) ∧ X = .ok (out, i)))) (fun _ _ q _ => m + 10 - (intOf q).toNat)
  case atStart =>
    refine ⟨5, [], rfl, by omega, ?_, rfl, ?_, .inl ⟨rfl, ?_, l.length, by omega, HX.out⟩⟩
    · rw [show w4.heap.size + 1 = (w4.alloc (.cells #[.int .i64 11] 3)).heap.size from (World.size_alloc _ _).symm]
      exact World.ownsRow_lit (w4.alloc (.cells #[.int .i64 11] 3)) (size := 1) #[] 0 (Nat.le_trans hs4 (below_lit w4 #[.int .i64 11] 3).size) (by decide) (by rfl)
    · exact hb4'.trans (((below_lit w4 #[.int .i64 11] 3).trans ((below_lit _ _ _).mono (below_lit w4 #[.int .i64 11] 3).size)).mono hs4)
    · exact (World.ownsRow_lit w4 #[.int .i64 11] 1 hs4 (by decide) (by rfl)).alloc _
  case round =>
    obtain ⟨i, out, rfl, him, hob, hdg, hbel, hmode⟩ := hrel
    have HOB := Lib.hid hob
    have HDG := Lib.hid hdg
    have HBL := Lib.hid hbel
    have hszb := hbel.size
    have HV2 := Lib.hid ((HVS.out.below hbel).more hszb)
    clear hob hdg hbel
    rcases hmode with ⟨hi5, hov, f, hf, hsc⟩ | ⟨hi5, hov, hXo⟩
    · obtain ⟨v5, c5, hv5, hl5, hz5⟩ := zs_of_own hov
      have HOV := Lib.hid hov
      have HSC := Lib.hid hsc
      have HF := Lib.hid hf
      obtain ⟨z, hz, hz15⟩ := last_ne HDG.out
      obtain ⟨a5, rfl, ha5, hcz⟩ := hz5.at hz
      subst hv5
      have HZ5 := Lib.hid hz5
      have q0 : (((out.length + 1 : Nat) : Int) - 1) = ((out.length : Nat) : Int) := by omega
      obtain ⟨k, hk⟩ : ∃ k, out.length = k := ⟨_, rfl⟩
      rw [hk] at hl5 q0 hcz hi5 ⊢
      have q1 : ((k : Int) + 1 - 1) = (k : Int) := by omega
      have q2 : IntKind.i64.wrap (k : Int) = (k : Int) := IntWalk.i64_in _ (by omega)
      have q3 : ((z : Int) != 15) = true := by rw [bne_iff_ne]; omega
      have q4 : ((z : Int) == 15) = false := by rw [beq_eq_false_iff_ne]; omega
      have q5 : IntKind.i64.wrap ((i : Int) + 5) = (i : Int) + 5 := IntWalk.i64_in _ (by omega)
      have q6 : (0 : Int) ≤ (k : Int) := by omega
      have q7 : (k : Int) < (k : Int) + 1 := by omega
      have q8 : ((k + 1 : Nat) : Int) = (k : Int) + 1 := by omega
      have HK := Lib.hid hk
      have hk' := HK
      have HI := Lib.hid hi5
      have HL5 := Lib.hid hl5
      clear hk hl5 hi5 hz q0 hz5 hov hf hsc
      by_cases hend : m < i + 5
      · have r1 : (m : Int) < (i : Int) + 5 := by omega
        have HW := Lib.hid ((HG.out.1 5 (by rw [← HSC.out]; exact scan_end (by rw [← HM.out]; exact hend))))
        have hw := HW.out
        have eE : E = 5 := HE.out.symm.trans hw.1
        have eP : p = [] := HP.out.symm.trans hw.2
        subst eE eP
        clear hw
        go_wp2
        go_ret2
        exact ⟨none, 0, rfl, bs_nil _ _, HB3.out.trans (HBL.out.mono HB3.out.size)⟩
      have hie : i + 5 ≤ m := by omega
      have r1 : ¬ ((m : Int) < (i : Int) + 5) := by omega
      have hch32 := chAt_lt l i
      obtain ⟨ch, hch⟩ : ∃ ch, chAt l i = ch := ⟨_, rfl⟩
      rw [hch] at hch32
      have HCH := Lib.hid hch
      have HIE := Lib.hid (show i + 5 ≤ l.length by rw [← HM.out]; exact hie)
      clear hch hend
      by_cases hev : ones5 ch % 2 = 0
      · have HVE := Lib.hid (val_even ch hch32 hev)
        have HW := Lib.hid ((HG.out.1 3 (by rw [← HSC.out]; exact scan_par HF.out HIE.out (by rw [HCH.out]; exact hev))))
        clear hev
        go_wp2_with (first | (go_at_call 111; refine (refat_any l m HM.out (by omega) i (by omega) ch HCH.out (some a3) c3 _ HV2.out).mono ?_; rintro e w5 ⟨rfl, hb5⟩) | (go_at_call 112; refine (refvalue_any (ch : Int) 0 3 HVE.out.1 HVE.out.2 _).mono ?_; rintro e w6 ⟨rfl, rfl⟩))
        have hw := HW.out
        have eE : E = 3 := HE.out.symm.trans hw.1
        have eP : p = [] := HP.out.symm.trans hw.2
        subst eE eP
        go_ret2
        exact ⟨none, 0, rfl, bs_nil _ _, HB3.out.trans ((HBL.out.trans (hb5.mono HBL.out.size)).mono HB3.out.size)⟩
      have HVO := Lib.hid (val_odd ch hch32 hev)
      have HEV := Lib.hid (show ¬ ones5 (chAt l i) % 2 = 0 by rw [HCH.out]; exact hev)
      obtain ⟨d, hd⟩ : ∃ d, ch % 16 = d := ⟨_, rfl⟩
      have hd16 : d < 16 := by omega
      rw [hd] at HVO
      have HD := Lib.hid (show chAt l i % 16 = d by rw [HCH.out]; exact hd)
      rw [hk'.out] at HOV
      clear hev hd hch32
      have hkb : k ≤ 400 := by have := HI.out; omega
      have hm1 : k + 1 + 1 ≤ maxLen := by unfold maxLen; omega
      have hm2 : (k + 1 + 1) * 8 ≤ 140737488355328 := by omega
      have wi5 : IntKind.i64.wrap ((i : Int) + 5) = (i : Int) + 5 := q5
      by_cases h9 : d ≤ 9
      · have s1 : ¬ ((9 : Int) < (d : Int)) := by omega
        have s2 : ((d : Int) != 15) = true := by rw [bne_iff_ne]; omega
        have s3 : ((d : Int) == 15) = false := by rw [beq_eq_false_iff_ne]; omega
        have hwa : IntKind.u8.wrap (d : Int) = (d : Int) := by simp [IntKind.wrap, IntKind.signed, IntKind.bits]; omega
        have hm3 : out.length + 1 ≤ maxLen := by rw [HK.out]; unfold maxLen; omega
        have hm4 : (out.length + 1) * 1 ≤ 140737488355328 := by rw [HK.out]; omega
        go_wp2_with (first | (go_at_call 111; refine (refat_any l m HM.out (by omega) i (by omega) ch HCH.out (some a3) c3 _ HV2.out).mono ?_; rintro e w5 ⟨rfl, hb5⟩) | (go_at_call 112; refine (refvalue_any (ch : Int) (d : Int) 0 HVO.out.1 HVO.out.2 _).mono ?_; rintro e w6 ⟨rfl, rfl⟩) | (at_builtin; refine wpList_append_own _ rfl (.tmp 57) (.tmp 59) 82 rfl w3.heap.size 3 i0 (.int .i64 0) 1 8 Tryz.underlying82 hi hz0 hz1 hz2 rfl (by decide) _ (k + 1) (I64 (NZ (11 :: out))) rfl ((own_below HOV.out hb5).alloc _) ⟨_, 0, none⟩ 1 1 (I64 [(d : Int)]) rfl rfl (int_lit _ _) (I64_one _) hm1 hm2 (by have := hb5.size; simp; omega) ?_))
        intro v8 w8 hown8 hg8 _
        have hsz5 := hb5.size
        have HBL5 := Lib.hid (HBL.out.trans (hb5.mono HBL.out.size))
        have HOV8 := Lib.hid (show w8.ownsRow w3.heap.size 3 1 v8 (k + 1 + 1) (I64 (NZ (11 :: (out ++ [d])))) by
          rw [nz_snoc, I64_append]
          exact hown8)
        have HOB8 := Lib.hid (own_kept hg8 ((own_below HOB.out hb5).alloc _) ((own_below HOV.out hb5).alloc _) (by decide))
        have HB8 := Lib.hid ((HBL5.out.alloc HBL5.out.size _).grown hg8 (by simp; omega) (fun p hp => own_ge HOV.out hp))
        clear hown8 hg8 hb5 HV2 HBL HBL5 HOV HOB hcz
        have hsz8 := HB8.out.size
        go_wp2_with (at_builtin; refine wpList_append_own _ rfl (.tmp 63) (.tmp 66) 30 rfl w3.heap.size 5 j0 (.int .u8 0) 1 1 Tryz.underlying30 hj hy0 hy1 hy2 rfl (by decide) _ out.length (U8 out) rfl (HOB8.out.alloc _) ⟨_, 0, none⟩ 1 1 (U8 [d]) rfl rfl ?rd (U8_one _) hm3 hm4 (by simp; omega) ?_)
        case rd =>
          intro q u hu
          first | exact hu | exact u8_lit _ d q u hu | (simpa [U8] using hu) | (simpa [U8, hwa] using hu)
        intro v9 w9 hown9 hg9 _
        have HOB9 := Lib.hid (show w9.ownsRow w3.heap.size 5 1 v9 (out ++ [d]).length (U8 (out ++ [d])) by
          rw [U8, List.map_append, List.length_append]
          exact hown9)
        have HOV9 := Lib.hid (own_kept hg9 (HOV8.out.alloc _) (HOB8.out.alloc _) (by decide))
        have HB9 := Lib.hid ((HB8.out.alloc HB8.out.size _).grown hg9 (by simp; omega) (fun p hp => own_ge HOB8.out hp))
        clear hown9 hg9 HOV8 HOB8 HB8
        go_wp2
        go_roundw
        case rel =>
          obtain ⟨g, hg1, hg2⟩ := scan_more (out := out) HF.out HIE.out HEV.out (by rw [HD.out]; omega)
          exact ⟨i + 5, out ++ [d], by go_num, hie, HOB9.out, digits_snoc HDG.out h9, HB9.out, .inl ⟨by rw [List.length_append, HK.out, HI.out]; simp; omega, by rw [List.length_append, HK.out]; exact HOV9.out, g, hg1, by rw [← HSC.out, hg2, HD.out]⟩⟩
        case measure => simp [intOf]; omega
      · by_cases h15 : d = 15
        · have s1 : (9 : Int) < (d : Int) := by omega
          subst h15
          have hm5 : ((15 : Nat) : Int) = 15 := rfl
          rw [hm5] at HVO s1
          go_wp2_with (first | (go_at_call 111; refine (refat_any l m HM.out (by omega) i (by omega) ch HCH.out (some a3) c3 _ HV2.out).mono ?_; rintro e w5 ⟨rfl, hb5⟩) | (go_at_call 112; refine (refvalue_any (ch : Int) 15 0 HVO.out.1 HVO.out.2 _).mono ?_; rintro e w6 ⟨rfl, rfl⟩) | (at_builtin; refine wpList_append_own _ rfl (.tmp 57) (.tmp 59) 82 rfl w3.heap.size 3 i0 (.int .i64 0) 1 8 Tryz.underlying82 hi hz0 hz1 hz2 rfl (by decide) _ (k + 1) (I64 (NZ (11 :: out))) rfl ((own_below HOV.out hb5).alloc _) ⟨_, 0, none⟩ 1 1 (I64 [15]) rfl rfl (int_lit _ _) (I64_one _) hm1 hm2 (by have := hb5.size; simp; omega) ?_))
          intro v8 w8 hown8 hg8 _
          have hsz5 := hb5.size
          have HBL5 := Lib.hid (HBL.out.trans (hb5.mono HBL.out.size))
          have HOV8 := Lib.hid (show w8.ownsRow w3.heap.size 3 1 v8 (k + 1 + 1) (I64 (NZ (putVals out))) by
            rw [nz_pv, I64_append]
            exact hown8)
          have HOB8 := Lib.hid (own_kept hg8 ((own_below HOB.out hb5).alloc _) ((own_below HOV.out hb5).alloc _) (by decide))
          have HB8 := Lib.hid ((HBL5.out.alloc HBL5.out.size _).grown hg8 (by simp; omega) (fun p hp => own_ge HOV.out hp))
          clear hown8 hg8 hb5 HV2 HBL HBL5 HOV HOB hcz
          go_wp2
          go_roundw
          case rel => exact ⟨i + 5, out, by go_num, hie, HOB8.out, HDG.out, HB8.out, .inr ⟨by rw [HK.out, HI.out]; omega, by rw [HK.out]; exact HOV8.out, by rw [← HSC.out]; exact scan_15 HF.out HIE.out HEV.out HD.out⟩⟩
          case measure => simp [intOf]; omega
        · have s1 : (9 : Int) < (d : Int) := by omega
          have s2 : ((d : Int) != 15) = true := by rw [bne_iff_ne]; omega
          have s3 : ((d : Int) == 15) = false := by rw [beq_eq_false_iff_ne]; omega
          have HW := Lib.hid ((HG.out.1 7 (by rw [← HSC.out]; exact scan_dig HF.out HIE.out HEV.out (by rw [HD.out]; omega) (by rw [HD.out]; exact h15))))
          have hw := HW.out
          have eE : E = 7 := HE.out.symm.trans hw.1
          have eP : p = [] := HP.out.symm.trans hw.2
          subst eE eP
          clear hw
          go_wp2_with (first | (go_at_call 111; refine (refat_any l m HM.out (by omega) i (by omega) ch HCH.out (some a3) c3 _ HV2.out).mono ?_; rintro e w5 ⟨rfl, hb5⟩) | (go_at_call 112; refine (refvalue_any (ch : Int) (d : Int) 0 HVO.out.1 HVO.out.2 _).mono ?_; rintro e w6 ⟨rfl, rfl⟩))
          go_ret2
          exact ⟨none, 0, rfl, bs_nil _ _, HB3.out.trans ((HBL.out.trans (hb5.mono HBL.out.size)).mono HB3.out.size)⟩
    · obtain ⟨v5, c5, hv5, hl5, hz5⟩ := zs_of_own hov
      obtain ⟨a5, rfl, ha5, hcz⟩ := hz5.at (last_15 out)
      subst hv5
      obtain ⟨Ao, co, hvo, hbo⟩ := bs_of_own HOB.out (fun x hx => by have := (List.all_eq_true.1 HDG.out) x hx; simp at this; omega)
      subst hvo
      have HZ5 := Lib.hid hz5
      have HBO := Lib.hid hbo
      have HQ := Lib.hid (show getE b = exE (lastL b l out i) ∧ getL b = exL (lastL b l out i) by have h := HG.out.2 out i hXo; rwa [HL.out] at h)
      obtain ⟨j, hj1⟩ : ∃ j, out.length + 1 = j := ⟨_, rfl⟩
      have hj2 : out.length + 2 = j + 1 := by omega
      rw [hj2] at hl5 ⊢
      rw [hj1] at hcz
      obtain ⟨k, hk⟩ : ∃ k, out.length = k := ⟨_, rfl⟩
      rw [hk] at hj1 hi5 ⊢
      have HK := Lib.hid hk
      have HL5 := Lib.hid hl5
      obtain ⟨t, ht⟩ : ∃ t, i + 5 = t := ⟨_, rfl⟩
      have HT := Lib.hid ht
      have hj400 : j ≤ 500 := by omega
      have hk400 : k ≤ 500 := by omega
      have ht500 : t ≤ 1000 := by omega
      have q2 : IntKind.i64.wrap (j : Int) = (j : Int) := IntWalk.i64_in _ (by omega)
      have q5 : IntKind.i64.wrap (t : Int) = (t : Int) := IntWalk.i64_in _ (by omega)
      have q4 : (i : Int) + 5 = (t : Int) := by omega
      have q6 : (0 : Int) ≤ (j : Int) := by omega
      have q7 : (j : Int) < (j : Int) + 1 := by omega
      have q9 : (0 : Int) ≤ (t : Int) := by omega
      clear hl5 hi5 hj1 hj2 hk hz5 hbo hov hXo HX ht ha5
      by_cases hend : m < t
      · have r1 : (m : Int) < (t : Int) := by omega
        have HW := Lib.hid (show getE b = _ ∧ getL b = _ by have h := HQ.out; rw [last_end (by rw [← HM.out, HT.out]; exact hend)] at h; exact h)
        have hw := HW.out
        have eE : E = 5 := HE.out.symm.trans hw.1
        have eP : p = [] := HP.out.symm.trans hw.2
        subst eE eP
        clear hw
        go_wp2
        go_ret2
        exact ⟨none, 0, rfl, bs_nil _ _, HB3.out.trans (HBL.out.mono HB3.out.size)⟩
      have r1 : ¬ ((m : Int) < (t : Int)) := by omega
      have hie : i + 5 ≤ m := by have := HT.out; omega
      have hch32 := chAt_lt l i
      obtain ⟨ch, hch⟩ : ∃ ch, chAt l i = ch := ⟨_, rfl⟩
      rw [hch] at hch32
      have HCH := Lib.hid hch
      have HIE := Lib.hid (show i + 5 ≤ l.length by rw [← HM.out]; exact hie)
      clear hch hend
      by_cases hev : ones5 ch % 2 = 0
      · have HVE := Lib.hid (val_even ch hch32 hev)
        have HW := Lib.hid (show getE b = _ ∧ getL b = _ by have h := HQ.out; rw [last_par HIE.out (by rw [HCH.out]; exact hev)] at h; exact h)
        have hw := HW.out
        have eE : E = 3 := HE.out.symm.trans hw.1
        have eP : p = [] := HP.out.symm.trans hw.2
        subst eE eP
        clear hw
        go_wp2_with (first | (go_at_call 111; refine (refat_any l m HM.out (by omega) i (by omega) ch HCH.out (some a3) c3 _ HV2.out).mono ?_; rintro e w5 ⟨rfl, hb5⟩) | (go_at_call 112; refine (refvalue_any (ch : Int) 0 3 HVE.out.1 HVE.out.2 _).mono ?_; rintro e w6 ⟨rfl, rfl⟩))
        go_ret2
        exact ⟨none, 0, rfl, bs_nil _ _, HB3.out.trans ((HBL.out.trans (hb5.mono HBL.out.size)).mono HB3.out.size)⟩

      have HVO := Lib.hid (val_odd ch hch32 hev)
      have HEV := Lib.hid (show ¬ ones5 (chAt l i) % 2 = 0 by rw [HCH.out]; exact hev)
      obtain ⟨d, hd⟩ : ∃ d, ch % 16 = d := ⟨_, rfl⟩
      have hd16 : d < 16 := by omega
      rw [hd] at HVO
      have HD := Lib.hid (show chAt l i % 16 = d by rw [HCH.out]; exact hd)
      obtain ⟨x, hx⟩ : ∃ x, xorL (putVals out) = x := ⟨_, rfl⟩
      have hsm := sum_nz (pv_lt HDG.out)
      rw [hx] at hsm
      have HSM := Lib.hid hsm
      have HXR := Lib.hid hx
      clear hev hd hch32 hx hsm
      by_cases hdx : ¬ d = x
      · have s1 : ((d : Int) != (x : Int)) = true := by rw [bne_iff_ne]; omega
        have s2 : ((d : Int) == (x : Int)) = false := by rw [beq_eq_false_iff_ne]; omega
        have HW := Lib.hid (show getE b = _ ∧ getL b = _ by have h := HQ.out; rw [last_sum HIE.out HEV.out (by rw [HD.out, HXR.out]; exact hdx)] at h; exact h)
        have hw := HW.out
        have eE : E = 6 := HE.out.symm.trans hw.1
        have eP : p = [] := HP.out.symm.trans hw.2
        subst eE eP
        clear hw
        go_wp2_with (first | (go_at_call 111; refine (refat_any l m HM.out (by omega) i (by omega) ch HCH.out (some a3) c3 _ HV2.out).mono ?_; rintro e w5 ⟨rfl, hb5⟩) | (go_at_call 112; refine (refvalue_any (ch : Int) (d : Int) 0 HVO.out.1 HVO.out.2 _).mono ?_; rintro e w6 ⟨rfl, rfl⟩) | (go_at_call 73; refine (refsum_any _ (j + 1) HL5.out (some a5) c5 (x : Int) 0 HSM.out.1 HSM.out.2 _ (HZ5.out.next hb5)).mono ?_; rintro e w7 ⟨rfl, rfl⟩))
        go_ret2
        exact ⟨none, 0, rfl, bs_nil _ _, HB3.out.trans ((HBL.out.trans (hb5.mono HBL.out.size)).mono HB3.out.size)⟩

      have hdx2 : d = x := by omega
      subst hdx2
      by_cases h77 : 77 < k
      · have s3 : (77 : Int) < (k : Int) := by omega
        have HW := Lib.hid (show getE b = _ ∧ getL b = _ by have h := HQ.out; rw [last_lim HIE.out HEV.out (by rw [HD.out, HXR.out]) (by rw [HK.out]; exact h77)] at h; exact h)
        have hw := HW.out
        have eE : E = 21 := HE.out.symm.trans hw.1
        have eP : p = [] := HP.out.symm.trans hw.2
        subst eE eP
        clear hw
        go_wp2_with (first | (go_at_call 111; refine (refat_any l m HM.out (by omega) i (by omega) ch HCH.out (some a3) c3 _ HV2.out).mono ?_; rintro e w5 ⟨rfl, hb5⟩) | (go_at_call 112; refine (refvalue_any (ch : Int) (d : Int) 0 HVO.out.1 HVO.out.2 _).mono ?_; rintro e w6 ⟨rfl, rfl⟩) | (go_at_call 73; refine (refsum_any _ (j + 1) HL5.out (some a5) c5 (d : Int) 0 HSM.out.1 HSM.out.2 _ (HZ5.out.next hb5)).mono ?_; rintro e w7 ⟨rfl, rfl⟩))
        go_ret2
        exact ⟨none, 0, rfl, bs_nil _ _, HB3.out.trans ((HBL.out.trans (hb5.mono HBL.out.size)).mono HB3.out.size)⟩

      have s3 : ¬ ((77 : Int) < (k : Int)) := by omega
      have s4 : (t : Int) ≤ (c3 : Int) := by have := HM.out; omega
      have hq8 : (t + 7) / 8 ≤ 1000 := by omega
      have HPT := Lib.hid (show t = (l.take t).length by rw [List.length_take, ← HM.out]; omega)
      have HPB := Lib.hid (show (t + 7) / 8 = (packL (l.take t)).length by rw [packL_len, ← HPT.out])
      have HVT := Lib.hid (HV2.out.take t (by omega))
      obtain ⟨T, hT⟩ : ∃ T, packL (l.take t) = T := ⟨_, rfl⟩
      have HTT := Lib.hid hT
      rw [hT] at HPB
      clear hT
      by_cases hTb : T = b
      · have HW := Lib.hid (show getE b = _ ∧ getL b = _ by have h := HQ.out; rw [last_ok HIE.out HEV.out (by rw [HD.out, HXR.out]) (by rw [HK.out]; exact h77) (by rw [HT.out, HTT.out]; exact hTb)] at h; exact h)
        have hw := HW.out
        have eE : E = 0 := HE.out.symm.trans hw.1
        have eP : p = out := HP.out.symm.trans hw.2
        have eT : (T == b) = true := by rw [beq_iff_eq]; exact hTb
        subst eE eP
        clear hw hTb
        go_wp2_with (first | (go_at_call 111; refine (refat_any l m HM.out (by omega) i (by omega) ch HCH.out (some a3) c3 _ HV2.out).mono ?_; rintro e w5 ⟨rfl, hb5⟩) | (go_at_call 112; refine (refvalue_any (ch : Int) (d : Int) 0 HVO.out.1 HVO.out.2 _).mono ?_; rintro e w6 ⟨rfl, rfl⟩) | (go_at_call 73; refine (refsum_any _ (j + 1) HL5.out (some a5) c5 (d : Int) 0 HSM.out.1 HSM.out.2 _ (HZ5.out.next hb5)).mono ?_; rintro e w7 ⟨rfl, rfl⟩) | (go_at_call 74; refine (refpack_any (l.take t) t HPT.out (by omega) (some a3) c3 _ (HVT.out.next hb5)).mono ?_; rintro e w8 ⟨A8, c8, rfl, hb8s, hb8⟩; rw [HTT.out] at hb8s) | (go_at_call 13; refine (same_any T b ((t + 7) / 8) n HPB.out HN.out A8 A c8 c _ _ hb8s.rd (HA.out.next ((HB3.out.trans ((HBL.out.trans (hb5.mono HBL.out.size)).mono HB3.out.size)).trans (hb8.mono ((HB3.out.trans ((HBL.out.trans (hb5.mono HBL.out.size)).mono HB3.out.size))).size))).rd (by omega) (by omega)).mono ?_; rintro e w9 ⟨rfl, hb9⟩))
        go_ret2
        refine ⟨Ao, co, by rw [HK.out]; rfl, ?_, (HB3.out.trans ((HBL.out.trans (hb5.mono HBL.out.size)).mono HB3.out.size)).trans ((hb8.trans (hb9.mono hb8.size)).mono ((HB3.out.trans ((HBL.out.trans (hb5.mono HBL.out.size)).mono HB3.out.size))).size)⟩
        exact ((HBO.out.next hb5).next hb8).next hb9
      · have HW := Lib.hid (show getE b = _ ∧ getL b = _ by have h := HQ.out; rw [last_len HIE.out HEV.out (by rw [HD.out, HXR.out]) (by rw [HK.out]; exact h77) (by rw [HT.out, HTT.out]; exact hTb)] at h; exact h)
        have hw := HW.out
        have eE : E = 14 := HE.out.symm.trans hw.1
        have eP : p = [] := HP.out.symm.trans hw.2
        have eT : (T == b) = false := by rw [beq_eq_false_iff_ne]; exact hTb
        subst eE eP
        clear hw hTb
        go_wp2_with (first | (go_at_call 111; refine (refat_any l m HM.out (by omega) i (by omega) ch HCH.out (some a3) c3 _ HV2.out).mono ?_; rintro e w5 ⟨rfl, hb5⟩) | (go_at_call 112; refine (refvalue_any (ch : Int) (d : Int) 0 HVO.out.1 HVO.out.2 _).mono ?_; rintro e w6 ⟨rfl, rfl⟩) | (go_at_call 73; refine (refsum_any _ (j + 1) HL5.out (some a5) c5 (d : Int) 0 HSM.out.1 HSM.out.2 _ (HZ5.out.next hb5)).mono ?_; rintro e w7 ⟨rfl, rfl⟩) | (go_at_call 74; refine (refpack_any (l.take t) t HPT.out (by omega) (some a3) c3 _ (HVT.out.next hb5)).mono ?_; rintro e w8 ⟨A8, c8, rfl, hb8s, hb8⟩; rw [HTT.out] at hb8s) | (go_at_call 13; refine (same_any T b ((t + 7) / 8) n HPB.out HN.out A8 A c8 c _ _ hb8s.rd (HA.out.next ((HB3.out.trans ((HBL.out.trans (hb5.mono HBL.out.size)).mono HB3.out.size)).trans (hb8.mono ((HB3.out.trans ((HBL.out.trans (hb5.mono HBL.out.size)).mono HB3.out.size))).size))).rd (by omega) (by omega)).mono ?_; rintro e w9 ⟨rfl, hb9⟩))
        go_ret2
        exact ⟨none, 0, rfl, bs_nil _ _, (HB3.out.trans ((HBL.out.trans (hb5.mono HBL.out.size)).mono HB3.out.size)).trans ((hb8.trans (hb9.mono hb8.size)).mono ((HB3.out.trans ((HBL.out.trans (hb5.mono HBL.out.size)).mono HB3.out.size))).size)⟩
end Go.Proofs.YtpniolinndlepaaGreatDoor
