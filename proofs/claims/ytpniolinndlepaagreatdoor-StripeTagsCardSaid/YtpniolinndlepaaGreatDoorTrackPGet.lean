/-
  The landed Get of track.
-/
import Derived.Test.YtpniolinndlepaaGreatDoorTrackPRead
import Derived.Test.YtpniolinndlepaaGreatDoorTrackA
import Derived.WalkMore
namespace Go.Proofs.YtpniolinndlepaaGreatDoor
set_option linter.unusedVariables false
open Go.ChangeShapes Go.WideShapes Go.ChangeAt Go.RowKit

/-- The digits and the place behind the track, or what is wrong. -/
def endX (l : List Bool) : Except Int (List Nat × Nat) → Except Int (List Nat × Nat)
  | .error e => .error e
  | .ok (out, i) => if l.length < i + 5 then .error 5 else if ones5 (chAt l i) % 2 = 0 then .error 3 else if chAt l i % 16 ≠ xorL (putVals out) then .error 6 else .ok (out, i + 5)
def digX (l : List Bool) : Except Int (List Nat × Nat) := if chAt l 0 ≠ 11 then .error 4 else endX l (scanL l l.length 5 [])
theorem end_end {l : List Bool} {out : List Nat} {i : Nat} (h : l.length < i + 5) : endX l (.ok (out, i)) = .error 5 := by rw [endX, if_pos h]
theorem end_par {l : List Bool} {out : List Nat} {i : Nat} (h : i + 5 ≤ l.length) (h1 : ones5 (chAt l i) % 2 = 0) : endX l (.ok (out, i)) = .error 3 := by rw [endX, if_neg (by omega), if_pos h1]
theorem end_sum {l : List Bool} {out : List Nat} {i : Nat} (h : i + 5 ≤ l.length) (h1 : ¬ ones5 (chAt l i) % 2 = 0) (h2 : chAt l i % 16 ≠ xorL (putVals out)) : endX l (.ok (out, i)) = .error 6 := by rw [endX, if_neg (by omega), if_neg h1, if_pos h2]
theorem end_ok {l : List Bool} {out : List Nat} {i : Nat} (h : i + 5 ≤ l.length) (h1 : ¬ ones5 (chAt l i) % 2 = 0) (h2 : chAt l i % 16 = xorL (putVals out)) : endX l (.ok (out, i)) = .ok (out, i + 5) := by rw [endX, if_neg (by omega), if_neg h1, if_neg (by rw [h2]; exact fun h => h rfl)]
theorem zs_own {w : World} {base n c : Nat} {A : Option Addr} {l : List Int} (h : w.ownsRow base 3 1 (.slice A n c) n (I64 l)) : Zs w w.heap.size l A c := by
  obtain ⟨A', c', e, _, hz⟩ := zs_of_own h
  cases e
  exact hz
theorem bs_own {w : World} {base n c : Nat} {A : Option Addr} {s : List Nat} (h : w.ownsRow base 5 1 (.slice A n c) n (U8 s)) (hs : ∀ x ∈ s, x < 256) : Bs w w.heap.size s A c := by
  obtain ⟨A', c', e, hz⟩ := bs_of_own h hs
  cases e
  exact hz
def lenOf : Value → Nat
  | .slice _ n _ => n
  | _ => 0
/-- A row of the call's own is kept while only the reader's box turns. -/
theorem own_box {w w' : World} {base X n : Nat} {e : TypeId} {v : Value} {xs : List Value} (h : w.ownsRow base e 1 v n xs) (hX : X < base) (hg : w.grownBy w' (some X)) : w'.ownsRow base e 1 v n xs := by
  refine h.kept hg ?_
  cases hv : v.ownBlock with
  | none => exact .inl rfl
  | some g =>
    right
    have := own_ge h hv
    intro e
    cases e
    omega
theorem own_grown {w w1 w2 : World} {row : Option Nat} {X : Nat} (h : w.grownBy w1 (some X)) (hg : w1.grownBy w2 row) (hr : ∀ p, row = some p → w.heap.size ≤ p) : w.grownBy w2 (some X) :=
  ⟨hg.os.trans h.os, hg.tape.trans h.tape, hg.output.trans h.output, Nat.le_trans h.size hg.size, fun k hk hne => (hg.block k (Nat.lt_of_lt_of_le hk h.size) (fun e => by have := hr k e.symm; omega)).trans (h.block k hk hne)⟩
set_option maxRecDepth 100000 in
set_option maxHeartbeats 1600000 in
theorem pdigits_any (l : List Bool) (m : Nat) (hm : m = l.length) (hm2 : m ≤ 10000) (hm3 : 15 ≤ m) (X : Nat) (a : Addr) (c : Nat) (w : World) (hK : KBox w X a m c 0) (hV : Vs w X l (some a) c) (R : Except Int (List Nat × Nat)) (hR : digX l = R) : Calls Tryz.prog 50 #[.pointer (some ⟨X, 0, none⟩)] w fun e w' => (∃ E, R = .error E ∧ e = .panicked (told E) ∧ w.grownBy w' (some X)) ∨ (∃ out i A' c', R = .ok (out, i) ∧ e = .returned (.slice A' out.length c') ∧ digitsOk out = true ∧ i ≤ m ∧ Bs w' w'.heap.size out A' c' ∧ KBox w' X a m c i ∧ w.grownBy w' (some X)) := by
  obtain ⟨i0, hi, hz0, hz1, hz2⟩ := info_parts infoInt
  obtain ⟨j0, hj, hy0, hy1, hy2⟩ := info_parts infoU8
  have HM := Lib.hid hm
  have HK := Lib.hid hK
  have HV := Lib.hid hV
  have HR := Lib.hid hR
  have hX := hK.lt
  obtain ⟨z, hz⟩ : ∃ z, chAt l 0 = z := ⟨_, rfl⟩
  have HZ := Lib.hid hz
  clear hm hK hV hR hz
  by_cases h11 : ¬ z = 11
  · have z1 : ((z : Int) == 11) = false := by rw [beq_eq_false_iff_ne]; omega
    have z2 : decide ((z : Int) = 11) = false := decide_eq_false (by omega)
    have hR4 : R = .error 4 := by rw [← HR.out, digX, HZ.out, if_pos (by omega)]
    go_enter Tryz.func50, Tryz.ntmps50
    go_wp2
    go_step3
    go_wp2_with (first | (go_at_call 89; refine (pcharacter_ok l m HM.out hm2 0 X a c _ HK.out HV.out (by omega) z HZ.out).mono ?_; rintro e w2 ⟨rfl, hk2, hg2⟩) | (go_at_call 90; refine (pcharof_any 11 11 (by decide) (by decide) _).mono ?_; rintro e w3 ⟨rfl, hb3⟩) | (go_at_call 49; refine (pdemand_no 4 _).mono ?_; rintro e w4 ⟨rfl, rfl⟩))
    exact ⟨rfl, .inl ⟨4, hR4, rfl, grown_trans hg2 (grown_below _ hb3)⟩⟩
  have h11 : z = 11 := by omega
  subst h11
  obtain ⟨S, hS⟩ : ∃ S, scanL l l.length 5 [] = S := ⟨_, rfl⟩
  have HS := Lib.hid hS
  have HRS := Lib.hid (show R = endX l S by rw [← HR.out, digX, HZ.out, if_neg (by decide), hS])
  clear hS HR
  have z1 : ((11 : Int) == 11) = true := by decide
  go_enter Tryz.func50, Tryz.ntmps50
  go_wp2
  go_step3
  go_wp2_with (first | (go_at_call 89; refine (pcharacter_ok l m HM.out hm2 0 X a c _ HK.out HV.out (by omega) 11 HZ.out).mono ?_; rintro e w2 ⟨rfl, hk2, hg2⟩) | (go_at_call 90; refine (pcharof_any 11 11 (by decide) (by decide) _).mono ?_; rintro e w3 ⟨rfl, hb3⟩) | (go_at_call 49; refine (pdemand_ok 4 _).mono ?_; rintro e w4 ⟨rfl, rfl⟩))
  have hw4 := grown_trans hg2 (grown_below (some X) hb3)
  have hk3 := hk2.next hb3
  obtain ⟨B, hB⟩ : ∃ B, w.heap.size = B := ⟨_, rfl⟩
  have HBW := Lib.hid hB
  have hXB : X < B := by rw [← hB]; exact hX
  clear hB
  go_step3
  go_wp2
  go_loopw [3, 4] (fun v d wr => ∃ (i : Nat) (out : List Nat) (f : Nat), lenOf d = out.length ∧ i = 5 * (out.length + 1) ∧ i ≤ m ∧ wr.ownsRow B 5 1 d out.length (U8 out) ∧ digitsOk out = true ∧ wr.ownsRow B 3 1 v (out.length + 1) (I64 (NZ (11 :: out))) ∧ l.length + 5 ≤ f + i ∧ scanL l f i out = S ∧ KBox wr X a m c i ∧ w.grownBy wr (some X)) (fun _ d _ => m + 10 - lenOf d)
  case atStart =>
    have hsB : B ≤ w4.heap.size := by have := hw4.size; have := HBW.out; omega
    have hbA := below_lit w4 #[.int .i64 11] 3
    have hbB := hbA.trans ((below_lit (w4.alloc (.cells #[.int .i64 11] 3)) #[] 5).mono hbA.size)
    refine ⟨5, [], l.length, rfl, rfl, by omega, ?_, rfl, ?_, by omega, HS.out, hk3.next hbB, grown_trans hw4 (grown_below _ hbB)⟩
    · rw [show w4.heap.size + 1 = (w4.alloc (.cells #[.int .i64 11] 3)).heap.size from (World.size_alloc _ _).symm]
      exact World.ownsRow_lit (w4.alloc (.cells #[.int .i64 11] 3)) (size := 1) #[] 0 (Nat.le_trans hsB hbA.size) (by decide) (by rfl)
    · exact (World.ownsRow_lit w4 (size := 1) #[.int .i64 11] 1 hsB (by decide) (by rfl)).alloc _
  case round =>
    obtain ⟨i, out, f, hlen, hi5, him, hob, hdg, hov, hf, hsc, hk, hg⟩ := hrel
    have HOB := Lib.hid hob
    have HOV := Lib.hid hov
    have HDG := Lib.hid hdg
    have HF := Lib.hid hf
    have HSC := Lib.hid hsc
    have HKr := Lib.hid hk
    have HG := Lib.hid hg
    have HVr := Lib.hid (HV.out.grown hX hg)
    have hszg := hg.size
    have HLEN := Lib.hid hlen
    obtain ⟨k, hk⟩ : ∃ k, out.length = k := ⟨_, rfl⟩
    rw [hk] at hi5 HOV
    have HKL := Lib.hid hk
    have HI := Lib.hid hi5
    have hkb : k ≤ 2000 := by omega
    clear hob hov hdg hf hsc hg hlen hk hi5
    by_cases hend : m < i + 5
    · have hS5 : S = .error 5 := by rw [← HSC.out]; exact scan_end (by rw [← HM.out]; exact hend)
      have hR5 : R = .error 5 := by rw [HRS.out, hS5]; rfl
      have HR5 := Lib.hid hR5
      clear hS5 hR5
      go_wp2_with (go_at_call 91; refine (prvalue_end l m HM.out hm2 i X a c _ HKr.out HVr.out him hend).mono ?_; rintro e w5 ⟨rfl, hg5⟩)
      exact ⟨rfl, .inl ⟨5, HR5.out, rfl, grown_trans HG.out hg5⟩⟩
    have hie : i + 5 ≤ m := by omega
    have hch32 := chAt_lt l i
    obtain ⟨ch, hch⟩ : ∃ ch, chAt l i = ch := ⟨_, rfl⟩
    rw [hch] at hch32
    have HCH := Lib.hid hch
    have HIE := Lib.hid (show i + 5 ≤ l.length by rw [← HM.out]; exact hie)
    clear hch hend
    by_cases hev : ones5 ch % 2 = 0
    · have HR5 := Lib.hid (show R = .error 3 by rw [HRS.out, ← HSC.out, scan_par HF.out HIE.out (by rw [HCH.out]; exact hev)]; rfl)
      have HEV := Lib.hid hev
      clear hev
      go_wp2_with (go_at_call 91; refine (prvalue_par l m HM.out hm2 i X a c _ HKr.out HVr.out hie ch HCH.out HEV.out).mono ?_; rintro e w5 ⟨rfl, hg5⟩)
      exact ⟨rfl, .inl ⟨3, HR5.out, rfl, grown_trans HG.out hg5⟩⟩
    have HEV := Lib.hid hev
    have HEV2 := Lib.hid (show ¬ ones5 (chAt l i) % 2 = 0 by rw [HCH.out]; exact hev)
    obtain ⟨d, hd⟩ : ∃ d, ch % 16 = d := ⟨_, rfl⟩
    have hd16 : d < 16 := by omega
    have HDD := Lib.hid hd
    have HD := Lib.hid (show chAt l i % 16 = d by rw [HCH.out]; exact hd)
    clear hev hd hch32
    have hm1 : k + 1 + 1 ≤ maxLen := by unfold maxLen; omega
    have hm2' : (k + 1 + 1) * 8 ≤ 140737488355328 := by omega
    by_cases h9 : d ≤ 9
    · have s1 : ¬ ((9 : Int) < (d : Int)) := by omega
      have s2 : ((d : Int) != 15) = true := by rw [bne_iff_ne]; omega
      have s3 : ((d : Int) == 15) = false := by rw [beq_eq_false_iff_ne]; omega
      have s4 : ¬ ((d : Int) = 15) := by omega
      have hwa : IntKind.u8.wrap (d : Int) = (d : Int) := by simp [IntKind.wrap, IntKind.signed, IntKind.bits]; omega
      have hm3' : out.length + 1 ≤ maxLen := by rw [HKL.out]; unfold maxLen; omega
      have hm4' : (out.length + 1) * 1 ≤ 140737488355328 := by rw [HKL.out]; omega
      go_wp2_with (first | (go_at_call 91; refine (prvalue_ok l m HM.out hm2 i X a c _ HKr.out HVr.out hie ch HCH.out HEV.out d HDD.out).mono ?_; rintro e w5 ⟨rfl, hk5, hg5⟩) | (at_builtin; refine wpList_append_own _ rfl (.tmp 15) (.tmp 17) 82 rfl B 3 i0 (.int .i64 0) 1 8 Tryz.underlying82 hi hz0 hz1 hz2 rfl (by decide) _ (k + 1) (I64 (NZ (11 :: out))) rfl ((own_box HOV.out hXB hg5).alloc _) ⟨_, 0, none⟩ 1 1 (I64 [(d : Int)]) rfl rfl (int_lit _ _) (I64_one _) hm1 hm2' (by have := hg5.size; have := HBW.out; simp; omega) ?_))
      intro v8 w8 hown8 hg8 _
      have hsz5 := hg5.size
      have HG5 := Lib.hid (grown_trans HG.out hg5)
      have HOV8 := Lib.hid (show w8.ownsRow B 3 1 v8 (k + 1 + 1) (I64 (NZ (11 :: (out ++ [d])))) by
        rw [nz_snoc, I64_append]
        exact hown8)
      have HOB8 := Lib.hid (own_kept hg8 ((own_box HOB.out hXB hg5).alloc _) ((own_box HOV.out hXB hg5).alloc _) (by decide))
      have HG8 := Lib.hid (own_grown (grown_trans HG5.out (World.grownBy_alloc _ _ _)) hg8 (fun p hp => by rw [HBW.out]; exact own_ge HOV.out hp))
      have HK8 := Lib.hid ((hk5.next (below_lit _ _ _)).grown hg8 (fun e => by have := own_ge HOV.out e.symm; omega))
      clear hown8 hg8 hg5 hk5 HKr HVr HOV HOB HG HG5
      have hsz8 := HG8.out.size
      go_wp2_with (at_builtin; refine wpList_append_own _ rfl (.tmp 26) (.tmp 29) 30 rfl B 5 j0 (.int .u8 0) 1 1 Tryz.underlying30 hj hy0 hy1 hy2 rfl (by decide) _ out.length (U8 out) rfl (HOB8.out.alloc _) ⟨_, 0, none⟩ 1 1 (U8 [d]) rfl rfl ?rd (U8_one _) hm3' hm4' (by have := HBW.out; simp; omega) ?_)
      case rd =>
        intro q u hu
        first | exact hu | exact u8_lit _ d q u hu | (simpa [U8] using hu) | (simpa [U8, hwa] using hu)
      intro v9 w9 hown9 hg9 _
      have HOB9 := Lib.hid (show w9.ownsRow B 5 1 v9 (out ++ [d]).length (U8 (out ++ [d])) by
        rw [U8, List.map_append, List.length_append]
        exact hown9)
      have HOV9 := Lib.hid (own_kept hg9 (HOV8.out.alloc _) (HOB8.out.alloc _) (by decide))
      have HG9 := Lib.hid (own_grown (grown_trans HG8.out (World.grownBy_alloc _ _ _)) hg9 (fun p hp => by rw [HBW.out]; exact own_ge HOB8.out hp))
      have HK9 := Lib.hid ((HK8.out.next (below_lit _ _ _)).grown hg9 (fun e => by have := own_ge HOB8.out e.symm; omega))
      have HL9 := Lib.hid (show lenOf v9 = (out ++ [d]).length by
        obtain ⟨_, _, e, _⟩ := own_shape HOB9.out
        rw [e]; rfl)
      clear hown9 hg9 HOV8 HOB8 HG8 HK8
      go_wp2
      go_roundw
      case rel =>
        obtain ⟨g, hg1, hg2⟩ := scan_more (out := out) HF.out HIE.out HEV2.out (by rw [HD.out]; omega)
        exact ⟨i + 5, out ++ [d], g, HL9.out, by rw [List.length_append, HKL.out, HI.out]; simp; omega, hie, HOB9.out, digits_snoc HDG.out h9, by rw [List.length_append, HKL.out]; exact HOV9.out, hg1, by rw [← HSC.out, hg2, HD.out], HK9.out, HG9.out⟩
      case measure => rw [HL9.out, HLEN.out, List.length_append, HKL.out]; have := HI.out; simp; omega
    by_cases h15 : ¬ d = 15
    · have s1 : (9 : Int) < (d : Int) := by omega
      have s2 : ((d : Int) != 15) = true := by rw [bne_iff_ne]; omega
      have s3 : ((d : Int) == 15) = false := by rw [beq_eq_false_iff_ne]; omega
      have s4 : ¬ ((d : Int) = 15) := by omega
      have HR7 := Lib.hid (show R = .error 7 by rw [HRS.out, ← HSC.out, scan_dig HF.out HIE.out HEV2.out (by rw [HD.out]; omega) (by rw [HD.out]; exact h15)]; rfl)
      go_wp2_with (first | (go_at_call 91; refine (prvalue_ok l m HM.out hm2 i X a c _ HKr.out HVr.out hie ch HCH.out HEV.out d HDD.out).mono ?_; rintro e w5 ⟨rfl, hk5, hg5⟩) | (at_builtin; refine wpList_append_own _ rfl (.tmp 15) (.tmp 17) 82 rfl B 3 i0 (.int .i64 0) 1 8 Tryz.underlying82 hi hz0 hz1 hz2 rfl (by decide) _ (k + 1) (I64 (NZ (11 :: out))) rfl ((own_box HOV.out hXB hg5).alloc _) ⟨_, 0, none⟩ 1 1 (I64 [(d : Int)]) rfl rfl (int_lit _ _) (I64_one _) hm1 hm2' (by have := hg5.size; have := HBW.out; simp; omega) ?_))
      intro v8 w8 hown8 hg8 _
      have hsz5 := hg5.size
      have HG5 := Lib.hid (grown_trans HG.out hg5)
      have HOV8 := Lib.hid (show w8.ownsRow B 3 1 v8 (k + 1 + 1) (I64 (NZ (11 :: (out ++ [d])))) by
        rw [nz_snoc, I64_append]
        exact hown8)
      have HOB8 := Lib.hid (own_kept hg8 ((own_box HOB.out hXB hg5).alloc _) ((own_box HOV.out hXB hg5).alloc _) (by decide))
      have HG8 := Lib.hid (own_grown (grown_trans HG5.out (World.grownBy_alloc _ _ _)) hg8 (fun p hp => by rw [HBW.out]; exact own_ge HOV.out hp))
      have HK8 := Lib.hid ((hk5.next (below_lit _ _ _)).grown hg8 (fun e => by have := own_ge HOV.out e.symm; omega))
      clear hown8 hg8 hg5 hk5 HKr HVr HOV HOB HG HG5
      go_wp2
      exact ⟨rfl, .inl ⟨7, HR7.out, rfl, HG8.out⟩⟩
    have h15 : d = 15 := by omega
    subst h15
    have hm5 : ((15 : Nat) : Int) = 15 := rfl
    have HS15 := Lib.hid (show S = .ok (out, i + 5) by rw [← HSC.out]; exact scan_15 HF.out HIE.out HEV2.out HD.out)
    go_wp2_with (first | (go_at_call 91; refine (prvalue_ok l m HM.out hm2 i X a c _ HKr.out HVr.out hie ch HCH.out HEV.out 15 HDD.out).mono ?_; rintro e w5 ⟨rfl, hk5, hg5⟩; rw [hm5]) | (at_builtin; refine wpList_append_own _ rfl (.tmp 15) (.tmp 17) 82 rfl B 3 i0 (.int .i64 0) 1 8 Tryz.underlying82 hi hz0 hz1 hz2 rfl (by decide) _ (k + 1) (I64 (NZ (11 :: out))) rfl ((own_box HOV.out hXB hg5).alloc _) ⟨_, 0, none⟩ 1 1 (I64 [15]) rfl rfl (int_lit _ _) (I64_one _) hm1 hm2' (by have := hg5.size; have := HBW.out; simp; omega) ?_))
    intro v8 w8 hown8 hg8 _
    have hsz5 := hg5.size
    have HG5 := Lib.hid (grown_trans HG.out hg5)
    have HOV8 := Lib.hid (show w8.ownsRow B 3 1 v8 (k + 1 + 1) (I64 (NZ (putVals out))) by
      rw [nz_pv, I64_append]
      exact hown8)
    have HOB8 := Lib.hid (own_kept hg8 ((own_box HOB.out hXB hg5).alloc _) ((own_box HOV.out hXB hg5).alloc _) (by decide))
    have HG8 := Lib.hid (own_grown (grown_trans HG5.out (World.grownBy_alloc _ _ _)) hg8 (fun p hp => by rw [HBW.out]; exact own_ge HOV.out hp))
    have HK8 := Lib.hid ((hk5.next (below_lit _ _ _)).grown hg8 (fun e => by have := own_ge HOV.out e.symm; omega))
    clear hown8 hg8 hg5 hk5 HKr HVr HOV HOB HG HG5
    obtain ⟨t, ht⟩ : ∃ t, i + 5 = t := ⟨_, rfl⟩
    have HRT := Lib.hid (show R = endX l (.ok (out, t)) by rw [HRS.out, HS15.out, ht])
    rw [ht] at HK8
    have hmt : t ≤ m := by omega
    obtain ⟨A8, c8, hv8, hl8, _⟩ := zs_of_own HOV8.out
    subst hv8
    obtain ⟨Ao, co, hvo, _⟩ := bs_of_own HOB8.out (fun x hx => by have := (List.all_eq_true.1 HDG.out) x hx; simp at this; omega)
    subst hvo
    have HLP := Lib.hid (show k + 1 + 1 = (putVals out).length by rw [hl8, NZ_len])
    have HV8 := Lib.hid (HV.out.grown hX HG8.out)
    clear hl8 ht HCH HIE HEV HEV2 HDD HD HS15 HRS HS HSC hd16
    by_cases hend : m < t + 5
    · have HR5 := Lib.hid (show R = .error 5 by rw [HRT.out]; exact end_end (by rw [← HM.out]; exact hend))
      go_wp2_with (go_at_call 91; refine (prvalue_end l m HM.out hm2 t X a c _ HK8.out HV8.out hmt hend).mono ?_; rintro e w9 ⟨rfl, hg9⟩)
      exact ⟨rfl, .inl ⟨5, HR5.out, rfl, grown_trans HG8.out hg9⟩⟩
    have hte : t + 5 ≤ m := by omega
    have hch32 := chAt_lt l t
    obtain ⟨c2, hc2⟩ : ∃ c2, chAt l t = c2 := ⟨_, rfl⟩
    rw [hc2] at hch32
    have HC2 := Lib.hid hc2
    have HTE := Lib.hid (show t + 5 ≤ l.length by rw [← HM.out]; exact hte)
    clear hc2 hend
    by_cases hev : ones5 c2 % 2 = 0
    · have HR5 := Lib.hid (show R = .error 3 by rw [HRT.out]; exact end_par HTE.out (by rw [HC2.out]; exact hev))
      have HEV := Lib.hid hev
      clear hev
      go_wp2_with (go_at_call 91; refine (prvalue_par l m HM.out hm2 t X a c _ HK8.out HV8.out hte c2 HC2.out HEV.out).mono ?_; rintro e w9 ⟨rfl, hg9⟩)
      exact ⟨rfl, .inl ⟨3, HR5.out, rfl, grown_trans HG8.out hg9⟩⟩
    have HEV3 := Lib.hid hev
    have HEV4 := Lib.hid (show ¬ ones5 (chAt l t) % 2 = 0 by rw [HC2.out]; exact hev)
    obtain ⟨d2, hd2⟩ : ∃ d2, c2 % 16 = d2 := ⟨_, rfl⟩
    have HD2 := Lib.hid hd2
    have HD3 := Lib.hid (show chAt l t % 16 = d2 by rw [HC2.out]; exact hd2)
    obtain ⟨x, hx⟩ : ∃ x, xorL (putVals out) = x := ⟨_, rfl⟩
    have HXR := Lib.hid hx
    clear hev hd2 hch32 hx
    by_cases hdx : ¬ d2 = x
    · have s1 : ((d2 : Int) == (x : Int)) = false := by rw [beq_eq_false_iff_ne]; omega
      have s2 : decide ((d2 : Int) = (x : Int)) = false := decide_eq_false (by omega)
      have HR5 := Lib.hid (show R = .error 6 by rw [HRT.out]; exact end_sum HTE.out HEV4.out (by rw [HD3.out, HXR.out]; exact hdx))
      go_wp2_with (first | (go_at_call 91; refine (prvalue_ok l m HM.out hm2 t X a c _ HK8.out HV8.out hte c2 HC2.out HEV3.out d2 HD2.out).mono ?_; rintro e w9 ⟨rfl, hk9, hg9⟩) | (go_at_call 66; refine (psumof_any (putVals out) (pv_lt HDG.out) (k + 1 + 1) HLP.out A8 c8 x HXR.out _ (zs_own (own_box HOV8.out hXB hg9))).mono ?_; rintro e w10 ⟨rfl, rfl⟩) | (go_at_call 49; refine (pdemand_no 6 _).mono ?_; rintro e w11 ⟨rfl, rfl⟩))
      exact ⟨rfl, .inl ⟨6, HR5.out, rfl, grown_trans HG8.out hg9⟩⟩
    have hdx2 : d2 = x := by omega
    subst hdx2
    have HR5 := Lib.hid (show R = .ok (out, t + 5) by rw [HRT.out]; exact end_ok HTE.out HEV4.out (by rw [HD3.out, HXR.out]))
    go_wp2_with (first | (go_at_call 91; refine (prvalue_ok l m HM.out hm2 t X a c _ HK8.out HV8.out hte c2 HC2.out HEV3.out d2 HD2.out).mono ?_; rintro e w9 ⟨rfl, hk9, hg9⟩) | (go_at_call 66; refine (psumof_any (putVals out) (pv_lt HDG.out) (k + 1 + 1) HLP.out A8 c8 d2 HXR.out _ (zs_own (own_box HOV8.out hXB hg9))).mono ?_; rintro e w10 ⟨rfl, rfl⟩) | (go_at_call 49; refine (pdemand_ok 6 _).mono ?_; rintro e w11 ⟨rfl, rfl⟩))
    try rw [Exit.noGoto_ret]
    go_ret
    exact .inr ⟨out, t + 5, Ao, co, HR5.out, rfl, HDG.out, hte, bs_own (own_box HOB8.out hXB hg9) (fun x hx => by have := (List.all_eq_true.1 HDG.out) x hx; simp at this; omega), hk9, grown_trans HG8.out hg9⟩
set_option linter.unusedVariables false
open Go.ChangeShapes Go.WideShapes Go.ChangeAt Go.RowKit

/-- Behind the digits: what Get answers. -/
def getD (b : List Nat) (l : List Bool) : Except Int (List Nat × Nat) → Except Int (List Nat)
  | .error e => .error e
  | .ok (out, i) => if 77 < out.length then .error 21 else if packL (l.take i) ≠ b then .error 14 else .ok out
theorem get_digX {b : List Nat} (h : ¬ (b.length < 2 ∨ 50 < b.length)) : getX b = getD b (unpackL b) (digX (unpackL b)) := by
  rw [getX, if_neg h, digX]
  by_cases h1 : chAt (unpackL b) 0 ≠ 11
  · rw [if_pos h1, if_pos h1]; rfl
  · rw [if_neg h1, if_neg h1]
    cases hs : scanL (unpackL b) (unpackL b).length 5 [] with
    | error e => rfl
    | ok r =>
      obtain ⟨out, i⟩ := r
      show lastL b (unpackL b) out i = getD b (unpackL b) (endX (unpackL b) (.ok (out, i)))
      rw [lastL, endX]
      split
      · rfl
      · split
        · rfl
        · split
          · rfl
          · rfl
set_option maxRecDepth 100000 in
set_option maxHeartbeats 1600000 in
theorem catch_told (D F : Nat) (hDF : ¬ D = F) (d0 : Value) (e0 E : Int) (tD tF : TypeId) (w : World) (hd : w.heap[D]? = some (.cells #[d0] tD (0, 0))) (hf : w.heap[F]? = some (.cells #[.int .i64 e0] tF (0, 0))) :
    CallsD Tryz.prog 48 #[.pointer (some ⟨D, 0, none⟩), .pointer (some ⟨F, 0, none⟩)] (.panicking (told E)) w fun e u' w' =>
      e = .returned (.tuple #[]) ∧ u' = .panicking [{ v := .iface 31 (.int .i64 E), recovered := true }] ∧ w'.heap[D]? = some (.cells #[.slice none 0 0] tD (0, 0)) ∧ w'.heap[F]? = some (.cells #[.int .i64 E] tF (0, 0)) ∧ ∀ B, B ≤ D → B ≤ F → Below B w w' := by
  have c0 : w.cell? ⟨D, 0, none⟩ = some d0 := cell_of_row w D 0 _ _ _ hd
  have c1 : w.cell? ⟨F, 0, none⟩ = some (.int .i64 e0) := cell_of_row w F 0 _ _ _ hf
  have f0 : w.frozen? ⟨D, 0, none⟩ = false := frozen_of_row w D 0 _ _ hd
  have f1 : w.frozen? ⟨F, 0, none⟩ = false := frozen_of_row w F 0 _ _ hf
  refine callsD_of_wpS Tryz.func48 rfl fun c₀ cs hu => ?_
  unfold told at hu
  apply wpS_seq
  apply wpS_region
  simp [wpOpsS, go_sem, recoverD, hu, Tryz.ntmps48, Exit.thenS]
  refine wpS_of_wp ?_
  have hneq : ∀ w : World, (binOp BinOp.neq 20 (.iface 31 (.int .i64 E)) .nilIface).run Tryz.prog w = .ok (.bool true) w := fun _ => by first | rfl | kernel_rfl
  change Code.wp _ _ _ { tmps := #[.pointer (some ⟨D, 0, none⟩), .pointer (some ⟨F, 0, none⟩), .iface 31 (.int .i64 E), .iface 31 (.int .i64 E), undef, undef, undef, undef], defers := [] } w
  go_wp2
  have hta : ∀ w : World, (Instr.typeAssert (.iface 31 (.int .i64 E)) 20 31 false).run Tryz.prog w = .ok (.int .i64 E) w := fun _ => by first | rfl | kernel_rfl
  have hFD : ¬ F = D := fun e => hDF e.symm
  go_region
  go_wp2
  refine ⟨rfl, _, rfl, .tuple #[], by simp [results, Tryz.results48], rfl, rfl, ?_, ?_, ?_⟩
  · show (World.setCell (World.setCell w _ _) _ _).heap[D]? = _
    rw [heap_setCell_other _ _ _ _ hDF]
    exact heap_setCell_same w D 0 _ _ _ hd
  · show (World.setCell (World.setCell w _ _) _ _).heap[F]? = _
    exact heap_setCell_same _ F 0 _ _ _ ((heap_setCell_other w _ _ _ hFD).trans hf)
  · intro B h1 h2
    exact (((Below.refl B w).setCell (p := ⟨D, 0, none⟩) h1 _).setCell (p := ⟨F, 0, none⟩) h2 _).drew
set_option maxRecDepth 100000 in
set_option maxHeartbeats 1600000 in
theorem catch_idle (p q : Addr) (w : World) :
    CallsD Tryz.prog 48 #[.pointer (some p), .pointer (some q)] .returning w fun e u' w' => e = .returned (.tuple #[]) ∧ u' = .returning ∧ w' = w := by
  refine callsD_of_wpS Tryz.func48 rfl fun c₀ cs hu => ?_
  apply wpS_seq
  apply wpS_region
  simp [wpOpsS, go_sem, recoverD, hu, Tryz.ntmps48, Exit.thenS]
  refine wpS_of_wp ?_
  have hneq : ∀ w : World, (binOp BinOp.neq 20 .nilIface .nilIface).run Tryz.prog w = .ok (.bool false) w := fun _ => by first | rfl | kernel_rfl
  change Code.wp _ _ _ { tmps := #[.pointer (some p), .pointer (some q), .nilIface, .nilIface, undef, undef, undef, undef], defers := [] } w
  go_wp2
  refine ⟨rfl, .returning, ?_, .tuple #[], by simp [results, Tryz.results48], rfl, rfl, rfl⟩
  cases c₀
  simp_all
set_option linter.unusedVariables false
open Go.ChangeShapes Go.WideShapes Go.ChangeAt Go.RowKit

theorem rd_set {w : World} {B D : Nat} {A : Option Addr} {xs : List Value} (h : Rd w B A xs) {v : Value} {t : TypeId} (hd : w.heap[D]? = some (.cells #[v] t (0, 0))) (hv : ∀ u ∈ xs, u ≠ v) (y : Value) : Rd (w.setCell ⟨D, 0, none⟩ y) B A xs := by
  intro k u hu
  obtain ⟨ad, e, lt, hc⟩ := h k u hu
  refine ⟨ad, e, lt, ?_⟩
  rw [World.cell?_setCell_other]
  · exact hc
  · intro e2
    rw [← e2, cell_of_row w D 0 _ _ _ hd] at hc
    have e3 : v = u := by simpa using hc
    exact hv u (List.mem_of_getElem? hu) e3.symm
theorem bl_ne (l : List Bool) (v : Value) (h : ∀ x, v ≠ .bool x) : ∀ u ∈ BL l, u ≠ v := by
  intro u hu e
  simp only [BL, List.mem_map] at hu
  obtain ⟨x, _, rfl⟩ := hu
  exact h x e.symm
theorem u8_ne (l : List Nat) (v : Value) (h : ∀ x, v ≠ .int .u8 x) : ∀ u ∈ U8 l, u ≠ v := by
  intro u hu e
  simp only [U8, List.mem_map] at hu
  obtain ⟨x, _, rfl⟩ := hu
  exact h _ e.symm
theorem Vs.set {w : World} {B D : Nat} {l : List Bool} {A : Option Addr} {c : Nat} (h : Vs w B l A c) {v : Value} {t : TypeId} (hd : w.heap[D]? = some (.cells #[v] t (0, 0))) (hv : ∀ x, v ≠ .bool x) (y : Value) : Vs (w.setCell ⟨D, 0, none⟩ y) B l A c := ⟨rd_set h.rd hd (bl_ne l v hv) y, h.nil, h.len, h.cap⟩
theorem Bs.set {w : World} {B D : Nat} {s : List Nat} {A : Option Addr} {c : Nat} (h : Bs w B s A c) {v : Value} {t : TypeId} (hd : w.heap[D]? = some (.cells #[v] t (0, 0))) (hv : ∀ x, v ≠ .int .u8 x) (y : Value) : Bs (w.setCell ⟨D, 0, none⟩ y) B s A c := ⟨rd_set h.rd hd (u8_ne s v hv) y, h.nil, h.len, h.cap, h.lt⟩
set_option maxRecDepth 100000 in
set_option maxHeartbeats 1600000 in
theorem pget_any (b : List Nat) (n : Nat) (hn : n = b.length) (hn2 : n ≤ 1048576) (E : Int) (hE : getE b = E) (p : List Nat) (hP : getL b = p) (A : Option Addr) (c : Nat) (w : World) (hA : Bs w w.heap.size b A c) : Calls Tryz.prog 19 #[.slice A n c] w fun e w' => ∃ A' c', e = .returned (.tuple #[.slice A' (p.length : Nat) c', .int .i64 E]) ∧ Bs w' w'.heap.size p A' c' ∧ Below w.heap.size w w' := by
  have hmf : ∀ (fn : Fn) (first cap : Array Value) (w : World), (Instr.makeFunc fn first cap).run Tryz.prog w = .ok (.func fn first cap) w := fun _ _ _ _ => rfl
  have HN := Lib.hid hn
  have HA := Lib.hid hA
  have HE := Lib.hid hE
  have HP := Lib.hid hP
  have hd1 : ((w.alloc (.cells #[.slice none 0 0] 30)).alloc (.cells #[.int .i64 0] 31)).heap[w.heap.size]? = some (.cells #[.slice none 0 0] 30 (0, 0)) := by
    rw [heap_alloc_old _ _ (by simp)]
    exact heap_alloc_new w _
  have hf1 : ((w.alloc (.cells #[.slice none 0 0] 30)).alloc (.cells #[.int .i64 0] 31)).heap[w.heap.size + 1]? = some (.cells #[.int .i64 0] 31 (0, 0)) := by
    rw [show w.heap.size + 1 = (w.alloc (.cells #[.slice none 0 0] 30)).heap.size from (World.size_alloc _ _).symm]
    exact heap_alloc_new _ _
  have hb1 : Below w.heap.size w ((w.alloc (.cells #[.slice none 0 0] 30)).alloc (.cells #[.int .i64 0] 31)) := (below_lit w _ _).trans ((below_lit _ _ _).mono (below_lit w #[.slice none 0 0] 30).size)
  by_cases h0 : n < 2
  · have b0 : decide ((15 : Int) ≤ (n : Int) * 8) = false := decide_eq_false (by omega)
    have HW := Lib.hid (get_len (b := b) (.inl (by omega)))
    have eE : E = 14 := HE.out.symm.trans HW.out.1
    have eP : p = [] := HP.out.symm.trans HW.out.2
    subst eE eP
    clear hn hA hE hP
    go_enter_defers Tryz.func19, Tryz.ntmps19
    go_wp2_with (go_at_call 49; refine (pdemand_no 14 _).mono ?_; rintro e w4 ⟨rfl, rfl⟩)
    refine leaves_cons (f := 48) (args := #[.pointer (some ⟨w.heap.size, 0, none⟩), .pointer (some ⟨w.heap.size + 1, 0, none⟩)]) (by simp) (by simp [go_sem]) ?_
    refine (catch_told w.heap.size (w.heap.size + 1) (by omega) _ 0 14 30 31 _ hd1 hf1).mono ?_
    rintro e u' w'' ⟨rfl, rfl, hD, hF, hB⟩
    have hD0 := cell_of_row w'' w.heap.size 0 _ _ _ hD
    have hF0 := cell_of_row w'' (w.heap.size + 1) 0 _ _ _ hF
    show Leaves _ _ _ _ [] .returning _
    exact ⟨.tuple #[.slice none 0 0, .int .i64 14], by simp [results, Tryz.results19, go_sem, hD0, hF0], none, 0, rfl, bs_nil _ _, hb1.trans (hB _ (Nat.le_refl _) (Nat.le_succ _))⟩
  by_cases h50 : 50 < n
  · have b0 : decide ((15 : Int) ≤ (n : Int) * 8) = true := decide_eq_true (by omega)
    have b1 : decide ((n : Int) ≤ 50) = false := decide_eq_false (by omega)
    have HW := Lib.hid (get_len (b := b) (.inr (by omega)))
    have eE : E = 14 := HE.out.symm.trans HW.out.1
    have eP : p = [] := HP.out.symm.trans HW.out.2
    subst eE eP
    clear hn hA hE hP
    go_enter_defers Tryz.func19, Tryz.ntmps19
    go_wp2_with (go_at_call 49; refine (pdemand_no 14 _).mono ?_; rintro e w9 ⟨rfl, rfl⟩)
    refine leaves_cons (f := 48) (args := #[.pointer (some ⟨w.heap.size, 0, none⟩), .pointer (some ⟨w.heap.size + 1, 0, none⟩)]) (by simp) (by simp [go_sem]) ?_
    refine (catch_told w.heap.size (w.heap.size + 1) (by omega) _ 0 14 30 31 _ hd1 hf1).mono ?_
    rintro e u' w'' ⟨rfl, rfl, hD, hF, hB⟩
    have hD0 := cell_of_row w'' w.heap.size 0 _ _ _ hD
    have hF0 := cell_of_row w'' (w.heap.size + 1) 0 _ _ _ hF
    show Leaves _ _ _ _ [] .returning _
    exact ⟨.tuple #[.slice none 0 0, .int .i64 14], by simp [results, Tryz.results19, go_sem, hD0, hF0], none, 0, rfl, bs_nil _ _, hb1.trans (hB _ (Nat.le_refl _) (Nat.le_succ _))⟩
  have b0 : decide ((15 : Int) ≤ (n : Int) * 8) = true := decide_eq_true (by omega)
  have b1 : decide ((n : Int) ≤ 50) = true := decide_eq_true (by omega)
  have HNL := Lib.hid (show ¬ (b.length < 2 ∨ 50 < b.length) by omega)
  obtain ⟨l, hl⟩ : ∃ l, unpackL b = l := ⟨_, rfl⟩
  obtain ⟨m, hm⟩ : ∃ m, 8 * n = m := ⟨_, rfl⟩
  have HL := Lib.hid hl
  have HM := Lib.hid (show m = l.length by rw [← hl, unpackL_len, ← hn, hm])
  have hm16 : 16 ≤ m := by omega
  have hm400 : m ≤ 400 := by omega
  have HM8 := Lib.hid hm
  obtain ⟨R, hR⟩ : ∃ R, digX l = R := ⟨_, rfl⟩
  have HR := Lib.hid hR
  have HX := Lib.hid (show getX b = getD b l R by rw [get_digX HNL.out, hl, hR])
  clear hn hA hE hP hl hm hR
  go_enter_defers Tryz.func19, Tryz.ntmps19
  go_wp2_with (first | (go_at_call 49; refine (pdemand_ok 14 _).mono ?_; rintro e w9 ⟨rfl, rfl⟩) | (go_at_call 46; refine (punpack_any b n HN.out (by omega) A c _ (HA.out.next hb1)).mono ?_; rintro e w2 ⟨A3, c3, rfl, hvs, hb2⟩; rw [HL.out] at hvs; rw [HM8.out]; obtain ⟨a3, rfl, _, _⟩ := hvs.at (show l[0]? = some (l[0]'(by rw [← HM.out]; omega)) from List.getElem?_eq_getElem _)))
  have hsz12 : w.heap.size + 2 ≤ w2.heap.size := by have := hb2.size; simp at this; omega
  have hb02 : Below w.heap.size w w2 := hb1.trans (hb2.mono hb1.size)
  have hd2 := (hb2.block w.heap.size (by simp; omega)).trans hd1
  have hf2 := (hb2.block (w.heap.size + 1) (by simp)).trans hf1
  obtain ⟨X, hXe⟩ : ∃ X, w2.heap.size = X := ⟨_, rfl⟩
  obtain ⟨w3, hw3⟩ : ∃ w3, w2.alloc (.cells #[.slice (some a3) m c3, .int .i64 0] 71) = w3 := ⟨_, rfl⟩
  rw [hw3, hXe]
  have hb23 : Below w2.heap.size w2 w3 := by rw [← hw3]; exact below_lit w2 _ _
  have hk3 : KBox w3 X a3 m c3 0 := by rw [← hw3, ← hXe]; exact heap_alloc_new w2 _
  have hv3 : Vs w3 X l (some a3) c3 := by rw [← hXe]; exact hvs.below hb23
  have hd3 := (hb23.block w.heap.size (by omega)).trans hd2
  have hf3 := (hb23.block (w.heap.size + 1) (by omega)).trans hf2
  have hb03 : Below w.heap.size w w3 := hb02.trans (hb23.mono hb02.size)
  have hX3 := hk3.lt
  rw [hXe] at hsz12
  have hmc : m ≤ c3 := by have := hvs.len; have := HM.out; omega
  have hc3 := hvs.cap
  clear hb2 hb23 hd2 hf2 hw3 hXe hvs hb02 hb1 hd1 hf1
  refine (pdigits_any l m HM.out (by omega) (by omega) X a3 c3 w3 hk3 hv3 R HR.out).mono ?_
  rintro e w4 (⟨E', hRE, rfl, hg⟩ | ⟨out, i, A4, c4, hRo, rfl, hdg, him, hbs, hk4, hg⟩)
  · have hgx : getX b = .error E' := by rw [HX.out, hRE]; rfl
    have eE : E = E' := by rw [← HE.out, getE_x, hgx]; rfl
    have eP : p = [] := by rw [← HP.out, getL_x, hgx]; rfl
    subst eE eP
    clear hgx
    have hd4 := (hg.block w.heap.size (by omega) (by simp; omega)).trans hd3
    have hf4 := (hg.block (w.heap.size + 1) (by omega) (by simp; omega)).trans hf3
    have hb04 : Below w.heap.size w w4 := hb03.grown hg hb03.size (fun p hp => by cases hp; omega)
    go_wp2
    refine leaves_cons (f := 48) (args := #[.pointer (some ⟨w.heap.size, 0, none⟩), .pointer (some ⟨w.heap.size + 1, 0, none⟩)]) (by simp) (by simp [go_sem]) ?_
    refine (catch_told w.heap.size (w.heap.size + 1) (by omega) _ 0 E 30 31 _ hd4 hf4).mono ?_
    rintro e u' w'' ⟨rfl, rfl, hD, hF, hB⟩
    have hD0 := cell_of_row w'' w.heap.size 0 _ _ _ hD
    have hF0 := cell_of_row w'' (w.heap.size + 1) 0 _ _ _ hF
    show Leaves _ _ _ _ [] .returning _
    exact ⟨.tuple #[.slice none 0 0, .int .i64 E], by simp [results, Tryz.results19, go_sem, hD0, hF0], none, 0, rfl, bs_nil _ _, hb04.trans ((hB _ (Nat.le_refl _) (Nat.le_succ _)))⟩
  have hd4 := (hg.block w.heap.size (by omega) (by simp; omega)).trans hd3
  have hf4 := (hg.block (w.heap.size + 1) (by omega) (by simp; omega)).trans hf3
  have hb04 : Below w.heap.size w w4 := hb03.grown hg hb03.size (fun p hp => by cases hp; omega)
  have cD := cell_of_row w4 w.heap.size 0 _ _ _ hd4
  have zD := frozen_of_row w4 w.heap.size 0 _ _ hd4
  have cF := cell_of_row w4 (w.heap.size + 1) 0 _ _ _ hf4
  have zF := frozen_of_row w4 (w.heap.size + 1) 0 _ _ hf4
  have k0 := hk4.bits
  have k1 := hk4.at
  have hX4 := hk4.lt
  have hv4 := hv3.grown hX3 hg
  obtain ⟨D, hDe⟩ : ∃ D, w.heap.size = D := ⟨_, rfl⟩
  obtain ⟨k, hk⟩ : ∃ k, out.length = k := ⟨_, rfl⟩
  have HK := Lib.hid hk
  have n1 : ¬ D = X := by omega
  have n2 : ¬ X = D := by omega
  have n3 : ¬ D + 1 = X := by omega
  have n4 : ¬ X = D + 1 := by omega
  have n5 : ¬ D = D + 1 := by omega
  have n6 : ¬ D + 1 = D := by omega
  have hgx : getX b = getD b l (.ok (out, i)) := by rw [HX.out, hRo]
  rw [hk]
  by_cases h77 : 77 < k
  · have s1 : decide ((k : Int) ≤ 77) = false := decide_eq_false (by omega)
    have hgx2 : getX b = .error 21 := by rw [hgx, getD, if_pos (by rw [hk]; exact h77)]
    have eE : E = 21 := by rw [← HE.out, getE_x, hgx2]; rfl
    have eP : p = [] := by rw [← HP.out, getL_x, hgx2]; rfl
    subst eE eP
    clear hgx hgx2
    rw [hDe] at cD zD cF zF hd4 hf4 hb04
    rw [hDe]
    go_wp2_with (go_at_call 49; refine (pdemand_no 21 _).mono ?_; rintro e w9 ⟨rfl, rfl⟩)
    have hd5 := heap_setCell_same w4 D 0 _ _ (.slice A4 k c4) hd4
    have hf5 := (heap_setCell_other w4 ⟨D, 0, none⟩ (D + 1) (.slice A4 k c4) n6).trans hf4
    refine leaves_cons (f := 48) (args := #[.pointer (some ⟨D, 0, none⟩), .pointer (some ⟨D + 1, 0, none⟩)]) (by simp) (by simp [go_sem]) ?_
    refine (catch_told D (D + 1) (by omega) _ 0 21 30 31 _ hd5 hf5).mono ?_
    rintro e u' w'' ⟨rfl, rfl, hD, hF, hB⟩
    have hD0 := cell_of_row w'' D 0 _ _ _ hD
    have hF0 := cell_of_row w'' (D + 1) 0 _ _ _ hF
    show Leaves _ _ _ _ [] .returning _
    exact ⟨.tuple #[.slice none 0 0, .int .i64 21], by simp [results, Tryz.results19, go_sem, hD0, hF0], none, 0, rfl, bs_nil _ _, (by first | exact ((hb04.setCell (p := ⟨D, 0, none⟩) (Nat.le_refl _) _).trans (hB _ (Nat.le_refl _) (Nat.le_succ _))) | (rw [hDe]; exact ((hb04.setCell (p := ⟨D, 0, none⟩) (Nat.le_refl _) _).trans (hB _ (Nat.le_refl _) (Nat.le_succ _)))))⟩
  have s1 : decide ((k : Int) ≤ 77) = true := decide_eq_true (by omega)
  obtain ⟨w5, hw5⟩ : ∃ w5, w4.setCell ⟨D, 0, none⟩ (.slice A4 k c4) = w5 := ⟨_, rfl⟩
  rw [hDe] at cD zD cF zF hd4 hf4 hb04
  rw [hDe]
  have hd5 : w5.heap[D]? = some (.cells #[.slice A4 k c4] 30 (0, 0)) := by rw [← hw5]; exact heap_setCell_same w4 D 0 _ _ (.slice A4 k c4) hd4
  have hf5 : w5.heap[D + 1]? = some (.cells #[.int .i64 0] 31 (0, 0)) := by rw [← hw5]; exact (heap_setCell_other w4 ⟨D, 0, none⟩ (D + 1) (.slice A4 k c4) n6).trans hf4
  have hsz5 : w4.heap.size = w5.heap.size := by rw [← hw5]; simp
  have hV5 : Vs w5 X l (some a3) c3 := by rw [← hw5]; exact hv4.set hd4 (by simp) _
  have hX5 : X ≤ w5.heap.size := by omega
  have hbs5 : Bs w5 w5.heap.size out A4 c4 := by rw [← hsz5, ← hw5]; exact hbs.set hd4 (by simp) _
  have hb05' : Below D w w5 := by rw [← hw5]; exact hb04.setCell (p := ⟨D, 0, none⟩) (Nat.le_refl _) _
  have hb05 : Below w.heap.size w w5 := by rw [hDe]; exact hb05'
  have hs05 := hb05.size
  have hsD : D ≤ w5.heap.size := by omega
  have hic : i ≤ c3 := by omega
  have i0 : (0 : Int) ≤ (i : Int) := by omega
  have i1 : (i : Int) ≤ (c3 : Int) := by omega
  have HLT := Lib.hid (show i = (l.take i).length by rw [List.length_take, ← HM.out]; omega)
  obtain ⟨TT, hTT⟩ : ∃ TT, packL (l.take i) = TT := ⟨_, rfl⟩
  have HTT := Lib.hid hTT
  have HTL := Lib.hid (show (i + 7) / 8 = TT.length by rw [← hTT, packL_len, ← HLT.out])
  have c5D := cell_of_row w5 D 0 _ _ _ hd5
  have z5D := frozen_of_row w5 D 0 _ _ hd5
  have c5F := cell_of_row w5 (D + 1) 0 _ _ _ hf5
  have z5F := frozen_of_row w5 (D + 1) 0 _ _ hf5
  have k50 : w5.cell? ⟨X, 0, none⟩ = some (.slice (some a3) m c3) := by
    rw [← hw5, World.cell?_setCell_other]
    · exact k0
    · intro e; exact n1 (congrArg Addr.block e)
  have k51 : w5.cell? ⟨X, 1, none⟩ = some (.int .i64 (i : Int)) := by
    rw [← hw5, World.cell?_setCell_other]
    · exact k1
    · intro e; exact n1 (congrArg Addr.block e)
  by_cases hTb : ¬ TT = b
  · have hgx2 : getX b = .error 14 := by rw [hgx, getD, if_neg (by rw [hk]; exact h77), if_pos (by rw [hTT]; exact hTb)]
    have eE : E = 14 := by rw [← HE.out, getE_x, hgx2]; rfl
    have eP : p = [] := by rw [← HP.out, getL_x, hgx2]; rfl
    have eT : (b == TT) = false := by rw [beq_eq_false_iff_ne]; exact fun e => hTb e.symm
    subst eE eP
    clear hgx hgx2 hTT hTb
    go_wp2_with (go_at_call 49; refine (pdemand_ok 21 _).mono ?_; rintro e w9 ⟨rfl, rfl⟩)
    go_wp2_with (first | (go_at_call 47; refine (ppack_any (l.take i) i HLT.out (by omega) (some a3) c3 _ ((hV5.take i hic).more hX5)).mono ?_; rintro e w6 ⟨A6, c6, rfl, hb6s, hb6⟩; rw [HTT.out] at hb6s) | (go_at_call 51; refine (equal_any b TT n ((i + 7) / 8) HN.out HTL.out A A6 c c6 _ _ (HA.out.next (hb05.trans (hb6.mono hs05))).rd hb6s.rd (by omega) (by omega)).mono ?_; rintro e w7 ⟨rfl, hb7⟩) | (go_at_call 49; refine (pdemand_no 14 _).mono ?_; rintro e w8 ⟨rfl, rfl⟩))
    have hb57 := hb6.trans (hb7.mono hb6.size)
    have hd7 := (hb57.block D (by omega)).trans hd5
    have hf7 := (hb57.block (D + 1) (by omega)).trans hf5
    refine leaves_cons (f := 48) (args := #[.pointer (some ⟨D, 0, none⟩), .pointer (some ⟨D + 1, 0, none⟩)]) (by simp) (by simp [go_sem]) ?_
    refine (catch_told D (D + 1) (by omega) _ 0 14 30 31 _ hd7 hf7).mono ?_
    rintro e u' w'' ⟨rfl, rfl, hD, hF, hB⟩
    have hD0 := cell_of_row w'' D 0 _ _ _ hD
    have hF0 := cell_of_row w'' (D + 1) 0 _ _ _ hF
    show Leaves _ _ _ _ [] .returning _
    exact ⟨.tuple #[.slice none 0 0, .int .i64 14], by simp [results, Tryz.results19, go_sem, hD0, hF0], none, 0, rfl, bs_nil _ _, (by first | exact ((hb05'.trans (hb57.mono hsD)).trans (hB _ (Nat.le_refl _) (Nat.le_succ _))) | (rw [hDe]; exact ((hb05'.trans (hb57.mono hsD)).trans (hB _ (Nat.le_refl _) (Nat.le_succ _)))))⟩
  have hTb2 : TT = b := Decidable.not_not.1 hTb
  have hgx2 : getX b = .ok out := by rw [hgx, getD, if_neg (by rw [hk]; exact h77), if_neg (by rw [hTT]; exact hTb)]
  have eE : E = 0 := by rw [← HE.out, getE_x, hgx2]; rfl
  have eP : p = out := by rw [← HP.out, getL_x, hgx2]; rfl
  have eT : (b == TT) = true := by rw [beq_iff_eq]; exact hTb2.symm
  subst eE eP
  clear hgx hgx2 hTT hTb hTb2
  go_wp2_with (go_at_call 49; refine (pdemand_ok 21 _).mono ?_; rintro e w9 ⟨rfl, rfl⟩)
  go_wp2_with (first | (go_at_call 47; refine (ppack_any (l.take i) i HLT.out (by omega) (some a3) c3 _ ((hV5.take i hic).more hX5)).mono ?_; rintro e w6 ⟨A6, c6, rfl, hb6s, hb6⟩; rw [HTT.out] at hb6s) | (go_at_call 51; refine (equal_any b TT n ((i + 7) / 8) HN.out HTL.out A A6 c c6 _ _ (HA.out.next (hb05.trans (hb6.mono hs05))).rd hb6s.rd (by omega) (by omega)).mono ?_; rintro e w7 ⟨rfl, hb7⟩))
  have hb57 := hb6.trans (hb7.mono hb6.size)
  have hd7 := (hb57.block D (by omega)).trans hd5
  have hf7 := (hb57.block (D + 1) (by omega)).trans hf5
  have hbs7 := hbs5.next hb57
  have hb07 := hb05'.trans (hb57.mono hsD)
  have c7D := cell_of_row w7 D 0 _ _ _ hd7
  have z7D := frozen_of_row w7 D 0 _ _ hd7
  have c7F := cell_of_row w7 (D + 1) 0 _ _ _ hf7
  have z7F := frozen_of_row w7 (D + 1) 0 _ _ hf7
  clear k50 k51 c5D z5D c5F z5F hd5 hf5 hb57 hb6 hb7
  go_wp2_with (go_at_call 49; refine (pdemand_ok 14 _).mono ?_; rintro e w8 ⟨rfl, rfl⟩)
  refine leaves_cons (f := 48) (args := #[.pointer (some ⟨D, 0, none⟩), .pointer (some ⟨D + 1, 0, none⟩)]) (by simp) (by simp [go_sem]) ?_
  refine (catch_idle _ _ _).mono ?_
  rintro e u' w'' ⟨rfl, rfl, rfl⟩
  show Leaves _ _ _ _ [] .returning _
  have hD9 := heap_setCell_same w8 D 0 _ _ (.slice A4 k c4) hd7
  have hF9 := (heap_setCell_other w8 ⟨D, 0, none⟩ (D + 1) (.slice A4 k c4) n6).trans hf7
  have hD10 := (heap_setCell_other _ ⟨D + 1, 0, none⟩ D (.int .i64 0) n5).trans hD9
  have hF10 := heap_setCell_same _ (D + 1) 0 _ _ (.int .i64 0) hF9
  have qD := cell_of_row _ D 0 _ _ _ hD10
  have qF := cell_of_row _ (D + 1) 0 _ _ _ hF10
  have hbs8 := hbs7.set hd7 (by simp) (.slice A4 k c4)
  have hbs9 := hbs8.set hF9 (by simp) (.int .i64 0)
  refine ⟨.tuple #[.slice A4 k c4, .int .i64 0], ?_, A4, c4, by rw [HK.out], hbs9.more (by simp), ?_⟩
  · simp only [Array.setIfInBounds, List.size_toArray, List.length_cons, List.length_nil] at qD qF
    simp [results, Tryz.results19, go_sem, qD, qF]
  · rw [hDe]
    exact (hb07.setCell (p := ⟨D, 0, none⟩) (Nat.le_refl _) _).setCell (p := ⟨D + 1, 0, none⟩) (Nat.le_succ _) _
end Go.Proofs.YtpniolinndlepaaGreatDoor
