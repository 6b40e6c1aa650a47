/-
  Contract for the landed digits: what is read, or with what the reader gives up. Conditions: the reader lies in a box of its own, behind its bits, at their beginning.
-/
import Derived.Test.YtjlcaobffhihhaaTrackPRead
import Derived.Test.YtjlcaobffhihhaaTrackRefGet
import Derived.WalkMore
namespace Go.Proofs.Ytjlcaobffhihhaa
set_option linter.unusedVariables false
open Go.ChangeShapes Go.WideShapes Go.ChangeAt Go.RowKit

/-- The digits and the place behind the track, or what is wrong. -/
def endX (l : List Bool) : Except Int (List Nat × Nat) → Except Int (List Nat × Nat)
  | .error e => .error e
  | .ok (out, i) => if l.length < i + 5 then .error 5 else if ones5 (chAt l i) % 2 = 0 then .error 3 else if chAt l i % 16 ≠ xorL (putVals out) then .error 6 else .ok (out, i + 5)
def digX (l : List Bool) : Except Int (List Nat × Nat) := if chAt l 0 ≠ 11 then .error 4 else endX l (scanL l l.length 5 [])
theorem end_end {l : List Bool} {out : List Nat} {i : Nat} (h : l.length < i + 5) : endX l (.ok (out, i)) = .error 5 := by rw [endX, if_pos h]
theorem end_par {l : List Bool} {out : List Nat} {i : Nat} (h : i + 5 ≤ l.length) (h1 : ones5 (chAt l i) % 2 = 0) : endX l (.ok (out, i)) = .error 3 := by rw [endX, if_neg (by omega), if_pos h1]
theorem end_sum {l : List Bool} {out : List Nat} {i : Nat} (h : i + 5 ≤ l.length) (h1 : ¬ ones5 (chAt l i) % 2 = 0) (h2 : chAt l i % 16 ≠ xorL (putVals out)) : endX l (.ok (out, i)) = .error 6 := by rw [endX, if_neg (by omega), if_neg h1, if_pos h2]
theorem end_ok {l : List Bool} {out : List Nat} {i : Nat} (h : i + 5 ≤ l.length) (h1 : ¬ ones5 (chAt l i) % 2 = 0) (h2 : chAt l i % 16 = xorL (putVals out)) : endX l (.ok (out, i)) = .ok (out, i + 5) := by rw [endX, if_neg (by omega), if_neg h1, if_neg (by rw [h2]; exact fun h => h rfl)]
theorem zs_own {w : World} {base n c : Nat} {A : Option Addr} {l : List Int} (h : w.ownsRow base 3 1 (.slice A n c) n (I64 l)) : Zs w w.heap.size l A c := by
  obtain ⟨A', c', e, _, hz⟩ := zs_of_own h
  cases e
  exact hz
theorem bs_own {w : World} {base n c : Nat} {A : Option Addr} {s : List Nat} (h : w.ownsRow base 5 1 (.slice A n c) n (U8 s)) (hs : ∀ x ∈ s, x < 256) : Bs w w.heap.size s A c := by
  obtain ⟨A', c', e, hz⟩ := bs_of_own h hs
  cases e
  exact hz
def lenOf : Value → Nat
  | .slice _ n _ => n
  | _ => 0
/-- A row of the call's own is kept while only the reader's box turns. -/
theorem own_box {w w' : World} {base X n : Nat} {e : TypeId} {v : Value} {xs : List Value} (h : w.ownsRow base e 1 v n xs) (hX : X < base) (hg : w.grownBy w' (some X)) : w'.ownsRow base e 1 v n xs := by
  refine h.kept hg ?_
  cases hv : v.ownBlock with
  | none => exact .inl rfl
  | some g =>
    right
    have := own_ge h hv
    intro e
    cases e
    omega
theorem own_grown {w w1 w2 : World} {row : Option Nat} {X : Nat} (h : w.grownBy w1 (some X)) (hg : w1.grownBy w2 row) (hr : ∀ p, row = some p → w.heap.size ≤ p) : w.grownBy w2 (some X) :=
  ⟨hg.os.trans h.os, hg.tape.trans h.tape, hg.output.trans h.output, Nat.le_trans h.size hg.size, fun k hk hne => (hg.block k (Nat.lt_of_lt_of_le hk h.size) (fun e => by have := hr k e.symm; omega)).trans (h.block k hk hne)⟩
set_option maxRecDepth 100000 in
set_option maxHeartbeats 1600000 in
theorem pdigits_any (l : List Bool) (m : Nat) (hm : m = l.length) (hm2 : m ≤ 10000) (hm3 : 15 ≤ m) (X : Nat) (a : Addr) (c : Nat) (w : World) (hK : KBox w X a m c 0) (hV : Vs w X l (some a) c) (R : Except Int (List Nat × Nat)) (hR : digX l = R) : Calls Try.prog 27 #[.pointer (some ⟨X, 0, none⟩)] w fun e w' => (∃ E, R = .error E ∧ e = .panicked (told E) ∧ w.grownBy w' (some X)) ∨ (∃ out i A' c', R = .ok (out, i) ∧ e = .returned (.slice A' out.length c') ∧ digitsOk out = true ∧ i ≤ m ∧ Bs w' w'.heap.size out A' c' ∧ KBox w' X a m c i ∧ w.grownBy w' (some X)) := by
  obtain ⟨i0, hi, hz0, hz1, hz2⟩ := info_parts infoInt
  obtain ⟨j0, hj, hy0, hy1, hy2⟩ := info_parts infoU8
  have HM := Lib.hid hm
  have HK := Lib.hid hK
  have HV := Lib.hid hV
  have HR := Lib.hid hR
  have hX := hK.lt
  obtain ⟨z, hz⟩ : ∃ z, chAt l 0 = z := ⟨_, rfl⟩
  have HZ := Lib.hid hz
  clear hm hK hV hR hz
  by_cases h11 : ¬ z = 11
  · have z1 : ((z : Int) == 11) = false := by rw [beq_eq_false_iff_ne]; omega
    have z2 : decide ((z : Int) = 11) = false := decide_eq_false (by omega)
    have hR4 : R = .error 4 := by rw [← HR.out, digX, HZ.out, if_pos (by omega)]
    go_enter Try.func27, Try.ntmps27
    go_wp2
    go_step3
    go_wp2_with (first | (go_at_call 36; refine (pcharacter_ok l m HM.out hm2 0 X a c _ HK.out HV.out (by omega) z HZ.out).mono ?_; rintro e w2 ⟨rfl, hk2, hg2⟩) | (go_at_call 34; refine (pcharof_any 11 11 (by decide) (by decide) _).mono ?_; rintro e w3 ⟨rfl, hb3⟩) | (go_at_call 26; refine (pdemand_no 4 _).mono ?_; rintro e w4 ⟨rfl, rfl⟩))
    exact ⟨rfl, .inl ⟨4, hR4, rfl, grown_trans hg2 (grown_below _ hb3)⟩⟩
  have h11 : z = 11 := by omega
  subst h11
  obtain ⟨S, hS⟩ : ∃ S, scanL l l.length 5 [] = S := ⟨_, rfl⟩
  have HS := Lib.hid hS
  have HRS := Lib.hid (show R = endX l S by rw [← HR.out, digX, HZ.out, if_neg (by decide), hS])
  clear hS HR
  have z1 : ((11 : Int) == 11) = true := by decide
  go_enter Try.func27, Try.ntmps27
  go_wp2
  go_step3
  go_wp2_with (first | (go_at_call 36; refine (pcharacter_ok l m HM.out hm2 0 X a c _ HK.out HV.out (by omega) 11 HZ.out).mono ?_; rintro e w2 ⟨rfl, hk2, hg2⟩) | (go_at_call 34; refine (pcharof_any 11 11 (by decide) (by decide) _).mono ?_; rintro e w3 ⟨rfl, hb3⟩) | (go_at_call 26; refine (pdemand_ok 4 _).mono ?_; rintro e w4 ⟨rfl, rfl⟩))
  have hw4 := grown_trans hg2 (grown_below (some X) hb3)
  have hk3 := hk2.next hb3
  obtain ⟨B, hB⟩ : ∃ B, w.heap.size = B := ⟨_, rfl⟩
  have HBW := Lib.hid hB
  have hXB : X < B := by rw [← hB]; exact hX
  clear hB
  go_step3
  go_wp2
  go_loopw [3, 4] (fun v d wr => ∃ (i : Nat) (out : List Nat) (f : Nat), lenOf d = out.length ∧ i = 5 * (out.length + 1) ∧ i ≤ m ∧ wr.ownsRow B 5 1 d out.length (U8 out) ∧ digitsOk out = true ∧ wr.ownsRow B 3 1 v (out.length + 1) (I64 (NZ (11 :: out))) ∧ l.length + 5 ≤ f + i ∧ scanL l f i out = S ∧ KBox wr X a m c i ∧ w.grownBy wr (some X)) (fun _ d _ => m + 10 - lenOf d)
  case atStart =>
    have hsB : B ≤ w4.heap.size := by have := hw4.size; have := HBW.out; omega
    have hbA := below_lit w4 #[.int .i64 11] 3
    have hbB := hbA.trans ((below_lit (w4.alloc (.cells #[.int .i64 11] 3)) #[] 5).mono hbA.size)
    refine ⟨5, [], l.length, rfl, rfl, by omega, ?_, rfl, ?_, by omega, HS.out, hk3.next hbB, grown_trans hw4 (grown_below _ hbB)⟩
    · rw [show w4.heap.size + 1 = (w4.alloc (.cells #[.int .i64 11] 3)).heap.size from (World.size_alloc _ _).symm]
      exact World.ownsRow_lit (w4.alloc (.cells #[.int .i64 11] 3)) (size := 1) #[] 0 (Nat.le_trans hsB hbA.size) (by decide) (by rfl)
    · exact (World.ownsRow_lit w4 (size := 1) #[.int .i64 11] 1 hsB (by decide) (by rfl)).alloc _
  case round =>
    obtain ⟨i, out, f, hlen, hi5, him, hob, hdg, hov, hf, hsc, hk, hg⟩ := hrel
    have HOB := Lib.hid hob
    have HOV := Lib.hid hov
    have HDG := Lib.hid hdg
    have HF := Lib.hid hf
    have HSC := Lib.hid hsc
    have HKr := Lib.hid hk
    have HG := Lib.hid hg
    have HVr := Lib.hid (HV.out.grown hX hg)
    have hszg := hg.size
    have HLEN := Lib.hid hlen
    obtain ⟨k, hk⟩ : ∃ k, out.length = k := ⟨_, rfl⟩
    rw [hk] at hi5 HOV
    have HKL := Lib.hid hk
    have HI := Lib.hid hi5
    have hkb : k ≤ 2000 := by omega
    clear hob hov hdg hf hsc hg hlen hk hi5
    by_cases hend : m < i + 5
    · have hS5 : S = .error 5 := by rw [← HSC.out]; exact scan_end (by rw [← HM.out]; exact hend)
      have hR5 : R = .error 5 := by rw [HRS.out, hS5]; rfl
      have HR5 := Lib.hid hR5
      clear hS5 hR5
      go_wp2_with (go_at_call 37; refine (prvalue_end l m HM.out hm2 i X a c _ HKr.out HVr.out him hend).mono ?_; rintro e w5 ⟨rfl, hg5⟩)
      exact ⟨rfl, .inl ⟨5, HR5.out, rfl, grown_trans HG.out hg5⟩⟩
    have hie : i + 5 ≤ m := by omega
    have hch32 := chAt_lt l i
    obtain ⟨ch, hch⟩ : ∃ ch, chAt l i = ch := ⟨_, rfl⟩
    rw [hch] at hch32
    have HCH := Lib.hid hch
    have HIE := Lib.hid (show i + 5 ≤ l.length by rw [← HM.out]; exact hie)
    clear hch hend
    by_cases hev : ones5 ch % 2 = 0
    · have HR5 := Lib.hid (show R = .error 3 by rw [HRS.out, ← HSC.out, scan_par HF.out HIE.out (by rw [HCH.out]; exact hev)]; rfl)
      have HEV := Lib.hid hev
      clear hev
      go_wp2_with (go_at_call 37; refine (prvalue_par l m HM.out hm2 i X a c _ HKr.out HVr.out hie ch HCH.out HEV.out).mono ?_; rintro e w5 ⟨rfl, hg5⟩)
      exact ⟨rfl, .inl ⟨3, HR5.out, rfl, grown_trans HG.out hg5⟩⟩
    have HEV := Lib.hid hev
    have HEV2 := Lib.hid (show ¬ ones5 (chAt l i) % 2 = 0 by rw [HCH.out]; exact hev)
    obtain ⟨d, hd⟩ : ∃ d, ch % 16 = d := ⟨_, rfl⟩
    have hd16 : d < 16 := by omega
    have HDD := Lib.hid hd
    have HD := Lib.hid (show chAt l i % 16 = d by rw [HCH.out]; exact hd)
    clear hev hd hch32
    have hm1 : k + 1 + 1 ≤ maxLen := by unfold maxLen; omega
    have hm2' : (k + 1 + 1) * 8 ≤ 140737488355328 := by omega
    by_cases h9 : d ≤ 9
    · have s1 : ¬ ((9 : Int) < (d : Int)) := by omega
      have s2 : ((d : Int) != 15) = true := by rw [bne_iff_ne]; omega
      have s3 : ((d : Int) == 15) = false := by rw [beq_eq_false_iff_ne]; omega
      have s4 : ¬ ((d : Int) = 15) := by omega
      have hwa : IntKind.u8.wrap (d : Int) = (d : Int) := by simp [IntKind.wrap, IntKind.signed, IntKind.bits]; omega
      have hm3' : out.length + 1 ≤ maxLen := by rw [HKL.out]; unfold maxLen; omega
      have hm4' : (out.length + 1) * 1 ≤ 140737488355328 := by rw [HKL.out]; omega
      go_wp2_with (first | (go_at_call 37; refine (prvalue_ok l m HM.out hm2 i X a c _ HKr.out HVr.out hie ch HCH.out HEV.out d HDD.out).mono ?_; rintro e w5 ⟨rfl, hk5, hg5⟩) | (at_builtin; refine wpList_append_own _ rfl (.tmp 15) (.tmp 17) 38 rfl B 3 i0 (.int .i64 0) 1 8 Try.underlying38 hi hz0 hz1 hz2 rfl (by decide) _ (k + 1) (I64 (NZ (11 :: out))) rfl ((own_box HOV.out hXB hg5).alloc _) ⟨_, 0, none⟩ 1 1 (I64 [(d : Int)]) rfl rfl (int_lit _ _) (I64_one _) hm1 hm2' (by have := hg5.size; have := HBW.out; simp; omega) ?_))
      intro v8 w8 hown8 hg8 _
      have hsz5 := hg5.size
      have HG5 := Lib.hid (grown_trans HG.out hg5)
      have HOV8 := Lib.hid (show w8.ownsRow B 3 1 v8 (k + 1 + 1) (I64 (NZ (11 :: (out ++ [d])))) by
        rw [nz_snoc, I64_append]
        exact hown8)
      have HOB8 := Lib.hid (own_kept hg8 ((own_box HOB.out hXB hg5).alloc _) ((own_box HOV.out hXB hg5).alloc _) (by decide))
      have HG8 := Lib.hid (own_grown (grown_trans HG5.out (World.grownBy_alloc _ _ _)) hg8 (fun p hp => by rw [HBW.out]; exact own_ge HOV.out hp))
      have HK8 := Lib.hid ((hk5.next (below_lit _ _ _)).grown hg8 (fun e => by have := own_ge HOV.out e.symm; omega))
      clear hown8 hg8 hg5 hk5 HKr HVr HOV HOB HG HG5
      have hsz8 := HG8.out.size
      go_wp2_with (at_builtin; refine wpList_append_own _ rfl (.tmp 26) (.tmp 29) 22 rfl B 5 j0 (.int .u8 0) 1 1 Try.underlying22 hj hy0 hy1 hy2 rfl (by decide) _ out.length (U8 out) rfl (HOB8.out.alloc _) ⟨_, 0, none⟩ 1 1 (U8 [d]) rfl rfl ?rd (U8_one _) hm3' hm4' (by have := HBW.out; simp; omega) ?_)
      case rd =>
        intro q u hu
        first | exact hu | exact u8_lit _ d q u hu | (simpa [U8] using hu) | (simpa [U8, hwa] using hu)
      intro v9 w9 hown9 hg9 _
      have HOB9 := Lib.hid (show w9.ownsRow B 5 1 v9 (out ++ [d]).length (U8 (out ++ [d])) by
        rw [U8, List.map_append, List.length_append]
        exact hown9)
      have HOV9 := Lib.hid (own_kept hg9 (HOV8.out.alloc _) (HOB8.out.alloc _) (by decide))
      have HG9 := Lib.hid (own_grown (grown_trans HG8.out (World.grownBy_alloc _ _ _)) hg9 (fun p hp => by rw [HBW.out]; exact own_ge HOB8.out hp))
      have HK9 := Lib.hid ((HK8.out.next (below_lit _ _ _)).grown hg9 (fun e => by have := own_ge HOB8.out e.symm; omega))
      have HL9 := Lib.hid (show lenOf v9 = (out ++ [d]).length by
        obtain ⟨_, _, e, _⟩ := own_shape HOB9.out
        rw [e]; rfl)
      clear hown9 hg9 HOV8 HOB8 HG8 HK8
      go_wp2
      go_roundw
      case rel =>
        obtain ⟨g, hg1, hg2⟩ := scan_more (out := out) HF.out HIE.out HEV2.out (by rw [HD.out]; omega)
        exact ⟨i + 5, out ++ [d], g, HL9.out, by rw [List.length_append, HKL.out, HI.out]; simp; omega, hie, HOB9.out, digits_snoc HDG.out h9, by rw [List.length_append, HKL.out]; exact HOV9.out, hg1, by rw [← HSC.out, hg2, HD.out], HK9.out, HG9.out⟩
      case measure => rw [HL9.out, HLEN.out, List.length_append, HKL.out]; have := HI.out; simp; omega
    by_cases h15 : ¬ d = 15
    · have s1 : (9 : Int) < (d : Int) := by omega
      have s2 : ((d : Int) != 15) = true := by rw [bne_iff_ne]; omega
      have s3 : ((d : Int) == 15) = false := by rw [beq_eq_false_iff_ne]; omega
      have s4 : ¬ ((d : Int) = 15) := by omega
      have HR7 := Lib.hid (show R = .error 7 by rw [HRS.out, ← HSC.out, scan_dig HF.out HIE.out HEV2.out (by rw [HD.out]; omega) (by rw [HD.out]; exact h15)]; rfl)
      go_wp2_with (first | (go_at_call 37; refine (prvalue_ok l m HM.out hm2 i X a c _ HKr.out HVr.out hie ch HCH.out HEV.out d HDD.out).mono ?_; rintro e w5 ⟨rfl, hk5, hg5⟩) | (at_builtin; refine wpList_append_own _ rfl (.tmp 15) (.tmp 17) 38 rfl B 3 i0 (.int .i64 0) 1 8 Try.underlying38 hi hz0 hz1 hz2 rfl (by decide) _ (k + 1) (I64 (NZ (11 :: out))) rfl ((own_box HOV.out hXB hg5).alloc _) ⟨_, 0, none⟩ 1 1 (I64 [(d : Int)]) rfl rfl (int_lit _ _) (I64_one _) hm1 hm2' (by have := hg5.size; have := HBW.out; simp; omega) ?_))
      intro v8 w8 hown8 hg8 _
      have hsz5 := hg5.size
      have HG5 := Lib.hid (grown_trans HG.out hg5)
      have HOV8 := Lib.hid (show w8.ownsRow B 3 1 v8 (k + 1 + 1) (I64 (NZ (11 :: (out ++ [d])))) by
        rw [nz_snoc, I64_append]
        exact hown8)
      have HOB8 := Lib.hid (own_kept hg8 ((own_box HOB.out hXB hg5).alloc _) ((own_box HOV.out hXB hg5).alloc _) (by decide))
      have HG8 := Lib.hid (own_grown (grown_trans HG5.out (World.grownBy_alloc _ _ _)) hg8 (fun p hp => by rw [HBW.out]; exact own_ge HOV.out hp))
      have HK8 := Lib.hid ((hk5.next (below_lit _ _ _)).grown hg8 (fun e => by have := own_ge HOV.out e.symm; omega))
      clear hown8 hg8 hg5 hk5 HKr HVr HOV HOB HG HG5
      go_wp2
      exact ⟨rfl, .inl ⟨7, HR7.out, rfl, HG8.out⟩⟩
    have h15 : d = 15 := by omega
    subst h15
    have hm5 : ((15 : Nat) : Int) = 15 := rfl
    have HS15 := Lib.hid (show S = .ok (out, i + 5) by rw [← HSC.out]; exact scan_15 HF.out HIE.out HEV2.out HD.out)
    go_wp2_with (first | (go_at_call 37; refine (prvalue_ok l m HM.out hm2 i X a c _ HKr.out HVr.out hie ch HCH.out HEV.out 15 HDD.out).mono ?_; rintro e w5 ⟨rfl, hk5, hg5⟩; rw [hm5]) | (at_builtin; refine wpList_append_own _ rfl (.tmp 15) (.tmp 17) 38 rfl B 3 i0 (.int .i64 0) 1 8 Try.underlying38 hi hz0 hz1 hz2 rfl (by decide) _ (k + 1) (I64 (NZ (11 :: out))) rfl ((own_box HOV.out hXB hg5).alloc _) ⟨_, 0, none⟩ 1 1 (I64 [15]) rfl rfl (int_lit _ _) (I64_one _) hm1 hm2' (by have := hg5.size; have := HBW.out; simp; omega) ?_))
    intro v8 w8 hown8 hg8 _
    have hsz5 := hg5.size
    have HG5 := Lib.hid (grown_trans HG.out hg5)
    have HOV8 := Lib.hid (show w8.ownsRow B 3 1 v8 (k + 1 + 1) (I64 (NZ (putVals out))) by
      rw [nz_pv, I64_append]
      exact hown8)
    have HOB8 := Lib.hid (own_kept hg8 ((own_box HOB.out hXB hg5).alloc _) ((own_box HOV.out hXB hg5).alloc _) (by decide))
    have HG8 := Lib.hid (own_grown (grown_trans HG5.out (World.grownBy_alloc _ _ _)) hg8 (fun p hp => by rw [HBW.out]; exact own_ge HOV.out hp))
    have HK8 := Lib.hid ((hk5.next (below_lit _ _ _)).grown hg8 (fun e => by have := own_ge HOV.out e.symm; omega))
    clear hown8 hg8 hg5 hk5 HKr HVr HOV HOB HG HG5
    obtain ⟨t, ht⟩ : ∃ t, i + 5 = t := ⟨_, rfl⟩
    have HRT := Lib.hid (show R = endX l (.ok (out, t)) by rw [HRS.out, HS15.out, ht])
    rw [ht] at HK8
    have hmt : t ≤ m := by omega
    obtain ⟨A8, c8, hv8, hl8, _⟩ := zs_of_own HOV8.out
    subst hv8
    obtain ⟨Ao, co, hvo, _⟩ := bs_of_own HOB8.out (fun x hx => by have := (List.all_eq_true.1 HDG.out) x hx; simp at this; omega)
    subst hvo
    have HLP := Lib.hid (show k + 1 + 1 = (putVals out).length by rw [hl8, NZ_len])
    have HV8 := Lib.hid (HV.out.grown hX HG8.out)
    clear hl8 ht HCH HIE HEV HEV2 HDD HD HS15 HRS HS HSC hd16
    by_cases hend : m < t + 5
    · have HR5 := Lib.hid (show R = .error 5 by rw [HRT.out]; exact end_end (by rw [← HM.out]; exact hend))
      go_wp2_with (go_at_call 37; refine (prvalue_end l m HM.out hm2 t X a c _ HK8.out HV8.out hmt hend).mono ?_; rintro e w9 ⟨rfl, hg9⟩)
      exact ⟨rfl, .inl ⟨5, HR5.out, rfl, grown_trans HG8.out hg9⟩⟩
    have hte : t + 5 ≤ m := by omega
    have hch32 := chAt_lt l t
    obtain ⟨c2, hc2⟩ : ∃ c2, chAt l t = c2 := ⟨_, rfl⟩
    rw [hc2] at hch32
    have HC2 := Lib.hid hc2
    have HTE := Lib.hid (show t + 5 ≤ l.length by rw [← HM.out]; exact hte)
    clear hc2 hend
    by_cases hev : ones5 c2 % 2 = 0
    · have HR5 := Lib.hid (show R = .error 3 by rw [HRT.out]; exact end_par HTE.out (by rw [HC2.out]; exact hev))
      have HEV := Lib.hid hev
      clear hev
      go_wp2_with (go_at_call 37; refine (prvalue_par l m HM.out hm2 t X a c _ HK8.out HV8.out hte c2 HC2.out HEV.out).mono ?_; rintro e w9 ⟨rfl, hg9⟩)
      exact ⟨rfl, .inl ⟨3, HR5.out, rfl, grown_trans HG8.out hg9⟩⟩
    have HEV3 := Lib.hid hev
    have HEV4 := Lib.hid (show ¬ ones5 (chAt l t) % 2 = 0 by rw [HC2.out]; exact hev)
    obtain ⟨d2, hd2⟩ : ∃ d2, c2 % 16 = d2 := ⟨_, rfl⟩
    have HD2 := Lib.hid hd2
    have HD3 := Lib.hid (show chAt l t % 16 = d2 by rw [HC2.out]; exact hd2)
    obtain ⟨x, hx⟩ : ∃ x, xorL (putVals out) = x := ⟨_, rfl⟩
    have HXR := Lib.hid hx
    clear hev hd2 hch32 hx
    by_cases hdx : ¬ d2 = x
    · have s1 : ((d2 : Int) == (x : Int)) = false := by rw [beq_eq_false_iff_ne]; omega
      have s2 : decide ((d2 : Int) = (x : Int)) = false := decide_eq_false (by omega)
      have HR5 := Lib.hid (show R = .error 6 by rw [HRT.out]; exact end_sum HTE.out HEV4.out (by rw [HD3.out, HXR.out]; exact hdx))
      go_wp2_with (first | (go_at_call 37; refine (prvalue_ok l m HM.out hm2 t X a c _ HK8.out HV8.out hte c2 HC2.out HEV3.out d2 HD2.out).mono ?_; rintro e w9 ⟨rfl, hk9, hg9⟩) | (go_at_call 24; refine (psumof_any (putVals out) (pv_lt HDG.out) (k + 1 + 1) HLP.out A8 c8 x HXR.out _ (zs_own (own_box HOV8.out hXB hg9))).mono ?_; rintro e w10 ⟨rfl, rfl⟩) | (go_at_call 26; refine (pdemand_no 6 _).mono ?_; rintro e w11 ⟨rfl, rfl⟩))
      exact ⟨rfl, .inl ⟨6, HR5.out, rfl, grown_trans HG8.out hg9⟩⟩
    have hdx2 : d2 = x := by omega
    subst hdx2
    have HR5 := Lib.hid (show R = .ok (out, t + 5) by rw [HRT.out]; exact end_ok HTE.out HEV4.out (by rw [HD3.out, HXR.out]))
    go_wp2_with (first | (go_at_call 37; refine (prvalue_ok l m HM.out hm2 t X a c _ HK8.out HV8.out hte c2 HC2.out HEV3.out d2 HD2.out).mono ?_; rintro e w9 ⟨rfl, hk9, hg9⟩) | (go_at_call 24; refine (psumof_any (putVals out) (pv_lt HDG.out) (k + 1 + 1) HLP.out A8 c8 d2 HXR.out _ (zs_own (own_box HOV8.out hXB hg9))).mono ?_; rintro e w10 ⟨rfl, rfl⟩) | (go_at_call 26; refine (pdemand_ok 6 _).mono ?_; rintro e w11 ⟨rfl, rfl⟩))
    try rw [Exit.noGoto_ret]
    go_ret
    exact .inr ⟨out, t + 5, Ao, co, HR5.out, rfl, HDG.out, hte, bs_own (own_box HOB8.out hXB hg9) (fun x hx => by have := (List.all_eq_true.1 HDG.out) x hx; simp at this; omega), hk9, grown_trans HG8.out hg9⟩
end Go.Proofs.Ytjlcaobffhihhaa
