/-
  Contract for the reference's Add: the ring with a key more, or the document's errors. Conditions: the slice reads as keys, and the key's secret as bytes.
-/
import Derived.Test.YtedkgkokfaadfaaRingAddMath
import Derived.Test.YtedkgkokfaadfaaRingFind
namespace Go.Proofs.Ytedkgkokfaadfaa
set_option linter.unusedVariables false
open Go.ChangeShapes Go.WideShapes Go.ChangeAt Go.RowKit

/-- What has been gathered behind k rounds. -/
def GathK (wr : World) (base : Nat) (M : List KV) (v : Value) : Prop := ∃ g cap m, M.length = m ∧ v = .slice (some ⟨g, 0, none⟩) m cap ∧ wr.ownsRow base 26 4 (.slice (some ⟨g, 0, none⟩) m cap) m (flatK M)
theorem refright_named (k : K) (n : Nat) (hn : n = k.sec.length) (b : Bool) (hb : k.right = b) (A : Option Addr) (c : Nat) (w : World) (h1 : n ≤ 9223372036854775807) :
    Calls Try.prog 26 #[.agg #[.int .i64 k.id, .slice A n c, .int .i64 k.frm, .int .i64 k.til]] w fun e w' => e = .returned (.bool b) ∧ Below w.heap.size w w' := refright_k k n hn b hb A c w h1

set_option maxRecDepth 20000 in
set_option maxHeartbeats 800000 in
theorem refadd_any (l : List K) (kv : KV) (n : Nat) (hn : n = l.length) (A : Option Addr) (c : Nat) (w : World) (hA : Ks w w.heap.size A l) (hK : Bs w w.heap.size kv.k.sec kv.S kv.c) (h1 : n ≤ 9223372036854775807)
    (R : List K) (E : Int) (m : Nat) (hR : R = addK l kv.k) (hE : E = addE l kv.k) (hm : m = R.length) :
    Calls Try.prog 18 #[.slice A n c, .agg #[.int .i64 kv.k.id, .slice kv.S kv.k.sec.length kv.c, .int .i64 kv.k.frm, .int .i64 kv.k.til]] w fun e w' => ∃ A' c', e = .returned (.tuple #[.slice A' m c', .int .i64 E]) ∧ Ks w' w'.heap.size A' R ∧ Below w.heap.size w w' := by
  obtain ⟨i0, hif, hz0, hz1, hz2⟩ := info_parts infoKey3
  obtain ⟨Lv, hLv, hLr, hLb⟩ := kvs_of_ks hA
  have HN := Lib.hid hn
  have HR := Lib.hid hR
  have HE := Lib.hid hE
  have HM := Lib.hid hm
  have HLV := Lib.hid hLv
  have HLR := Lib.hid hLr
  have HLB := Lib.hid hLb
  have HK := Lib.hid hK
  have HKL := Lib.hid (Nat.le_trans hK.len hK.cap)
  have HA1 := Lib.hid (hA.next (below_lit w #[.int .i64 kv.k.id, .slice kv.S kv.k.sec.length kv.c, .int .i64 kv.k.frm, .int .i64 kv.k.til] 26))
  clear hn hR hE hm hLv hLr hLb hK hA
  cases his : isR l with
  | false =>
    have hr := Lib.hid <| show R = [] from by rw [HR.out, addK, his]; rfl
    have he : E = 1 := by rw [HE.out, addE, his]; rfl
    have hm : m = 0 := by rw [HM.out, hr.out]; rfl
    subst he hm
    go_enter Try.func18, Try.ntmps18
    go_wp2_with fail
    refine (refis_named l n HN.out false his A c _ HA1.out h1).mono ?_
    rintro e w1 ⟨rfl, hb1⟩
    go_wp2_with fail
    go_ret2
    exact ⟨none, 0, rfl, by rw [hr.out]; intro i hi; simp at hi, below_after _ _ hb1⟩
  | true =>
    cases hrt : kv.k.right with
    | false =>
      have hr := Lib.hid <| show R = [] from by rw [HR.out, addK, his, hrt]; rfl
      have he : E = 1 := by rw [HE.out, addE, his, hrt]; rfl
      have hm : m = 0 := by rw [HM.out, hr.out]; rfl
      subst he hm
      go_enter Try.func18, Try.ntmps18
      go_wp2_with fail
      refine (refis_named l n HN.out true his A c _ HA1.out h1).mono ?_
      rintro e w1 ⟨rfl, hb1⟩
      have hbx : w1.heap[w.heap.size]? = some (.cells #[.int .i64 kv.k.id, .slice kv.S kv.k.sec.length kv.c, .int .i64 kv.k.frm, .int .i64 kv.k.til] 26 (0, 0)) := (hb1.block _ (by simp)).trans (heap_alloc_new w _)
      have hx0 : w1.cell? ⟨w.heap.size, 0, none⟩ = some (.int .i64 kv.k.id) := by rw [cell_of_row w1 _ 0 _ _ (0, 0) hbx]; rfl
      have hx1 : w1.cell? ⟨w.heap.size, 1, none⟩ = some (.slice kv.S kv.k.sec.length kv.c) := by rw [cell_of_row w1 _ 1 _ _ (0, 0) hbx]; rfl
      have hx2 : w1.cell? ⟨w.heap.size, 2, none⟩ = some (.int .i64 kv.k.frm) := by rw [cell_of_row w1 _ 2 _ _ (0, 0) hbx]; rfl
      have hx3 : w1.cell? ⟨w.heap.size, 3, none⟩ = some (.int .i64 kv.k.til) := by rw [cell_of_row w1 _ 3 _ _ (0, 0) hbx]; rfl
      have hbw := below_after _ _ hb1
      clear hbx hb1
      go_wp2_with fail
      refine (refright_named kv.k kv.k.sec.length rfl false hrt kv.S kv.c w1 HKL.out).mono ?_
      rintro e w2 ⟨rfl, hb2⟩
      clear hx0 hx1 hx2 hx3
      go_wp2_with fail
      go_ret2
      exact ⟨none, 0, rfl, by rw [hr.out]; intro i hi; simp at hi, hbw.trans (hb2.mono hbw.size)⟩
    | true =>
      have h100 := ring_len his
      rw [← HN.out] at h100
      go_enter Try.func18, Try.ntmps18
      go_wp2_with fail
      refine (refis_named l n HN.out true his A c _ HA1.out h1).mono ?_
      rintro e w1 ⟨rfl, hb1⟩
      have hbx : w1.heap[w.heap.size]? = some (.cells #[.int .i64 kv.k.id, .slice kv.S kv.k.sec.length kv.c, .int .i64 kv.k.frm, .int .i64 kv.k.til] 26 (0, 0)) := (hb1.block _ (by simp)).trans (heap_alloc_new w _)
      have hx0 : w1.cell? ⟨w.heap.size, 0, none⟩ = some (.int .i64 kv.k.id) := by rw [cell_of_row w1 _ 0 _ _ (0, 0) hbx]; rfl
      have hx1 : w1.cell? ⟨w.heap.size, 1, none⟩ = some (.slice kv.S kv.k.sec.length kv.c) := by rw [cell_of_row w1 _ 1 _ _ (0, 0) hbx]; rfl
      have hx2 : w1.cell? ⟨w.heap.size, 2, none⟩ = some (.int .i64 kv.k.frm) := by rw [cell_of_row w1 _ 2 _ _ (0, 0) hbx]; rfl
      have hx3 : w1.cell? ⟨w.heap.size, 3, none⟩ = some (.int .i64 kv.k.til) := by rw [cell_of_row w1 _ 3 _ _ (0, 0) hbx]; rfl
      have hbw := below_after _ _ hb1
      have hsz1 : w.heap.size + 1 ≤ w1.heap.size := by have := hb1.size; simpa using this
      clear hb1
      go_wp2_with fail
      refine (refright_named kv.k kv.k.sec.length rfl true hrt kv.S kv.c w1 HKL.out).mono ?_
      rintro e w2 ⟨rfl, hb2⟩
      have HBX := Lib.hid ((hb2.block _ (by omega)).trans hbx)
      have HB2 := Lib.hid (hbw.trans (hb2.mono hbw.size))
      have hsz2 : w.heap.size + 1 ≤ w2.heap.size := by have := hb2.size; omega
      clear hx0 hx1 hx2 hx3 hbx hbw hb2
      go_wp2
      go_loopw [6, 7, 8] (fun v q i wr => ∃ k put M, k ≤ n ∧ i = .int .i64 (k : Nat) ∧ q = .bool put ∧ GathK wr w2.heap.size M v ∧ AddSt l Lv kv k put M ∧ Below w2.heap.size w2 wr) (fun _ _ i _ => n - (intOf i).toNat)
      case atStart =>
        exact ⟨0, false, [], Nat.zero_le _, rfl, rfl, ⟨_, _, 0, rfl, rfl, World.ownsRow_lit w2 #[] 0 (Nat.le_refl _) (by decide) rfl⟩, addSt_zero _ _ _, (Below.refl _ _).alloc (Nat.le_refl _) _⟩
      case round =>
        obtain ⟨k, put, M, hk, rfl, rfl, ⟨g, cap, m', hmM, rfl, hown⟩, hst, hbel⟩ := hrel
        have hbx : wr.heap[w.heap.size]? = some (.cells #[.int .i64 kv.k.id, .slice kv.S kv.k.sec.length kv.c, .int .i64 kv.k.frm, .int .i64 kv.k.til] 26 (0, 0)) := (hbel.block _ (by omega)).trans HBX.out
        have hx0 : wr.cell? ⟨w.heap.size, 0, none⟩ = some (.int .i64 kv.k.id) := by rw [cell_of_row wr _ 0 _ _ (0, 0) hbx]; rfl
        have hx1 : wr.cell? ⟨w.heap.size, 1, none⟩ = some (.slice kv.S kv.k.sec.length kv.c) := by rw [cell_of_row wr _ 1 _ _ (0, 0) hbx]; rfl
        have hx2 : wr.cell? ⟨w.heap.size, 2, none⟩ = some (.int .i64 kv.k.frm) := by rw [cell_of_row wr _ 2 _ _ (0, 0) hbx]; rfl
        have hx3 : wr.cell? ⟨w.heap.size, 3, none⟩ = some (.int .i64 kv.k.til) := by rw [cell_of_row wr _ 3 _ _ (0, 0) hbx]; rfl
        have hlenM := addSt_len hst
        rw [hmM] at hlenM
        have HMM := Lib.hid hmM
        clear hmM
        have HST := Lib.hid hst
        have HOWN := Lib.hid hown
        have HBL := Lib.hid hbel
        have hsz := hbel.size
        clear hbx hst hown hbel
        by_cases hlt : k < n
        · have hkl : k < Lv.length := by
            have := congrArg List.length HLV.out
            rw [List.length_map] at this
            rw [this, ← HN.out]; exact hlt
          obtain ⟨ad, rfl, had, hk4⟩ := HLR.out k Lv[k] (List.getElem?_eq_getElem hkl)
          have HQ := Lib.hid (show Lv[k]? = some Lv[k] from List.getElem?_eq_getElem hkl)
          have HX := Lib.hid (show l.getD k K0 = Lv[k].k by
            rw [← HLV.out, List.getD_eq_getElem?_getD, List.getElem?_map, List.getElem?_eq_getElem hkl]; rfl)
          have hB2r : Below w.heap.size w wr := HB2.out.trans (HBL.out.mono (by omega))
          have hk5 := hk4.below (by rw [add_block]; exact had) (Nat.le_refl _) hB2r
          have HK5 := Lib.hid hk5
          generalize Lv[k] = x at *
          have hc0 := hk5.c0
          have b1 : (0 : Int) ≤ (k : Int) := by omega
          have b2 : (k : Int) < (n : Int) := by omega
          clear hk4 hk5 hkl
          by_cases heq : x.k.id = kv.k.id
          · have ha : l.any (fun q => q.id == kv.k.id) = true := any_true k (by rw [← HN.out]; exact hlt) (by rw [HX.out]; exact heq)
            have hr := Lib.hid <| show R = [] from by rw [HR.out, addK, his, hrt, ha]; rfl
            have he : E = 10 := by rw [HE.out, addE, his, hrt, ha]; rfl
            have hm : m = 0 := by rw [HM.out, hr.out]; rfl
            have e1 : (x.k.id == kv.k.id) = true := by simpa using heq
            subst he hm
            clear heq ha
            go_wp2
            go_quiet (fail)
            go_wp2
            go_ret2
            exact ⟨none, 0, rfl, by rw [hr.out]; intro i hi; simp at hi, below_drewN hB2r _⟩
          · have e1 : (x.k.id == kv.k.id) = false := by simpa using heq
            have hne : (l.getD k K0).id ≠ kv.k.id := by rw [HX.out]; exact heq
            have HNE := Lib.hid hne
            clear heq hne
            have hB2s : w.heap.size ≤ w2.heap.size := by omega
            by_cases hgt : kv.k.id < x.k.id
            · cases put with
              | false =>
                go_wp2
                go_quiet (fail)
                go_wp2
                go_quiet (fail)
                go_wp2_with (at_builtin; refine wpList_append_key rfl (.tmp 44) (.tmp 46) rfl _ w2.heap.size g cap m' M kv HMM.out rfl (own_below HOWN.out (below_drewN (Below.refl _ _) _)) rfl (by omega) hsz ?_)
                intro g3 cap3 w3 hown3 hb3
                have HB3 : Hid (Below w2.heap.size wr w3) := Lib.hid ((below_drewN (Below.refl _ _) _).trans hb3)
                have hsz3 : w2.heap.size ≤ w3.heap.size := Nat.le_trans hsz HB3.out.size
                have HOWN3 := Lib.hid hown3
                clear hown3 hb3
                have hk6 := HK5.out.below (by rw [add_block]; exact had) (Nat.le_refl _) (HB3.out.mono hB2s)
                have hd0 := hk6.c0
                have hd1 := hk6.c1
                have hd2 := hk6.c2
                have hd3 := hk6.c3
                clear hk6
                have hm3 : (M ++ [kv]).length = m' + 1 := by simp [HMM.out]
                go_wp2_with (at_builtin; refine wpList_append_key rfl (.tmp 48) (.tmp 53) rfl _ w2.heap.size g3 cap3 (m' + 1) (M ++ [kv]) x hm3 rfl HOWN3.out rfl (by omega) hsz3 ?_)
                intro g4 cap4 w4 hown4 hb4
                have HG4 := Lib.hid (show GathK w4 w2.heap.size (M ++ [kv] ++ [x]) (.slice (some ⟨g4, 0, none⟩) (m' + 1 + 1) cap4) from ⟨g4, cap4, m' + 1 + 1, by simp [HMM.out], rfl, by first | exact hown4 | simpa using hown4⟩)
                have HST4 := Lib.hid (addSt_new x HQ.out HST.out (by rw [HX.out]; exact hgt))
                have HB4 := Lib.hid (HBL.out.trans (HB3.out.trans hb4))
                clear hown4 hb4
                go_wp2
                go_roundw
                case rel => exact ⟨k + 1, true, _, by omega, by go_num, rfl, HG4.out, HST4.out, HB4.out⟩
                case measure => simp [intOf]; omega
              | true =>
                have hk6 := HK5.out.below (by rw [add_block]; exact had) (Nat.le_refl _) (Below.refl _ _)
                have hd0 := hk6.c0
                have hd1 := hk6.c1
                have hd2 := hk6.c2
                have hd3 := hk6.c3
                clear hk6
                go_wp2
                go_quiet (fail)
                go_wp2
                go_quiet (fail)
                go_wp2_with (at_builtin; refine wpList_append_key rfl (.tmp 48) (.tmp 53) rfl _ w2.heap.size g cap m' M x HMM.out rfl (own_below HOWN.out (below_drewN (Below.refl _ _) _)) rfl (by omega) hsz ?_)
                intro g4 cap4 w4 hown4 hb4
                have HG4 := Lib.hid (show GathK w4 w2.heap.size (M ++ [x]) (.slice (some ⟨g4, 0, none⟩) (m' + 1) cap4) from ⟨g4, cap4, m' + 1, by simp [HMM.out], rfl, by first | exact hown4 | simpa using hown4⟩)
                have HST4 := Lib.hid (addSt_put x HQ.out HST.out HNE.out)
                have HB4 := Lib.hid (HBL.out.trans ((below_drewN (Below.refl _ _) _).trans hb4))
                clear hown4 hb4
                go_wp2
                go_roundw
                case rel => exact ⟨k + 1, true, _, by omega, by go_num, rfl, HG4.out, HST4.out, HB4.out⟩
                case measure => simp [intOf]; omega
            · have hdf : decide (kv.k.id < x.k.id) = false := by simpa using hgt
              have HNGT := Lib.hid hgt
              clear hgt
              cases put with
              | false =>
                have hlow : (l.getD k K0).id < kv.k.id := by have := HNE.out; have := HNGT.out; rw [HX.out] at *; omega
                have HLOW := Lib.hid hlow
                clear hlow
                have hk6 := HK5.out.below (by rw [add_block]; exact had) (Nat.le_refl _) (Below.refl _ _)
                have hd0 := hk6.c0
                have hd1 := hk6.c1
                have hd2 := hk6.c2
                have hd3 := hk6.c3
                clear hk6
                go_wp2
                go_quiet (fail)
                go_wp2
                go_quiet (fail)
                go_wp2_with (at_builtin; refine wpList_append_key rfl (.tmp 48) (.tmp 53) rfl _ w2.heap.size g cap m' M x HMM.out rfl (own_below HOWN.out (below_drewN (Below.refl _ _) _)) rfl (by omega) hsz ?_)
                intro g4 cap4 w4 hown4 hb4
                have HG4 := Lib.hid (show GathK w4 w2.heap.size (M ++ [x]) (.slice (some ⟨g4, 0, none⟩) (m' + 1) cap4) from ⟨g4, cap4, m' + 1, by simp [HMM.out], rfl, by first | exact hown4 | simpa using hown4⟩)
                have HST4 := Lib.hid (addSt_low x HQ.out HST.out HLOW.out)
                have HB4 := Lib.hid (HBL.out.trans ((below_drewN (Below.refl _ _) _).trans hb4))
                clear hown4 hb4
                go_wp2
                go_roundw
                case rel => exact ⟨k + 1, false, _, by omega, by go_num, rfl, HG4.out, HST4.out, HB4.out⟩
                case measure => simp [intOf]; omega
              | true =>
                have hk6 := HK5.out.below (by rw [add_block]; exact had) (Nat.le_refl _) (Below.refl _ _)
                have hd0 := hk6.c0
                have hd1 := hk6.c1
                have hd2 := hk6.c2
                have hd3 := hk6.c3
                clear hk6
                go_wp2
                go_quiet (fail)
                go_wp2
                go_quiet (fail)
                go_wp2_with (at_builtin; refine wpList_append_key rfl (.tmp 48) (.tmp 53) rfl _ w2.heap.size g cap m' M x HMM.out rfl (own_below HOWN.out (below_drewN (Below.refl _ _) _)) rfl (by omega) hsz ?_)
                intro g4 cap4 w4 hown4 hb4
                have HG4 := Lib.hid (show GathK w4 w2.heap.size (M ++ [x]) (.slice (some ⟨g4, 0, none⟩) (m' + 1) cap4) from ⟨g4, cap4, m' + 1, by simp [HMM.out], rfl, by first | exact hown4 | simpa using hown4⟩)
                have HST4 := Lib.hid (addSt_put x HQ.out HST.out HNE.out)
                have HB4 := Lib.hid (HBL.out.trans ((below_drewN (Below.refl _ _) _).trans hb4))
                clear hown4 hb4
                go_wp2
                go_roundw
                case rel => exact ⟨k + 1, true, _, by omega, by go_num, rfl, HG4.out, HST4.out, HB4.out⟩
                case measure => simp [intOf]; omega
        · have ek : k = n := by omega
          have hmap : Lv.map (·.k) = l := HLV.out
          have hBr : Below w.heap.size w wr := HB2.out.trans (HBL.out.mono (by omega))
          cases put with
          | false =>
            have hend := addSt_end_low his hrt hmap (by rw [← HN.out, ← ek]; exact HST.out)
            have HEND := Lib.hid hend
            have he : E = 0 := by rw [HE.out, hend.2]
            have hRm : m = m' + 1 := by rw [HM.out, HR.out, ← hend.1, List.length_map, List.length_append, HMM.out]; rfl
            subst he hRm
            clear hend
            go_wp2_with (at_builtin; refine wpList_append_key rfl (.tmp 57) (.tmp 59) rfl _ w2.heap.size g cap m' M kv HMM.out rfl HOWN.out rfl (by omega) hsz ?_)
            intro g3 cap3 w3 hown3 hb3
            have HB3 := Lib.hid (hBr.trans (hb3.mono (by omega)))
            have hks := ks_of_own hown3 (fun q hq => by
              have h0 : Bs w w.heap.size q.k.sec q.S q.c := by
                rcases List.mem_append.1 hq with h | h
                · rcases addSt_mem HST.out q h with h | h
                  · rw [h]; exact HK.out
                  · exact HLB.out q h
                · simp at h; rw [h]; exact HK.out
              exact h0.next HB3.out)
            rw [HEND.out.1] at hks
            have HKS := Lib.hid (show Ks w3 w3.heap.size (some ⟨g3, 0, none⟩) R by rw [HR.out]; exact hks)
            clear hown3 hb3 hks
            go_wp2
            go_ret2
            exact ⟨_, cap3, rfl, HKS.out, HB3.out⟩
          | true =>
            have hend := addSt_end_put his hrt hmap (by rw [← HN.out, ← ek]; exact HST.out)
            have HEND := Lib.hid hend
            have he : E = 0 := by rw [HE.out, hend.2]
            have hRm : m = m' := by rw [HM.out, HR.out, ← hend.1, List.length_map, HMM.out]
            subst he hRm
            clear hend
            have hks := ks_of_own HOWN.out (fun q hq => by
              have h0 : Bs w w.heap.size q.k.sec q.S q.c := by
                rcases addSt_mem HST.out q hq with h | h
                · rw [h]; exact HK.out
                · exact HLB.out q h
              exact h0.next hBr)
            rw [HEND.out.1] at hks
            have HKS := Lib.hid (show Ks wr wr.heap.size (some ⟨g, 0, none⟩) R by rw [HR.out]; exact hks)
            clear hks
            go_wp2
            go_ret2
            exact ⟨_, cap, rfl, HKS.out, hBr⟩
end Go.Proofs.Ytedkgkokfaadfaa
