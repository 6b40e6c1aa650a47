/-
  Contracts for the landed fieldsOf and Get. Conditions: the slice reads as bytes; 1000000 of them at most.
-/
import Derived.Test.YtkjghmonpdbjeaaTlvPNextOk
import Derived.Test.YtkjghmonpdbjeaaTlvPPut
import Derived.Test.YtkjghmonpdbjeaaClone
import Derived.Laws.EntriesVeiled
namespace Go.Proofs.Ytkjghmonpdbjeaa
set_option linter.unusedVariables false
open Go.ChangeShapes Go.WideShapes Go.ChangeAt Go.RowKit

/-- What a call owns it owns still, where nothing old has turned but a block below. -/
theorem town_kept {w w' : World} {X base : Nat} {e : TypeId} {size : Nat} {v : Value} {n : Nat} {xs : List Value} (h : w.ownsRow base e size v n xs) (hg : w.grownBy w' (some X)) (hX : X < base) : w'.ownsRow base e size v n xs := by
  refine ⟨h.1, ?_⟩
  rcases h.2 with hn | ⟨g, cap, cur, rfl, h1, hh, rest⟩
  · exact .inl hn
  · refine .inr ⟨g, cap, cur, rfl, h1, ?_, rest⟩
    rw [hg.block g (Array.getElem?_eq_some_iff.1 hh).1 (by simp; omega)]
    exact hh
/-- How many bytes are left to the reader in block X. -/
def leftIn (X : Nat) (w : World) : Nat := match w.cell? ⟨X, 0, none⟩ with
  | some (.slice _ n _) => n
  | _ => 0
theorem RdBox.left {w : World} {X : Nat} {A : Option Addr} {m c a : Nat} (h : RdBox w X A m c a) : leftIn X w = m := by rw [leftIn, h.c0]
set_option maxRecDepth 100000 in
set_option maxHeartbeats 1600000 in
theorem pfieldsOf_any (b : List Nat) (hb6 : b.length ≤ 1000000) (E : Nat) (L : List Tf) (hg : gotT b = (E, L)) (c X : Nat) (A : Option Addr) (w : World) (hK : RdBox w X A b.length c 0) (hA : Bs w X b A c) :
    Calls Try.prog 24 #[.func (.func 25) #[.pointer (some ⟨X, 0, none⟩)] #[]] w fun e w' => ∃ A' c', e = .returned (.tuple #[.slice A' (L.length : Nat) c', .int .i64 (E : Int)]) ∧ Ts w' w'.heap.size L A' c' ∧ Below X w w' := by
  have hX := hK.lt
  have HG := Lib.hid hg
  have HK := Lib.hid hK
  have HA := Lib.hid hA
  have HB6 := Lib.hid hb6
  clear hg hK hA hb6
  go_enter Try.func24, Try.ntmps24
  go_wp2
  have hwx : X ≤ w.heap.size := Nat.le_of_lt hX
  go_loopw [4] (fun v wr => ∃ (k a : Nat) (p : List Nat) (M : List TV) (A c m : _), p.length ≤ k ∧ preT (M.map (·.f)) (getT k a p) = (E, L) ∧ m = p.length ∧ RdBox wr X A m c a ∧ Bs wr X p A c ∧ wr.ownsRow w.heap.size 40 2 v M.length (flatV M) ∧ (∀ q ∈ M, Bs wr X q.f.val q.S q.c) ∧ Below X w wr ∧ M.length + p.length ≤ b.length) (fun _ wr => leftIn X wr)
  case atStart =>
    have hb1 := below_lit w #[] 40
    exact ⟨b.length, 0, b, [], A, c, b.length, Nat.le_refl _, by rw [show List.map (·.f) ([] : List TV) = [] from rfl, preT_nil]; exact HG.out, rfl, HK.out.next hb1, HA.out.below (hb1.mono hwx), World.ownsRow_lit w #[] 0 (Nat.le_refl _) (by decide) rfl, by simp, hb1.mono hwx, by simp⟩
  case round =>
    obtain ⟨k, a, p, M, A1, c1, m, hk, hpre, hm, hbox, hbs, hown, hvals, hbel, hlen⟩ := hrel
    have hXr := hbox.lt
    have hsz := hbel.size
    have HPRE := Lib.hid hpre
    have HM := Lib.hid hm
    have HBOX := Lib.hid hbox
    have HBS := Lib.hid hbs
    have HOW := Lib.hid hown
    have HV := Lib.hid hvals
    have HBL := Lib.hid hbel
    have HLEN := Lib.hid hlen
    have HKK := Lib.hid hk
    clear hpre hm hbox hbs hown hvals hbel hlen hk HG HK HA
    rcases p with _ | ⟨x, _ | ⟨y, r⟩⟩
    · obtain rfl : m = 0 := by simpa using HM.out
      have hpre := HPRE.out
      rw [getT_end, preT_end] at hpre
      cases hpre
      obtain ⟨A2, c2, e2, hts⟩ := ts_of_own HOW.out (fun q hq => (HV.out q hq).more (Nat.le_of_lt hXr))
      have HTS := Lib.hid hts
      clear HPRE HOW hts
      subst e2
      go_wp2_with fail
      refine (pnext_none c1 a X A1 wr HBOX.out).mono ?_
      rintro e w1 ⟨rfl, hb1⟩
      have hb2 := hb1.trans ((below_lit w1 #[.int .i64 0, .slice none 0 0] 40).mono hb1.size)
      have HBE := Lib.hid (HBL.out.trans (hb2.mono (Nat.le_of_lt hXr)))
      have HTE := Lib.hid (HTS.out.next hb2)
      clear hb1 hb2
      go_wp2
      go_ret2
      exact ⟨A2, c2, by rw [List.length_map]; rfl, HTE.out, HBE.out⟩
    · obtain rfl : m = 1 := by simpa using HM.out
      have hpre := HPRE.out
      rw [getT_one (by simpa using HKK.out), preT_bad _ (by decide)] at hpre
      cases hpre
      clear HPRE HKK
      go_wp2_with fail
      refine (pnext_one c1 a X A1 wr HBOX.out).mono ?_
      rintro e w1 ⟨rfl, hb1⟩
      have HBE := Lib.hid (HBL.out.trans ((hb1.trans ((below_lit w1 #[.int .i64 0, .slice none 0 0] 40).mono hb1.size)).mono (Nat.le_of_lt hXr)))
      clear hb1
      go_wp2
      go_ret2
      exact ⟨none, 0, rfl, Ts.empty _ _, HBE.out⟩
    · have hm2 : m = r.length + 2 := by simpa using HM.out
      have hkk : 1 ≤ k := by have := HKK.out; simp only [List.length_cons] at this; omega
      have HM2 := Lib.hid hm2
      clear hm2
      by_cases q1 : x ≤ a
      · have hpre := HPRE.out
        rw [getT_order hkk q1, preT_bad _ (by decide)] at hpre
        cases hpre
        clear HPRE HKK
        go_wp2_with fail
        refine (pnext_order x y r m HM2.out c1 a X A1 wr HBOX.out HBS.out q1).mono ?_
        rintro e w1 ⟨rfl, hb1⟩
        have HBE := Lib.hid (HBL.out.trans ((hb1.trans ((below_lit w1 #[.int .i64 0, .slice none 0 0] 40).mono hb1.size)).mono (Nat.le_of_lt hXr)))
        clear hb1
        go_wp2
        go_ret2
        exact ⟨none, 0, rfl, Ts.empty _ _, HBE.out⟩
      by_cases q2 : r.length < y
      · have hpre := HPRE.out
        rw [getT_over hkk (by omega) q2, preT_bad _ (by decide)] at hpre
        cases hpre
        clear HPRE HKK
        go_wp2_with fail
        refine (pnext_over x y r m HM2.out c1 a X A1 wr HBOX.out HBS.out (by omega) q2).mono ?_
        rintro e w1 ⟨rfl, hb1⟩
        have HBE := Lib.hid (HBL.out.trans ((hb1.trans ((below_lit w1 #[.int .i64 0, .slice none 0 0] 40).mono hb1.size)).mono (Nat.le_of_lt hXr)))
        clear hb1
        go_wp2
        go_ret2
        exact ⟨none, 0, rfl, Ts.empty _ _, HBE.out⟩
      obtain ⟨j, rfl⟩ : ∃ j, k = j + 1 := ⟨k - 1, by omega⟩
      have hpre := HPRE.out
      rw [getT_step (by omega) (by omega)] at hpre
      obtain ⟨f, hf⟩ : ∃ f : Tf, f = ⟨x, r.take y⟩ := ⟨_, rfl⟩
      obtain ⟨p, hp⟩ : ∃ p, p = r.drop y := ⟨_, rfl⟩
      rw [← hf, ← hp] at hpre
      have hpl : p.length ≤ j := by have := HKK.out; simp only [List.length_cons] at this; rw [hp, List.length_drop]; omega
      have hpl2 : p.length < m := by rw [HM2.out, hp, List.length_drop]; omega
      have hpm : M.length + 1 + p.length ≤ b.length := by have := HLEN.out; simp only [List.length_cons] at this; rw [hp, List.length_drop]; omega
      have HF := Lib.hid hf
      have HP := Lib.hid hp
      have HPL := Lib.hid hpl
      have HPL2 := Lib.hid hpl2
      have HPM := Lib.hid hpm
      replace HPRE := Lib.hid hpre
      have hM6 : M.length ≤ 1000000 := by have := HB6.out; omega
      have HQ := Lib.hid (show a < x ∧ y ≤ r.length by omega)
      have HLF := Lib.hid HBOX.out.left
      clear hpre hf hp hpl hpl2 hpm q1 q2
      go_wp2_with fail
      refine (pnext_fld x y r f HF.out p HP.out m HM2.out c1 a X A1 wr HBOX.out HBS.out HQ.out.1 HQ.out.2).mono ?_
      rintro e w1 ⟨S, cs, A2, c2, rfl, hb1, hb2, hb3, hb4⟩
      have HO1 := Lib.hid (town_kept HOW.out hb4 hX)
      have hbx := below_of_box hb4 hXr
      have hbl := below_lit w1 #[.int .i64 f.tag, .slice S f.val.length cs] 40
      have hs1 : w.heap.size ≤ w1.heap.size := Nat.le_trans hsz hb4.size
      have hs2 : w.heap.size ≤ (w1.alloc (.cells #[.int .i64 f.tag, .slice S f.val.length cs] 40)).heap.size := Nat.le_trans hs1 hbl.size
      have HO2 := Lib.hid (own_below HO1.out hbl)
      have HBX := Lib.hid (HBL.out.trans hbx)
      have HK1 := Lib.hid hb1
      have HV1 := Lib.hid hb2
      have HR1 := Lib.hid hb3
      have HVS := Lib.hid (fun q hq => (HV.out q hq).below hbx)
      have HBX1 := Lib.hid hbl
      clear hb1 hb2 hb3 hb4 hbx hbl
      go_wp2_with (at_builtin; refine wpList_append_field rfl (.tmp 17) (.tmp 19) rfl (w1.alloc (.cells #[.int .i64 f.tag, .slice S f.val.length cs] 40)) w.heap.size M.length u4 M ⟨f, S, cs⟩ rfl HO2.out (w1.heap.size + 1) (World.size_alloc _ _) rfl hM6 hs2 ?_; intro v3 w3 hown3 hg3)
      have hge : ∀ g, u4.ownBlock = some g → w.heap.size ≤ g := fun g hg => own_ge HO2.out hg
      have hb3 : Below w.heap.size w1 w3 := (HBX1.out.mono hs1).grown hg3 hs2 hge
      have HB3 := Lib.hid hb3
      have HO3 := Lib.hid hown3
      have HK3 := Lib.hid (show RdBox w3 X A2 p.length c2 x from (hb3.block X hX).trans HK1.out)
      have HR3 := Lib.hid (HR1.out.below (hb3.mono hwx))
      have HV3 := Lib.hid (show ∀ q ∈ M ++ [(⟨f, S, cs⟩ : TV)], Bs w3 X q.f.val q.S q.c from fun q hq => by
        rcases List.mem_append.1 hq with h | h
        · exact (HVS.out q h).below (hb3.mono hwx)
        · rw [List.mem_singleton] at h
          subst h
          exact HV1.out.below (hb3.mono hwx))
      have HBE := Lib.hid (HBX.out.trans (hb3.mono hwx))
      clear hown3 hg3 hge hb3 HO1 HO2 HK1 HR1 HV1 HVS HBX
      go_wp2
      go_roundw
      case rel => exact ⟨j, x, p, M ++ [⟨f, S, cs⟩], A2, c2, p.length, HPL.out, by rw [List.map_append]; exact HPRE.out, rfl, HK3.out, HR3.out, by rw [List.length_append]; exact HO3.out, HV3.out, HBE.out, by rw [List.length_append]; exact HPM.out⟩
      case measure => rw [HK3.out.left, HLF.out]; exact HPL2.out
set_option maxRecDepth 100000 in
set_option maxHeartbeats 1600000 in
theorem pget_tlv (b : List Nat) (n : Nat) (hn : n = b.length) (hn6 : n ≤ 1000000) (E : Nat) (L : List Tf) (hg : gotT b = (E, L)) (A : Option Addr) (c : Nat) (w : World) (hA : Bs w w.heap.size b A c) :
    Calls Try.prog 16 #[.slice A n c] w fun e w' => ∃ A' c', e = .returned (.tuple #[.slice A' (L.length : Nat) c', .int .i64 (E : Int)]) ∧ Ts w' w'.heap.size L A' c' ∧ Below w.heap.size w w' := by
  have hmf : ∀ (fn : Fn) (first cap : Array Value) (w : World), (Instr.makeFunc fn first cap).run Try.prog w = .ok (.func fn first cap) w := fun _ _ _ _ => rfl
  have HN := Lib.hid hn
  have HG := Lib.hid hg
  have HA := Lib.hid hA
  clear hn hg hA
  go_enter Try.func16, Try.ntmps16
  go_wp2_with fail
  refine (clone_any b n HN.out A c w HA.out (by omega)).mono ?_
  rintro e w1 ⟨A1, c1, rfl, h1, h2⟩
  have hbl := below_lit w1 #[.slice A1 n c1, .int .i64 (0 : Int)] 43
  have HK := Lib.hid (show RdBox (w1.alloc (.cells #[.slice A1 n c1, .int .i64 (0 : Int)] 43)) w1.heap.size A1 b.length c1 0 by rw [← HN.out]; exact heap_alloc_new w1 _)
  have HR := Lib.hid (h1.below hbl)
  have HB := Lib.hid (h2.trans (hbl.mono h2.size))
  have HS := Lib.hid h2.size
  clear h1 h2 hbl
  go_wp2_with fail
  refine (pfieldsOf_any b (by rw [← HN.out]; exact hn6) E L HG.out c1 w1.heap.size A1 _ HK.out HR.out).mono ?_
  rintro e w3 ⟨A2, c2, rfl, h3, h4⟩
  have HT := Lib.hid h3
  have HBE := Lib.hid (HB.out.trans (h4.mono HS.out))
  clear h3 h4
  go_wp2
  go_ret2
  exact ⟨_, _, rfl, HT.out, HBE.out⟩
end Go.Proofs.Ytkjghmonpdbjeaa
