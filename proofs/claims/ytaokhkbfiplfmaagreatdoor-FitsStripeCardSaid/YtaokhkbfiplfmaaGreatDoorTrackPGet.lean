/-
  Contract for the landed Get. Conditions: the slice reads as bytes; at most 1048576 of them.
  Contracts for the landed tagBy and Encode of stripe. Conditions: the slices read as keys and bytes; the numbers fit an int; sha's tables hold what its text lays.
  That a ticket's numbers fit an int.
-/
import Derived.Test.YtaokhkbfiplfmaaGreatDoorParityPOnes
import Derived.Test.YtaokhkbfiplfmaaGreatDoorRingFits
import Derived.Test.YtaokhkbfiplfmaaGreatDoorMacTag
import Derived.Test.YtaokhkbfiplfmaaGreatDoorLayPPut0
import Derived.Test.YtaokhkbfiplfmaaGreatDoorMem
section
namespace Go.Proofs.YtaokhkbfiplfmaaGreatDoor
set_option linter.unusedVariables false
open Go.ChangeShapes Go.WideShapes Go.ChangeAt Go.RowKit

theorem rd_set {w : World} {B D : Nat} {A : Option Addr} {xs : List Value} (h : Rd w B A xs) {v : Value} {t : TypeId} (hd : w.heap[D]? = some (.cells #[v] t (0, 0))) (hv : ∀ u ∈ xs, u ≠ v) (y : Value) : Rd (w.setCell ⟨D, 0, none⟩ y) B A xs := by
  intro k u hu
  obtain ⟨ad, e, lt, hc⟩ := h k u hu
  refine ⟨ad, e, lt, ?_⟩
  rw [World.cell?_setCell_other]
  · exact hc
  · intro e2
    rw [← e2, cell_of_row w D 0 _ _ _ hd] at hc
    have e3 : v = u := by simpa using hc
    exact hv u (List.mem_of_getElem? hu) e3.symm
theorem bl_ne (l : List Bool) (v : Value) (h : ∀ x, v ≠ .bool x) : ∀ u ∈ BL l, u ≠ v := by
  intro u hu e
  simp only [BL, List.mem_map] at hu
  obtain ⟨x, _, rfl⟩ := hu
  exact h x e.symm
theorem u8_ne (l : List Nat) (v : Value) (h : ∀ x, v ≠ .int .u8 x) : ∀ u ∈ U8 l, u ≠ v := by
  intro u hu e
  simp only [U8, List.mem_map] at hu
  obtain ⟨x, _, rfl⟩ := hu
  exact h _ e.symm
theorem Vs.set {w : World} {B D : Nat} {l : List Bool} {A : Option Addr} {c : Nat} (h : Vs w B l A c) {v : Value} {t : TypeId} (hd : w.heap[D]? = some (.cells #[v] t (0, 0))) (hv : ∀ x, v ≠ .bool x) (y : Value) : Vs (w.setCell ⟨D, 0, none⟩ y) B l A c := ⟨rd_set h.rd hd (bl_ne l v hv) y, h.nil, h.len, h.cap⟩
theorem Bs.set {w : World} {B D : Nat} {s : List Nat} {A : Option Addr} {c : Nat} (h : Bs w B s A c) {v : Value} {t : TypeId} (hd : w.heap[D]? = some (.cells #[v] t (0, 0))) (hv : ∀ x, v ≠ .int .u8 x) (y : Value) : Bs (w.setCell ⟨D, 0, none⟩ y) B s A c := ⟨rd_set h.rd hd (u8_ne s v hv) y, h.nil, h.len, h.cap, h.lt⟩
end Go.Proofs.YtaokhkbfiplfmaaGreatDoor
end
section
namespace Go.Proofs.YtaokhkbfiplfmaaGreatDoor
set_option linter.unusedVariables false
open Go.ChangeShapes Go.WideShapes Go.ChangeAt Go.RowKit

set_option maxRecDepth 100000 in
set_option maxHeartbeats 1600000 in
theorem tagby_ok (l : List K) (n : Nat) (hn : n = l.length) (hn3 : n ≤ 9223372036854775807) (id : Int) (A : Option Addr) (c : Nat) (s : List Nat) (m : Nat) (hm : m = s.length) (h4 : m ≤ 3999) (B : Option Addr) (d : Nat) (w : World) (hT : Tabs w) (hA : Ks w w.heap.size A l) (hB : Bs w w.heap.size s B d) (h0 : findE l id = 0) (T : List Nat) (hTg : tagS (findK l id).sec s = T) : Calls Tryz.prog 14 #[.slice A n c, .int .i64 id, .slice B m d] w fun e w' => ∃ g cap, e = .returned (.tuple #[.slice (some ⟨g, 0, none⟩) 10 cap, .int .i64 0]) ∧ Rd w' w'.heap.size (some ⟨g, 0, none⟩) (U8 T) ∧ Below w.heap.size w w' := by
  have h64 := find_sec h0
  obtain ⟨r, hr⟩ : ∃ r, r = findK l id := ⟨_, rfl⟩
  rw [← hr] at h64 hTg
  have HE := Lib.hid h0.symm
  have HS := Lib.hid h64
  clear h0 h64
  have HN := Lib.hid hn
  have HM := Lib.hid hm
  have HT := Lib.hid hT
  have HA := Lib.hid hA
  have HB := Lib.hid hB
  have HTG := Lib.hid hTg
  have HR := Lib.hid hr
  clear hn hm hT hA hB hTg hr
  have HBL := Lib.hid (Below.refl w.heap.size w)
  go_enter Tryz.func14, Tryz.ntmps14
  go_wp2_with fail
  refine (pfind_any l n HN.out id A c w HA.out hn3 r 0 HR.out HE.out).mono ?_
  rintro e w1 ⟨S, cc, rfl, hs, hb⟩
  replace HT := Lib.hid (HT.out.next hb)
  replace HA := Lib.hid (HA.out.next hb)
  replace HB := Lib.hid (HB.out.next hb)
  replace HBL := Lib.hid (HBL.out.trans (hb.mono HBL.out.size))
  have FS := Lib.hid hs
  clear hb hs
  go_wp2_with fail
  obtain ⟨w2, hw⟩ : ∃ w2, w2 = w1.alloc (.cells #[.int .i64 r.id, .slice S r.sec.length cc, .int .i64 r.frm, .int .i64 r.til] 28) := ⟨_, rfl⟩
  rw [← hw]
  have hx : Box w2 w1.heap.size ⟨r, S, cc⟩ := by rw [hw]; exact (box_lit w1 ⟨r, S, cc⟩ FS.out).1
  have hb : Below w1.heap.size w1 w2 := by rw [hw]; exact below_lit w1 _ _
  replace HT := Lib.hid (HT.out.next hb)
  replace HA := Lib.hid (HA.out.next hb)
  replace HB := Lib.hid (HB.out.next hb)
  replace FS := Lib.hid (FS.out.next hb)
  replace HBL := Lib.hid (HBL.out.trans (hb.mono HBL.out.size))
  have HX := Lib.hid hx
  clear hx hb hw
  obtain ⟨X, hB⟩ : ∃ B, B = w1.heap.size := ⟨_, rfl⟩
  rw [← hB] at HX ⊢
  clear hB
  have k1 := cell_of_row _ _ 1 _ _ _ HX.out.1
  go_wp2_with fail
  refine (ptag_any r.sec s r.sec.length m rfl HM.out S B cc d w2 HT.out FS.out HB.out (by have := HS.out; omega) h4 T HTG.out).mono ?_
  rintro e w3 ⟨g, cap, rfl, hs, hb⟩
  clear k1
  replace HT := Lib.hid (HT.out.next hb)
  replace HA := Lib.hid (HA.out.next hb)
  replace HB := Lib.hid (HB.out.next hb)
  replace FS := Lib.hid (FS.out.next hb)
  replace HX := Lib.hid (HX.out.next hb)
  replace HBL := Lib.hid (HBL.out.trans (hb.mono HBL.out.size))
  have G := Lib.hid hs
  clear hb hs
  go_wp2
  go_ret2
  exact ⟨g, cap, rfl, G.out, HBL.out⟩
set_option maxRecDepth 100000 in
set_option maxHeartbeats 1600000 in
theorem tagby_no (l : List K) (n : Nat) (hn : n = l.length) (hn3 : n ≤ 9223372036854775807) (id : Int) (A : Option Addr) (c : Nat) (s : List Nat) (m : Nat) (hm : m = s.length) (h4 : m ≤ 3999) (B : Option Addr) (d : Nat) (w : World) (hT : Tabs w) (hA : Ks w w.heap.size A l) (hB : Bs w w.heap.size s B d) (E : Int) (hE : findE l id = E) (h0 : E ≠ 0) : Calls Tryz.prog 14 #[.slice A n c, .int .i64 id, .slice B m d] w fun e w' => e = .returned (.tuple #[.slice none 0 0, .int .i64 E]) ∧ Below w.heap.size w w' := by
  have s1 : (E == 0) = false := by rw [beq_eq_false_iff_ne]; exact h0
  have s2 : (E != 0) = true := by rw [bne_iff_ne]; exact h0
  obtain ⟨r, hr⟩ : ∃ r, r = findK l id := ⟨_, rfl⟩
  clear h0
  have HN := Lib.hid hn
  have HM := Lib.hid hm
  have HT := Lib.hid hT
  have HA := Lib.hid hA
  have HB := Lib.hid hB
  have HE := Lib.hid hE.symm
  have HR := Lib.hid hr
  clear hn hm hT hA hB hr
  clear hE
  have HBL := Lib.hid (Below.refl w.heap.size w)
  go_enter Tryz.func14, Tryz.ntmps14
  go_wp2_with fail
  refine (pfind_any l n HN.out id A c w HA.out hn3 r E HR.out HE.out).mono ?_
  rintro e w1 ⟨S, cc, rfl, hs, hb⟩
  replace HT := Lib.hid (HT.out.next hb)
  replace HA := Lib.hid (HA.out.next hb)
  replace HB := Lib.hid (HB.out.next hb)
  replace HBL := Lib.hid (HBL.out.trans (hb.mono HBL.out.size))
  have FS := Lib.hid hs
  clear hb hs
  go_wp2_with fail
  obtain ⟨w2, hw⟩ : ∃ w2, w2 = w1.alloc (.cells #[.int .i64 r.id, .slice S r.sec.length cc, .int .i64 r.frm, .int .i64 r.til] 28) := ⟨_, rfl⟩
  rw [← hw]
  have hx : Box w2 w1.heap.size ⟨r, S, cc⟩ := by rw [hw]; exact (box_lit w1 ⟨r, S, cc⟩ FS.out).1
  have hb : Below w1.heap.size w1 w2 := by rw [hw]; exact below_lit w1 _ _
  replace HT := Lib.hid (HT.out.next hb)
  replace HA := Lib.hid (HA.out.next hb)
  replace HB := Lib.hid (HB.out.next hb)
  replace FS := Lib.hid (FS.out.next hb)
  replace HBL := Lib.hid (HBL.out.trans (hb.mono HBL.out.size))
  have HX := Lib.hid hx
  clear hx hb hw
  obtain ⟨X, hB⟩ : ∃ B, B = w1.heap.size := ⟨_, rfl⟩
  rw [← hB] at HX ⊢
  clear hB
  go_wp2
  go_ret2
  exact ⟨rfl, HBL.out⟩
set_option maxRecDepth 100000 in
set_option maxHeartbeats 1600000 in
theorem penc_a (l : List K) (n : Nat) (hn : n = l.length) (hn3 : n ≤ 9223372036854775807) (A : Option Addr) (c : Nat) (r : Rg) (hin : InR r) (E : Int) (p : List Nat) (hE : encX l r = (E, p)) (w : World) (hT : Tabs w) (hA : Ks w w.heap.size A l) (h1 : isR l = false) : Calls Tryz.prog 6 #[.slice A n c, .agg #[.int .i64 r.t.ser, .int .i64 r.t.kind, .int .i64 r.t.frm, .int .i64 r.t.till, .int .i64 r.t.cls, .int .i64 r.t.card, .int .i64 r.t.seat, .int .i64 r.t.day, .int .i64 r.t.days, .int .i64 r.t.uses, .int .i64 r.t.epoch, .int .i64 r.key, .int .i64 r.left, .int .i64 r.inn, .int .i64 r.ver]] w fun e w' => ∃ A' c', e = .returned (.tuple #[.slice A' (p.length : Nat) c', .int .i64 E]) ∧ Bs w' w'.heap.size p A' c' ∧ Below w.heap.size w w' := by
  obtain ⟨rfl, rfl⟩ : E = 1 ∧ p = [] := by rw [encX, if_pos h1] at hE; exact ⟨(Prod.mk.inj hE).1.symm, (Prod.mk.inj hE).2.symm⟩
  have H1 := Lib.hid h1
  clear hE h1
  have HN := Lib.hid hn
  have HT := Lib.hid hT
  have HA := Lib.hid hA
  have HI := Lib.hid hin
  clear hn hT hA hin
  have HBL := Lib.hid (Below.refl w.heap.size w)
  go_enter Tryz.func6, Tryz.ntmps6
  go_wp2_with fail
  obtain ⟨w1, hw⟩ : ∃ w1, w1 = w.alloc (.cells #[.int .i64 r.t.ser, .int .i64 r.t.kind, .int .i64 r.t.frm, .int .i64 r.t.till, .int .i64 r.t.cls, .int .i64 r.t.card, .int .i64 r.t.seat, .int .i64 r.t.day, .int .i64 r.t.days, .int .i64 r.t.uses, .int .i64 r.t.epoch, .int .i64 r.key, .int .i64 r.left, .int .i64 r.inn, .int .i64 r.ver] 36) := ⟨_, rfl⟩
  rw [← hw]
  have hx : RBox w1 w.heap.size r := by rw [hw]; exact RBox.new w r
  have hb : Below w.heap.size w w1 := by rw [hw]; exact below_lit w _ _
  replace HT := Lib.hid (HT.out.next hb)
  replace HA := Lib.hid (HA.out.next hb)
  replace HBL := Lib.hid (HBL.out.trans (hb.mono HBL.out.size))
  have X1 := Lib.hid hx
  clear hx hb hw
  obtain ⟨B1, hB⟩ : ∃ B, B = w.heap.size := ⟨_, rfl⟩
  rw [← hB] at X1 ⊢
  clear hB
  refine (pis_named l n HN.out false H1.out A c w1 HA.out hn3).mono ?_
  rintro e w2 ⟨rfl, hb⟩
  replace HT := Lib.hid (HT.out.next hb)
  replace HA := Lib.hid (HA.out.next hb)
  replace X1 := Lib.hid (X1.out.next hb)
  replace HBL := Lib.hid (HBL.out.trans (hb.mono HBL.out.size))
  clear hb
  go_wp2
  go_ret2
  exact ⟨none, 0, rfl, bs_nil _ _, HBL.out⟩
set_option maxRecDepth 100000 in
set_option maxHeartbeats 1600000 in
theorem penc_b (l : List K) (n : Nat) (hn : n = l.length) (hn3 : n ≤ 9223372036854775807) (A : Option Addr) (c : Nat) (r : Rg) (hin : InR r) (E : Int) (p : List Nat) (hE : encX l r = (E, p)) (w : World) (hT : Tabs w) (hA : Ks w w.heap.size A l) (h1 : isR l = true) (h2 : (lputX r).1 ≠ 0) : Calls Tryz.prog 6 #[.slice A n c, .agg #[.int .i64 r.t.ser, .int .i64 r.t.kind, .int .i64 r.t.frm, .int .i64 r.t.till, .int .i64 r.t.cls, .int .i64 r.t.card, .int .i64 r.t.seat, .int .i64 r.t.day, .int .i64 r.t.days, .int .i64 r.t.uses, .int .i64 r.t.epoch, .int .i64 r.key, .int .i64 r.left, .int .i64 r.inn, .int .i64 r.ver]] w fun e w' => ∃ A' c', e = .returned (.tuple #[.slice A' (p.length : Nat) c', .int .i64 E]) ∧ Bs w' w'.heap.size p A' c' ∧ Below w.heap.size w w' := by
  have h1' : ¬ isR l = false := by rw [h1]; decide
  obtain ⟨G, P, hP⟩ : ∃ G P, lputX r = (G, P) := ⟨_, _, rfl⟩
  have hG : G ≠ 0 := by rw [hP] at h2; exact h2
  obtain ⟨rfl, rfl⟩ : E = G ∧ p = [] := by rw [encX, if_neg h1', if_pos h2, hP] at hE; exact ⟨(Prod.mk.inj hE).1.symm, (Prod.mk.inj hE).2.symm⟩
  have s1 : (E == 0) = false := by rw [beq_eq_false_iff_ne]; exact hG
  have s2 : (E != 0) = true := by rw [bne_iff_ne]; exact hG
  have H1 := Lib.hid h1
  have HP := Lib.hid hP
  clear hE h1 h2 h1' hG hP
  have HN := Lib.hid hn
  have HT := Lib.hid hT
  have HA := Lib.hid hA
  have HI := Lib.hid hin
  clear hn hT hA hin
  have HBL := Lib.hid (Below.refl w.heap.size w)
  go_enter Tryz.func6, Tryz.ntmps6
  go_wp2_with fail
  obtain ⟨w1, hw⟩ : ∃ w1, w1 = w.alloc (.cells #[.int .i64 r.t.ser, .int .i64 r.t.kind, .int .i64 r.t.frm, .int .i64 r.t.till, .int .i64 r.t.cls, .int .i64 r.t.card, .int .i64 r.t.seat, .int .i64 r.t.day, .int .i64 r.t.days, .int .i64 r.t.uses, .int .i64 r.t.epoch, .int .i64 r.key, .int .i64 r.left, .int .i64 r.inn, .int .i64 r.ver] 36) := ⟨_, rfl⟩
  rw [← hw]
  have hx : RBox w1 w.heap.size r := by rw [hw]; exact RBox.new w r
  have hb : Below w.heap.size w w1 := by rw [hw]; exact below_lit w _ _
  replace HT := Lib.hid (HT.out.next hb)
  replace HA := Lib.hid (HA.out.next hb)
  replace HBL := Lib.hid (HBL.out.trans (hb.mono HBL.out.size))
  have X1 := Lib.hid hx
  clear hx hb hw
  obtain ⟨B1, hB⟩ : ∃ B, B = w.heap.size := ⟨_, rfl⟩
  rw [← hB] at X1 ⊢
  clear hB
  refine (pis_named l n HN.out true H1.out A c w1 HA.out hn3).mono ?_
  rintro e w2 ⟨rfl, hb⟩
  replace HT := Lib.hid (HT.out.next hb)
  replace HA := Lib.hid (HA.out.next hb)
  replace X1 := Lib.hid (X1.out.next hb)
  replace HBL := Lib.hid (HBL.out.trans (hb.mono HBL.out.size))
  clear hb
  obtain ⟨c0, c1, c2, c3, c4, c5, c6, c7, c8, c9, c10, c11, c12, c13, c14⟩ := X1.out.cells
  go_wp2_with fail
  refine (lput_any r HI.out E P HP.out w2).mono ?_
  rintro e w3 ⟨AP1, cP1, rfl, hs, hb⟩
  clear c0 c1 c2 c3 c4 c5 c6 c7 c8 c9 c10 c11 c12 c13 c14
  replace HT := Lib.hid (HT.out.next hb)
  replace HA := Lib.hid (HA.out.next hb)
  replace X1 := Lib.hid (X1.out.next hb)
  replace HBL := Lib.hid (HBL.out.trans (hb.mono HBL.out.size))
  have P1 := Lib.hid hs
  clear hb hs
  go_wp2
  go_ret2
  exact ⟨none, 0, rfl, bs_nil _ _, HBL.out⟩
set_option maxRecDepth 100000 in
set_option maxHeartbeats 1600000 in
theorem penc_c (l : List K) (n : Nat) (hn : n = l.length) (hn3 : n ≤ 9223372036854775807) (A : Option Addr) (c : Nat) (r : Rg) (hin : InR r) (E : Int) (p : List Nat) (hE : encX l r = (E, p)) (w : World) (hT : Tabs w) (hA : Ks w w.heap.size A l) (h1 : isR l = true) (h2 : (lputX r).1 = 0) (h3 : findE l r.key ≠ 0) : Calls Tryz.prog 6 #[.slice A n c, .agg #[.int .i64 r.t.ser, .int .i64 r.t.kind, .int .i64 r.t.frm, .int .i64 r.t.till, .int .i64 r.t.cls, .int .i64 r.t.card, .int .i64 r.t.seat, .int .i64 r.t.day, .int .i64 r.t.days, .int .i64 r.t.uses, .int .i64 r.t.epoch, .int .i64 r.key, .int .i64 r.left, .int .i64 r.inn, .int .i64 r.ver]] w fun e w' => ∃ A' c', e = .returned (.tuple #[.slice A' (p.length : Nat) c', .int .i64 E]) ∧ Bs w' w'.heap.size p A' c' ∧ Below w.heap.size w w' := by
  have h1' : ¬ isR l = false := by rw [h1]; decide
  obtain ⟨P, hP⟩ : ∃ P, lputX r = (0, P) := ⟨(lputX r).2, by rw [← h2]⟩
  obtain ⟨rfl, rfl⟩ : E = findE l r.key ∧ p = [] := by rw [encX, if_neg h1', if_neg (by omega), if_pos h3] at hE; exact ⟨(Prod.mk.inj hE).1.symm, (Prod.mk.inj hE).2.symm⟩
  have hPL : P.length ≤ 40 := slput_len hP
  obtain ⟨F, hF⟩ : ∃ F, findE l r.key = F := ⟨_, rfl⟩
  rw [hF] at h3 ⊢
  have s1 : (F == 0) = false := by rw [beq_eq_false_iff_ne]; exact h3
  have s2 : (F != 0) = true := by rw [bne_iff_ne]; exact h3
  have H1 := Lib.hid h1
  have H3 := Lib.hid h3
  have HP := Lib.hid hP
  have HF := Lib.hid hF
  have HPL := Lib.hid hPL
  clear hE h1 h2 h1' h3 hP hF hPL
  have HN := Lib.hid hn
  have HT := Lib.hid hT
  have HA := Lib.hid hA
  have HI := Lib.hid hin
  clear hn hT hA hin
  have HBL := Lib.hid (Below.refl w.heap.size w)
  go_enter Tryz.func6, Tryz.ntmps6
  go_wp2_with fail
  obtain ⟨w1, hw⟩ : ∃ w1, w1 = w.alloc (.cells #[.int .i64 r.t.ser, .int .i64 r.t.kind, .int .i64 r.t.frm, .int .i64 r.t.till, .int .i64 r.t.cls, .int .i64 r.t.card, .int .i64 r.t.seat, .int .i64 r.t.day, .int .i64 r.t.days, .int .i64 r.t.uses, .int .i64 r.t.epoch, .int .i64 r.key, .int .i64 r.left, .int .i64 r.inn, .int .i64 r.ver] 36) := ⟨_, rfl⟩
  rw [← hw]
  have hx : RBox w1 w.heap.size r := by rw [hw]; exact RBox.new w r
  have hb : Below w.heap.size w w1 := by rw [hw]; exact below_lit w _ _
  replace HT := Lib.hid (HT.out.next hb)
  replace HA := Lib.hid (HA.out.next hb)
  replace HBL := Lib.hid (HBL.out.trans (hb.mono HBL.out.size))
  have X1 := Lib.hid hx
  clear hx hb hw
  obtain ⟨B1, hB⟩ : ∃ B, B = w.heap.size := ⟨_, rfl⟩
  rw [← hB] at X1 ⊢
  clear hB
  refine (pis_named l n HN.out true H1.out A c w1 HA.out hn3).mono ?_
  rintro e w2 ⟨rfl, hb⟩
  replace HT := Lib.hid (HT.out.next hb)
  replace HA := Lib.hid (HA.out.next hb)
  replace X1 := Lib.hid (X1.out.next hb)
  replace HBL := Lib.hid (HBL.out.trans (hb.mono HBL.out.size))
  clear hb
  obtain ⟨c0, c1, c2, c3, c4, c5, c6, c7, c8, c9, c10, c11, c12, c13, c14⟩ := X1.out.cells
  go_wp2_with fail
  refine (lput_any r HI.out 0 P HP.out w2).mono ?_
  rintro e w3 ⟨AP1, cP1, rfl, hs, hb⟩
  clear c0 c1 c2 c3 c4 c5 c6 c7 c8 c9 c10 c11 c12 c13 c14
  replace HT := Lib.hid (HT.out.next hb)
  replace HA := Lib.hid (HA.out.next hb)
  replace X1 := Lib.hid (X1.out.next hb)
  replace HBL := Lib.hid (HBL.out.trans (hb.mono HBL.out.size))
  have P1 := Lib.hid hs
  clear hb hs
  obtain ⟨c0, c1, c2, c3, c4, c5, c6, c7, c8, c9, c10, c11, c12, c13, c14⟩ := X1.out.cells
  go_wp2_with fail
  refine (tagby_no l n HN.out hn3 r.key A c P P.length rfl (by have := HPL.out; omega) AP1 cP1 w3 HT.out HA.out P1.out F HF.out H3.out).mono ?_
  rintro e w4 ⟨rfl, hb⟩
  clear c0 c1 c2 c3 c4 c5 c6 c7 c8 c9 c10 c11 c12 c13 c14
  replace HT := Lib.hid (HT.out.next hb)
  replace HA := Lib.hid (HA.out.next hb)
  replace X1 := Lib.hid (X1.out.next hb)
  replace P1 := Lib.hid (P1.out.next hb)
  replace HBL := Lib.hid (HBL.out.trans (hb.mono HBL.out.size))
  clear hb
  go_wp2
  go_ret2
  exact ⟨none, 0, rfl, bs_nil _ _, HBL.out⟩
set_option maxRecDepth 100000 in
set_option maxHeartbeats 1600000 in
theorem penc_d (l : List K) (n : Nat) (hn : n = l.length) (hn3 : n ≤ 9223372036854775807) (A : Option Addr) (c : Nat) (r : Rg) (hin : InR r) (E : Int) (p : List Nat) (hE : encX l r = (E, p)) (w : World) (hT : Tabs w) (hA : Ks w w.heap.size A l) (h1 : isR l = true) (h2 : (lputX r).1 = 0) (h3 : findE l r.key = 0) : Calls Tryz.prog 6 #[.slice A n c, .agg #[.int .i64 r.t.ser, .int .i64 r.t.kind, .int .i64 r.t.frm, .int .i64 r.t.till, .int .i64 r.t.cls, .int .i64 r.t.card, .int .i64 r.t.seat, .int .i64 r.t.day, .int .i64 r.t.days, .int .i64 r.t.uses, .int .i64 r.t.epoch, .int .i64 r.key, .int .i64 r.left, .int .i64 r.inn, .int .i64 r.ver]] w fun e w' => ∃ A' c', e = .returned (.tuple #[.slice A' (p.length : Nat) c', .int .i64 E]) ∧ Bs w' w'.heap.size p A' c' ∧ Below w.heap.size w w' := by
  have h1' : ¬ isR l = false := by rw [h1]; decide
  obtain ⟨P, hP⟩ : ∃ P, lputX r = (0, P) := ⟨(lputX r).2, by rw [← h2]⟩
  have hPL : P.length ≤ 40 := slput_len hP
  obtain ⟨T, hTg⟩ : ∃ T, tagS (findK l r.key).sec P = T := ⟨_, rfl⟩
  obtain ⟨L, hL⟩ : ∃ L, P ++ T = L := ⟨_, rfl⟩
  have hX : putE L = E ∧ putL L = p := by
    rw [encX, if_neg h1', if_neg (by omega), if_neg (by omega), encD, hP, hTg, hL] at hE
    exact ⟨(Prod.mk.inj hE).1, (Prod.mk.inj hE).2⟩
  have hTL : T.length = 10 := by rw [← hTg]; exact tagS_len _ _
  have hTT : ∀ x ∈ T, x < 256 := by rw [← hTg]; exact tagS_lt _ _
  obtain ⟨k, hk⟩ : ∃ k, k = L.length := ⟨_, rfl⟩
  have hk2 : 0 < k ∧ k ≤ 50 := by rw [hk, ← hL, List.length_append]; omega
  have H1 := Lib.hid h1
  have H3 := Lib.hid h3
  have HP := Lib.hid hP
  have HPL := Lib.hid hPL
  have HTG := Lib.hid hTg
  have HL := Lib.hid hL
  have HX1 := Lib.hid hX.1
  have HX2 := Lib.hid hX.2
  have HTL := Lib.hid hTL
  have HTT := Lib.hid hTT
  have HK := Lib.hid hk
  have HK2 := Lib.hid hk2
  clear hE h1 h2 h1' h3 hP hPL hTg hL hX hTL hTT hk hk2
  have HN := Lib.hid hn
  have HT := Lib.hid hT
  have HA := Lib.hid hA
  have HI := Lib.hid hin
  clear hn hT hA hin
  have HBL := Lib.hid (Below.refl w.heap.size w)
  go_enter Tryz.func6, Tryz.ntmps6
  go_wp2_with fail
  obtain ⟨w1, hw⟩ : ∃ w1, w1 = w.alloc (.cells #[.int .i64 r.t.ser, .int .i64 r.t.kind, .int .i64 r.t.frm, .int .i64 r.t.till, .int .i64 r.t.cls, .int .i64 r.t.card, .int .i64 r.t.seat, .int .i64 r.t.day, .int .i64 r.t.days, .int .i64 r.t.uses, .int .i64 r.t.epoch, .int .i64 r.key, .int .i64 r.left, .int .i64 r.inn, .int .i64 r.ver] 36) := ⟨_, rfl⟩
  rw [← hw]
  have hx : RBox w1 w.heap.size r := by rw [hw]; exact RBox.new w r
  have hb : Below w.heap.size w w1 := by rw [hw]; exact below_lit w _ _
  replace HT := Lib.hid (HT.out.next hb)
  replace HA := Lib.hid (HA.out.next hb)
  replace HBL := Lib.hid (HBL.out.trans (hb.mono HBL.out.size))
  have X1 := Lib.hid hx
  clear hx hb hw
  obtain ⟨B1, hB⟩ : ∃ B, B = w.heap.size := ⟨_, rfl⟩
  rw [← hB] at X1 ⊢
  clear hB
  refine (pis_named l n HN.out true H1.out A c w1 HA.out hn3).mono ?_
  rintro e w2 ⟨rfl, hb⟩
  replace HT := Lib.hid (HT.out.next hb)
  replace HA := Lib.hid (HA.out.next hb)
  replace X1 := Lib.hid (X1.out.next hb)
  replace HBL := Lib.hid (HBL.out.trans (hb.mono HBL.out.size))
  clear hb
  obtain ⟨c0, c1, c2, c3, c4, c5, c6, c7, c8, c9, c10, c11, c12, c13, c14⟩ := X1.out.cells
  go_wp2_with fail
  refine (lput_any r HI.out 0 P HP.out w2).mono ?_
  rintro e w3 ⟨AP1, cP1, rfl, hs, hb⟩
  clear c0 c1 c2 c3 c4 c5 c6 c7 c8 c9 c10 c11 c12 c13 c14
  replace HT := Lib.hid (HT.out.next hb)
  replace HA := Lib.hid (HA.out.next hb)
  replace X1 := Lib.hid (X1.out.next hb)
  replace HBL := Lib.hid (HBL.out.trans (hb.mono HBL.out.size))
  have P1 := Lib.hid hs
  clear hb hs
  obtain ⟨c0, c1, c2, c3, c4, c5, c6, c7, c8, c9, c10, c11, c12, c13, c14⟩ := X1.out.cells
  go_wp2_with fail
  refine (tagby_ok l n HN.out hn3 r.key A c P P.length rfl (by have := HPL.out; omega) AP1 cP1 w3 HT.out HA.out P1.out H3.out T HTG.out).mono ?_
  rintro e w4 ⟨g, cap, rfl, hs, hb⟩
  clear c0 c1 c2 c3 c4 c5 c6 c7 c8 c9 c10 c11 c12 c13 c14
  replace HT := Lib.hid (HT.out.next hb)
  replace HA := Lib.hid (HA.out.next hb)
  replace X1 := Lib.hid (X1.out.next hb)
  replace P1 := Lib.hid (P1.out.next hb)
  replace HBL := Lib.hid (HBL.out.trans (hb.mono HBL.out.size))
  have G := Lib.hid hs
  clear hb hs
  go_wp2_with fail
  refine (concat2 P T L HL.out P.length 10 k rfl HTL.out.symm HK.out AP1 _ cP1 cap w4 P1.out.rd G.out P1.out.nil (fun h => by cases h) P1.out.lt HTT.out HK2.out.1 (by have := HK2.out; omega)).mono ?_
  rintro e w5 ⟨ALL, cLL, rfl, hs, hb⟩
  replace HT := Lib.hid (HT.out.next hb)
  replace HA := Lib.hid (HA.out.next hb)
  replace X1 := Lib.hid (X1.out.next hb)
  replace P1 := Lib.hid (P1.out.next hb)
  replace G := Lib.hid (G.out.next hb)
  replace HBL := Lib.hid (HBL.out.trans (hb.mono HBL.out.size))
  have LL := Lib.hid hs
  clear hb hs
  go_wp2_with fail
  refine (pput_any L k HK.out (by have := HK2.out; omega) E HX1.out p HX2.out ALL cLL w5 LL.out).mono ?_
  rintro e w6 ⟨AO, cO, rfl, hs, hb⟩
  replace HT := Lib.hid (HT.out.next hb)
  replace HA := Lib.hid (HA.out.next hb)
  replace X1 := Lib.hid (X1.out.next hb)
  replace P1 := Lib.hid (P1.out.next hb)
  replace G := Lib.hid (G.out.next hb)
  replace LL := Lib.hid (LL.out.next hb)
  replace HBL := Lib.hid (HBL.out.trans (hb.mono HBL.out.size))
  have O := Lib.hid hs
  clear hb hs
  go_wp2
  go_ret2
  exact ⟨_, _, rfl, O.out, HBL.out⟩
theorem penc_any (l : List K) (n : Nat) (hn : n = l.length) (hn3 : n ≤ 9223372036854775807) (A : Option Addr) (c : Nat) (r : Rg) (hin : InR r) (E : Int) (p : List Nat) (hE : encX l r = (E, p)) (w : World) (hT : Tabs w) (hA : Ks w w.heap.size A l) : Calls Tryz.prog 6 #[.slice A n c, .agg #[.int .i64 r.t.ser, .int .i64 r.t.kind, .int .i64 r.t.frm, .int .i64 r.t.till, .int .i64 r.t.cls, .int .i64 r.t.card, .int .i64 r.t.seat, .int .i64 r.t.day, .int .i64 r.t.days, .int .i64 r.t.uses, .int .i64 r.t.epoch, .int .i64 r.key, .int .i64 r.left, .int .i64 r.inn, .int .i64 r.ver]] w fun e w' => ∃ A' c', e = .returned (.tuple #[.slice A' (p.length : Nat) c', .int .i64 E]) ∧ Bs w' w'.heap.size p A' c' ∧ Below w.heap.size w w' := by
  cases h1 : isR l
  · exact penc_a l n hn hn3 A c r hin E p hE w hT hA h1
  · by_cases h2 : (lputX r).1 = 0
    · by_cases h3 : findE l r.key = 0
      · exact penc_d l n hn hn3 A c r hin E p hE w hT hA h1 h2 h3
      · exact penc_c l n hn hn3 A c r hin E p hE w hT hA h1 h2 h3
    · exact penc_b l n hn hn3 A c r hin E p hE w hT hA h1 h2
end Go.Proofs.YtaokhkbfiplfmaaGreatDoor
end
section
namespace Go.Proofs.YtaokhkbfiplfmaaGreatDoor
set_option linter.unusedVariables false
open Go.ChangeShapes Go.WideShapes Go.ChangeAt Go.RowKit

def InT (t : Tk) : Prop := In64 t.ser ∧ In64 t.kind ∧ In64 t.frm ∧ In64 t.till ∧ In64 t.cls ∧ In64 t.card ∧ In64 t.seat ∧ In64 t.day ∧ In64 t.days ∧ In64 t.uses ∧ In64 t.epoch
end Go.Proofs.YtaokhkbfiplfmaaGreatDoor
end
