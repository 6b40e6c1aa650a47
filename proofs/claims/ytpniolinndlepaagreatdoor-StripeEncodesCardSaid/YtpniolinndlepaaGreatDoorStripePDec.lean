/-
  Contract for the landed Decode. Conditions: the slices read as keys and bytes, at most 1048576 bytes; sha's tables hold what its text lays.
-/
import Derived.Test.YtpniolinndlepaaGreatDoorStripePCatch
namespace Go.Proofs.YtpniolinndlepaaGreatDoor
set_option linter.unusedVariables false
open Go.ChangeShapes Go.WideShapes Go.ChangeAt Go.RowKit

theorem setrow_bs {w : World} {B X : Nat} {s : List Nat} {A : Option Addr} {c : Nat} {r : Rg} {cs : Array Value} (h : Bs w B s A c) (hX : RBox w X r) : Bs (w.setRow X cs) B s A c := by
  refine ⟨fun k u hu => ?_, h.nil, h.len, h.cap, h.lt⟩
  obtain ⟨ad, e, hlt, hc⟩ := h.rd k u hu
  refine ⟨ad, e, hlt, ?_⟩
  by_cases hb : X = (ad.add k).block
  · exfalso
    obtain ⟨x, hx⟩ : ∃ x : Nat, u = .int .u8 x := by
      simp only [U8, List.getElem?_map, Option.map_eq_some_iff] at hu
      obtain ⟨x, _, rfl⟩ := hu
      exact ⟨x, rfl⟩
    subst hx
    unfold World.cell? at hc
    rw [← hb, hX] at hc
    simp only at hc
    simp at hc
    have hm := List.mem_of_getElem? hc.2
    simp at hm
  · exact (cell_setRow_other w X cs _ (fun e => hb e.symm)).trans hc
theorem res_row_err {fn : Func} {p q : Tmp} (h : fn.results = #[.cell p 28, .cell q 31]) (tmps : Array Value) (w : World) (g g2 : Nat) (cs : Array Value) (E : Int) (t : TypeId)
    (hp : tmps.getD p undef = .pointer (some ⟨g, 0, none⟩)) (hq : tmps.getD q undef = .pointer (some ⟨g2, 0, none⟩)) (hg : w.heap[g]? = some (.cells cs t (0, 0))) (hi : (Tryz.prog.info? 28).map (·.size) = some cs.size) (he : w.cell? ⟨g2, 0, none⟩ = some (.int .i64 E)) :
    (results fn tmps).run Tryz.prog w = .ok (.tuple #[.agg cs, .int .i64 E]) w := by
  have hp' : tmps[p]?.getD undef = .pointer (some ⟨g, 0, none⟩) := by simpa using hp
  have hq' : tmps[q]?.getD undef = .pointer (some ⟨g2, 0, none⟩) := by simpa using hq
  have h1 := run_loadVar_row (P := Tryz.prog) w g t 28 cs (0, 0) _ hg Tryz.underlying28 rfl hi
  have h2 : (loadVar 31 ⟨g2, 0, none⟩).run Tryz.prog w = .ok (.int .i64 E) w := by simp [go_sem, he]
  simp [results, h, hp', hq', asAddr, h1, h2]
set_option maxRecDepth 100000 in
set_option maxHeartbeats 1600000 in
theorem pdec_a (l : List K) (n : Nat) (hn : n = l.length) (hn3 : n ≤ 9223372036854775807) (b : List Nat) (m : Nat) (hm : m = b.length) (hm2 : m ≤ 1048576) (A : Option Addr) (c : Nat) (B : Option Addr) (d : Nat) (E : Int) (r : Rg) (hE : decX l b = (E, r)) (w : World) (hT : Tabs w) (hA : Ks w w.heap.size A l) (hB : Bs w w.heap.size b B d) (h1 : isR l = false) : Calls Tryz.prog 14 #[.slice A n c, .slice B m d] w fun e w' => e = .returned (.tuple #[.agg #[.int .i64 r.t.ser, .int .i64 r.t.kind, .int .i64 r.t.frm, .int .i64 r.t.till, .int .i64 r.t.cls, .int .i64 r.t.card, .int .i64 r.t.seat, .int .i64 r.t.day, .int .i64 r.t.days, .int .i64 r.t.uses, .int .i64 r.t.epoch, .int .i64 r.key, .int .i64 r.left, .int .i64 r.inn, .int .i64 r.ver], .int .i64 E]) ∧ Below w.heap.size w w' := by
  have hmf : ∀ (fn : Fn) (first cap : Array Value) (w : World), (Instr.makeFunc fn first cap).run Tryz.prog w = .ok (.func fn first cap) w := fun _ _ _ _ => rfl
  obtain ⟨rfl, rfl⟩ : E = 1 ∧ r = zeroR := by rw [decX, if_pos h1] at hE; exact ⟨(Prod.mk.inj hE).1.symm, (Prod.mk.inj hE).2.symm⟩
  have H1 := Lib.hid h1
  clear hE h1
  have HN := Lib.hid hn
  have HM := Lib.hid hm
  have HT := Lib.hid hT
  have HA := Lib.hid hA
  have HB := Lib.hid hB
  clear hn hm hT hA hB
  go_enter_defers Tryz.func14, Tryz.ntmps14
  go_wp2_with fail
  obtain ⟨w0, hw⟩ : ∃ w0, w0 = (w.alloc (.cells #[.int .i64 0, .int .i64 0, .int .i64 0, .int .i64 0, .int .i64 0, .int .i64 0, .int .i64 0, .int .i64 0, .int .i64 0, .int .i64 0, .int .i64 0, .int .i64 0, .int .i64 0, .int .i64 0, .int .i64 0] 28)).alloc (.cells #[.int .i64 0] 31) := ⟨_, rfl⟩
  rw [← hw]
  have XD := Lib.hid (show RBox w0 (w.heap.size) zeroR by rw [hw]; exact (RBox.new w zeroR).alloc _)
  have XF := Lib.hid (show w0.heap[w.heap.size + 1]? = some (.cells #[.int .i64 0] 31 (0, 0)) by rw [hw, show w.heap.size + 1 = (w.alloc (.cells #[.int .i64 0, .int .i64 0, .int .i64 0, .int .i64 0, .int .i64 0, .int .i64 0, .int .i64 0, .int .i64 0, .int .i64 0, .int .i64 0, .int .i64 0, .int .i64 0, .int .i64 0, .int .i64 0, .int .i64 0] 28)).heap.size from (World.size_alloc _ _).symm]; exact heap_alloc_new _ _)
  have HBL := Lib.hid (show Below w.heap.size w w0 by rw [hw]; exact (below_lit w #[.int .i64 0, .int .i64 0, .int .i64 0, .int .i64 0, .int .i64 0, .int .i64 0, .int .i64 0, .int .i64 0, .int .i64 0, .int .i64 0, .int .i64 0, .int .i64 0, .int .i64 0, .int .i64 0, .int .i64 0] 28).trans ((below_lit _ _ _).mono (below_lit w #[.int .i64 0, .int .i64 0, .int .i64 0, .int .i64 0, .int .i64 0, .int .i64 0, .int .i64 0, .int .i64 0, .int .i64 0, .int .i64 0, .int .i64 0, .int .i64 0, .int .i64 0, .int .i64 0, .int .i64 0] 28).size))
  clear hw
  go_wp2_with fail
  refine (pis_named l n HN.out false H1.out A c w0 (HA.out.next HBL.out) hn3).mono ?_
  rintro e w1 ⟨rfl, hb⟩
  replace XD := Lib.hid (XD.out.next hb)
  replace XF := Lib.hid ((hb.block _ (Array.getElem?_eq_some_iff.1 XF.out).1).trans XF.out)
  replace HBL := Lib.hid (HBL.out.trans (hb.mono HBL.out.size))
  clear hb
  go_wp2_with fail
  refine (sdem_no 1 w1).mono ?_
  rintro e w2 ⟨rfl, hb⟩
  replace XD := Lib.hid (XD.out.next hb)
  replace XF := Lib.hid ((hb.block _ (Array.getElem?_eq_some_iff.1 XF.out).1).trans XF.out)
  replace HBL := Lib.hid (HBL.out.trans (hb.mono HBL.out.size))
  clear hb
  go_wp2
  refine leaves_cons (f := 32) (args := #[.pointer (some ⟨w.heap.size, 0, none⟩), .pointer (some ⟨w.heap.size + 1, 0, none⟩)]) (by simp) (by simp [go_sem]) ?_
  refine (dcatch_told (w.heap.size) (w.heap.size + 1) (by omega) zeroR 0 1 _ XD.out XF.out).mono ?_
  rintro e u' w'' ⟨rfl, rfl, hD, hF, hB⟩
  show Leaves _ _ _ _ [] .returning _
  exact ⟨.tuple #[.agg #[.int .i64 0, .int .i64 0, .int .i64 0, .int .i64 0, .int .i64 0, .int .i64 0, .int .i64 0, .int .i64 0, .int .i64 0, .int .i64 0, .int .i64 0, .int .i64 0, .int .i64 0, .int .i64 0, .int .i64 0], .int .i64 1], res_row_err (p := 4) (q := 5) Tryz.results14 _ w'' (w.heap.size) (w.heap.size + 1) _ 1 _ rfl rfl hD infoRd (cell_of_row w'' (w.heap.size + 1) 0 _ _ _ hF), rfl, HBL.out.trans (hB _ (Nat.le_refl _) (Nat.le_succ _))⟩
set_option maxRecDepth 100000 in
set_option maxHeartbeats 1600000 in
theorem pdec_b (l : List K) (n : Nat) (hn : n = l.length) (hn3 : n ≤ 9223372036854775807) (b : List Nat) (m : Nat) (hm : m = b.length) (hm2 : m ≤ 1048576) (A : Option Addr) (c : Nat) (B : Option Addr) (d : Nat) (E : Int) (r : Rg) (hE : decX l b = (E, r)) (w : World) (hT : Tabs w) (hA : Ks w w.heap.size A l) (hB : Bs w w.heap.size b B d) (h1 : isR l = true) (h2 : readE b ≠ 0) : Calls Tryz.prog 14 #[.slice A n c, .slice B m d] w fun e w' => e = .returned (.tuple #[.agg #[.int .i64 r.t.ser, .int .i64 r.t.kind, .int .i64 r.t.frm, .int .i64 r.t.till, .int .i64 r.t.cls, .int .i64 r.t.card, .int .i64 r.t.seat, .int .i64 r.t.day, .int .i64 r.t.days, .int .i64 r.t.uses, .int .i64 r.t.epoch, .int .i64 r.key, .int .i64 r.left, .int .i64 r.inn, .int .i64 r.ver], .int .i64 E]) ∧ Below w.heap.size w w' := by
  have hmf : ∀ (fn : Fn) (first cap : Array Value) (w : World), (Instr.makeFunc fn first cap).run Tryz.prog w = .ok (.func fn first cap) w := fun _ _ _ _ => rfl
  have h1' : ¬ isR l = false := by rw [h1]; decide
  obtain ⟨rfl, rfl⟩ : E = readE b ∧ r = zeroR := by rw [decX, if_neg h1', if_pos h2] at hE; exact ⟨(Prod.mk.inj hE).1.symm, (Prod.mk.inj hE).2.symm⟩
  obtain ⟨G, hG⟩ : ∃ G, readE b = G := ⟨_, rfl⟩
  rw [hG] at h2 ⊢
  have H1 := Lib.hid h1
  have H2 := Lib.hid h2
  have HG := Lib.hid hG
  clear hE h1 h1' h2 hG
  have HN := Lib.hid hn
  have HM := Lib.hid hm
  have HT := Lib.hid hT
  have HA := Lib.hid hA
  have HB := Lib.hid hB
  clear hn hm hT hA hB
  go_enter_defers Tryz.func14, Tryz.ntmps14
  go_wp2_with fail
  obtain ⟨w0, hw⟩ : ∃ w0, w0 = (w.alloc (.cells #[.int .i64 0, .int .i64 0, .int .i64 0, .int .i64 0, .int .i64 0, .int .i64 0, .int .i64 0, .int .i64 0, .int .i64 0, .int .i64 0, .int .i64 0, .int .i64 0, .int .i64 0, .int .i64 0, .int .i64 0] 28)).alloc (.cells #[.int .i64 0] 31) := ⟨_, rfl⟩
  rw [← hw]
  have XD := Lib.hid (show RBox w0 (w.heap.size) zeroR by rw [hw]; exact (RBox.new w zeroR).alloc _)
  have XF := Lib.hid (show w0.heap[w.heap.size + 1]? = some (.cells #[.int .i64 0] 31 (0, 0)) by rw [hw, show w.heap.size + 1 = (w.alloc (.cells #[.int .i64 0, .int .i64 0, .int .i64 0, .int .i64 0, .int .i64 0, .int .i64 0, .int .i64 0, .int .i64 0, .int .i64 0, .int .i64 0, .int .i64 0, .int .i64 0, .int .i64 0, .int .i64 0, .int .i64 0] 28)).heap.size from (World.size_alloc _ _).symm]; exact heap_alloc_new _ _)
  have HBL := Lib.hid (show Below w.heap.size w w0 by rw [hw]; exact (below_lit w #[.int .i64 0, .int .i64 0, .int .i64 0, .int .i64 0, .int .i64 0, .int .i64 0, .int .i64 0, .int .i64 0, .int .i64 0, .int .i64 0, .int .i64 0, .int .i64 0, .int .i64 0, .int .i64 0, .int .i64 0] 28).trans ((below_lit _ _ _).mono (below_lit w #[.int .i64 0, .int .i64 0, .int .i64 0, .int .i64 0, .int .i64 0, .int .i64 0, .int .i64 0, .int .i64 0, .int .i64 0, .int .i64 0, .int .i64 0, .int .i64 0, .int .i64 0, .int .i64 0, .int .i64 0] 28).size))
  clear hw
  go_wp2_with fail
  refine (pis_named l n HN.out true H1.out A c w0 (HA.out.next HBL.out) hn3).mono ?_
  rintro e w1 ⟨rfl, hb⟩
  replace XD := Lib.hid (XD.out.next hb)
  replace XF := Lib.hid ((hb.block _ (Array.getElem?_eq_some_iff.1 XF.out).1).trans XF.out)
  replace HBL := Lib.hid (HBL.out.trans (hb.mono HBL.out.size))
  clear hb
  go_wp2_with fail
  refine (sdem_ok 1 w1).mono ?_
  rintro e w2 ⟨rfl, hb⟩
  replace XD := Lib.hid (XD.out.next hb)
  replace XF := Lib.hid ((hb.block _ (Array.getElem?_eq_some_iff.1 XF.out).1).trans XF.out)
  replace HBL := Lib.hid (HBL.out.trans (hb.mono HBL.out.size))
  clear hb
  go_wp2_with fail
  refine (pparts_no b m HM.out hm2 G HG.out H2.out B d w2 (HB.out.next HBL.out)).mono ?_
  rintro e w3 ⟨rfl, hb⟩
  replace XD := Lib.hid (XD.out.next hb)
  replace XF := Lib.hid ((hb.block _ (Array.getElem?_eq_some_iff.1 XF.out).1).trans XF.out)
  replace HBL := Lib.hid (HBL.out.trans (hb.mono HBL.out.size))
  clear hb
  go_wp2
  refine leaves_cons (f := 32) (args := #[.pointer (some ⟨w.heap.size, 0, none⟩), .pointer (some ⟨w.heap.size + 1, 0, none⟩)]) (by simp) (by simp [go_sem]) ?_
  refine (dcatch_told (w.heap.size) (w.heap.size + 1) (by omega) zeroR 0 G _ XD.out XF.out).mono ?_
  rintro e u' w'' ⟨rfl, rfl, hD, hF, hB⟩
  show Leaves _ _ _ _ [] .returning _
  exact ⟨.tuple #[.agg #[.int .i64 0, .int .i64 0, .int .i64 0, .int .i64 0, .int .i64 0, .int .i64 0, .int .i64 0, .int .i64 0, .int .i64 0, .int .i64 0, .int .i64 0, .int .i64 0, .int .i64 0, .int .i64 0, .int .i64 0], .int .i64 G], res_row_err (p := 4) (q := 5) Tryz.results14 _ w'' (w.heap.size) (w.heap.size + 1) _ G _ rfl rfl hD infoRd (cell_of_row w'' (w.heap.size + 1) 0 _ _ _ hF), rfl, HBL.out.trans (hB _ (Nat.le_refl _) (Nat.le_succ _))⟩
set_option maxRecDepth 100000 in
set_option maxHeartbeats 1600000 in
theorem pdec_c (l : List K) (n : Nat) (hn : n = l.length) (hn3 : n ≤ 9223372036854775807) (b : List Nat) (m : Nat) (hm : m = b.length) (hm2 : m ≤ 1048576) (A : Option Addr) (c : Nat) (B : Option Addr) (d : Nat) (E : Int) (r : Rg) (hE : decX l b = (E, r)) (w : World) (hT : Tabs w) (hA : Ks w w.heap.size A l) (hB : Bs w w.heap.size b B d) (h1 : isR l = true) (h2 : readE b = 0) (h3 : (readL b).length < 10) : Calls Tryz.prog 14 #[.slice A n c, .slice B m d] w fun e w' => e = .returned (.tuple #[.agg #[.int .i64 r.t.ser, .int .i64 r.t.kind, .int .i64 r.t.frm, .int .i64 r.t.till, .int .i64 r.t.cls, .int .i64 r.t.card, .int .i64 r.t.seat, .int .i64 r.t.day, .int .i64 r.t.days, .int .i64 r.t.uses, .int .i64 r.t.epoch, .int .i64 r.key, .int .i64 r.left, .int .i64 r.inn, .int .i64 r.ver], .int .i64 E]) ∧ Below w.heap.size w w' := by
  have hmf : ∀ (fn : Fn) (first cap : Array Value) (w : World), (Instr.makeFunc fn first cap).run Tryz.prog w = .ok (.func fn first cap) w := fun _ _ _ _ => rfl
  have h1' : ¬ isR l = false := by rw [h1]; decide
  obtain ⟨rfl, rfl⟩ : E = 14 ∧ r = zeroR := by rw [decX, if_neg h1', if_neg (by omega), toldX, if_pos h3] at hE; exact ⟨(Prod.mk.inj hE).1.symm, (Prod.mk.inj hE).2.symm⟩
  have H1 := Lib.hid h1
  have H2 := Lib.hid h2
  have H3 := Lib.hid h3
  clear hE h1 h1' h2 h3
  have HN := Lib.hid hn
  have HM := Lib.hid hm
  have HT := Lib.hid hT
  have HA := Lib.hid hA
  have HB := Lib.hid hB
  clear hn hm hT hA hB
  go_enter_defers Tryz.func14, Tryz.ntmps14
  go_wp2_with fail
  obtain ⟨w0, hw⟩ : ∃ w0, w0 = (w.alloc (.cells #[.int .i64 0, .int .i64 0, .int .i64 0, .int .i64 0, .int .i64 0, .int .i64 0, .int .i64 0, .int .i64 0, .int .i64 0, .int .i64 0, .int .i64 0, .int .i64 0, .int .i64 0, .int .i64 0, .int .i64 0] 28)).alloc (.cells #[.int .i64 0] 31) := ⟨_, rfl⟩
  rw [← hw]
  have XD := Lib.hid (show RBox w0 (w.heap.size) zeroR by rw [hw]; exact (RBox.new w zeroR).alloc _)
  have XF := Lib.hid (show w0.heap[w.heap.size + 1]? = some (.cells #[.int .i64 0] 31 (0, 0)) by rw [hw, show w.heap.size + 1 = (w.alloc (.cells #[.int .i64 0, .int .i64 0, .int .i64 0, .int .i64 0, .int .i64 0, .int .i64 0, .int .i64 0, .int .i64 0, .int .i64 0, .int .i64 0, .int .i64 0, .int .i64 0, .int .i64 0, .int .i64 0, .int .i64 0] 28)).heap.size from (World.size_alloc _ _).symm]; exact heap_alloc_new _ _)
  have HBL := Lib.hid (show Below w.heap.size w w0 by rw [hw]; exact (below_lit w #[.int .i64 0, .int .i64 0, .int .i64 0, .int .i64 0, .int .i64 0, .int .i64 0, .int .i64 0, .int .i64 0, .int .i64 0, .int .i64 0, .int .i64 0, .int .i64 0, .int .i64 0, .int .i64 0, .int .i64 0] 28).trans ((below_lit _ _ _).mono (below_lit w #[.int .i64 0, .int .i64 0, .int .i64 0, .int .i64 0, .int .i64 0, .int .i64 0, .int .i64 0, .int .i64 0, .int .i64 0, .int .i64 0, .int .i64 0, .int .i64 0, .int .i64 0, .int .i64 0, .int .i64 0] 28).size))
  clear hw
  go_wp2_with fail
  refine (pis_named l n HN.out true H1.out A c w0 (HA.out.next HBL.out) hn3).mono ?_
  rintro e w1 ⟨rfl, hb⟩
  replace XD := Lib.hid (XD.out.next hb)
  replace XF := Lib.hid ((hb.block _ (Array.getElem?_eq_some_iff.1 XF.out).1).trans XF.out)
  replace HBL := Lib.hid (HBL.out.trans (hb.mono HBL.out.size))
  clear hb
  go_wp2_with fail
  refine (sdem_ok 1 w1).mono ?_
  rintro e w2 ⟨rfl, hb⟩
  replace XD := Lib.hid (XD.out.next hb)
  replace XF := Lib.hid ((hb.block _ (Array.getElem?_eq_some_iff.1 XF.out).1).trans XF.out)
  replace HBL := Lib.hid (HBL.out.trans (hb.mono HBL.out.size))
  clear hb
  go_wp2_with fail
  refine (pparts_short b m HM.out hm2 H2.out (readL b) rfl (readL b).length rfl H3.out B d w2 (HB.out.next HBL.out)).mono ?_
  rintro e w3 ⟨rfl, hb⟩
  replace XD := Lib.hid (XD.out.next hb)
  replace XF := Lib.hid ((hb.block _ (Array.getElem?_eq_some_iff.1 XF.out).1).trans XF.out)
  replace HBL := Lib.hid (HBL.out.trans (hb.mono HBL.out.size))
  clear hb
  go_wp2
  refine leaves_cons (f := 32) (args := #[.pointer (some ⟨w.heap.size, 0, none⟩), .pointer (some ⟨w.heap.size + 1, 0, none⟩)]) (by simp) (by simp [go_sem]) ?_
  refine (dcatch_told (w.heap.size) (w.heap.size + 1) (by omega) zeroR 0 14 _ XD.out XF.out).mono ?_
  rintro e u' w'' ⟨rfl, rfl, hD, hF, hB⟩
  show Leaves _ _ _ _ [] .returning _
  exact ⟨.tuple #[.agg #[.int .i64 0, .int .i64 0, .int .i64 0, .int .i64 0, .int .i64 0, .int .i64 0, .int .i64 0, .int .i64 0, .int .i64 0, .int .i64 0, .int .i64 0, .int .i64 0, .int .i64 0, .int .i64 0, .int .i64 0], .int .i64 14], res_row_err (p := 4) (q := 5) Tryz.results14 _ w'' (w.heap.size) (w.heap.size + 1) _ 14 _ rfl rfl hD infoRd (cell_of_row w'' (w.heap.size + 1) 0 _ _ _ hF), rfl, HBL.out.trans (hB _ (Nat.le_refl _) (Nat.le_succ _))⟩
set_option maxRecDepth 100000 in
set_option maxHeartbeats 1600000 in
theorem pdec_d (l : List K) (n : Nat) (hn : n = l.length) (hn3 : n ≤ 9223372036854775807) (b : List Nat) (m : Nat) (hm : m = b.length) (hm2 : m ≤ 1048576) (A : Option Addr) (c : Nat) (B : Option Addr) (d : Nat) (E : Int) (r : Rg) (hE : decX l b = (E, r)) (w : World) (hT : Tabs w) (hA : Ks w w.heap.size A l) (hB : Bs w w.heap.size b B d) (h1 : isR l = true) (h2 : readE b = 0) (h3 : ¬ (readL b).length < 10) (h4 : (lgetX (saidL (readL b))).1 ≠ 0) : Calls Tryz.prog 14 #[.slice A n c, .slice B m d] w fun e w' => e = .returned (.tuple #[.agg #[.int .i64 r.t.ser, .int .i64 r.t.kind, .int .i64 r.t.frm, .int .i64 r.t.till, .int .i64 r.t.cls, .int .i64 r.t.card, .int .i64 r.t.seat, .int .i64 r.t.day, .int .i64 r.t.days, .int .i64 r.t.uses, .int .i64 r.t.epoch, .int .i64 r.key, .int .i64 r.left, .int .i64 r.inn, .int .i64 r.ver], .int .i64 E]) ∧ Below w.heap.size w w' := by
  have hmf : ∀ (fn : Fn) (first cap : Array Value) (w : World), (Instr.makeFunc fn first cap).run Tryz.prog w = .ok (.func fn first cap) w := fun _ _ _ _ => rfl
  have h1' : ¬ isR l = false := by rw [h1]; decide
  obtain ⟨p, hp⟩ : ∃ p, readL b = p := ⟨_, rfl⟩
  rw [hp] at h3 h4
  obtain ⟨k, hk⟩ : ∃ k, p.length = k := ⟨_, rfl⟩
  obtain ⟨j, hj⟩ : ∃ j, k = j + 10 := ⟨k - 10, by omega⟩
  have HJ := Lib.hid (show j = (saidL p).length by rw [saidL, List.length_take]; omega)
  have HJ2 := Lib.hid (show 10 = (tailL p).length by rw [tailL, List.length_drop]; omega)
  obtain ⟨G, g, hG⟩ : ∃ G g, lgetX (saidL p) = (G, g) := ⟨_, _, rfl⟩
  have h4' : G ≠ 0 := by rw [hG] at h4; exact h4
  obtain ⟨rfl, rfl⟩ : E = G ∧ r = zeroR := by
    rw [decX, if_neg h1', if_neg (by omega), hp, toldX, if_neg (by omega), if_pos h4, hG] at hE
    exact ⟨(Prod.mk.inj hE).1.symm, (Prod.mk.inj hE).2.symm⟩
  have H1 := Lib.hid h1
  have H2 := Lib.hid h2
  have H4 := Lib.hid h4'
  have HP := Lib.hid hp
  have HK := Lib.hid hk
  have HJK := Lib.hid hj
  have HG := Lib.hid hG
  clear hE h1 h1' h2 h3 h4 h4' hp hk hj hG
  have HN := Lib.hid hn
  have HM := Lib.hid hm
  have HT := Lib.hid hT
  have HA := Lib.hid hA
  have HB := Lib.hid hB
  clear hn hm hT hA hB
  go_enter_defers Tryz.func14, Tryz.ntmps14
  go_wp2_with fail
  obtain ⟨w0, hw⟩ : ∃ w0, w0 = (w.alloc (.cells #[.int .i64 0, .int .i64 0, .int .i64 0, .int .i64 0, .int .i64 0, .int .i64 0, .int .i64 0, .int .i64 0, .int .i64 0, .int .i64 0, .int .i64 0, .int .i64 0, .int .i64 0, .int .i64 0, .int .i64 0] 28)).alloc (.cells #[.int .i64 0] 31) := ⟨_, rfl⟩
  rw [← hw]
  have XD := Lib.hid (show RBox w0 (w.heap.size) zeroR by rw [hw]; exact (RBox.new w zeroR).alloc _)
  have XF := Lib.hid (show w0.heap[w.heap.size + 1]? = some (.cells #[.int .i64 0] 31 (0, 0)) by rw [hw, show w.heap.size + 1 = (w.alloc (.cells #[.int .i64 0, .int .i64 0, .int .i64 0, .int .i64 0, .int .i64 0, .int .i64 0, .int .i64 0, .int .i64 0, .int .i64 0, .int .i64 0, .int .i64 0, .int .i64 0, .int .i64 0, .int .i64 0, .int .i64 0] 28)).heap.size from (World.size_alloc _ _).symm]; exact heap_alloc_new _ _)
  have HBL := Lib.hid (show Below w.heap.size w w0 by rw [hw]; exact (below_lit w #[.int .i64 0, .int .i64 0, .int .i64 0, .int .i64 0, .int .i64 0, .int .i64 0, .int .i64 0, .int .i64 0, .int .i64 0, .int .i64 0, .int .i64 0, .int .i64 0, .int .i64 0, .int .i64 0, .int .i64 0] 28).trans ((below_lit _ _ _).mono (below_lit w #[.int .i64 0, .int .i64 0, .int .i64 0, .int .i64 0, .int .i64 0, .int .i64 0, .int .i64 0, .int .i64 0, .int .i64 0, .int .i64 0, .int .i64 0, .int .i64 0, .int .i64 0, .int .i64 0, .int .i64 0] 28).size))
  clear hw
  go_wp2_with fail
  refine (pis_named l n HN.out true H1.out A c w0 (HA.out.next HBL.out) hn3).mono ?_
  rintro e w1 ⟨rfl, hb⟩
  replace XD := Lib.hid (XD.out.next hb)
  replace XF := Lib.hid ((hb.block _ (Array.getElem?_eq_some_iff.1 XF.out).1).trans XF.out)
  replace HBL := Lib.hid (HBL.out.trans (hb.mono HBL.out.size))
  clear hb
  go_wp2_with fail
  refine (sdem_ok 1 w1).mono ?_
  rintro e w2 ⟨rfl, hb⟩
  replace XD := Lib.hid (XD.out.next hb)
  replace XF := Lib.hid ((hb.block _ (Array.getElem?_eq_some_iff.1 XF.out).1).trans XF.out)
  replace HBL := Lib.hid (HBL.out.trans (hb.mono HBL.out.size))
  clear hb
  go_wp2_with fail
  refine (pparts_ok b m HM.out hm2 H2.out p HP.out k j HK.out HJK.out B d w2 (HB.out.next HBL.out)).mono ?_
  rintro e w3 ⟨A1, c1, A2, c2, rfl, hs1, hs2, hb⟩
  replace XD := Lib.hid (XD.out.next hb)
  replace XF := Lib.hid ((hb.block _ (Array.getElem?_eq_some_iff.1 XF.out).1).trans XF.out)
  replace HBL := Lib.hid (HBL.out.trans (hb.mono HBL.out.size))
  clear hb
  have S1 := Lib.hid hs1
  clear hs1
  have S2 := Lib.hid hs2
  clear hs2
  go_wp2_with fail
  refine (pwhat_no (saidL p) j HJ.out A1 c1 w3 S1.out E g HG.out H4.out).mono ?_
  rintro e w4 ⟨rfl, hb⟩
  replace XD := Lib.hid (XD.out.next hb)
  replace XF := Lib.hid ((hb.block _ (Array.getElem?_eq_some_iff.1 XF.out).1).trans XF.out)
  replace S1 := Lib.hid (S1.out.next hb)
  replace S2 := Lib.hid (S2.out.next hb)
  replace HBL := Lib.hid (HBL.out.trans (hb.mono HBL.out.size))
  clear hb
  go_wp2
  refine leaves_cons (f := 32) (args := #[.pointer (some ⟨w.heap.size, 0, none⟩), .pointer (some ⟨w.heap.size + 1, 0, none⟩)]) (by simp) (by simp [go_sem]) ?_
  refine (dcatch_told (w.heap.size) (w.heap.size + 1) (by omega) zeroR 0 E _ XD.out XF.out).mono ?_
  rintro e u' w'' ⟨rfl, rfl, hD, hF, hB⟩
  show Leaves _ _ _ _ [] .returning _
  exact ⟨.tuple #[.agg #[.int .i64 0, .int .i64 0, .int .i64 0, .int .i64 0, .int .i64 0, .int .i64 0, .int .i64 0, .int .i64 0, .int .i64 0, .int .i64 0, .int .i64 0, .int .i64 0, .int .i64 0, .int .i64 0, .int .i64 0], .int .i64 E], res_row_err (p := 4) (q := 5) Tryz.results14 _ w'' (w.heap.size) (w.heap.size + 1) _ E _ rfl rfl hD infoRd (cell_of_row w'' (w.heap.size + 1) 0 _ _ _ hF), rfl, HBL.out.trans (hB _ (Nat.le_refl _) (Nat.le_succ _))⟩
set_option maxRecDepth 100000 in
set_option maxHeartbeats 1600000 in
theorem pdec_e (l : List K) (n : Nat) (hn : n = l.length) (hn3 : n ≤ 9223372036854775807) (b : List Nat) (m : Nat) (hm : m = b.length) (hm2 : m ≤ 1048576) (A : Option Addr) (c : Nat) (B : Option Addr) (d : Nat) (E : Int) (r : Rg) (hE : decX l b = (E, r)) (w : World) (hT : Tabs w) (hA : Ks w w.heap.size A l) (hB : Bs w w.heap.size b B d) (h1 : isR l = true) (h2 : readE b = 0) (h3 : ¬ (readL b).length < 10) (h4 : (lgetX (saidL (readL b))).1 = 0) (h5 : findE l (lgetX (saidL (readL b))).2.key ≠ 0) : Calls Tryz.prog 14 #[.slice A n c, .slice B m d] w fun e w' => e = .returned (.tuple #[.agg #[.int .i64 r.t.ser, .int .i64 r.t.kind, .int .i64 r.t.frm, .int .i64 r.t.till, .int .i64 r.t.cls, .int .i64 r.t.card, .int .i64 r.t.seat, .int .i64 r.t.day, .int .i64 r.t.days, .int .i64 r.t.uses, .int .i64 r.t.epoch, .int .i64 r.key, .int .i64 r.left, .int .i64 r.inn, .int .i64 r.ver], .int .i64 E]) ∧ Below w.heap.size w w' := by
  have hmf : ∀ (fn : Fn) (first cap : Array Value) (w : World), (Instr.makeFunc fn first cap).run Tryz.prog w = .ok (.func fn first cap) w := fun _ _ _ _ => rfl
  have h1' : ¬ isR l = false := by rw [h1]; decide
  obtain ⟨p, hp⟩ : ∃ p, readL b = p := ⟨_, rfl⟩
  rw [hp] at h3 h4 h5
  obtain ⟨k, hk⟩ : ∃ k, p.length = k := ⟨_, rfl⟩
  obtain ⟨j, hj⟩ : ∃ j, k = j + 10 := ⟨k - 10, by omega⟩
  have HJ := Lib.hid (show j = (saidL p).length by rw [saidL, List.length_take]; omega)
  have HJ2 := Lib.hid (show 10 = (tailL p).length by rw [tailL, List.length_drop]; omega)
  obtain ⟨g, hG⟩ : ∃ g, lgetX (saidL p) = (0, g) := ⟨(lgetX (saidL p)).2, by rw [← h4]⟩
  have hL := slget_len hG
  rw [hG] at h5
  obtain ⟨G, hF⟩ : ∃ G, findE l g.key = G := ⟨_, rfl⟩
  have h5' : G ≠ 0 := by rw [← hF]; exact h5
  obtain ⟨rfl, rfl⟩ : E = G ∧ r = zeroR := by
    rw [decX, if_neg h1', if_neg (by omega), hp, toldX, if_neg (by omega), if_neg (by omega), hG, if_pos h5, hF] at hE
    exact ⟨(Prod.mk.inj hE).1.symm, (Prod.mk.inj hE).2.symm⟩
  have H5 := Lib.hid h5'
  have HF := Lib.hid hF
  have H1 := Lib.hid h1
  have H2 := Lib.hid h2
  have HP := Lib.hid hp
  have HK := Lib.hid hk
  have HJK := Lib.hid hj
  have HG := Lib.hid hG
  have HJL := Lib.hid (show j ≤ 3999 by have := HJ.out; omega)
  clear hE h1 h1' h2 h3 h4 h5 h5' hp hk hj hG hF hL
  have HN := Lib.hid hn
  have HM := Lib.hid hm
  have HT := Lib.hid hT
  have HA := Lib.hid hA
  have HB := Lib.hid hB
  clear hn hm hT hA hB
  go_enter_defers Tryz.func14, Tryz.ntmps14
  go_wp2_with fail
  obtain ⟨w0, hw⟩ : ∃ w0, w0 = (w.alloc (.cells #[.int .i64 0, .int .i64 0, .int .i64 0, .int .i64 0, .int .i64 0, .int .i64 0, .int .i64 0, .int .i64 0, .int .i64 0, .int .i64 0, .int .i64 0, .int .i64 0, .int .i64 0, .int .i64 0, .int .i64 0] 28)).alloc (.cells #[.int .i64 0] 31) := ⟨_, rfl⟩
  rw [← hw]
  have XD := Lib.hid (show RBox w0 (w.heap.size) zeroR by rw [hw]; exact (RBox.new w zeroR).alloc _)
  have XF := Lib.hid (show w0.heap[w.heap.size + 1]? = some (.cells #[.int .i64 0] 31 (0, 0)) by rw [hw, show w.heap.size + 1 = (w.alloc (.cells #[.int .i64 0, .int .i64 0, .int .i64 0, .int .i64 0, .int .i64 0, .int .i64 0, .int .i64 0, .int .i64 0, .int .i64 0, .int .i64 0, .int .i64 0, .int .i64 0, .int .i64 0, .int .i64 0, .int .i64 0] 28)).heap.size from (World.size_alloc _ _).symm]; exact heap_alloc_new _ _)
  have HBL := Lib.hid (show Below w.heap.size w w0 by rw [hw]; exact (below_lit w #[.int .i64 0, .int .i64 0, .int .i64 0, .int .i64 0, .int .i64 0, .int .i64 0, .int .i64 0, .int .i64 0, .int .i64 0, .int .i64 0, .int .i64 0, .int .i64 0, .int .i64 0, .int .i64 0, .int .i64 0] 28).trans ((below_lit _ _ _).mono (below_lit w #[.int .i64 0, .int .i64 0, .int .i64 0, .int .i64 0, .int .i64 0, .int .i64 0, .int .i64 0, .int .i64 0, .int .i64 0, .int .i64 0, .int .i64 0, .int .i64 0, .int .i64 0, .int .i64 0, .int .i64 0] 28).size))
  clear hw
  go_wp2_with fail
  refine (pis_named l n HN.out true H1.out A c w0 (HA.out.next HBL.out) hn3).mono ?_
  rintro e w1 ⟨rfl, hb⟩
  replace XD := Lib.hid (XD.out.next hb)
  replace XF := Lib.hid ((hb.block _ (Array.getElem?_eq_some_iff.1 XF.out).1).trans XF.out)
  replace HBL := Lib.hid (HBL.out.trans (hb.mono HBL.out.size))
  clear hb
  go_wp2_with fail
  refine (sdem_ok 1 w1).mono ?_
  rintro e w2 ⟨rfl, hb⟩
  replace XD := Lib.hid (XD.out.next hb)
  replace XF := Lib.hid ((hb.block _ (Array.getElem?_eq_some_iff.1 XF.out).1).trans XF.out)
  replace HBL := Lib.hid (HBL.out.trans (hb.mono HBL.out.size))
  clear hb
  go_wp2_with fail
  refine (pparts_ok b m HM.out hm2 H2.out p HP.out k j HK.out HJK.out B d w2 (HB.out.next HBL.out)).mono ?_
  rintro e w3 ⟨A1, c1, A2, c2, rfl, hs1, hs2, hb⟩
  replace XD := Lib.hid (XD.out.next hb)
  replace XF := Lib.hid ((hb.block _ (Array.getElem?_eq_some_iff.1 XF.out).1).trans XF.out)
  replace HBL := Lib.hid (HBL.out.trans (hb.mono HBL.out.size))
  clear hb
  have S1 := Lib.hid hs1
  clear hs1
  have S2 := Lib.hid hs2
  clear hs2
  go_wp2_with fail
  refine (pwhat_ok (saidL p) j HJ.out A1 c1 w3 S1.out g HG.out).mono ?_
  rintro e w4 ⟨rfl, hb⟩
  replace XD := Lib.hid (XD.out.next hb)
  replace XF := Lib.hid ((hb.block _ (Array.getElem?_eq_some_iff.1 XF.out).1).trans XF.out)
  replace S1 := Lib.hid (S1.out.next hb)
  replace S2 := Lib.hid (S2.out.next hb)
  replace HBL := Lib.hid (HBL.out.trans (hb.mono HBL.out.size))
  clear hb
  go_wp2_with ((with_reducible refine at_store 4 ?_); refine wpList_store_named (o := ⟨none, .store 28 (.tmp 4) (.tmp 18), _, _, _, _⟩) rfl 28 (.tmp 4) (.tmp 18) rfl (w.heap.size) #[.int .i64 g.t.ser, .int .i64 g.t.kind, .int .i64 g.t.frm, .int .i64 g.t.till, .int .i64 g.t.cls, .int .i64 g.t.card, .int .i64 g.t.seat, .int .i64 g.t.day, .int .i64 g.t.days, .int .i64 g.t.uses, .int .i64 g.t.epoch, .int .i64 g.key, .int .i64 g.left, .int .i64 g.inn, .int .i64 g.ver] rfl rfl 28 #[.int .i64 0, .int .i64 0, .int .i64 0, .int .i64 0, .int .i64 0, .int .i64 0, .int .i64 0, .int .i64 0, .int .i64 0, .int .i64 0, .int .i64 0, .int .i64 0, .int .i64 0, .int .i64 0, .int .i64 0] XD.out infoRd rfl (rg_one _ _ _ _ _ _ _ _ _ _ _ _ _ _ _) ?_; intro w20 hw20; have XD2 := Lib.hid (show RBox w20 (w.heap.size) g by rw [hw20.out]; exact setRow_heap _ _ _ _ _ _ XD.out); have XF2 := Lib.hid (show w20.heap[w.heap.size + 1]? = some (.cells #[.int .i64 0] 31 (0, 0)) by rw [hw20.out, setRow_other _ _ _ _ (by omega)]; exact XF.out); have HB2 := Lib.hid (show Below w.heap.size w w20 by rw [hw20.out]; exact below_setRow HBL.out (Nat.le_refl _) _); have T1 := Lib.hid (show Bs w20 w20.heap.size (saidL p) A1 c1 by rw [hw20.out, size_setRow]; exact setrow_bs S1.out XD.out); have T2 := Lib.hid (show Bs w20 w20.heap.size (tailL p) A2 c2 by rw [hw20.out, size_setRow]; exact setrow_bs S2.out XD.out); clear XD XF HBL S1 S2 hw20; have XD := XD2; have XF := XF2; have HBL := HB2; have S1 := T1; have S2 := T2; clear XD2 XF2 HB2 T1 T2; obtain ⟨c0, c1, c2, c3, c4, c5, c6, c7, c8, c9, c10, c11, c12, c13, c14⟩ := XD.out.cells)
  clear c0 c1 c2 c3 c4 c5 c6 c7 c8 c9 c10 c11 c12 c13 c14
  go_wp2_with fail
  refine (prt_no l n HN.out hn3 g.key A c (saidL p) j HJ.out HJL.out A1 c1 w20 (HT.out.next HBL.out) (HA.out.next HBL.out) S1.out E HF.out H5.out).mono ?_
  rintro e w5 ⟨rfl, hb⟩
  replace XD := Lib.hid (XD.out.next hb)
  replace XF := Lib.hid ((hb.block _ (Array.getElem?_eq_some_iff.1 XF.out).1).trans XF.out)
  replace S1 := Lib.hid (S1.out.next hb)
  replace S2 := Lib.hid (S2.out.next hb)
  replace HBL := Lib.hid (HBL.out.trans (hb.mono HBL.out.size))
  clear hb
  go_wp2
  refine leaves_cons (f := 32) (args := #[.pointer (some ⟨w.heap.size, 0, none⟩), .pointer (some ⟨w.heap.size + 1, 0, none⟩)]) (by simp) (by simp [go_sem]) ?_
  refine (dcatch_told (w.heap.size) (w.heap.size + 1) (by omega) g 0 E _ XD.out XF.out).mono ?_
  rintro e u' w'' ⟨rfl, rfl, hD, hF, hB⟩
  show Leaves _ _ _ _ [] .returning _
  exact ⟨.tuple #[.agg #[.int .i64 0, .int .i64 0, .int .i64 0, .int .i64 0, .int .i64 0, .int .i64 0, .int .i64 0, .int .i64 0, .int .i64 0, .int .i64 0, .int .i64 0, .int .i64 0, .int .i64 0, .int .i64 0, .int .i64 0], .int .i64 E], res_row_err (p := 4) (q := 5) Tryz.results14 _ w'' (w.heap.size) (w.heap.size + 1) _ E _ rfl rfl hD infoRd (cell_of_row w'' (w.heap.size + 1) 0 _ _ _ hF), rfl, HBL.out.trans (hB _ (Nat.le_refl _) (Nat.le_succ _))⟩
set_option maxRecDepth 100000 in
set_option maxHeartbeats 1600000 in
theorem pdec_f (l : List K) (n : Nat) (hn : n = l.length) (hn3 : n ≤ 9223372036854775807) (b : List Nat) (m : Nat) (hm : m = b.length) (hm2 : m ≤ 1048576) (A : Option Addr) (c : Nat) (B : Option Addr) (d : Nat) (E : Int) (r : Rg) (hE : decX l b = (E, r)) (w : World) (hT : Tabs w) (hA : Ks w w.heap.size A l) (hB : Bs w w.heap.size b B d) (h1 : isR l = true) (h2 : readE b = 0) (h3 : ¬ (readL b).length < 10) (h4 : (lgetX (saidL (readL b))).1 = 0) (h5 : findE l (lgetX (saidL (readL b))).2.key = 0) (h6 : (tailL (readL b) == tagS (findK l (lgetX (saidL (readL b))).2.key).sec (saidL (readL b))) = false) : Calls Tryz.prog 14 #[.slice A n c, .slice B m d] w fun e w' => e = .returned (.tuple #[.agg #[.int .i64 r.t.ser, .int .i64 r.t.kind, .int .i64 r.t.frm, .int .i64 r.t.till, .int .i64 r.t.cls, .int .i64 r.t.card, .int .i64 r.t.seat, .int .i64 r.t.day, .int .i64 r.t.days, .int .i64 r.t.uses, .int .i64 r.t.epoch, .int .i64 r.key, .int .i64 r.left, .int .i64 r.inn, .int .i64 r.ver], .int .i64 E]) ∧ Below w.heap.size w w' := by
  have hmf : ∀ (fn : Fn) (first cap : Array Value) (w : World), (Instr.makeFunc fn first cap).run Tryz.prog w = .ok (.func fn first cap) w := fun _ _ _ _ => rfl
  have h1' : ¬ isR l = false := by rw [h1]; decide
  obtain ⟨p, hp⟩ : ∃ p, readL b = p := ⟨_, rfl⟩
  rw [hp] at h3 h4 h5 h6
  obtain ⟨k, hk⟩ : ∃ k, p.length = k := ⟨_, rfl⟩
  obtain ⟨j, hj⟩ : ∃ j, k = j + 10 := ⟨k - 10, by omega⟩
  have HJ := Lib.hid (show j = (saidL p).length by rw [saidL, List.length_take]; omega)
  have HJ2 := Lib.hid (show 10 = (tailL p).length by rw [tailL, List.length_drop]; omega)
  obtain ⟨g, hG⟩ : ∃ g, lgetX (saidL p) = (0, g) := ⟨(lgetX (saidL p)).2, by rw [← h4]⟩
  have hL := slget_len hG
  rw [hG] at h5 h6
  simp only at h5 h6
  obtain ⟨rfl, rfl⟩ : E = 11 ∧ r = zeroR := by
    rw [decX, if_neg h1', if_neg (by omega), hp, toldX, if_neg (by omega), if_neg (by omega), hG, if_neg (fun h => h h5), if_pos h6] at hE
    exact ⟨(Prod.mk.inj hE).1.symm, (Prod.mk.inj hE).2.symm⟩
  obtain ⟨T, hTg⟩ : ∃ T, tagS (findK l g.key).sec (saidL p) = T := ⟨_, rfl⟩
  have hTL : T.length = 10 := by rw [← hTg]; exact tagS_len _ _
  have hTT : ∀ x ∈ T, x < 256 := by rw [← hTg]; exact tagS_lt _ _
  rw [hTg] at h6
  have H5 := Lib.hid h5
  have H6 := Lib.hid h6
  have HTG := Lib.hid hTg
  have HTL := Lib.hid hTL
  have HTT := Lib.hid hTT
  have H1 := Lib.hid h1
  have H2 := Lib.hid h2
  have HP := Lib.hid hp
  have HK := Lib.hid hk
  have HJK := Lib.hid hj
  have HG := Lib.hid hG
  have HJL := Lib.hid (show j ≤ 3999 by have := HJ.out; omega)
  clear hE h1 h1' h2 h3 h4 h5 h6 hp hk hj hG hL hTg hTL hTT
  have HN := Lib.hid hn
  have HM := Lib.hid hm
  have HT := Lib.hid hT
  have HA := Lib.hid hA
  have HB := Lib.hid hB
  clear hn hm hT hA hB
  go_enter_defers Tryz.func14, Tryz.ntmps14
  go_wp2_with fail
  obtain ⟨w0, hw⟩ : ∃ w0, w0 = (w.alloc (.cells #[.int .i64 0, .int .i64 0, .int .i64 0, .int .i64 0, .int .i64 0, .int .i64 0, .int .i64 0, .int .i64 0, .int .i64 0, .int .i64 0, .int .i64 0, .int .i64 0, .int .i64 0, .int .i64 0, .int .i64 0] 28)).alloc (.cells #[.int .i64 0] 31) := ⟨_, rfl⟩
  rw [← hw]
  have XD := Lib.hid (show RBox w0 (w.heap.size) zeroR by rw [hw]; exact (RBox.new w zeroR).alloc _)
  have XF := Lib.hid (show w0.heap[w.heap.size + 1]? = some (.cells #[.int .i64 0] 31 (0, 0)) by rw [hw, show w.heap.size + 1 = (w.alloc (.cells #[.int .i64 0, .int .i64 0, .int .i64 0, .int .i64 0, .int .i64 0, .int .i64 0, .int .i64 0, .int .i64 0, .int .i64 0, .int .i64 0, .int .i64 0, .int .i64 0, .int .i64 0, .int .i64 0, .int .i64 0] 28)).heap.size from (World.size_alloc _ _).symm]; exact heap_alloc_new _ _)
  have HBL := Lib.hid (show Below w.heap.size w w0 by rw [hw]; exact (below_lit w #[.int .i64 0, .int .i64 0, .int .i64 0, .int .i64 0, .int .i64 0, .int .i64 0, .int .i64 0, .int .i64 0, .int .i64 0, .int .i64 0, .int .i64 0, .int .i64 0, .int .i64 0, .int .i64 0, .int .i64 0] 28).trans ((below_lit _ _ _).mono (below_lit w #[.int .i64 0, .int .i64 0, .int .i64 0, .int .i64 0, .int .i64 0, .int .i64 0, .int .i64 0, .int .i64 0, .int .i64 0, .int .i64 0, .int .i64 0, .int .i64 0, .int .i64 0, .int .i64 0, .int .i64 0] 28).size))
  clear hw
  go_wp2_with fail
  refine (pis_named l n HN.out true H1.out A c w0 (HA.out.next HBL.out) hn3).mono ?_
  rintro e w1 ⟨rfl, hb⟩
  replace XD := Lib.hid (XD.out.next hb)
  replace XF := Lib.hid ((hb.block _ (Array.getElem?_eq_some_iff.1 XF.out).1).trans XF.out)
  replace HBL := Lib.hid (HBL.out.trans (hb.mono HBL.out.size))
  clear hb
  go_wp2_with fail
  refine (sdem_ok 1 w1).mono ?_
  rintro e w2 ⟨rfl, hb⟩
  replace XD := Lib.hid (XD.out.next hb)
  replace XF := Lib.hid ((hb.block _ (Array.getElem?_eq_some_iff.1 XF.out).1).trans XF.out)
  replace HBL := Lib.hid (HBL.out.trans (hb.mono HBL.out.size))
  clear hb
  go_wp2_with fail
  refine (pparts_ok b m HM.out hm2 H2.out p HP.out k j HK.out HJK.out B d w2 (HB.out.next HBL.out)).mono ?_
  rintro e w3 ⟨A1, c1, A2, c2, rfl, hs1, hs2, hb⟩
  replace XD := Lib.hid (XD.out.next hb)
  replace XF := Lib.hid ((hb.block _ (Array.getElem?_eq_some_iff.1 XF.out).1).trans XF.out)
  replace HBL := Lib.hid (HBL.out.trans (hb.mono HBL.out.size))
  clear hb
  have S1 := Lib.hid hs1
  clear hs1
  have S2 := Lib.hid hs2
  clear hs2
  go_wp2_with fail
  refine (pwhat_ok (saidL p) j HJ.out A1 c1 w3 S1.out g HG.out).mono ?_
  rintro e w4 ⟨rfl, hb⟩
  replace XD := Lib.hid (XD.out.next hb)
  replace XF := Lib.hid ((hb.block _ (Array.getElem?_eq_some_iff.1 XF.out).1).trans XF.out)
  replace S1 := Lib.hid (S1.out.next hb)
  replace S2 := Lib.hid (S2.out.next hb)
  replace HBL := Lib.hid (HBL.out.trans (hb.mono HBL.out.size))
  clear hb
  go_wp2_with ((with_reducible refine at_store 4 ?_); refine wpList_store_named (o := ⟨none, .store 28 (.tmp 4) (.tmp 18), _, _, _, _⟩) rfl 28 (.tmp 4) (.tmp 18) rfl (w.heap.size) #[.int .i64 g.t.ser, .int .i64 g.t.kind, .int .i64 g.t.frm, .int .i64 g.t.till, .int .i64 g.t.cls, .int .i64 g.t.card, .int .i64 g.t.seat, .int .i64 g.t.day, .int .i64 g.t.days, .int .i64 g.t.uses, .int .i64 g.t.epoch, .int .i64 g.key, .int .i64 g.left, .int .i64 g.inn, .int .i64 g.ver] rfl rfl 28 #[.int .i64 0, .int .i64 0, .int .i64 0, .int .i64 0, .int .i64 0, .int .i64 0, .int .i64 0, .int .i64 0, .int .i64 0, .int .i64 0, .int .i64 0, .int .i64 0, .int .i64 0, .int .i64 0, .int .i64 0] XD.out infoRd rfl (rg_one _ _ _ _ _ _ _ _ _ _ _ _ _ _ _) ?_; intro w20 hw20; have XD2 := Lib.hid (show RBox w20 (w.heap.size) g by rw [hw20.out]; exact setRow_heap _ _ _ _ _ _ XD.out); have XF2 := Lib.hid (show w20.heap[w.heap.size + 1]? = some (.cells #[.int .i64 0] 31 (0, 0)) by rw [hw20.out, setRow_other _ _ _ _ (by omega)]; exact XF.out); have HB2 := Lib.hid (show Below w.heap.size w w20 by rw [hw20.out]; exact below_setRow HBL.out (Nat.le_refl _) _); have T1 := Lib.hid (show Bs w20 w20.heap.size (saidL p) A1 c1 by rw [hw20.out, size_setRow]; exact setrow_bs S1.out XD.out); have T2 := Lib.hid (show Bs w20 w20.heap.size (tailL p) A2 c2 by rw [hw20.out, size_setRow]; exact setrow_bs S2.out XD.out); clear XD XF HBL S1 S2 hw20; have XD := XD2; have XF := XF2; have HBL := HB2; have S1 := T1; have S2 := T2; clear XD2 XF2 HB2 T1 T2; obtain ⟨c0, c1, c2, c3, c4, c5, c6, c7, c8, c9, c10, c11, c12, c13, c14⟩ := XD.out.cells)
  clear c0 c1 c2 c3 c4 c5 c6 c7 c8 c9 c10 c11 c12 c13 c14
  go_wp2_with fail
  refine (prt_ok l n HN.out hn3 g.key A c (saidL p) j HJ.out HJL.out A1 c1 w20 (HT.out.next HBL.out) (HA.out.next HBL.out) S1.out H5.out T HTG.out).mono ?_
  rintro e w5 ⟨g9, cap, rfl, hs, hb⟩
  replace XD := Lib.hid (XD.out.next hb)
  replace XF := Lib.hid ((hb.block _ (Array.getElem?_eq_some_iff.1 XF.out).1).trans XF.out)
  replace S1 := Lib.hid (S1.out.next hb)
  replace S2 := Lib.hid (S2.out.next hb)
  replace HBL := Lib.hid (HBL.out.trans (hb.mono HBL.out.size))
  clear hb
  have G := Lib.hid hs
  clear hs
  go_wp2_with fail
  refine (sealsame_any (tailL p) T 10 10 HJ2.out HTL.out.symm A2 _ c2 cap w5 S2.out.rd G.out S2.out.lt HTT.out (by omega) (by omega)).mono ?_
  rintro e w6 ⟨rfl, hb⟩
  replace XD := Lib.hid (XD.out.next hb)
  replace XF := Lib.hid ((hb.block _ (Array.getElem?_eq_some_iff.1 XF.out).1).trans XF.out)
  replace S1 := Lib.hid (S1.out.next hb)
  replace S2 := Lib.hid (S2.out.next hb)
  replace G := Lib.hid (G.out.next hb)
  replace HBL := Lib.hid (HBL.out.trans (hb.mono HBL.out.size))
  clear hb
  rw [H6.out]
  go_wp2_with fail
  refine (sdem_no 11 w6).mono ?_
  rintro e w7 ⟨rfl, hb⟩
  replace XD := Lib.hid (XD.out.next hb)
  replace XF := Lib.hid ((hb.block _ (Array.getElem?_eq_some_iff.1 XF.out).1).trans XF.out)
  replace S1 := Lib.hid (S1.out.next hb)
  replace S2 := Lib.hid (S2.out.next hb)
  replace G := Lib.hid (G.out.next hb)
  replace HBL := Lib.hid (HBL.out.trans (hb.mono HBL.out.size))
  clear hb
  go_wp2
  refine leaves_cons (f := 32) (args := #[.pointer (some ⟨w.heap.size, 0, none⟩), .pointer (some ⟨w.heap.size + 1, 0, none⟩)]) (by simp) (by simp [go_sem]) ?_
  refine (dcatch_told (w.heap.size) (w.heap.size + 1) (by omega) g 0 11 _ XD.out XF.out).mono ?_
  rintro e u' w'' ⟨rfl, rfl, hD, hF, hB⟩
  show Leaves _ _ _ _ [] .returning _
  exact ⟨.tuple #[.agg #[.int .i64 0, .int .i64 0, .int .i64 0, .int .i64 0, .int .i64 0, .int .i64 0, .int .i64 0, .int .i64 0, .int .i64 0, .int .i64 0, .int .i64 0, .int .i64 0, .int .i64 0, .int .i64 0, .int .i64 0], .int .i64 11], res_row_err (p := 4) (q := 5) Tryz.results14 _ w'' (w.heap.size) (w.heap.size + 1) _ 11 _ rfl rfl hD infoRd (cell_of_row w'' (w.heap.size + 1) 0 _ _ _ hF), rfl, HBL.out.trans (hB _ (Nat.le_refl _) (Nat.le_succ _))⟩
set_option maxRecDepth 100000 in
set_option maxHeartbeats 1600000 in
theorem pdec_g (l : List K) (n : Nat) (hn : n = l.length) (hn3 : n ≤ 9223372036854775807) (b : List Nat) (m : Nat) (hm : m = b.length) (hm2 : m ≤ 1048576) (A : Option Addr) (c : Nat) (B : Option Addr) (d : Nat) (E : Int) (r : Rg) (hE : decX l b = (E, r)) (w : World) (hT : Tabs w) (hA : Ks w w.heap.size A l) (hB : Bs w w.heap.size b B d) (h1 : isR l = true) (h2 : readE b = 0) (h3 : ¬ (readL b).length < 10) (h4 : (lgetX (saidL (readL b))).1 = 0) (h5 : findE l (lgetX (saidL (readL b))).2.key = 0) (h6 : (tailL (readL b) == tagS (findK l (lgetX (saidL (readL b))).2.key).sec (saidL (readL b))) = true) : Calls Tryz.prog 14 #[.slice A n c, .slice B m d] w fun e w' => e = .returned (.tuple #[.agg #[.int .i64 r.t.ser, .int .i64 r.t.kind, .int .i64 r.t.frm, .int .i64 r.t.till, .int .i64 r.t.cls, .int .i64 r.t.card, .int .i64 r.t.seat, .int .i64 r.t.day, .int .i64 r.t.days, .int .i64 r.t.uses, .int .i64 r.t.epoch, .int .i64 r.key, .int .i64 r.left, .int .i64 r.inn, .int .i64 r.ver], .int .i64 E]) ∧ Below w.heap.size w w' := by
  have hmf : ∀ (fn : Fn) (first cap : Array Value) (w : World), (Instr.makeFunc fn first cap).run Tryz.prog w = .ok (.func fn first cap) w := fun _ _ _ _ => rfl
  have h1' : ¬ isR l = false := by rw [h1]; decide
  obtain ⟨p, hp⟩ : ∃ p, readL b = p := ⟨_, rfl⟩
  rw [hp] at h3 h4 h5 h6
  obtain ⟨k, hk⟩ : ∃ k, p.length = k := ⟨_, rfl⟩
  obtain ⟨j, hj⟩ : ∃ j, k = j + 10 := ⟨k - 10, by omega⟩
  have HJ := Lib.hid (show j = (saidL p).length by rw [saidL, List.length_take]; omega)
  have HJ2 := Lib.hid (show 10 = (tailL p).length by rw [tailL, List.length_drop]; omega)
  obtain ⟨g, hG⟩ : ∃ g, lgetX (saidL p) = (0, g) := ⟨(lgetX (saidL p)).2, by rw [← h4]⟩
  have hL := slget_len hG
  rw [hG] at h5 h6
  simp only at h5 h6
  obtain ⟨rfl, rfl⟩ : E = 0 ∧ r = g := by
    rw [decX, if_neg h1', if_neg (by omega), hp, toldX, if_neg (by omega), if_neg (by omega), hG, if_neg (fun h => h h5), if_neg (by rw [h6]; decide)] at hE
    exact ⟨(Prod.mk.inj hE).1.symm, (Prod.mk.inj hE).2.symm⟩
  obtain ⟨T, hTg⟩ : ∃ T, tagS (findK l r.key).sec (saidL p) = T := ⟨_, rfl⟩
  have hTL : T.length = 10 := by rw [← hTg]; exact tagS_len _ _
  have hTT : ∀ x ∈ T, x < 256 := by rw [← hTg]; exact tagS_lt _ _
  rw [hTg] at h6
  have H5 := Lib.hid h5
  have H6 := Lib.hid h6
  have HTG := Lib.hid hTg
  have HTL := Lib.hid hTL
  have HTT := Lib.hid hTT
  have H1 := Lib.hid h1
  have H2 := Lib.hid h2
  have HP := Lib.hid hp
  have HK := Lib.hid hk
  have HJK := Lib.hid hj
  have HG := Lib.hid hG
  have HJL := Lib.hid (show j ≤ 3999 by have := HJ.out; omega)
  clear hE h1 h1' h2 h3 h4 h5 h6 hp hk hj hG hL hTg hTL hTT
  have HN := Lib.hid hn
  have HM := Lib.hid hm
  have HT := Lib.hid hT
  have HA := Lib.hid hA
  have HB := Lib.hid hB
  clear hn hm hT hA hB
  go_enter_defers Tryz.func14, Tryz.ntmps14
  go_wp2_with fail
  obtain ⟨w0, hw⟩ : ∃ w0, w0 = (w.alloc (.cells #[.int .i64 0, .int .i64 0, .int .i64 0, .int .i64 0, .int .i64 0, .int .i64 0, .int .i64 0, .int .i64 0, .int .i64 0, .int .i64 0, .int .i64 0, .int .i64 0, .int .i64 0, .int .i64 0, .int .i64 0] 28)).alloc (.cells #[.int .i64 0] 31) := ⟨_, rfl⟩
  rw [← hw]
  have XD := Lib.hid (show RBox w0 (w.heap.size) zeroR by rw [hw]; exact (RBox.new w zeroR).alloc _)
  have XF := Lib.hid (show w0.heap[w.heap.size + 1]? = some (.cells #[.int .i64 0] 31 (0, 0)) by rw [hw, show w.heap.size + 1 = (w.alloc (.cells #[.int .i64 0, .int .i64 0, .int .i64 0, .int .i64 0, .int .i64 0, .int .i64 0, .int .i64 0, .int .i64 0, .int .i64 0, .int .i64 0, .int .i64 0, .int .i64 0, .int .i64 0, .int .i64 0, .int .i64 0] 28)).heap.size from (World.size_alloc _ _).symm]; exact heap_alloc_new _ _)
  have HBL := Lib.hid (show Below w.heap.size w w0 by rw [hw]; exact (below_lit w #[.int .i64 0, .int .i64 0, .int .i64 0, .int .i64 0, .int .i64 0, .int .i64 0, .int .i64 0, .int .i64 0, .int .i64 0, .int .i64 0, .int .i64 0, .int .i64 0, .int .i64 0, .int .i64 0, .int .i64 0] 28).trans ((below_lit _ _ _).mono (below_lit w #[.int .i64 0, .int .i64 0, .int .i64 0, .int .i64 0, .int .i64 0, .int .i64 0, .int .i64 0, .int .i64 0, .int .i64 0, .int .i64 0, .int .i64 0, .int .i64 0, .int .i64 0, .int .i64 0, .int .i64 0] 28).size))
  clear hw
  go_wp2_with fail
  refine (pis_named l n HN.out true H1.out A c w0 (HA.out.next HBL.out) hn3).mono ?_
  rintro e w1 ⟨rfl, hb⟩
  replace XD := Lib.hid (XD.out.next hb)
  replace XF := Lib.hid ((hb.block _ (Array.getElem?_eq_some_iff.1 XF.out).1).trans XF.out)
  replace HBL := Lib.hid (HBL.out.trans (hb.mono HBL.out.size))
  clear hb
  go_wp2_with fail
  refine (sdem_ok 1 w1).mono ?_
  rintro e w2 ⟨rfl, hb⟩
  replace XD := Lib.hid (XD.out.next hb)
  replace XF := Lib.hid ((hb.block _ (Array.getElem?_eq_some_iff.1 XF.out).1).trans XF.out)
  replace HBL := Lib.hid (HBL.out.trans (hb.mono HBL.out.size))
  clear hb
  go_wp2_with fail
  refine (pparts_ok b m HM.out hm2 H2.out p HP.out k j HK.out HJK.out B d w2 (HB.out.next HBL.out)).mono ?_
  rintro e w3 ⟨A1, c1, A2, c2, rfl, hs1, hs2, hb⟩
  replace XD := Lib.hid (XD.out.next hb)
  replace XF := Lib.hid ((hb.block _ (Array.getElem?_eq_some_iff.1 XF.out).1).trans XF.out)
  replace HBL := Lib.hid (HBL.out.trans (hb.mono HBL.out.size))
  clear hb
  have S1 := Lib.hid hs1
  clear hs1
  have S2 := Lib.hid hs2
  clear hs2
  go_wp2_with fail
  refine (pwhat_ok (saidL p) j HJ.out A1 c1 w3 S1.out r HG.out).mono ?_
  rintro e w4 ⟨rfl, hb⟩
  replace XD := Lib.hid (XD.out.next hb)
  replace XF := Lib.hid ((hb.block _ (Array.getElem?_eq_some_iff.1 XF.out).1).trans XF.out)
  replace S1 := Lib.hid (S1.out.next hb)
  replace S2 := Lib.hid (S2.out.next hb)
  replace HBL := Lib.hid (HBL.out.trans (hb.mono HBL.out.size))
  clear hb
  go_wp2_with ((with_reducible refine at_store 4 ?_); refine wpList_store_named (o := ⟨none, .store 28 (.tmp 4) (.tmp 18), _, _, _, _⟩) rfl 28 (.tmp 4) (.tmp 18) rfl (w.heap.size) #[.int .i64 r.t.ser, .int .i64 r.t.kind, .int .i64 r.t.frm, .int .i64 r.t.till, .int .i64 r.t.cls, .int .i64 r.t.card, .int .i64 r.t.seat, .int .i64 r.t.day, .int .i64 r.t.days, .int .i64 r.t.uses, .int .i64 r.t.epoch, .int .i64 r.key, .int .i64 r.left, .int .i64 r.inn, .int .i64 r.ver] rfl rfl 28 #[.int .i64 0, .int .i64 0, .int .i64 0, .int .i64 0, .int .i64 0, .int .i64 0, .int .i64 0, .int .i64 0, .int .i64 0, .int .i64 0, .int .i64 0, .int .i64 0, .int .i64 0, .int .i64 0, .int .i64 0] XD.out infoRd rfl (rg_one _ _ _ _ _ _ _ _ _ _ _ _ _ _ _) ?_; intro w20 hw20; have XD2 := Lib.hid (show RBox w20 (w.heap.size) r by rw [hw20.out]; exact setRow_heap _ _ _ _ _ _ XD.out); have XF2 := Lib.hid (show w20.heap[w.heap.size + 1]? = some (.cells #[.int .i64 0] 31 (0, 0)) by rw [hw20.out, setRow_other _ _ _ _ (by omega)]; exact XF.out); have HB2 := Lib.hid (show Below w.heap.size w w20 by rw [hw20.out]; exact below_setRow HBL.out (Nat.le_refl _) _); have T1 := Lib.hid (show Bs w20 w20.heap.size (saidL p) A1 c1 by rw [hw20.out, size_setRow]; exact setrow_bs S1.out XD.out); have T2 := Lib.hid (show Bs w20 w20.heap.size (tailL p) A2 c2 by rw [hw20.out, size_setRow]; exact setrow_bs S2.out XD.out); clear XD XF HBL S1 S2 hw20; have XD := XD2; have XF := XF2; have HBL := HB2; have S1 := T1; have S2 := T2; clear XD2 XF2 HB2 T1 T2; obtain ⟨c0, c1, c2, c3, c4, c5, c6, c7, c8, c9, c10, c11, c12, c13, c14⟩ := XD.out.cells)
  clear c0 c1 c2 c3 c4 c5 c6 c7 c8 c9 c10 c11 c12 c13 c14
  go_wp2_with fail
  refine (prt_ok l n HN.out hn3 r.key A c (saidL p) j HJ.out HJL.out A1 c1 w20 (HT.out.next HBL.out) (HA.out.next HBL.out) S1.out H5.out T HTG.out).mono ?_
  rintro e w5 ⟨g9, cap, rfl, hs, hb⟩
  replace XD := Lib.hid (XD.out.next hb)
  replace XF := Lib.hid ((hb.block _ (Array.getElem?_eq_some_iff.1 XF.out).1).trans XF.out)
  replace S1 := Lib.hid (S1.out.next hb)
  replace S2 := Lib.hid (S2.out.next hb)
  replace HBL := Lib.hid (HBL.out.trans (hb.mono HBL.out.size))
  clear hb
  have G := Lib.hid hs
  clear hs
  go_wp2_with fail
  refine (sealsame_any (tailL p) T 10 10 HJ2.out HTL.out.symm A2 _ c2 cap w5 S2.out.rd G.out S2.out.lt HTT.out (by omega) (by omega)).mono ?_
  rintro e w6 ⟨rfl, hb⟩
  replace XD := Lib.hid (XD.out.next hb)
  replace XF := Lib.hid ((hb.block _ (Array.getElem?_eq_some_iff.1 XF.out).1).trans XF.out)
  replace S1 := Lib.hid (S1.out.next hb)
  replace S2 := Lib.hid (S2.out.next hb)
  replace G := Lib.hid (G.out.next hb)
  replace HBL := Lib.hid (HBL.out.trans (hb.mono HBL.out.size))
  clear hb
  rw [H6.out]
  go_wp2_with fail
  refine (sdem_ok 11 w6).mono ?_
  rintro e w7 ⟨rfl, hb⟩
  replace XD := Lib.hid (XD.out.next hb)
  replace XF := Lib.hid ((hb.block _ (Array.getElem?_eq_some_iff.1 XF.out).1).trans XF.out)
  replace S1 := Lib.hid (S1.out.next hb)
  replace S2 := Lib.hid (S2.out.next hb)
  replace G := Lib.hid (G.out.next hb)
  replace HBL := Lib.hid (HBL.out.trans (hb.mono HBL.out.size))
  clear hb
  obtain ⟨c0, c1, c2, c3, c4, c5, c6, c7, c8, c9, c10, c11, c12, c13, c14⟩ := XD.out.cells
  go_wp2_with ((with_reducible refine at_store 4 ?_); refine wpList_store_named (o := ⟨none, .store 28 (.tmp 4) (.tmp 27), _, _, _, _⟩) rfl 28 (.tmp 4) (.tmp 27) rfl (w.heap.size) #[.int .i64 r.t.ser, .int .i64 r.t.kind, .int .i64 r.t.frm, .int .i64 r.t.till, .int .i64 r.t.cls, .int .i64 r.t.card, .int .i64 r.t.seat, .int .i64 r.t.day, .int .i64 r.t.days, .int .i64 r.t.uses, .int .i64 r.t.epoch, .int .i64 r.key, .int .i64 r.left, .int .i64 r.inn, .int .i64 r.ver] rfl rfl 28 #[.int .i64 r.t.ser, .int .i64 r.t.kind, .int .i64 r.t.frm, .int .i64 r.t.till, .int .i64 r.t.cls, .int .i64 r.t.card, .int .i64 r.t.seat, .int .i64 r.t.day, .int .i64 r.t.days, .int .i64 r.t.uses, .int .i64 r.t.epoch, .int .i64 r.key, .int .i64 r.left, .int .i64 r.inn, .int .i64 r.ver] XD.out infoRd rfl (rg_one _ _ _ _ _ _ _ _ _ _ _ _ _ _ _) ?_; intro w30 hw30; have XD2 := Lib.hid (show RBox w30 (w.heap.size) r by rw [hw30.out]; exact setRow_heap _ _ _ _ _ _ XD.out); have XF2 := Lib.hid (show w30.heap[w.heap.size + 1]? = some (.cells #[.int .i64 0] 31 (0, 0)) by rw [hw30.out, setRow_other _ _ _ _ (by omega)]; exact XF.out); have HB2 := Lib.hid (show Below w.heap.size w w30 by rw [hw30.out]; exact below_setRow HBL.out (Nat.le_refl _) _); clear c0 c1 c2 c3 c4 c5 c6 c7 c8 c9 c10 c11 c12 c13 c14 XD XF HBL hw30; have cF : w30.cell? ⟨w.heap.size + 1, 0, none⟩ = some (.int .i64 0) := cell_of_row w30 (w.heap.size + 1) 0 _ _ _ XF2.out; have zF := frozen_of_row w30 (w.heap.size + 1) 0 _ _ XF2.out)
  refine leaves_cons (f := 32) (args := #[.pointer (some ⟨w.heap.size, 0, none⟩), .pointer (some ⟨w.heap.size + 1, 0, none⟩)]) (by simp) (by simp [go_sem]) ?_
  refine (dcatch_idle _ _ _).mono ?_
  rintro e u' w'' ⟨rfl, rfl, rfl⟩
  show Leaves _ _ _ _ [] .returning _
  have hD9 := (heap_setCell_other w30 ⟨w.heap.size + 1, 0, none⟩ (w.heap.size) (.int .i64 0) (by simp)).trans XD2.out
  have hF9 := heap_setCell_same w30 (w.heap.size + 1) 0 _ _ (.int .i64 0) XF2.out
  exact ⟨.tuple #[.agg #[.int .i64 r.t.ser, .int .i64 r.t.kind, .int .i64 r.t.frm, .int .i64 r.t.till, .int .i64 r.t.cls, .int .i64 r.t.card, .int .i64 r.t.seat, .int .i64 r.t.day, .int .i64 r.t.days, .int .i64 r.t.uses, .int .i64 r.t.epoch, .int .i64 r.key, .int .i64 r.left, .int .i64 r.inn, .int .i64 r.ver], .int .i64 0], res_row_err (p := 4) (q := 5) Tryz.results14 _ _ (w.heap.size) (w.heap.size + 1) _ 0 _ rfl rfl hD9 infoRd (cell_of_row _ (w.heap.size + 1) 0 _ _ _ hF9), rfl, HB2.out.setCell (p := ⟨w.heap.size + 1, 0, none⟩) (Nat.le_succ _) _⟩
theorem pdec_any (l : List K) (n : Nat) (hn : n = l.length) (hn3 : n ≤ 9223372036854775807) (b : List Nat) (m : Nat) (hm : m = b.length) (hm2 : m ≤ 1048576) (A : Option Addr) (c : Nat) (B : Option Addr) (d : Nat) (E : Int) (r : Rg) (hE : decX l b = (E, r)) (w : World) (hT : Tabs w) (hA : Ks w w.heap.size A l) (hB : Bs w w.heap.size b B d) : Calls Tryz.prog 14 #[.slice A n c, .slice B m d] w fun e w' => e = .returned (.tuple #[.agg #[.int .i64 r.t.ser, .int .i64 r.t.kind, .int .i64 r.t.frm, .int .i64 r.t.till, .int .i64 r.t.cls, .int .i64 r.t.card, .int .i64 r.t.seat, .int .i64 r.t.day, .int .i64 r.t.days, .int .i64 r.t.uses, .int .i64 r.t.epoch, .int .i64 r.key, .int .i64 r.left, .int .i64 r.inn, .int .i64 r.ver], .int .i64 E]) ∧ Below w.heap.size w w' := by
  cases h1 : isR l
  · exact pdec_a l n hn hn3 b m hm hm2 A c B d E r hE w hT hA hB h1
  · by_cases h2 : readE b = 0
    · by_cases h3 : (readL b).length < 10
      · exact pdec_c l n hn hn3 b m hm hm2 A c B d E r hE w hT hA hB h1 h2 h3
      · by_cases h4 : (lgetX (saidL (readL b))).1 = 0
        · by_cases h5 : findE l (lgetX (saidL (readL b))).2.key = 0
          · cases h6 : (tailL (readL b) == tagS (findK l (lgetX (saidL (readL b))).2.key).sec (saidL (readL b)))
            · exact pdec_f l n hn hn3 b m hm hm2 A c B d E r hE w hT hA hB h1 h2 h3 h4 h5 h6
            · exact pdec_g l n hn hn3 b m hm hm2 A c B d E r hE w hT hA hB h1 h2 h3 h4 h5 h6
          · exact pdec_e l n hn hn3 b m hm hm2 A c B d E r hE w hT hA hB h1 h2 h3 h4 h5
        · exact pdec_d l n hn hn3 b m hm hm2 A c B d E r hE w hT hA hB h1 h2 h3 h4
    · exact pdec_b l n hn hn3 b m hm hm2 A c B d E r hE w hT hA hB h1 h2
end Go.Proofs.YtpniolinndlepaaGreatDoor
