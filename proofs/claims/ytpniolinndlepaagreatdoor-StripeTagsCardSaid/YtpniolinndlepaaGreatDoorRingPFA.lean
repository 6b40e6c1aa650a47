/-
  The landed Find and Add of ring.
-/
import Derived.Test.YtpniolinndlepaaGreatDoorRingPIs
import Derived.Test.YtpniolinndlepaaGreatDoorRingC9
import Derived.Test.YtpniolinndlepaaGreatDoorRingB
import Derived.BigQuiet
namespace Go.Proofs.YtpniolinndlepaaGreatDoor
set_option linter.unusedVariables false
open Go.ChangeShapes Go.WideShapes Go.ChangeAt Go.RowKit

theorem ring_lt {l : List K} (h : isR l = true) {i j : Nat} (hij : i < j) (hj : j < l.length) : (l.getD i K0).id < (l.getD j K0).id := by
  have hp := ((isR_iff l).1 h).2
  rw [List.pairwise_iff_getElem] at hp
  have := hp i j (by omega) hj hij
  rw [List.getD_eq_getElem?_getD, List.getD_eq_getElem?_getD, List.getElem?_eq_getElem hj, List.getElem?_eq_getElem (show i < l.length by omega)]
  exact this
theorem ring_right {l : List K} (h : isR l = true) {k : K} (hk : k ∈ l) : 1 ≤ k.sec.length ∧ k.sec.length ≤ 64 := by
  have := ((isR_iff l).1 h).1 k hk
  have := (rightN_iff _ _ _ _).1 this
  exact ⟨this.2.2.1, this.2.2.2.1⟩
theorem getD_mem {l : List K} {k : Nat} (h : k < l.length) : l.getD k K0 ∈ l := by
  rw [List.getD_eq_getElem?_getD, List.getElem?_eq_getElem h]
  exact List.getElem_mem h
theorem find_last {l : List K} {id : Int} (hr : isR l = true) {k : Nat} (hk : k < l.length) (hp : ((l.getD k K0).id == id) = true) : l.find? (fun q => q.id == id) = some (l.getD k K0) :=
  find_at k hk (fun j hj => by
    have := ring_lt hr hj hk
    have e : (l.getD k K0).id = id := by simpa using hp
    show ((l.getD j K0).id == id) = false
    rw [beq_eq_false_iff_ne]; omega) hp

theorem bs_setRow {w w' : World} {B g : Nat} {cs : Array Value} {s : List Nat} {A : Option Addr} {c : Nat} (h : Bs w B s A c) (hg : ∀ ad, A = some ad → ad.block ≠ g) (hw : w' = w.setRow g cs) : Bs w' B s A c := by
  subst hw
  refine ⟨fun k u hu => ?_, h.nil, h.len, h.cap, h.lt⟩
  obtain ⟨ad, e, hlt, hc⟩ := h.rd k u hu
  refine ⟨ad, e, hlt, ?_⟩
  rw [← hc]
  have : (w.setRow g cs).heap[(ad.add k).block]? = w.heap[(ad.add k).block]? := setRow_other w g _ cs (by rw [add_block]; exact hg ad e)
  simp only [World.cell?, this]
set_option maxRecDepth 20000 in
theorem pfind_any (l : List K) (n : Nat) (hn : n = l.length) (id : Int) (A : Option Addr) (c : Nat) (w : World) (hA : Ks w w.heap.size A l) (h1 : n ≤ 9223372036854775807)
    (r : K) (E : Int) (hr : r = findK l id) (hE : E = findE l id) :
    Calls Tryz.prog 64 #[.slice A n c, .int .i64 id] w fun e w' => ∃ S cc, e = .returned (.tuple #[.agg #[.int .i64 r.id, .slice S r.sec.length cc, .int .i64 r.frm, .int .i64 r.til], .int .i64 E]) ∧ Bs w' w'.heap.size r.sec S cc ∧ Below w.heap.size w w' := by
  have HN := Lib.hid hn
  have HA := Lib.hid hA
  have HR := Lib.hid hr
  have HE := Lib.hid hE
  clear hn hA hr hE
  obtain ⟨w0, hw0⟩ : ∃ w0, w0 = (w.alloc (.cells #[.int .i64 id] 3)).alloc (.cells #[.int .i64 0, .slice none 0 0, .int .i64 0, .int .i64 0] 46) := ⟨_, rfl⟩
  have hb0 : Below w.heap.size w w0 := by rw [hw0]; exact ((Below.refl _ w).alloc (Nat.le_refl _) _).alloc (by simp) _
  have hi0 : w0.heap[w.heap.size]? = some (.cells #[.int .i64 id] 3 (0, 0)) := by rw [hw0]; exact (Below.heap_alloc _ _ _ (by simp)).trans (heap_alloc_new w _)
  have hx0 : w0.heap[w.heap.size + 1]? = some (.cells #[.int .i64 0, .slice none 0 0, .int .i64 0, .int .i64 0] 46 (0, 0)) := by rw [hw0]; exact heap_new2 w _ _
  have hs0 : w0.heap.size = w.heap.size + 2 := by rw [hw0]; simp
  have HW0 := Lib.hid hw0
  have HA0 := Lib.hid (HA.out.next hb0)
  clear hw0
  cases his : isR l with
  | false =>
    have hr : r = K0 := by rw [HR.out, findK, his]; rfl
    have hE : E = 1 := by rw [HE.out, findE, his]; rfl
    subst hr hE
    go_enter Tryz.func64, Tryz.ntmps64
    go_wp2_with fail
    rw [← HW0.out]
    refine (pis_named l n HN.out false his A c w0 HA0.out h1).mono ?_
    rintro e w1 ⟨rfl, hb1⟩
    have HBX := Lib.hid ((hb1.block _ (by omega)).trans hx0)
    have HB1 := Lib.hid (hb0.trans (hb1.mono hb0.size))
    clear hb1 hx0 hi0 hb0 hs0
    go_wp2_with ((with_reducible refine at_store 4 ?_); refine wpList_store_named (o := ⟨none, .store 46 (.tmp 4) (.tmp 10), _, _, _, _⟩) rfl 46 (.tmp 4) (.tmp 10) rfl (w.heap.size + 1) #[.int .i64 0, .slice none 0 0, .int .i64 0, .int .i64 0] rfl rfl 46 #[.int .i64 0, .slice none 0 0, .int .i64 0, .int .i64 0] HBX.out infoKey rfl (kc_one _ _ _ _ _ _) ?_; intro w5 hw5)
    have hr5 := setRow_heap w1 (w.heap.size + 1) #[.int .i64 0, .slice none 0 0, .int .i64 0, .int .i64 0] #[.int .i64 0, .slice none 0 0, .int .i64 0, .int .i64 0] 46 (0, 0) HBX.out
    rw [← hw5.out] at hr5
    have hb5 := below_row hw5.out (show w.heap.size ≤ w.heap.size + 1 by omega)
    refine bodyPost_ret (results_row_tmp Tryz.results64 _ w5 (w.heap.size + 1) 46 #[.int .i64 0, .slice none 0 0, .int .i64 0, .int .i64 0] (0, 0) _ rfl hr5 Tryz.underlying46 rfl infoKey) rfl ⟨none, 0, rfl, Bs.empty _ _, HB1.out.trans hb5⟩
  | true =>
    have h100 : n ≤ 100 := by rw [HN.out]; exact ring_len his
    have HRING := Lib.hid his
    have HE21 := Lib.hid (enters_of Tryz.func97 (by kernel_rfl) rfl)
    go_enter Tryz.func64, Tryz.ntmps64
    go_wp2_with fail
    rw [← HW0.out]
    refine (pis_named l n HN.out true his A c w0 HA0.out h1).mono ?_
    rintro e w1 ⟨rfl, hb1⟩
    have hx1 := (hb1.block _ (show w.heap.size + 1 < w0.heap.size by omega)).trans hx0
    have hi1 := (hb1.block _ (show w.heap.size < w0.heap.size by omega)).trans hi0
    have hB1 := hb0.trans (hb1.mono hb0.size)
    have hs1 : w.heap.size + 2 ≤ w1.heap.size := by have := hb1.size; omega
    have HA1 := Lib.hid (HA.out.next hB1)
    have HFIT := Lib.hid (find_fits id w.heap.size w1 hi1)
    clear hb1 hx0 hi0 hb0 hs0 hi1 his
    rcases lastIx_cases (fun j => (fun q : K => q.id == id) (l.getD j K0)) n with ⟨hlx, hall⟩ | ⟨k, hk, hlx, hpk, hall⟩
    · have hf := find_none (p := fun q : K => q.id == id) (by rw [← HN.out]; exact hall)
      have hr : r = K0 := by rw [HR.out, findK, HRING.out, hf]; rfl
      have hE : E = 10 := by rw [HE.out, findE, HRING.out, hf]; rfl
      subst hr hE
      have HLX := Lib.hid hlx
      clear hf hall hlx
      go_wp2_with fail
      refine (last_any (fun q : K => q.id == id) l n HN.out (by omega) 97 #[.pointer (some ⟨w.heap.size, 0, none⟩)] HE21.out A c w1 HA1.out HFIT.out).mono ?_
      rintro e w2 ⟨rfl, hb2⟩
      rw [HLX.out]
      have HBX := Lib.hid ((hb2.block _ (show w.heap.size + 1 < w1.heap.size by omega)).trans hx1)
      have HB1 := Lib.hid (hB1.trans (hb2.mono hB1.size))
      clear hb2 hx1 hB1
      go_wp2_with ((with_reducible refine at_store 4 ?_); refine wpList_store_named (o := ⟨none, .store 46 (.tmp 4) (.tmp 16), _, _, _, _⟩) rfl 46 (.tmp 4) (.tmp 16) rfl (w.heap.size + 1) #[.int .i64 0, .slice none 0 0, .int .i64 0, .int .i64 0] rfl rfl 46 #[.int .i64 0, .slice none 0 0, .int .i64 0, .int .i64 0] HBX.out infoKey rfl (kc_one _ _ _ _ _ _) ?_; intro w5 hw5)
      have hr5 := setRow_heap w2 (w.heap.size + 1) #[.int .i64 0, .slice none 0 0, .int .i64 0, .int .i64 0] #[.int .i64 0, .slice none 0 0, .int .i64 0, .int .i64 0] 46 (0, 0) HBX.out
      rw [← hw5.out] at hr5
      have hb5 := below_row hw5.out (show w.heap.size ≤ w.heap.size + 1 by omega)
      refine bodyPost_ret (results_row_tmp Tryz.results64 _ w5 (w.heap.size + 1) 46 #[.int .i64 0, .slice none 0 0, .int .i64 0, .int .i64 0] (0, 0) _ rfl hr5 Tryz.underlying46 rfl infoKey) rfl ⟨none, 0, rfl, Bs.empty _ _, HB1.out.trans hb5⟩
    · have hkl : k < l.length := by rw [← HN.out]; exact hk
      have hf := find_last HRING.out hkl hpk
      obtain ⟨x, hx⟩ : ∃ x, x = l.getD k K0 := ⟨_, rfl⟩
      have hr : r = x := by rw [HR.out, findK, HRING.out, hf, hx]; rfl
      have hE : E = 0 := by rw [HE.out, findE, HRING.out, hf]; rfl
      subst hr hE
      have HLEN := Lib.hid (ring_right HRING.out (getD_mem hkl))
      rw [← hx] at HLEN
      have HLX := Lib.hid hlx
      have HX := Lib.hid hx
      have HKL := Lib.hid hkl
      clear hf hall hlx hpk hx hkl
      go_wp2_with fail
      refine (last_any (fun q : K => q.id == id) l n HN.out (by omega) 97 #[.pointer (some ⟨w.heap.size, 0, none⟩)] HE21.out A c w1 HA1.out HFIT.out).mono ?_
      rintro e w2 ⟨rfl, hb2⟩
      rw [HLX.out]
      have hx2 := (hb2.block _ (show w.heap.size + 1 < w1.heap.size by omega)).trans hx1
      have hB2 := hB1.trans (hb2.mono hB1.size)
      have hs2 : w.heap.size + 2 ≤ w2.heap.size := by have := hb2.size; omega
      obtain ⟨ad, S, cc, rfl, had, hk4⟩ := (HA.out.next hB2) k HKL.out
      rw [← HX.out] at hk4
      have hc0 := hk4.c0
      have hc1 := hk4.c1
      have hc2 := hk4.c2
      have hc3 := hk4.c3
      have HBS := Lib.hid hk4.bs
      have HX2 := Lib.hid hx2
      have HB2 := Lib.hid hB2
      have b0 : ¬ ((k : Int) < 0) := by omega
      have b1 : (0 : Int) ≤ (k : Int) := by omega
      have b2 : (k : Int) < (n : Int) := by omega
      clear hb2 hx1 hB1 hx2 hB2 hk4
      go_wp2_with (first | (go_at_call 93; refine (apart_any ⟨r, S, cc⟩ r.sec.length rfl w2 HBS.out HLEN.out.1 HLEN.out.2).mono ?_; rintro e w3 ⟨S3, c3, rfl, hbs3, hge3, hb3⟩; have HX3 := Lib.hid ((hb3.block _ (show w.heap.size + 1 < w2.heap.size by omega)).trans HX2.out); have HBS3 := Lib.hid hbs3; have HGE3 := Lib.hid hge3; have HB3 := Lib.hid hb3; clear hbs3 hge3 hb3) | ((with_reducible refine at_store 4 ?_); refine wpList_store_named (o := ⟨none, .store 46 (.tmp 4) (.tmp 21), _, _, _, _⟩) rfl 46 (.tmp 4) (.tmp 21) rfl (w.heap.size + 1) #[.int .i64 r.id, .slice S3 r.sec.length c3, .int .i64 r.frm, .int .i64 r.til] rfl rfl 46 #[.int .i64 0, .slice none 0 0, .int .i64 0, .int .i64 0] HX3.out infoKey rfl (kc_one _ _ _ _ _ _) ?_; intro w5 hw5))
      have hr5 := setRow_heap w3 (w.heap.size + 1) #[.int .i64 0, .slice none 0 0, .int .i64 0, .int .i64 0] #[.int .i64 r.id, .slice S3 r.sec.length c3, .int .i64 r.frm, .int .i64 r.til] 46 (0, 0) HX3.out
      rw [← hw5.out] at hr5
      have hb5 := below_row hw5.out (show w.heap.size ≤ w.heap.size + 1 by omega)
      have hbs5 : Bs w5 w5.heap.size r.sec S3 c3 := by
        have h3 := HBS3.out
        have e5 : w5.heap.size = w3.heap.size := by rw [hw5.out]; simp
        rw [e5]
        exact bs_setRow h3 (fun ad' e => by have := HGE3.out ad' e; omega) hw5.out
      refine bodyPost_ret (results_row_tmp Tryz.results64 _ w5 (w.heap.size + 1) 46 #[.int .i64 r.id, .slice S3 r.sec.length c3, .int .i64 r.frm, .int .i64 r.til] (0, 0) _ rfl hr5 Tryz.underlying46 rfl infoKey) rfl ⟨S3, c3, rfl, hbs5, (HB2.out.trans (HB3.out.mono HB2.out.size)).trans hb5⟩set_option linter.unusedVariables false
open Go.ChangeShapes Go.WideShapes Go.ChangeAt Go.RowKit
end Go.Proofs.YtpniolinndlepaaGreatDoor
