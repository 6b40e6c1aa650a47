/-
  The three function values that the landed ring hands to last. Conditions: the box that each has captured.
  Contract for the landed apart: a key with a secret of its own. Conditions: the secret has from 1 to 64 bytes.
  Contracts for the landed Find and On. Conditions: the slice reads as keys.
  The secret of a key that is found is short. No program; conditions: none.
  The reference's Big under a name; a box just made of an argument. Conditions: none of its own.
  Rows of any ints: how a slice reads as such a row; what a call owns; how one that came in is opened. No program of its own; conditions: none.
  A reading in a box; a journey in one. No program of its own; conditions: the block is there.
  The fifteen numbers of a reading; that they fit an int.
  A world that grew but for one row: such steps one behind another. No program; conditions: none.
  A reading at work in its block, as fifteen numbers; where the number of each tag lies. No program of its own; conditions: the block is there.
  Contracts for the landed within, isKey, isVersion, Name, number, ownUses, and the reference's Name. Conditions: none.
  Contracts for the landed tagsOf and tellsAll. Conditions: the reading's block is there; the tags are tags.
  What it means that a slice reads as a list of fields; rows of fields that a call owns, and how one is put behind them. Conditions: none.
  Rows of bytes stand in blocks of bytes, so that fields of the call's own stand elsewhere. No program of its own; conditions: none.
  Contracts for the reference's Get: it answers the number that the bytes are, or the document's error. Conditions: the slice reads as bytes.
  Contracts for bits.Get: it answers the number that the bytes are, or the same error. Conditions: the slice reads as bytes.
-/
import Derived.Test.YtaokhkbfiplfmaaDoorRingPIs
import Derived.Test.YtaokhkbfiplfmaaDoorFitsP
import Derived.Test.YtaokhkbfiplfmaaDoorMacBlock
import Derived.Test.YtaokhkbfiplfmaaDoorMem
import Derived.Deep.RegionHeld3
import Derived.Deep.MidRow
import Derived.ArgAppend
import Derived.Test.YtaokhkbfiplfmaaDoorMath
import Derived.Test.YtaokhkbfiplfmaaDoorShaPWords
import Derived.OpenShut
import Derived.SizedLaws
section
namespace Go.Proofs.YtaokhkbfiplfmaaDoor
set_option linter.unusedVariables false
open Go.ChangeShapes Go.WideShapes Go.ChangeAt Go.RowKit

theorem find_fits (id : Int) (b : Nat) (w : World) (h : w.heap[b]? = some (.cells #[.int .i64 id] 3 (0, 0))) : Fits 28 #[.pointer (some ⟨b, 0, none⟩)] (fun q => q.id == id) w := by
  intro W q hB
  have hb : W.heap[b]? = some (.cells #[.int .i64 id] 3 (0, 0)) := (hB.block _ (Array.getElem?_eq_some_iff.1 h).1).trans h
  have hc : W.cell? ⟨b, 0, none⟩ = some (.int .i64 id) := by rw [cell_of_row W b 0 _ _ (0, 0) hb]; rfl
  have hlt := (Array.getElem?_eq_some_iff.1 hb).1
  clear h hB hb
  show Calls _ _ #[.agg #[.int .i64 q.k.id, .slice q.S q.k.sec.length q.c, .int .i64 q.k.frm, .int .i64 q.k.til], .pointer (some ⟨b, 0, none⟩)] W _
  go_enter Tryd.func28, Tryd.ntmps28
  go_wp2
  go_ret
  exact ⟨rfl, below_lit W _ _⟩
end Go.Proofs.YtaokhkbfiplfmaaDoor
end
section
namespace Go.Proofs.YtaokhkbfiplfmaaDoor
set_option linter.unusedVariables false
open Go.ChangeShapes Go.WideShapes Go.ChangeAt Go.RowKit

theorem rd_at {w : World} {B : Nat} {ad : Addr} {xs : List Value} (h : Rd w B (some ad) xs) : ∀ j u, xs[j]? = some u → w.cell? (ad.add j) = some u := by
  intro j u hu
  obtain ⟨ad', e, _, hc⟩ := h j u hu
  cases e
  exact hc
theorem rbs_of_own {w : World} {base n : Nat} {v : Value} {s : List Nat} (h : w.ownsRow base 5 1 v n (U8 s)) (hs : ∀ x ∈ s, x < 256) : ∃ A c, v = .slice A n c ∧ Bs w w.heap.size s A c := by
  have hn : s.length = n := by have := h.1; simpa [U8] using this
  rcases h.2 with ⟨rfl, h0⟩ | ⟨g, cap, cur, rfl, _, _, h2, h3, _⟩
  · subst h0
    have : s = [] := List.eq_nil_of_length_eq_zero hn
    subst this
    exact ⟨none, 0, rfl, ⟨by intro k u hu; simp [U8] at hu, fun _ => rfl, by simp, by omega, by simp⟩⟩
  · unfold maxLen at h3
    exact ⟨_, cap, rfl, ⟨Rd.of_own h, by simp, by omega, h3, hs⟩⟩
theorem infoBytes : (Tryd.prog.info? 24).map (·.size) = some 1 := by kernel_rfl
set_option maxRecDepth 20000 in
theorem apart_any (q : KV) (n : Nat) (hn : n = q.k.sec.length) (w : World) (h : Bs w w.heap.size q.k.sec q.S q.c) (h0 : 1 ≤ n) (h1 : n ≤ 64) :
    Calls Tryd.prog 29 #[.agg #[.int .i64 q.k.id, .slice q.S n q.c, .int .i64 q.k.frm, .int .i64 q.k.til]] w fun e w' => ∃ S c, e = .returned (.agg #[.int .i64 q.k.id, .slice S n c, .int .i64 q.k.frm, .int .i64 q.k.til]) ∧ Bs w' w'.heap.size q.k.sec S c ∧ (∀ ad, S = some ad → w.heap.size ≤ ad.block) ∧ Below w.heap.size w w' := by
  obtain ⟨i0, hi, hz0, hz1, hz2⟩ := info_parts infoU8
  obtain ⟨ad, hS⟩ : ∃ ad, q.S = some ad := by
    have : 0 < (U8 q.k.sec).length := by simp [U8]; omega
    obtain ⟨ad, e, _⟩ := h.rd 0 _ (List.getElem?_eq_getElem this)
    exact ⟨ad, e⟩
  have HB := Lib.hid h
  have HN := Lib.hid hn
  have hcap : n ≤ q.c := by have := h.len; omega
  have hcap2 := h.cap
  obtain ⟨⟨kid, ksec, kf, kt⟩, S, c⟩ := q
  simp only at hS hcap hcap2 HB HN
  subst hS
  have HUL := Lib.hid (show (U8 ksec).length = n by simp [U8, HN.out])
  have HRD := Lib.hid (fun (w' : World) (hb : Below w.heap.size w w') => HB.out.rd.next hb)
  have hn1 : 0 + n ≤ maxLen := by unfold maxLen; omega
  have hn2 : (0 + n) * 1 ≤ 140737488355328 := by omega
  clear h hn
  go_enter Tryd.func29, Tryd.ntmps29
  go_wp2
  obtain ⟨wb, hwb⟩ : ∃ wb, wb = (w.alloc (.cells #[.int .i64 kid, .slice (some ad) n c, .int .i64 kf, .int .i64 kt] 26)).alloc (.cells #[.int .i64 0, .slice none 0 0, .int .i64 0, .int .i64 0] 26) := ⟨_, rfl⟩
  have hb0 : wb.heap[w.heap.size]? = some (.cells #[.int .i64 kid, .slice (some ad) n c, .int .i64 kf, .int .i64 kt] 26 (0, 0)) := by
    rw [hwb]; exact (Below.heap_alloc _ _ _ (by simp)).trans (heap_alloc_new w _)
  have hb1 : wb.heap[w.heap.size + 1]? = some (.cells #[.int .i64 0, .slice none 0 0, .int .i64 0, .int .i64 0] 26 (0, 0)) := by
    rw [hwb]; exact heap_new2 w _ _
  have hbel : Below w.heap.size w wb := by
    rw [hwb]; exact ((Below.refl _ w).alloc (Nat.le_refl _) _).alloc (by simp) _
  have hsz : wb.heap.size = w.heap.size + 2 := by rw [hwb]; simp
  rw [← hwb]
  clear hwb
  have hc1 : wb.drew.cell? ⟨w.heap.size, 1, none⟩ = some (.slice (some ad) n c) := by change wb.cell? _ = _; rw [cell_of_row wb _ 1 _ _ (0, 0) hb0]; rfl
  refine wp_region_still_tail 5 (by kernel_rfl) (by kernel_rfl) ?_
  simp only [List.take_succ_cons, List.take_zero, List.drop_succ_cons, List.drop_zero]
  repeat still_step
  refine wpStill_nil ?_
  change wpList _ _ _ _ _ wb.drew
  go_wp2_with (at_builtin; refine wpList_append_grows _ rfl (.tmp 5) (.tmp 7) 24 rfl 5 i0 (.int .u8 0) 1 1 Tryd.underlying24 hi hz0 hz1 hz2 rfl (by omega) (some ad) 0 0 [] rfl (fun h => by cases h) rfl (fun b hb j u hu => by simp at hu) ad n c (U8 ksec) rfl (by rw [HUL.out]; omega) (rd_at (HRD.out _ hbel.drew)) (U8_one _) (by omega) hn1 hn2 ?_)
  intro v1 w1 hown1 hg1
  have hown2 : w1.ownsRow wb.heap.size 5 1 v1 n (U8 ksec) := by rw [hsz]; simpa using hown1
  obtain ⟨A', c', e, hbs⟩ := rbs_of_own hown2 HB.out.lt
  subst e
  have HOW := Lib.hid hown2
  have hbw : Below wb.heap.size wb w1 := (Below.refl _ wb).drew.grown hg1 (Nat.le_refl _) (fun k e => by cases e)
  have h10 : w1.heap[w.heap.size]? = some (.cells #[.int .i64 kid, .slice (some ad) n c, .int .i64 kf, .int .i64 kt] 26 (0, 0)) := (hbw.block _ (by omega)).trans hb0
  have h11 : w1.heap[w.heap.size + 1]? = some (.cells #[.int .i64 0, .slice none 0 0, .int .i64 0, .int .i64 0] 26 (0, 0)) := (hbw.block _ (by omega)).trans hb1
  have HBW := Lib.hid (hbel.trans (hbw.mono (by omega)))
  have HSZ := Lib.hid (show w.heap.size + 2 ≤ w1.heap.size by have := hbw.size; omega)
  clear hown1 hown2 hg1 hbs hbw hb0 hb1 hbel hc1
  have hc1 : w1.cell? ⟨w.heap.size, 1, none⟩ = some (.slice (some ad) n c) := by rw [cell_of_row w1 _ 1 _ _ (0, 0) h10]; rfl
  have hf1 : w1.frozen? ⟨w.heap.size, 1, none⟩ = false := frozen_of_row w1 _ 1 _ _ h10
  have hc1s : (w1.cell? ⟨w.heap.size, 1, none⟩).isSome = true := by rw [hc1]; rfl
  have H10 := Lib.hid h10
  have H11 := Lib.hid h11
  clear h10 h11 hc1
  go_wp2_with ((with_reducible refine at_store 9 ?_); refine wpList_store_cell (op := ⟨none, .store 24 (.tmp 9) (.tmp 8), _, _, _, _⟩) rfl 24 (.tmp 9) (.tmp 8) rfl w.heap.size 1 (.slice A' n c') rfl rfl rfl hc1s hf1 infoBytes ?_)
  intro w2 hw2
  have h20 : w2.heap[w.heap.size]? = some (.cells #[.int .i64 kid, .slice A' n c', .int .i64 kf, .int .i64 kt] 26 (0, 0)) := by rw [hw2.out]; exact heap_setCell_same w1 _ 1 _ _ _ H10.out
  have h21 : w2.heap[w.heap.size + 1]? = some (.cells #[.int .i64 0, .slice none 0 0, .int .i64 0, .int .i64 0] 26 (0, 0)) := by rw [hw2.out]; exact (heap_setCell_other w1 _ _ _ (by simp)).trans H11.out
  have hb2 : Below w.heap.size w1 w2 := by rw [hw2.out]; exact (Below.refl _ _).setCell (p := ⟨w.heap.size, 1, none⟩) (Nat.le_refl _) _
  have hd0 : w2.cell? ⟨w.heap.size, 0, none⟩ = some (.int .i64 kid) := by rw [cell_of_row w2 _ 0 _ _ (0, 0) h20]; rfl
  have hd1 : w2.cell? ⟨w.heap.size, 1, none⟩ = some (.slice A' n c') := by rw [cell_of_row w2 _ 1 _ _ (0, 0) h20]; rfl
  have hd2 : w2.cell? ⟨w.heap.size, 2, none⟩ = some (.int .i64 kf) := by rw [cell_of_row w2 _ 2 _ _ (0, 0) h20]; rfl
  have hd3 : w2.cell? ⟨w.heap.size, 3, none⟩ = some (.int .i64 kt) := by rw [cell_of_row w2 _ 3 _ _ (0, 0) h20]; rfl
  have H21 := Lib.hid h21
  have HB2 := Lib.hid (HBW.out.trans hb2)
  clear h20 h21 hb2 hc1s hf1
  go_wp2_with ((with_reducible refine at_store 2 ?_); refine wpList_store_named (o := ⟨none, .store 26 (.tmp 2) (.tmp 10), _, _, _, _⟩) rfl 26 (.tmp 2) (.tmp 10) rfl (w.heap.size + 1) #[.int .i64 kid, .slice A' n c', .int .i64 kf, .int .i64 kt] rfl rfl 26 #[.int .i64 0, .slice none 0 0, .int .i64 0, .int .i64 0] H21.out infoKey rfl (kc_one _ _ _ _ _ _) ?_; intro w5 hw5)
  have hr5 := setRow_heap w2 (w.heap.size + 1) #[.int .i64 0, .slice none 0 0, .int .i64 0, .int .i64 0] #[.int .i64 kid, .slice A' n c', .int .i64 kf, .int .i64 kt] 26 (0, 0) H21.out
  rw [← hw5.out] at hr5
  have hge : ∀ b, b < w.heap.size + 2 → (Value.slice A' n c').ownBlock = none ∨ (Value.slice A' n c').ownBlock ≠ some b := fun b hb => by
    cases e : (Value.slice A' n c').ownBlock with
    | none => exact .inl rfl
    | some g => exact .inr (fun e2 => by cases e2; have := own_ge HOW.out e; omega)
  have how2 : w2.ownsRow wb.heap.size 5 1 (.slice A' n c') n (U8 ksec) := HOW.out.kept (by rw [hw2.out]; exact grown_cell _ _ _ _) (hge _ (by omega))
  have how5 : w5.ownsRow wb.heap.size 5 1 (.slice A' n c') n (U8 ksec) := how2.kept (by rw [hw5.out]; exact grown_row _ _ _) (hge _ (by omega))
  obtain ⟨A5, c5, e5, hbs5⟩ := rbs_of_own how5 HB.out.lt
  cases e5
  have hb5 : Below w.heap.size w2 w5 := below_row hw5.out (by omega)
  refine bodyPost_ret (results_row Tryd.results29 _ w5 (w.heap.size + 1) 26 #[.int .i64 kid, .slice A' n c', .int .i64 kf, .int .i64 kt] (0, 0) _ rfl hr5 Tryd.underlying26 rfl infoKey) rfl ⟨A', c', rfl, hbs5, fun ad' e => by subst e; have := own_ge HOW.out (g := ad'.block) rfl; omega, HB2.out.trans hb5⟩
end Go.Proofs.YtaokhkbfiplfmaaDoor
end
section
namespace Go.Proofs.YtaokhkbfiplfmaaDoor
set_option linter.unusedVariables false
open Go.ChangeShapes Go.WideShapes Go.ChangeAt Go.RowKit

theorem ring_lt {l : List K} (h : isR l = true) {i j : Nat} (hij : i < j) (hj : j < l.length) : (l.getD i K0).id < (l.getD j K0).id := by
  have hp := ((isR_iff l).1 h).2
  rw [List.pairwise_iff_getElem] at hp
  have := hp i j (by omega) hj hij
  rw [List.getD_eq_getElem?_getD, List.getD_eq_getElem?_getD, List.getElem?_eq_getElem hj, List.getElem?_eq_getElem (show i < l.length by omega)]
  exact this
theorem ring_right {l : List K} (h : isR l = true) {k : K} (hk : k ∈ l) : 1 ≤ k.sec.length ∧ k.sec.length ≤ 64 := by
  have := ((isR_iff l).1 h).1 k hk
  have := (rightN_iff _ _ _ _).1 this
  exact ⟨this.2.2.1, this.2.2.2.1⟩
theorem getD_mem {l : List K} {k : Nat} (h : k < l.length) : l.getD k K0 ∈ l := by
  rw [List.getD_eq_getElem?_getD, List.getElem?_eq_getElem h]
  exact List.getElem_mem h
theorem find_last {l : List K} {id : Int} (hr : isR l = true) {k : Nat} (hk : k < l.length) (hp : ((l.getD k K0).id == id) = true) : l.find? (fun q => q.id == id) = some (l.getD k K0) :=
  find_at k hk (fun j hj => by
    have := ring_lt hr hj hk
    have e : (l.getD k K0).id = id := by simpa using hp
    show ((l.getD j K0).id == id) = false
    rw [beq_eq_false_iff_ne]; omega) hp

theorem bs_setRow {w w' : World} {B g : Nat} {cs : Array Value} {s : List Nat} {A : Option Addr} {c : Nat} (h : Bs w B s A c) (hg : ∀ ad, A = some ad → ad.block ≠ g) (hw : w' = w.setRow g cs) : Bs w' B s A c := by
  subst hw
  refine ⟨fun k u hu => ?_, h.nil, h.len, h.cap, h.lt⟩
  obtain ⟨ad, e, hlt, hc⟩ := h.rd k u hu
  refine ⟨ad, e, hlt, ?_⟩
  rw [← hc]
  have : (w.setRow g cs).heap[(ad.add k).block]? = w.heap[(ad.add k).block]? := setRow_other w g _ cs (by rw [add_block]; exact hg ad e)
  simp only [World.cell?, this]
set_option maxRecDepth 20000 in
theorem pfind_any (l : List K) (n : Nat) (hn : n = l.length) (id : Int) (A : Option Addr) (c : Nat) (w : World) (hA : Ks w w.heap.size A l) (h1 : n ≤ 9223372036854775807)
    (r : K) (E : Int) (hr : r = findK l id) (hE : E = findE l id) :
    Calls Tryd.prog 12 #[.slice A n c, .int .i64 id] w fun e w' => ∃ S cc, e = .returned (.tuple #[.agg #[.int .i64 r.id, .slice S r.sec.length cc, .int .i64 r.frm, .int .i64 r.til], .int .i64 E]) ∧ Bs w' w'.heap.size r.sec S cc ∧ Below w.heap.size w w' := by
  have HN := Lib.hid hn
  have HA := Lib.hid hA
  have HR := Lib.hid hr
  have HE := Lib.hid hE
  clear hn hA hr hE
  obtain ⟨w0, hw0⟩ : ∃ w0, w0 = (w.alloc (.cells #[.int .i64 id] 3)).alloc (.cells #[.int .i64 0, .slice none 0 0, .int .i64 0, .int .i64 0] 26) := ⟨_, rfl⟩
  have hb0 : Below w.heap.size w w0 := by rw [hw0]; exact ((Below.refl _ w).alloc (Nat.le_refl _) _).alloc (by simp) _
  have hi0 : w0.heap[w.heap.size]? = some (.cells #[.int .i64 id] 3 (0, 0)) := by rw [hw0]; exact (Below.heap_alloc _ _ _ (by simp)).trans (heap_alloc_new w _)
  have hx0 : w0.heap[w.heap.size + 1]? = some (.cells #[.int .i64 0, .slice none 0 0, .int .i64 0, .int .i64 0] 26 (0, 0)) := by rw [hw0]; exact heap_new2 w _ _
  have hs0 : w0.heap.size = w.heap.size + 2 := by rw [hw0]; simp
  have HW0 := Lib.hid hw0
  have HA0 := Lib.hid (HA.out.next hb0)
  clear hw0
  cases his : isR l with
  | false =>
    have hr : r = K0 := by rw [HR.out, findK, his]; rfl
    have hE : E = 1 := by rw [HE.out, findE, his]; rfl
    subst hr hE
    go_enter Tryd.func12, Tryd.ntmps12
    go_wp2_with fail
    rw [← HW0.out]
    refine (pis_named l n HN.out false his A c w0 HA0.out h1).mono ?_
    rintro e w1 ⟨rfl, hb1⟩
    have HBX := Lib.hid ((hb1.block _ (by omega)).trans hx0)
    have HB1 := Lib.hid (hb0.trans (hb1.mono hb0.size))
    clear hb1 hx0 hi0 hb0 hs0
    go_wp2_with ((with_reducible refine at_store 4 ?_); refine wpList_store_named (o := ⟨none, .store 26 (.tmp 4) (.tmp 10), _, _, _, _⟩) rfl 26 (.tmp 4) (.tmp 10) rfl (w.heap.size + 1) #[.int .i64 0, .slice none 0 0, .int .i64 0, .int .i64 0] rfl rfl 26 #[.int .i64 0, .slice none 0 0, .int .i64 0, .int .i64 0] HBX.out infoKey rfl (kc_one _ _ _ _ _ _) ?_; intro w5 hw5)
    have hr5 := setRow_heap w1 (w.heap.size + 1) #[.int .i64 0, .slice none 0 0, .int .i64 0, .int .i64 0] #[.int .i64 0, .slice none 0 0, .int .i64 0, .int .i64 0] 26 (0, 0) HBX.out
    rw [← hw5.out] at hr5
    have hb5 := below_row hw5.out (show w.heap.size ≤ w.heap.size + 1 by omega)
    refine bodyPost_ret (results_row_tmp Tryd.results12 _ w5 (w.heap.size + 1) 26 #[.int .i64 0, .slice none 0 0, .int .i64 0, .int .i64 0] (0, 0) _ rfl hr5 Tryd.underlying26 rfl infoKey) rfl ⟨none, 0, rfl, Bs.empty _ _, HB1.out.trans hb5⟩
  | true =>
    have h100 : n ≤ 100 := by rw [HN.out]; exact ring_len his
    have HRING := Lib.hid his
    have HE21 := Lib.hid (enters_of Tryd.func28 (by kernel_rfl) rfl)
    go_enter Tryd.func12, Tryd.ntmps12
    go_wp2_with fail
    rw [← HW0.out]
    refine (pis_named l n HN.out true his A c w0 HA0.out h1).mono ?_
    rintro e w1 ⟨rfl, hb1⟩
    have hx1 := (hb1.block _ (show w.heap.size + 1 < w0.heap.size by omega)).trans hx0
    have hi1 := (hb1.block _ (show w.heap.size < w0.heap.size by omega)).trans hi0
    have hB1 := hb0.trans (hb1.mono hb0.size)
    have hs1 : w.heap.size + 2 ≤ w1.heap.size := by have := hb1.size; omega
    have HA1 := Lib.hid (HA.out.next hB1)
    have HFIT := Lib.hid (find_fits id w.heap.size w1 hi1)
    clear hb1 hx0 hi0 hb0 hs0 hi1 his
    rcases lastIx_cases (fun j => (fun q : K => q.id == id) (l.getD j K0)) n with ⟨hlx, hall⟩ | ⟨k, hk, hlx, hpk, hall⟩
    · have hf := find_none (p := fun q : K => q.id == id) (by rw [← HN.out]; exact hall)
      have hr : r = K0 := by rw [HR.out, findK, HRING.out, hf]; rfl
      have hE : E = 10 := by rw [HE.out, findE, HRING.out, hf]; rfl
      subst hr hE
      have HLX := Lib.hid hlx
      clear hf hall hlx
      go_wp2_with fail
      refine (last_any (fun q : K => q.id == id) l n HN.out (by omega) 28 #[.pointer (some ⟨w.heap.size, 0, none⟩)] HE21.out A c w1 HA1.out HFIT.out).mono ?_
      rintro e w2 ⟨rfl, hb2⟩
      rw [HLX.out]
      have HBX := Lib.hid ((hb2.block _ (show w.heap.size + 1 < w1.heap.size by omega)).trans hx1)
      have HB1 := Lib.hid (hB1.trans (hb2.mono hB1.size))
      clear hb2 hx1 hB1
      go_wp2_with ((with_reducible refine at_store 4 ?_); refine wpList_store_named (o := ⟨none, .store 26 (.tmp 4) (.tmp 16), _, _, _, _⟩) rfl 26 (.tmp 4) (.tmp 16) rfl (w.heap.size + 1) #[.int .i64 0, .slice none 0 0, .int .i64 0, .int .i64 0] rfl rfl 26 #[.int .i64 0, .slice none 0 0, .int .i64 0, .int .i64 0] HBX.out infoKey rfl (kc_one _ _ _ _ _ _) ?_; intro w5 hw5)
      have hr5 := setRow_heap w2 (w.heap.size + 1) #[.int .i64 0, .slice none 0 0, .int .i64 0, .int .i64 0] #[.int .i64 0, .slice none 0 0, .int .i64 0, .int .i64 0] 26 (0, 0) HBX.out
      rw [← hw5.out] at hr5
      have hb5 := below_row hw5.out (show w.heap.size ≤ w.heap.size + 1 by omega)
      refine bodyPost_ret (results_row_tmp Tryd.results12 _ w5 (w.heap.size + 1) 26 #[.int .i64 0, .slice none 0 0, .int .i64 0, .int .i64 0] (0, 0) _ rfl hr5 Tryd.underlying26 rfl infoKey) rfl ⟨none, 0, rfl, Bs.empty _ _, HB1.out.trans hb5⟩
    · have hkl : k < l.length := by rw [← HN.out]; exact hk
      have hf := find_last HRING.out hkl hpk
      obtain ⟨x, hx⟩ : ∃ x, x = l.getD k K0 := ⟨_, rfl⟩
      have hr : r = x := by rw [HR.out, findK, HRING.out, hf, hx]; rfl
      have hE : E = 0 := by rw [HE.out, findE, HRING.out, hf]; rfl
      subst hr hE
      have HLEN := Lib.hid (ring_right HRING.out (getD_mem hkl))
      rw [← hx] at HLEN
      have HLX := Lib.hid hlx
      have HX := Lib.hid hx
      have HKL := Lib.hid hkl
      clear hf hall hlx hpk hx hkl
      go_wp2_with fail
      refine (last_any (fun q : K => q.id == id) l n HN.out (by omega) 28 #[.pointer (some ⟨w.heap.size, 0, none⟩)] HE21.out A c w1 HA1.out HFIT.out).mono ?_
      rintro e w2 ⟨rfl, hb2⟩
      rw [HLX.out]
      have hx2 := (hb2.block _ (show w.heap.size + 1 < w1.heap.size by omega)).trans hx1
      have hB2 := hB1.trans (hb2.mono hB1.size)
      have hs2 : w.heap.size + 2 ≤ w2.heap.size := by have := hb2.size; omega
      obtain ⟨ad, S, cc, rfl, had, hk4⟩ := (HA.out.next hB2) k HKL.out
      rw [← HX.out] at hk4
      have hc0 := hk4.c0
      have hc1 := hk4.c1
      have hc2 := hk4.c2
      have hc3 := hk4.c3
      have HBS := Lib.hid hk4.bs
      have HX2 := Lib.hid hx2
      have HB2 := Lib.hid hB2
      have b0 : ¬ ((k : Int) < 0) := by omega
      have b1 : (0 : Int) ≤ (k : Int) := by omega
      have b2 : (k : Int) < (n : Int) := by omega
      clear hb2 hx1 hB1 hx2 hB2 hk4
      go_wp2_with (first | (go_at_call 29; refine (apart_any ⟨r, S, cc⟩ r.sec.length rfl w2 HBS.out HLEN.out.1 HLEN.out.2).mono ?_; rintro e w3 ⟨S3, c3, rfl, hbs3, hge3, hb3⟩; have HX3 := Lib.hid ((hb3.block _ (show w.heap.size + 1 < w2.heap.size by omega)).trans HX2.out); have HBS3 := Lib.hid hbs3; have HGE3 := Lib.hid hge3; have HB3 := Lib.hid hb3; clear hbs3 hge3 hb3) | ((with_reducible refine at_store 4 ?_); refine wpList_store_named (o := ⟨none, .store 26 (.tmp 4) (.tmp 21), _, _, _, _⟩) rfl 26 (.tmp 4) (.tmp 21) rfl (w.heap.size + 1) #[.int .i64 r.id, .slice S3 r.sec.length c3, .int .i64 r.frm, .int .i64 r.til] rfl rfl 26 #[.int .i64 0, .slice none 0 0, .int .i64 0, .int .i64 0] HX3.out infoKey rfl (kc_one _ _ _ _ _ _) ?_; intro w5 hw5))
      have hr5 := setRow_heap w3 (w.heap.size + 1) #[.int .i64 0, .slice none 0 0, .int .i64 0, .int .i64 0] #[.int .i64 r.id, .slice S3 r.sec.length c3, .int .i64 r.frm, .int .i64 r.til] 26 (0, 0) HX3.out
      rw [← hw5.out] at hr5
      have hb5 := below_row hw5.out (show w.heap.size ≤ w.heap.size + 1 by omega)
      have hbs5 : Bs w5 w5.heap.size r.sec S3 c3 := by
        have h3 := HBS3.out
        have e5 : w5.heap.size = w3.heap.size := by rw [hw5.out]; simp
        rw [e5]
        exact bs_setRow h3 (fun ad' e => by have := HGE3.out ad' e; omega) hw5.out
      refine bodyPost_ret (results_row_tmp Tryd.results12 _ w5 (w.heap.size + 1) 26 #[.int .i64 r.id, .slice S3 r.sec.length c3, .int .i64 r.frm, .int .i64 r.til] (0, 0) _ rfl hr5 Tryd.underlying26 rfl infoKey) rfl ⟨S3, c3, rfl, hbs5, (HB2.out.trans (HB3.out.mono HB2.out.size)).trans hb5⟩
end Go.Proofs.YtaokhkbfiplfmaaDoor
end
section
namespace Go.Proofs.YtaokhkbfiplfmaaDoor
set_option linter.unusedVariables false
open Go.ChangeShapes Go.WideShapes Go.ChangeAt Go.RowKit

theorem find_sec {l : List K} {id : Int} (h : findE l id = 0) : (findK l id).sec.length ≤ 64 := by
  rw [findE] at h
  split at h
  · rename_i hr
    split at h
    · rename_i hs
      obtain ⟨x, hx⟩ := Option.isSome_iff_exists.1 hs
      rw [findK, if_pos hr, hx, Option.getD_some]
      exact (ring_right hr (List.mem_of_find?_eq_some hx)).2
    · exact absurd h (by decide)
  · exact absurd h (by decide)
end Go.Proofs.YtaokhkbfiplfmaaDoor
end
section
namespace Go.Proofs.YtaokhkbfiplfmaaDoor
set_option linter.unusedVariables false
open Go.ChangeShapes Go.WideShapes Go.ChangeAt Go.RowKit

/-- A box that was just made of an argument. -/
theorem box_lit (w : World) (q : KV) (h : Bs w w.heap.size q.k.sec q.S q.c) : Box (w.alloc (.cells #[.int .i64 q.k.id, .slice q.S q.k.sec.length q.c, .int .i64 q.k.frm, .int .i64 q.k.til] 26)) w.heap.size q ∧
    Below w.heap.size w (w.alloc (.cells #[.int .i64 q.k.id, .slice q.S q.k.sec.length q.c, .int .i64 q.k.frm, .int .i64 q.k.til] 26)) :=
  ⟨⟨heap_alloc_new w _, by simp, h.next (below_lit w _ _)⟩, below_lit w _ _⟩
end Go.Proofs.YtaokhkbfiplfmaaDoor
end
section
namespace Go.Proofs.YtaokhkbfiplfmaaDoor
set_option linter.unusedVariables false
open Go.ChangeShapes Go.WideShapes Go.ChangeAt Go.RowKit

theorem infoInt : (Tryd.prog.info? 3).map (fun i => (i.zero, i.size, i.bytes)) = some (some (.int .i64 0), 1, 8) := by kernel_rfl
def I64 (l : List Int) : List Value := l.map fun x : Int => Value.int .i64 x
theorem I64_append (a b : List Int) : I64 (a ++ b) = I64 a ++ I64 b := by simp [I64]
theorem I64_at {l : List Int} {k : Nat} {x : Int} (h : l[k]? = some x) : (I64 l)[k]? = some (.int .i64 x) := by simp [I64, h]
/-- A slice value that reads as ints. -/
structure Zs (w : World) (B : Nat) (l : List Int) (A : Option Addr) (c : Nat) : Prop where
  rd : Rd w B A (I64 l)
  nil : A = none → c = 0
  len : l.length ≤ c
  cap : c ≤ 9223372036854775807
theorem Zs.next {w w' : World} {l : List Int} {A : Option Addr} {c : Nat} (h : Zs w w.heap.size l A c) (hb : Below w.heap.size w w') : Zs w' w'.heap.size l A c := ⟨h.rd.next hb, h.nil, h.len, h.cap⟩
theorem Zs.drew {w : World} {l : List Int} {A : Option Addr} {c : Nat} (h : Zs w w.heap.size l A c) (q : Nat) : Zs (w.drewN q) (w.drewN q).heap.size l A c := h.next (below_drewN (Below.refl _ _) q)
theorem zs_of_own {w : World} {base n : Nat} {v : Value} {l : List Int} (h : w.ownsRow base 3 1 v n (I64 l)) : ∃ A c, v = .slice A n c ∧ n = l.length ∧ Zs w w.heap.size l A c := by
  have hn : l.length = n := by have := h.1; simpa [I64] using this
  rcases h.2 with ⟨rfl, h0⟩ | ⟨g, cap, cur, rfl, _, _, h2, h3, _⟩
  · subst h0
    have : l = [] := List.eq_nil_of_length_eq_zero hn
    subst this
    exact ⟨none, 0, rfl, rfl, ⟨by intro k u hu; simp [I64] at hu, fun _ => rfl, by simp, by omega⟩⟩
  · unfold maxLen at h3
    exact ⟨_, cap, rfl, hn.symm, ⟨Rd.of_own h, by simp, by omega, h3⟩⟩
theorem Zs.at {w : World} {B : Nat} {l : List Int} {A : Option Addr} {c k : Nat} {x : Int} (h : Zs w B l A c) (hx : l[k]? = some x) : ∃ ad, A = some ad ∧ ad.block < B ∧ w.cell? (ad.add k) = some (.int .i64 x) := h.rd k _ (I64_at hx)
section
variable {H : Type} {enc : TypeId × Value → H} {P : Program}
end
end Go.Proofs.YtaokhkbfiplfmaaDoor
end
section
namespace Go.Proofs.YtaokhkbfiplfmaaDoor
set_option linter.unusedVariables false
open Go.ChangeShapes Go.WideShapes Go.ChangeAt Go.RowKit

/-- A reading in its block. -/
def RBox (w : World) (b : Nat) (r : Rg) : Prop := w.heap[b]? = some (.cells #[.int .i64 r.t.ser, .int .i64 r.t.kind, .int .i64 r.t.frm, .int .i64 r.t.till, .int .i64 r.t.cls, .int .i64 r.t.card, .int .i64 r.t.seat, .int .i64 r.t.day, .int .i64 r.t.days, .int .i64 r.t.uses, .int .i64 r.t.epoch, .int .i64 r.key, .int .i64 r.left, .int .i64 r.inn, .int .i64 r.ver] 35 (0, 0))
theorem RBox.lt {w : World} {b : Nat} {r : Rg} (h : RBox w b r) : b < w.heap.size := (Array.getElem?_eq_some_iff.1 h).1
theorem RBox.next {w w' : World} {b : Nat} {r : Rg} (h : RBox w b r) (hb : Below w.heap.size w w') : RBox w' b r := (hb.block _ h.lt).trans h
theorem RBox.below {w w' : World} {b B : Nat} {r : Rg} (h : RBox w b r) (hlt : b < B) (hb : Below B w w') : RBox w' b r := (hb.block _ hlt).trans h
theorem RBox.cells {w : World} {b : Nat} {r : Rg} (h : RBox w b r) : w.cell? ⟨b, 0, none⟩ = some (.int .i64 r.t.ser) ∧ w.cell? ⟨b, 1, none⟩ = some (.int .i64 r.t.kind) ∧ w.cell? ⟨b, 2, none⟩ = some (.int .i64 r.t.frm) ∧ w.cell? ⟨b, 3, none⟩ = some (.int .i64 r.t.till) ∧ w.cell? ⟨b, 4, none⟩ = some (.int .i64 r.t.cls) ∧ w.cell? ⟨b, 5, none⟩ = some (.int .i64 r.t.card) ∧ w.cell? ⟨b, 6, none⟩ = some (.int .i64 r.t.seat) ∧ w.cell? ⟨b, 7, none⟩ = some (.int .i64 r.t.day) ∧ w.cell? ⟨b, 8, none⟩ = some (.int .i64 r.t.days) ∧ w.cell? ⟨b, 9, none⟩ = some (.int .i64 r.t.uses) ∧ w.cell? ⟨b, 10, none⟩ = some (.int .i64 r.t.epoch) ∧ w.cell? ⟨b, 11, none⟩ = some (.int .i64 r.key) ∧ w.cell? ⟨b, 12, none⟩ = some (.int .i64 r.left) ∧ w.cell? ⟨b, 13, none⟩ = some (.int .i64 r.inn) ∧ w.cell? ⟨b, 14, none⟩ = some (.int .i64 r.ver) :=
  ⟨by rw [cell_of_row w b 0 _ _ (0, 0) h]; rfl, by rw [cell_of_row w b 1 _ _ (0, 0) h]; rfl, by rw [cell_of_row w b 2 _ _ (0, 0) h]; rfl, by rw [cell_of_row w b 3 _ _ (0, 0) h]; rfl, by rw [cell_of_row w b 4 _ _ (0, 0) h]; rfl, by rw [cell_of_row w b 5 _ _ (0, 0) h]; rfl, by rw [cell_of_row w b 6 _ _ (0, 0) h]; rfl, by rw [cell_of_row w b 7 _ _ (0, 0) h]; rfl, by rw [cell_of_row w b 8 _ _ (0, 0) h]; rfl, by rw [cell_of_row w b 9 _ _ (0, 0) h]; rfl, by rw [cell_of_row w b 10 _ _ (0, 0) h]; rfl, by rw [cell_of_row w b 11 _ _ (0, 0) h]; rfl, by rw [cell_of_row w b 12 _ _ (0, 0) h]; rfl, by rw [cell_of_row w b 13 _ _ (0, 0) h]; rfl, by rw [cell_of_row w b 14 _ _ (0, 0) h]; rfl⟩
theorem RBox.frozen {w : World} {b : Nat} {r : Rg} (h : RBox w b r) (j : Nat) : w.frozen? ⟨b, j, none⟩ = false := frozen_of_row w b j _ _ h
theorem RBox.new (w : World) (r : Rg) : RBox (w.alloc (.cells #[.int .i64 r.t.ser, .int .i64 r.t.kind, .int .i64 r.t.frm, .int .i64 r.t.till, .int .i64 r.t.cls, .int .i64 r.t.card, .int .i64 r.t.seat, .int .i64 r.t.day, .int .i64 r.t.days, .int .i64 r.t.uses, .int .i64 r.t.epoch, .int .i64 r.key, .int .i64 r.left, .int .i64 r.inn, .int .i64 r.ver] 35)) w.heap.size r := heap_alloc_new w _
theorem RBox.alloc {w : World} {b : Nat} {r : Rg} (h : RBox w b r) (o : Obj) : RBox (w.alloc o) b r := (heap_alloc_old w o h.lt).trans h
theorem RBox.made {w1 w2 : World} {cc : Array Value} {r : Rg} (h : w2 = (w1.alloc (.cells cc 35)).setRow w1.heap.size #[.int .i64 r.t.ser, .int .i64 r.t.kind, .int .i64 r.t.frm, .int .i64 r.t.till, .int .i64 r.t.cls, .int .i64 r.t.card, .int .i64 r.t.seat, .int .i64 r.t.day, .int .i64 r.t.days, .int .i64 r.t.uses, .int .i64 r.t.epoch, .int .i64 r.key, .int .i64 r.left, .int .i64 r.inn, .int .i64 r.ver]) : RBox w2 w1.heap.size r ∧ Below w1.heap.size w1 w2 := by
  subst h
  exact ⟨setRow_heap _ _ _ _ _ _ (heap_alloc_new w1 _), below_setRow ((Below.refl _ _).alloc (Nat.le_refl _) _) (Nat.le_refl _) _⟩
/-- A journey in its block. -/
def JBox (w : World) (b : Nat) (l i : Int) : Prop := w.heap[b]? = some (.cells #[.int .i64 l, .int .i64 i] 33 (0, 0))
theorem JBox.lt {w : World} {b : Nat} {l i : Int} (h : JBox w b l i) : b < w.heap.size := (Array.getElem?_eq_some_iff.1 h).1
theorem JBox.next {w w' : World} {b : Nat} {l i : Int} (h : JBox w b l i) (hb : Below w.heap.size w w') : JBox w' b l i := (hb.block _ h.lt).trans h
theorem JBox.below {w w' : World} {b B : Nat} {l i : Int} (h : JBox w b l i) (hlt : b < B) (hb : Below B w w') : JBox w' b l i := (hb.block _ hlt).trans h
theorem JBox.cells {w : World} {b : Nat} {l i : Int} (h : JBox w b l i) : w.cell? ⟨b, 0, none⟩ = some (.int .i64 l) ∧ w.cell? ⟨b, 1, none⟩ = some (.int .i64 i) :=
  ⟨by rw [cell_of_row w b 0 _ _ (0, 0) h]; rfl, by rw [cell_of_row w b 1 _ _ (0, 0) h]; rfl⟩
theorem JBox.frozen {w : World} {b : Nat} {l i : Int} (h : JBox w b l i) (j : Nat) : w.frozen? ⟨b, j, none⟩ = false := frozen_of_row w b j _ _ h
theorem JBox.new (w : World) (l i : Int) : JBox (w.alloc (.cells #[.int .i64 l, .int .i64 i] 33)) w.heap.size l i := heap_alloc_new w _
theorem JBox.alloc {w : World} {b : Nat} {l i : Int} (h : JBox w b l i) (o : Obj) : JBox (w.alloc o) b l i := (heap_alloc_old w o h.lt).trans h
theorem JBox.made {w1 w2 : World} {cc : Array Value} {l i : Int} (h : w2 = (w1.alloc (.cells cc 33)).setRow w1.heap.size #[.int .i64 l, .int .i64 i]) : JBox w2 w1.heap.size l i ∧ Below w1.heap.size w1 w2 := by
  subst h
  exact ⟨setRow_heap _ _ _ _ _ _ (heap_alloc_new w1 _), below_setRow ((Below.refl _ _).alloc (Nat.le_refl _) _) (Nat.le_refl _) _⟩
end Go.Proofs.YtaokhkbfiplfmaaDoor
end
section
namespace Go.Proofs.YtaokhkbfiplfmaaDoor
set_option linter.unusedVariables false
open Go.ChangeShapes Go.WideShapes Go.ChangeAt Go.RowKit

/-- The fifteen numbers of a reading. -/
def rgL (r : Rg) : List Int := [r.t.ser, r.t.kind, r.t.frm, r.t.till, r.t.cls, r.t.card, r.t.seat, r.t.day, r.t.days, r.t.uses, r.t.epoch, r.key, r.left, r.inn, r.ver]
end Go.Proofs.YtaokhkbfiplfmaaDoor
end
section
namespace Go.Proofs.YtaokhkbfiplfmaaDoor
set_option linter.unusedVariables false
open Go.ChangeShapes Go.WideShapes Go.ChangeAt Go.RowKit
end Go.Proofs.YtaokhkbfiplfmaaDoor
end
section
namespace Go.Proofs.YtaokhkbfiplfmaaDoor
set_option linter.unusedVariables false
open Go.ChangeShapes Go.WideShapes Go.ChangeAt Go.RowKit

/-- A reading at work in its block, as fifteen numbers. -/
def FBox (w : World) (X : Nat) (l : List Int) : Prop := w.heap[X]? = some (.cells ((l.map fun x => Value.int .i64 x).toArray) 56 (0, 0))
theorem FBox.lt {w : World} {X : Nat} {l : List Int} (h : FBox w X l) : X < w.heap.size := (Array.getElem?_eq_some_iff.1 h).1
theorem FBox.alloc {w : World} {X : Nat} {l : List Int} (h : FBox w X l) (o : Obj) : FBox (w.alloc o) X l := (heap_alloc_old w o h.lt).trans h
theorem FBox.next {w w' : World} {X : Nat} {l : List Int} (h : FBox w X l) (hb : Below w.heap.size w w') : FBox w' X l := (hb.block _ h.lt).trans h
theorem FBox.set {w : World} {X : Nat} {l : List Int} (h : FBox w X l) (o : Nat) (x : Int) : FBox (w.setCell ⟨X, o, none⟩ (.int .i64 x)) X (l.set o x) := by
  have := heap_setCell_same w X o _ _ (.int .i64 x) h
  rw [FBox, this]
  simp [List.map_set]
theorem FBox.cell {w : World} {X o : Nat} {l : List Int} {x : Int} (h : FBox w X l) (ho : l[o]? = some x) : w.cell? ⟨X, o, none⟩ = some (.int .i64 x) := by
  rw [cell_of_row w X o _ _ (0, 0) h]
  simp [ho]
theorem FBox.frozen {w : World} {X : Nat} {l : List Int} (h : FBox w X l) (o : Nat) : w.frozen? ⟨X, o, none⟩ = false := frozen_of_row w X o _ _ h
theorem FBox.cells {w : World} {b : Nat} {r : Rg} (h : FBox w b (rgL r)) : w.cell? ⟨b, 0, none⟩ = some (.int .i64 r.t.ser) ∧ w.cell? ⟨b, 1, none⟩ = some (.int .i64 r.t.kind) ∧ w.cell? ⟨b, 2, none⟩ = some (.int .i64 r.t.frm) ∧ w.cell? ⟨b, 3, none⟩ = some (.int .i64 r.t.till) ∧ w.cell? ⟨b, 4, none⟩ = some (.int .i64 r.t.cls) ∧ w.cell? ⟨b, 5, none⟩ = some (.int .i64 r.t.card) ∧ w.cell? ⟨b, 6, none⟩ = some (.int .i64 r.t.seat) ∧ w.cell? ⟨b, 7, none⟩ = some (.int .i64 r.t.day) ∧ w.cell? ⟨b, 8, none⟩ = some (.int .i64 r.t.days) ∧ w.cell? ⟨b, 9, none⟩ = some (.int .i64 r.t.uses) ∧ w.cell? ⟨b, 10, none⟩ = some (.int .i64 r.t.epoch) ∧ w.cell? ⟨b, 11, none⟩ = some (.int .i64 r.key) ∧ w.cell? ⟨b, 12, none⟩ = some (.int .i64 r.left) ∧ w.cell? ⟨b, 13, none⟩ = some (.int .i64 r.inn) ∧ w.cell? ⟨b, 14, none⟩ = some (.int .i64 r.ver) :=
  ⟨h.cell rfl, h.cell rfl, h.cell rfl, h.cell rfl, h.cell rfl, h.cell rfl, h.cell rfl, h.cell rfl, h.cell rfl, h.cell rfl, h.cell rfl, h.cell rfl, h.cell rfl, h.cell rfl, h.cell rfl⟩
/-- Where the number of a tag lies. -/
def posN (t : Nat) : Nat := if t = 1 then 14 else if t = 2 then 11 else if t = 3 then 1 else if t = 4 then 0 else t - 3
theorem tag_cases {t : Nat} (h1 : 1 ≤ t) (h2 : t ≤ 13) : t = 1 ∨ t = 2 ∨ t = 3 ∨ t = 4 ∨ t = 5 ∨ t = 6 ∨ t = 7 ∨ t = 8 ∨ t = 9 ∨ t = 10 ∨ t = 11 ∨ t = 12 ∨ t = 13 := by omega
theorem pos_at (r : Rg) {t : Nat} (h1 : 1 ≤ t) (h2 : t ≤ 13) : (rgL r)[posN t]? = some ((numL r).getD (t - 1) 0) := by
  rcases tag_cases h1 h2 with rfl | rfl | rfl | rfl | rfl | rfl | rfl | rfl | rfl | rfl | rfl | rfl | rfl <;> rfl
end Go.Proofs.YtaokhkbfiplfmaaDoor
end
section
namespace Go.Proofs.YtaokhkbfiplfmaaDoor
set_option linter.unusedVariables false
open Go.ChangeShapes Go.WideShapes Go.ChangeAt Go.RowKit

theorem fwithin_any (n a b : Int) (v : Bool) (hv : (decide (a ≤ n) && decide (n ≤ b)) = v) (w : World) : Calls Tryd.prog 37 #[.int .i64 n, .int .i64 a, .int .i64 b] w fun e w' => e = .returned (.bool v) ∧ w = w' := by
  have HB := Lib.hid hv
  clear hv
  cases h0 : decide (a ≤ n) <;> cases h1 : decide (n ≤ b)
  all_goals
    have H0 := Lib.hid h0
    have H1 := Lib.hid h1
    go_enter Tryd.func37, Tryd.ntmps37
    go_wp2
    go_ret
    refine ⟨congrArg Ending.returned (congrArg Value.bool ?_), rfl⟩
    rw [← HB.out, H0.out, H1.out]
    rfl
theorem pkey_any (n : Int) (v : Bool) (hv : (decide (0 ≤ n) && decide (n ≤ 99)) = v) (w : World) : Calls Tryd.prog 20 #[.int .i64 n] w fun e w' => e = .returned (.bool v) ∧ w = w' := by
  have HB := Lib.hid hv
  clear hv
  go_enter Tryd.func20, Tryd.ntmps20
  go_wp2_with fail
  refine (fwithin_any n 0 99 v HB.out w).mono ?_
  rintro e w1 ⟨rfl, rfl⟩
  go_wp2
  go_ret
  exact ⟨rfl, rfl⟩
theorem pversion_any (n : Int) (v : Bool) (hv : (decide (1 ≤ n) && decide (n ≤ 3)) = v) (w : World) : Calls Tryd.prog 21 #[.int .i64 n] w fun e w' => e = .returned (.bool v) ∧ w = w' := by
  have HB := Lib.hid hv
  clear hv
  go_enter Tryd.func21, Tryd.ntmps21
  go_wp2_with fail
  refine (fwithin_any n 1 3 v HB.out w).mono ?_
  rintro e w1 ⟨rfl, rfl⟩
  go_wp2
  go_ret
  exact ⟨rfl, rfl⟩
theorem leastN_out {t : Int} (h : (decide (1 ≤ t) && decide (t ≤ 13)) = false) : leastN t = 0 := by
  rw [leastN, if_pos]
  simp at h
  omega
theorem leastN_in {t : Int} (h : (decide (1 ≤ t) && decide (t ≤ 13)) = true) : ¬ (t < 1 ∨ 13 < t) := by
  simp at h
  omega
theorem pname_any (t v : Int) (b : Bool) (hv : leastN t = v) (hb : okN t = b) (w : World) : Calls Tryd.prog 38 #[.int .i64 t] w fun e w' => e = .returned (.tuple #[.int .i64 v, .bool b]) ∧ w = w' := by
  have HB := Lib.hid hb
  have h0 : (decide (1 ≤ t) && decide (t ≤ 13)) = b := hb
  clear hb
  cases b with
  | false =>
    rw [leastN_out h0] at hv
    subst hv
    have H0 := Lib.hid h0
    clear h0
    go_enter Tryd.func38, Tryd.ntmps38
    go_wp2_with fail
    refine (fwithin_any t 1 13 false H0.out w).mono ?_
    rintro e w1 ⟨rfl, rfl⟩
    go_wp2
    go_ret2
    exact ⟨rfl, rfl⟩
  | true =>
    have hin := leastN_in h0
    have H0 := Lib.hid h0
    clear h0
    rw [leastN, if_neg hin] at hv
    clear hin
    by_cases h8 : t = 8
    · rw [if_pos h8] at hv
      subst hv h8
      go_enter Tryd.func38, Tryd.ntmps38
      go_wp2_with fail
      refine (fwithin_any 8 1 13 true H0.out w).mono ?_
      rintro e w1 ⟨rfl, rfl⟩
      go_wp2
      go_ret2
      exact ⟨rfl, rfl⟩
    · rw [if_neg h8] at hv
      have q8 : (t == 8) = false := by rw [beq_eq_false_iff_ne]; exact h8
      by_cases h9 : t = 9
      · rw [if_pos h9] at hv
        subst hv h9
        clear h8 q8
        go_enter Tryd.func38, Tryd.ntmps38
        go_wp2_with fail
        refine (fwithin_any 9 1 13 true H0.out w).mono ?_
        rintro e w1 ⟨rfl, rfl⟩
        go_wp2
        go_ret2
        exact ⟨rfl, rfl⟩
      · rw [if_neg h9] at hv
        have q9 : (t == 9) = false := by rw [beq_eq_false_iff_ne]; exact h9
        subst hv
        clear h8 h9
        go_enter Tryd.func38, Tryd.ntmps38
        go_wp2_with fail
        refine (fwithin_any t 1 13 true H0.out w).mono ?_
        rintro e w1 ⟨rfl, rfl⟩
        go_wp2
        go_ret2
        exact ⟨rfl, rfl⟩
/-- The number of a tag, told by where it lies. -/
theorem pnum_any (X t : Nat) (h1 : 1 ≤ t) (h2 : t ≤ 13) (w : World) : Calls Tryd.prog 24 #[.pointer (some ⟨X, 0, none⟩), .int .i64 (t : Int)] w fun e w' => e = .returned (.pointer (some ⟨X, posN t, none⟩)) ∧ w = w' := by
  rcases tag_cases h1 h2 with rfl | rfl | rfl | rfl | rfl | rfl | rfl | rfl | rfl | rfl | rfl | rfl | rfl
  all_goals
    clear h1 h2
    go_enter Tryd.func24, Tryd.ntmps24
    go_wp2
    go_ret
    exact ⟨rfl, rfl⟩
end Go.Proofs.YtaokhkbfiplfmaaDoor
end
section
namespace Go.Proofs.YtaokhkbfiplfmaaDoor
set_option linter.unusedVariables false
open Go.ChangeShapes Go.WideShapes Go.ChangeAt Go.RowKit

/-- Tags as ints. -/
def zI (ts : List Nat) : List Int := ts.map fun t : Nat => (t : Int)
theorem zI_len (ts : List Nat) : (zI ts).length = ts.length := by simp [zI]
theorem zI_at {ts : List Nat} {k t : Nat} (h : ts[k]? = some t) : (zI ts)[k]? = some (t : Int) := by simp [zI, h]
theorem zI_snoc (ts : List Nat) (t : Nat) : zI (ts ++ [t]) = zI ts ++ [(t : Int)] := by simp [zI]
theorem fone_int (x : Int) : ∀ u ∈ ([.int .i64 x] : List Value), u.oneCell' = true := by
  intro u hu
  simp only [List.mem_singleton] at hu
  subst hu; rfl
theorem fint_lit (w : World) (x : Int) : ∀ j u, ([.int .i64 x] : List Value)[j]? = some u → (w.alloc (.cells #[.int .i64 x] 3)).cell? ((⟨w.heap.size, 0, none⟩ : Addr).add j) = some u := by
  intro j u hu
  rw [at_add, cell_of_row (w.alloc (.cells #[.int .i64 x] 3)) w.heap.size j _ _ (0, 0) (heap_alloc_new w _)]
  simpa using hu
set_option maxRecDepth 100000 in
set_option maxHeartbeats 1600000 in
theorem ptags_any (r : Rg) (X : Nat) (n : Nat) (hn : n = (tagsF 1 (numL r)).length) (w : World) (hX : FBox w X (rgL r)) : Calls Tryd.prog 23 #[.func (.func 24) #[.pointer (some ⟨X, 0, none⟩)] #[]] w fun e w' => ∃ A c, e = .returned (.slice A n c) ∧ Zs w' w'.heap.size (zI (tagsF 1 (numL r))) A c ∧ Below w.heap.size w w' := by
  obtain ⟨i0, hi, hz0, hz1, hz2⟩ := info_parts infoInt
  have HX := Lib.hid hX
  have HN := Lib.hid hn
  clear hX hn
  go_enter Tryd.func23, Tryd.ntmps23
  go_wp2
  go_loopw [3, 4] (fun v i wr => ∃ (t m : Nat), 1 ≤ t ∧ t ≤ 14 ∧ i = .int .i64 (t : Int) ∧ m = (tagsF 1 ((numL r).take (t - 1))).length ∧ m ≤ 13 ∧ wr.ownsRow w.heap.size 3 1 v m (I64 (zI (tagsF 1 ((numL r).take (t - 1))))) ∧ Below w.heap.size w wr) (fun _ i _ => 14 - (intOf i).toNat)
  case atStart => exact ⟨1, 0, by omega, by omega, rfl, rfl, by omega, ⟨rfl, .inl ⟨rfl, rfl⟩⟩, Below.refl _ _⟩
  case round =>
    obtain ⟨t, m, h1, h2, rfl, hm, hm13, hown, hbel⟩ := hrel
    have HM := Lib.hid hm
    have HO := Lib.hid hown
    have HBL := Lib.hid hbel
    have hsz := hbel.size
    clear hm hown hbel
    by_cases hlt : t ≤ 13
    · have hc := (HX.out.next HBL.out).cell (pos_at r h1 hlt)
      have HS := Lib.hid (tagsF_take (numL r) (t - 1) (by rw [numL_len]; omega))
      rw [show t - 1 + 1 = t by omega] at HS
      obtain ⟨x, hx⟩ : ∃ x, x = (numL r).getD (t - 1) 0 := ⟨_, rfl⟩
      rw [← hx] at hc HS
      obtain ⟨p, hp⟩ : ∃ p, p = posN t := ⟨_, rfl⟩
      have b1 : (t : Int) ≤ 13 := by omega
      by_cases h0 : x = 0
      · have HS2 := HS.out
        rw [if_pos h0, List.append_nil] at HS2
        have HST := Lib.hid HS2
        have q0 : (x != 0) = false := by rw [h0]; rfl
        clear HS HS2 hx h0
        rw [← hp] at hc
        go_wp2_with fail
        refine (pnum_any X t h1 hlt wr).mono ?_
        rintro e w1 ⟨rfl, rfl⟩
        rw [← hp]
        clear hp
        go_wp2
        go_roundw
        case rel => exact ⟨t + 1, m, by omega, by omega, by go_num, by rw [HM.out, Nat.add_sub_cancel, HST.out], hm13, by rw [Nat.add_sub_cancel, HST.out]; exact HO.out, HBL.out⟩
        case measure => simp [intOf]; omega
      · have HS2 := HS.out
        rw [if_neg h0] at HS2
        have HST := Lib.hid HS2
        have q0 : (x != 0) = true := by rw [bne_iff_ne]; exact h0
        have hml := tagsF_len ((numL r).take (t - 1)) 1
        rw [List.length_take, numL_len] at hml
        have hm12 : m ≤ 12 := by have := HM.out; omega
        clear HS HS2 hx h0 hml
        rw [← hp] at hc
        go_wp2_with fail
        refine (pnum_any X t h1 hlt wr).mono ?_
        rintro e w1 ⟨rfl, rfl⟩
        rw [← hp]
        clear hp
        go_wp2_with (at_builtin; refine wpList_append_own _ rfl (.tmp 15) (.tmp 17) 57 rfl w.heap.size 3 i0 (.int .i64 0) 1 8 Tryd.underlying57 hi hz0 hz1 hz2 rfl (by decide) _ m _ rfl (HO.out.alloc _) ⟨wr.heap.size, 0, none⟩ 1 1 [.int .i64 (t : Int)] rfl rfl (fint_lit wr _) (fone_int _) (by unfold maxLen; omega) (by omega) (by simp; omega) ?_; intro v' w3 hown' hgrow _)
        have hbel2 : Below w.heap.size w w3 := (HBL.out.alloc HBL.out.size _).grown hgrow (by simp; omega) (fun j hj => own_ge HO.out hj)
        have HO2 : Hid (w3.ownsRow w.heap.size 3 1 v' (m + 1) (I64 (zI (tagsF 1 ((numL r).take t))))) := Lib.hid (by rw [HST.out, zI_snoc, I64_append]; exact hown')
        clear hown' hgrow
        go_wp2
        go_roundw
        case rel => exact ⟨t + 1, m + 1, by omega, by omega, by go_num, by rw [Nat.add_sub_cancel, HST.out, List.length_append, ← HM.out]; rfl, by omega, by rw [Nat.add_sub_cancel]; exact HO2.out, hbel2⟩
        case measure => simp [intOf]; omega
    · have e1 : t = 14 := by omega
      subst e1
      have hmn : m = n := by rw [HM.out, HN.out]; rfl
      have ho := HO.out
      rw [show (numL r).take (14 - 1) = numL r from rfl] at ho
      obtain ⟨A2, c2, rfl, _, hzs⟩ := zs_of_own ho
      have HZ := Lib.hid hzs
      subst hmn
      clear ho hzs hlt
      go_wp2
      go_ret
      exact ⟨A2, c2, rfl, HZ.out, HBL.out⟩
theorem fitX_at {v : Int} {ts : List Nat} {k t : Nat} (h : ts[k]? = some t) (ht : v < leastN t) : fitX v ts = false := by
  rw [fitX, List.all_eq_false]
  exact ⟨t, List.mem_of_getElem? h, by simp; omega⟩
theorem fitX_all {v : Int} {ts : List Nat} (h : ∀ j t : Nat, ts[j]? = some t → leastN (t : Int) ≤ v) : fitX v ts = true := by
  rw [fitX, List.all_eq_true]
  intro t ht
  obtain ⟨j, hj⟩ := List.mem_iff_getElem?.1 ht
  exact decide_eq_true (h j t hj)
set_option maxRecDepth 100000 in
set_option maxHeartbeats 1600000 in
theorem ptells_any (v : Int) (ts : List Nat) (n : Nat) (hn : n = ts.length) (hts : ∀ t ∈ ts, 1 ≤ t ∧ t ≤ 13) (b : Bool) (hb : fitX v ts = b) (A : Option Addr) (c : Nat) (w : World) (hA : Zs w w.heap.size (zI ts) A c) : Calls Tryd.prog 25 #[.int .i64 v, .slice A n c] w fun e w' => e = .returned (.bool b) ∧ w = w' := by
  have h63 : n ≤ 9223372036854775807 := by have h1 := hA.len; have h2 := hA.cap; rw [zI_len] at h1; omega
  have HN := Lib.hid hn
  have HT := Lib.hid hts
  have HB := Lib.hid hb
  have HA := Lib.hid hA
  clear hn hts hb hA
  go_enter Tryd.func25, Tryd.ntmps25
  go_wp2
  go_loop [11] (fun i => ∃ k : Nat, k ≤ n ∧ i = .int .i64 k ∧ ∀ j t : Nat, j < k → ts[j]? = some t → leastN (t : Int) ≤ v) (fun i => n - (intOf i).toNat)
  case atStart => exact ⟨0, Nat.zero_le _, rfl, by omega⟩
  case round =>
    obtain ⟨k, hk, rfl, hall⟩ := hrel
    have HH := Lib.hid hall
    clear hall
    by_cases hlt : k < n
    · obtain ⟨t, ht⟩ : ∃ t, ts[k]? = some t := ⟨_, List.getElem?_eq_getElem (by rw [← HN.out]; exact hlt)⟩
      obtain ⟨ad, rfl, had, hc⟩ := HA.out.at (zI_at ht)
      obtain ⟨t1, t2⟩ := HT.out t (List.mem_of_getElem? ht)
      have HK := Lib.hid (show okN (t : Int) = true by rw [okN, decide_eq_true (by omega : (1 : Int) ≤ t), decide_eq_true (by omega : (t : Int) ≤ 13)]; rfl)
      obtain ⟨m, hm⟩ : ∃ m, leastN (t : Int) = m := ⟨_, rfl⟩
      have HM := Lib.hid hm
      have HTT := Lib.hid ht
      have b1 : (0 : Int) ≤ (k : Int) := by omega
      have b2 : (k : Int) < (n : Int) := by omega
      clear ht hm t1 t2
      by_cases hv : v < m
      · have HBR := Lib.hid (HB.out.symm.trans (fitX_at HTT.out (by rw [HM.out]; exact hv)))
        go_wp2_with fail
        refine (pname_any t m true HM.out HK.out w).mono ?_
        rintro e w1 ⟨rfl, rfl⟩
        go_wp2
        go_ret
        exact ⟨by rw [HBR.out]; rfl, rfl⟩
      · have HST := Lib.hid (show ∀ j t : Nat, j < k + 1 → ts[j]? = some t → leastN (t : Int) ≤ v from by
          intro j t hj ht
          rcases Nat.lt_or_ge j k with h | h
          · exact HH.out j t h ht
          · have e : j = k := by omega
            subst e
            rw [HTT.out] at ht
            cases ht
            have := HM.out
            omega)
        go_wp2_with fail
        refine (pname_any t m true HM.out HK.out w).mono ?_
        rintro e w1 ⟨rfl, rfl⟩
        go_wp2
        go_round
        case rel => exact ⟨k + 1, by omega, by go_num, HST.out⟩
        case measure => simp [intOf]; omega
    · have e : k = n := by omega
      subst e
      have HBR := Lib.hid (HB.out.symm.trans (fitX_all (fun j t ht => HH.out j t (by rw [HN.out]; exact (List.getElem?_eq_some_iff.1 ht).1) ht)))
      clear hlt
      go_wp2
      go_ret
      exact ⟨by rw [HBR.out]; rfl, rfl⟩
end Go.Proofs.YtaokhkbfiplfmaaDoor
end
section
namespace Go.Proofs.YtaokhkbfiplfmaaDoor
set_option linter.unusedVariables false
open Go.ChangeShapes Go.WideShapes Go.ChangeAt Go.RowKit

/-- At the address p lies the field f, its value below block B. -/
structure TAt (w : World) (B : Nat) (p : Addr) (f : Tf) (S : Option Addr) (c : Nat) : Prop where
  c0 : w.cell? p = some (.int .i64 f.tag)
  c1 : w.cell? ⟨p.block, p.off + 1, none⟩ = some (.slice S f.val.length c)
  bs : Bs w B f.val S c
theorem TAt.below {w w' : World} {B B' : Nat} {p : Addr} {f : Tf} {S : Option Addr} {c : Nat} (h : TAt w B p f S c) (hp : p.block < B') (hB : B ≤ B') (hb : Below B' w w') : TAt w' B p f S c :=
  ⟨(hb.cell hp).trans h.c0, (hb.cell (p := ⟨p.block, p.off + 1, none⟩) hp).trans h.c1, h.bs.below (hb.mono hB)⟩
theorem TAt.more {w : World} {B B' : Nat} {p : Addr} {f : Tf} {S : Option Addr} {c : Nat} (h : TAt w B p f S c) (hB : B ≤ B') : TAt w B' p f S c := ⟨h.c0, h.c1, h.bs.more hB⟩
/-- A slice value that reads as fields, two cells each, below block B: where it lies, and its capacity. -/
structure Ts (w : World) (B : Nat) (l : List Tf) (A : Option Addr) (c : Nat) : Prop where
  rd : ∀ i, i < l.length → ∃ ad S cc, A = some ad ∧ ad.block < B ∧ TAt w B (ad.add (i * 2)) (l.getD i TF0) S cc
  nil : A = none → c = 0
  len : l.length ≤ c
  cap : c ≤ 9223372036854775807
theorem Ts.below {w w' : World} {B : Nat} {l : List Tf} {A : Option Addr} {c : Nat} (h : Ts w B l A c) (hb : Below B w w') : Ts w' B l A c := by
  refine ⟨fun i hi => ?_, h.nil, h.len, h.cap⟩
  obtain ⟨ad, S, cc, e, hlt, hk⟩ := h.rd i hi
  exact ⟨ad, S, cc, e, hlt, hk.below (by rw [add_block]; exact hlt) (Nat.le_refl _) hb⟩
theorem Ts.more {w : World} {B B' : Nat} {l : List Tf} {A : Option Addr} {c : Nat} (h : Ts w B l A c) (hB : B ≤ B') : Ts w B' l A c := by
  refine ⟨fun i hi => ?_, h.nil, h.len, h.cap⟩
  obtain ⟨ad, S, cc, e, hlt, hk⟩ := h.rd i hi
  exact ⟨ad, S, cc, e, by omega, hk.more hB⟩
theorem Ts.next {w w' : World} {l : List Tf} {A : Option Addr} {c : Nat} (h : Ts w w.heap.size l A c) (hb : Below w.heap.size w w') : Ts w' w'.heap.size l A c := (h.below hb).more hb.size
theorem Ts.vals {w : World} {B : Nat} {l : List Tf} {A : Option Addr} {c : Nat} (h : Ts w B l A c) : ∀ f ∈ l, ∀ x ∈ f.val, x < 256 := by
  intro f hf
  obtain ⟨i, hi, rfl⟩ := List.mem_iff_getElem.1 hf
  obtain ⟨ad, S, cc, _, _, hk⟩ := h.rd i hi
  have e : l.getD i TF0 = l[i] := by rw [List.getD_eq_getElem?_getD, List.getElem?_eq_getElem hi]; rfl
  rw [← e]
  exact hk.bs.lt
theorem Ts.empty (w : World) (B : Nat) : Ts w B [] none 0 := ⟨by intro i hi; simp at hi, fun _ => rfl, by simp, by omega⟩

/-- A field as it stands in memory: where its value lies, and that one's capacity. -/
structure TV where
  f : Tf
  S : Option Addr
  c : Nat
def TV.cells (q : TV) : List Value := [.int .i64 q.f.tag, .slice q.S q.f.val.length q.c]
def flatV (L : List TV) : List Value := L.flatMap TV.cells
theorem flatV_append (L M : List TV) : flatV (L ++ M) = flatV L ++ flatV M := by simp [flatV]
theorem flatV_one (q : TV) : flatV [q] = q.cells := by simp [flatV]
theorem length_flatV (L : List TV) : (flatV L).length = L.length * 2 := by
  induction L with
  | nil => rfl
  | cons q L ih => rw [show flatV (q :: L) = q.cells ++ flatV L from rfl, List.length_append, ih, List.length_cons]; simp [TV.cells]; omega
theorem flatV_at (L : List TV) (i j : Nat) (q : TV) (hq : L[i]? = some q) (hj : j < 2) : (flatV L)[i * 2 + j]? = q.cells[j]? := by
  induction L generalizing i with
  | nil => simp at hq
  | cons x L ih =>
    rw [show flatV (x :: L) = x.cells ++ flatV L from rfl]
    cases i with
    | zero =>
      simp at hq
      subst hq
      rw [Nat.zero_mul, Nat.zero_add, List.getElem?_append_left (by simp [TV.cells]; omega)]
    | succ i =>
      rw [List.getElem?_append_right (by simp [TV.cells]; omega)]
      have : (i + 1) * 2 + j - x.cells.length = i * 2 + j := by simp [TV.cells]; omega
      rw [this]
      exact ih i (by simpa using hq)
theorem vcells_one (q : TV) : ∀ u ∈ q.cells, u.oneCell' = true := by
  intro u hu
  simp [TV.cells] at hu
  rcases hu with rfl | rfl <;> rfl
theorem infoField3 : (Tryd.prog.info? 66).map (fun i => (i.zero, i.size, i.bytes)) = some (some (.agg #[.int .i64 0, .slice none 0 0]), 2, 32) := by kernel_rfl
/-- What a call owns reads as fields. -/
theorem ts_of_own {w : World} {base n : Nat} {v : Value} {L : List TV} (h : w.ownsRow base 66 2 v n (flatV L)) (hs : ∀ q ∈ L, Bs w w.heap.size q.f.val q.S q.c) : ∃ A c, v = .slice A n c ∧ Ts w w.heap.size (L.map (·.f)) A c := by
  have hn : L.length = n := by
    have := h.1
    rw [length_flatV] at this
    omega
  rcases h.2 with ⟨rfl, h0⟩ | ⟨g, cap, cur, rfl, _, hg, h2, h3, _⟩
  · subst h0
    obtain rfl : L = [] := List.eq_nil_of_length_eq_zero hn
    exact ⟨none, 0, rfl, Ts.empty w _⟩
  · unfold maxLen at h3
    refine ⟨_, cap, rfl, ?_, by simp, by rw [List.length_map, hn]; omega, by omega⟩
    have hg : g < w.heap.size := (Array.getElem?_eq_some_iff.1 hg).1
    intro i hi
    have hi' : i < L.length := by simpa using hi
    have hq : L[i]? = some L[i] := List.getElem?_eq_getElem hi'
    have hk : (L.map (·.f)).getD i TF0 = L[i].f := by
      rw [List.getD_eq_getElem?_getD, List.getElem?_map, hq]; rfl
    have hc : ∀ j, j < 2 → w.cell? ⟨g, i * 2 + j, none⟩ = (L[i]).cells[j]? := by
      intro j hj
      rw [h.cellAt _ (by omega), flatV_at L i j _ hq hj]
    rw [hk]
    refine ⟨_, (L[i]).S, (L[i]).c, rfl, hg, ?_⟩
    rw [at_add]
    exact ⟨hc 0 (by omega), hc 1 (by omega), hs _ (List.getElem_mem hi')⟩
/-- One field's cells, just laid. -/
theorem own_field_lit (w : World) (q : TV) : ∀ j u, q.cells[j]? = some u → (w.alloc (.cells q.cells.toArray 66)).cell? ((⟨w.heap.size, 0, none⟩ : Addr).add j) = some u := by
  intro j u hu
  rw [at_add, cell_of_row (w.alloc (.cells q.cells.toArray 66)) w.heap.size j _ _ (0, 0) (heap_alloc_new w _)]
  simpa using hu
/-- append of one field, just laid, onto fields of the call's own. -/
theorem wpList_append_field {ops : Array Oper} {rest : List Oper} {o : Oper} {a : Act} {Q : Exit → Act → World → Prop} (hgd : o.guard = none) (s x : Operand)
    (ho : o.op = .call { callee := .builtin .append, args := #[s, x], argTypes := #[43, 43] })
    (w0 : World) (base m : Nat) (v : Value) (M : List TV) (q : TV) (hs : a.eval s = v) (hown : w0.ownsRow base 66 2 v m (flatV M))
    (H : Nat) (hH : w0.heap.size = H) (hx : a.eval x = .slice (some ⟨H, 0, none⟩) 1 1) (hM : m ≤ 1000000) (hbase : base ≤ w0.heap.size)
    (h : ∀ v' w', w'.ownsRow base 66 2 v' (m + 1) (flatV (M ++ [q])) → w0.grownBy w' v.ownBlock →
      wpList Tryd.prog ops Q rest (a.put o.dst v') w') :
    wpList Tryd.prog ops Q (o :: rest) a (w0.alloc (.cells q.cells.toArray 66)) := by
  subst hH
  obtain ⟨i0, hif, hz0, hz1, hz2⟩ := info_parts infoField3
  have hb0 := below_lit w0 q.cells.toArray 66
  have hown1 := own_below hown hb0
  refine wpList_append_own _ hgd s x 43 ho base 66 i0 _ 2 32 Tryd.underlying43 hif hz0 hz1 hz2 rfl (by decide) v m (flatV M) hs hown1 ⟨w0.heap.size, 0, none⟩ 1 1 q.cells hx rfl (own_field_lit w0 q) (vcells_one q) (by unfold maxLen; omega) (by omega) (Nat.le_trans hbase hb0.size) ?_
  intro v' w' hown' hg' _
  have hf : flatV (M ++ [q]) = flatV M ++ q.cells := by rw [flatV_append, flatV_one]
  rw [← hf] at hown'
  exact h v' w' hown' ⟨hg'.os.trans hb0.os, hg'.tape.trans hb0.tape, hg'.output.trans hb0.output, Nat.le_trans hb0.size hg'.size, fun k hk hne => (hg'.block k (Nat.lt_of_lt_of_le hk hb0.size) hne).trans (hb0.block k hk)⟩
end Go.Proofs.YtaokhkbfiplfmaaDoor
end
section
namespace Go.Proofs.YtaokhkbfiplfmaaDoor
set_option linter.unusedVariables false
open Go.ChangeShapes Go.WideShapes Go.ChangeAt Go.RowKit

/-- The block of a slice, if any, is one of bytes. -/
def TyB (w : World) (S : Option Addr) : Prop := ∀ ad, S = some ad → ∃ cs fz, w.heap[ad.block]? = some (.cells cs 5 fz)
theorem TyB.next {w w' : World} {S : Option Addr} (h : TyB w S) (hb : Below w.heap.size w w') : TyB w' S := fun ad e => by
  obtain ⟨cs, fz, h1⟩ := h ad e
  exact ⟨cs, fz, (hb.block _ (Array.getElem?_eq_some_iff.1 h1).1).trans h1⟩
theorem tyb_of_own {w : World} {base n m : Nat} {xs : List Value} {A : Option Addr} {c : Nat} (h : w.ownsRow base 5 1 (.slice A m c) n xs) : TyB w A := by
  intro ad e
  subst e
  rcases h.2 with ⟨h1, _⟩ | ⟨g, cap, cur, h1, _, hg, _⟩
  · cases h1
  · cases h1
    exact ⟨cur, _, hg⟩
theorem tyb_ne {w : World} {S : Option Addr} {base n : Nat} {v : Value} {xs : List Value} (h : TyB w S) (hown : w.ownsRow base 66 2 v n xs) {ad : Addr} (e : S = some ad) : some ad.block ≠ v.ownBlock := by
  intro hb
  obtain ⟨cs, fz, h1⟩ := h ad e
  rcases hown.2 with ⟨rfl, _⟩ | ⟨g, cap, cur, rfl, _, hg, _⟩
  · cases hb
  · simp only [Value.ownBlock, Option.some.injEq] at hb
    rw [hb, hg] at h1
    cases h1
/-- Rows of bytes stay, where fields of the call's own grow. -/
theorem bs_grown {w w' : World} {s : List Nat} {S : Option Addr} {c base n : Nat} {v : Value} {xs : List Value} (h : TyB w S) (hbs : Bs w w.heap.size s S c) (hown : w.ownsRow base 66 2 v n xs) (hg : w.grownBy w' v.ownBlock) : TyB w' S ∧ Bs w' w'.heap.size s S c := by
  refine ⟨fun ad e => ?_, fun k u hu => ?_, hbs.nil, hbs.len, hbs.cap, hbs.lt⟩
  · obtain ⟨cs, fz, h1⟩ := h ad e
    exact ⟨cs, fz, (hg.block _ (Array.getElem?_eq_some_iff.1 h1).1 (tyb_ne h hown e)).trans h1⟩
  · obtain ⟨ad, e, hlt, hc⟩ := hbs.rd k u hu
    exact ⟨ad, e, Nat.lt_of_lt_of_le hlt hg.size, hg.cell hc (by rw [add_block]; exact tyb_ne h hown e)⟩
end Go.Proofs.YtaokhkbfiplfmaaDoor
end
section
namespace Go.Proofs.YtaokhkbfiplfmaaDoor
set_option linter.unusedVariables false
open Go.ChangeShapes Go.WideShapes Go.ChangeAt Go.RowKit
end Go.Proofs.YtaokhkbfiplfmaaDoor
end
section
namespace Go.Proofs.YtaokhkbfiplfmaaDoor
set_option linter.unusedVariables false
open Go.ChangeShapes Go.WideShapes Go.ChangeAt Go.RowKit
end Go.Proofs.YtaokhkbfiplfmaaDoor
end
