/-
  The three function values that the landed ring hands to last. Conditions: the box that each has captured.
  Contract for the landed apart: a key with a secret of its own. Conditions: the secret has from 1 to 64 bytes.
  Contracts for the landed Find and On. Conditions: the slice reads as keys.
  The secret of a key that is found is short. No program; conditions: none.
  Two rows of bytes joined: slices.Concat of a block of two slices. Conditions: at most 2^47 bytes, and at least one.
  Contract for masked of package mac: each byte of a block by exclusive or with a mask. Conditions: the bytes fit 8 bits.
  The digest of a slice that may be nil, said of its length; what a literal with a mark reads as. Conditions: as for Sum.
  Contract for the comparison of bytes: equal lists are told equal. Conditions: the lists' lengths fit an int.
  Contract for the reference's Words: just the words that bits.Words gives. Conditions: at most 4000 bytes.
  Contract for the reference's Bytes: just the bytes that bits.Bytes gives. Conditions: at most 1000 words.
  Contract for the reference's Sum of layer 2: the digest of bytes. Conditions: the slice reads as bytes, at most 5000 of them.
  What laws over digests share: the contracts of padding, of the digest and of the reference's, said of a named answer; and how bytes that came in are opened where they may be nil. Conditions: at most 5000 bytes.
  Contract for Block of package mac: a secret's block. Conditions: the slice reads as bytes, at most 5000 of them; the package's tables hold what its text lays.
-/
import Derived.Test.YtaokhkbfiplfmaaGreatDoorRingPIs
import Derived.Test.YtaokhkbfiplfmaaGreatDoorApart
import Derived.Test.YtaokhkbfiplfmaaGreatDoorMem
import Derived.Deep.RegionHeld3
import Derived.Deep.MidRow
import Derived.ArgAppend
import Derived.Test.YtaokhkbfiplfmaaGreatDoorShaSched
import Derived.Test.YtaokhkbfiplfmaaGreatDoorFitsP
import Derived.Test.YtaokhkbfiplfmaaGreatDoorMath
import Derived.Test.YtaokhkbfiplfmaaGreatDoorShaPWords
section
namespace Go.Proofs.YtaokhkbfiplfmaaGreatDoor
set_option linter.unusedVariables false
open Go.ChangeShapes Go.WideShapes Go.ChangeAt Go.RowKit

theorem find_fits (id : Int) (b : Nat) (w : World) (h : w.heap[b]? = some (.cells #[.int .i64 id] 3 (0, 0))) : Fits 32 #[.pointer (some ⟨b, 0, none⟩)] (fun q => q.id == id) w := by
  intro W q hB
  have hb : W.heap[b]? = some (.cells #[.int .i64 id] 3 (0, 0)) := (hB.block _ (Array.getElem?_eq_some_iff.1 h).1).trans h
  have hc : W.cell? ⟨b, 0, none⟩ = some (.int .i64 id) := by rw [cell_of_row W b 0 _ _ (0, 0) hb]; rfl
  have hlt := (Array.getElem?_eq_some_iff.1 hb).1
  clear h hB hb
  show Calls _ _ #[.agg #[.int .i64 q.k.id, .slice q.S q.k.sec.length q.c, .int .i64 q.k.frm, .int .i64 q.k.til], .pointer (some ⟨b, 0, none⟩)] W _
  go_enter Tryz.func32, Tryz.ntmps32
  go_wp2
  go_ret
  exact ⟨rfl, below_lit W _ _⟩
end Go.Proofs.YtaokhkbfiplfmaaGreatDoor
end
section
namespace Go.Proofs.YtaokhkbfiplfmaaGreatDoor
set_option linter.unusedVariables false
open Go.ChangeShapes Go.WideShapes Go.ChangeAt Go.RowKit

theorem rd_at {w : World} {B : Nat} {ad : Addr} {xs : List Value} (h : Rd w B (some ad) xs) : ∀ j u, xs[j]? = some u → w.cell? (ad.add j) = some u := by
  intro j u hu
  obtain ⟨ad', e, _, hc⟩ := h j u hu
  cases e
  exact hc
theorem rbs_of_own {w : World} {base n : Nat} {v : Value} {s : List Nat} (h : w.ownsRow base 5 1 v n (U8 s)) (hs : ∀ x ∈ s, x < 256) : ∃ A c, v = .slice A n c ∧ Bs w w.heap.size s A c := by
  have hn : s.length = n := by have := h.1; simpa [U8] using this
  rcases h.2 with ⟨rfl, h0⟩ | ⟨g, cap, cur, rfl, _, _, h2, h3, _⟩
  · subst h0
    have : s = [] := List.eq_nil_of_length_eq_zero hn
    subst this
    exact ⟨none, 0, rfl, ⟨by intro k u hu; simp [U8] at hu, fun _ => rfl, by simp, by omega, by simp⟩⟩
  · unfold maxLen at h3
    exact ⟨_, cap, rfl, ⟨Rd.of_own h, by simp, by omega, h3, hs⟩⟩
theorem infoBytes : (Tryz.prog.info? 26).map (·.size) = some 1 := by kernel_rfl
set_option maxRecDepth 20000 in
theorem apart_any (q : KV) (n : Nat) (hn : n = q.k.sec.length) (w : World) (h : Bs w w.heap.size q.k.sec q.S q.c) (h0 : 1 ≤ n) (h1 : n ≤ 64) :
    Calls Tryz.prog 33 #[.agg #[.int .i64 q.k.id, .slice q.S n q.c, .int .i64 q.k.frm, .int .i64 q.k.til]] w fun e w' => ∃ S c, e = .returned (.agg #[.int .i64 q.k.id, .slice S n c, .int .i64 q.k.frm, .int .i64 q.k.til]) ∧ Bs w' w'.heap.size q.k.sec S c ∧ (∀ ad, S = some ad → w.heap.size ≤ ad.block) ∧ Below w.heap.size w w' := by
  obtain ⟨i0, hi, hz0, hz1, hz2⟩ := info_parts infoU8
  obtain ⟨ad, hS⟩ : ∃ ad, q.S = some ad := by
    have : 0 < (U8 q.k.sec).length := by simp [U8]; omega
    obtain ⟨ad, e, _⟩ := h.rd 0 _ (List.getElem?_eq_getElem this)
    exact ⟨ad, e⟩
  have HB := Lib.hid h
  have HN := Lib.hid hn
  have hcap : n ≤ q.c := by have := h.len; omega
  have hcap2 := h.cap
  obtain ⟨⟨kid, ksec, kf, kt⟩, S, c⟩ := q
  simp only at hS hcap hcap2 HB HN
  subst hS
  have HUL := Lib.hid (show (U8 ksec).length = n by simp [U8, HN.out])
  have HRD := Lib.hid (fun (w' : World) (hb : Below w.heap.size w w') => HB.out.rd.next hb)
  have hn1 : 0 + n ≤ maxLen := by unfold maxLen; omega
  have hn2 : (0 + n) * 1 ≤ 140737488355328 := by omega
  clear h hn
  go_enter Tryz.func33, Tryz.ntmps33
  go_wp2
  obtain ⟨wb, hwb⟩ : ∃ wb, wb = (w.alloc (.cells #[.int .i64 kid, .slice (some ad) n c, .int .i64 kf, .int .i64 kt] 28)).alloc (.cells #[.int .i64 0, .slice none 0 0, .int .i64 0, .int .i64 0] 28) := ⟨_, rfl⟩
  have hb0 : wb.heap[w.heap.size]? = some (.cells #[.int .i64 kid, .slice (some ad) n c, .int .i64 kf, .int .i64 kt] 28 (0, 0)) := by
    rw [hwb]; exact (Below.heap_alloc _ _ _ (by simp)).trans (heap_alloc_new w _)
  have hb1 : wb.heap[w.heap.size + 1]? = some (.cells #[.int .i64 0, .slice none 0 0, .int .i64 0, .int .i64 0] 28 (0, 0)) := by
    rw [hwb]; exact heap_new2 w _ _
  have hbel : Below w.heap.size w wb := by
    rw [hwb]; exact ((Below.refl _ w).alloc (Nat.le_refl _) _).alloc (by simp) _
  have hsz : wb.heap.size = w.heap.size + 2 := by rw [hwb]; simp
  rw [← hwb]
  clear hwb
  have hc1 : wb.drew.cell? ⟨w.heap.size, 1, none⟩ = some (.slice (some ad) n c) := by change wb.cell? _ = _; rw [cell_of_row wb _ 1 _ _ (0, 0) hb0]; rfl
  refine wp_region_still_tail 5 (by kernel_rfl) (by kernel_rfl) ?_
  simp only [List.take_succ_cons, List.take_zero, List.drop_succ_cons, List.drop_zero]
  repeat still_step
  refine wpStill_nil ?_
  change wpList _ _ _ _ _ wb.drew
  go_wp2_with (at_builtin; refine wpList_append_grows _ rfl (.tmp 5) (.tmp 7) 26 rfl 5 i0 (.int .u8 0) 1 1 Tryz.underlying26 hi hz0 hz1 hz2 rfl (by omega) (some ad) 0 0 [] rfl (fun h => by cases h) rfl (fun b hb j u hu => by simp at hu) ad n c (U8 ksec) rfl (by rw [HUL.out]; omega) (rd_at (HRD.out _ hbel.drew)) (U8_one _) (by omega) hn1 hn2 ?_)
  intro v1 w1 hown1 hg1
  have hown2 : w1.ownsRow wb.heap.size 5 1 v1 n (U8 ksec) := by rw [hsz]; simpa using hown1
  obtain ⟨A', c', e, hbs⟩ := rbs_of_own hown2 HB.out.lt
  subst e
  have HOW := Lib.hid hown2
  have hbw : Below wb.heap.size wb w1 := (Below.refl _ wb).drew.grown hg1 (Nat.le_refl _) (fun k e => by cases e)
  have h10 : w1.heap[w.heap.size]? = some (.cells #[.int .i64 kid, .slice (some ad) n c, .int .i64 kf, .int .i64 kt] 28 (0, 0)) := (hbw.block _ (by omega)).trans hb0
  have h11 : w1.heap[w.heap.size + 1]? = some (.cells #[.int .i64 0, .slice none 0 0, .int .i64 0, .int .i64 0] 28 (0, 0)) := (hbw.block _ (by omega)).trans hb1
  have HBW := Lib.hid (hbel.trans (hbw.mono (by omega)))
  have HSZ := Lib.hid (show w.heap.size + 2 ≤ w1.heap.size by have := hbw.size; omega)
  clear hown1 hown2 hg1 hbs hbw hb0 hb1 hbel hc1
  have hc1 : w1.cell? ⟨w.heap.size, 1, none⟩ = some (.slice (some ad) n c) := by rw [cell_of_row w1 _ 1 _ _ (0, 0) h10]; rfl
  have hf1 : w1.frozen? ⟨w.heap.size, 1, none⟩ = false := frozen_of_row w1 _ 1 _ _ h10
  have hc1s : (w1.cell? ⟨w.heap.size, 1, none⟩).isSome = true := by rw [hc1]; rfl
  have H10 := Lib.hid h10
  have H11 := Lib.hid h11
  clear h10 h11 hc1
  go_wp2_with ((with_reducible refine at_store 9 ?_); refine wpList_store_cell (op := ⟨none, .store 26 (.tmp 9) (.tmp 8), _, _, _, _⟩) rfl 26 (.tmp 9) (.tmp 8) rfl w.heap.size 1 (.slice A' n c') rfl rfl rfl hc1s hf1 infoBytes ?_)
  intro w2 hw2
  have h20 : w2.heap[w.heap.size]? = some (.cells #[.int .i64 kid, .slice A' n c', .int .i64 kf, .int .i64 kt] 28 (0, 0)) := by rw [hw2.out]; exact heap_setCell_same w1 _ 1 _ _ _ H10.out
  have h21 : w2.heap[w.heap.size + 1]? = some (.cells #[.int .i64 0, .slice none 0 0, .int .i64 0, .int .i64 0] 28 (0, 0)) := by rw [hw2.out]; exact (heap_setCell_other w1 _ _ _ (by simp)).trans H11.out
  have hb2 : Below w.heap.size w1 w2 := by rw [hw2.out]; exact (Below.refl _ _).setCell (p := ⟨w.heap.size, 1, none⟩) (Nat.le_refl _) _
  have hd0 : w2.cell? ⟨w.heap.size, 0, none⟩ = some (.int .i64 kid) := by rw [cell_of_row w2 _ 0 _ _ (0, 0) h20]; rfl
  have hd1 : w2.cell? ⟨w.heap.size, 1, none⟩ = some (.slice A' n c') := by rw [cell_of_row w2 _ 1 _ _ (0, 0) h20]; rfl
  have hd2 : w2.cell? ⟨w.heap.size, 2, none⟩ = some (.int .i64 kf) := by rw [cell_of_row w2 _ 2 _ _ (0, 0) h20]; rfl
  have hd3 : w2.cell? ⟨w.heap.size, 3, none⟩ = some (.int .i64 kt) := by rw [cell_of_row w2 _ 3 _ _ (0, 0) h20]; rfl
  have H21 := Lib.hid h21
  have HB2 := Lib.hid (HBW.out.trans hb2)
  clear h20 h21 hb2 hc1s hf1
  go_wp2_with ((with_reducible refine at_store 2 ?_); refine wpList_store_named (o := ⟨none, .store 28 (.tmp 2) (.tmp 10), _, _, _, _⟩) rfl 28 (.tmp 2) (.tmp 10) rfl (w.heap.size + 1) #[.int .i64 kid, .slice A' n c', .int .i64 kf, .int .i64 kt] rfl rfl 28 #[.int .i64 0, .slice none 0 0, .int .i64 0, .int .i64 0] H21.out infoKey rfl (kc_one _ _ _ _ _ _) ?_; intro w5 hw5)
  have hr5 := setRow_heap w2 (w.heap.size + 1) #[.int .i64 0, .slice none 0 0, .int .i64 0, .int .i64 0] #[.int .i64 kid, .slice A' n c', .int .i64 kf, .int .i64 kt] 28 (0, 0) H21.out
  rw [← hw5.out] at hr5
  have hge : ∀ b, b < w.heap.size + 2 → (Value.slice A' n c').ownBlock = none ∨ (Value.slice A' n c').ownBlock ≠ some b := fun b hb => by
    cases e : (Value.slice A' n c').ownBlock with
    | none => exact .inl rfl
    | some g => exact .inr (fun e2 => by cases e2; have := own_ge HOW.out e; omega)
  have how2 : w2.ownsRow wb.heap.size 5 1 (.slice A' n c') n (U8 ksec) := HOW.out.kept (by rw [hw2.out]; exact grown_cell _ _ _ _) (hge _ (by omega))
  have how5 : w5.ownsRow wb.heap.size 5 1 (.slice A' n c') n (U8 ksec) := how2.kept (by rw [hw5.out]; exact grown_row _ _ _) (hge _ (by omega))
  obtain ⟨A5, c5, e5, hbs5⟩ := rbs_of_own how5 HB.out.lt
  cases e5
  have hb5 : Below w.heap.size w2 w5 := below_row hw5.out (by omega)
  refine bodyPost_ret (results_row Tryz.results33 _ w5 (w.heap.size + 1) 28 #[.int .i64 kid, .slice A' n c', .int .i64 kf, .int .i64 kt] (0, 0) _ rfl hr5 Tryz.underlying28 rfl infoKey) rfl ⟨A', c', rfl, hbs5, fun ad' e => by subst e; have := own_ge HOW.out (g := ad'.block) rfl; omega, HB2.out.trans hb5⟩
end Go.Proofs.YtaokhkbfiplfmaaGreatDoor
end
section
namespace Go.Proofs.YtaokhkbfiplfmaaGreatDoor
set_option linter.unusedVariables false
open Go.ChangeShapes Go.WideShapes Go.ChangeAt Go.RowKit

theorem ring_lt {l : List K} (h : isR l = true) {i j : Nat} (hij : i < j) (hj : j < l.length) : (l.getD i K0).id < (l.getD j K0).id := by
  have hp := ((isR_iff l).1 h).2
  rw [List.pairwise_iff_getElem] at hp
  have := hp i j (by omega) hj hij
  rw [List.getD_eq_getElem?_getD, List.getD_eq_getElem?_getD, List.getElem?_eq_getElem hj, List.getElem?_eq_getElem (show i < l.length by omega)]
  exact this
theorem ring_right {l : List K} (h : isR l = true) {k : K} (hk : k ∈ l) : 1 ≤ k.sec.length ∧ k.sec.length ≤ 64 := by
  have := ((isR_iff l).1 h).1 k hk
  have := (rightN_iff _ _ _ _).1 this
  exact ⟨this.2.2.1, this.2.2.2.1⟩
theorem getD_mem {l : List K} {k : Nat} (h : k < l.length) : l.getD k K0 ∈ l := by
  rw [List.getD_eq_getElem?_getD, List.getElem?_eq_getElem h]
  exact List.getElem_mem h
theorem find_last {l : List K} {id : Int} (hr : isR l = true) {k : Nat} (hk : k < l.length) (hp : ((l.getD k K0).id == id) = true) : l.find? (fun q => q.id == id) = some (l.getD k K0) :=
  find_at k hk (fun j hj => by
    have := ring_lt hr hj hk
    have e : (l.getD k K0).id = id := by simpa using hp
    show ((l.getD j K0).id == id) = false
    rw [beq_eq_false_iff_ne]; omega) hp

theorem bs_setRow {w w' : World} {B g : Nat} {cs : Array Value} {s : List Nat} {A : Option Addr} {c : Nat} (h : Bs w B s A c) (hg : ∀ ad, A = some ad → ad.block ≠ g) (hw : w' = w.setRow g cs) : Bs w' B s A c := by
  subst hw
  refine ⟨fun k u hu => ?_, h.nil, h.len, h.cap, h.lt⟩
  obtain ⟨ad, e, hlt, hc⟩ := h.rd k u hu
  refine ⟨ad, e, hlt, ?_⟩
  rw [← hc]
  have : (w.setRow g cs).heap[(ad.add k).block]? = w.heap[(ad.add k).block]? := setRow_other w g _ cs (by rw [add_block]; exact hg ad e)
  simp only [World.cell?, this]
set_option maxRecDepth 20000 in
theorem pfind_any (l : List K) (n : Nat) (hn : n = l.length) (id : Int) (A : Option Addr) (c : Nat) (w : World) (hA : Ks w w.heap.size A l) (h1 : n ≤ 9223372036854775807)
    (r : K) (E : Int) (hr : r = findK l id) (hE : E = findE l id) :
    Calls Tryz.prog 22 #[.slice A n c, .int .i64 id] w fun e w' => ∃ S cc, e = .returned (.tuple #[.agg #[.int .i64 r.id, .slice S r.sec.length cc, .int .i64 r.frm, .int .i64 r.til], .int .i64 E]) ∧ Bs w' w'.heap.size r.sec S cc ∧ Below w.heap.size w w' := by
  have HN := Lib.hid hn
  have HA := Lib.hid hA
  have HR := Lib.hid hr
  have HE := Lib.hid hE
  clear hn hA hr hE
  obtain ⟨w0, hw0⟩ : ∃ w0, w0 = (w.alloc (.cells #[.int .i64 id] 3)).alloc (.cells #[.int .i64 0, .slice none 0 0, .int .i64 0, .int .i64 0] 28) := ⟨_, rfl⟩
  have hb0 : Below w.heap.size w w0 := by rw [hw0]; exact ((Below.refl _ w).alloc (Nat.le_refl _) _).alloc (by simp) _
  have hi0 : w0.heap[w.heap.size]? = some (.cells #[.int .i64 id] 3 (0, 0)) := by rw [hw0]; exact (Below.heap_alloc _ _ _ (by simp)).trans (heap_alloc_new w _)
  have hx0 : w0.heap[w.heap.size + 1]? = some (.cells #[.int .i64 0, .slice none 0 0, .int .i64 0, .int .i64 0] 28 (0, 0)) := by rw [hw0]; exact heap_new2 w _ _
  have hs0 : w0.heap.size = w.heap.size + 2 := by rw [hw0]; simp
  have HW0 := Lib.hid hw0
  have HA0 := Lib.hid (HA.out.next hb0)
  clear hw0
  cases his : isR l with
  | false =>
    have hr : r = K0 := by rw [HR.out, findK, his]; rfl
    have hE : E = 1 := by rw [HE.out, findE, his]; rfl
    subst hr hE
    go_enter Tryz.func22, Tryz.ntmps22
    go_wp2_with fail
    rw [← HW0.out]
    refine (pis_named l n HN.out false his A c w0 HA0.out h1).mono ?_
    rintro e w1 ⟨rfl, hb1⟩
    have HBX := Lib.hid ((hb1.block _ (by omega)).trans hx0)
    have HB1 := Lib.hid (hb0.trans (hb1.mono hb0.size))
    clear hb1 hx0 hi0 hb0 hs0
    go_wp2_with ((with_reducible refine at_store 4 ?_); refine wpList_store_named (o := ⟨none, .store 28 (.tmp 4) (.tmp 10), _, _, _, _⟩) rfl 28 (.tmp 4) (.tmp 10) rfl (w.heap.size + 1) #[.int .i64 0, .slice none 0 0, .int .i64 0, .int .i64 0] rfl rfl 28 #[.int .i64 0, .slice none 0 0, .int .i64 0, .int .i64 0] HBX.out infoKey rfl (kc_one _ _ _ _ _ _) ?_; intro w5 hw5)
    have hr5 := setRow_heap w1 (w.heap.size + 1) #[.int .i64 0, .slice none 0 0, .int .i64 0, .int .i64 0] #[.int .i64 0, .slice none 0 0, .int .i64 0, .int .i64 0] 28 (0, 0) HBX.out
    rw [← hw5.out] at hr5
    have hb5 := below_row hw5.out (show w.heap.size ≤ w.heap.size + 1 by omega)
    refine bodyPost_ret (results_row_tmp Tryz.results22 _ w5 (w.heap.size + 1) 28 #[.int .i64 0, .slice none 0 0, .int .i64 0, .int .i64 0] (0, 0) _ rfl hr5 Tryz.underlying28 rfl infoKey) rfl ⟨none, 0, rfl, Bs.empty _ _, HB1.out.trans hb5⟩
  | true =>
    have h100 : n ≤ 100 := by rw [HN.out]; exact ring_len his
    have HRING := Lib.hid his
    have HE21 := Lib.hid (enters_of Tryz.func32 (by kernel_rfl) rfl)
    go_enter Tryz.func22, Tryz.ntmps22
    go_wp2_with fail
    rw [← HW0.out]
    refine (pis_named l n HN.out true his A c w0 HA0.out h1).mono ?_
    rintro e w1 ⟨rfl, hb1⟩
    have hx1 := (hb1.block _ (show w.heap.size + 1 < w0.heap.size by omega)).trans hx0
    have hi1 := (hb1.block _ (show w.heap.size < w0.heap.size by omega)).trans hi0
    have hB1 := hb0.trans (hb1.mono hb0.size)
    have hs1 : w.heap.size + 2 ≤ w1.heap.size := by have := hb1.size; omega
    have HA1 := Lib.hid (HA.out.next hB1)
    have HFIT := Lib.hid (find_fits id w.heap.size w1 hi1)
    clear hb1 hx0 hi0 hb0 hs0 hi1 his
    rcases lastIx_cases (fun j => (fun q : K => q.id == id) (l.getD j K0)) n with ⟨hlx, hall⟩ | ⟨k, hk, hlx, hpk, hall⟩
    · have hf := find_none (p := fun q : K => q.id == id) (by rw [← HN.out]; exact hall)
      have hr : r = K0 := by rw [HR.out, findK, HRING.out, hf]; rfl
      have hE : E = 10 := by rw [HE.out, findE, HRING.out, hf]; rfl
      subst hr hE
      have HLX := Lib.hid hlx
      clear hf hall hlx
      go_wp2_with fail
      refine (last_any (fun q : K => q.id == id) l n HN.out (by omega) 32 #[.pointer (some ⟨w.heap.size, 0, none⟩)] HE21.out A c w1 HA1.out HFIT.out).mono ?_
      rintro e w2 ⟨rfl, hb2⟩
      rw [HLX.out]
      have HBX := Lib.hid ((hb2.block _ (show w.heap.size + 1 < w1.heap.size by omega)).trans hx1)
      have HB1 := Lib.hid (hB1.trans (hb2.mono hB1.size))
      clear hb2 hx1 hB1
      go_wp2_with ((with_reducible refine at_store 4 ?_); refine wpList_store_named (o := ⟨none, .store 28 (.tmp 4) (.tmp 16), _, _, _, _⟩) rfl 28 (.tmp 4) (.tmp 16) rfl (w.heap.size + 1) #[.int .i64 0, .slice none 0 0, .int .i64 0, .int .i64 0] rfl rfl 28 #[.int .i64 0, .slice none 0 0, .int .i64 0, .int .i64 0] HBX.out infoKey rfl (kc_one _ _ _ _ _ _) ?_; intro w5 hw5)
      have hr5 := setRow_heap w2 (w.heap.size + 1) #[.int .i64 0, .slice none 0 0, .int .i64 0, .int .i64 0] #[.int .i64 0, .slice none 0 0, .int .i64 0, .int .i64 0] 28 (0, 0) HBX.out
      rw [← hw5.out] at hr5
      have hb5 := below_row hw5.out (show w.heap.size ≤ w.heap.size + 1 by omega)
      refine bodyPost_ret (results_row_tmp Tryz.results22 _ w5 (w.heap.size + 1) 28 #[.int .i64 0, .slice none 0 0, .int .i64 0, .int .i64 0] (0, 0) _ rfl hr5 Tryz.underlying28 rfl infoKey) rfl ⟨none, 0, rfl, Bs.empty _ _, HB1.out.trans hb5⟩
    · have hkl : k < l.length := by rw [← HN.out]; exact hk
      have hf := find_last HRING.out hkl hpk
      obtain ⟨x, hx⟩ : ∃ x, x = l.getD k K0 := ⟨_, rfl⟩
      have hr : r = x := by rw [HR.out, findK, HRING.out, hf, hx]; rfl
      have hE : E = 0 := by rw [HE.out, findE, HRING.out, hf]; rfl
      subst hr hE
      have HLEN := Lib.hid (ring_right HRING.out (getD_mem hkl))
      rw [← hx] at HLEN
      have HLX := Lib.hid hlx
      have HX := Lib.hid hx
      have HKL := Lib.hid hkl
      clear hf hall hlx hpk hx hkl
      go_wp2_with fail
      refine (last_any (fun q : K => q.id == id) l n HN.out (by omega) 32 #[.pointer (some ⟨w.heap.size, 0, none⟩)] HE21.out A c w1 HA1.out HFIT.out).mono ?_
      rintro e w2 ⟨rfl, hb2⟩
      rw [HLX.out]
      have hx2 := (hb2.block _ (show w.heap.size + 1 < w1.heap.size by omega)).trans hx1
      have hB2 := hB1.trans (hb2.mono hB1.size)
      have hs2 : w.heap.size + 2 ≤ w2.heap.size := by have := hb2.size; omega
      obtain ⟨ad, S, cc, rfl, had, hk4⟩ := (HA.out.next hB2) k HKL.out
      rw [← HX.out] at hk4
      have hc0 := hk4.c0
      have hc1 := hk4.c1
      have hc2 := hk4.c2
      have hc3 := hk4.c3
      have HBS := Lib.hid hk4.bs
      have HX2 := Lib.hid hx2
      have HB2 := Lib.hid hB2
      have b0 : ¬ ((k : Int) < 0) := by omega
      have b1 : (0 : Int) ≤ (k : Int) := by omega
      have b2 : (k : Int) < (n : Int) := by omega
      clear hb2 hx1 hB1 hx2 hB2 hk4
      go_wp2_with (first | (go_at_call 33; refine (apart_any ⟨r, S, cc⟩ r.sec.length rfl w2 HBS.out HLEN.out.1 HLEN.out.2).mono ?_; rintro e w3 ⟨S3, c3, rfl, hbs3, hge3, hb3⟩; have HX3 := Lib.hid ((hb3.block _ (show w.heap.size + 1 < w2.heap.size by omega)).trans HX2.out); have HBS3 := Lib.hid hbs3; have HGE3 := Lib.hid hge3; have HB3 := Lib.hid hb3; clear hbs3 hge3 hb3) | ((with_reducible refine at_store 4 ?_); refine wpList_store_named (o := ⟨none, .store 28 (.tmp 4) (.tmp 21), _, _, _, _⟩) rfl 28 (.tmp 4) (.tmp 21) rfl (w.heap.size + 1) #[.int .i64 r.id, .slice S3 r.sec.length c3, .int .i64 r.frm, .int .i64 r.til] rfl rfl 28 #[.int .i64 0, .slice none 0 0, .int .i64 0, .int .i64 0] HX3.out infoKey rfl (kc_one _ _ _ _ _ _) ?_; intro w5 hw5))
      have hr5 := setRow_heap w3 (w.heap.size + 1) #[.int .i64 0, .slice none 0 0, .int .i64 0, .int .i64 0] #[.int .i64 r.id, .slice S3 r.sec.length c3, .int .i64 r.frm, .int .i64 r.til] 28 (0, 0) HX3.out
      rw [← hw5.out] at hr5
      have hb5 := below_row hw5.out (show w.heap.size ≤ w.heap.size + 1 by omega)
      have hbs5 : Bs w5 w5.heap.size r.sec S3 c3 := by
        have h3 := HBS3.out
        have e5 : w5.heap.size = w3.heap.size := by rw [hw5.out]; simp
        rw [e5]
        exact bs_setRow h3 (fun ad' e => by have := HGE3.out ad' e; omega) hw5.out
      refine bodyPost_ret (results_row_tmp Tryz.results22 _ w5 (w.heap.size + 1) 28 #[.int .i64 r.id, .slice S3 r.sec.length c3, .int .i64 r.frm, .int .i64 r.til] (0, 0) _ rfl hr5 Tryz.underlying28 rfl infoKey) rfl ⟨S3, c3, rfl, hbs5, (HB2.out.trans (HB3.out.mono HB2.out.size)).trans hb5⟩
end Go.Proofs.YtaokhkbfiplfmaaGreatDoor
end
section
namespace Go.Proofs.YtaokhkbfiplfmaaGreatDoor
set_option linter.unusedVariables false
open Go.ChangeShapes Go.WideShapes Go.ChangeAt Go.RowKit

theorem find_sec {l : List K} {id : Int} (h : findE l id = 0) : (findK l id).sec.length ≤ 64 := by
  rw [findE] at h
  split at h
  · rename_i hr
    split at h
    · rename_i hs
      obtain ⟨x, hx⟩ := Option.isSome_iff_exists.1 hs
      rw [findK, if_pos hr, hx, Option.getD_some]
      exact (ring_right hr (List.mem_of_find?_eq_some hx)).2
    · exact absurd h (by decide)
  · exact absurd h (by decide)
end Go.Proofs.YtaokhkbfiplfmaaGreatDoor
end
section
namespace Go.Proofs.YtaokhkbfiplfmaaGreatDoor
set_option linter.unusedVariables false
open Go.ChangeShapes Go.WideShapes Go.ChangeAt Go.RowKit

/-- Two rows of bytes, one behind the other: what a block of two slices is joined to. -/
theorem concat2 (a b L : List Nat) (hL : a ++ b = L) (n m k : Nat) (hn : n = a.length) (hm : m = b.length) (hk : k = L.length) (A B : Option Addr) (c d : Nat) (w : World) (ha : Rd w w.heap.size A (U8 a)) (hb : Rd w w.heap.size B (U8 b)) (hnA : A = none → c = 0) (hnB : B = none → d = 0) (hla : ∀ x ∈ a, x < 256) (hlb : ∀ x ∈ b, x < 256) (h0 : 0 < k) (h1 : k ≤ 140737488355328) :
    Calls Tryz.prog 16 #[.slice (some ⟨w.heap.size, 0, none⟩) 2 2] (w.alloc (.cells #[.slice A n c, .slice B m d] 26)) fun e w' => ∃ A' c', e = .returned (.slice A' k c') ∧ Bs w' w'.heap.size L A' c' ∧ Below w.heap.size w w' := by
  subst hL hk
  have hf : a ++ b = cflat [⟨A, a, c⟩, ⟨B, b, d⟩] := by simp [cflat]
  have hbl := below_lit w #[.slice A n c, .slice B m d] 26
  rw [hf] at h0 h1 ⊢
  refine (concat_any [⟨A, a, c⟩, ⟨B, b, d⟩] w.heap.size 2 2 _ rfl (by simp) (parts_lit (by simp [Part.val, hn, hm])) ?_ (by omega) h0 h1).mono ?_
  · intro p hp
    refine Part.ok_alloc ?_ _
    simp only [List.mem_cons, List.not_mem_nil, or_false] at hp
    rcases hp with rfl | rfl
    · exact ⟨ha, hnA⟩
    · exact ⟨hb, hnB⟩
  · rintro e w' ⟨v, rfl, hown, hbw⟩
    rw [← hf] at hown ⊢
    obtain ⟨A', c', rfl, hs⟩ := bs_of_own hown (fun x hx => by
      rcases List.mem_append.1 hx with h | h
      · exact hla x h
      · exact hlb x h)
    exact ⟨A', c', rfl, hs, hbl.trans (hbw.mono hbl.size)⟩
end Go.Proofs.YtaokhkbfiplfmaaGreatDoor
end
section
namespace Go.Proofs.YtaokhkbfiplfmaaGreatDoor
set_option maxRecDepth 100000
set_option linter.unusedVariables false
open Go.ChangeShapes Go.WideShapes Go.ChangeAt Go.RowKit

def b64 : Array Value := #[.int .u8 0, .int .u8 0, .int .u8 0, .int .u8 0, .int .u8 0, .int .u8 0, .int .u8 0, .int .u8 0, .int .u8 0, .int .u8 0, .int .u8 0, .int .u8 0, .int .u8 0, .int .u8 0, .int .u8 0, .int .u8 0, .int .u8 0, .int .u8 0, .int .u8 0, .int .u8 0, .int .u8 0, .int .u8 0, .int .u8 0, .int .u8 0, .int .u8 0, .int .u8 0, .int .u8 0, .int .u8 0, .int .u8 0, .int .u8 0, .int .u8 0, .int .u8 0, .int .u8 0, .int .u8 0, .int .u8 0, .int .u8 0, .int .u8 0, .int .u8 0, .int .u8 0, .int .u8 0, .int .u8 0, .int .u8 0, .int .u8 0, .int .u8 0, .int .u8 0, .int .u8 0, .int .u8 0, .int .u8 0, .int .u8 0, .int .u8 0, .int .u8 0, .int .u8 0, .int .u8 0, .int .u8 0, .int .u8 0, .int .u8 0, .int .u8 0, .int .u8 0, .int .u8 0, .int .u8 0, .int .u8 0, .int .u8 0, .int .u8 0, .int .u8 0]
theorem info64 : (Tryz.prog.info? 98).map (·.size) = some 64 := by kernel_rfl
theorem U8_getD (l : List Nat) (k : Nat) (h : k < l.length) : (U8 l)[k]? = some (.int .u8 ((l.getD k 0 : Nat) : Int)) := by
  rw [U8_at l k h, List.getD_eq_getElem?_getD, List.getElem?_eq_getElem h]; rfl
/-- A byte of a row of bytes. -/
theorem cell_u8 {w : World} {g : Nat} {l : List Nat} {t : TypeId} (h : w.heap[g]? = some (.cells (U8 l).toArray t (0, 0))) (k : Nat) (hk : k < l.length) : w.cell? ⟨g, k, none⟩ = some (.int .u8 ((l.getD k 0 : Nat) : Int)) := by
  rw [cell_of_row w g k _ _ (0, 0) h, List.getElem?_toArray, U8_getD l k hk]

set_option maxRecDepth 100000 in
set_option maxHeartbeats 800000 in
theorem masked_any (K : List Nat) (m : Nat) (w : World) (hK : ∀ x ∈ K, x < 256) (hl : K.length = 64) (hm : m < 256) :
    Calls Tryz.prog 53 #[.agg (U8 K).toArray, .int .u8 m] w fun e w' => e = .returned (.agg (U8 (maskN K m)).toArray) ∧ Below w.heap.size w w' := by
  obtain ⟨X, hX⟩ : ∃ X : Array Value, X = (U8 K).toArray := ⟨_, rfl⟩
  obtain ⟨w0, hw0⟩ : ∃ w0 : World, w0 = (w.alloc (.cells X 98)).alloc (.cells b64 98) := ⟨_, rfl⟩
  rw [← hX]
  obtain ⟨hs0, hx0, hr0, hb0⟩ := two_made hw0
  rw [hX] at hx0
  have HX0 := Lib.hid hx0
  have HR0 := Lib.hid hr0
  have HK := Lib.hid hK
  have HL := Lib.hid hl
  have HW := Lib.hid hw0
  have HS := Lib.hid hs0
  clear hX hw0 hx0 hr0 hK hl hs0
  go_enter Tryz.func53, Tryz.ntmps53
  go_wp2_with fail
  have e0 : (w.alloc (.cells X 98)).alloc (.cells b64 98) = w0 := HW.out.symm
  unfold b64 at e0
  rw [e0]
  clear e0
  go_loopw [5, 6] (fun _ i wr => ∃ k : Nat, k ≤ 64 ∧ i = .int .i64 k ∧ wr.heap[w.heap.size]? = some (.cells (U8 (maskTo K m k)).toArray 98 (0, 0)) ∧ wr.heap[w.heap.size + 1]? = some (.cells b64 98 (0, 0)) ∧ Below w.heap.size w wr) (fun _ i _ => 64 - (intOf i).toNat)
  case atStart => exact ⟨0, Nat.zero_le _, rfl, by rw [maskTo_zero]; exact HX0.out, HR0.out, hb0⟩
  case round =>
    obtain ⟨k, hk, rfl, hv, hr, hbel⟩ := hrel
    by_cases hlt : k < 64
    · have hkl : k < K.length := by rw [HL.out]; exact hlt
      have hfz := frozen_of_row wr _ k _ _ hv
      have hcur := cell_u8 hv k (by rw [length_maskTo]; exact hkl)
      rw [maskTo_get] at hcur
      have hset := heap_setCell_same wr _ k _ 98 (.int .u8 ((K.getD k 0 ^^^ m : Nat) : Int)) hv
      have hst : (U8 (maskTo K m k)).toArray.setIfInBounds k (.int .u8 ((K.getD k 0 ^^^ m : Nat) : Int)) = (U8 (maskTo K m (k + 1))).toArray := by
        rw [List.setIfInBounds_toArray, ← maskTo_set K m k hkl, U8, U8, List.map_set]
      rw [hst] at hset
      have HSET := Lib.hid hset
      have HR := Lib.hid ((heap_setCell_other wr ⟨w.heap.size, k, none⟩ (w.heap.size + 1) (.int .u8 ((K.getD k 0 ^^^ m : Nat) : Int)) (by show w.heap.size + 1 ≠ w.heap.size; omega)).trans hr)
      have hx8 := getD_lt8 HK.out k
      have hxor := u8_xor_nat (K.getD k 0) m hx8 hm
      have bk0 : (0 : Int) ≤ (k : Int) := Int.natCast_nonneg _
      have bk1 : (k : Int) < 64 := by omega
      clear hset hst hv hr
      generalize K.getD k 0 = y at *
      go_wp2
      go_roundw
      case rel => exact ⟨k + 1, by omega, by go_num, HSET.out, HR.out, hbel.setCell (Nat.le_refl _) _⟩
      case measure => simp [intOf]; omega
    · have k64 : k = 64 := by omega
      subst k64
      have hall : maskTo K m 64 = maskN K m := by rw [← HL.out]; exact maskTo_all K m
      rw [hall] at hv
      obtain ⟨F, hF⟩ : ∃ F : Array Value, F = (U8 (maskN K m)).toArray := ⟨_, rfl⟩
      rw [← hF] at hv
      have hsz : F.size = 64 := by rw [hF]; simp [U8, length_maskN, HL.out]
      have hin : (Tryz.prog.info? 98).map (·.size) = some F.size := by rw [hsz]; exact info64
      have hone : F.all (·.oneCell') = true := by rw [hF]; exact all_one8 _
      have HF := Lib.hid hF
      have HV := Lib.hid hv
      have HR := Lib.hid hr
      have HSZ := Lib.hid hsz
      have HIN := Lib.hid hin
      have HONE := Lib.hid hone
      clear hF hv hr hsz hin hone hall
      go_wp2_with (first
        | ((with_reducible refine at_load 16 ?_); refine wpList_load_row (o := ⟨some 16, .load 98 (.tmp 2), _, _, _, _⟩) rfl 98 (.tmp 2) rfl w.heap.size rfl 98 F (0, 0) _ HV.out Tryz.underlying98 rfl HIN.out ?_)
        | ((with_reducible refine at_store 4 ?_); refine wpList_store_named (o := ⟨none, .store 98 (.tmp 4) (.tmp 16), _, _, _, _⟩) rfl 98 (.tmp 4) (.tmp 16) rfl (w.heap.size + 1) F rfl rfl 98 b64 HR.out HIN.out HSZ.out.symm HONE.out ?_; intro w1 hw1))
      have hr1 : w1.heap[w.heap.size + 1]? = some (.cells F 98 (0, 0)) := by rw [hw1.out]; exact setRow_heap _ _ _ _ _ _ HR.out
      refine bodyPost_ret (results_cell_row Tryz.results53 _ w1 (w.heap.size + 1) 98 _ (0, 0) _ rfl hr1 Tryz.underlying98 rfl HIN.out) rfl ⟨by rw [HF.out], ?_⟩
      exact hbel.trans (below_row hw1.out (by omega))
end Go.Proofs.YtaokhkbfiplfmaaGreatDoor
end
section
namespace Go.Proofs.YtaokhkbfiplfmaaGreatDoor
set_option linter.unusedVariables false
open Go.ChangeShapes Go.WideShapes Go.ChangeAt Go.RowKit

theorem sum_len (l : List Nat) (n : Nat) (hn : n = l.length) (A : Option Addr) (c : Nat) (w : World) (hT : Tabs w) (hA : Rd w w.heap.size A (U8 l)) (hnil : A = none → c = 0) (hb : ∀ x ∈ l, x < 256) (hl : n ≤ 5000) :
    Calls Tryz.prog 54 #[.slice A n c] w fun e w' => e = .returned (.agg (U8 (digestN l)).toArray) ∧ Below w.heap.size w w' := by
  subst hn
  exact sum_ok l A c w hT hA hnil hb hl
end Go.Proofs.YtaokhkbfiplfmaaGreatDoor
end
section
namespace Go.Proofs.YtaokhkbfiplfmaaGreatDoor
set_option linter.unusedVariables false
open Go.ChangeShapes Go.WideShapes Go.ChangeAt Go.RowKit
end Go.Proofs.YtaokhkbfiplfmaaGreatDoor
end
section
namespace Go.Proofs.YtaokhkbfiplfmaaGreatDoor
set_option maxRecDepth 100000
set_option linter.unusedVariables false
open Go.ChangeShapes Go.WideShapes Go.ChangeAt Go.RowKit
end Go.Proofs.YtaokhkbfiplfmaaGreatDoor
end
section
namespace Go.Proofs.YtaokhkbfiplfmaaGreatDoor
set_option maxRecDepth 100000
set_option linter.unusedVariables false
open Go.ChangeShapes Go.WideShapes Go.ChangeAt Go.RowKit
end Go.Proofs.YtaokhkbfiplfmaaGreatDoor
end
section
namespace Go.Proofs.YtaokhkbfiplfmaaGreatDoor
set_option maxRecDepth 100000
set_option linter.unusedVariables false
open Go.ChangeShapes Go.WideShapes Go.ChangeAt Go.RowKit
end Go.Proofs.YtaokhkbfiplfmaaGreatDoor
end
section
namespace Go.Proofs.YtaokhkbfiplfmaaGreatDoor
set_option maxRecDepth 100000
set_option linter.unusedVariables false
open Go.ChangeShapes Go.WideShapes Go.ChangeAt Go.RowKit

section
variable {H : Type} {enc : TypeId × Value → H} {P : Program}
end

theorem sum_arr (l : List Nat) (FD : Array Value) (hF : Hid (FD = (U8 (digestN l)).toArray)) (n : Nat) (hn : n = l.length) (A : Option Addr) (c : Nat) (w : World) (hT : Tabs w) (hA : Rd w w.heap.size A (U8 l)) (hnil : A = none → c = 0) (hb : ∀ x ∈ l, x < 256) (hl : n ≤ 5000) :
    Calls Tryz.prog 54 #[.slice A n c] w fun e w' => e = .returned (.agg FD) ∧ Below w.heap.size w w' := by
  rw [hF.out]
  exact sum_len l n hn A c w hT hA hnil hb hl
end Go.Proofs.YtaokhkbfiplfmaaGreatDoor
end
section
namespace Go.Proofs.YtaokhkbfiplfmaaGreatDoor
set_option maxRecDepth 100000
set_option linter.unusedVariables false
open Go.ChangeShapes Go.WideShapes Go.ChangeAt Go.RowKit

theorem splice_b64 (l : List Nat) (h : l.length ≤ 64) : splice b64.toList 0 (U8 l) = U8 (l ++ List.replicate (64 - l.length) 0) := by
  have e : b64.toList = U8 (List.replicate 64 0) := rfl
  unfold splice
  rw [e, List.take_zero, List.nil_append, Nat.zero_add, U8_length, U8_append, U8_drop, List.drop_replicate]
theorem two_made_set {w w' : World} {ca cb cd : Array Value} {ta tb : TypeId} (h : w' = ((w.alloc (.cells ca ta)).alloc (.cells cb tb)).setRow (w.heap.size + 1) cd) :
    w'.heap.size = w.heap.size + 1 + 1 ∧ w'.heap[w.heap.size]? = some (.cells ca ta (0, 0)) ∧ w'.heap[w.heap.size + 1]? = some (.cells cd tb (0, 0)) ∧ Below w.heap.size w w' := by
  have h2 : ((w.alloc (.cells ca ta)).alloc (.cells cb tb)).heap[w.heap.size + 1]? = some (.cells cb tb (0, 0)) := heap_alloc2_new _ _ _
  subst h
  refine ⟨by simp, ?_, setRow_heap _ _ _ _ _ _ h2, ?_⟩
  · rw [setRow_other _ _ _ _ (by omega)]; exact heap_alloc2_old _ _ _
  · exact below_setRow (((Below.refl _ _).alloc (Nat.le_refl _) _).alloc (by simp) _) (by omega) _
theorem rd_cells {w : World} {A : Option Addr} {l : List Nat} (hA : Rd w w.heap.size A (U8 l)) (h : 0 < (U8 l).length) : ∃ ad, A = some ad ∧ ∀ j v, (U8 l)[j]? = some v → w.cell? (ad.add j) = some v := by
  obtain ⟨ad, he, _, _⟩ := hA 0 _ (List.getElem?_eq_getElem h)
  refine ⟨ad, he, fun j v hv => ?_⟩
  obtain ⟨ad', he', _, hc⟩ := hA j v hv
  rw [he] at he'
  cases he'
  exact hc

set_option maxRecDepth 100000 in
set_option maxHeartbeats 800000 in
theorem macblock_short (l : List Nat) (n : Nat) (hn : n = l.length) (A : Option Addr) (c : Nat) (w : World) (hA : Rd w w.heap.size A (U8 l)) (hnil : A = none → c = 0) (h : n ≤ 64) (F : Array Value) (hF : F = (U8 (blockM l)).toArray) :
    Calls Tryz.prog 51 #[.slice A n c] w fun e w' => e = .returned (.agg F) ∧ Below w.heap.size w w' := by
  have hkey : keyN l = l := by unfold keyN; rw [if_neg (by omega)]
  have hsp : (splice b64.toList 0 (U8 l)).toArray = F := by rw [splice_b64 l (by omega), hF]; unfold blockM; rw [hkey]
  have hsz : F.size = 64 := by rw [hF]; simp [U8, length_blockM]
  have hin : (Tryz.prog.info? 98).map (·.size) = some F.size := by rw [hsz]; exact info64
  have hone : F.all (·.oneCell') = true := by rw [hF]; exact all_one8 _
  have hmin : (U8 l).length = Nat.min n 64 := by rw [U8_length, ← hn]; exact (Nat.min_eq_left h).symm
  have hfit : 0 + (U8 l).length ≤ b64.toList.length := by rw [U8_length, ← hn]; show 0 + n ≤ 64; omega
  have HA := Lib.hid hA
  have HNIL := Lib.hid hnil
  have HSP := Lib.hid hsp
  have HSZ := Lib.hid hsz
  have HIN := Lib.hid hin
  have HONE := Lib.hid hone
  have HMIN := Lib.hid hmin
  have HFIT := Lib.hid hfit
  clear hA hnil hsp hsz hin hone hkey hF hmin hfit hn
  go_enter Tryz.func51, Tryz.ntmps51
  go_wp2_with (first
    | ((with_reducible refine at_store 3 ?_); refine wpList_store_named (o := ⟨none, .store 98 (.tmp 3) (.tmp 5), _, _, _, _⟩) rfl 98 (.tmp 3) (.tmp 5) rfl (w.heap.size + 1) b64 rfl rfl 98 b64 (heap_alloc2_new _ _ _) info64 rfl (all_one8 (List.replicate 64 0)) ?_; intro w0 hw0)
    | ((with_reducible refine at_calls 14 ?_); refine wpList_copy_splice (o := ⟨some 14, _, _, _, _, _⟩) rfl (.tmp 12) (.tmp 13) 26 26 rfl 5 Tryz.underlying26 sizeU8 (some ⟨w.heap.size + 1, 0, none⟩) A 64 64 n c rfl rfl (w.heap.size + 1) 0 b64.toList 98 (two_made_set hw0.out).2.2.1 (U8 l) HMIN.out (fun hp => ⟨rfl, rd_cells (HA.out.next (two_made_set hw0.out).2.2.2) hp⟩) HFIT.out (U8_one l) (w.heap.size + 1) w0 (Below.refl _ _) (Nat.le_refl _) ?_; intro w1 hw1 hb1; have hw1' : Hid (w1.heap[w.heap.size + 1]? = some (.cells F 98 (0, 0))) := Lib.hid (HSP.out ▸ hw1.out))
    | ((with_reducible refine at_load 15 ?_); refine wpList_load_row (o := ⟨some 15, .load 98 (.tmp 3), _, _, _, _⟩) rfl 98 (.tmp 3) rfl (w.heap.size + 1) rfl 98 F (0, 0) _ hw1'.out Tryz.underlying98 rfl HIN.out ?_)
    | ((with_reducible refine at_store 2 ?_); refine wpList_store_named (o := ⟨none, .store 98 (.tmp 2) (.tmp 15), _, _, _, _⟩) rfl 98 (.tmp 2) (.tmp 15) rfl w.heap.size F rfl rfl 98 b64 ((hb1.block _ (by omega)).trans (two_made_set hw0.out).2.1) HIN.out HSZ.out.symm HONE.out ?_; intro w2 hw2))
  have hr2 : w2.heap[w.heap.size]? = some (.cells F 98 (0, 0)) := by
    rw [hw2.out]; exact setRow_heap _ _ _ _ _ _ ((hb1.block _ (by omega)).trans (two_made_set hw0.out).2.1)
  refine bodyPost_ret (results_cell_row Tryz.results51 _ w2 w.heap.size 98 _ (0, 0) _ rfl hr2 Tryz.underlying98 rfl HIN.out) rfl ⟨rfl, ?_⟩
  exact ((two_made_set hw0.out).2.2.2.trans (hb1.mono (by omega))).trans (below_row hw2.out (Nat.le_refl _))

theorem mac_facts {w w0 w1 w2 : World} {D : List Nat} {FD : Array Value} {t t' : TypeId} (hs0 : w0.heap.size = w.heap.size + 1 + 1) (hr0 : w0.heap[w.heap.size]? = some (.cells b64 t (0, 0))) (hv0 : w0.heap[w.heap.size + 1]? = some (.cells b64 t (0, 0))) (hb0 : Below w.heap.size w w0) (hb1 : Below w0.heap.size w0 w1)
    (h : w2 = (w1.alloc (.cells b32 t')).setRow w1.heap.size FD) (hFD : FD = (U8 D).toArray) :
    Rd w2 w2.heap.size (some ⟨w1.heap.size, 0, none⟩) (U8 D) ∧ w2.heap[w.heap.size + 1]? = some (.cells b64 t (0, 0)) ∧ w2.heap[w.heap.size]? = some (.cells b64 t (0, 0)) ∧ Below w.heap.size w w2 := by
  obtain ⟨hs2, hr2, hb2⟩ := row_made h
  have hs1 := hb1.size
  refine ⟨?_, (hb2.block (w.heap.size + 1) (by omega)).trans ((hb1.block _ (by omega)).trans hv0), (hb2.block w.heap.size (by omega)).trans ((hb1.block _ (by omega)).trans hr0), (hb0.trans (hb1.mono (by omega))).trans (hb2.mono (by omega))⟩
  intro k u hu
  refine ⟨_, rfl, by show w1.heap.size < _; omega, ?_⟩
  rw [at_add, cell_of_row w2 _ k _ _ (0, 0) hr2, hFD]
  simpa using hu

set_option maxRecDepth 100000 in
set_option maxHeartbeats 800000 in
theorem macblock_long (l : List Nat) (n : Nat) (hn : n = l.length) (A : Option Addr) (c : Nat) (w : World) (hT : Tabs w) (hA : Rd w w.heap.size A (U8 l)) (hb : ∀ x ∈ l, x < 256) (hnil : A = none → c = 0) (h : 64 < n) (h5 : n ≤ 5000) (F : Array Value) (hF : F = (U8 (blockM l)).toArray) :
    Calls Tryz.prog 51 #[.slice A n c] w fun e w' => e = .returned (.agg F) ∧ Below w.heap.size w w' := by
  obtain ⟨D, hD⟩ : ∃ D, D = digestN l := ⟨_, rfl⟩
  obtain ⟨FD, hFD⟩ : ∃ FD : Array Value, FD = (U8 (digestN l)).toArray := ⟨_, rfl⟩
  have hDl : D.length = 32 := by rw [hD, length_dig]
  have hFD' : FD = (U8 D).toArray := by rw [hFD, hD]
  have hkey : keyN l = D := by unfold keyN; rw [if_pos (by omega), hD]
  have hsp : (splice b64.toList 0 (U8 D)).toArray = F := by rw [splice_b64 D (by omega), hF]; unfold blockM; rw [hkey]
  have hsz : F.size = 64 := by rw [hF]; simp [U8, length_blockM]
  have hin : (Tryz.prog.info? 98).map (·.size) = some F.size := by rw [hsz]; exact info64
  have hone : F.all (·.oneCell') = true := by rw [hF]; exact all_one8 _
  have hszD : FD.size = 32 := by rw [hFD']; simp [U8, hDl]
  have hinD : (Tryz.prog.info? 81).map (·.size) = some FD.size := by rw [hszD]; exact info32
  have honeD : FD.all (·.oneCell') = true := by rw [hFD']; exact all_one8 _
  have hmin : (U8 D).length = Nat.min 32 64 := by rw [U8_length, hDl]; rfl
  have hfit : 0 + (U8 D).length ≤ b64.toList.length := by rw [U8_length, hDl]; show 0 + 32 ≤ 64; omega
  have HA := Lib.hid hA
  have HNIL := Lib.hid hnil
  have HSP := Lib.hid hsp
  have HSZ := Lib.hid hsz
  have HIN := Lib.hid hin
  have HONE := Lib.hid hone
  have HSZD := Lib.hid hszD
  have HIND := Lib.hid hinD
  have HONED := Lib.hid honeD
  have HMIN := Lib.hid hmin
  have HFIT := Lib.hid hfit
  have HFD := Lib.hid hFD
  have HFD' := Lib.hid hFD'
  have HN := Lib.hid hn
  have HT := Lib.hid hT
  have HB := Lib.hid hb
  clear hA hnil hsp hsz hin hone hkey hF hmin hfit hszD hinD honeD hFD hFD' hn hT hb hD hDl
  go_enter Tryz.func51, Tryz.ntmps51
  go_wp2_with ((with_reducible refine at_store 3 ?_); refine wpList_store_named (o := ⟨none, .store 98 (.tmp 3) (.tmp 5), _, _, _, _⟩) rfl 98 (.tmp 3) (.tmp 5) rfl (w.heap.size + 1) b64 rfl rfl 98 b64 (heap_alloc2_new _ _ _) info64 rfl (all_one8 (List.replicate 64 0)) ?_; intro w0 hw0)
  obtain ⟨hs0, hr0, hv0, hb0⟩ := two_made_set hw0.out
  have HR0 := Lib.hid hr0
  have HV0 := Lib.hid hv0
  clear hr0 hv0 hw0
  refine (sum_arr l FD HFD n HN.out A c w0 (HT.out.next hb0) (HA.out.next hb0) HNIL.out HB.out h5).mono ?_
  rintro e w1 ⟨rfl, hb1⟩
  have hs1 := hb1.size
  go_wp2_with (first
    | ((with_reducible refine at_store 4 ?_); refine wpList_store_named (o := ⟨none, .store 81 (.tmp 4) (.tmp 10), _, _, _, _⟩) rfl 81 (.tmp 4) (.tmp 10) rfl w1.heap.size FD rfl rfl 81 b32 (heap_alloc_new w1 _) HIND.out HSZD.out.symm HONED.out ?_; intro w2 hw2; have HFX := Lib.hid (mac_facts hs0 HR0.out HV0.out hb0 hb1 hw2.out HFD'.out))
    | ((with_reducible refine at_calls 14 ?_); refine wpList_copy_splice (o := ⟨some 14, _, _, _, _, _⟩) rfl (.tmp 12) (.tmp 13) 26 26 rfl 5 Tryz.underlying26 sizeU8 (some ⟨w.heap.size + 1, 0, none⟩) (some ⟨w1.heap.size, 0, none⟩) 64 64 32 32 rfl rfl (w.heap.size + 1) 0 b64.toList 98 HFX.out.2.1 (U8 D) HMIN.out (fun hp => ⟨rfl, rd_cells HFX.out.1 hp⟩) HFIT.out (U8_one D) (w.heap.size + 1) w2 (Below.refl _ _) (Nat.le_refl _) ?_; intro w3 hw3 hb3; have hw3' : Hid (w3.heap[w.heap.size + 1]? = some (.cells F 98 (0, 0))) := Lib.hid (HSP.out ▸ hw3.out))
    | ((with_reducible refine at_load 15 ?_); refine wpList_load_row (o := ⟨some 15, .load 98 (.tmp 3), _, _, _, _⟩) rfl 98 (.tmp 3) rfl (w.heap.size + 1) rfl 98 F (0, 0) _ hw3'.out Tryz.underlying98 rfl HIN.out ?_)
    | ((with_reducible refine at_store 2 ?_); refine wpList_store_named (o := ⟨none, .store 98 (.tmp 2) (.tmp 15), _, _, _, _⟩) rfl 98 (.tmp 2) (.tmp 15) rfl w.heap.size F rfl rfl 98 b64 ((hb3.block _ (by omega)).trans HFX.out.2.2.1) HIN.out HSZ.out.symm HONE.out ?_; intro w4 hw4))
  have hr4 : w4.heap[w.heap.size]? = some (.cells F 98 (0, 0)) := by
    rw [hw4.out]; exact setRow_heap _ _ _ _ _ _ ((hb3.block _ (by omega)).trans HFX.out.2.2.1)
  refine bodyPost_ret (results_cell_row Tryz.results51 _ w4 w.heap.size 98 _ (0, 0) _ rfl hr4 Tryz.underlying98 rfl HIN.out) rfl ⟨rfl, ?_⟩
  exact (HFX.out.2.2.2.trans (hb3.mono (by omega))).trans (below_row hw4.out (Nat.le_refl _))

/-- A secret's block. -/
theorem macblock_any (l : List Nat) (n : Nat) (hn : n = l.length) (A : Option Addr) (c : Nat) (w : World) (hT : Tabs w) (hA : Rd w w.heap.size A (U8 l)) (hb : ∀ x ∈ l, x < 256) (hnil : A = none → c = 0) (h5 : n ≤ 5000) (F : Array Value) (hF : F = (U8 (blockM l)).toArray) :
    Calls Tryz.prog 51 #[.slice A n c] w fun e w' => e = .returned (.agg F) ∧ Below w.heap.size w w' := by
  by_cases h : 64 < n
  · exact macblock_long l n hn A c w hT hA hb hnil h h5 F hF
  · exact macblock_short l n hn A c w hA hnil (by omega) F hF
end Go.Proofs.YtaokhkbfiplfmaaGreatDoor
end
