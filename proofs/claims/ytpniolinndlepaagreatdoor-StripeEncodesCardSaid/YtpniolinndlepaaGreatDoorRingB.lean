/-
  Rings: what is found and added, plainly; boxes; the reference's Find and Big; openings.
-/
import Derived.Test.YtpniolinndlepaaGreatDoorBase
import Derived.Test.YtpniolinndlepaaGreatDoorRingA
import Derived.Deep.Slices
import Derived.Deep.Fields
import Derived.Lib.SmallJoins
namespace Go.Proofs.YtpniolinndlepaaGreatDoor
set_option maxRecDepth 100000
set_option linter.unusedVariables false
open Go.ChangeShapes Go.WideShapes Go.ChangeAt Go.RowKit

theorem results_row_tmp {P : Program} {fn : Func} {p u : Tmp} {ty : TypeId} (h : fn.results = #[.cell p ty, .tmp u]) (tmps : Array Value) (w : World) (g : Nat) (t : TypeId) (cs : Array Value) (fr : Nat × Nat) (d : TypeDesc)
    (hp : tmps.getD p undef = .pointer (some ⟨g, 0, none⟩)) (hg : w.heap[g]? = some (.cells cs t fr))
    (hu : P.underlying ty = some d) (hd : (match d with | .struct _ | .array _ _ => true | _ => false) = true) (hi : (P.info? ty).map (·.size) = some cs.size) :
    (results fn tmps).run P w = .ok (.tuple #[.agg cs, tmps.getD u undef]) w := by
  have hp' : tmps[p]?.getD undef = .pointer (some ⟨g, 0, none⟩) := by simpa using hp
  simp [results, h, hp', asAddr, run_loadVar_row w g t ty cs fr d hg hu hd hi]
theorem infoKey : (Tryz.prog.info? 46).map (·.size) = some 4 := by kernel_rfl
theorem kc_one (id : Int) (S : Option Addr) (n c : Nat) (f t : Int) : (#[Value.int .i64 id, .slice S n c, .int .i64 f, .int .i64 t] : Array Value).all (·.oneCell') = true := by
  rw [Array.all_eq_true_iff_forall_mem]
  intro u hu
  simp at hu
  rcases hu with rfl | rfl | rfl | rfl <;> rfl
theorem Bs.empty (w : World) (B : Nat) : Bs w B [] none 0 := ⟨by intro k u hu; simp [U8] at hu, fun _ => rfl, by simp, by omega, by simp⟩
set_option linter.unusedVariables false
open Go.ChangeShapes Go.WideShapes Go.ChangeAt Go.RowKit

/-- A key as it stands in memory: where its secret lies, and that one's capacity. -/
structure KV where
  k : K
  S : Option Addr
  c : Nat
def KV.cells (q : KV) : List Value := [.int .i64 q.k.id, .slice q.S q.k.sec.length q.c, .int .i64 q.k.frm, .int .i64 q.k.til]
def flatK (L : List KV) : List Value := L.flatMap KV.cells
theorem flatK_cons (q : KV) (L : List KV) : flatK (q :: L) = q.cells ++ flatK L := rfl
theorem flatK_append (L M : List KV) : flatK (L ++ M) = flatK L ++ flatK M := by simp [flatK]
theorem flatK_one (q : KV) : flatK [q] = q.cells := by simp [flatK]
theorem length_flatK (L : List KV) : (flatK L).length = L.length * 4 := by
  induction L with
  | nil => rfl
  | cons q L ih => rw [flatK_cons, List.length_append, ih, List.length_cons]; simp [KV.cells]; omega
theorem flatK_at (L : List KV) (i j : Nat) (q : KV) (hq : L[i]? = some q) (hj : j < 4) : (flatK L)[i * 4 + j]? = q.cells[j]? := by
  induction L generalizing i with
  | nil => simp at hq
  | cons x L ih =>
    cases i with
    | zero =>
      simp at hq
      subst hq
      rw [flatK_cons, Nat.zero_mul, Nat.zero_add, List.getElem?_append_left (by simp [KV.cells]; omega)]
    | succ i =>
      rw [flatK_cons, List.getElem?_append_right (by simp [KV.cells]; omega)]
      have : (i + 1) * 4 + j - x.cells.length = i * 4 + j := by simp [KV.cells]; omega
      rw [this]
      exact ih i (by simpa using hq)
theorem cells_one (q : KV) : ∀ u ∈ q.cells, u.oneCell' = true := by
  intro u hu
  simp [KV.cells] at hu
  rcases hu with rfl | rfl | rfl | rfl <;> rfl
theorem infoKey3 : (Tryz.prog.info? 46).map (fun i => (i.zero, i.size, i.bytes)) = some (some (.agg #[.int .i64 0, .slice none 0 0, .int .i64 0, .int .i64 0]), 4, 48) := by kernel_rfl
/-- What a call owns reads as keys. -/
theorem ks_of_own {w : World} {base g n cap : Nat} {L : List KV} (h : w.ownsRow base 46 4 (.slice (some ⟨g, 0, none⟩) n cap) n (flatK L)) (hs : ∀ q ∈ L, Bs w w.heap.size q.k.sec q.S q.c) : Ks w w.heap.size (some ⟨g, 0, none⟩) (L.map (·.k)) := by
  have hn : L.length = n := by
    have := h.1
    rw [length_flatK] at this
    omega
  have hg : g < w.heap.size := by
    rcases h.2 with ⟨h', _⟩ | ⟨g', cap', cur, h', _, hg, _⟩
    · simp at h'
    · simp only [Value.slice.injEq, Option.some.injEq, Addr.mk.injEq, and_true, true_and] at h'
      obtain ⟨rfl, rfl⟩ := h'
      exact (Array.getElem?_eq_some_iff.1 hg).1
  intro i hi
  have hi' : i < L.length := by simpa using hi
  have hq : L[i]? = some L[i] := List.getElem?_eq_getElem hi'
  have hk : (L.map (·.k)).getD i K0 = L[i].k := by
    rw [List.getD_eq_getElem?_getD, List.getElem?_map, hq]; rfl
  have hc : ∀ j, j < 4 → w.cell? ⟨g, i * 4 + j, none⟩ = (L[i]).cells[j]? := by
    intro j hj
    rw [h.cellAt _ (by omega), flatK_at L i j _ hq hj]
  rw [hk]
  refine ⟨_, (L[i]).S, (L[i]).c, rfl, hg, ?_⟩
  rw [at_add]
  exact ⟨hc 0 (by omega), hc 1 (by omega), hc 2 (by omega), hc 3 (by omega), hs _ (List.getElem_mem hi')⟩
/-- Keys that are read, with where their secrets lie. -/
def KVs (w : World) (B : Nat) (A : Option Addr) (L : List KV) : Prop := ∀ i q, L[i]? = some q → ∃ ad, A = some ad ∧ ad.block < B ∧ KAt w B (ad.add (i * 4)) q.k q.S q.c
theorem kvs_upto {w : World} {B : Nat} {A : Option Addr} {l : List K} (h : Ks w B A l) (n : Nat) : n ≤ l.length → ∃ L : List KV, L.length = n ∧ L.map (·.k) = l.take n ∧ KVs w B A L := by
  induction n with
  | zero => intro _; exact ⟨[], rfl, rfl, by intro i q hq; simp at hq⟩
  | succ n ih =>
    intro hn
    obtain ⟨L, h1, h2, h3⟩ := ih (by omega)
    obtain ⟨ad, S, c, e, hlt, hk⟩ := h n (by omega)
    refine ⟨L ++ [⟨l.getD n K0, S, c⟩], by simp [h1], ?_, ?_⟩
    · rw [List.map_append, h2, List.take_succ_eq_append_getElem (by omega), List.getD_eq_getElem?_getD, List.getElem?_eq_getElem (by omega)]; rfl
    · intro i q hq
      rcases Nat.lt_or_ge i n with hi | hi
      · rw [List.getElem?_append_left (by omega)] at hq
        exact h3 i q hq
      · rw [List.getElem?_append_right (by omega), h1] at hq
        have : i - n = 0 := by
          rcases Nat.eq_zero_or_pos (i - n) with h0 | h0
          · exact h0
          · rw [List.getElem?_eq_none (by simp; omega)] at hq; cases hq
        rw [this] at hq
        have e2 : i = n := by omega
        simp at hq
        subst hq e2
        exact ⟨ad, e, hlt, hk⟩
theorem kvs_of_ks {w : World} {B : Nat} {A : Option Addr} {l : List K} (h : Ks w B A l) : ∃ L : List KV, L.map (·.k) = l ∧ KVs w B A L ∧ ∀ q ∈ L, Bs w B q.k.sec q.S q.c := by
  obtain ⟨L, _, h2, h3⟩ := kvs_upto h l.length (Nat.le_refl _)
  refine ⟨L, by rw [h2, List.take_length], h3, ?_⟩
  intro q hq
  obtain ⟨i, hi⟩ := List.mem_iff_getElem?.1 hq
  obtain ⟨_, _, _, hk⟩ := h3 i q hi
  exact hk.bs
/-- One key's cells, just laid, are put behind keys of the call's own. -/
theorem own_key_lit (w : World) (q : KV) : ∀ j u, q.cells[j]? = some u → (w.alloc (.cells q.cells.toArray 46)).cell? ((⟨w.heap.size, 0, none⟩ : Addr).add j) = some u := by
  intro j u hu
  rw [at_add, cell_of_row (w.alloc (.cells q.cells.toArray 46)) w.heap.size j _ _ (0, 0) (heap_alloc_new w _)]
  simpa using hu
def placeN (l : List K) (id : Int) : Nat := (l.takeWhile fun q => decide (q.id < id)).length
/-- What Add answers. -/
def addK (l : List K) (k : K) : List K := if (isR l && k.right) = true then (if l.any (fun q => q.id == k.id) = true then [] else l.take (placeN l k.id) ++ k :: l.drop (placeN l k.id)) else []
def addE (l : List K) (k : K) : Int := if (isR l && k.right) = true then (if l.any (fun q => q.id == k.id) = true then 10 else 0) else 1

theorem place_at {l : List K} {id : Int} (j : Nat) (hj : j ≤ l.length) (h : ∀ t, t < j → (l.getD t K0).id < id) (h2 : j < l.length → ¬ ((l.getD j K0).id < id)) : placeN l id = j := by
  induction l generalizing j with
  | nil => simp at hj; subst hj; rfl
  | cons x l ih =>
    unfold placeN at *
    cases j with
    | zero =>
      have := h2 (by simp)
      simp at this
      rw [List.takeWhile_cons_of_neg (by simp; exact this)]; rfl
    | succ j =>
      have h0 := h 0 (by omega)
      simp at h0
      rw [List.takeWhile_cons_of_pos (by simpa using h0), List.length_cons, ih j (by simpa using hj) (fun t ht => by have := h (t + 1) (by omega); simpa using this) (fun hl => by have := h2 (by simpa using hl); simpa using this)]
theorem any_false {l : List K} {id : Int} (h : ∀ t, t < l.length → (l.getD t K0).id ≠ id) : l.any (fun q => q.id == id) = false := by
  rw [List.any_eq_false]
  intro x hx
  obtain ⟨j, hj, rfl⟩ := List.getElem_of_mem hx
  have := h j hj
  rw [List.getD_eq_getElem?_getD, List.getElem?_eq_getElem hj] at this
  simpa using this
theorem any_true {l : List K} {id : Int} (t : Nat) (ht : t < l.length) (h : (l.getD t K0).id = id) : l.any (fun q => q.id == id) = true := by
  rw [List.any_eq_true]
  refine ⟨l[t], List.getElem_mem ht, ?_⟩
  rw [List.getD_eq_getElem?_getD, List.getElem?_eq_getElem ht] at h
  simpa using h
/-- A ring has at most a hundred keys. -/
theorem ring_len {l : List K} (h : isR l = true) : l.length ≤ 100 := by
  have hg := isR_true.1 h
  have hlow : ∀ i, i < l.length → (i : Int) ≤ (l.getD i K0).id ∧ (l.getD i K0).id ≤ 99 := by
    intro i
    induction i with
    | zero =>
      intro hi
      have := hg 0 hi
      simp only [goodAt, Bool.and_eq_true] at this
      have := (rightN_iff _ _ _ _).1 this.1
      omega
    | succ i ih =>
      intro hi
      have := hg (i + 1) hi
      simp only [goodAt, Bool.and_eq_true, Bool.or_eq_true, decide_eq_true_eq, beq_iff_eq, Nat.add_sub_cancel] at this
      have h1 := (rightN_iff _ _ _ _).1 this.1
      have h2 := ih (by omega)
      omega
  rcases Nat.lt_or_ge 100 l.length with h | h
  · have := hlow 100 h; omega
  · exact h
set_option linter.unusedVariables false
open Go.ChangeShapes Go.WideShapes Go.ChangeAt Go.RowKit

/-- What Find answers. -/
def findK (l : List K) (id : Int) : K := if isR l = true then (l.find? fun k => k.id == id).getD K0 else K0
def findE (l : List K) (id : Int) : Int := if isR l = true then (if (l.find? fun k => k.id == id).isSome then 0 else 10) else 1
theorem find_at {l : List K} {p : K → Bool} (k : Nat) (hk : k < l.length) (h : ∀ j, j < k → p (l.getD j K0) = false) (hp : p (l.getD k K0) = true) : l.find? p = some (l.getD k K0) := by
  induction l generalizing k with
  | nil => simp at hk
  | cons x l ih =>
    cases k with
    | zero => simp at hp; simp [hp]
    | succ k =>
      have h0 := h 0 (by omega)
      simp at h0
      rw [List.find?_cons_of_neg (by simp [h0])]
      have := ih k (by simpa using hk) (fun j hj => by have := h (j + 1) (by omega); simpa using this) (by simpa using hp)
      simpa using this
theorem find_none {l : List K} {p : K → Bool} (h : ∀ j, j < l.length → p (l.getD j K0) = false) : l.find? p = none := by
  rw [List.find?_eq_none]
  intro x hx
  obtain ⟨j, hj, rfl⟩ := List.getElem_of_mem hx
  have := h j hj
  rw [List.getD_eq_getElem?_getD, List.getElem?_eq_getElem hj] at this
  simpa using this
theorem refis_named (l : List K) (n : Nat) (hn : n = l.length) (b : Bool) (hb : isR l = b) (A : Option Addr) (c : Nat) (w : World) (hA : Ks w w.heap.size A l) (h1 : n ≤ 9223372036854775807) :
    Calls Tryz.prog 27 #[.slice A n c] w fun e w' => e = .returned (.bool b) ∧ Below w.heap.size w w' := by
  subst hb
  exact refis_any l n hn A c w hA h1
set_option maxRecDepth 20000 in
theorem reffind_any (l : List K) (n : Nat) (hn : n = l.length) (id : Int) (A : Option Addr) (c : Nat) (w : World) (hA : Ks w w.heap.size A l) (h1 : n ≤ 9223372036854775807)
    (r : K) (E : Int) (hr : r = findK l id) (hE : E = findE l id) :
    Calls Tryz.prog 29 #[.slice A n c, .int .i64 id] w fun e w' => ∃ S cc, e = .returned (.tuple #[.agg #[.int .i64 r.id, .slice S r.sec.length cc, .int .i64 r.frm, .int .i64 r.til], .int .i64 E]) ∧ Bs w' w'.heap.size r.sec S cc ∧ Below w.heap.size w w' := by
  have HN := Lib.hid hn
  have HA := Lib.hid hA
  have HR := Lib.hid hr
  have HE := Lib.hid hE
  clear hn hA hr hE
  have HA1 := Lib.hid (HA.out.next (below_lit w #[.int .i64 0, .slice none 0 0, .int .i64 0, .int .i64 0] 46))
  cases his : isR l with
  | false =>
    have hr : r = K0 := by rw [HR.out, findK, his]; rfl
    have hE : E = 1 := by rw [HE.out, findE, his]; rfl
    subst hr hE
    go_enter Tryz.func29, Tryz.ntmps29
    go_wp2_with fail
    refine (refis_named l n HN.out false his A c _ HA1.out h1).mono ?_
    rintro e w1 ⟨rfl, hb1⟩
    have HBX := Lib.hid (show w1.heap[w.heap.size]? = some (.cells #[.int .i64 0, .slice none 0 0, .int .i64 0, .int .i64 0] 46 (0, 0)) from (hb1.block _ (by simp)).trans (heap_alloc_new w _))
    have HB1 := Lib.hid (below_after _ _ hb1)
    clear hb1
    go_wp2_with ((with_reducible refine at_store 4 ?_); refine wpList_store_named (o := ⟨none, .store 46 (.tmp 4) (.tmp 10), _, _, _, _⟩) rfl 46 (.tmp 4) (.tmp 10) rfl w.heap.size #[.int .i64 0, .slice none 0 0, .int .i64 0, .int .i64 0] rfl rfl 46 #[.int .i64 0, .slice none 0 0, .int .i64 0, .int .i64 0] HBX.out infoKey rfl (kc_one _ _ _ _ _ _) ?_; intro w5 hw5)
    have hr5 := setRow_heap w1 w.heap.size #[.int .i64 0, .slice none 0 0, .int .i64 0, .int .i64 0] #[.int .i64 0, .slice none 0 0, .int .i64 0, .int .i64 0] 46 (0, 0) HBX.out
    rw [← hw5.out] at hr5
    have hb5 := below_row hw5.out (Nat.le_refl w.heap.size)
    refine bodyPost_ret (results_row_tmp Tryz.results29 _ w5 w.heap.size 46 #[.int .i64 0, .slice none 0 0, .int .i64 0, .int .i64 0] (0, 0) _ rfl hr5 Tryz.underlying46 rfl infoKey) rfl ⟨none, 0, rfl, Bs.empty _ _, HB1.out.trans hb5⟩
  | true =>
    go_enter Tryz.func29, Tryz.ntmps29
    go_wp2_with fail
    refine (refis_named l n HN.out true his A c _ HA1.out h1).mono ?_
    rintro e w1 ⟨rfl, hb1⟩
    have HBX := Lib.hid (show w1.heap[w.heap.size]? = some (.cells #[.int .i64 0, .slice none 0 0, .int .i64 0, .int .i64 0] 46 (0, 0)) from (hb1.block _ (by simp)).trans (heap_alloc_new w _))
    have HB1 := Lib.hid (below_after _ _ hb1)
    have HK1 := Lib.hid (HA.out.below (below_after _ _ hb1))
    clear hb1
    go_wp2
    go_loop [6] (fun i => ∃ k : Nat, k ≤ n ∧ i = .int .i64 k ∧ ∀ j, j < k → ((fun q : K => q.id == id) (l.getD j K0)) = false) (fun i => n - (intOf i).toNat)
    case atStart => exact ⟨0, Nat.zero_le _, rfl, by omega⟩
    case round =>
      obtain ⟨k, hk, rfl, hall⟩ := hrel
      by_cases hlt : k < n
      · obtain ⟨ad, S, cc, rfl, had, hk4⟩ := HK1.out k (by rw [← HN.out]; exact hlt)
        have HKL := Lib.hid (show k < l.length by rw [← HN.out]; exact hlt)
        have HH := Lib.hid hall
        obtain ⟨x, hx⟩ : ∃ x, x = l.getD k K0 := ⟨_, rfl⟩
        rw [← hx] at hk4
        have HX := Lib.hid hx
        have HBS := Lib.hid hk4.bs
        have hc0 := hk4.c0
        have hc1 := hk4.c1
        have hc2 := hk4.c2
        have hc3 := hk4.c3
        have b1 : (0 : Int) ≤ (k : Int) := by omega
        have b2 : (k : Int) < (n : Int) := by omega
        clear hall hx hk4
        by_cases hid : x.id = id
        · have hf : (l.find? fun q => q.id == id) = some x := by rw [HX.out]; exact find_at k HKL.out HH.out (by rw [← HX.out]; simpa using hid)
          have hr : r = x := by rw [HR.out, findK, his, hf]; rfl
          have hE : E = 0 := by rw [HE.out, findE, his, hf]; rfl
          subst hr hE
          have e1 : (r.id == id) = true := by simpa using hid
          clear hf hid
          go_wp2_with ((with_reducible refine at_store 4 ?_); refine wpList_store_named (o := ⟨none, .store 46 (.tmp 4) (.tmp 27), _, _, _, _⟩) rfl 46 (.tmp 4) (.tmp 27) rfl w.heap.size #[.int .i64 r.id, .slice S r.sec.length cc, .int .i64 r.frm, .int .i64 r.til] rfl rfl 46 #[.int .i64 0, .slice none 0 0, .int .i64 0, .int .i64 0] HBX.out infoKey rfl (kc_one _ _ _ _ _ _) ?_; intro w5 hw5)
          have hr5 := setRow_heap w1 w.heap.size #[.int .i64 0, .slice none 0 0, .int .i64 0, .int .i64 0] #[.int .i64 r.id, .slice S r.sec.length cc, .int .i64 r.frm, .int .i64 r.til] 46 (0, 0) HBX.out
          rw [← hw5.out] at hr5
          have hb5 := below_row hw5.out (Nat.le_refl w.heap.size)
          refine bodyPost_ret (results_row_tmp Tryz.results29 _ w5 w.heap.size 46 #[.int .i64 r.id, .slice S r.sec.length cc, .int .i64 r.frm, .int .i64 r.til] (0, 0) _ rfl hr5 Tryz.underlying46 rfl infoKey) rfl ⟨S, cc, rfl, (HBS.out.below hb5).more (HB1.out.trans hb5).size, HB1.out.trans hb5⟩
        · have HST := Lib.hid (show ∀ j, j < k + 1 → ((fun q : K => q.id == id) (l.getD j K0)) = false from by
            intro j hj
            rcases Nat.lt_or_ge j k with h | h
            · exact HH.out j h
            · have e : j = k := by omega
              subst e
              rw [← HX.out]
              simpa using hid)
          go_wp2
          go_round
          case rel => exact ⟨k + 1, by omega, by go_num, HST.out⟩
          case measure => simp [intOf]; omega
      · have e : k = n := by omega
        have hf : (l.find? fun q => q.id == id) = none := find_none (by rw [← HN.out, ← e]; exact hall)
        have hr : r = K0 := by rw [HR.out, findK, his, hf]; rfl
        have hE : E = 10 := by rw [HE.out, findE, his, hf]; rfl
        subst hr hE
        clear hf hall
        go_wp2_with ((with_reducible refine at_store 4 ?_); refine wpList_store_named (o := ⟨none, .store 46 (.tmp 4) (.tmp 28), _, _, _, _⟩) rfl 46 (.tmp 4) (.tmp 28) rfl w.heap.size #[.int .i64 0, .slice none 0 0, .int .i64 0, .int .i64 0] rfl rfl 46 #[.int .i64 0, .slice none 0 0, .int .i64 0, .int .i64 0] HBX.out infoKey rfl (kc_one _ _ _ _ _ _) ?_; intro w5 hw5)
        have hr5 := setRow_heap w1 w.heap.size #[.int .i64 0, .slice none 0 0, .int .i64 0, .int .i64 0] #[.int .i64 0, .slice none 0 0, .int .i64 0, .int .i64 0] 46 (0, 0) HBX.out
        rw [← hw5.out] at hr5
        have hb5 := below_row hw5.out (Nat.le_refl w.heap.size)
        refine bodyPost_ret (results_row_tmp Tryz.results29 _ w5 w.heap.size 46 #[.int .i64 0, .slice none 0 0, .int .i64 0, .int .i64 0] (0, 0) _ rfl hr5 Tryz.underlying46 rfl infoKey) rfl ⟨none, 0, rfl, Bs.empty _ _, HB1.out.trans hb5⟩
set_option linter.unusedVariables false
open Go.ChangeShapes Go.WideShapes Go.ChangeAt Go.RowKit

set_option linter.unusedVariables false
open Go.ChangeShapes Go.WideShapes Go.ChangeAt Go.RowKit

def bigR (l : List K) : Bool := decide (200 < l.length) || l.any fun k => decide (200 < k.sec.length)
theorem bigR_long (l : List K) (h : 200 < l.length) : bigR l = true := by simp [bigR, h]

set_option maxRecDepth 20000 in
theorem refbig_any (l : List K) (n : Nat) (hn : n = l.length) (A : Option Addr) (c B : Nat) (w : World) (hA : Ks w B A l) (h1 : n ≤ 9223372036854775807) :
    Calls Tryz.prog 9 #[.slice A n c] w fun e w' => e = .returned (.bool (bigR l)) ∧ Below w.heap.size w w' := by
  have HN := Lib.hid hn
  clear hn
  go_enter Tryz.func9, Tryz.ntmps9
  go_wp2
  go_loopw [3] (fun i wr => ∃ k d : Nat, k ≤ n ∧ i = .int .i64 k ∧ wr = w.drewN d ∧ (0 < k → n ≤ 200) ∧ ∀ j, j < k → (l.getD j K0).sec.length ≤ 200) (fun i _ => n - (intOf i).toNat)
  case atStart => exact ⟨0, 0, Nat.zero_le _, rfl, rfl, by omega, by omega⟩
  case round =>
    obtain ⟨k, d, hk, rfl, rfl, h200, hall⟩ := hrel
    by_cases hlt : k < n ∧ n ≤ 200
    · obtain ⟨hlt, hle⟩ := hlt
      obtain ⟨ad, S, cc, rfl, had, hk4⟩ := hA k (by rw [← HN.out]; exact hlt)
      have hc1 := hk4.c1
      have hcap := hk4.bs.len
      have hcap2 := hk4.bs.cap
      have b1 : (0 : Int) ≤ (k : Int) := by omega
      have b2 : (k : Int) < (n : Int) := by omega
      have b3 : (n : Int) ≤ 200 := by omega
      have HH := Lib.hid hall
      clear hall
      by_cases hb : 200 < (l.getD k K0).sec.length
      · have HB : bigR l = true := by
          simp only [bigR, Bool.or_eq_true, List.any_eq_true, decide_eq_true_eq]
          have hkl : k < l.length := by rw [← HN.out]; exact hlt
          refine .inr ⟨l.getD k K0, ?_, hb⟩
          rw [List.getD_eq_getElem?_getD, List.getElem?_eq_getElem hkl]
          exact List.getElem_mem hkl
        have HBR := Lib.hid HB
        have hk1 := hk4.c1
        clear HB hk4 hA hc1
        generalize l.getD k K0 = x at *
        have b4 : (200 : Int) < (x.sec.length : Int) := by omega
        go_wp2
        go_ret
        exact ⟨by rw [HBR.out]; rfl, below_drewN (Below.refl _ _) _⟩
      · have hstep : ∀ j, j < k + 1 → (l.getD j K0).sec.length ≤ 200 := by
          intro j hj
          rcases Nat.lt_or_ge j k with h | h
          · exact HH.out j h
          · have e : j = k := by omega
            subst e; omega
        have HST := Lib.hid hstep
        clear hstep hk4 hA
        generalize l.getD k K0 = x at *
        have b4 : ¬ ((200 : Int) < (x.sec.length : Int)) := by omega
        go_wp2
        go_roundw
        case rel => exact ⟨k + 1, d, by omega, by go_num, rfl, fun _ => hle, HST.out⟩
        case measure => simp [intOf]; omega
    · have HH := Lib.hid hall
      clear hall
      rcases (show k = n ∨ (k < n ∧ 200 < n) by omega) with e | ⟨e, e2⟩
      · subst e
        by_cases h0 : 200 < k
        · have HB := Lib.hid (bigR_long l (by rw [← HN.out]; exact h0))
          have b4 : (200 : Int) < (k : Int) := by omega
          clear hlt
          go_wp2
          go_ret
          exact ⟨by rw [HB.out]; rfl, below_drewN (Below.refl _ _) _⟩
        · have HB : bigR l = false := by
            simp only [bigR, Bool.or_eq_false_iff, decide_eq_false_iff_not, List.any_eq_false, decide_eq_true_eq]
            refine ⟨by rw [← HN.out]; exact h0, fun x hx => ?_⟩
            obtain ⟨j, hj, rfl⟩ := List.getElem_of_mem hx
            have := HH.out j (by rw [HN.out]; exact hj)
            rw [List.getD_eq_getElem?_getD, List.getElem?_eq_getElem hj] at this
            simpa using this
          have HBR := Lib.hid HB
          have b4 : ¬ ((200 : Int) < (k : Int)) := by omega
          clear HB hlt
          go_wp2
          go_ret
          exact ⟨by rw [HBR.out]; rfl, below_drewN (Below.refl _ _) _⟩
      · have HB := Lib.hid (bigR_long l (by rw [← HN.out]; exact e2))
        have b4 : (200 : Int) < (n : Int) := by omega
        have b5 : (k : Int) < (n : Int) := by omega
        clear hlt
        go_wp2
        go_ret
        exact ⟨by rw [HB.out]; rfl, below_drewN (Below.refl _ _) _⟩
set_option linter.unusedVariables false
open Go.ChangeShapes Go.WideShapes Go.ChangeAt Go.RowKit

/-- A slice's length, capacity and address, as they can be. -/
def Sl (A : Option Addr) (n c : Nat) : Prop := n ≤ c ∧ c ≤ 9223372036854775807 ∧ (A = none → c = 0)
/-- A key's box. -/
def Box (w : World) (b : Nat) (q : KV) : Prop := w.heap[b]? = some (.cells #[.int .i64 q.k.id, .slice q.S q.k.sec.length q.c, .int .i64 q.k.frm, .int .i64 q.k.til] 46 (0, 0)) ∧ b < w.heap.size ∧ Bs w w.heap.size q.k.sec q.S q.c
theorem Box.next {w w' : World} {b : Nat} {q : KV} (h : Box w b q) (hb : Below w.heap.size w w') : Box w' b q := ⟨(hb.block _ h.2.1).trans h.1, Nat.lt_of_lt_of_le h.2.1 hb.size, h.2.2.next hb⟩
theorem heap_new2 (w : World) (o o' : Obj) : ((w.alloc o).alloc o').heap[w.heap.size + 1]? = some o' := by
  have := heap_alloc_new (w.alloc o) o'
  simpa using this
/-- A list of keys that was just laid. -/
theorem ks_lit (w : World) (L : List KV) (cs : Array Value) (n : Nat) (hc : cs.toList = flatK L) (hn : L.length = n) (hn2 : n ≤ 1000) (hs : ∀ q ∈ L, Bs w w.heap.size q.k.sec q.S q.c) :
    Ks (w.alloc (.cells cs 46)) (w.alloc (.cells cs 46)).heap.size (some ⟨w.heap.size, 0, none⟩) (L.map (·.k)) := by
  have hsz : cs.size = n * 4 := by
    have := congrArg List.length hc
    rw [length_flatK, hn] at this
    simpa using this
  have hown := World.ownsRow_lit (e := 46) (base := w.heap.size) (size := 4) w cs n (Nat.le_refl _) (by unfold maxLen; omega) hsz
  rw [hc] at hown
  exact ks_of_own hown (fun q hq => (hs q hq).next (below_lit w _ _))


def Lt (a b : K) : Prop := a.id < b.id
theorem isR_iff (l : List K) : isR l = true ↔ (∀ x ∈ l, x.right = true) ∧ l.Pairwise Lt := by
  constructor
  · intro h
    have hg := isR_true.1 h
    have hd : ∀ i (hi : i < l.length), l.getD i K0 = l[i] := fun i hi => by rw [List.getD_eq_getElem?_getD, List.getElem?_eq_getElem hi]; rfl
    constructor
    · intro x hx
      obtain ⟨i, hi, rfl⟩ := List.getElem_of_mem hx
      have := hg i hi
      simp only [goodAt, Bool.and_eq_true] at this
      rw [← hd i hi]; exact this.1
    · rw [List.pairwise_iff_getElem]
      intro i j hi hj hij
      induction j with
      | zero => omega
      | succ j ih =>
        have := hg (j + 1) hj
        simp only [goodAt, Bool.and_eq_true, Bool.or_eq_true, decide_eq_true_eq, beq_iff_eq, Nat.add_sub_cancel] at this
        have h2 : (l.getD j K0).id < (l.getD (j + 1) K0).id := by
          rcases this.2 with h | h
          · omega
          · exact h
        rw [hd j (by omega), hd (j + 1) hj] at h2
        rcases Nat.lt_or_ge i j with h | h
        · have := ih (by omega) h
          unfold Lt at *
          omega
        · have e : i = j := by omega
          subst e
          exact h2
  · rintro ⟨h1, h2⟩
    rw [isR_true]
    intro i hi
    have hd : ∀ i (hi : i < l.length), l.getD i K0 = l[i] := fun i hi => by rw [List.getD_eq_getElem?_getD, List.getElem?_eq_getElem hi]; rfl
    rw [List.pairwise_iff_getElem] at h2
    rw [goodAt, hd i hi, h1 _ (List.getElem_mem hi), Bool.true_and]
    rcases Nat.eq_zero_or_pos i with h | h
    · subst h; rfl
    · have := h2 (i - 1) i (by omega) hi (by omega)
      rw [hd (i - 1) (by omega)]
      unfold Lt at this
      simp [this]
/-- A key put in its place. -/
def ins (k : K) : List K → List K
  | [] => [k]
  | x :: l => if x.id < k.id then x :: ins k l else k :: x :: l
theorem ins_place (k : K) (l : List K) : l.take (placeN l k.id) ++ k :: l.drop (placeN l k.id) = ins k l := by
  induction l with
  | nil => rfl
  | cons x l ih =>
    unfold placeN at *
    by_cases h : x.id < k.id
    · rw [List.takeWhile_cons_of_pos (by simpa using h), ins, if_pos h, ← ih]
      rfl
    · rw [List.takeWhile_cons_of_neg (by simpa using h), ins, if_neg h]
      rfl
theorem mem_ins (k : K) (l : List K) (x : K) : x ∈ ins k l ↔ x = k ∨ x ∈ l := by
  induction l with
  | nil => simp [ins]
  | cons y l ih =>
    unfold ins
    split
    · rw [List.mem_cons, ih, List.mem_cons]
      constructor
      · rintro (h | h | h) <;> simp [h]
      · rintro (h | h | h) <;> simp [h]
    · simp
theorem pw_ins (k : K) (l : List K) (h : l.Pairwise Lt) (hne : ∀ x ∈ l, x.id ≠ k.id) : (ins k l).Pairwise Lt := by
  induction l with
  | nil => simp [ins]
  | cons y l ih =>
    rw [List.pairwise_cons] at h
    unfold ins
    split
    · next hy =>
      rw [List.pairwise_cons]
      refine ⟨?_, ih h.2 (fun x hx => hne x (by simp [hx]))⟩
      intro x hx
      rcases (mem_ins k l x).1 hx with h' | h'
      · rw [h']; exact hy
      · exact h.1 x h'
    · next hy =>
      have hlt : k.id < y.id := by have := hne y (by simp); omega
      rw [List.pairwise_cons]
      refine ⟨?_, by rw [List.pairwise_cons]; exact h⟩
      intro x hx
      rcases List.mem_cons.1 hx with h' | h'
      · rw [h']; exact hlt
      · have := h.1 x h'
        unfold Lt at *
        omega
theorem find_ins_same (k : K) (l : List K) (hne : ∀ x ∈ l, x.id ≠ k.id) : (ins k l).find? (fun q => q.id == k.id) = some k := by
  induction l with
  | nil => simp [ins]
  | cons y l ih =>
    unfold ins
    split
    · rw [List.find?_cons_of_neg (by simpa using hne y (by simp))]
      exact ih (fun x hx => hne x (by simp [hx]))
    · rw [List.find?_cons_of_pos (by simp)]
theorem find_ins_other (k : K) (l : List K) (id : Int) (h : k.id ≠ id) : (ins k l).find? (fun q => q.id == id) = l.find? (fun q => q.id == id) := by
  induction l with
  | nil => simp [ins, h]
  | cons y l ih =>
    unfold ins
    split
    · by_cases hy : y.id = id
      · rw [List.find?_cons_of_pos (by simpa using hy), List.find?_cons_of_pos (by simpa using hy)]
      · rw [List.find?_cons_of_neg (by simpa using hy), List.find?_cons_of_neg (by simpa using hy), ih]
    · rw [List.find?_cons_of_neg (by simpa using h)]
/-- What it is that a key was added. -/
theorem add_zero {l : List K} {k : K} (h : 0 = addE l k) : isR l = true ∧ k.right = true ∧ l.any (fun q => q.id == k.id) = false ∧ addK l k = ins k l ∧ isR (ins k l) = true := by
  unfold addE at h
  split at h
  · next h1 =>
    split at h
    · exact absurd h (by decide)
    · next h2 =>
      have h3 : isR l = true ∧ k.right = true := by simpa using h1
      have h4 : l.any (fun q => q.id == k.id) = false := by simpa using h2
      have hne : ∀ x ∈ l, x.id ≠ k.id := by
        intro x hx e
        rw [List.any_eq_false] at h4
        have := h4 x hx
        simp [e] at this
      refine ⟨h3.1, h3.2, h4, ?_, ?_⟩
      · rw [addK, if_pos h1, h4, ← ins_place]; rfl
      · have := (isR_iff l).1 h3.1
        rw [isR_iff]
        refine ⟨?_, pw_ins k l this.2 hne⟩
        intro x hx
        rcases (mem_ins k l x).1 hx with h' | h'
        · rw [h']; exact h3.2
        · exact this.1 x h'
  · exact absurd h (by decide)
theorem any_ne {l : List K} {k : K} (h : l.any (fun q => q.id == k.id) = false) : ∀ x ∈ l, x.id ≠ k.id := by
  intro x hx e
  rw [List.any_eq_false] at h
  have := h x hx
  simp [e] at this

set_option linter.unusedVariables false
open Go.ChangeShapes Go.WideShapes Go.ChangeAt Go.RowKit

theorem refbig_named (l : List K) (n : Nat) (hn : n = l.length) (b : Bool) (hb : bigR l = b) (A : Option Addr) (c : Nat) (w : World) (hA : Ks w w.heap.size A l) (h1 : n ≤ 9223372036854775807) :
    Calls Tryz.prog 9 #[.slice A n c] w fun e w' => e = .returned (.bool b) ∧ Below w.heap.size w w' := by
  subst hb
  exact refbig_any l n hn A c _ w hA h1
/-- A box that was just made of an argument. -/
theorem box_lit (w : World) (q : KV) (h : Bs w w.heap.size q.k.sec q.S q.c) : Box (w.alloc (.cells #[.int .i64 q.k.id, .slice q.S q.k.sec.length q.c, .int .i64 q.k.frm, .int .i64 q.k.til] 46)) w.heap.size q ∧
    Below w.heap.size w (w.alloc (.cells #[.int .i64 q.k.id, .slice q.S q.k.sec.length q.c, .int .i64 q.k.frm, .int .i64 q.k.til] 46)) :=
  ⟨⟨heap_alloc_new w _, by simp, h.next (below_lit w _ _)⟩, below_lit w _ _⟩
set_option linter.unusedVariables false
open Go.ChangeShapes Go.WideShapes Go.ChangeAt Go.RowKit Go.Deep

section
variable {H : Type} {enc : TypeId × Value → H}
theorem bs_of_cells {W : World} {fuel : Nat} {v : Value} {y : DataW H × List MemPlace} (h : DataW.trod enc Tryz.prog W 0 (fun _ => true) true fuel 30 [v] = some y) :
    ∃ S s c, v = .slice S (List.length s) c ∧ Bs W W.heap.size s S c := by
  rcases open_ints Tryz.underlying30 Tryz.underlying5 Tryz.cellsU8 h with ⟨hcs, _⟩ | ⟨a, len, cap, zs, hcs, _, h1, h2, hz, _, hcell, hwf⟩
  · simp at hcs
    exact ⟨none, [], 0, hcs, Bs.empty _ _⟩
  · simp at hcs hz
    have hl : ((zs.take len).map Int.toNat).length = len := by simp; omega
    refine ⟨some a, (zs.take len).map Int.toNat, cap, by rw [hl]; exact hcs, ⟨?_, by simp, by rw [hl]; exact h1, by unfold maxLen at h2; exact h2, ?_⟩⟩
    · intro j u hu
      simp only [U8, List.getElem?_map, Option.map_eq_some_iff] at hu
      obtain ⟨x, ⟨z, hz1, rfl⟩, rfl⟩ := hu
      have hj : j < len := by
        rcases Nat.lt_or_ge j len with h | h
        · exact h
        · rw [List.getElem?_eq_none (by simp; omega)] at hz1; cases hz1
      have hcj := hcell j (by omega)
      rw [List.getElem?_take, if_pos hj] at hz1
      rw [List.getD_eq_getElem?_getD, hz1, Option.getD_some] at hcj
      have hzw := wf_u8 z (hwf z (List.mem_of_getElem? hz1))
      refine ⟨a, rfl, ?_, ?_⟩
      · have := lt_of_cell hcj
        rwa [add_block] at this
      · rw [hcj]
        congr 2
        omega
    · intro x hx
      simp only [List.mem_map] at hx
      obtain ⟨z, hz1, rfl⟩ := hx
      have := wf_u8 z (hwf z (List.mem_of_mem_take hz1))
      omega
theorem int_of_cells {W : World} {fuel : Nat} {v : Value} {y : DataW H × List MemPlace} (h : DataW.trod enc Tryz.prog W 0 (fun _ => true) true fuel 3 [v] = some y) : ∃ z : Int, v = .int .i64 z ∧ -9223372036854775808 ≤ z ∧ z ≤ 9223372036854775807 := by
  obtain ⟨z, e1, _, wz⟩ := DataW.trod_int Tryz.underlying3 h
  simp at e1
  exact ⟨z, e1, wf_i64 z wz⟩
theorem cellsKey : Tryz.prog.cellsOf 46 = 4 := by kernel_rfl
/-- A key that came in by value. -/
theorem open_key {W : World} {r : Reach} {b0 : Nat} {v : Value} {d : DataW H} {ps : List MemPlace} (hval : Value.okWide Tryz.prog W r b0 46 v) (hd : DataW.Trod enc Tryz.prog W 0 (fun _ => true) true 46 v d ps) :
    ∃ q : KV, v = .agg #[.int .i64 q.k.id, .slice q.S q.k.sec.length q.c, .int .i64 q.k.frm, .int .i64 q.k.til] ∧ Bs W W.heap.size q.k.sec q.S q.c := by
  obtain ⟨v0, v1, v2, v3, y0, y1, y2, y3, n, rfl, _, _, h0, h1, h2, h3⟩ := Go.Joins.open_agg4 Tryz.underlying46 (by kernel_rfl) cellsKey hval hd
  obtain ⟨z0, rfl, _, _⟩ := int_of_cells h0
  obtain ⟨S, s, c, rfl, hb⟩ := bs_of_cells h1
  obtain ⟨z2, rfl, _, _⟩ := int_of_cells h2
  obtain ⟨z3, rfl, _, _⟩ := int_of_cells h3
  exact ⟨⟨⟨z0, s, z2, z3⟩, S, c⟩, rfl, hb⟩
/-- A slice of keys that came in. -/
theorem open_keys {W : World} {r : Reach} {b0 : Nat} {v : Value} {d : DataW H} {ps : List MemPlace} (hval : Value.okWide Tryz.prog W r b0 22 v) (hd : DataW.Trod enc Tryz.prog W 0 (fun _ => true) true 22 v d ps) :
    ∃ (A : Option Addr) (l : List K) (c : Nat), v = .slice A l.length c ∧ Ks W W.heap.size A l ∧ l.length ≤ c ∧ c ≤ 9223372036854775807 ∧ (A = none → c = 0) := by
  obtain ⟨a0, len, cap, rfl⟩ := okWide_slice Tryz.underlying22 hval
  obtain ⟨fuel, hf⟩ := hd
  rcases open_slice Tryz.underlying22 hf with ⟨hcs, _⟩ | ⟨a, len', cap', m, n, D, Pl, hcs, _, hl, hm, hmm, _, hel⟩
  · simp [Value.cells] at hcs
    obtain ⟨rfl, rfl, rfl⟩ := hcs
    exact ⟨none, [], 0, rfl, by intro i hi; simp at hi, by simp, by simp, by simp⟩
  · simp [Value.cells] at hcs
    obtain ⟨rfl, rfl, rfl⟩ := hcs
    simp at hmm
    have hone : ∀ i, i < len → ∃ (k : K) (S : Option Addr) (c : Nat), a.block < W.heap.size ∧ KAt W W.heap.size (a.add (i * 4)) k S c := by
      intro i hi
      obtain ⟨cs', hc, ht⟩ := hel i (by omega)
      rw [cellsKey] at hc
      obtain ⟨_, hcl, hat⟩ := World.cells?_some hc
      obtain ⟨y0, y1, y2, y3, n', _, _, h0, h1, h2, h3⟩ := Go.Joins.trod_struct4 Tryz.underlying46 ht
      match cs', hcl with
      | [c0, c1, c2, c3], _ =>
        have e3 : Tryz.prog.cellsOf 3 = 1 := by kernel_rfl
        have e24 : Tryz.prog.cellsOf 30 = 1 := by kernel_rfl
        simp only [e3, e24, List.drop_zero, List.drop_succ_cons, List.take_succ_cons, List.take_zero] at h0 h1 h2 h3
        obtain ⟨z0, rfl, _, _⟩ := int_of_cells h0
        obtain ⟨S, s, c, rfl, hb⟩ := bs_of_cells h1
        obtain ⟨z2, rfl, _, _⟩ := int_of_cells h2
        obtain ⟨z3, rfl, _, _⟩ := int_of_cells h3
        have g0 := hat 0 (by omega)
        have g1 := hat 1 (by omega)
        have g2 := hat 2 (by omega)
        have g3 := hat 3 (by omega)
        simp at g0 g1 g2 g3
        refine ⟨⟨z0, s, z2, z3⟩, S, c, ?_, ⟨g0, g1, g2, g3, hb⟩⟩
        have := lt_of_cell g0
        rwa [add_block, add_block] at this
    have hall : ∀ k, k ≤ len → ∃ l : List K, l.length = k ∧ Ks W W.heap.size (some a) l := by
      intro k
      induction k with
      | zero => intro _; exact ⟨[], rfl, by intro i hi; simp at hi⟩
      | succ k ih =>
        intro hk
        obtain ⟨l, h1, h2⟩ := ih (by omega)
        obtain ⟨x, S, c, hlt, hx⟩ := hone k (by omega)
        refine ⟨l ++ [x], by simp [h1], ?_⟩
        intro i hi
        rcases Nat.lt_or_ge i k with h | h
        · obtain ⟨ad, S', c', e, hlt', hk'⟩ := h2 i (by omega)
          refine ⟨ad, S', c', e, hlt', ?_⟩
          have : (l ++ [x]).getD i K0 = l.getD i K0 := by rw [List.getD_eq_getElem?_getD, List.getD_eq_getElem?_getD, List.getElem?_append_left (by omega)]
          rw [this]; exact hk'
        · have e : i = k := by simp [h1] at hi; omega
          subst e
          have : (l ++ [x]).getD i K0 = x := by rw [List.getD_eq_getElem?_getD, List.getElem?_append_right (by omega), h1]; simp
          exact ⟨a, S, c, rfl, hlt, by rw [this]; exact hx⟩
    obtain ⟨l, h1, h2⟩ := hall len (Nat.le_refl _)
    unfold maxLen at hm
    exact ⟨some a, l, cap, by rw [h1], h2, by omega, hm, by simp⟩
end
end Go.Proofs.YtpniolinndlepaaGreatDoor
