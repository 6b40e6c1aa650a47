import Derived.Test.YtcnglbliidjnfaaGreatDoorBarPEnc
import Derived.Test.YtcnglbliidjnfaaGreatDoorTlvPPut
import Derived.Test.YtcnglbliidjnfaaGreatDoorTicketPSmall
import Derived.Test.YtcnglbliidjnfaaGreatDoorRgBox
import Derived.IntWalk
section
namespace Go.Proofs.YtcnglbliidjnfaaGreatDoor
set_option linter.unusedVariables false
set_option linter.unusedSimpArgs false
open Go.ChangeShapes Go.WideShapes Go.ChangeAt Go.RowKit Go.Shelf
attribute [local go_sem] Oper.semAt_some
theorem getG_prog (g : List Nat) (h : g.length = 2 ∨ g.length = 3) : getG g = if okL g = false then (7, []) else if nS g / 256 ^ (g.length - 1) ≠ 0 then (23, []) else (0, bysH (nS g) (g.length - 1)) := by
  match g, h with
  | [x, y], _ =>
    have e1 : okL [x, y] = (fokS x && fokS y) := by simp [okL]
    have e2 : nS [x, y] = val2 x y := by simp [nS, val2]
    rw [e1, e2, getG]
    by_cases h1 : (fokS x && fokS y) = false
    · rw [if_pos h1, if_pos h1]
    · rw [if_neg h1, if_neg h1]
      simp only [List.length_cons, List.length_nil, Nat.zero_add, Nat.add_one_sub_one, Nat.pow_one]
      by_cases h2 : 255 < val2 x y
      · rw [if_pos h2, if_pos (by omega)]
      · rw [if_neg h2, if_neg (by omega)]
        simp only [bysH, Nat.pow_zero, Nat.div_one]
        rw [Nat.mod_eq_of_lt (by omega)]
  | [x, y, z], _ =>
    have e1 : okL [x, y, z] = (fokS x && fokS y && fokS z) := by simp [okL, Bool.and_assoc]
    have e2 : nS [x, y, z] = val3 x y z := by simp only [nS, val3]; omega
    rw [e1, e2, getG]
    by_cases h1 : (fokS x && fokS y && fokS z) = false
    · rw [if_pos h1, if_pos h1]
    · rw [if_neg h1, if_neg h1]
      simp only [List.length_cons, List.length_nil, Nat.zero_add, Nat.add_one_sub_one, Nat.reduceAdd, Nat.reducePow, Nat.reduceSub]
      by_cases h2 : 65535 < val3 x y z
      · rw [if_pos h2, if_pos (by omega)]
      · rw [if_neg h2, if_neg (by omega)]
        simp only [bysH, Nat.pow_zero, Nat.div_one, Nat.pow_one]
        rw [Nat.mod_eq_of_lt (show val3 x y z / 256 < 256 by omega)]
def goodG (l:List Nat) (ks:List Nat):Prop:= ∀k∈ks,(getG (grp l 3 k)).1=0
def outG (l:List Nat) (ks:List Nat):List Nat:=(ks.map (fun k=>(getG (grp l 3 k)).2)).flatten
theorem outG_snoc (l:List Nat) (ks:List Nat) (k:Nat):outG l (ks++ [k])=outG l ks++(getG (grp l 3 k)).2:=by simp[outG]
theorem goodG_snoc {l:List Nat} {ks:List Nat} {k:Nat} (h:goodG l ks) (hk:(getG (grp l 3 k)).1=0):goodG l (ks++ [k]):=fun j hj=>(List.mem_append.1 hj).elim (h j) (fun e=>by rw[List.mem_singleton]at e;rw[e];exact hk)
theorem grp_zero3 (x y z:Nat) (r:List Nat):grp (x::y::z::r) 3 0=[x,y,z]:=by simp[grp]
theorem grp_succ3 (a b c:Nat) (r:List Nat) (k:Nat):grp (a::b::c::r) 3 (k+1)=grp r 3 k:=by
 rw[grp,grp,show 3*(k+1)=3*k+1+1+1 by omega,List.drop_succ_cons,List.drop_succ_cons,List.drop_succ_cons]
theorem outG_cons (a b c:Nat) (r:List Nat) (m:Nat):outG (a::b::c::r) (List.range (m+1))=(getG [a,b,c]).2++outG r (List.range m):=by
 rw[List.range_succ_eq_map,outG,List.map_cons,List.flatten_cons,List.map_map,grp_zero3]
 have e:(fun k=>(getG (grp (a::b::c::r) 3 k)).2) ∘ Nat.succ=fun k=>(getG (grp r 3 k)).2:=by
  funext k
  show(getG (grp (a::b::c::r) 3 (k+1))).2=_
  rw[grp_succ3]
 rw[e]
 rfl
theorem goodG_tail {a b c:Nat} {r:List Nat} {m:Nat} (h:goodG (a::b::c::r) (List.range (m+1))):(getG [a,b,c]).1=0∧goodG r (List.range m):=by
 refine⟨by have:=h 0 (List.mem_range.2 (by omega));rwa[grp_zero3]at this,fun k hk=> ?_⟩
 have:=h (k+1) (List.mem_range.2 (by have:=List.mem_range.1 hk;omega))
 rwa[grp_succ3]at this
theorem getR_all : ∀ (l : List Nat) (m : Nat), l.length % 3 ≠ 1 → (∀ k, k < m ↔ 3 * k < l.length) → goodG l (List.range m) → fgetR l = (0, outG l (List.range m))
  | [], m, _, h, _ => by
    have := h 0
    obtain rfl : m = 0 := by simp at this; omega
    rfl
  | [x], m, hl, _, _ => by simp at hl
  | [x, y], m, _, h, hg => by
    have h0 := h 0
    have h1 := h 1
    obtain rfl : m = 1 := by simp at h0 h1; omega
    have h2 := hg 0 (by simp)
    have e : grp [x, y] 3 0 = [x, y] := by simp [grp]
    rw [e] at h2
    rw [fgetR]
    have e3 : outG [x, y] (List.range 1) = (getG [x, y]).2 := by
      show outG [x, y] [0] = _
      rw [outG, List.map_cons, List.map_nil, e]
      simp
    rw [e3]
    exact Prod.ext h2 rfl
  | a :: b :: c :: r, m, hl, h, hg => by
    have h0 := h 0
    obtain ⟨m, rfl⟩ : ∃ j, m = j + 1 := ⟨m - 1, by simp at h0; omega⟩
    obtain ⟨hg1, hg2⟩ := goodG_tail hg
    have ih := getR_all r m (by simp only [List.length_cons] at hl; omega) (fun k => by have := h (k + 1); simp only [List.length_cons] at this; omega) hg2
    rw [fgetR, ih, outG_cons, thenG, if_neg (by rw [hg1]; omega), if_neg (by simp)]
theorem getR_stop: ∀(l:List Nat) (k:Nat),l.length % 3≠1→3*k<l.length→goodG l (List.range k)→(getG (grp l 3 k)).1≠0→fgetR l=((getG (grp l 3 k)).1,[])
 |[],k,_,h,_,_=>by simp at h
 |[x],k,hl,_,_,_=>by simp at hl
 |[x,y],k,_,h,hg,hb=>by
  obtain rfl:k=0:=by simp at h;omega
  have e:grp [x,y] 3 0=[x,y]:=by simp[grp]
  rw[e]at hb⊢
  exact getR_append.getR_nil [x,y] hb
 |a::b::c::r,0,hl,h,hg,hb=>by
  rw[grp_zero3]at hb⊢
  rw[fgetR,thenG_bad hb]
 |a::b::c::r,k+1,hl,h,hg,hb=>by
  obtain⟨hg1,hg2⟩:=goodG_tail hg
  rw[grp_succ3]at hb⊢
  have ih:=getR_stop r k (by simp only[List.length_cons]at hl;omega) (by simp only[List.length_cons]at h;omega) hg2 hb
  rw[fgetR,ih,thenG,if_neg (by rw[hg1];omega),if_pos hb]
theorem smap_not_row {W:World} {g:Nat} (h:SMap W g) {base size k:Nat} {e:TypeId} {v:Value} {xs:List Value} (hr:W.ownsRow base e size v k xs):some g≠v.ownBlock:=by
 obtain⟨es,ck,hh,_⟩:=h
 rcases hr.2 with⟨rfl,_⟩|⟨g',cap,cur,rfl,_,hgb,_⟩
 ·simp[Value.ownBlock]
 ·intro e'
  obtain rfl:g=g':=by simpa[Value.ownBlock]using e'
  rw[hh]at hgb;cases hgb
theorem grown_of_below {W W':World} (hb:Below W.heap.size W W'):W.grownBy W' none:=⟨hb.os,hb.tape,hb.output,hb.size,fun k hk _=>hb.block k hk⟩
theorem smap_beside {W Wc w1:World} {n₀ B g:Nat} {e:TypeId} {v v':Value} {k:Nat} {xs:List Value}
  (hu:SMap W g) (hrow:W.ownsRow n₀ e 1 v k xs) (hb:Below W.heap.size W Wc) (hgrow:Wc.grownBy w1 v.ownBlock) (hne:g≠B):SMap (w1.setCell ⟨B,0,none⟩ v') g:=
 ((hu.kept (grown_of_below hb) (by simp)).kept hgrow (smap_not_row hu hrow)).kept (grownBy_setCell' w1 B v') (by simpa using hne)
set_option maxRecDepth 100000 in
set_option maxHeartbeats 1600000 in
theorem pget_len (l:List Nat) (n:Nat) (hn:n % 3=1) (h63:n≤9223372036854775807) (A:Option Addr) (c:Nat) (w:World):
  Calls Tryz.prog 21 #[.slice A n c] w fun e w'=>e= .returned (.tuple #[.slice none 0 0, .int .i64 14])∧Below w.heap.size w w':=by
 have t1:(n:Int).tmod 3=1:=by rw[Int.tmod_eq_emod_of_nonneg (by omega)];omega
 go_enter Tryz.func21, Tryz.ntmps21
 go_wp2
 refine bodyPost_ret (v:= .tuple #[.slice none 0 0, .int .i64 14]) (by simp[results, Tryz.results21,go_sem]) rfl ?_
 exact⟨rfl,((Below.refl _ w).alloc (Nat.le_refl _) _).alloc (by simp) _⟩
set_option maxRecDepth 100000 in
set_option maxHeartbeats 2000000 in
theorem get_in (N : Nat) (hN : 4 ≤ N) (l : List Nat) (n : Nat) (hn : n = l.length) (hn4 : n ≤ 140737488355328) (hn3 : n % 3 ≠ 1) (E : Nat) (p : List Nat) (hp : fgetR l = (E, p)) (m : Nat) (hm : ∀ k, k < m ↔ 3 * k < n) (A : Option Addr) (c : Nat) (w : World) (hA : Bs w w.heap.size l A c) :
    CallsIn Fence.wide N Tryz.prog 21 #[.slice A n c] w fun e w' => ∃ A' c', e = .returned (.tuple #[.slice A' (p.length : Nat) c', .int .i64 (E : Int)]) ∧ Bs w' w'.heap.size p A' c' ∧ Below w.heap.size w w' := by
  have h1 : 1 ≤ N := by omega
  obtain ⟨i0, hi, hz0, hz1, hz2⟩ := info_parts infoU8
  have HN := Lib.hid hn
  have HP := Lib.hid hp
  have HM := Lib.hid hm
  have HA := Lib.hid hA
  have HN3 := Lib.hid hn3
  obtain ⟨r, hr⟩ : ∃ r, r = n % 3 := ⟨_, rfl⟩
  have t1 : (n : Int).tmod 3 = (r : Int) := by rw [Int.tmod_eq_emod_of_nonneg (by omega)]; omega
  have hr1 : ((r : Int) == 1) = false := by rw [beq_eq_false_iff_ne]; omega
  have w1' : IntKind.i64.wrap (r : Int) = (r : Int) := IntWalk.i64_in _ (by omega)
  clear hn hp hA hr hn3
  refine callsIn_of_wp_marks Tryz.func21 rfl trivial ?_ rfl
  simp only [Tryz.ntmps21, List.size_toArray, List.length_cons, List.length_nil, Nat.reduceAdd, Nat.reduceSub, Array.replicate_succ, Array.replicate_zero, List.push_toArray, List.append_toArray, List.nil_append, List.cons_append]
  gi_wp2_with (refine ⟨trivial, ?_⟩; gi_at_call 51; refine (callsIn_wide.2 (pvalues_any _)).mono ?_; rintro e w1 ⟨rfl, hown, hb⟩)
  refine ⟨trivial, (groups_in Fence.wide (N - 1) trivial rfl _ _ _ _ _).mono ?_⟩
  rintro e w' ⟨rfl, rfl⟩
  -- W0
  gi_wp2
  have hsw : ((w.alloc (.cells #[.slice none 0 0] 30)).alloc (.cells #[.int .i64 0] 31)).heap.size = w.heap.size + 1 + 1 := by simp
  have c2 : Boxed w1 w.heap.size 30 (.slice none 0 0) := (hb.block _ (by simp; omega)).trans ((Boxed.new w 30 (.slice none 0 0)).alloc _)
  have c3 : Boxed w1 (w.heap.size + 1) 31 (.int .i64 0) := (hb.block _ (by simp)).trans (by have := Boxed.new (w.alloc (.cells #[.slice none 0 0] 30)) 31 (.int .i64 0); rw [World.size_alloc] at this; exact this)
  have hw1 : Below w.heap.size w w1 := (((Below.refl _ w).alloc (Nat.le_refl _) _).alloc (by simp) _).trans (hb.mono (by simp; omega))
  have hM1 := hb.size
  rw [hsw] at hown hM1
  have hM2 : w.heap.size + 1 + 1 < w1.heap.size := by obtain ⟨es, ck, hh, _⟩ := hown; exact (Array.getElem?_eq_some_iff.1 hh).1
  clear hb hsw
  obtain ⟨W0, hW0⟩ : ∃ W0, (((((w1.alloc (.cells #[.map (some (w.heap.size + 1 + 1))] 78)).alloc (.cells #[] 5)).alloc (.cells #[.slice (some ⟨w1.heap.size + 1, 0, none⟩) 0 0] 30)).alloc (.cells #[.slice A n c] 30)).alloc (.cells #[.int .i64 3] 3)) = W0 := ⟨_, rfl⟩
  have b2 : Boxed W0 w.heap.size 30 (.slice none 0 0) := by rw [← hW0]; exact ((((c2.alloc _).alloc _).alloc _).alloc _).alloc _
  have b3 : Boxed W0 (w.heap.size + 1) 31 (.int .i64 0) := by rw [← hW0]; exact ((((c3.alloc _).alloc _).alloc _).alloc _).alloc _
  have hmp0 : SMap W0 (w.heap.size + 1 + 1) := by rw [← hW0]; exact ((((hown.alloc _).alloc _).alloc _).alloc _).alloc _
  have bm : Boxed W0 w1.heap.size 78 (.map (some (w.heap.size + 1 + 1))) := by rw [← hW0]; exact ((((Boxed.new w1 _ _).alloc _).alloc _).alloc _).alloc _
  have b7 : Boxed W0 (w1.heap.size + 1 + 1) 30 (.slice (some ⟨w1.heap.size + 1, 0, none⟩) 0 0) := by
    rw [← hW0]
    have := Boxed.new ((w1.alloc (.cells #[.map (some (w.heap.size + 1 + 1))] 78)).alloc (.cells #[] 5)) 30 (.slice (some ⟨w1.heap.size + 1, 0, none⟩) 0 0)
    rw [World.size_alloc, World.size_alloc] at this
    exact (this.alloc _).alloc _
  have ba : Boxed W0 (w1.heap.size + 1 + 1 + 1) 30 (.slice A n c) := by
    rw [← hW0]
    have := Boxed.new (((w1.alloc (.cells #[.map (some (w.heap.size + 1 + 1))] 78)).alloc (.cells #[] 5)).alloc (.cells #[.slice (some ⟨w1.heap.size + 1, 0, none⟩) 0 0] 30)) 30 (.slice A n c)
    rw [World.size_alloc, World.size_alloc, World.size_alloc] at this
    exact this.alloc _
  have bb : Boxed W0 (w1.heap.size + 1 + 1 + 1 + 1) 3 (.int .i64 3) := by
    rw [← hW0]
    have := Boxed.new ((((w1.alloc (.cells #[.map (some (w.heap.size + 1 + 1))] 78)).alloc (.cells #[] 5)).alloc (.cells #[.slice (some ⟨w1.heap.size + 1, 0, none⟩) 0 0] 30)).alloc (.cells #[.slice A n c] 30)) 3 (.int .i64 3)
    rw [World.size_alloc, World.size_alloc, World.size_alloc, World.size_alloc] at this
    exact this
  have hr0 : W0.ownsRow w.heap.size 5 1 (.slice (some ⟨w1.heap.size + 1, 0, none⟩) 0 0) 0 [] := by
    rw [← hW0]
    have := World.ownsRow_lit (base := w.heap.size) (e := 5) (size := 1) (w1.alloc (.cells #[.map (some (w.heap.size + 1 + 1))] 78)) #[] 0 (by simp; omega) (by decide) rfl
    rw [World.size_alloc] at this
    exact ((this.alloc _).alloc _).alloc _
  have hb0 : Below w.heap.size w W0 := by
    rw [← hW0]
    exact ((((hw1.alloc (by omega) _).alloc (by simp; omega) _).alloc (by simp; omega) _).alloc (by simp; omega) _).alloc (by simp; omega) _
  have hs0 : W0.heap.size = w1.heap.size + 1 + 1 + 1 + 1 + 1 := by rw [← hW0]; simp
  rw [hW0]
  clear hW0 c2 c3 hw1 hown hM1
  refine wpIn_rangeFunc_ownG rfl h1 (gf := 96) (lb := #[.pointer (some ⟨w1.heap.size + 1 + 1 + 1, 0, none⟩), .pointer (some ⟨w1.heap.size + 1 + 1 + 1 + 1, 0, none⟩)]) rfl trivial (enters_of Tryz.func96 (by kernel_rfl) rfl)
    (groups_stops Fence.wide (N - 1) trivial rfl (by omega) (w1.heap.size + 1 + 1 + 1) (w1.heap.size + 1 + 1 + 1 + 1) A n c 3 m HM.out (by omega) hn4 (by rw [HN.out]; exact HA.out.len) HA.out.cap W0 (by omega) (by omega) ba.cell bb.cell) KpG.trans (fun W l o o' _ hl ho _ => KpG.put W l o o' hl ho) (Below.refl _ _) (fun _ => rfl)
    (fun pre W => (∃ v, Boxed W (w1.heap.size + 1 + 1) 30 v ∧ W.ownsRow w.heap.size 5 1 v (outG l (idx pre)).length (U8 (outG l (idx pre))) ∧ True) ∧ (goodG l (idx pre) ∧ Boxed W w.heap.size 30 (.slice none 0 0) ∧ Boxed W (w.heap.size + 1) 31 (.int .i64 0) ∧ Boxed W w1.heap.size 78 (.map (some (w.heap.size + 1 + 1))) ∧ SMap W (w.heap.size + 1 + 1) ∧ Boxed W (w1.heap.size + 1 + 1 + 1) 30 (.slice A n c) ∧ Boxed W (w1.heap.size + 1 + 1 + 1 + 1) 3 (.int .i64 3) ∧ W0.heap.size ≤ W.heap.size ∧ (outG l (idx pre)).length ≤ 2 * pre.length) ∧ Below w.heap.size w W)
    (fun cc pre W => (cc = .ret ∧ ∃ (ini : List (Fin m)) (z : Fin m), pre = ini ++ [z] ∧ goodG l (idx ini) ∧ (getG (grp l 3 z.val)).1 ≠ 0 ∧ Boxed W w.heap.size 30 (.slice none 0 0) ∧ Boxed W (w.heap.size + 1) 31 (.int .i64 ((getG (grp l 3 z.val)).1 : Nat))) ∧ Below w.heap.size w W)
    (OwnFrom.and (Own.from (holdsRow_own w.heap.size (w1.heap.size + 1 + 1) 30 5 1 (fun pre => (outG l (idx pre)).length) (fun pre => U8 (outG l (idx pre))) (fun _ _ => True)) _)
      (OwnFrom.and (fun s P Q row hs hg hr => ⟨hs.1, hs.2.1.kept hg (fun e => by have := (hr _ e.symm).1; omega), hs.2.2.1.kept hg (fun e => by have := (hr _ e.symm).1; omega), hs.2.2.2.1.kept hg (fun e => by have := (hr _ e.symm).1; omega), hs.2.2.2.2.1.kept hg (fun e => by have := (hr _ e.symm).1; omega), hs.2.2.2.2.2.1.kept hg (fun e => by have := (hr _ e.symm).1; omega), hs.2.2.2.2.2.2.1.kept hg (fun e => by have := (hr _ e.symm).1; omega), Nat.le_trans hs.2.2.2.2.2.2.2.1 hg.size, hs.2.2.2.2.2.2.2.2⟩) (ownFrom_below (Nat.le_refl _) (by omega))))
    (fun cc => OwnFrom.and (fun s P Q row hs hg hr => by
      obtain ⟨hc, ini, z, e1, e2, e3, e4, e5⟩ := hs
      exact ⟨hc, ini, z, e1, e2, e3, e4.kept hg (fun e => by have := (hr _ e.symm).1; omega), e5.kept hg (fun e => by have := (hr _ e.symm).1; omega)⟩) (ownFrom_below (Nat.le_refl _) (by omega)))
    ⟨⟨_, b7, hr0, trivial⟩, ⟨(fun y hy => by cases hy), b2, b3, bm, hmp0, ba, bb, Nat.le_refl _, by simp [outG, idx]⟩, hb0⟩
    (fun x => { tmps := #[.slice A n c, undef, .pointer (some ⟨w.heap.size, 0, none⟩), .pointer (some ⟨w.heap.size + 1, 0, none⟩), .pointer (some ⟨w1.heap.size, 0, none⟩), .pointer (some ⟨w1.heap.size + 1 + 1, 0, none⟩), (.slice (A.map (fun a => a.add (3 * x.val))) (eOf n 3 (3 * x.val) - 3 * x.val) (c - 3 * x.val)), undef, undef, undef, undef, .slice A n c, .int .i64 (n : Int), .int .i64 (r : Int), .bool false, .map (some (w.heap.size + 1 + 1)), .slice (some ⟨w1.heap.size + 1, 0, none⟩) 0 0, .slice A n c, .func (.func 96) #[] #[.pointer (some ⟨w1.heap.size + 1 + 1 + 1, 0, none⟩), .pointer (some ⟨w1.heap.size + 1 + 1 + 1 + 1, 0, none⟩)], (.slice (A.map (fun a => a.add (3 * x.val))) (eOf n 3 (3 * x.val) - 3 * x.val) (c - 3 * x.val)), undef, undef, undef, undef, undef, undef, undef, undef, undef, undef, undef, undef, undef, undef, undef, undef, undef, undef, undef, undef, undef, undef], defers := [] }) ?assign ?body ?done ?stop
  case assign =>
    intro lp x W K hK
    dsimp only [encG]
    gi_wp2
    exact hK
  case body =>
    rintro lp pre x W ⟨⟨v, h7, hrow, -⟩, ⟨hgood, h2, h3, hbm, hmp, hba, hbb, hX3, hpf⟩, hB⟩ hlt
    have hx : 3 * x.val < l.length := by rw [← HN.out]; exact (HM.out _).1 x.isLt
    have hgl := grp_len l 3 x.val hx
    have hbs0 := (grp_bs (HA.out.below hB) 3 x.val hx).more hB.size
    have hsn : outG l (idx (pre ++ [x])) = outG l (idx pre) ++ (getG (grp l 3 x.val)).2 := by rw [idx_snoc, outG_snoc]
    have hgs : (getG (grp l 3 x.val)).1 = 0 → goodG l (idx (pre ++ [x])) := fun h => by rw [idx_snoc]; exact goodG_snoc hgood h
    have hmn : 3 * m ≤ n + 2 := by
      rcases Nat.eq_zero_or_pos m with h | h
      · omega
      · have := (HM.out (m - 1)).1 (by omega); omega
    have hg23 : (grp l 3 x.val).length = 2 ∨ (grp l 3 x.val).length = 3 := by
      have h3 := HN3.out
      rw [hgl, eOf, ← HN.out]
      rw [← HN.out] at hx
      split <;> omega
    rw [← HN.out] at hgl
    rw [← hgl]
    obtain ⟨g, hgg⟩ : ∃ g, g = grp l 3 x.val := ⟨_, rfl⟩
    rw [← hgg] at hg23 hbs0 hsn hgs ⊢
    have hgp := getG_prog g hg23
    have hns := nS_lt g (by omega)
    obtain ⟨k, hk⟩ : ∃ k, k = g.length := ⟨_, rfl⟩
    rw [← hk] at hgp hg23 ⊢
    obtain ⟨kk, hkk⟩ : ∃ kk, k - 1 = kk := ⟨_, rfl⟩
    rw [hkk] at hgp
    have hk3 : k ≤ 3 := by omega
    have hkk1 : 1 ≤ kk := by omega
    have hkk2 : kk ≤ 2 := by omega
    have wk : IntKind.i64.wrap ((k : Int) - 1) = (kk : Int) := by rw [IntWalk.i64_in _ (by omega)]; omega
    obtain ⟨ap, hap⟩ : ∃ ap, ap = A.map (fun a => a.add (3 * x.val)) := ⟨_, rfl⟩
    obtain ⟨cp, hcp⟩ : ∃ cp, cp = c - 3 * x.val := ⟨_, rfl⟩
    rw [← hap, ← hcp] at hbs0 ⊢
    have hz9 : ∀ e, getG g = (e, []) → e ≠ 0 → ∃ (ini : List (Fin m)) (z : Fin m), pre ++ [x] = ini ++ [z] ∧ goodG l (idx ini) ∧ (getG (grp l 3 z.val)).1 ≠ 0 ∧ (getG (grp l 3 z.val)).1 = e := fun e he h0 => ⟨pre, x, rfl, hgood, by rw [← hgg, he]; exact h0, by rw [← hgg, he]⟩
    have hcm := hbm.cell
    have hc7 := h7.cell
    have hc2 := h2.cell
    have hf2 := h2.frozen
    have g3 := (h3.other (B' := w.heap.size) (by omega) (.slice none 0 0)).cell
    have g3f := (h3.other (B' := w.heap.size) (by omega) (.slice none 0 0)).frozen
    have hsz := hB.size
    have HZ9 := Lib.hid hz9
    have H7 := Lib.hid h7
    have H2 := Lib.hid h2
    have H3 := Lib.hid h3
    have HBM := Lib.hid hbm
    have HMP := Lib.hid hmp
    have HRW := Lib.hid hrow
    have HBA := Lib.hid hba
    have HBBX := Lib.hid hbb
    have HBB := Lib.hid hB
    have HPS := Lib.hid hsn
    have HGS := Lib.hid hgs
    have HGP := Lib.hid hgp
    have HBS0 := Lib.hid hbs0
    have HKG := Lib.hid hk
    have HPF := Lib.hid hpf
    clear h7 h2 h3 hbm hmp hrow hba hbb hB hsn hgs hgp hbs0 hz9 hgood hap hcp hgg hk hkk b2 b3 bm b7 ba bb hr0 hb0 hmp0 hgl hx hpf
    have hn2 : 1 ≤ N - 1 - 1 := by omega
    cases hok : okL g with
    | false =>
      have hof := pofSigns_any g k HKG.out hk3 false 0 hok rfl ap cp (w.heap.size + 1 + 1) W HBS0.out HMP.out
      have HOF := Lib.hid hof
      have hge : getG g = (7, []) := by rw [HGP.out, if_pos hok]
      obtain ⟨ini, z, z1, z2, z3, z4⟩ := HZ9.out 7 hge (by omega)
      have HZ := Lib.hid (show pre ++ [x] = ini ++ [z] ∧ goodG l (idx ini) ∧ (getG (grp l 3 z.val)).1 ≠ 0 ∧ (getG (grp l 3 z.val)).1 = 7 from ⟨z1, z2, z3, z4⟩)
      clear hof hge hok z1 z2 z3 z4
      gi_wp2_with (refine ⟨trivial, ?_⟩; gi_at_call 53; refine (CallsIn.inRound lp (callsIn_wide.2 HOF.out)).mono ?_; rintro e w' ⟨rfl, rfl⟩)
      have q2 := (H2.out.set (.slice none 0 0)).other (B' := w.heap.size + 1) (by omega) (.int .i64 7)
      have q3 := (H3.out.other (B' := w.heap.size) (by omega) (.slice none 0 0)).set (.int .i64 7)
      exact ⟨((KeepsOthers.setCell _ _ _).trans (KeepsOthers.setCell _ _ _)).from _, ⟨rfl, ini, z, HZ.out.1, HZ.out.2.1, HZ.out.2.2.1, q2, by rw [HZ.out.2.2.2]; exact q3⟩, (HBB.out.setCell (p := ⟨w.heap.size, 0, none⟩) (Nat.le_refl _) _).setCell (p := ⟨w.heap.size + 1, 0, none⟩) (by simp) _⟩
    | true =>
      obtain ⟨q, hq⟩ : ∃ q, q = nS g := ⟨_, rfl⟩
      rw [← hq] at hns
      have hof := pofSigns_any g k HKG.out hk3 true q hok (by rw [hq]; rfl) ap cp (w.heap.size + 1 + 1) W HBS0.out HMP.out
      have HOF := Lib.hid hof
      obtain ⟨R, hR⟩ : ∃ R, q / 256 ^ kk = R := ⟨_, rfl⟩
      obtain ⟨b, hbq⟩ : ∃ b, bysH q kk = b := ⟨_, rfl⟩
      have hab := pasBytes_any q kk R b hbq hR W (by omega) (by omega)
      have HAB := Lib.hid hab
      have hge : getG g = if R ≠ 0 then (23, []) else (0, b) := by rw [HGP.out, hok, if_neg (by simp), ← hq, hR, hbq]
      have hbl : (U8 b).length = kk := by rw [U8, List.length_map, ← hbq, bysH_len]
      have hbl2 : b.length = kk := by rw [← hbq, bysH_len]
      have HBL := Lib.hid hbl
      have HBL2 := Lib.hid hbl2
      have hRlt : R < 100000 := by rw [← hR]; exact Nat.lt_of_le_of_lt (Nat.div_le_self _ _) hns
      have HGE := Lib.hid hge
      clear hof hok hq hR hbq hab hge hbl hbl2 HGP
      by_cases h0 : R = 0
      · subst h0
        have hgz : getG g = (0, b) := by rw [HGE.out, if_neg (by simp)]
        have hgs2 := HGS.out (by rw [hgz])
        have hps2 := HPS.out
        rw [hgz] at hps2
        have HG2 := Lib.hid hgs2
        have HPS2 := Lib.hid hps2
        obtain ⟨j, hj⟩ : ∃ j, j = (outG l (idx pre)).length := ⟨_, rfl⟩
        have hpf := HPF.out
        rw [← hj] at HRW hpf
        have hm1 : j + kk ≤ maxLen := by unfold maxLen; omega
        have hm2 : (j + kk) * 1 ≤ 140737488355328 := by omega
        have HJ := Lib.hid hj
        clear hgz hgs2 hps2 hj HGE HZ9
        gi_wp2_with (first | (refine ⟨trivial, ?_⟩; gi_at_call 53; refine (CallsIn.inRound lp (callsIn_wide.2 HOF.out)).mono ?_; rintro e w' ⟨rfl, rfl⟩) | (refine ⟨trivial, ?_⟩; gi_at_call 54; refine (CallsIn.inRound lp (callsIn_wide.2 HAB.out)).mono ?_; rintro e w2 ⟨rfl, hs, hb⟩; have HS := Lib.hid hs; have HB1 := Lib.hid hb; have hc71 := (boxed_belowD H7.out HB1.out).cell; have hro := Lib.hid (own_below HRW.out HB1.out); have hcl : ∀ i u, (U8 b)[i]? = some u → w2.cell? ((⟨W.heap.size, 0, none⟩ : Addr).add i) = some u := fun i u hu => (by obtain ⟨ad, e, _, hcc⟩ := HS.out.rd i u hu; cases e; exact hcc); have HCL := Lib.hid hcl; have hsz2 := Nat.le_trans hsz HB1.out.size; clear hs hb hcl) | (gi_at_builtin; refine wpListIn_append_own_at _ rfl _ _ 30 rfl w.heap.size 5 i0 (.int .u8 0) 1 1 Tryz.underlying30 hi hz0 hz1 hz2 rfl (by decide) v _ _ rfl hro.out ⟨W.heap.size, 0, none⟩ kk kk (U8 b) rfl ?_ HCL.out (U8_one _) hm1 hm2 hsz2 ?_; (rw [HBL.out, Nat.mul_one]); intro v' w3 hown' hgrow _ hat; obtain ⟨g', cap', rfl, _⟩ := hown'.form (by omega); obtain ⟨hv1, hv2, hr2, hk2, hb2⟩ := boxed_grown W0.heap.size H7.out (by decide) HRW.out hsz (by omega) HB1.out hown' hgrow; have hc1 := hv1.cell; have hf1 := hv1.frozen))
        have hba2 := boxed_beside (B := w1.heap.size + 1 + 1) (v' := .slice (some ⟨g', 0, none⟩) (j + kk) cap') HBA.out (by decide) HRW.out HB1.out hgrow (by omega)
        have hbb2 := boxed_beside (B := w1.heap.size + 1 + 1) (v' := .slice (some ⟨g', 0, none⟩) (j + kk) cap') HBBX.out (by decide) HRW.out HB1.out hgrow (by omega)
        have h22 := boxed_beside (B := w1.heap.size + 1 + 1) (v' := .slice (some ⟨g', 0, none⟩) (j + kk) cap') H2.out (by decide) HRW.out HB1.out hgrow (by omega)
        have h32 := boxed_beside (B := w1.heap.size + 1 + 1) (v' := .slice (some ⟨g', 0, none⟩) (j + kk) cap') H3.out (by decide) HRW.out HB1.out hgrow (by omega)
        have hbm2 := boxed_beside (B := w1.heap.size + 1 + 1) (v' := .slice (some ⟨g', 0, none⟩) (j + kk) cap') HBM.out (by decide) HRW.out HB1.out hgrow (by omega)
        have hmp2 := smap_beside (B := w1.heap.size + 1 + 1) (v' := .slice (some ⟨g', 0, none⟩) (j + kk) cap') HMP.out HRW.out HB1.out hgrow (by omega)
        refine ⟨hk2, KpG.boxed HBA.out HBBX.out hba2 hbb2, ⟨⟨_, hv2, by rw [HPS2.out, u8_app, List.length_append, ← HJ.out, HBL2.out]; exact hr2, trivial⟩, ⟨HG2.out, h22, h32, hbm2, hmp2, hba2, hbb2, Nat.le_trans hX3 hk2.size, ?_⟩, HBB.out.trans hb2⟩⟩
        rw [HPS2.out, List.length_append, ← HJ.out, HBL2.out, List.length_append]
        simp only [List.length_cons, List.length_nil]
        omega
      · have hne : ((R : Int) != 0) = true := by rw [bne_iff_ne]; omega
        have hne2 : (R != 0) = true := by rw [bne_iff_ne]; exact h0
        have hge : getG g = (23, []) := by rw [HGE.out, if_pos h0]
        obtain ⟨ini, z, z1, z2, z3, z4⟩ := HZ9.out 23 hge (by omega)
        have HZ := Lib.hid (show pre ++ [x] = ini ++ [z] ∧ goodG l (idx ini) ∧ (getG (grp l 3 z.val)).1 ≠ 0 ∧ (getG (grp l 3 z.val)).1 = 23 from ⟨z1, z2, z3, z4⟩)
        clear hge HGE HZ9 z1 z2 z3 z4
        gi_wp2_with (first | (refine ⟨trivial, ?_⟩; gi_at_call 53; refine (CallsIn.inRound lp (callsIn_wide.2 HOF.out)).mono ?_; rintro e w' ⟨rfl, rfl⟩) | (refine ⟨trivial, ?_⟩; gi_at_call 54; refine (CallsIn.inRound lp (callsIn_wide.2 HAB.out)).mono ?_; rintro e w2 ⟨rfl, hs, hb⟩; have HB1 := Lib.hid hb; have h22 := boxed_belowD H2.out HB1.out; have h32 := boxed_belowD H3.out HB1.out; have hc21 := h22.cell; have hf21 := h22.frozen; have g31 := (h32.other (B' := w.heap.size) (by omega) (.slice none 0 0)).cell; have g31f := (h32.other (B' := w.heap.size) (by omega) (.slice none 0 0)).frozen; have H22 := Lib.hid h22; have H32 := Lib.hid h32; clear hs hb h22 h32))
        have q2 := (H22.out.set (.slice none 0 0)).other (B' := w.heap.size + 1) (by omega) (.int .i64 23)
        have q3 := (H32.out.other (B' := w.heap.size) (by omega) (.slice none 0 0)).set (.int .i64 23)
        exact ⟨(keeps_below HB1.out).trans (((KeepsOthers.setCell _ _ _).trans (KeepsOthers.setCell _ _ _)).from _), ⟨rfl, ini, z, HZ.out.1, HZ.out.2.1, HZ.out.2.2.1, q2, by rw [HZ.out.2.2.2]; exact q3⟩, ((HBB.out.trans (HB1.out.mono hsz)).setCell (p := ⟨w.heap.size, 0, none⟩) (Nat.le_refl _) _).setCell (p := ⟨w.heap.size + 1, 0, none⟩) (by simp) _⟩
  case done =>
    rintro D ys W hD hys ⟨⟨v, h7, hrow, -⟩, ⟨hgood, h2, h3, hbm, hmp, hba, hbb, hX3, hpf⟩, hB⟩ hK
    rw [hys] at hgood
    have hval := getR_all l m (by rw [← HN.out]; exact HN3.out) (by rw [← HN.out]; exact HM.out) hgood
    obtain ⟨rfl, rfl⟩ : E = 0 ∧ p = outG l (idx ys) := by have := HP.out; rw [hval] at this; exact ⟨(Prod.mk.inj this).1.symm, by rw [hys]; exact (Prod.mk.inj this).2.symm⟩
    have hplt : ∀ x ∈ outG l (idx ys), x < 256 := by
      have h9 : fgetX l = (0, outG l (idx ys)) := by unfold fgetX; rw [if_neg (by rw [← HN.out]; exact HN3.out)]; exact HP.out
      exact getX_lt h9
    obtain ⟨A2, c2, rfl, -⟩ := bs_of_own hrow hplt
    obtain ⟨k, hk⟩ : ∃ k, k = (outG l (idx ys)).length := ⟨_, rfl⟩
    rw [← hk] at h7 hrow
    have HKL := Lib.hid hk
    have HPL := Lib.hid hplt
    clear hk hplt
    have hc7 := h7.cell
    have hc4 := h2.cell
    have hf4 := h2.frozen
    have g5 := (h3.other (B' := w.heap.size) (by omega) (.slice A2 k c2)).cell
    have g5f := (h3.other (B' := w.heap.size) (by omega) (.slice A2 k c2)).frozen
    have q4 := (h2.set (.slice A2 k c2)).other (B' := w.heap.size + 1) (by omega) (.int .i64 0)
    have q5 := (h3.other (B' := w.heap.size) (by omega) (.slice A2 k c2)).set (.int .i64 0)
    have hrow1 := hrow.kept (grownBy_setCell' W w.heap.size (.slice A2 k c2)) (.inr (h2.not_row (by decide) hrow).symm)
    have hrow2 := hrow1.kept (grownBy_setCell' _ (w.heap.size + 1) (.int .i64 0)) (.inr ((h3.other (B' := w.heap.size) (by omega) (.slice A2 k c2)).not_row (by decide) hrow1).symm)
    have hB2 := (hB.setCell (p := ⟨w.heap.size, 0, none⟩) (Nat.le_refl _) (.slice A2 k c2)).setCell (p := ⟨w.heap.size + 1, 0, none⟩) (by simp) (.int .i64 0)
    have hK' : ((W.setCell ⟨w.heap.size, 0, none⟩ (.slice A2 k c2)).setCell ⟨w.heap.size + 1, 0, none⟩ (.int .i64 0)).heap[D]? = some (.deferred (some [])) := ((KeepsOthers.setCell W ⟨w.heap.size, 0, none⟩ (.slice A2 k c2)).trans (KeepsOthers.setCell _ ⟨w.heap.size + 1, 0, none⟩ (.int .i64 0))).same D _ hK rfl
    have HQ4 := Lib.hid q4
    have HQ5 := Lib.hid q5
    have HRW := Lib.hid hrow2
    have HB2 := Lib.hid hB2
    have HK' := Lib.hid hK'
    clear q4 q5 hrow hrow1 hrow2 hB hB2 hK' hK h7 h2 h3 hbm hmp hba hbb hval hys hgood b2 b3 bm b7 ba bb hr0 hb0 hmp0 hpf
    gi_wp2
    refine ⟨by simp, .inl ⟨_, _, rfl, run_takeDeferred HK'.out, ?_⟩⟩
    have e4 := cell_kept HQ4.out.cell (grownBy_putObj' _ D (.deferred none)) (fun r e => by cases e; exact ⟨_, HK'.out, rfl⟩)
    have e5 := cell_kept HQ5.out.cell (grownBy_putObj' _ D (.deferred none)) (fun r e => by cases e; exact ⟨_, HK'.out, rfl⟩)
    have hro := ownsRow_putObj HRW.out (.deferred none) HK'.out rfl
    obtain ⟨A', c', e', hbs⟩ := bs_of_own hro HPL.out
    obtain ⟨rfl, rfl⟩ : A2 = A' ∧ c2 = c' := by injection e' with e1 _ e2; exact ⟨e1, e2⟩
    refine ⟨.tuple #[.slice A2 k c2, .int .i64 0], ?_, A2, c2, by rw [HKL.out]; rfl, hbs, HB2.out.trans (belowK_b (w := w) (Nat.le_refl _) _ D _ _ (by omega) HK'.out rfl rfl)⟩
    simp [results, Tryz.results21, go_sem, e4, e5]
  case stop =>
    rintro D cc pre W hD ⟨kz, hkm, hkz⟩ ⟨⟨rfl, ini, z, e1, e2, e3, h4, h5⟩, hB⟩ hK
    have hidx : idx ini ++ [z.val] = List.range kz := by rw [← idx_snoc, ← e1, hkz]
    obtain ⟨k1, hk1⟩ : ∃ k1, kz = k1 + 1 := ⟨kz - 1, by have := congrArg List.length hidx; simp at this; omega⟩
    rw [hk1, List.range_succ] at hidx
    have hii : idx ini = List.range k1 := (List.append_inj' hidx rfl).1
    have hzz : z.val = k1 := by have := (List.append_inj' hidx rfl).2; simpa using this
    rw [hii] at e2
    have hz3 : 3 * z.val < l.length := by rw [← HN.out]; exact (HM.out _).1 z.isLt
    rw [hzz] at e3 h5 hz3
    have hval := getR_stop l k1 (by rw [← HN.out]; exact HN3.out) hz3 e2 e3
    obtain ⟨he, rfl⟩ : E = (getG (grp l 3 k1)).1 ∧ p = [] := by have := HP.out; rw [hval] at this; exact ⟨(Prod.mk.inj this).1.symm, (Prod.mk.inj this).2.symm⟩
    rw [← he] at h5
    have q4 := cell_kept h4.cell (grownBy_putObj' _ D (.deferred none)) (fun r e => by cases e; exact ⟨_, hK, rfl⟩)
    have q5 := cell_kept h5.cell (grownBy_putObj' _ D (.deferred none)) (fun r e => by cases e; exact ⟨_, hK, rfl⟩)
    have HQ4 := Lib.hid q4
    have HQ5 := Lib.hid q5
    have HK := Lib.hid hK
    clear hval he e3 hkz hidx hii hzz hz3 hk1 e2 q4 q5 hK b2 b3 bm b7 ba bb hr0 hb0 hmp0
    gi_wp2
    refine ⟨by simp, .inl ⟨_, _, rfl, run_takeDeferred HK.out, ?_⟩⟩
    have q4 := HQ4.out
    have q5 := HQ5.out
    refine ⟨.tuple #[.slice none 0 0, .int .i64 (E : Int)], ?_, none, 0, rfl, ⟨by intro j u hu; simp [U8] at hu, fun _ => rfl, by simp, by omega, by simp⟩, hB.trans (belowK_b (w := w) (Nat.le_refl _) W D _ _ (by omega) HK.out rfl rfl)⟩
    simp [results, Tryz.results21, go_sem, q4, q5]
theorem pget_forty (l:List Nat) (n:Nat) (hn:n=l.length) (hn4:n≤140737488355328) (E:Nat) (p:List Nat) (hp:fgetX l=(E,p)) (A:Option Addr) (c:Nat) (w:World) (hA:Bs w w.heap.size l A c):
  Calls Tryz.prog 21 #[.slice A n c] w fun e w'=> ∃A' c',e= .returned (.tuple #[.slice A' (p.length:Nat) c', .int .i64 (E:Int)])∧Bs w' w'.heap.size p A' c'∧Below w.heap.size w w':=by
 unfold fgetX at hp
 by_cases h3:n % 3=1
 ·rw[if_pos (by rw[←hn];exact h3)]at hp
  obtain⟨rfl,rfl⟩:=Prod.mk.inj hp
  refine(pget_len l n h3 (by omega) A c w).mono ?_
  rintro e w1 ⟨rfl,hb⟩
  exact⟨none,0,rfl,⟨by intro j u hu;simp[U8]at hu,fun _=>rfl,by simp,by omega,by simp⟩,hb⟩
 ·rw[if_neg (by rw[←hn];exact h3)]at hp
  exact(callsIn_wide (n:=4)).1 (get_in 4 (by omega) l n hn hn4 h3 E p hp ((n+2) / 3) (fun k=>by omega) A c w hA)
end Go.Proofs.YtcnglbliidjnfaaGreatDoor
end
section
namespace Go.Proofs.YtcnglbliidjnfaaGreatDoor
set_option linter.unusedVariables false
open Go.ChangeShapes Go.WideShapes Go.ChangeAt Go.RowKit
def RdBox (w:World) (X:Nat) (A:Option Addr) (m c a:Nat):Prop:=w.heap[X]?=some (.cells #[.slice A m c, .int .i64 (a:Int)] 134 (0,0))
theorem RdBox.lt {w:World} {X:Nat} {A:Option Addr} {m c a:Nat} (h:RdBox w X A m c a):X<w.heap.size:=(Array.getElem?_eq_some_iff.1 h).1
theorem RdBox.c0 {w:World} {X:Nat} {A:Option Addr} {m c a:Nat} (h:RdBox w X A m c a):w.cell? ⟨X,0,none⟩=some (.slice A m c):=cell_of_row w X 0 _ _ _ h
theorem RdBox.c1 {w:World} {X:Nat} {A:Option Addr} {m c a:Nat} (h:RdBox w X A m c a):w.cell? ⟨X,1,none⟩=some (.int .i64 (a:Int)):=cell_of_row w X 1 _ _ _ h
theorem RdBox.fz {w:World} {X:Nat} {A:Option Addr} {m c a:Nat} (h:RdBox w X A m c a) (j:Nat):w.frozen? ⟨X,j,none⟩=false:=frozen_of_row w X j _ _ h
theorem RdBox.next {w w':World} {X:Nat} {A:Option Addr} {m c a:Nat} (h:RdBox w X A m c a) (hb:Below w.heap.size w w'):RdBox w' X A m c a:=(hb.block X h.lt).trans h
theorem info_fld:(Tryz.prog.info? 77).map (·.size)=some 2:=by kernel_rfl
set_option maxRecDepth 100000 in
set_option maxHeartbeats 1600000 in
theorem pnext_none (c a X:Nat) (A:Option Addr) (w:World) (hK:RdBox w X A 0 c a):
  Calls Tryz.prog 109 #[.pointer (some ⟨X,0,none⟩)] w fun e w'=>e= .returned (.tuple #[.agg #[.int .i64 0, .slice none 0 0], .int .i64 20])∧Below w.heap.size w w':=by
 have hX:=hK.lt
 have c0:=hK.c0
 have c1:=hK.c1
 have HK:=Lib.hid hK
 clear hK
 go_enter Tryz.func109, Tryz.ntmps109
 go_wp2
 exact bodyPost_ret (results_row_tmp' Tryz.results109 _ _ w.heap.size 77 #[.int .i64 0, .slice none 0 0] (0,0) _ rfl (heap_alloc_new w _) Tryz.underlying77 rfl info_fld) rfl ⟨rfl,below_lit w _ _⟩
set_option maxRecDepth 100000 in
set_option maxHeartbeats 1600000 in
theorem pnext_one (c a X:Nat) (A:Option Addr) (w:World) (hK:RdBox w X A 1 c a):
  Calls Tryz.prog 109 #[.pointer (some ⟨X,0,none⟩)] w fun e w'=>e= .returned (.tuple #[.agg #[.int .i64 0, .slice none 0 0], .int .i64 14])∧Below w.heap.size w w':=by
 have hX:=hK.lt
 have c0:=hK.c0
 have c1:=hK.c1
 have HK:=Lib.hid hK
 clear hK
 go_enter Tryz.func109, Tryz.ntmps109
 go_wp2
 exact bodyPost_ret (results_row_tmp' Tryz.results109 _ _ w.heap.size 77 #[.int .i64 0, .slice none 0 0] (0,0) _ rfl (heap_alloc_new w _) Tryz.underlying77 rfl info_fld) rfl ⟨rfl,below_lit w _ _⟩
theorem fld_cells {w:World} {g:Nat} {x0 x1 v0 v1:Value} {t:TypeId} (h:w.heap[g]?=some (.cells #[x0,x1] t (0,0))):((w.setCell ⟨g,0,none⟩ v0).setCell ⟨g,1,none⟩ v1).heap[g]?=some (.cells #[v0,v1] t (0,0)):=
 heap_setCell_same _ g 1 _ _ _ (heap_setCell_same w g 0 _ _ _ h)
theorem two_ahead {w:World} {X t n c:Nat} {r:List Nat} {A:Option Addr} (h:Bs w X (t::n::r) A c): ∃ad,A=some ad∧ad.block<X∧w.cell? ad=some (.int .u8 (t:Int))∧w.cell? ⟨ad.block,ad.off+1,none⟩=some (.int .u8 (n:Int))∧t<256∧n<256:=by
 obtain⟨ad,rfl,hlt,hc⟩:=h.rd 0 (.int .u8 (t:Int)) rfl
 obtain⟨ad',e,_,hc'⟩:=h.rd 1 (.int .u8 (n:Int)) rfl
 cases e
 rw[add_zero']at hc
 have e1:ad.add 1=⟨ad.block,ad.off+1,none⟩:=by unfold Addr.add;simp
 rw[e1]at hc'
 exact⟨ad,rfl,hlt,hc,hc',h.lt t (by simp),h.lt n (by simp)⟩
set_option maxRecDepth 100000 in
set_option maxHeartbeats 1600000 in
theorem pnext_order (t n:Nat) (r:List Nat) (m:Nat) (hm:m=r.length+2) (c a X:Nat) (A:Option Addr) (w:World) (hK:RdBox w X A m c a) (hA:Bs w X (t::n::r) A c) (h:t≤a):
  Calls Tryz.prog 109 #[.pointer (some ⟨X,0,none⟩)] w fun e w'=>e= .returned (.tuple #[.agg #[.int .i64 0, .slice none 0 0], .int .i64 13])∧Below w.heap.size w w':=by
 obtain⟨ad,rfl,hlt,ht,hn,ht2,hn2⟩:=two_ahead hA
 have hX:=hK.lt
 have c0:=hK.c0
 have c1:=hK.c1
 have lk:=World.block_lt_of_cell? w _ ht
 have lk2:=World.block_lt_of_cell? w _ hn
 have hmc:m≤c:=by have:=hA.len;simp only[List.length_cons]at this;omega
 have hcc:=hA.cap
 have m2:(2:Int)≤(m:Int):=by omega
 have m0:((m:Int)==0)=false:=by rw[beq_eq_false_iff_ne];omega
 have m0':(m==0)=false:=by rw[beq_eq_false_iff_ne];omega
 have m0n:0<m:=by omega
 have m1n:1<m:=by omega
 have m1i:(1:Int)<(m:Int):=by omega
 have wt:IntKind.i64.wrap (t:Int)=(t:Int):=IntWalk.i64_in _ (by omega)
 have wn:IntKind.i64.wrap (n:Int)=(n:Int):=IntWalk.i64_in _ (by omega)
 have wn2:IntKind.i64.wrap (2+(n:Int))=2+(n:Int):=IntWalk.i64_in _ (by omega)
 have hta:(t:Int)≤(a:Int):=by omega
 have HK:=Lib.hid hK
 clear hK hA hm
 go_enter Tryz.func109, Tryz.ntmps109
 go_wp2
 go_quiet (fail)
 go_wp2
 exact bodyPost_ret (results_row_tmp' Tryz.results109 _ _ w.heap.size 77 #[.int .i64 0, .slice none 0 0] (0,0) _ rfl (fld_cells (heap_alloc_new w _)) Tryz.underlying77 rfl info_fld) rfl ⟨rfl,((below_drewN (below_lit w _ _) _).setCell (Nat.le_refl _) _).setCell (Nat.le_refl _) _⟩
set_option maxRecDepth 100000 in
set_option maxHeartbeats 1600000 in
theorem pnext_over (t n:Nat) (r:List Nat) (m:Nat) (hm:m=r.length+2) (c a X:Nat) (A:Option Addr) (w:World) (hK:RdBox w X A m c a) (hA:Bs w X (t::n::r) A c) (h:a<t) (h2:r.length<n):
  Calls Tryz.prog 109 #[.pointer (some ⟨X,0,none⟩)] w fun e w'=>e= .returned (.tuple #[.agg #[.int .i64 0, .slice none 0 0], .int .i64 14])∧Below w.heap.size w w':=by
 obtain⟨ad,rfl,hlt,ht,hn,ht2,hn2⟩:=two_ahead hA
 have hX:=hK.lt
 have c0:=hK.c0
 have c1:=hK.c1
 have lk:=World.block_lt_of_cell? w _ ht
 have lk2:=World.block_lt_of_cell? w _ hn
 have hmc:m≤c:=by have:=hA.len;simp only[List.length_cons]at this;omega
 have hcc:=hA.cap
 have m2:(2:Int)≤(m:Int):=by omega
 have m0:((m:Int)==0)=false:=by rw[beq_eq_false_iff_ne];omega
 have m0':(m==0)=false:=by rw[beq_eq_false_iff_ne];omega
 have m0n:0<m:=by omega
 have m1n:1<m:=by omega
 have m1i:(1:Int)<(m:Int):=by omega
 have wt:IntKind.i64.wrap (t:Int)=(t:Int):=IntWalk.i64_in _ (by omega)
 have wn:IntKind.i64.wrap (n:Int)=(n:Int):=IntWalk.i64_in _ (by omega)
 have wn2:IntKind.i64.wrap (2+(n:Int))=2+(n:Int):=IntWalk.i64_in _ (by omega)
 have hta: ¬(t:Int)≤(a:Int):=by omega
 have hov:(m:Int)<2+(n:Int):=by omega
 have HK:=Lib.hid hK
 clear hK hA hm
 go_enter Tryz.func109, Tryz.ntmps109
 go_wp2
 go_quiet (fail)
 go_wp2
 exact bodyPost_ret (results_row_tmp' Tryz.results109 _ _ w.heap.size 77 #[.int .i64 0, .slice none 0 0] (0,0) _ rfl (fld_cells (heap_alloc_new w _)) Tryz.underlying77 rfl info_fld) rfl ⟨rfl,((below_drewN (below_lit w _ _) _).setCell (Nat.le_refl _) _).setCell (Nat.le_refl _) _⟩
end Go.Proofs.YtcnglbliidjnfaaGreatDoor
end
