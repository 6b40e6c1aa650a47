import Derived.Test.YtcnglbliidjnfaaGreatDoorRingPIs
import Derived.Test.YtcnglbliidjnfaaGreatDoorMem
import Derived.Test.YtcnglbliidjnfaaGreatDoorMacTag
import Derived.Test.YtcnglbliidjnfaaGreatDoorBarConst
import Derived.Deep.RegionHeld3
import Derived.Deep.MidRow
import Derived.ArgAppend
import Derived.Test.YtcnglbliidjnfaaGreatDoorRingFind
import Derived.Test.YtcnglbliidjnfaaGreatDoorMath
import Derived.Test.YtcnglbliidjnfaaGreatDoorFieldsMath
section
namespace Go.Proofs.YtcnglbliidjnfaaGreatDoor
set_option linter.unusedVariables false
open Go.ChangeShapes Go.WideShapes Go.ChangeAt Go.RowKit Go.Shelf
attribute [local go_sem] Oper.semAt_some
theorem back_in (F:Fence) (n:Nat) (hf:F.fn 97) (hro:F.round=none) (A:Option Addr) (m c:Nat) (w:World):
  CallsIn F n Tryz.prog 97 #[.slice A m c] w fun e w'=>e= .returned (.func (.func 121) #[] #[.pointer (some ⟨w.heap.size,0,none⟩)])∧w'=w.alloc (.cells #[.slice A m c] 22):=by
 refine callsIn_of_wp Tryz.func97 rfl hf ?_ hro
 simp only[Tryz.ntmps97,List.size_toArray,List.length_cons,List.length_nil,Nat.reduceAdd,Nat.reduceSub,Array.replicate_succ,Array.replicate_zero,List.push_toArray,List.append_toArray,List.nil_append,List.cons_append]
 gi_wp2
 go_ret
 exact⟨rfl,rfl⟩
theorem back_stops (F:Fence) (n:Nat) (hf:F.fn 121) (hro:F.round=none) (hn:1≤n) (Bx n₀:Nat) (A:Option Addr) (m c:Nat) (L:List KV) (hm:m=L.length) (h100:m≤1000) (hBx:Bx<n₀) (w:World) (hn₀:n₀≤w.heap.size)
  (hc:w.cell? ⟨Bx,0,none⟩=some (.slice A m c)) (hL:KVs w n₀ A L):
  SeqStopsK F n Tryz.prog 121 #[.pointer (some ⟨Bx,0,none⟩)] encB (Below n₀) (fun ys=>ys=upto L m) (fun pre=> ∃k,k≤m∧pre=upto L k) m w:=fun l J Jx W hW _ _ hY h0=>
 back1_in F n hf hro hn l Bx n₀ A m c L hm h100 hBx J Jx hY W ((hW.cell (p:=⟨Bx,0,none⟩) (Nat.lt_of_lt_of_le hBx hn₀)).trans hc) (hL.below (hW.mono hn₀)) h0
def lastIx (p:Nat→Bool):Nat→Int
 |0=> -1
 |n+1=>if p n=true then(n:Int)else lastIx p n
theorem lastIx_none {p:Nat→Bool} : ∀n:Nat,(∀j,j<n→p j=false)→lastIx p n= -1
 |0,_=>rfl
 |n+1,h=>by rw[lastIx,h n (by omega)];simpa using lastIx_none n (fun j hj=>h j (by omega))
theorem lastIx_at {p:Nat→Bool} : ∀(n k:Nat),k<n→p k=true→(∀j,k<j→j<n→p j=false)→lastIx p n=(k:Int)
 |0,k,hk,_,_=>by omega
 |n+1,k,hk,hp,h=>by
  by_cases e:k=n
  ·subst e;rw[lastIx,if_pos hp]
  ·rw[lastIx,h n (by omega) (by omega)];simpa using lastIx_at n k (by omega) hp (fun j h1 h2=>h j h1 (by omega))
theorem lastIx_cases (p:Nat→Bool): ∀n:Nat,(lastIx p n= -1∧ ∀j,j<n→p j=false)∨ ∃k:Nat,k<n∧lastIx p n=(k:Int)∧p k=true∧ ∀j,k<j→j<n→p j=false
 |0=> .inl ⟨rfl,by omega⟩
 |n+1=>by
  by_cases hp:p n=true
  ·exact .inr ⟨n,by omega,by rw[lastIx,if_pos hp],hp,by omega⟩
  ·have hf:p n=false:=by simpa using hp
   rcases lastIx_cases p n with⟨h1,h2⟩|⟨k,h1,h2,h3,h4⟩
   ·refine .inl ⟨by rw[lastIx,hf];simpa using h1,fun j hj=> ?_⟩
    rcases Nat.lt_or_ge j n with h|h
    ·exact h2 j h
    ·have:j=n:=by omega
     subst this;exact hf
   ·refine .inr ⟨k,by omega,by rw[lastIx,hf];simpa using h2,h3,fun j hj1 hj2=> ?_⟩
    rcases Nat.lt_or_ge j n with h|h
    ·exact h4 j hj1 h
    ·have:j=n:=by omega
     subst this;exact hf
theorem getD_k {l:List K} {L:List KV} (h:L.map (·.k)=l) (j:Nat):l.getD j K0=(L.getD j KV0).k:=by
 subst h
 rw[List.getD_eq_getElem?_getD,List.getD_eq_getElem?_getD,List.getElem?_map]
 cases L[j]?<;>rfl
theorem upto_none {l:List K} {L:List KV} {p:K→Bool} (h:L.map (·.k)=l) (k:Nat) (hk:k≤L.length) (hall: ∀x∈upto L k,p x.2.k=false): ∀j,L.length - k≤j→j<L.length→p (l.getD j K0)=false:=by
 intro j h1 h2
 have hm:back L (L.length - 1 - j)∈upto L k:=by
  simp only[upto,List.mem_map,List.mem_range]
  exact⟨_,by omega,rfl⟩
 have:=hall _ hm
 rw[back,show L.length - 1 - (L.length - 1 - j)=j by omega]at this
 rw[getD_k h]
 exact this
theorem keeps_call {B:Nat} {W W':World} (hb:Below W.heap.size W W'):KeepsFrom B W W':=⟨hb.size,fun k o _ hk _=>(hb.block k (Array.getElem?_eq_some_iff.1 hk).1).trans hk⟩
def Fits (g:Nat) (lb:Array Value) (p:K→Bool) (w:World):Prop:=
 ∀(W:World) (q:KV),Below w.heap.size w W→Calls Tryz.prog g (#[.agg #[.int .i64 q.k.id, .slice q.S q.k.sec.length q.c, .int .i64 q.k.frm, .int .i64 q.k.til]]++lb) W fun e w'=>e= .returned (.bool (p q.k))∧Below W.heap.size W w'
set_option maxRecDepth 100000 in
set_option maxHeartbeats 2000000 in
theorem last_any (p : K → Bool) (l : List K) (m : Nat) (hm : m = l.length) (h100 : m ≤ 1000) (g : Nat) (lb : Array Value) (eg : ∀ args w, (callFunc g args).run Tryz.prog w = .ok (.enter g args) w) (A : Option Addr) (c : Nat) (w : World) (hA : Ks w w.heap.size A l) (hp : Fits g lb p w) :
    Calls Tryz.prog 58 #[.slice A m c, .func (.func g) #[] lb] w fun e w' => e = .returned (.int .i64 (lastIx (fun j => p (l.getD j K0)) m)) ∧ Below w.heap.size w w' := by
  obtain ⟨L, hL, hKV, _⟩ := kvs_of_ks hA
  have hmL : m = L.length := by rw [hm, ← hL, List.length_map]
  have HM := Lib.hid hm
  have HL := Lib.hid hL
  have HKV := Lib.hid hKV
  have HP := Lib.hid hp
  have HML := Lib.hid hmL
  clear hm hL hKV hp hmL hA
  refine (callsIn_wide (n := 3)).1 ?_
  refine callsIn_of_wp_marks Tryz.func58 rfl trivial ?_ rfl
  simp only [Tryz.ntmps58, List.size_toArray, List.length_cons, List.length_nil, Nat.reduceAdd, Nat.reduceSub, Array.replicate_succ, Array.replicate_zero, List.push_toArray, List.append_toArray, List.nil_append, List.cons_append]
  gi_wp2_with (refine ⟨trivial, ?_⟩; gi_at_call 97; refine (back_in Fence.wide _ trivial rfl _ _ _ _).mono ?_; rintro e w' ⟨rfl, rfl⟩)
  have bF := ((Boxed.new w 89 (.func (.func g) #[] lb)).alloc (.cells #[.int .i64 0] 3)).alloc (.cells #[.slice A m c] 22)
  have bR := (Boxed.new (w.alloc (.cells #[.func (.func g) #[] lb] 89)) 3 (.int .i64 0)).alloc (.cells #[.slice A m c] 22)
  have bS := Boxed.new ((w.alloc (.cells #[.func (.func g) #[] lb] 89)).alloc (.cells #[.int .i64 0] 3)) 22 (.slice A m c)
  simp only [World.size_alloc] at bR bS
  have hB0 : Below w.heap.size w (((w.alloc (.cells #[.func (.func g) #[] lb] 89)).alloc (.cells #[.int .i64 0] 3)).alloc (.cells #[.slice A m c] 22)) := (((Below.refl _ w).alloc (Nat.le_refl _) _).alloc (by simp) _).alloc (by simp; omega) _
  have hsz : (((w.alloc (.cells #[.func (.func g) #[] lb] 89)).alloc (.cells #[.int .i64 0] 3)).alloc (.cells #[.slice A m c] 22)).heap.size = w.heap.size + 3 := by simp
  obtain ⟨W0, hW0⟩ : ∃ W0, ((w.alloc (.cells #[.func (.func g) #[] lb] 89)).alloc (.cells #[.int .i64 0] 3)).alloc (.cells #[.slice A m c] 22) = W0 := ⟨_, rfl⟩
  rw [hW0] at bF bR bS hB0 hsz ⊢
  clear hW0
  have hKV0 : KVs W0 (w.heap.size + 3) A L := fun i q hq => by
    obtain ⟨ad, e, hlt, hk⟩ := (HKV.out.below hB0) i q hq
    exact ⟨ad, e, by omega, hk.more (by omega)⟩
  refine wpIn_rangeFunc_ownH rfl (by omega) (gf := 121) (lb := #[.pointer (some ⟨w.heap.size + 1 + 1, 0, none⟩)]) rfl trivial (enters_of Tryz.func121 (by kernel_rfl) rfl)
    (back_stops Fence.wide _ trivial rfl (by omega) (w.heap.size + 1 + 1) (w.heap.size + 3) A m c L HML.out h100 (by omega) W0 (by omega) bS.cell hKV0) belowK_t (belowK_b (by omega)) (Below.refl _ _) (fun _ => rfl)
    (fun pre W => ((∀ x ∈ pre, p x.2.k = false) ∧ Boxed W w.heap.size 89 (.func (.func g) #[] lb) ∧ Boxed W (w.heap.size + 1) 3 (.int .i64 0) ∧ w.heap.size + 3 ≤ W.heap.size) ∧ Below w.heap.size w W)
    (fun c pre W => (c = .ret ∧ ∃ (ini : List (Nat × KV)) (z : Nat × KV), pre = ini ++ [z] ∧ (∀ x ∈ ini, p x.2.k = false) ∧ p z.2.k = true ∧ Boxed W (w.heap.size + 1) 3 (.int .i64 (z.1 : Int))) ∧ Below w.heap.size w W)
    (OwnFrom.and (Own.from (fun s A B row hs hg hr => ⟨hs.1, hs.2.1.kept hg (fun e => by obtain ⟨o, h1, h2⟩ := hr _ e.symm; rw [show A.heap[w.heap.size]? = _ from hs.2.1] at h1; cases h1; cases h2), hs.2.2.1.kept hg (fun e => by obtain ⟨o, h1, h2⟩ := hr _ e.symm; rw [show A.heap[w.heap.size + 1]? = _ from hs.2.2.1] at h1; cases h1; cases h2), Nat.le_trans hs.2.2.2 hg.size⟩) _) (ownFrom_below (Nat.le_refl _) (by omega)))
    (fun c => OwnFrom.and (Own.from (fun s A B row hs hg hr => by
      obtain ⟨hc, ini, z, e1, e2, e3, e4⟩ := hs
      exact ⟨hc, ini, z, e1, e2, e3, e4.kept hg (fun e => by obtain ⟨o, h1, h2⟩ := hr _ e.symm; rw [show A.heap[w.heap.size + 1]? = _ from e4] at h1; cases h1; cases h2)⟩) _) (ownFrom_below (Nat.le_refl _) (by omega)))
    ⟨⟨by simp, bF, bR, by omega⟩, hB0⟩
    (fun x a' W => ∃ Bx, w.heap.size + 2 < Bx ∧ W.heap[Bx]? = some (.cells #[.int .i64 x.2.k.id, .slice x.2.S x.2.k.sec.length x.2.c, .int .i64 x.2.k.frm, .int .i64 x.2.k.til] 48 (0, 0)) ∧ a' = { tmps := #[.slice A m c, .func (.func g) #[] lb, undef, .pointer (some ⟨w.heap.size, 0, none⟩), .pointer (some ⟨w.heap.size + 1, 0, none⟩), .int .i64 (x.1 : Int), .pointer (some ⟨Bx, 0, none⟩), .slice A m c, .func (.func 121) #[] #[.pointer (some ⟨w.heap.size + 1 + 1, 0, none⟩)], .int .i64 (x.1 : Int), .agg #[.int .i64 x.2.k.id, .slice x.2.S x.2.k.sec.length x.2.c, .int .i64 x.2.k.frm, .int .i64 x.2.k.til], undef, undef, undef, undef], defers := [] })
    ?hax ?assign ?body ?done ?stop
  case hax =>
    intro x a' s X Y row hs hg hr
    obtain ⟨Bx, h1, h2, h3⟩ := hs
    refine ⟨Bx, h1, (hg.block Bx (Array.getElem?_eq_some_iff.1 h2).1 (fun e => ?_)).trans h2, h3⟩
    obtain ⟨o, h4, h5⟩ := (hr Bx e.symm).2
    rw [h2] at h4
    cases h4
    cases h5
  case assign =>
    rintro l pre x W K ⟨⟨hall, hF, hR, h3⟩, hB⟩ hK
    have HK := Lib.hid hK
    clear hK
    dsimp only [encB]
    gi_wp2
    exact HK.out _ _ ((KeepsOthers.alloc _ _).from _) ((Below.refl _ W).alloc h3 _) ⟨⟨hall, hF.alloc _, hR.alloc _, by simp; omega⟩, hB.alloc (by omega) _⟩ ⟨W.heap.size, by omega, World.alloc_heap_new W _, rfl⟩
  case body =>
    rintro l pre x a' W hl ⟨r, hr⟩ ⟨⟨hall, hF, hR, h3⟩, hB⟩ ⟨Bx, hBx, hX, rfl⟩ hlt
    have hX0 : W.cell? ⟨Bx, 0, none⟩ = some (.int .i64 x.2.k.id) := by rw [cell_of_row W Bx 0 _ _ (0, 0) hX]; rfl
    have hX1 : W.cell? ⟨Bx, 1, none⟩ = some (.slice x.2.S x.2.k.sec.length x.2.c) := by rw [cell_of_row W Bx 1 _ _ (0, 0) hX]; rfl
    have hX2 : W.cell? ⟨Bx, 2, none⟩ = some (.int .i64 x.2.k.frm) := by rw [cell_of_row W Bx 2 _ _ (0, 0) hX]; rfl
    have hX3 : W.cell? ⟨Bx, 3, none⟩ = some (.int .i64 x.2.k.til) := by rw [cell_of_row W Bx 3 _ _ (0, 0) hX]; rfl
    have hcF := hF.cell
    have hfit := HP.out W x.2 hB
    have HF := Lib.hid hF
    have HR := Lib.hid hR
    have HALL := Lib.hid hall
    clear hX hF hR hall
    cases hpx : p x.2.k with
    | true =>
      rw [hpx] at hfit
      gi_wp2_with (refine ⟨trivial, ?_⟩; refine (CallsIn.inRound l (callsIn_wide.2 hfit)).mono ?_; rintro e w' ⟨rfl, hb⟩; have hR1 : Boxed w' (w.heap.size + 1) 3 (.int .i64 0) := (hb.block _ HR.out.lt).trans HR.out; have hc1 := hR1.cell; have hf1 := hR1.frozen; have HR1 := Lib.hid hR1; have HB1 := Lib.hid hb; clear hR1 hb)
      exact ⟨(keeps_call HB1.out).trans ((KeepsOthers.setCell _ _ _).from _), ⟨rfl, pre, x, rfl, HALL.out, hpx, HR1.out.set _⟩, (hB.trans (HB1.out.mono hB.size)).setCell (p := ⟨w.heap.size + 1, 0, none⟩) (by simp) _⟩
    | false =>
      rw [hpx] at hfit
      gi_wp2_with (refine ⟨trivial, ?_⟩; refine (CallsIn.inRound l (callsIn_wide.2 hfit)).mono ?_; rintro e w' ⟨rfl, hb⟩; have HB1 := Lib.hid hb; clear hb)
      exact ⟨keeps_call HB1.out, HB1.out.mono h3, ⟨fun y hy => (List.mem_append.1 hy).elim (HALL.out y) (fun e => by simp at e; subst e; exact hpx), (HB1.out.block _ HF.out.lt).trans HF.out, (HB1.out.block _ HR.out.lt).trans HR.out, Nat.le_trans h3 HB1.out.size⟩, hB.trans (HB1.out.mono hB.size)⟩
  case done =>
    rintro D ys W hD rfl ⟨⟨hall, hF, hR, h3⟩, hB⟩ hK
    have hcr := hR.cell
    have hfr := hR.frozen
    have HALL := Lib.hid hall
    clear hall
    gi_wp2
    have hK' := (KeepsOthers.setCell W ⟨w.heap.size + 1, 0, none⟩ (.int .i64 (-1))).same D _ hK rfl
    refine ⟨by simp, .inl ⟨_, _, rfl, run_takeDeferred hK', ?_⟩⟩
    have hc5 := cell_kept (World.cell?_setCell_same' W ⟨w.heap.size + 1, 0, none⟩ (.int .i64 (-1)) (by rw [hcr]; rfl)) (grownBy_putObj' _ D (.deferred none)) (fun r e => by cases e; exact ⟨_, hK', rfl⟩)
    have hix : lastIx (fun j => p (l.getD j K0)) m = -1 := lastIx_none m (fun j hj => by
      have := HML.out
      exact upto_none HL.out m (by omega) HALL.out j (by omega) (by omega))
    refine ⟨.int .i64 (-1), ?_, by rw [hix], (hB.setCell (p := ⟨w.heap.size + 1, 0, none⟩) (by simp) _).trans (belowK_b (w := w) (Nat.le_refl _) _ D _ _ (by omega) hK' rfl rfl)⟩
    simp [results, Tryz.results58, go_sem, hc5]
  case stop =>
    rintro D cc pre W hD ⟨k, hk, rfl⟩ ⟨⟨rfl, ini, z, e1, e2, e3, hR⟩, hB⟩ hK
    have hcr := hR.cell
    gi_wp2
    refine ⟨by simp, .inl ⟨_, _, rfl, run_takeDeferred hK, ?_⟩⟩
    have hc5 := cell_kept hcr (grownBy_putObj' _ D (.deferred none)) (fun r e => by cases e; exact ⟨_, hK, rfl⟩)
    obtain ⟨k', rfl⟩ : ∃ k', k = k' + 1 := by
      cases k with
      | zero => simp [upto] at e1
      | succ k' => exact ⟨k', rfl⟩
    rw [upto_succ] at e1
    obtain ⟨rfl, e5⟩ := List.append_inj' e1 rfl
    obtain rfl : back L k' = z := by simpa using e5
    have hml := HML.out
    have hix : lastIx (fun j => p (l.getD j K0)) m = ((L.length - 1 - k' : Nat) : Int) := lastIx_at m _ (by omega) (by
      have := e3
      rw [back] at this
      show p (l.getD (L.length - 1 - k') K0) = true
      rw [getD_k HL.out]
      exact this) (fun j h1 h2 => upto_none HL.out k' (by omega) e2 j (by omega) (by omega))
    refine ⟨.int .i64 ((L.length - 1 - k' : Nat) : Int), ?_, by rw [hix], hB.trans (belowK_b (w := w) (Nat.le_refl _) W D _ _ (by omega) hK rfl rfl)⟩
    have hc6 := hc5
    simp only [back] at hc6
    simp [results, Tryz.results58, go_sem, hc6]
end Go.Proofs.YtcnglbliidjnfaaGreatDoor
end
section
namespace Go.Proofs.YtcnglbliidjnfaaGreatDoor
set_option linter.unusedVariables false
open Go.ChangeShapes Go.WideShapes Go.ChangeAt Go.RowKit
theorem find_fits (id:Int) (b:Nat) (w:World) (h:w.heap[b]?=some (.cells #[.int .i64 id] 3 (0,0))):Fits 69 #[.pointer (some ⟨b,0,none⟩)] (fun q=>q.id==id) w:=by
 intro W q hB
 have hb:W.heap[b]?=some (.cells #[.int .i64 id] 3 (0,0)):=(hB.block _ (Array.getElem?_eq_some_iff.1 h).1).trans h
 have hc:W.cell? ⟨b,0,none⟩=some (.int .i64 id):=by rw[cell_of_row W b 0 _ _ (0,0) hb];rfl
 have hlt:=(Array.getElem?_eq_some_iff.1 hb).1
 clear h hB hb
 show Calls _ _ #[.agg #[.int .i64 q.k.id, .slice q.S q.k.sec.length q.c, .int .i64 q.k.frm, .int .i64 q.k.til], .pointer (some ⟨b,0,none⟩)] W _
 go_enter Tryz.func69, Tryz.ntmps69
 go_wp2
 go_ret
 exact⟨rfl,below_lit W _ _⟩
theorem add_fits (kv:KV) (b:Nat) (w:World) (h:w.heap[b]?=some (.cells #[.int .i64 kv.k.id, .slice kv.S kv.k.sec.length kv.c, .int .i64 kv.k.frm, .int .i64 kv.k.til] 48 (0,0))):Fits 59 #[.pointer (some ⟨b,0,none⟩)] (fun q=>decide (q.id≤kv.k.id)) w:=by
 intro W q hB
 have hb:W.heap[b]?=some (.cells #[.int .i64 kv.k.id, .slice kv.S kv.k.sec.length kv.c, .int .i64 kv.k.frm, .int .i64 kv.k.til] 48 (0,0)):=(hB.block _ (Array.getElem?_eq_some_iff.1 h).1).trans h
 have hc:W.cell? ⟨b,0,none⟩=some (.int .i64 kv.k.id):=by rw[cell_of_row W b 0 _ _ (0,0) hb];rfl
 have hlt:=(Array.getElem?_eq_some_iff.1 hb).1
 clear h hB hb
 show Calls _ _ #[.agg #[.int .i64 q.k.id, .slice q.S q.k.sec.length q.c, .int .i64 q.k.frm, .int .i64 q.k.til], .pointer (some ⟨b,0,none⟩)] W _
 go_enter Tryz.func59, Tryz.ntmps59
 go_wp2
 go_ret
 exact⟨rfl,below_lit W _ _⟩
end Go.Proofs.YtcnglbliidjnfaaGreatDoor
end
section
namespace Go.Proofs.YtcnglbliidjnfaaGreatDoor
set_option linter.unusedVariables false
open Go.ChangeShapes Go.WideShapes Go.ChangeAt Go.RowKit
theorem rd_at {w:World} {B:Nat} {ad:Addr} {xs:List Value} (h:Rd w B (some ad) xs): ∀j u,xs[j]?=some u→w.cell? (ad.add j)=some u:=by
 intro j u hu
 obtain⟨ad',e,_,hc⟩:=h j u hu
 cases e
 exact hc
theorem rbs_of_own {w:World} {base n:Nat} {v:Value} {s:List Nat} (h:w.ownsRow base 5 1 v n (U8 s)) (hs: ∀x∈s,x<256): ∃A c,v= .slice A n c∧Bs w w.heap.size s A c:=by
 have hn:s.length=n:=by have:=h.1;simpa[U8]using this
 rcases h.2 with⟨rfl,h0⟩|⟨g,cap,cur,rfl,_,_,h2,h3,_⟩
 ·subst h0
  have:s=[]:=List.eq_nil_of_length_eq_zero hn
  subst this
  exact⟨none,0,rfl,⟨by intro k u hu;simp[U8]at hu,fun _=>rfl,by simp,by omega,by simp⟩⟩
 ·unfold maxLen at h3
  exact⟨_,cap,rfl,⟨Rd.of_own h,by simp,by omega,h3,hs⟩⟩
theorem infoBytes:(Tryz.prog.info? 30).map (·.size)=some 1:=by kernel_rfl
theorem step_append_full {P:Program} (w:World) {ops:Array Oper} {o:Oper} {a:Act} {K:Act→World→Prop} {Q:Exit→Act→World→Prop} {E:Prop} (hw:Region.wanted o (yielded ops a.tmps)=true) (s x:Operand) (t:TypeId)
  (ho:o.op= .call { callee:= .builtin .append,args:= #[s,x],argTypes:= #[t,t] })
  (e:TypeId) (i:TypeInfo) (z:Value) (size bytes:Nat) (h1:P.underlying t=some (.slice e)) (h2:P.info? e=some i) (h3:i.zero=some z) (h4:i.size=size) (h5:i.bytes=bytes) (h6:z.cells.size=size) (h7:0<size)
  (ao:Option Addr) (n cap:Nat) (olds:List Value) (hs:a.eval s= .slice ao n cap) (hnone:ao=none→n=0∧cap=0) (hlo:olds.length=n*size) (holds: ∀b,ao=some b→ ∀j u,olds[j]?=some u→w.cell? (b.add j)=some u)
  (ad:Addr) (m c:Nat) (news:List Value) (hx:a.eval x= .slice (some ad) m c) (hn:news.length=m*size) (hc: ∀j u,news[j]?=some u→w.cell? (ad.add j)=some u) (h1c: ∀u∈news,u.oneCell'=true)
  (hfull:cap<n+m) (b1:n+m≤maxLen) (b2:(n+m)*bytes≤140737488355328)
  (hK: ∀v' w',w'.ownsRow w.heap.size e size v' (n+m) (olds++news)→w.grownBy w' none→K (a.put o.dst v') w'):
  if Region.wanted o (yielded ops a.tmps)=true then Oper.wp P o a w K Q else E:=by
 rw[if_pos hw]
 cases ao with
 |some b=>
  obtain⟨v',w',hrun,r1,r2⟩:=run_append_arg_grows (P:=P) w t o.type e i z size bytes h1 h2 h3 h4 h5 h6 h7 b n cap olds hlo (holds b rfl) ad m c news hn hc hfull b1 b2
  unfold Oper.wp
  simp[execOp,ho,resolve,invoke,builtin,hs,hx,hrun,Result.andThen]
  exact hK v' w' r1 r2
 |none=>
  obtain⟨rfl,rfl⟩:=hnone rfl
  obtain rfl:olds=[]:=List.eq_nil_of_length_eq_zero (by simpa using hlo)
  obtain⟨v',w',hrun,r1,r2,_⟩:=run_append_own (P:=P) w w.heap.size t o.type e i z size bytes h1 h2 h3 h4 h5 h6 h7 (.slice none 0 0) 0 [] (World.ownsRow_nil w _ e size) ad m c news hn hc h1c b1 b2 (Nat.le_refl _)
  unfold Oper.wp
  simp[execOp,ho,resolve,invoke,builtin,hs,hx,hrun,Result.andThen]
  exact hK v' w' r1 r2
set_option maxRecDepth 20000 in
theorem apart_any (q:KV) (n:Nat) (hn:n=q.k.sec.length) (w:World) (h:Bs w w.heap.size q.k.sec q.S q.c) (h0:1≤n) (h1:n≤64):
  Calls Tryz.prog 70 #[.agg #[.int .i64 q.k.id, .slice q.S n q.c, .int .i64 q.k.frm, .int .i64 q.k.til]] w fun e w'=> ∃S c,e= .returned (.agg #[.int .i64 q.k.id, .slice S n c, .int .i64 q.k.frm, .int .i64 q.k.til])∧Bs w' w'.heap.size q.k.sec S c∧(∀ad,S=some ad→w.heap.size≤ad.block)∧Below w.heap.size w w':=by
 obtain⟨i0,hi,hz0,hz1,hz2⟩:=info_parts infoU8
 obtain⟨ad,hS⟩: ∃ad,q.S=some ad:=by
  have:0<(U8 q.k.sec).length:=by simp[U8];omega
  obtain⟨ad,e,_⟩:=h.rd 0 _ (List.getElem?_eq_getElem this)
  exact⟨ad,e⟩
 have HB:=Lib.hid h
 have HN:=Lib.hid hn
 have hcap:n≤q.c:=by have:=h.len;omega
 have hcap2:=h.cap
 obtain⟨⟨kid,ksec,kf,kt⟩,S,c⟩:=q
 simp only at hS hcap hcap2 HB HN
 subst hS
 have HUL:=Lib.hid (show(U8 ksec).length=n by simp[U8,HN.out])
 have HRD:=Lib.hid (fun(w':World) (hb:Below w.heap.size w w')=>HB.out.rd.next hb)
 have hn1:0+n≤maxLen:=by unfold maxLen;omega
 have hn2:(0+n)*1≤140737488355328:=by omega
 clear h hn
 go_enter Tryz.func70, Tryz.ntmps70
 go_wp2
 obtain⟨wb,hwb⟩: ∃wb,wb=(w.alloc (.cells #[.int .i64 kid, .slice (some ad) n c, .int .i64 kf, .int .i64 kt] 48)).alloc (.cells #[.int .i64 0, .slice none 0 0, .int .i64 0, .int .i64 0] 48):=⟨_,rfl⟩
 have hb0:wb.heap[w.heap.size]?=some (.cells #[.int .i64 kid, .slice (some ad) n c, .int .i64 kf, .int .i64 kt] 48 (0,0)):=by
  rw[hwb];exact(Below.heap_alloc _ _ _ (by simp)).trans (heap_alloc_new w _)
 have hb1:wb.heap[w.heap.size+1]?=some (.cells #[.int .i64 0, .slice none 0 0, .int .i64 0, .int .i64 0] 48 (0,0)):=by
  rw[hwb];exact heap_new2 w _ _
 have hbel:Below w.heap.size w wb:=by
  rw[hwb];exact((Below.refl _ w).alloc (Nat.le_refl _) _).alloc (by simp) _
 have hsz:wb.heap.size=w.heap.size+2:=by rw[hwb];simp
 rw[←hwb]
 clear hwb
 have hc1:wb.drew.cell? ⟨w.heap.size,1,none⟩=some (.slice (some ad) n c):=by change wb.cell? _=_;rw[cell_of_row wb _ 1 _ _ (0,0) hb0];rfl
 refine wp_region_still_tail 5 (by kernel_rfl) (by kernel_rfl) ?_
 simp only[List.take_succ_cons,List.take_zero,List.drop_succ_cons,List.drop_zero]
 repeat still_step
 refine wpStill_nil ?_
 change wpList _ _ _ _ _ wb.drew
 go_wp2_with (at_builtin;refine wpList_append_grows _ rfl (.tmp 5) (.tmp 7) 30 rfl 5 i0 (.int .u8 0) 1 1 Tryz.underlying30 hi hz0 hz1 hz2 rfl (by omega) (some ad) 0 0 [] rfl (fun h=>by cases h) rfl (fun b hb j u hu=>by simp at hu) ad n c (U8 ksec) rfl (by rw[HUL.out];omega) (rd_at (HRD.out _ hbel.drew)) (U8_one _) (by omega) hn1 hn2 ?_)
 intro v1 w1 hown1 hg1
 have hown2:w1.ownsRow wb.heap.size 5 1 v1 n (U8 ksec):=by rw[hsz];simpa using hown1
 obtain⟨A',c',e,hbs⟩:=rbs_of_own hown2 HB.out.lt
 subst e
 have HOW:=Lib.hid hown2
 have hbw:Below wb.heap.size wb w1:=(Below.refl _ wb).drew.grown hg1 (Nat.le_refl _) (fun k e=>by cases e)
 have h10:w1.heap[w.heap.size]?=some (.cells #[.int .i64 kid, .slice (some ad) n c, .int .i64 kf, .int .i64 kt] 48 (0,0)):=(hbw.block _ (by omega)).trans hb0
 have h11:w1.heap[w.heap.size+1]?=some (.cells #[.int .i64 0, .slice none 0 0, .int .i64 0, .int .i64 0] 48 (0,0)):=(hbw.block _ (by omega)).trans hb1
 have HBW:=Lib.hid (hbel.trans (hbw.mono (by omega)))
 have HSZ:=Lib.hid (show w.heap.size+2≤w1.heap.size by have:=hbw.size;omega)
 clear hown1 hown2 hg1 hbs hbw hb0 hb1 hbel hc1
 have hc1:w1.cell? ⟨w.heap.size,1,none⟩=some (.slice (some ad) n c):=by rw[cell_of_row w1 _ 1 _ _ (0,0) h10];rfl
 have hf1:w1.frozen? ⟨w.heap.size,1,none⟩=false:=frozen_of_row w1 _ 1 _ _ h10
 have hc1s:(w1.cell? ⟨w.heap.size,1,none⟩).isSome=true:=by rw[hc1];rfl
 have H10:=Lib.hid h10
 have H11:=Lib.hid h11
 clear h10 h11 hc1
 go_wp2_with ((with_reducible refine at_store 9 ?_);refine wpList_store_cell (op:=⟨none, .store 30 (.tmp 9) (.tmp 8),_,_,_,_⟩) rfl 30 (.tmp 9) (.tmp 8) rfl w.heap.size 1 (.slice A' n c') rfl rfl rfl hc1s hf1 infoBytes ?_)
 intro w2 hw2
 have h20:w2.heap[w.heap.size]?=some (.cells #[.int .i64 kid, .slice A' n c', .int .i64 kf, .int .i64 kt] 48 (0,0)):=by rw[hw2.out];exact heap_setCell_same w1 _ 1 _ _ _ H10.out
 have h21:w2.heap[w.heap.size+1]?=some (.cells #[.int .i64 0, .slice none 0 0, .int .i64 0, .int .i64 0] 48 (0,0)):=by rw[hw2.out];exact(heap_setCell_other w1 _ _ _ (by simp)).trans H11.out
 have hb2:Below w.heap.size w1 w2:=by rw[hw2.out];exact(Below.refl _ _).setCell (p:=⟨w.heap.size,1,none⟩) (Nat.le_refl _) _
 have hd0:w2.cell? ⟨w.heap.size,0,none⟩=some (.int .i64 kid):=by rw[cell_of_row w2 _ 0 _ _ (0,0) h20];rfl
 have hd1:w2.cell? ⟨w.heap.size,1,none⟩=some (.slice A' n c'):=by rw[cell_of_row w2 _ 1 _ _ (0,0) h20];rfl
 have hd2:w2.cell? ⟨w.heap.size,2,none⟩=some (.int .i64 kf):=by rw[cell_of_row w2 _ 2 _ _ (0,0) h20];rfl
 have hd3:w2.cell? ⟨w.heap.size,3,none⟩=some (.int .i64 kt):=by rw[cell_of_row w2 _ 3 _ _ (0,0) h20];rfl
 have H21:=Lib.hid h21
 have HB2:=Lib.hid (HBW.out.trans hb2)
 clear h20 h21 hb2 hc1s hf1
 go_wp2_with ((with_reducible refine at_store 2 ?_);refine wpList_store_named (o:=⟨none, .store 48 (.tmp 2) (.tmp 10),_,_,_,_⟩) rfl 48 (.tmp 2) (.tmp 10) rfl (w.heap.size+1) #[.int .i64 kid, .slice A' n c', .int .i64 kf, .int .i64 kt] rfl rfl 48 #[.int .i64 0, .slice none 0 0, .int .i64 0, .int .i64 0] H21.out infoKey rfl (kc_one _ _ _ _ _ _) ?_;intro w5 hw5)
 have hr5:=setRow_heap w2 (w.heap.size+1) #[.int .i64 0, .slice none 0 0, .int .i64 0, .int .i64 0] #[.int .i64 kid, .slice A' n c', .int .i64 kf, .int .i64 kt] 48 (0,0) H21.out
 rw[←hw5.out]at hr5
 have hge: ∀b,b<w.heap.size+2→(Value.slice A' n c').ownBlock=none∨(Value.slice A' n c').ownBlock≠some b:=fun b hb=>by
  cases e:(Value.slice A' n c').ownBlock with
  |none=>exact .inl rfl
  |some g=>exact .inr (fun e2=>by cases e2;have:=own_ge HOW.out e;omega)
 have how2:w2.ownsRow wb.heap.size 5 1 (.slice A' n c') n (U8 ksec):=HOW.out.kept (by rw[hw2.out];exact grown_cell _ _ _ _) (hge _ (by omega))
 have how5:w5.ownsRow wb.heap.size 5 1 (.slice A' n c') n (U8 ksec):=how2.kept (by rw[hw5.out];exact grown_row _ _ _) (hge _ (by omega))
 obtain⟨A5,c5,e5,hbs5⟩:=rbs_of_own how5 HB.out.lt
 cases e5
 have hb5:Below w.heap.size w2 w5:=below_row hw5.out (by omega)
 refine bodyPost_ret (results_row Tryz.results70 _ w5 (w.heap.size+1) 48 #[.int .i64 kid, .slice A' n c', .int .i64 kf, .int .i64 kt] (0,0) _ rfl hr5 Tryz.underlying48 rfl infoKey) rfl ⟨A',c',rfl,hbs5,fun ad' e=>by subst e;have:=own_ge HOW.out (g:=ad'.block) rfl;omega,HB2.out.trans hb5⟩
end Go.Proofs.YtcnglbliidjnfaaGreatDoor
end
section
namespace Go.Proofs.YtcnglbliidjnfaaGreatDoor
set_option linter.unusedVariables false
open Go.ChangeShapes Go.WideShapes Go.ChangeAt Go.RowKit
theorem ring_lt {l:List K} (h:isR l=true) {i j:Nat} (hij:i<j) (hj:j<l.length):(l.getD i K0).id<(l.getD j K0).id:=by
 have hp:=((isR_iff l).1 h).2
 rw[List.pairwise_iff_getElem]at hp
 have:=hp i j (by omega) hj hij
 rw[List.getD_eq_getElem?_getD,List.getD_eq_getElem?_getD,List.getElem?_eq_getElem hj,List.getElem?_eq_getElem (show i<l.length by omega)]
 exact this
theorem ring_right {l:List K} (h:isR l=true) {k:K} (hk:k∈l):1≤k.sec.length∧k.sec.length≤64:=by
 have:=((isR_iff l).1 h).1 k hk
 have:=(rightN_iff _ _ _ _).1 this
 exact⟨this.2.2.1,this.2.2.2.1⟩
theorem getD_mem {l:List K} {k:Nat} (h:k<l.length):l.getD k K0∈l:=by
 rw[List.getD_eq_getElem?_getD,List.getElem?_eq_getElem h]
 exact List.getElem_mem h
theorem find_last {l:List K} {id:Int} (hr:isR l=true) {k:Nat} (hk:k<l.length) (hp:((l.getD k K0).id==id)=true):l.find? (fun q=>q.id==id)=some (l.getD k K0):=
 find_at k hk (fun j hj=>by
  have:=ring_lt hr hj hk
  have e:(l.getD k K0).id=id:=by simpa using hp
  show((l.getD j K0).id==id)=false
  rw[beq_eq_false_iff_ne];omega) hp
theorem bs_setRow {w w':World} {B g:Nat} {cs:Array Value} {s:List Nat} {A:Option Addr} {c:Nat} (h:Bs w B s A c) (hg: ∀ad,A=some ad→ad.block≠g) (hw:w'=w.setRow g cs):Bs w' B s A c:=by
 subst hw
 refine⟨fun k u hu=> ?_,h.nil,h.len,h.cap,h.lt⟩
 obtain⟨ad,e,hlt,hc⟩:=h.rd k u hu
 refine⟨ad,e,hlt, ?_⟩
 rw[←hc]
 have:(w.setRow g cs).heap[(ad.add k).block]?=w.heap[(ad.add k).block]?:=setRow_other w g _ cs (by rw[add_block];exact hg ad e)
 simp only[World.cell?,this]
set_option maxRecDepth 20000 in
theorem pfind_any (l:List K) (n:Nat) (hn:n=l.length) (id:Int) (A:Option Addr) (c:Nat) (w:World) (hA:Ks w w.heap.size A l) (h1:n≤9223372036854775807)
  (r:K) (E:Int) (hr:r=findK l id) (hE:E=findE l id):
  Calls Tryz.prog 26 #[.slice A n c, .int .i64 id] w fun e w'=> ∃S cc,e= .returned (.tuple #[.agg #[.int .i64 r.id, .slice S r.sec.length cc, .int .i64 r.frm, .int .i64 r.til], .int .i64 E])∧Bs w' w'.heap.size r.sec S cc∧Below w.heap.size w w':=by
 have HN:=Lib.hid hn
 have HA:=Lib.hid hA
 have HR:=Lib.hid hr
 have HE:=Lib.hid hE
 clear hn hA hr hE
 obtain⟨w0,hw0⟩: ∃w0,w0=(w.alloc (.cells #[.int .i64 id] 3)).alloc (.cells #[.int .i64 0, .slice none 0 0, .int .i64 0, .int .i64 0] 48):=⟨_,rfl⟩
 have hb0:Below w.heap.size w w0:=by rw[hw0];exact((Below.refl _ w).alloc (Nat.le_refl _) _).alloc (by simp) _
 have hi0:w0.heap[w.heap.size]?=some (.cells #[.int .i64 id] 3 (0,0)):=by rw[hw0];exact(Below.heap_alloc _ _ _ (by simp)).trans (heap_alloc_new w _)
 have hx0:w0.heap[w.heap.size+1]?=some (.cells #[.int .i64 0, .slice none 0 0, .int .i64 0, .int .i64 0] 48 (0,0)):=by rw[hw0];exact heap_new2 w _ _
 have hs0:w0.heap.size=w.heap.size+2:=by rw[hw0];simp
 have HW0:=Lib.hid hw0
 have HA0:=Lib.hid (HA.out.next hb0)
 clear hw0
 cases his:isR l with
 |false=>
  have hr:r=K0:=by rw[HR.out,findK,his];rfl
  have hE:E=1:=by rw[HE.out,findE,his];rfl
  subst hr hE
  go_enter Tryz.func26, Tryz.ntmps26
  go_wp2_with fail
  rw[←HW0.out]
  refine(pis_named l n HN.out false his A c w0 HA0.out h1).mono ?_
  rintro e w1 ⟨rfl,hb1⟩
  have HBX:=Lib.hid ((hb1.block _ (by omega)).trans hx0)
  have HB1:=Lib.hid (hb0.trans (hb1.mono hb0.size))
  clear hb1 hx0 hi0 hb0 hs0
  go_wp2_with ((with_reducible refine at_store 4 ?_);refine wpList_store_named (o:=⟨none, .store 48 (.tmp 4) (.tmp 10),_,_,_,_⟩) rfl 48 (.tmp 4) (.tmp 10) rfl (w.heap.size+1) #[.int .i64 0, .slice none 0 0, .int .i64 0, .int .i64 0] rfl rfl 48 #[.int .i64 0, .slice none 0 0, .int .i64 0, .int .i64 0] HBX.out infoKey rfl (kc_one _ _ _ _ _ _) ?_;intro w5 hw5)
  have hr5:=setRow_heap w1 (w.heap.size+1) #[.int .i64 0, .slice none 0 0, .int .i64 0, .int .i64 0] #[.int .i64 0, .slice none 0 0, .int .i64 0, .int .i64 0] 48 (0,0) HBX.out
  rw[←hw5.out]at hr5
  have hb5:=below_row hw5.out (show w.heap.size≤w.heap.size+1 by omega)
  refine bodyPost_ret (results_row_tmp Tryz.results26 _ w5 (w.heap.size+1) 48 #[.int .i64 0, .slice none 0 0, .int .i64 0, .int .i64 0] (0,0) _ rfl hr5 Tryz.underlying48 rfl infoKey) rfl ⟨none,0,rfl,Bs.empty _ _,HB1.out.trans hb5⟩
 |true=>
  have h100:n≤100:=by rw[HN.out];exact ring_len his
  have HRING:=Lib.hid his
  have HE21:=Lib.hid (enters_of Tryz.func69 (by kernel_rfl) rfl)
  go_enter Tryz.func26, Tryz.ntmps26
  go_wp2_with fail
  rw[←HW0.out]
  refine(pis_named l n HN.out true his A c w0 HA0.out h1).mono ?_
  rintro e w1 ⟨rfl,hb1⟩
  have hx1:=(hb1.block _ (show w.heap.size+1<w0.heap.size by omega)).trans hx0
  have hi1:=(hb1.block _ (show w.heap.size<w0.heap.size by omega)).trans hi0
  have hB1:=hb0.trans (hb1.mono hb0.size)
  have hs1:w.heap.size+2≤w1.heap.size:=by have:=hb1.size;omega
  have HA1:=Lib.hid (HA.out.next hB1)
  have HFIT:=Lib.hid (find_fits id w.heap.size w1 hi1)
  clear hb1 hx0 hi0 hb0 hs0 hi1 his
  rcases lastIx_cases (fun j=>(fun q:K=>q.id==id) (l.getD j K0)) n with⟨hlx,hall⟩|⟨k,hk,hlx,hpk,hall⟩
  ·have hf:=find_none (p:=fun q:K=>q.id==id) (by rw[←HN.out];exact hall)
   have hr:r=K0:=by rw[HR.out,findK,HRING.out,hf];rfl
   have hE:E=10:=by rw[HE.out,findE,HRING.out,hf];rfl
   subst hr hE
   have HLX:=Lib.hid hlx
   clear hf hall hlx
   go_wp2_with fail
   refine(last_any (fun q:K=>q.id==id) l n HN.out (by omega) 69 #[.pointer (some ⟨w.heap.size,0,none⟩)] HE21.out A c w1 HA1.out HFIT.out).mono ?_
   rintro e w2 ⟨rfl,hb2⟩
   rw[HLX.out]
   have HBX:=Lib.hid ((hb2.block _ (show w.heap.size+1<w1.heap.size by omega)).trans hx1)
   have HB1:=Lib.hid (hB1.trans (hb2.mono hB1.size))
   clear hb2 hx1 hB1
   go_wp2_with ((with_reducible refine at_store 4 ?_);refine wpList_store_named (o:=⟨none, .store 48 (.tmp 4) (.tmp 16),_,_,_,_⟩) rfl 48 (.tmp 4) (.tmp 16) rfl (w.heap.size+1) #[.int .i64 0, .slice none 0 0, .int .i64 0, .int .i64 0] rfl rfl 48 #[.int .i64 0, .slice none 0 0, .int .i64 0, .int .i64 0] HBX.out infoKey rfl (kc_one _ _ _ _ _ _) ?_;intro w5 hw5)
   have hr5:=setRow_heap w2 (w.heap.size+1) #[.int .i64 0, .slice none 0 0, .int .i64 0, .int .i64 0] #[.int .i64 0, .slice none 0 0, .int .i64 0, .int .i64 0] 48 (0,0) HBX.out
   rw[←hw5.out]at hr5
   have hb5:=below_row hw5.out (show w.heap.size≤w.heap.size+1 by omega)
   refine bodyPost_ret (results_row_tmp Tryz.results26 _ w5 (w.heap.size+1) 48 #[.int .i64 0, .slice none 0 0, .int .i64 0, .int .i64 0] (0,0) _ rfl hr5 Tryz.underlying48 rfl infoKey) rfl ⟨none,0,rfl,Bs.empty _ _,HB1.out.trans hb5⟩
  ·have hkl:k<l.length:=by rw[←HN.out];exact hk
   have hf:=find_last HRING.out hkl hpk
   obtain⟨x,hx⟩: ∃x,x=l.getD k K0:=⟨_,rfl⟩
   have hr:r=x:=by rw[HR.out,findK,HRING.out,hf,hx];rfl
   have hE:E=0:=by rw[HE.out,findE,HRING.out,hf];rfl
   subst hr hE
   have HLEN:=Lib.hid (ring_right HRING.out (getD_mem hkl))
   rw[←hx]at HLEN
   have HLX:=Lib.hid hlx
   have HX:=Lib.hid hx
   have HKL:=Lib.hid hkl
   clear hf hall hlx hpk hx hkl
   go_wp2_with fail
   refine(last_any (fun q:K=>q.id==id) l n HN.out (by omega) 69 #[.pointer (some ⟨w.heap.size,0,none⟩)] HE21.out A c w1 HA1.out HFIT.out).mono ?_
   rintro e w2 ⟨rfl,hb2⟩
   rw[HLX.out]
   have hx2:=(hb2.block _ (show w.heap.size+1<w1.heap.size by omega)).trans hx1
   have hB2:=hB1.trans (hb2.mono hB1.size)
   have hs2:w.heap.size+2≤w2.heap.size:=by have:=hb2.size;omega
   obtain⟨ad,S,cc,rfl,had,hk4⟩:=(HA.out.next hB2) k HKL.out
   rw[←HX.out]at hk4
   have hc0:=hk4.c0
   have hc1:=hk4.c1
   have hc2:=hk4.c2
   have hc3:=hk4.c3
   have HBS:=Lib.hid hk4.bs
   have HX2:=Lib.hid hx2
   have HB2:=Lib.hid hB2
   have b0: ¬((k:Int)<0):=by omega
   have b1:(0:Int)≤(k:Int):=by omega
   have b2:(k:Int)<(n:Int):=by omega
   clear hb2 hx1 hB1 hx2 hB2 hk4
   go_wp2_with (first|(go_at_call 70;refine(apart_any ⟨r,S,cc⟩ r.sec.length rfl w2 HBS.out HLEN.out.1 HLEN.out.2).mono ?_;rintro e w3 ⟨S3,c3,rfl,hbs3,hge3,hb3⟩;have HX3:=Lib.hid ((hb3.block _ (show w.heap.size+1<w2.heap.size by omega)).trans HX2.out);have HBS3:=Lib.hid hbs3;have HGE3:=Lib.hid hge3;have HB3:=Lib.hid hb3;clear hbs3 hge3 hb3)|((with_reducible refine at_store 4 ?_);refine wpList_store_named (o:=⟨none, .store 48 (.tmp 4) (.tmp 21),_,_,_,_⟩) rfl 48 (.tmp 4) (.tmp 21) rfl (w.heap.size+1) #[.int .i64 r.id, .slice S3 r.sec.length c3, .int .i64 r.frm, .int .i64 r.til] rfl rfl 48 #[.int .i64 0, .slice none 0 0, .int .i64 0, .int .i64 0] HX3.out infoKey rfl (kc_one _ _ _ _ _ _) ?_;intro w5 hw5))
   have hr5:=setRow_heap w3 (w.heap.size+1) #[.int .i64 0, .slice none 0 0, .int .i64 0, .int .i64 0] #[.int .i64 r.id, .slice S3 r.sec.length c3, .int .i64 r.frm, .int .i64 r.til] 48 (0,0) HX3.out
   rw[←hw5.out]at hr5
   have hb5:=below_row hw5.out (show w.heap.size≤w.heap.size+1 by omega)
   have hbs5:Bs w5 w5.heap.size r.sec S3 c3:=by
    have h3:=HBS3.out
    have e5:w5.heap.size=w3.heap.size:=by rw[hw5.out];simp
    rw[e5]
    exact bs_setRow h3 (fun ad' e=>by have:=HGE3.out ad' e;omega) hw5.out
   refine bodyPost_ret (results_row_tmp Tryz.results26 _ w5 (w.heap.size+1) 48 #[.int .i64 r.id, .slice S3 r.sec.length c3, .int .i64 r.frm, .int .i64 r.til] (0,0) _ rfl hr5 Tryz.underlying48 rfl infoKey) rfl ⟨S3,c3,rfl,hbs5,(HB2.out.trans (HB3.out.mono HB2.out.size)).trans hb5⟩
end Go.Proofs.YtcnglbliidjnfaaGreatDoor
end
section
namespace Go.Proofs.YtcnglbliidjnfaaGreatDoor
set_option linter.unusedVariables false
open Go.ChangeShapes Go.WideShapes Go.ChangeAt Go.RowKit
theorem find_sec {l:List K} {id:Int} (h:findE l id=0):(findK l id).sec.length≤64:=by
 rw[findE]at h
 split at h
 ·rename_i hr
  split at h
  ·rename_i hs
   obtain⟨x,hx⟩:=Option.isSome_iff_exists.1 hs
   rw[findK,if_pos hr,hx,Option.getD_some]
   exact(ring_right hr (List.mem_of_find?_eq_some hx)).2
  ·exact absurd h (by decide)
 ·exact absurd h (by decide)
end Go.Proofs.YtcnglbliidjnfaaGreatDoor
end
section
namespace Go.Proofs.YtcnglbliidjnfaaGreatDoor
set_option linter.unusedVariables false
open Go.ChangeShapes Go.WideShapes Go.ChangeAt Go.RowKit
theorem refbig_named (l:List K) (n:Nat) (hn:n=l.length) (b:Bool) (hb:bigR l=b) (A:Option Addr) (c:Nat) (w:World) (hA:Ks w w.heap.size A l) (h1:n≤9223372036854775807):
  Calls Tryz.prog 10 #[.slice A n c] w fun e w'=>e= .returned (.bool b)∧Below w.heap.size w w':=by
 subst hb
 exact refbig_any l n hn A c _ w hA h1
theorem box_lit (w:World) (q:KV) (h:Bs w w.heap.size q.k.sec q.S q.c):Box (w.alloc (.cells #[.int .i64 q.k.id, .slice q.S q.k.sec.length q.c, .int .i64 q.k.frm, .int .i64 q.k.til] 48)) w.heap.size q∧
  Below w.heap.size w (w.alloc (.cells #[.int .i64 q.k.id, .slice q.S q.k.sec.length q.c, .int .i64 q.k.frm, .int .i64 q.k.til] 48)):=
 ⟨⟨heap_alloc_new w _,by simp,h.next (below_lit w _ _)⟩,below_lit w _ _⟩
end Go.Proofs.YtcnglbliidjnfaaGreatDoor
end
section
namespace Go.Proofs.YtcnglbliidjnfaaGreatDoor
set_option linter.unusedVariables false
open Go.ChangeShapes Go.WideShapes Go.ChangeAt Go.RowKit
def TBox (w:World) (b:Nat) (t:Tk):Prop:=w.heap[b]?=some (.cells #[.int .i64 t.ser, .int .i64 t.kind, .int .i64 t.frm, .int .i64 t.till, .int .i64 t.cls, .int .i64 t.card, .int .i64 t.seat, .int .i64 t.day, .int .i64 t.days, .int .i64 t.uses, .int .i64 t.epoch] 24 (0,0))
theorem TBox.lt {w:World} {b:Nat} {t:Tk} (h:TBox w b t):b<w.heap.size:=(Array.getElem?_eq_some_iff.1 h).1
theorem TBox.next {w w':World} {b:Nat} {t:Tk} (h:TBox w b t) (hb:Below w.heap.size w w'):TBox w' b t:=(hb.block _ h.lt).trans h
theorem TBox.cells {w:World} {b:Nat} {t:Tk} (h:TBox w b t):w.cell? ⟨b,0,none⟩=some (.int .i64 t.ser)∧w.cell? ⟨b,1,none⟩=some (.int .i64 t.kind)∧w.cell? ⟨b,2,none⟩=some (.int .i64 t.frm)∧w.cell? ⟨b,3,none⟩=some (.int .i64 t.till)∧w.cell? ⟨b,4,none⟩=some (.int .i64 t.cls)∧w.cell? ⟨b,5,none⟩=some (.int .i64 t.card)∧w.cell? ⟨b,6,none⟩=some (.int .i64 t.seat)∧w.cell? ⟨b,7,none⟩=some (.int .i64 t.day)∧w.cell? ⟨b,8,none⟩=some (.int .i64 t.days)∧w.cell? ⟨b,9,none⟩=some (.int .i64 t.uses)∧w.cell? ⟨b,10,none⟩=some (.int .i64 t.epoch):=
 ⟨by rw[cell_of_row w b 0 _ _ (0,0) h];rfl,by rw[cell_of_row w b 1 _ _ (0,0) h];rfl,by rw[cell_of_row w b 2 _ _ (0,0) h];rfl,by rw[cell_of_row w b 3 _ _ (0,0) h];rfl,by rw[cell_of_row w b 4 _ _ (0,0) h];rfl,by rw[cell_of_row w b 5 _ _ (0,0) h];rfl,by rw[cell_of_row w b 6 _ _ (0,0) h];rfl,by rw[cell_of_row w b 7 _ _ (0,0) h];rfl,by rw[cell_of_row w b 8 _ _ (0,0) h];rfl,by rw[cell_of_row w b 9 _ _ (0,0) h];rfl,by rw[cell_of_row w b 10 _ _ (0,0) h];rfl⟩
theorem TBox.frozen {w:World} {b:Nat} {t:Tk} (h:TBox w b t) (j:Nat):w.frozen? ⟨b,j,none⟩=false:=frozen_of_row w b j _ _ h
theorem TBox.new (w:World) (t:Tk):TBox (w.alloc (.cells #[.int .i64 t.ser, .int .i64 t.kind, .int .i64 t.frm, .int .i64 t.till, .int .i64 t.cls, .int .i64 t.card, .int .i64 t.seat, .int .i64 t.day, .int .i64 t.days, .int .i64 t.uses, .int .i64 t.epoch] 24)) w.heap.size t:=heap_alloc_new w _
end Go.Proofs.YtcnglbliidjnfaaGreatDoor
end
