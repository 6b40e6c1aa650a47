import Derived.Test.YtmdbfogjfbbpjaaGreatDoorFortyPMap
import Derived.Test.YtmdbfogjfbbpjaaGreatDoorStripePDec
import Derived.IntWalk
import Derived.Deep.Heap
set_option maxHeartbeats 2000000
set_option maxRecDepth 100000
set_option linter.unusedVariables false
section
namespace Go.Proofs.YtmdbfogjfbbpjaaGreatDoor
set_option linter.unusedSimpArgs false
open Go.ChangeShapes Go.WideShapes Go.ChangeAt Go.RowKit Go.Shelf
attribute [local go_sem] Oper.semAt_some
theorem dB (g:List Nat) (h:g.length=2∨g.length=3):Ck g=if okL g=false then(7,[])else if nS g / 256^(g.length - 1)≠0 then(23,[])else(0,bysH (nS g) (g.length - 1)):=by
  match g,h with
  | [x,y],_=>
    have e1:okL [x,y]=(Ee x&&Ee y):=by simp[okL]
    have e2:nS [x,y]=eH x y:=by simp[nS,eH]
    rw[e1,e2,Ck]
    by_cases h1:(Ee x&&Ee y)=false
    · rw[if_pos h1,if_pos h1]
    · rw[if_neg h1,if_neg h1]
      simp only[List.length_cons,List.length_nil,Nat.zero_add,Nat.add_one_sub_one,Nat.pow_one]
      by_cases h2:255<eH x y
      · rw[if_pos h2,if_pos (by omega)]
      · rw[if_neg h2,if_neg (by omega)]
        simp only[bysH,Nat.pow_zero,Nat.div_one]
        rw[Nat.mod_eq_of_lt (by omega)]
  | [x,y,z],_=>
    have e1:okL [x,y,z]=(Ee x&&Ee y&&Ee z):=by simp[okL,Bool.and_assoc]
    have e2:nS [x,y,z]=Po x y z:=by simp only[nS,Po];omega
    rw[e1,e2,Ck]
    by_cases h1:(Ee x&&Ee y&&Ee z)=false
    · rw[if_pos h1,if_pos h1]
    · rw[if_neg h1,if_neg h1]
      simp only[List.length_cons,List.length_nil,Nat.zero_add,Nat.add_one_sub_one,Nat.reduceAdd,Nat.reducePow,Nat.reduceSub]
      by_cases h2:65535<Po x y z
      · rw[if_pos h2,if_pos (by omega)]
      · rw[if_neg h2,if_neg (by omega)]
        simp only[bysH,Nat.pow_zero,Nat.div_one,Nat.pow_one]
        rw[Nat.mod_eq_of_lt (show Po x y z / 256<256 by omega)]
def Ii (l:List Nat) (ks:List Nat):Prop:= ∀k∈ks,(Ck (grp l 3 k)).1=0
def outG (l:List Nat) (ks:List Nat):List Nat:=(ks.map (fun k=>(Ck (grp l 3 k)).2)).flatten
theorem dC (l:List Nat) (ks:List Nat) (k:Nat):outG l (ks++ [k])=outG l ks++(Ck (grp l 3 k)).2:=by simp[outG]
theorem Yl {l:List Nat} {ks:List Nat} {k:Nat} (h:Ii l ks) (hk:(Ck (grp l 3 k)).1=0):Ii l (ks++ [k]):=fun j hj=>(List.mem_append.1 hj).elim (h j) (fun e=>by rw[List.mem_singleton]at e;rw[e];exact hk)
theorem To (x y z:Nat) (r:List Nat):grp (x::y::z::r) 3 0=[x,y,z]:=by simp[grp]
theorem Tp (a b c:Nat) (r:List Nat) (k:Nat):grp (a::b::c::r) 3 (k+1)=grp r 3 k:=by
 rw[grp,grp,show 3*(k+1)=3*k+1+1+1 by omega,List.drop_succ_cons,List.drop_succ_cons,List.drop_succ_cons]
theorem yA (a b c:Nat) (r:List Nat) (m:Nat):outG (a::b::c::r) (List.range (m+1))=(Ck [a,b,c]).2++outG r (List.range m):=by
 rw[List.range_succ_eq_map,outG,List.map_cons,List.flatten_cons,List.map_map,To]
 have e:(fun k=>(Ck (grp (a::b::c::r) 3 k)).2) ∘ Nat.succ=fun k=>(Ck (grp r 3 k)).2:=by
  funext k
  show(Ck (grp (a::b::c::r) 3 (k+1))).2=_
  rw[Tp]
 rw[e]
 rfl
theorem Ym {a b c:Nat} {r:List Nat} {m:Nat} (h:Ii (a::b::c::r) (List.range (m+1))):(Ck [a,b,c]).1=0∧Ii r (List.range m):=by
 refine⟨by have:=h 0 (List.mem_range.2 (by omega));rwa[To]at this,fun k hk=> ?_⟩
 have:=h (k+1) (List.mem_range.2 (by have:=List.mem_range.1 hk;omega))
 rwa[Tp]at this
theorem Yn: ∀(l:List Nat) (m:Nat),l.length % 3≠1→(∀k,k<m↔3*k<l.length)→Ii l (List.range m)→Cv l=(0,outG l (List.range m))
  | [],m,_,h,_=>by
    have:=h 0
    obtain rfl:m=0:=by simp at this;omega
    rfl
  | [x],m,hl,_,_=>by simp at hl
  | [x,y],m,_,h,hg=>by
    have h0:=h 0
    have h1:=h 1
    obtain rfl:m=1:=by simp at h0 h1;omega
    have h2:=hg 0 (by simp)
    have e:grp [x,y] 3 0=[x,y]:=by simp[grp]
    rw[e]at h2
    rw[Cv]
    have e3:outG [x,y] (List.range 1)=(Ck [x,y]).2:=by
      show outG [x,y] [0]=_
      rw[outG,List.map_cons,List.map_nil,e]
      simp
    rw[e3]
    exact Prod.ext h2 rfl
  | a::b::c::r,m,hl,h,hg=>by
    have h0:=h 0
    obtain⟨m,rfl⟩: ∃j,m=j+1:=⟨m - 1,by simp at h0;omega⟩
    obtain⟨hg1,hg2⟩:=Ym hg
    have ih:=Yn r m (by simp only[List.length_cons]at hl;omega) (fun k=>by have:=h (k+1);simp only[List.length_cons]at this;omega) hg2
    rw[Cv,ih,yA,Jd,if_neg (by rw[hg1];omega),if_neg (by simp)]
theorem Tq: ∀(l:List Nat) (k:Nat),l.length % 3≠1→3*k<l.length→Ii l (List.range k)→(Ck (grp l 3 k)).1≠0→Cv l=((Ck (grp l 3 k)).1,[])
 |[],k,_,h,_,_=>by simp at h
 |[x],k,hl,_,_,_=>by simp at hl
 |[x,y],k,_,h,hg,hb=>by
  obtain rfl:k=0:=by simp at h;omega
  have e:grp [x,y] 3 0=[x,y]:=by simp[grp]
  rw[e]at hb⊢
  exact Jv.getR_nil [x,y] hb
 |a::b::c::r,0,hl,h,hg,hb=>by
  rw[To]at hb⊢
  rw[Cv,vJ hb]
 |a::b::c::r,k+1,hl,h,hg,hb=>by
  obtain⟨hg1,hg2⟩:=Ym hg
  rw[Tp]at hb⊢
  have ih:=Tq r k (by simp only[List.length_cons]at hl;omega) (by simp only[List.length_cons]at h;omega) hg2 hb
  rw[Cv,ih,Jd,if_neg (by rw[hg1];omega),if_pos hb]
theorem gL {W:World} {g:Nat} (h:qP W g) {base size k:Nat} {e:TypeId} {v:Value} {xs:List Value} (hr:W.ownsRow base e size v k xs):some g≠v.ownBlock:=by
 obtain⟨es,ck,hh,_⟩:=h
 rcases hr.2 with⟨rfl,_⟩|⟨g',cap,cur,rfl,_,hgb,_⟩
 ·simp[Value.ownBlock]
 ·intro e'
  obtain rfl:g=g':=by simpa[Value.ownBlock]using e'
  rw[hh]at hgb;cases hgb
theorem Yo {W W':World} (hb:Below W.heap.size W W'):W.grownBy W' none:=⟨hb.os,hb.tape,hb.output,hb.size,fun k hk _=>hb.block k hk⟩
theorem mM {W Wc w1:World} {n₀ B g:Nat} {e:TypeId} {v v':Value} {k:Nat} {xs:List Value}
  (hu:qP W g) (hrow:W.ownsRow n₀ e 1 v k xs) (hb:Below W.heap.size W Wc) (hgrow:Wc.grownBy w1 v.ownBlock) (hne:g≠B):qP (w1.setCell ⟨B,0,none⟩ v') g:=
 ((hu.kept (Yo hb) (by simp)).kept hgrow (gL hu hrow)).kept (grownBy_setCell' w1 B v') (by simpa using hne)
theorem Ack (l:List Nat) (n:Nat) (hn:n % 3=1) (h63:n≤9223372036854775807) (A:Option Addr) (c:Nat) (w:World):
  Calls Tryz.prog 91 #[.slice A n c] w fun e w'=>e= .returned (.tuple #[.slice none 0 0, .int .i64 14])∧Below w.heap.size w w':=by
 have t1:(n:Int).tmod 3=1:=by rw[Int.tmod_eq_emod_of_nonneg (by omega)];omega
 go_enter Tryz.func91, Tryz.ntmps91
 go_wp2
 refine bodyPost_ret (v:= .tuple #[.slice none 0 0, .int .i64 14]) (by simp[results, Tryz.results91,go_sem]) rfl ?_
 exact⟨rfl,((Below.refl _ w).alloc (Nat.le_refl _) _).alloc (by simp) _⟩
theorem Af4 (N:Nat) (hN:4≤N) (l:List Nat) (n:Nat) (hn:n=l.length) (hn4:n≤140737488355328) (hn3:n % 3≠1) (E:Nat) (p:List Nat) (hp:Cv l=(E,p)) (m:Nat) (hm: ∀k,k<m↔3*k<n) (A:Option Addr) (c:Nat) (w:World) (hA:Bs w w.heap.size l A c):
    CallsIn Fence.wide N Tryz.prog 91 #[.slice A n c] w fun e w'=> ∃A' c',e= .returned (.tuple #[.slice A' (p.length:Nat) c', .int .i64 (E:Int)])∧Bs w' w'.heap.size p A' c'∧Below w.heap.size w w':=by
  have h1:1≤N:=by omega
  obtain⟨i0,hi,hz0,hz1,hz2⟩:=info_parts Be
  have HN:=Lib.hid hn
  have HP:=Lib.hid hp
  have HM:=Lib.hid hm
  have HA:=Lib.hid hA
  have HN3:=Lib.hid hn3
  obtain⟨r,hr⟩: ∃r,r=n % 3:=⟨_,rfl⟩
  have t1:(n:Int).tmod 3=(r:Int):=by rw[Int.tmod_eq_emod_of_nonneg (by omega)];omega
  have hr1:((r:Int)==1)=false:=by rw[beq_eq_false_iff_ne];omega
  have w1':IntKind.i64.wrap (r:Int)=(r:Int):=IntWalk.i64_in _ (by omega)
  clear hn hp hA hr hn3
  refine callsIn_of_wp_marks Tryz.func91 rfl trivial ?_ rfl
  simp only[Tryz.ntmps91,List.size_toArray,List.length_cons,List.length_nil,Nat.reduceAdd,Nat.reduceSub,Array.replicate_succ,Array.replicate_zero,List.push_toArray,List.append_toArray,List.nil_append,List.cons_append]
  gi_wp2_with (refine⟨trivial, ?_⟩;gi_at_call 143;refine(callsIn_wide.2 (mI _)).mono ?_;rintro e w1 ⟨rfl,hown,hb⟩)
  refine⟨trivial,(dA Fence.wide (N - 1) trivial rfl _ _ _ _ _).mono ?_⟩
  rintro e w' ⟨rfl,rfl⟩
  -- W0
  gi_wp2
  have hsw:((w.alloc (.cells #[.slice none 0 0] 23)).alloc (.cells #[.int .i64 0] 27)).heap.size=w.heap.size+1+1:=by simp
  have c2:Boxed w1 w.heap.size 23 (.slice none 0 0):=(hb.block _ (by simp;omega)).trans ((Boxed.new w 23 (.slice none 0 0)).alloc _)
  have c3:Boxed w1 (w.heap.size+1) 27 (.int .i64 0):=(hb.block _ (by simp)).trans (by have:=Boxed.new (w.alloc (.cells #[.slice none 0 0] 23)) 27 (.int .i64 0);rw[World.size_alloc]at this;exact this)
  have hw1:Below w.heap.size w w1:=(((Below.refl _ w).alloc (Nat.le_refl _) _).alloc (by simp) _).trans (hb.mono (by simp;omega))
  have hM1:=hb.size
  rw[hsw]at hown hM1
  have hM2:w.heap.size+1+1<w1.heap.size:=by obtain⟨es,ck,hh,_⟩:=hown;exact(Array.getElem?_eq_some_iff.1 hh).1
  clear hb hsw
  obtain⟨W0,hW0⟩: ∃W0,(((((w1.alloc (.cells #[.map (some (w.heap.size+1+1))] 157)).alloc (.cells #[] 5)).alloc (.cells #[.slice (some ⟨w1.heap.size+1,0,none⟩) 0 0] 23)).alloc (.cells #[.slice A n c] 23)).alloc (.cells #[.int .i64 3] 3))=W0:=⟨_,rfl⟩
  have b2:Boxed W0 w.heap.size 23 (.slice none 0 0):=by rw[←hW0];exact((((c2.alloc _).alloc _).alloc _).alloc _).alloc _
  have b3:Boxed W0 (w.heap.size+1) 27 (.int .i64 0):=by rw[←hW0];exact((((c3.alloc _).alloc _).alloc _).alloc _).alloc _
  have hmp0:qP W0 (w.heap.size+1+1):=by rw[←hW0];exact((((hown.alloc _).alloc _).alloc _).alloc _).alloc _
  have bm:Boxed W0 w1.heap.size 157 (.map (some (w.heap.size+1+1))):=by rw[←hW0];exact((((Boxed.new w1 _ _).alloc _).alloc _).alloc _).alloc _
  have b7:Boxed W0 (w1.heap.size+1+1) 23 (.slice (some ⟨w1.heap.size+1,0,none⟩) 0 0):=by
    rw[←hW0]
    have:=Boxed.new ((w1.alloc (.cells #[.map (some (w.heap.size+1+1))] 157)).alloc (.cells #[] 5)) 23 (.slice (some ⟨w1.heap.size+1,0,none⟩) 0 0)
    rw[World.size_alloc,World.size_alloc]at this
    exact(this.alloc _).alloc _
  have ba:Boxed W0 (w1.heap.size+1+1+1) 23 (.slice A n c):=by
    rw[←hW0]
    have:=Boxed.new (((w1.alloc (.cells #[.map (some (w.heap.size+1+1))] 157)).alloc (.cells #[] 5)).alloc (.cells #[.slice (some ⟨w1.heap.size+1,0,none⟩) 0 0] 23)) 23 (.slice A n c)
    rw[World.size_alloc,World.size_alloc,World.size_alloc]at this
    exact this.alloc _
  have bb:Boxed W0 (w1.heap.size+1+1+1+1) 3 (.int .i64 3):=by
    rw[←hW0]
    have:=Boxed.new ((((w1.alloc (.cells #[.map (some (w.heap.size+1+1))] 157)).alloc (.cells #[] 5)).alloc (.cells #[.slice (some ⟨w1.heap.size+1,0,none⟩) 0 0] 23)).alloc (.cells #[.slice A n c] 23)) 3 (.int .i64 3)
    rw[World.size_alloc,World.size_alloc,World.size_alloc,World.size_alloc]at this
    exact this
  have hr0:W0.ownsRow w.heap.size 5 1 (.slice (some ⟨w1.heap.size+1,0,none⟩) 0 0) 0 []:=by
    rw[←hW0]
    have:=World.ownsRow_lit (base:=w.heap.size) (e:= 5) (size:=1) (w1.alloc (.cells #[.map (some (w.heap.size+1+1))] 157)) #[] 0 (by simp;omega) (by decide) rfl
    rw[World.size_alloc]at this
    exact((this.alloc _).alloc _).alloc _
  have hb0:Below w.heap.size w W0:=by
    rw[←hW0]
    exact((((hw1.alloc (by omega) _).alloc (by simp;omega) _).alloc (by simp;omega) _).alloc (by simp;omega) _).alloc (by simp;omega) _
  have hs0:W0.heap.size=w1.heap.size+1+1+1+1+1:=by rw[←hW0];simp
  rw[hW0]
  clear hW0 c2 c3 hw1 hown hM1
  refine wpIn_rangeFunc_ownG rfl h1 (gf:= 158) (lb:= #[.pointer (some ⟨w1.heap.size+1+1+1,0,none⟩), .pointer (some ⟨w1.heap.size+1+1+1+1,0,none⟩)]) rfl trivial (enters_of Tryz.func158 (by kernel_rfl) rfl)
    (Sb Fence.wide (N - 1) trivial rfl (by omega) (w1.heap.size+1+1+1) (w1.heap.size+1+1+1+1) A n c 3 m HM.out (by omega) hn4 (by rw[HN.out];exact HA.out.len) HA.out.cap W0 (by omega) (by omega) ba.cell bb.cell) KpG.trans (fun W l o o' _ hl ho _=>KpG.put W l o o' hl ho) (Below.refl _ _) (fun _=>rfl)
    (fun pre W=>(∃v,Boxed W (w1.heap.size+1+1) 23 v∧W.ownsRow w.heap.size 5 1 v (outG l (idx pre)).length (U8 (outG l (idx pre)))∧True)∧(Ii l (idx pre)∧Boxed W w.heap.size 23 (.slice none 0 0)∧Boxed W (w.heap.size+1) 27 (.int .i64 0)∧Boxed W w1.heap.size 157 (.map (some (w.heap.size+1+1)))∧qP W (w.heap.size+1+1)∧Boxed W (w1.heap.size+1+1+1) 23 (.slice A n c)∧Boxed W (w1.heap.size+1+1+1+1) 3 (.int .i64 3)∧W0.heap.size≤W.heap.size∧(outG l (idx pre)).length≤2*pre.length)∧Below w.heap.size w W)
    (fun cc pre W=>(cc= .ret∧ ∃(ini:List (Fin m)) (z:Fin m),pre=ini++ [z]∧Ii l (idx ini)∧(Ck (grp l 3 z.val)).1≠0∧Boxed W w.heap.size 23 (.slice none 0 0)∧Boxed W (w.heap.size+1) 27 (.int .i64 ((Ck (grp l 3 z.val)).1:Nat)))∧Below w.heap.size w W)
    (OwnFrom.and (Own.from (holdsRow_own w.heap.size (w1.heap.size+1+1) 23 5 1 (fun pre=>(outG l (idx pre)).length) (fun pre=>U8 (outG l (idx pre))) (fun _ _=>True)) _)
      (OwnFrom.and (fun s P Q row hs hg hr=>⟨hs.1,hs.2.1.kept hg (fun e=>by have:=(hr _ e.symm).1;omega),hs.2.2.1.kept hg (fun e=>by have:=(hr _ e.symm).1;omega),hs.2.2.2.1.kept hg (fun e=>by have:=(hr _ e.symm).1;omega),hs.2.2.2.2.1.kept hg (fun e=>by have:=(hr _ e.symm).1;omega),hs.2.2.2.2.2.1.kept hg (fun e=>by have:=(hr _ e.symm).1;omega),hs.2.2.2.2.2.2.1.kept hg (fun e=>by have:=(hr _ e.symm).1;omega),Nat.le_trans hs.2.2.2.2.2.2.2.1 hg.size,hs.2.2.2.2.2.2.2.2⟩) (ownFrom_below (Nat.le_refl _) (by omega))))
    (fun cc=>OwnFrom.and (fun s P Q row hs hg hr=>by
      obtain⟨hc,ini,z,e1,e2,e3,e4,e5⟩:=hs
      exact⟨hc,ini,z,e1,e2,e3,e4.kept hg (fun e=>by have:=(hr _ e.symm).1;omega),e5.kept hg (fun e=>by have:=(hr _ e.symm).1;omega)⟩) (ownFrom_below (Nat.le_refl _) (by omega)))
    ⟨⟨_,b7,hr0,trivial⟩,⟨(fun y hy=>by cases hy),b2,b3,bm,hmp0,ba,bb,Nat.le_refl _,by simp[outG,idx]⟩,hb0⟩
    (fun x=> { tmps:= #[.slice A n c,undef, .pointer (some ⟨w.heap.size,0,none⟩), .pointer (some ⟨w.heap.size+1,0,none⟩), .pointer (some ⟨w1.heap.size,0,none⟩), .pointer (some ⟨w1.heap.size+1+1,0,none⟩),(.slice (A.map (fun a=>a.add (3*x.val))) (eOf n 3 (3*x.val) - 3*x.val) (c - 3*x.val)),undef,undef,undef,undef, .slice A n c, .int .i64 (n:Int), .int .i64 (r:Int), .bool false, .map (some (w.heap.size+1+1)), .slice (some ⟨w1.heap.size+1,0,none⟩) 0 0, .slice A n c, .func (.func 158) #[] #[.pointer (some ⟨w1.heap.size+1+1+1,0,none⟩), .pointer (some ⟨w1.heap.size+1+1+1+1,0,none⟩)],(.slice (A.map (fun a=>a.add (3*x.val))) (eOf n 3 (3*x.val) - 3*x.val) (c - 3*x.val)),undef,undef,undef,undef,undef,undef,undef,undef,undef,undef,undef,undef,undef,undef,undef,undef,undef,undef,undef,undef,undef,undef],defers:=[] }) ?assign ?body ?done ?stop
  case assign=>
    intro lp x W K hK
    dsimp only[Ach]
    gi_wp2
    exact hK
  case body=>
    rintro lp pre x W ⟨⟨v,h7,hrow, -⟩,⟨hgood,h2,h3,hbm,hmp,hba,hbb,hX3,hpf⟩,hB⟩ hlt
    have hx:3*x.val<l.length:=by rw[←HN.out];exact(HM.out _).1 x.isLt
    have hgl:=gH l 3 x.val hx
    have hbs0:=(Acg (HA.out.below hB) 3 x.val hx).more hB.size
    have hsn:outG l (idx (pre++ [x]))=outG l (idx pre)++(Ck (grp l 3 x.val)).2:=by rw[Ng,dC]
    have hgs:(Ck (grp l 3 x.val)).1=0→Ii l (idx (pre++ [x])):=fun h=>by rw[Ng];exact Yl hgood h
    have hmn:3*m≤n+2:=by
      rcases Nat.eq_zero_or_pos m with h|h
      · omega
      · have:=(HM.out (m - 1)).1 (by omega);omega
    have hg23:(grp l 3 x.val).length=2∨(grp l 3 x.val).length=3:=by
      have h3:=HN3.out
      rw[hgl,eOf, ←HN.out]
      rw[←HN.out]at hx
      split<;>omega
    rw[←HN.out]at hgl
    rw[←hgl]
    obtain⟨g,hgg⟩: ∃g,g=grp l 3 x.val:=⟨_,rfl⟩
    rw[←hgg]at hg23 hbs0 hsn hgs⊢
    have hgp:=dB g hg23
    have hns:=cZ g (by omega)
    obtain⟨k,hk⟩: ∃k,k=g.length:=⟨_,rfl⟩
    rw[←hk]at hgp hg23⊢
    obtain⟨kk,hkk⟩: ∃kk,k - 1=kk:=⟨_,rfl⟩
    rw[hkk]at hgp
    have hk3:k≤3:=by omega
    have hkk1:1≤kk:=by omega
    have hkk2:kk≤2:=by omega
    have wk:IntKind.i64.wrap ((k:Int) - 1)=(kk:Int):=by rw[IntWalk.i64_in _ (by omega)];omega
    obtain⟨ap,hap⟩: ∃ap,ap=A.map (fun a=>a.add (3*x.val)):=⟨_,rfl⟩
    obtain⟨cp,hcp⟩: ∃cp,cp=c - 3*x.val:=⟨_,rfl⟩
    rw[←hap, ←hcp]at hbs0⊢
    have hz9: ∀e,Ck g=(e,[])→e≠0→ ∃(ini:List (Fin m)) (z:Fin m),pre++ [x]=ini++ [z]∧Ii l (idx ini)∧(Ck (grp l 3 z.val)).1≠0∧(Ck (grp l 3 z.val)).1=e:=fun e he h0=>⟨pre,x,rfl,hgood,by rw[←hgg,he];exact h0,by rw[←hgg,he]⟩
    have hcm:=hbm.cell
    have hc7:=h7.cell
    have hc2:=h2.cell
    have hf2:=h2.frozen
    have g3:=(h3.other (B':=w.heap.size) (by omega) (.slice none 0 0)).cell
    have g3f:=(h3.other (B':=w.heap.size) (by omega) (.slice none 0 0)).frozen
    have hsz:=hB.size
    have HZ9:=Lib.hid hz9
    have H7:=Lib.hid h7
    have H2:=Lib.hid h2
    have H3:=Lib.hid h3
    have HBM:=Lib.hid hbm
    have HMP:=Lib.hid hmp
    have HRW:=Lib.hid hrow
    have HBA:=Lib.hid hba
    have HBBX:=Lib.hid hbb
    have HBB:=Lib.hid hB
    have HPS:=Lib.hid hsn
    have HGS:=Lib.hid hgs
    have HGP:=Lib.hid hgp
    have HBS0:=Lib.hid hbs0
    have HKG:=Lib.hid hk
    have HPF:=Lib.hid hpf
    clear h7 h2 h3 hbm hmp hrow hba hbb hB hsn hgs hgp hbs0 hz9 hgood hap hcp hgg hk hkk b2 b3 bm b7 ba bb hr0 hb0 hmp0 hgl hx hpf
    have hn2:1≤N - 1 - 1:=by omega
    cases hok:okL g with
    | false=>
      have hof:=Sa g k HKG.out hk3 false 0 hok rfl ap cp (w.heap.size+1+1) W HBS0.out HMP.out
      have HOF:=Lib.hid hof
      have hge:Ck g=(7,[]):=by rw[HGP.out,if_pos hok]
      obtain⟨ini,z,z1,z2,z3,z4⟩:=HZ9.out 7 hge (by omega)
      have HZ:=Lib.hid (show pre++ [x]=ini++ [z]∧Ii l (idx ini)∧(Ck (grp l 3 z.val)).1≠0∧(Ck (grp l 3 z.val)).1=7 from⟨z1,z2,z3,z4⟩)
      clear hof hge hok z1 z2 z3 z4
      gi_wp2_with (refine⟨trivial, ?_⟩;gi_at_call 144;refine(CallsIn.inRound lp (callsIn_wide.2 HOF.out)).mono ?_;rintro e w' ⟨rfl,rfl⟩)
      have q2:=(H2.out.set (.slice none 0 0)).other (B':=w.heap.size+1) (by omega) (.int .i64 7)
      have q3:=(H3.out.other (B':=w.heap.size) (by omega) (.slice none 0 0)).set (.int .i64 7)
      exact⟨((KeepsOthers.setCell _ _ _).trans (KeepsOthers.setCell _ _ _)).from _,⟨rfl,ini,z,HZ.out.1,HZ.out.2.1,HZ.out.2.2.1,q2,by rw[HZ.out.2.2.2];exact q3⟩,(HBB.out.setCell (p:=⟨w.heap.size,0,none⟩) (Nat.le_refl _) _).setCell (p:=⟨w.heap.size+1,0,none⟩) (by simp) _⟩
    | true=>
      obtain⟨q,hq⟩: ∃q,q=nS g:=⟨_,rfl⟩
      rw[←hq]at hns
      have hof:=Sa g k HKG.out hk3 true q hok (by rw[hq];rfl) ap cp (w.heap.size+1+1) W HBS0.out HMP.out
      have HOF:=Lib.hid hof
      obtain⟨R,hR⟩: ∃R,q / 256^kk=R:=⟨_,rfl⟩
      obtain⟨b,hbq⟩: ∃b,bysH q kk=b:=⟨_,rfl⟩
      have hab:=gR q kk R b hbq hR W (by omega) (by omega)
      have HAB:=Lib.hid hab
      have hge:Ck g=if R≠0 then(23,[])else(0,b):=by rw[HGP.out,hok,if_neg (by simp), ←hq,hR,hbq]
      have hbl:(U8 b).length=kk:=by rw[U8,List.length_map, ←hbq,Nl]
      have hbl2:b.length=kk:=by rw[←hbq,Nl]
      have HBL:=Lib.hid hbl
      have HBL2:=Lib.hid hbl2
      have hRlt:R<100000:=by rw[←hR];exact Nat.lt_of_le_of_lt (Nat.div_le_self _ _) hns
      have HGE:=Lib.hid hge
      clear hof hok hq hR hbq hab hge hbl hbl2 HGP
      by_cases h0:R=0
      · subst h0
        have hgz:Ck g=(0,b):=by rw[HGE.out,if_neg (by simp)]
        have hgs2:=HGS.out (by rw[hgz])
        have hps2:=HPS.out
        rw[hgz]at hps2
        have HG2:=Lib.hid hgs2
        have HPS2:=Lib.hid hps2
        obtain⟨j,hj⟩: ∃j,j=(outG l (idx pre)).length:=⟨_,rfl⟩
        have hpf:=HPF.out
        rw[←hj]at HRW hpf
        have hm1:j+kk≤maxLen:=by unfold maxLen;omega
        have hm2:(j+kk)*1≤140737488355328:=by omega
        have HJ:=Lib.hid hj
        clear hgz hgs2 hps2 hj HGE HZ9
        gi_wp2_with (first|(refine⟨trivial, ?_⟩;gi_at_call 144;refine(CallsIn.inRound lp (callsIn_wide.2 HOF.out)).mono ?_;rintro e w' ⟨rfl,rfl⟩)|(refine⟨trivial, ?_⟩;gi_at_call 145;refine(CallsIn.inRound lp (callsIn_wide.2 HAB.out)).mono ?_;rintro e w2 ⟨rfl,hs,hb⟩;have HS:=Lib.hid hs;have HB1:=Lib.hid hb;have hc71:=(Dg H7.out HB1.out).cell;have hro:=Lib.hid (Aj HRW.out HB1.out);have hcl: ∀i u,(U8 b)[i]?=some u→w2.cell? ((⟨W.heap.size,0,none⟩:Addr).add i)=some u:=fun i u hu=>(by obtain⟨ad,e,_,hcc⟩:=HS.out.rd i u hu;cases e;exact hcc);have HCL:=Lib.hid hcl;have hsz2:=Nat.le_trans hsz HB1.out.size;clear hs hb hcl)|(gi_at_builtin;refine wpListIn_append_own_at _ rfl _ _ 23 rfl w.heap.size 5 i0 (.int .u8 0) 1 1 Tryz.underlying23 hi hz0 hz1 hz2 rfl (by decide) v _ _ rfl hro.out ⟨W.heap.size,0,none⟩ kk kk (U8 b) rfl ?_ HCL.out (Bd _) hm1 hm2 hsz2 ?_;(rw[HBL.out,Nat.mul_one]);intro v' w3 hown' hgrow _ hat;obtain⟨g',cap',rfl,_⟩:=hown'.form (by omega);obtain⟨hv1,hv2,hr2,hk2,hb2⟩:=Jy W0.heap.size H7.out (by decide) HRW.out hsz (by omega) HB1.out hown' hgrow;have hc1:=hv1.cell;have hf1:=hv1.frozen))
        have hba2:=Bw (B:=w1.heap.size+1+1) (v':= .slice (some ⟨g',0,none⟩) (j+kk) cap') HBA.out (by decide) HRW.out HB1.out hgrow (by omega)
        have hbb2:=Bw (B:=w1.heap.size+1+1) (v':= .slice (some ⟨g',0,none⟩) (j+kk) cap') HBBX.out (by decide) HRW.out HB1.out hgrow (by omega)
        have h22:=Bw (B:=w1.heap.size+1+1) (v':= .slice (some ⟨g',0,none⟩) (j+kk) cap') H2.out (by decide) HRW.out HB1.out hgrow (by omega)
        have h32:=Bw (B:=w1.heap.size+1+1) (v':= .slice (some ⟨g',0,none⟩) (j+kk) cap') H3.out (by decide) HRW.out HB1.out hgrow (by omega)
        have hbm2:=Bw (B:=w1.heap.size+1+1) (v':= .slice (some ⟨g',0,none⟩) (j+kk) cap') HBM.out (by decide) HRW.out HB1.out hgrow (by omega)
        have hmp2:=mM (B:=w1.heap.size+1+1) (v':= .slice (some ⟨g',0,none⟩) (j+kk) cap') HMP.out HRW.out HB1.out hgrow (by omega)
        refine⟨hk2,KpG.boxed HBA.out HBBX.out hba2 hbb2,⟨⟨_,hv2,by rw[HPS2.out,Nh,List.length_append, ←HJ.out,HBL2.out];exact hr2,trivial⟩,⟨HG2.out,h22,h32,hbm2,hmp2,hba2,hbb2,Nat.le_trans hX3 hk2.size, ?_⟩,HBB.out.trans hb2⟩⟩
        rw[HPS2.out,List.length_append, ←HJ.out,HBL2.out,List.length_append]
        simp only[List.length_cons,List.length_nil]
        omega
      · have hne:((R:Int) !=0)=true:=by rw[bne_iff_ne];omega
        have hne2:(R !=0)=true:=by rw[bne_iff_ne];exact h0
        have hge:Ck g=(23,[]):=by rw[HGE.out,if_pos h0]
        obtain⟨ini,z,z1,z2,z3,z4⟩:=HZ9.out 23 hge (by omega)
        have HZ:=Lib.hid (show pre++ [x]=ini++ [z]∧Ii l (idx ini)∧(Ck (grp l 3 z.val)).1≠0∧(Ck (grp l 3 z.val)).1=23 from⟨z1,z2,z3,z4⟩)
        clear hge HGE HZ9 z1 z2 z3 z4
        gi_wp2_with (first|(refine⟨trivial, ?_⟩;gi_at_call 144;refine(CallsIn.inRound lp (callsIn_wide.2 HOF.out)).mono ?_;rintro e w' ⟨rfl,rfl⟩)|(refine⟨trivial, ?_⟩;gi_at_call 145;refine(CallsIn.inRound lp (callsIn_wide.2 HAB.out)).mono ?_;rintro e w2 ⟨rfl,hs,hb⟩;have HB1:=Lib.hid hb;have h22:=Dg H2.out HB1.out;have h32:=Dg H3.out HB1.out;have hc21:=h22.cell;have hf21:=h22.frozen;have g31:=(h32.other (B':=w.heap.size) (by omega) (.slice none 0 0)).cell;have g31f:=(h32.other (B':=w.heap.size) (by omega) (.slice none 0 0)).frozen;have H22:=Lib.hid h22;have H32:=Lib.hid h32;clear hs hb h22 h32))
        have q2:=(H22.out.set (.slice none 0 0)).other (B':=w.heap.size+1) (by omega) (.int .i64 23)
        have q3:=(H32.out.other (B':=w.heap.size) (by omega) (.slice none 0 0)).set (.int .i64 23)
        exact⟨(Up HB1.out).trans (((KeepsOthers.setCell _ _ _).trans (KeepsOthers.setCell _ _ _)).from _),⟨rfl,ini,z,HZ.out.1,HZ.out.2.1,HZ.out.2.2.1,q2,by rw[HZ.out.2.2.2];exact q3⟩,((HBB.out.trans (HB1.out.mono hsz)).setCell (p:=⟨w.heap.size,0,none⟩) (Nat.le_refl _) _).setCell (p:=⟨w.heap.size+1,0,none⟩) (by simp) _⟩
  case done=>
    rintro D ys W hD hys ⟨⟨v,h7,hrow, -⟩,⟨hgood,h2,h3,hbm,hmp,hba,hbb,hX3,hpf⟩,hB⟩ hK
    rw[hys]at hgood
    have hval:=Yn l m (by rw[←HN.out];exact HN3.out) (by rw[←HN.out];exact HM.out) hgood
    obtain⟨rfl,rfl⟩:E=0∧p=outG l (idx ys):=by have:=HP.out;rw[hval]at this;exact⟨(Prod.mk.inj this).1.symm,by rw[hys];exact(Prod.mk.inj this).2.symm⟩
    have hplt: ∀x∈outG l (idx ys),x<256:=by
      have h9:fgetX l=(0,outG l (idx ys)):=by unfold fgetX;rw[if_neg (by rw[←HN.out];exact HN3.out)];exact HP.out
      exact sE h9
    obtain⟨A2,c2,rfl, -⟩:=Av hrow hplt
    obtain⟨k,hk⟩: ∃k,k=(outG l (idx ys)).length:=⟨_,rfl⟩
    rw[←hk]at h7 hrow
    have HKL:=Lib.hid hk
    have HPL:=Lib.hid hplt
    clear hk hplt
    have hc7:=h7.cell
    have hc4:=h2.cell
    have hf4:=h2.frozen
    have g5:=(h3.other (B':=w.heap.size) (by omega) (.slice A2 k c2)).cell
    have g5f:=(h3.other (B':=w.heap.size) (by omega) (.slice A2 k c2)).frozen
    have q4:=(h2.set (.slice A2 k c2)).other (B':=w.heap.size+1) (by omega) (.int .i64 0)
    have q5:=(h3.other (B':=w.heap.size) (by omega) (.slice A2 k c2)).set (.int .i64 0)
    have hrow1:=hrow.kept (grownBy_setCell' W w.heap.size (.slice A2 k c2)) (.inr (h2.not_row (by decide) hrow).symm)
    have hrow2:=hrow1.kept (grownBy_setCell' _ (w.heap.size+1) (.int .i64 0)) (.inr ((h3.other (B':=w.heap.size) (by omega) (.slice A2 k c2)).not_row (by decide) hrow1).symm)
    have hB2:=(hB.setCell (p:=⟨w.heap.size,0,none⟩) (Nat.le_refl _) (.slice A2 k c2)).setCell (p:=⟨w.heap.size+1,0,none⟩) (by simp) (.int .i64 0)
    have hK':((W.setCell ⟨w.heap.size,0,none⟩ (.slice A2 k c2)).setCell ⟨w.heap.size+1,0,none⟩ (.int .i64 0)).heap[D]?=some (.deferred (some [])):=((KeepsOthers.setCell W ⟨w.heap.size,0,none⟩ (.slice A2 k c2)).trans (KeepsOthers.setCell _ ⟨w.heap.size+1,0,none⟩ (.int .i64 0))).same D _ hK rfl
    have HQ4:=Lib.hid q4
    have HQ5:=Lib.hid q5
    have HRW:=Lib.hid hrow2
    have HB2:=Lib.hid hB2
    have HK':=Lib.hid hK'
    clear q4 q5 hrow hrow1 hrow2 hB hB2 hK' hK h7 h2 h3 hbm hmp hba hbb hval hys hgood b2 b3 bm b7 ba bb hr0 hb0 hmp0 hpf
    gi_wp2
    refine⟨by simp, .inl ⟨_,_,rfl,run_takeDeferred HK'.out, ?_⟩⟩
    have e4:=cell_kept HQ4.out.cell (grownBy_putObj' _ D (.deferred none)) (fun r e=>by cases e;exact⟨_,HK'.out,rfl⟩)
    have e5:=cell_kept HQ5.out.cell (grownBy_putObj' _ D (.deferred none)) (fun r e=>by cases e;exact⟨_,HK'.out,rfl⟩)
    have hro:=ownsRow_putObj HRW.out (.deferred none) HK'.out rfl
    obtain⟨A',c',e',hbs⟩:=Av hro HPL.out
    obtain⟨rfl,rfl⟩:A2=A'∧c2=c':=by injection e' with e1 _ e2;exact⟨e1,e2⟩
    refine⟨.tuple #[.slice A2 k c2, .int .i64 0], ?_,A2,c2,by rw[HKL.out];rfl,hbs,HB2.out.trans (belowK_b (w:=w) (Nat.le_refl _) _ D _ _ (by omega) HK'.out rfl rfl)⟩
    simp[results, Tryz.results91,go_sem,e4,e5]
  case stop=>
    rintro D cc pre W hD ⟨kz,hkm,hkz⟩ ⟨⟨rfl,ini,z,e1,e2,e3,h4,h5⟩,hB⟩ hK
    have hidx:idx ini++ [z.val]=List.range kz:=by rw[←Ng, ←e1,hkz]
    obtain⟨k1,hk1⟩: ∃k1,kz=k1+1:=⟨kz - 1,by have:=congrArg List.length hidx;simp at this;omega⟩
    rw[hk1,List.range_succ]at hidx
    have hii:idx ini=List.range k1:=(List.append_inj' hidx rfl).1
    have hzz:z.val=k1:=by have:=(List.append_inj' hidx rfl).2;simpa using this
    rw[hii]at e2
    have hz3:3*z.val<l.length:=by rw[←HN.out];exact(HM.out _).1 z.isLt
    rw[hzz]at e3 h5 hz3
    have hval:=Tq l k1 (by rw[←HN.out];exact HN3.out) hz3 e2 e3
    obtain⟨he,rfl⟩:E=(Ck (grp l 3 k1)).1∧p=[]:=by have:=HP.out;rw[hval]at this;exact⟨(Prod.mk.inj this).1.symm,(Prod.mk.inj this).2.symm⟩
    rw[←he]at h5
    have q4:=cell_kept h4.cell (grownBy_putObj' _ D (.deferred none)) (fun r e=>by cases e;exact⟨_,hK,rfl⟩)
    have q5:=cell_kept h5.cell (grownBy_putObj' _ D (.deferred none)) (fun r e=>by cases e;exact⟨_,hK,rfl⟩)
    have HQ4:=Lib.hid q4
    have HQ5:=Lib.hid q5
    have HK:=Lib.hid hK
    clear hval he e3 hkz hidx hii hzz hz3 hk1 e2 q4 q5 hK b2 b3 bm b7 ba bb hr0 hb0 hmp0
    gi_wp2
    refine⟨by simp, .inl ⟨_,_,rfl,run_takeDeferred HK.out, ?_⟩⟩
    have q4:=HQ4.out
    have q5:=HQ5.out
    refine⟨.tuple #[.slice none 0 0, .int .i64 (E:Int)], ?_,none,0,rfl,⟨by intro j u hu;simp[U8]at hu,fun _=>rfl,by simp,by omega,by simp⟩,hB.trans (belowK_b (w:=w) (Nat.le_refl _) W D _ _ (by omega) HK.out rfl rfl)⟩
    simp[results, Tryz.results91,go_sem,q4,q5]
theorem qS (l:List Nat) (n:Nat) (hn:n=l.length) (hn4:n≤140737488355328) (E:Nat) (p:List Nat) (hp:fgetX l=(E,p)) (A:Option Addr) (c:Nat) (w:World) (hA:Bs w w.heap.size l A c):
  Calls Tryz.prog 91 #[.slice A n c] w fun e w'=> ∃A' c',e= .returned (.tuple #[.slice A' (p.length:Nat) c', .int .i64 (E:Int)])∧Bs w' w'.heap.size p A' c'∧Below w.heap.size w w':=by
 unfold fgetX at hp
 by_cases h3:n % 3=1
 ·rw[if_pos (by rw[←hn];exact h3)]at hp
  obtain⟨rfl,rfl⟩:=Prod.mk.inj hp
  refine(Ack l n h3 (by omega) A c w).mono ?_
  rintro e w1 ⟨rfl,hb⟩
  exact⟨none,0,rfl,⟨by intro j u hu;simp[U8]at hu,fun _=>rfl,by simp,by omega,by simp⟩,hb⟩
 ·rw[if_neg (by rw[←hn];exact h3)]at hp
  exact(callsIn_wide (n:=4)).1 (Af4 4 (by omega) l n hn hn4 h3 E p hp ((n+2) / 3) (fun k=>by omega) A c w hA)
end Go.Proofs.YtmdbfogjfbbpjaaGreatDoor
end
section
namespace Go.Proofs.YtmdbfogjfbbpjaaGreatDoor
open Go.ChangeShapes Go.WideShapes Go.ChangeAt Go.RowKit
def Dx (w:World) (X:Nat) (A:Option Addr) (m c a:Nat):Prop:=w.heap[X]?=some (.cells #[.slice A m c, .int .i64 (a:Int)] 163 (0,0))
theorem Dx.lt {w:World} {X:Nat} {A:Option Addr} {m c a:Nat} (h:Dx w X A m c a):X<w.heap.size:=(Array.getElem?_eq_some_iff.1 h).1
theorem Dx.c0 {w:World} {X:Nat} {A:Option Addr} {m c a:Nat} (h:Dx w X A m c a):w.cell? ⟨X,0,none⟩=some (.slice A m c):=cell_of_row w X 0 _ _ _ h
theorem Dx.c1 {w:World} {X:Nat} {A:Option Addr} {m c a:Nat} (h:Dx w X A m c a):w.cell? ⟨X,1,none⟩=some (.int .i64 (a:Int)):=cell_of_row w X 1 _ _ _ h
theorem Dx.fz {w:World} {X:Nat} {A:Option Addr} {m c a:Nat} (h:Dx w X A m c a) (j:Nat):w.frozen? ⟨X,j,none⟩=false:=frozen_of_row w X j _ _ h
theorem Dx.next {w w':World} {X:Nat} {A:Option Addr} {m c a:Nat} (h:Dx w X A m c a) (hb:Below w.heap.size w w'):Dx w' X A m c a:=(hb.block X h.lt).trans h
theorem Ig:(Tryz.prog.info? 121).map (·.size)=some 2:=by kernel_rfl
theorem qT (c a X:Nat) (A:Option Addr) (w:World) (hK:Dx w X A 0 c a):
  Calls Tryz.prog 148 #[.pointer (some ⟨X,0,none⟩)] w fun e w'=>e= .returned (.tuple #[.agg #[.int .i64 0, .slice none 0 0], .int .i64 20])∧Below w.heap.size w w':=by
 have hX:=hK.lt
 have c0:=hK.c0
 have c1:=hK.c1
 have HK:=Lib.hid hK
 clear hK
 go_enter Tryz.func148, Tryz.ntmps148
 go_wp2
 exact bodyPost_ret (Ab Tryz.results148 _ _ w.heap.size 121 #[.int .i64 0, .slice none 0 0] (0,0) _ rfl (heap_alloc_new w _) Tryz.underlying121 rfl Ig) rfl ⟨rfl,Aa w _ _⟩
theorem yB (c a X:Nat) (A:Option Addr) (w:World) (hK:Dx w X A 1 c a):
  Calls Tryz.prog 148 #[.pointer (some ⟨X,0,none⟩)] w fun e w'=>e= .returned (.tuple #[.agg #[.int .i64 0, .slice none 0 0], .int .i64 14])∧Below w.heap.size w w':=by
 have hX:=hK.lt
 have c0:=hK.c0
 have c1:=hK.c1
 have HK:=Lib.hid hK
 clear hK
 go_enter Tryz.func148, Tryz.ntmps148
 go_wp2
 exact bodyPost_ret (Ab Tryz.results148 _ _ w.heap.size 121 #[.int .i64 0, .slice none 0 0] (0,0) _ rfl (heap_alloc_new w _) Tryz.underlying121 rfl Ig) rfl ⟨rfl,Aa w _ _⟩
theorem Oe {w:World} {g:Nat} {x0 x1 v0 v1:Value} {t:TypeId} (h:w.heap[g]?=some (.cells #[x0,x1] t (0,0))):((w.setCell ⟨g,0,none⟩ v0).setCell ⟨g,1,none⟩ v1).heap[g]?=some (.cells #[v0,v1] t (0,0)):=
 heap_setCell_same _ g 1 _ _ _ (heap_setCell_same w g 0 _ _ _ h)
theorem Tr {w:World} {X t n c:Nat} {r:List Nat} {A:Option Addr} (h:Bs w X (t::n::r) A c): ∃ad,A=some ad∧ad.block<X∧w.cell? ad=some (.int .u8 (t:Int))∧w.cell? ⟨ad.block,ad.off+1,none⟩=some (.int .u8 (n:Int))∧t<256∧n<256:=by
 obtain⟨ad,rfl,hlt,hc⟩:=h.rd 0 (.int .u8 (t:Int)) rfl
 obtain⟨ad',e,_,hc'⟩:=h.rd 1 (.int .u8 (n:Int)) rfl
 cases e
 rw[Da]at hc
 have e1:ad.add 1=⟨ad.block,ad.off+1,none⟩:=by unfold Addr.add;simp
 rw[e1]at hc'
 exact⟨ad,rfl,hlt,hc,hc',h.lt t (by simp),h.lt n (by simp)⟩
theorem mN (t n:Nat) (r:List Nat) (m:Nat) (hm:m=r.length+2) (c a X:Nat) (A:Option Addr) (w:World) (hK:Dx w X A m c a) (hA:Bs w X (t::n::r) A c) (h:t≤a):
  Calls Tryz.prog 148 #[.pointer (some ⟨X,0,none⟩)] w fun e w'=>e= .returned (.tuple #[.agg #[.int .i64 0, .slice none 0 0], .int .i64 13])∧Below w.heap.size w w':=by
 obtain⟨ad,rfl,hlt,ht,hn,ht2,hn2⟩:=Tr hA
 have hX:=hK.lt
 have c0:=hK.c0
 have c1:=hK.c1
 have lk:=World.block_lt_of_cell? w _ ht
 have lk2:=World.block_lt_of_cell? w _ hn
 have hmc:m≤c:=by have:=hA.len;simp only[List.length_cons]at this;omega
 have hcc:=hA.cap
 have m2:(2:Int)≤(m:Int):=by omega
 have m0:((m:Int)==0)=false:=by rw[beq_eq_false_iff_ne];omega
 have m0':(m==0)=false:=by rw[beq_eq_false_iff_ne];omega
 have m0n:0<m:=by omega
 have m1n:1<m:=by omega
 have m1i:(1:Int)<(m:Int):=by omega
 have wt:IntKind.i64.wrap (t:Int)=(t:Int):=IntWalk.i64_in _ (by omega)
 have wn:IntKind.i64.wrap (n:Int)=(n:Int):=IntWalk.i64_in _ (by omega)
 have wn2:IntKind.i64.wrap (2+(n:Int))=2+(n:Int):=IntWalk.i64_in _ (by omega)
 have hta:(t:Int)≤(a:Int):=by omega
 have HK:=Lib.hid hK
 clear hK hA hm
 go_enter Tryz.func148, Tryz.ntmps148
 go_wp2
 go_quiet (fail)
 go_wp2
 exact bodyPost_ret (Ab Tryz.results148 _ _ w.heap.size 121 #[.int .i64 0, .slice none 0 0] (0,0) _ rfl (Oe (heap_alloc_new w _)) Tryz.underlying121 rfl Ig) rfl ⟨rfl,((Ae (Aa w _ _) _).setCell (Nat.le_refl _) _).setCell (Nat.le_refl _) _⟩
theorem qU (t n:Nat) (r:List Nat) (m:Nat) (hm:m=r.length+2) (c a X:Nat) (A:Option Addr) (w:World) (hK:Dx w X A m c a) (hA:Bs w X (t::n::r) A c) (h:a<t) (h2:r.length<n):
  Calls Tryz.prog 148 #[.pointer (some ⟨X,0,none⟩)] w fun e w'=>e= .returned (.tuple #[.agg #[.int .i64 0, .slice none 0 0], .int .i64 14])∧Below w.heap.size w w':=by
 obtain⟨ad,rfl,hlt,ht,hn,ht2,hn2⟩:=Tr hA
 have hX:=hK.lt
 have c0:=hK.c0
 have c1:=hK.c1
 have lk:=World.block_lt_of_cell? w _ ht
 have lk2:=World.block_lt_of_cell? w _ hn
 have hmc:m≤c:=by have:=hA.len;simp only[List.length_cons]at this;omega
 have hcc:=hA.cap
 have m2:(2:Int)≤(m:Int):=by omega
 have m0:((m:Int)==0)=false:=by rw[beq_eq_false_iff_ne];omega
 have m0':(m==0)=false:=by rw[beq_eq_false_iff_ne];omega
 have m0n:0<m:=by omega
 have m1n:1<m:=by omega
 have m1i:(1:Int)<(m:Int):=by omega
 have wt:IntKind.i64.wrap (t:Int)=(t:Int):=IntWalk.i64_in _ (by omega)
 have wn:IntKind.i64.wrap (n:Int)=(n:Int):=IntWalk.i64_in _ (by omega)
 have wn2:IntKind.i64.wrap (2+(n:Int))=2+(n:Int):=IntWalk.i64_in _ (by omega)
 have hta: ¬(t:Int)≤(a:Int):=by omega
 have hov:(m:Int)<2+(n:Int):=by omega
 have HK:=Lib.hid hK
 clear hK hA hm
 go_enter Tryz.func148, Tryz.ntmps148
 go_wp2
 go_quiet (fail)
 go_wp2
 exact bodyPost_ret (Ab Tryz.results148 _ _ w.heap.size 121 #[.int .i64 0, .slice none 0 0] (0,0) _ rfl (Oe (heap_alloc_new w _)) Tryz.underlying121 rfl Ig) rfl ⟨rfl,((Ae (Aa w _ _) _).setCell (Nat.le_refl _) _).setCell (Nat.le_refl _) _⟩
theorem Me {w:World} {X m c a nq:Nat} {A:Option Addr} (hK:Dx w X A m c a) (z0 z1 V T r0 r1:Value) (o:Array Value) (ty:TypeId) {W:World}
  (hW:W=((((((w.alloc (.cells #[z0,z1] ty)).drewN nq).setCell ⟨X,0,none⟩ V).setCell ⟨X,1,none⟩ T).setCell ⟨w.heap.size,0,none⟩ r0).setCell ⟨w.heap.size,1,none⟩ r1).alloc (.cells o ty)):
  W.heap[w.heap.size]?=some (.cells #[r0,r1] ty (0,0))∧W.heap[X]?=some (.cells #[V,T] 163 (0,0))∧w.grownBy W (some X):=by
 have hX:=hK.lt
 have hne:X≠w.heap.size:=by omega
 have h1:((w.alloc (.cells #[z0,z1] ty)).drewN nq).heap[w.heap.size]?=some (.cells #[z0,z1] ty (0,0)):=heap_alloc_new w _
 have h2:((w.alloc (.cells #[z0,z1] ty)).drewN nq).heap[X]?=some (.cells #[.slice A m c, .int .i64 (a:Int)] 163 (0,0)):=((Aa w _ ty).block X hX).trans hK
 obtain⟨w1,hw1⟩: ∃w1,w1=(w.alloc (.cells #[z0,z1] ty)).drewN nq:=⟨_,rfl⟩
 have hb1:Below w.heap.size w w1:=by rw[hw1];exact Ae (Aa w _ _) _
 rw[←hw1]at h1 h2 hW
 have h3:((w1.setCell ⟨X,0,none⟩ V).setCell ⟨X,1,none⟩ T).heap[X]?=some (.cells #[V,T] 163 (0,0)):=Oe h2
 have h4:((w1.setCell ⟨X,0,none⟩ V).setCell ⟨X,1,none⟩ T).heap[w.heap.size]?=some (.cells #[z0,z1] ty (0,0)):=
  (Go.Deep.blk_setCell_other _ _ _ _ (Ne.symm hne)).trans ((Go.Deep.blk_setCell_other _ _ _ _ (Ne.symm hne)).trans h1)
 obtain⟨w2,hw2⟩: ∃w2,w2=(w1.setCell ⟨X,0,none⟩ V).setCell ⟨X,1,none⟩ T:=⟨_,rfl⟩
 have hb2:Below X w w2:=by rw[hw2];exact((hb1.mono (Nat.le_of_lt hX)).setCell (Nat.le_refl _) _).setCell (Nat.le_refl _) _
 have hk2: ∀k,k<w.heap.size→k≠X→w2.heap[k]?=w.heap[k]?:=fun k hk hne=>by rw[hw2];exact(Go.Deep.blk_setCell_other _ _ _ _ hne).trans ((Go.Deep.blk_setCell_other _ _ _ _ hne).trans (hb1.block k hk))
 rw[←hw2]at h3 h4 hW
 have h5:((w2.setCell ⟨w.heap.size,0,none⟩ r0).setCell ⟨w.heap.size,1,none⟩ r1).heap[w.heap.size]?=some (.cells #[r0,r1] ty (0,0)):=Oe h4
 have h6:((w2.setCell ⟨w.heap.size,0,none⟩ r0).setCell ⟨w.heap.size,1,none⟩ r1).heap[X]?=some (.cells #[V,T] 163 (0,0)):=
  (Go.Deep.blk_setCell_other _ _ _ _ hne).trans ((Go.Deep.blk_setCell_other _ _ _ _ hne).trans h3)
 obtain⟨w3,hw3⟩: ∃w3,w3=(w2.setCell ⟨w.heap.size,0,none⟩ r0).setCell ⟨w.heap.size,1,none⟩ r1:=⟨_,rfl⟩
 have hb3:Below X w w3:=by rw[hw3];exact(hb2.setCell (Nat.le_of_lt hX) _).setCell (Nat.le_of_lt hX) _
 have hk3: ∀k,k<w.heap.size→k≠X→w3.heap[k]?=w.heap[k]?:=fun k hk hne=>by rw[hw3];exact(Go.Deep.blk_setCell_other _ _ _ _ (Nat.ne_of_lt hk)).trans ((Go.Deep.blk_setCell_other _ _ _ _ (Nat.ne_of_lt hk)).trans (hk2 k hk hne))
 rw[←hw3]at h5 h6 hW
 have l5:=(Array.getElem?_eq_some_iff.1 h5).1
 have l6:=(Array.getElem?_eq_some_iff.1 h6).1
 subst hW
 have hb4:=hb3.trans ((Aa w3 o ty).mono (Nat.le_of_lt l6))
 exact⟨((Aa w3 o ty).block _ l5).trans h5,((Aa w3 o ty).block _ l6).trans h6,hb4.os,hb4.tape,hb4.output,hb4.size,fun k hk hne=>((Aa w3 o ty).block k (by omega)).trans (hk3 k hk (fun e=>hne (by rw[e])))⟩
theorem Hc {w w':World} {X:Nat} (h:w.grownBy w' (some X)) (hX:X<w.heap.size):Below X w w':=⟨h.os,h.tape,h.output,h.size,fun k hk=>h.block k (by omega) (by simp;omega)⟩
theorem qV {w:World} {X t n c:Nat} {r:List Nat} {ad:Addr} (h:Bs w X (t::n::r) (some ad) c) (hn:n≤r.length):
  Bs w X (r.take n) (some ⟨ad.block,ad.off+2,none⟩) n∧Bs w X (r.drop n) (some (ad.add (n+2))) (c - (n+2)):=by
 have hl:=h.len
 have hc:=h.cap
 simp only[List.length_cons]at hl
 have e2:(⟨ad.block,ad.off+2,none⟩:Addr)=ad.add 2:=by unfold Addr.add;simp
 refine⟨⟨fun k u hu=> ?_,by simp,by rw[List.length_take];omega,by omega,fun x hx=>h.lt x (by simp[List.mem_of_mem_take hx])⟩,⟨fun k u hu=> ?_,by simp,by rw[List.length_drop];omega,by omega,fun x hx=>h.lt x (by simp[List.mem_of_mem_drop hx])⟩⟩
 ·have hk:k<n:=by
   have:=(List.getElem?_eq_some_iff.1 hu).1
   simp[U8]at this;omega
  obtain⟨ad',e,hlt,hcl⟩:=h.rd (2+k) u (by
   rw[Nat.add_comm]
   simp only[U8,List.map_take,List.map_cons,List.getElem?_cons_succ]at hu⊢
   rwa[List.getElem?_take_of_lt hk]at hu)
  cases e
  exact⟨_,rfl,hlt,by rw[e2,Addr.add_add];exact hcl⟩
 ·obtain⟨ad',e,hlt,hcl⟩:=h.rd (n+2+k) u (by
   rw[show n+2+k=n+k+2 by omega]
   simp only[U8,List.map_drop,List.map_cons,List.getElem?_cons_succ]at hu⊢
   rwa[List.getElem?_drop]at hu)
  cases e
  exact⟨_,rfl,by rw[add_block];exact hlt,by rw[Addr.add_add];exact hcl⟩
theorem Acl (t n:Nat) (r:List Nat) (m:Nat) (hm:m=r.length+2) (c a X:Nat) (A:Option Addr) (w:World) (hK:Dx w X A m c a) (hA:Bs w X (t::n::r) A c) (h:a<t) (h2:n≤r.length):
  Calls Tryz.prog 148 #[.pointer (some ⟨X,0,none⟩)] w fun e w'=> ∃S cs A' c',e= .returned (.tuple #[.agg #[.int .i64 (t:Int), .slice S n cs], .int .i64 0])∧Dx w' X A' (r.length - n) c' t∧Bs w' X (r.take n) S cs∧Bs w' X (r.drop n) A' c'∧w.grownBy w' (some X):=by
 obtain⟨ad,rfl,hlt,ht,hn,ht2,hn2⟩:=Tr hA
 have hX:=hK.lt
 have c0:=hK.c0
 have c1:=hK.c1
 have z0:=hK.fz 0
 have z1:=hK.fz 1
 have lk:=World.block_lt_of_cell? w _ ht
 have lk2:=World.block_lt_of_cell? w _ hn
 have hmc:m≤c:=by have:=hA.len;simp only[List.length_cons]at this;omega
 have hcc:=hA.cap
 have m2:(2:Int)≤(m:Int):=by omega
 have m0:((m:Int)==0)=false:=by rw[beq_eq_false_iff_ne];omega
 have m0':(m==0)=false:=by rw[beq_eq_false_iff_ne];omega
 have m0n:0<m:=by omega
 have m1n:1<m:=by omega
 have m1i:(1:Int)<(m:Int):=by omega
 have wt:IntKind.i64.wrap (t:Int)=(t:Int):=IntWalk.i64_in _ (by omega)
 have wn:IntKind.i64.wrap (n:Int)=(n:Int):=IntWalk.i64_in _ (by omega)
 obtain⟨q,hq⟩: ∃q,q=n+2:=⟨_,rfl⟩
 have wn2:IntKind.i64.wrap (2+(n:Int))=(q:Int):=by rw[IntWalk.i64_in _ (by omega)];omega
 have hta: ¬(t:Int)≤(a:Int):=by omega
 have hov: ¬(m:Int)<(q:Int):=by omega
 have q2:(2:Int)≤(q:Int):=by omega
 have qm:(q:Int)≤(m:Int):=by omega
 have qc:(q:Int)≤(c:Int):=by omega
 have q2n:2≤q:=by omega
 have qmn:q≤m:=by omega
 have qcn:q≤c:=by omega
 have q0:(0:Int)≤(q:Int):=by omega
 have hne: ¬X=w.heap.size:=by omega
 have hne2: ¬X=w.heap.size+1:=by omega
 have HK:=Lib.hid hK
 have HA:=Lib.hid hA
 have HM:=Lib.hid hm
 have HQ:=Lib.hid hq
 clear hK hA hm hq
 have hbt:=qV HA.out h2
 rw[←HQ.out]at hbt
 have HV:=Lib.hid hbt.1
 have HD:=Lib.hid hbt.2
 have hmq:m - q=r.length - n:=by rw[HM.out,HQ.out];omega
 have hq2:q - 2=n:=by rw[HQ.out];omega
 have HMQ:=Lib.hid hmq
 have HQ2:=Lib.hid hq2
 clear hbt hmq hq2
 by_cases e1:q=2
 ·have hn0:n=0:=by rw[←HQ2.out];omega
  by_cases e2:c=q
  ·have hd0:r.drop n=[]:=List.drop_eq_nil_of_le (by have h1:=HMQ.out;have h3:=HM.out;have h4:=HQ.out;omega)
   have HD0:=Lib.hid hd0
   clear hd0
   subst e1
   subst hn0
   go_enter Tryz.func148, Tryz.ntmps148
   go_wp2
   go_quiet (fail)
   go_wp2
   obtain⟨W,hW⟩: ∃W,W=((((((w.alloc (.cells #[.int .i64 0, .slice none 0 0] 121)).drewN nq).setCell ⟨X,0,none⟩ (.slice (some ad) (m - 2) 0)).setCell ⟨X,1,none⟩ (.int .i64 (t:Int))).setCell ⟨w.heap.size,0,none⟩ (.int .i64 (t:Int))).setCell ⟨w.heap.size,1,none⟩ (.slice (some ad) 0 0)).alloc (.cells #[.int .i64 (t:Int), .slice (some ad) 0 0] 121):=⟨_,rfl⟩
   rw[←hW]
   obtain⟨h1,h3,hg⟩:=Me HK.out _ _ _ _ _ _ _ _ hW
   have hb:=Hc hg hX
   rw[HMQ.out]at h3
   exact bodyPost_ret (Ab Tryz.results148 _ W w.heap.size 121 #[.int .i64 (t:Int), .slice (some ad) 0 0] (0,0) _ rfl h1 Tryz.underlying121 rfl Ig) rfl ⟨some ad,0,some ad,0,rfl,h3,Sd _ _ _,by rw[HD0.out];exact Sd _ _ _,hg⟩
  ·subst e1
   subst hn0
   have e3:ad.add 2=⟨ad.block,ad.off+2,none⟩:=by unfold Addr.add;simp
   have hd:=HD.out
   rw[e3]at hd
   replace HD:=Lib.hid hd
   clear hd e3
   go_enter Tryz.func148, Tryz.ntmps148
   go_wp2
   go_quiet (fail)
   go_wp2
   obtain⟨W,hW⟩: ∃W,W=((((((w.alloc (.cells #[.int .i64 0, .slice none 0 0] 121)).drewN nq).setCell ⟨X,0,none⟩ (.slice (some ⟨ad.block,ad.off+2,none⟩) (m - 2) (c - 2))).setCell ⟨X,1,none⟩ (.int .i64 (t:Int))).setCell ⟨w.heap.size,0,none⟩ (.int .i64 (t:Int))).setCell ⟨w.heap.size,1,none⟩ (.slice (some ad) 0 0)).alloc (.cells #[.int .i64 (t:Int), .slice (some ad) 0 0] 121):=⟨_,rfl⟩
   rw[←hW]
   obtain⟨h1,h3,hg⟩:=Me HK.out _ _ _ _ _ _ _ _ hW
   have hb:=Hc hg hX
   rw[HMQ.out]at h3
   exact bodyPost_ret (Ab Tryz.results148 _ W w.heap.size 121 #[.int .i64 (t:Int), .slice (some ad) 0 0] (0,0) _ rfl h1 Tryz.underlying121 rfl Ig) rfl ⟨some ad,0,some ⟨ad.block,ad.off+2,none⟩,(c - 2),rfl,h3,Sd _ _ _,HD.out.below hb,hg⟩
 ·by_cases e2:c=q
  ·have hd0:r.drop n=[]:=List.drop_eq_nil_of_le (by have h3:=HM.out;have h4:=HQ.out;omega)
   have HD0:=Lib.hid hd0
   clear hd0
   go_enter Tryz.func148, Tryz.ntmps148
   go_wp2
   go_quiet (fail)
   go_wp2
   obtain⟨W,hW⟩: ∃W,W=((((((w.alloc (.cells #[.int .i64 0, .slice none 0 0] 121)).drewN nq).setCell ⟨X,0,none⟩ (.slice (some ad) (m - q) 0)).setCell ⟨X,1,none⟩ (.int .i64 (t:Int))).setCell ⟨w.heap.size,0,none⟩ (.int .i64 (t:Int))).setCell ⟨w.heap.size,1,none⟩ (.slice (some ⟨ad.block,ad.off+2,none⟩) (q - 2) (q - 2))).alloc (.cells #[.int .i64 (t:Int), .slice (some ⟨ad.block,ad.off+2,none⟩) (q - 2) (q - 2)] 121):=⟨_,rfl⟩
   rw[←hW]
   obtain⟨h1,h3,hg⟩:=Me HK.out _ _ _ _ _ _ _ _ hW
   have hb:=Hc hg hX
   rw[HMQ.out]at h3
   rw[HQ2.out]at h1
   exact bodyPost_ret (Ab Tryz.results148 _ W w.heap.size 121 #[.int .i64 (t:Int), .slice (some ⟨ad.block,ad.off+2,none⟩) n n] (0,0) _ rfl h1 Tryz.underlying121 rfl Ig) rfl ⟨some ⟨ad.block,ad.off+2,none⟩,n,some ad,0,rfl,h3,HV.out.below hb,by rw[HD0.out];exact Sd _ _ _,hg⟩
  ·go_enter Tryz.func148, Tryz.ntmps148
   go_wp2
   go_quiet (fail)
   go_wp2
   obtain⟨W,hW⟩: ∃W,W=((((((w.alloc (.cells #[.int .i64 0, .slice none 0 0] 121)).drewN nq).setCell ⟨X,0,none⟩ (.slice (some (ad.add q)) (m - q) (c - q))).setCell ⟨X,1,none⟩ (.int .i64 (t:Int))).setCell ⟨w.heap.size,0,none⟩ (.int .i64 (t:Int))).setCell ⟨w.heap.size,1,none⟩ (.slice (some ⟨ad.block,ad.off+2,none⟩) (q - 2) (q - 2))).alloc (.cells #[.int .i64 (t:Int), .slice (some ⟨ad.block,ad.off+2,none⟩) (q - 2) (q - 2)] 121):=⟨_,rfl⟩
   rw[←hW]
   obtain⟨h1,h3,hg⟩:=Me HK.out _ _ _ _ _ _ _ _ hW
   have hb:=Hc hg hX
   rw[HMQ.out]at h3
   rw[HQ2.out]at h1
   exact bodyPost_ret (Ab Tryz.results148 _ W w.heap.size 121 #[.int .i64 (t:Int), .slice (some ⟨ad.block,ad.off+2,none⟩) n n] (0,0) _ rfl h1 Tryz.underlying121 rfl Ig) rfl ⟨some ⟨ad.block,ad.off+2,none⟩,n,some (ad.add q),(c - q),rfl,h3,HV.out.below hb,HD.out.below hb,hg⟩
theorem yC (t n:Nat) (r:List Nat) (f:Tf) (hf:f=⟨t,r.take n⟩) (p:List Nat) (hp:p=r.drop n) (m:Nat) (hm:m=r.length+2) (c a X:Nat) (A:Option Addr) (w:World) (hK:Dx w X A m c a) (hA:Bs w X (t::n::r) A c) (h:a<t) (h2:n≤r.length):
  Calls Tryz.prog 148 #[.pointer (some ⟨X,0,none⟩)] w fun e w'=> ∃S cs A' c',e= .returned (.tuple #[.agg #[.int .i64 f.tag, .slice S f.val.length cs], .int .i64 0])∧Dx w' X A' p.length c' t∧Bs w' X f.val S cs∧Bs w' X p A' c'∧w.grownBy w' (some X):=by
 have hl:(r.take n).length=n:=by rw[List.length_take];omega
 refine(Acl t n r m hm c a X A w hK hA h h2).mono ?_
 rintro e w' ⟨S,cs,A',c',rfl,h1,h2,h3,h4⟩
 subst hf hp
 exact⟨S,cs,A',c',by rw[hl],by rw[List.length_drop];exact h1,h2,h3,h4⟩
theorem gM (l:List Tf) (n:Nat) (hn:n=l.length) (b:Bool) (hb:isT 0 l=b) (A:Option Addr) (c:Nat) (w:World) (hA:Ts w w.heap.size l A c):
  Calls Tryz.prog 81 #[.slice A n c] w fun e w'=>e= .returned (.bool b)∧Below w.heap.size w w':=by
 have h1:n≤9223372036854775807:=by have h1:=hA.len;have h2:=hA.cap;omega
 have HN:=Lib.hid hn
 have HB:=Lib.hid hb
 have HA:=Lib.hid hA
 clear hn hb hA
 go_enter Tryz.func81, Tryz.ntmps81
 go_wp2
 go_loopw [3,8] (fun a i wr=> ∃k:Nat,k≤n∧i= .int .i64 k∧a= .int .i64 (Fk 0 (l.take k))∧isT 0 (l.take k)=true∧Below w.heap.size w wr) (fun _ i _=>n - (intOf i).toNat)
 case atStart=>exact⟨0,Nat.zero_le _,rfl,rfl,rfl,Below.refl _ _⟩
 case round=>
  obtain⟨k,hk,rfl,rfl,hall,hbel⟩:=hrel
  have HH:=Lib.hid hall
  have HBL:=Lib.hid hbel
  clear hall hbel
  by_cases hlt:k<n
  ·obtain⟨ad,S,cc,rfl,had,hk4⟩:=(HA.out.below HBL.out).rd k (by rw[←HN.out];exact hlt)
   have hc0:=hk4.c0
   have hc1:=hk4.c1
   have hcap:=hk4.bs.len
   have hcap2:=hk4.bs.cap
   have HKL:=Lib.hid (show k<l.length by rw[←HN.out];exact hlt)
   have b1:(0:Int)≤(k:Int):=by omega
   have b2:(k:Int)<(n:Int):=by omega
   have HBAD:=Lib.hid (fun h=>HB.out.symm.trans (rS l k HKL.out h))
   have HOK:=Lib.hid (fun h=>iX l k HKL.out HH.out h)
   obtain⟨x,hx⟩: ∃x,x=l.getD k TF0:=⟨_,rfl⟩
   obtain⟨a,ha⟩: ∃a,a=Fk 0 (l.take k):=⟨_,rfl⟩
   rw[←hx]at hc0 hc1 hcap HBAD HOK
   rw[←ha]at HBAD HOK⊢
   have HB2:=Lib.hid (show Below w.heap.size w (wr.alloc (.cells #[.int .i64 x.tag, .slice S x.val.length cc] 121))from HBL.out.trans ((Aa wr _ _).mono HBL.out.size))
   clear hx ha hk4
   by_cases q1:x.tag≤a
   ·have e:=HBAD.out (by rw[←Bool.not_eq_true,Ca];omega)
    have HE:=Lib.hid e
    clear e
    go_wp2
    go_ret
    exact⟨by rw[HE.out];rfl,HB2.out⟩
   by_cases q2:255<x.tag
   ·have e:=HBAD.out (by rw[←Bool.not_eq_true,Ca];omega)
    have HE:=Lib.hid e
    clear e
    go_wp2
    go_ret
    exact⟨by rw[HE.out];rfl,HB2.out⟩
   by_cases q3:255<x.val.length
   ·have e:=HBAD.out (by rw[←Bool.not_eq_true,Ca];omega)
    have q4:(255:Int)<(x.val.length:Int):=by omega
    have HE:=Lib.hid e
    clear e
    go_wp2
    go_ret
    exact⟨by rw[HE.out];rfl,HB2.out⟩
   have q4: ¬(255:Int)<(x.val.length:Int):=by omega
   have HO:=Lib.hid (HOK.out ((Ca _ _ _).2 ⟨by omega,by omega,by omega⟩))
   go_wp2
   go_roundw
   case rel=>exact⟨k+1,by omega,by go_num,by rw[HO.out.2],HO.out.1,HB2.out⟩
   case measure=>simp[intOf];omega
  ·have e:k=n:=by omega
   have e2:l.take k=l:=List.take_of_length_le (by rw[←HN.out];omega)
   have HE:=Lib.hid (show b=true by rw[←HB.out, ←e2];exact HH.out)
   clear e2
   go_wp2
   go_ret
   exact⟨by rw[HE.out];rfl,HBL.out⟩
end Go.Proofs.YtmdbfogjfbbpjaaGreatDoor
end
