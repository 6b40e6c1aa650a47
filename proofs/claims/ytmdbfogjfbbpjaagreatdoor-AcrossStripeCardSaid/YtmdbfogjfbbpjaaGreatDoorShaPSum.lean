import Derived.Test.YtmdbfogjfbbpjaaGreatDoorShaPad
import Derived.Test.YtmdbfogjfbbpjaaGreatDoorMem
import Derived.Test.YtmdbfogjfbbpjaaGreatDoorTrackBackMath
import Derived.OneCell
import Derived.StillTailTactics
import Derived.Test.YtmdbfogjfbbpjaaGreatDoorLineMath
import Derived.Test.YtmdbfogjfbbpjaaGreatDoorLayPFields
import Derived.Test.YtmdbfogjfbbpjaaGreatDoorRingAddMath
set_option maxHeartbeats 1600000
set_option maxRecDepth 100000
set_option linter.unusedVariables false
section
namespace Go.Proofs.YtmdbfogjfbbpjaaGreatDoor
set_option maxRecDepth 100000
open Go.ChangeShapes Go.WideShapes Go.ChangeAt Go.RowKit
def Eo (h:St) (p:List Nat):Nat→St
 |0=>h
 |j+1=>Fm (Eo h p j) (wordsOf ((p.drop (64*j)).take 64))
theorem Lo {h:St} (hh:h.ok) (p:List Nat) (j:Nat):(Eo h p j).ok:=by
 cases j with
 |zero=>exact hh
 |succ j=>exact iS _ _
theorem Nx:Cr.ok:=by unfold St.ok Cr;decide
def kA (l:List Nat):Nat:=(padN l).length / 64
theorem Il (l:List Nat):(padN l).length=64*kA l:=by
 unfold kA;rw[Fb];unfold Cg;omega
theorem kB (l:List Nat):0<kA l:=by
 have:=Il l;rw[Fb]at this;omega
def Afa (l:List Nat):St:=Eo Cr (padN l) (kA l)
def digestN (l:List Nat):List Nat:=bytesOf (Afa l).list
theorem Adu (h:St) (W:List Nat) (w:World) (hT:Cx w) (hh:h.ok) (hx: ∀x∈W,x<4294967296) (hl:W.length=16):
  Calls Tryz.prog 199 #[h.val, .agg (U32 W).toArray] w fun e w'=> ∃R,Hid (R=Fm h W)∧e= .returned (.agg #[.int .u32 R.a, .int .u32 R.b, .int .u32 R.c, .int .u32 R.d, .int .u32 R.e, .int .u32 R.f, .int .u32 R.g, .int .u32 R.h])∧Below w.heap.size w w':=
 (pY h W w hT hh hx hl).mono fun _ _ ⟨a,b⟩=>⟨_,Lib.hid rfl,a,b⟩
theorem AaH (w3:World) (S:Nat) (V R:St) (t:TypeId) (hv:w3.heap[S]?=some (.cells (U32 V.list).toArray t (0,0))) (w':World) (h:w'=((((((((w3.setCell ⟨S,0,none⟩ (.int .u32 R.a)).setCell ⟨S,1,none⟩ (.int .u32 R.b)).setCell ⟨S,2,none⟩ (.int .u32 R.c)).setCell ⟨S,3,none⟩ (.int .u32 R.d)).setCell ⟨S,4,none⟩ (.int .u32 R.e)).setCell ⟨S,5,none⟩ (.int .u32 R.f)).setCell ⟨S,6,none⟩ (.int .u32 R.g)).setCell ⟨S,7,none⟩ (.int .u32 R.h))):
  w'.heap[S]?=some (.cells (U32 R.list).toArray t (0,0))∧Below S w3 w'∧ ∀k,k≠S→w'.heap[k]?=w3.heap[k]?:=by
 subst h
 refine⟨AfF w3 S V t hv _ _ _ _ _ _ _ _, ?_,fun k hk=> ?_⟩
 ·have hle:=Nat.le_refl S
  exact((((((((Below.refl _ _).setCell hle _).setCell hle _).setCell hle _).setCell hle _).setCell hle _).setCell hle _).setCell hle _).setCell hle _
 ·simp only[heap_setCell_other _ _ k _ (show k≠(⟨S,_,none⟩:Addr).block from hk)]
theorem oW {w:World} {g:Nat} {V:St} {t:TypeId} (h:w.heap[g]?=some (.cells (U32 V.list).toArray t (0,0))):w.cell? ⟨g,0,none⟩=some (.int .u32 (V.a:Int))∧w.cell? ⟨g,1,none⟩=some (.int .u32 (V.b:Int))∧w.cell? ⟨g,2,none⟩=some (.int .u32 (V.c:Int))∧w.cell? ⟨g,3,none⟩=some (.int .u32 (V.d:Int))∧w.cell? ⟨g,4,none⟩=some (.int .u32 (V.e:Int))∧w.cell? ⟨g,5,none⟩=some (.int .u32 (V.f:Int))∧w.cell? ⟨g,6,none⟩=some (.int .u32 (V.g:Int))∧w.cell? ⟨g,7,none⟩=some (.int .u32 (V.h:Int)):=by
 have hlc: ∀i (v:Nat),V.list[i]?=some v→w.cell? ⟨g,i,none⟩=some (.int .u32 (v:Int)):=by
  intro i v hv
  rw[cell_of_row w g i _ _ (0,0) h,List.getElem?_toArray,U32,List.getElem?_map,hv];rfl
 exact⟨hlc 0 _ rfl,hlc 1 _ rfl,hlc 2 _ rfl,hlc 3 _ rfl,hlc 4 _ rfl,hlc 5 _ rfl,hlc 6 _ rfl,hlc 7 _ rfl⟩
theorem AfG {w:World} {g:Nat} {V:St} {t:TypeId} (h:w.heap[g]?=some (.cells (U32 V.list).toArray t (0,0))):w.frozen? ⟨g,0,none⟩=false∧w.frozen? ⟨g,1,none⟩=false∧w.frozen? ⟨g,2,none⟩=false∧w.frozen? ⟨g,3,none⟩=false∧w.frozen? ⟨g,4,none⟩=false∧w.frozen? ⟨g,5,none⟩=false∧w.frozen? ⟨g,6,none⟩=false∧w.frozen? ⟨g,7,none⟩=false:=by
 have hf: ∀i,w.frozen? ⟨g,i,none⟩=false:=fun i=>frozen_of_row w g i _ _ h
 exact⟨hf 0,hf 1,hf 2,hf 3,hf 4,hf 5,hf 6,hf 7⟩
theorem Cx.begin {w:World} (h:Cx w) (i v:Nat) (hi:Cr.list[i]?=some v):w.cell? ⟨0,i,none⟩=some (.int .u32 (v:Int))∧ 0 <w.heap.size:=by
 obtain⟨ad,he,hlt,hc⟩:=h.2 i (.int .u32 (v:Int)) (by rw[U32,List.getElem?_map,hi];rfl)
 cases he
 rw[Bu]at hc
 exact⟨hc,hlt⟩
theorem Rd.from {w:World} {B g k:Nat} {xs:List Value} (h:Rd w B (some ⟨g,0,none⟩) xs):Rd w B (some ⟨g,k,none⟩) (xs.drop k):=by
 intro i u hu
 rw[List.getElem?_drop]at hu
 obtain⟨ad,he,hlt,hc⟩:=h (k+i) u hu
 cases he
 refine⟨_,rfl,hlt, ?_⟩
 have e:(⟨g,k,none⟩:Addr).add i=⟨g,k+i,none⟩:=by
  unfold Addr.add
  split
  ·next h0=>subst h0;rfl
  ·rfl
 rw[e, ←hc,Bu]
theorem kC {w w':World} {ca cb:Array Value} {ta tb:TypeId} (h:w'=(w.alloc (.cells ca ta)).alloc (.cells cb tb)):
  w'.heap.size=w.heap.size+1+1∧w'.heap[w.heap.size]?=some (.cells ca ta (0,0))∧w'.heap[w.heap.size+1]?=some (.cells cb tb (0,0))∧Below w.heap.size w w':=by
 subst h
 exact⟨by simp,heap_alloc2_old _ _ _,heap_alloc2_new _ _ _,((Below.refl _ _).alloc (Nat.le_refl _) _).alloc (by simp) _⟩
theorem Adv (l:List Nat) (n:Nat) (hn:n=l.length) (A:Option Addr) (c:Nat) (w:World) (hA:Rd w w.heap.size A (U8 l)) (hnil:A=none→c=0) (hl:n≤140737488351232):
  Calls Tryz.prog 198 #[.slice A n c] w fun e w'=> ∃v,e= .returned v∧w'.ownsRow w.heap.size 5 1 v (padN l).length (U8 (padN l))∧Below w.heap.size w w':=by
 subst hn
 exact Aft l A c w hA hnil hl
theorem eU (l:List Nat) (k:Nat):(U8 l).drop k=U8 (l.drop k):=by simp[U8]
def AfX (g n:Nat) (v:Value) (j:Nat):Prop:= ∃ad r q,v= .slice (some ad) r q∧r+64*j=n∧r≤q∧q≤maxLen∧(0<r→ad=⟨g,64*j,none⟩)
theorem Afb (l:List Nat) (A:Option Addr) (c:Nat) (w:World) (hT:Cx w) (hA:Rd w w.heap.size A (U8 l)) (hnil:A=none→c=0) (hb: ∀x∈l,x<256) (hl:l.length≤5000):
  Calls Tryz.prog 157 #[.slice A l.length c] w fun e w'=>e= .returned (.agg (U8 (digestN l)).toArray)∧Below w.heap.size w w':=by
 obtain⟨c0,hg1⟩:=hT.begin 0 _ rfl
 have c1:=(hT.begin 1 _ rfl).1
 have c2:=(hT.begin 2 _ rfl).1
 have c3:=(hT.begin 3 _ rfl).1
 have c4:=(hT.begin 4 _ rfl).1
 have c5:=(hT.begin 5 _ rfl).1
 have c6:=(hT.begin 6 _ rfl).1
 have c7:=(hT.begin 7 _ rfl).1
 have HT:=Lib.hid hT
 obtain⟨n0,hn0⟩: ∃n0,n0=l.length:=⟨_,rfl⟩
 have HN0:=Lib.hid hn0
 have HNIL:=Lib.hid hnil
 have HA:=Lib.hid hA
 have HB:=Lib.hid hb
 rw[←hn0]at hl⊢
 clear hT hn0 hnil hA hb
 go_enter Tryz.func157, Tryz.ntmps157
 go_wp2_with fail
 obtain⟨w0,hw0⟩: ∃w0:World,w0=(w.alloc (.cells b32 83)).alloc (.cells (U32 Cr.list).toArray 193):=⟨_,rfl⟩
 obtain⟨hs0,hr0,hv0,hb0⟩:=kC hw0
 refine(Adv l n0 HN0.out A c _ ((HA.out.below (by rw[hw0]at hb0;exact hb0)).more (by simp;omega)) HNIL.out (by omega)).mono ?_
 rintro e w1 ⟨v1,rfl,hown1,hb1⟩
 replace hb1:Below w0.heap.size w0 w1:=by rw[hw0];exact hb1
 have hown1':w1.ownsRow w0.heap.size 5 1 v1 (padN l).length (U8 (padN l)):=by rw[hw0];exact hown1
 rw[Il]at hown1'
 have hm0:=kB l
 have hm1:kA l≤80:=by have:=Il l;rw[Fb, ←HN0.out]at this;unfold Cg at this;omega
 obtain⟨m,hm⟩: ∃m,m=kA l:=⟨_,rfl⟩
 rw[←hm]at hown1' hm0 hm1
 obtain⟨g,cap,rfl,hgb⟩:=hown1'.form (by omega)
 have hcap:64*m≤cap∧cap≤maxLen:=by
  rcases hown1'.2 with⟨h,_⟩|⟨g',cap',cur,h,_,_,h1,h2,_⟩
  ·cases h
  ·simp at h;obtain⟨_,rfl⟩:=h;exact⟨h1,h2⟩
 obtain⟨hcap1,hcap2⟩:=hcap
 have hs1:w.heap.size+1+1≤w1.heap.size:=by have:=hb1.size;omega
 have hr1:w1.heap[w.heap.size]?=some (.cells b32 83 (0,0)):=(hb1.block _ (by omega)).trans hr0
 have hv1:w1.heap[w.heap.size+1]?=some (.cells (U32 Cr.list).toArray 193 (0,0)):=(hb1.block _ (by omega)).trans hv0
 have hbw:Below w.heap.size w w1:=hb0.trans (hb1.mono hb0.size)
 have hgs:w.heap.size+1<g:=by have:=Ak hown1' (g:=g) rfl;omega
 have hgl:g<w1.heap.size:=by
  obtain⟨ad,he,hlt,_⟩:=(Rd.of_own hown1') 0 _ (Co (padN l) 0 (by rw[Il, ←hm];omega))
  cases he;exact hlt
 have HM:=Lib.hid hm
 have HO1:=Lib.hid hown1'
 have HR1:=Lib.hid hr1
 have HV1:=Lib.hid hv1
 have HBW:=Lib.hid hbw
 have HPB:=Lib.hid (sV l HB.out)
 clear hown1 hown1' hr1 hv1 hbw hb0 hb1 hs0 hr0 hv0 hw0 hm c0 c1 c2 c3 c4 c5 c6 c7
 go_wp2_with fail
 go_loopw [4] (fun v wr=> ∃j:Nat,j≤m∧AfX g (64*m) v j∧wr.heap[w.heap.size+1]?=some (.cells (U32 (Eo Cr (padN l) j).list).toArray 193 (0,0))∧Below (w.heap.size+1) w1 wr∧wr.heap[g]?=w1.heap[g]?) (fun v _=>xB v)
 case atStart=>exact⟨0,Nat.zero_le _,⟨_,_,_,rfl,by omega,hcap1,hcap2,fun _=>rfl⟩,HV1.out,Below.refl _ _,rfl⟩
 case round=>
  obtain⟨j,hj,⟨ad,r,q,rfl,hrj,hrq,hqm,had⟩,hv,hbel,hgk⟩:=hrel
  by_cases hlt:0<r
  ·obtain rfl:=had hlt
   have hjm:j<m:=by omega
   have hr64:64≤r:=by omega
   have hgw:g<wr.heap.size:=by have:=hbel.size;omega
   have hrd0:Rd wr.drew wr.drew.heap.size (some ⟨g,0,none⟩) (U8 (padN l)):=by
    intro k u hu
    obtain⟨ad,he,_,hc⟩:=(Rd.of_own HO1.out) k u hu
    cases he
    refine⟨_,rfl,hgw, ?_⟩
    rw[Bu]at hc⊢
    exact(World.cell?_of_block (w:=w1) (w':=wr) hgk).trans hc
   have hrd:=hrd0.from (k:=64*j)
   rw[eU]at hrd
   have hlq:((padN l).drop (64*j)).length=r:=by rw[List.length_drop,Il, ←HM.out];omega
   have hbq: ∀x∈(padN l).drop (64*j),x<256:=fun x hx=>HPB.out x (List.mem_of_mem_drop hx)
   have hnext:Eo Cr (padN l) (j+1)=Fm (Eo Cr (padN l) j) (wordsOf (((padN l).drop (64*j)).take 64)):=rfl
   have hok:=Lo Nx (padN l) j
   have hT2:Cx wr.drew:=HT.out.next (HBW.out.trans ((hbel.mono (by omega)).drew))
   obtain⟨W,hWE⟩: ∃W,W=wordsOf (((padN l).drop (64*j)).take 64):=⟨_,rfl⟩
   have hW1:W.length=16:=by rw[hWE,Ji,List.length_take,hlq,Nat.min_eq_left hr64]
   have hW2: ∀x∈W,x<4294967296:=by rw[hWE];exact Xx _ (fun x hx=>hbq x (List.mem_of_mem_take hx))
   have hbwc:=Xv ((padN l).drop (64*j)) ⟨g,64*j,none⟩ r q wr.drew hrd hbq hlq hr64 hrq hqm
   rw[←hWE]at hnext hbwc
   obtain⟨V,hVE⟩: ∃V,V=Eo Cr (padN l) j:=⟨_,rfl⟩
   rw[←hVE]at hv hnext hok
   have HNX:=Lib.hid hnext
   have HBWC:=Lib.hid hbwc
   have HOK:=Lib.hid hok
   have HT2:=Lib.hid hT2
   have HW1:=Lib.hid hW1
   have HW2:=Lib.hid hW2
   have HV:=Lib.hid hv
   have HGK:=Lib.hid hgk
   have hrp:(0:Int)<(r:Int):=by omega
   unfold maxLen at hqm
   clear hrd0 hrd hlq hbq hnext hok hT2 hW1 hW2 hWE hbwc hv hVE hgk had
   go_wp2_with fail
   obtain⟨a0,a1,a2,a3,a4,a5,a6,a7⟩:=oW HV.out
   have hgw2:w.heap.size+1<wr.heap.size:=by omega
   go_region_law (first
    |(go_simp;go_at_call 200;refine HBWC.out.mono ?_;rintro e w2 ⟨rfl,hb2⟩;have hs2:wr.heap.size≤w2.heap.size:=hb2.size;have HV2:=Lib.hid ((hb2.block (w.heap.size+1) hgw2).trans HV.out);obtain⟨b0,b1,b2,b3,b4,b5,b6,b7⟩:=oW HV2.out)
    |(go_simp;go_at_call 199;refine(Adu V W w2 (HT2.out.next hb2) HOK.out HW2.out HW1.out).mono ?_;rintro e w3 ⟨R,HRE,rfl,hb3⟩;have HV3:=Lib.hid ((hb3.block (w.heap.size+1) (by omega)).trans HV2.out);obtain⟨d0,d1,d2,d3,d4,d5,d6,d7⟩:=oW HV3.out;obtain⟨z0,z1,z2,z3,z4,z5,z6,z7⟩:=AfG HV3.out;have hs3:w2.heap.size≤w3.heap.size:=hb3.size))
   all_goals clear a0 a1 a2 a3 a4 a5 a6 a7 b0 b1 b2 b3 b4 b5 b6 b7 d0 d1 d2 d3 d4 d5 d6 d7 z0 z1 z2 z3 z4 z5 z6 z7
   all_goals by_cases hq64:q=64
   all_goals go_wp2
   all_goals
    obtain⟨q1,q2,q3⟩:=AaH w3 (w.heap.size+1) V R 193 HV3.out _ rfl
    refine⟨⟨j+1,by omega,⟨_,_,_,rfl,by omega,by omega,by unfold maxLen;omega, ?_⟩, ?_, ?_, ?_⟩,by simp only[xB];omega⟩
    ·first
      |(intro h;exfalso;omega)
      |(intro _;rw[Nat.mul_succ])
    ·rw[q1,HNX.out, ←HRE.out]
    ·exact((hbel.drew.trans (hb2.mono (by show _≤wr.heap.size;omega))).trans (hb3.mono (by omega))).trans q2
    ·exact(q3 g (by omega)).trans ((hb3.block g (by omega)).trans ((hb2.block g hgw).trans HGK.out))
  ·have hjm:j=m:=by omega
   subst hjm
   have hr0:r=0:=by omega
   subst hr0
   obtain⟨V,hVE⟩: ∃V,V=Eo Cr (padN l) j:=⟨_,rfl⟩
   have hok:V.ok:=by rw[hVE];exact Lo Nx _ _
   rw[←hVE]at hv
   have hdg:digestN l=bytesOf V.list:=by rw[hVE,HM.out];rfl
   have hres:wr.heap[w.heap.size]?=some (.cells b32 83 (0,0)):=(hbel.block _ (by omega)).trans HR1.out
   have hbb:Below w.heap.size w wr:=HBW.out.trans (hbel.mono (by omega))
   have hsr:w.heap.size+1<wr.heap.size:=by have:=hbel.size;omega
   have HV:=Lib.hid hv
   have HOK:=Lib.hid hok
   have HDG:=Lib.hid hdg
   have HRES:=Lib.hid hres
   clear hv hVE hok hdg hres hbel hgk had
   go_wp2_with ((with_reducible refine Dl 17 ?_);refine wpList_load_row (o:=⟨some 17, .load 193 (.tmp 3),_,_,_,_⟩) rfl 193 (.tmp 3) rfl (w.heap.size+1) rfl 193 (U32 V.list).toArray (0,0) _ HV.out Tryz.underlying193 rfl Kf ?_)
   refine(qA V wr HOK.out).mono ?_
   rintro e w2 ⟨rfl,hb2⟩
   obtain⟨D,hD⟩: ∃D,D=bytesOf V.list:=⟨_,rfl⟩
   rw[←hD]
   have hDl:D.length=32:=by rw[hD,Fd];rfl
   have hsz:(U8 D).toArray.size=32:=by simp[U8,hDl]
   have hin:(Tryz.prog.info? 83).map (·.size)=some (U8 D).toArray.size:=by rw[hsz];exact Na
   have HRES2:=Lib.hid ((hb2.block w.heap.size (by omega)).trans HRES.out)
   have HSZ:=Lib.hid hsz
   have HIN:=Lib.hid hin
   have HD:=Lib.hid hD
   clear hD hDl hsz hin
   go_wp2_with ((with_reducible refine Ac 2 ?_);refine Al HRES2.out HIN.out (Bv D) ?_ (hold:=HSZ.out.symm);intro w3 hw3)
   have hr3:w3.heap[w.heap.size]?=some (.cells (U8 D).toArray 83 (0,0)):=by rw[hw3.out];exact setRow_heap _ _ _ _ _ _ HRES2.out
   refine bodyPost_ret (results_cell_row Tryz.results157 _ w3 w.heap.size 83 _ (0,0) _ rfl hr3 Tryz.underlying83 rfl HIN.out) rfl ⟨by rw[HDG.out,HD.out], ?_⟩
   exact(hbb.trans (hb2.mono (by omega))).trans (An hw3.out (Nat.le_refl _))
end Go.Proofs.YtmdbfogjfbbpjaaGreatDoor
end
section
namespace Go.Proofs.YtmdbfogjfbbpjaaGreatDoor
set_option maxRecDepth 100000

def keyN (l:List Nat):List Nat:=if 64<l.length then digestN l else l
def blockM (l:List Nat):List Nat:=keyN l++List.replicate (64 - (keyN l).length) 0
def maskN (k:List Nat) (m:Nat):List Nat:=k.map (· ^^^m)
def Zg (s b:List Nat):List Nat:=digestN (maskN (blockM s) 92++digestN (maskN (blockM s) 54++b))
theorem Cs (l:List Nat):(digestN l).length=32:=by unfold digestN;rw[Fd];rfl
theorem Sy (l:List Nat): ∀x∈digestN l,x<256:=qE _
theorem kD (l:List Nat):(keyN l).length≤64:=by
 unfold keyN
 split
 ·rw[Cs];omega
 ·omega
theorem Ej (l:List Nat):(blockM l).length=64:=by
 have:=kD l
 simp[blockM];omega
theorem Adw (l:List Nat) (h: ∀x∈l,x<256): ∀x∈keyN l,x<256:=by
 unfold keyN
 split
 ·exact Sy l
 ·exact h
theorem aZ (l:List Nat) (h: ∀x∈l,x<256): ∀x∈blockM l,x<256:=by
 intro x hx
 rcases List.mem_append.1 hx with h1|h1
 ·exact Adw l h x h1
 ·have:=(List.mem_replicate.1 h1).2;omega
theorem Ea (k:List Nat) (m:Nat):(maskN k m).length=k.length:=by simp[maskN]
theorem Adx {a b:Nat} (ha:a<256) (hb:b<256):a^^^b<256:=Nat.xor_lt_two_pow (n:=8) ha hb
theorem Xa (k:List Nat) (m:Nat) (hk: ∀x∈k,x<256) (hm:m<256): ∀x∈maskN k m,x<256:=by
 intro x hx
 simp only[maskN,List.mem_map]at hx
 obtain⟨y,hy,rfl⟩:=hx
 exact Adx (hk y hy) hm
def Fa (k:List Nat) (m j:Nat):List Nat:=(k.take j).map (· ^^^m)++k.drop j
theorem kE (k:List Nat) (m:Nat):Fa k m 0=k:=by simp[Fa]
theorem oX (k:List Nat) (m:Nat):Fa k m k.length=maskN k m:=by simp[Fa,maskN]
theorem Ou (k:List Nat) (m j:Nat):(Fa k m j).length=k.length:=by simp[Fa];omega
theorem oY (k:List Nat) (m j:Nat):(Fa k m j).getD j 0=k.getD j 0:=by
 unfold Fa
 by_cases h:j<k.length
 ·have hl:((k.take j).map (· ^^^m)).length=j:=by simp;omega
  rw[List.getD_eq_getElem?_getD,List.getElem?_append_right (by rw[hl];exact Nat.le_refl _),hl,Nat.sub_self,List.getElem?_drop,Nat.add_zero, ←List.getD_eq_getElem?_getD]
 ·have h1:(Fa k m j).length=k.length:=Ou k m j
  unfold Fa at h1
  rw[List.getD_eq_getElem?_getD,List.getD_eq_getElem?_getD,List.getElem?_eq_none (by omega),List.getElem?_eq_none (by omega)]
theorem oZ (k:List Nat) (m j:Nat) (h:j<k.length):(Fa k m j).set j (k.getD j 0^^^m)=Fa k m (j+1):=by
 unfold Fa
 have hl:((k.take j).map (· ^^^m)).length=j:=by simp;omega
 have e:k.take (j+1)=k.take j++ [k[j]]:=List.take_succ_eq_append_getElem h
 have eg:k.getD j 0=k[j]:=by rw[List.getD_eq_getElem?_getD,List.getElem?_eq_getElem h];rfl
 rw[List.set_append_right _ _ (by rw[hl];exact Nat.le_refl _),hl,Nat.sub_self,List.drop_eq_getElem_cons h,List.set_cons_zero,e,eg,List.map_append,List.append_assoc]
 rfl
theorem kF {k:List Nat} (hk: ∀x∈k,x<256) (j:Nat):k.getD j 0<256:=by
 rw[List.getD_eq_getElem?_getD]
 rcases h:k[j]? with _|y
 ·simp
 ·exact hk y (List.mem_of_getElem? h)
end Go.Proofs.YtmdbfogjfbbpjaaGreatDoor
end
section
namespace Go.Proofs.YtmdbfogjfbbpjaaGreatDoor
open Go.ChangeShapes Go.WideShapes Go.ChangeAt Go.RowKit
theorem Sz (l:List Nat) (k:Nat) (h:k<l.length):valB (l.take (k+1))=valB (l.take k)*256+l[k]:=by
 rw[List.take_succ_eq_append_getElem h,Ob]
theorem Lp (l:List Nat) (hl: ∀x∈l,x<256) (k:Nat) (h:k<8):valB (l.take k)<72057594037927936:=by
 have h1:=Gx (l.take k) (fun x hx=>hl x (List.mem_of_mem_take hx))
 have h2:256^(l.take k).length≤256^7:=Nat.pow_le_pow_right (by omega) (by simp;omega)
 omega
theorem bA (l:List Nat) (hl: ∀x∈l,x<256) (h8:l.length≤8) (h0:l.length=8→l.getD 0 0<128):valB l<9223372036854775808:=by
 rcases l with _|⟨x,l⟩
 ·simp[valB]
 ·have h1:=Gx l (fun y hy=>hl y (by simp[hy]))
  have h2:=hl x (by simp)
  rw[Kv]
  simp at h8 h0
  by_cases e:l.length=7
  ·have:=h0 e
   rw[e]at h1⊢
   omega
  ·have h3:256^l.length≤256^6:=Nat.pow_le_pow_right (by omega) (by omega)
   have h4:x*256^l.length≤255*256^6:=Nat.mul_le_mul (by omega) h3
   omega
theorem vS (a b:Nat) (ha:a<72057594037927936) (hb:b<256):bits .or .u64 ((a:Int)*256) (b:Int)=((a*256+b:Nat):Int):=by
 have e:(a:Int)*256=((a*256:Nat):Int):=by omega
 rw[e,u64_or_nat _ _ (by omega) (by omega)]
 have h:=Nat.two_pow_add_eq_or_of_lt (i:=8) (b:=b) (by omega) a
 simp only[Nat.reducePow]at h
 rw[Nat.mul_comm, ←h,Nat.mul_comm]
theorem eV (l:List Nat) (hl: ∀x∈l,x<256) (k:Nat) (h:k<l.length) (h8:l.length≤8) (h63:valB l<9223372036854775808):valB (l.take k)*256+l[k]≤9223372036854775807:=by
 rw[←Sz l k h]
 by_cases e:k+1<8
 ·have:=Lp l hl (k+1) e
  omega
 ·rw[List.take_of_length_le (by omega)];omega
theorem bB (l:List Nat) (A:Option Addr) (c B:Nat) (w:World) (hA:Rd w B A (U8 l)) (hb: ∀x∈l,x<256) (h8:l.length≤8) (h0:l.length=8→l.getD 0 0<128):
  Calls Tryz.prog 165 #[.slice A l.length c] w fun e w'=>e= .returned (.tuple #[.int .i64 (valB l:Nat), .int .i64 0])∧w=w':=by
 have h63:=bA l hb h8 h0
 obtain⟨n,hn⟩: ∃n,n=l.length:=⟨_,rfl⟩
 have hn8:n≤8:=by omega
 have HB:=Lib.hid hb
 have hcase:n<8∨8≤n∧ ∃(ad:Addr) (x:Nat),A=some ad∧w.cell? ad=some (.int .u8 (x:Int))∧(x:Int)<128:=by
  by_cases e8:n<8
  ·exact .inl e8
  ·obtain⟨ad,rfl,_,hc⟩:=hA 0 _ (Co l 0 (by omega))
   have e0:l.getD 0 0=l[0]:=by rw[List.getD_eq_getElem?_getD,List.getElem?_eq_getElem (by omega)];rfl
   have:=h0 (by omega)
   rw[Da]at hc
   exact .inr ⟨by omega,ad,_,rfl,hc,by omega⟩
 rw[←hn]
 have HN:=Lib.hid hn
 have H63:=Lib.hid h63
 clear hn h0 hb h8 h63
 rcases hcase with h|⟨h,ad0,x0,rfl,hc0,hx0⟩
 all_goals
  go_enter Tryz.func165, Tryz.ntmps165
  go_wp2
  go_loop [4,5] (fun t i=> ∃k:Nat,k≤n∧i= .int .i64 k∧t= .int .i64 (valB (l.take k):Nat)) (fun _ i=>n - (intOf i).toNat)
  case atStart=>exact⟨0,Nat.zero_le _,rfl,rfl⟩
  case round=>
   obtain⟨k,hk,rfl,rfl⟩:=hrel
   by_cases hlt:k<n
   ·have hkl:k<l.length:=by rw[←HN.out];exact hlt
    obtain⟨ad,hsome,_,hc⟩:=hA k _ (Co l k hkl)
    cases hsome
    have hv:=Lp l HB.out k (by omega)
    have hs:=Sz l k hkl
    have hv2:=eV l HB.out k hkl (by rw[←HN.out];exact hn8) H63.out
    have hx:=HB.out _ (List.getElem_mem hkl)
    generalize l[k]=x at*
    generalize valB (l.take k)=y at*
    have HS:=Lib.hid hs
    clear hA hkl hs
    go_wp2
    go_round
    case rel=>exact⟨k+1,by omega,by go_num,by rw[HS.out];go_num⟩
    case measure=>simp[intOf];omega
   ·have e:l.take k=l:=List.take_of_length_le (by rw[←HN.out];omega)
    rw[e]
    clear e
    have h63:=H63.out
    go_wp2
    go_ret2
    exact⟨rfl,rfl⟩
theorem sI:(Tryz.prog.info? 83).map (·.size)=some 32:=by kernel_rfl
theorem kG {w:World} {g:Nat} {F:Array Value} {l:List Nat} {t:TypeId} (n:Nat) (h:w.heap[g]?=some (.cells F t (0,0))) (hF:F=(U8 l).toArray):Rd w w.heap.size (some ⟨g,0,none⟩) (U8 (l.take n)):=by
 intro k u hu
 refine⟨_,rfl,(Array.getElem?_eq_some_iff.1 h).1, ?_⟩
 rw[Bu,cell_of_row w _ k _ _ (0,0) h,hF]
 have hk:(U8 (l.take n))[k]?=(U8 l)[k]?∨(U8 (l.take n))[k]?=none:=by
  simp only[U8,List.map_take,List.getElem?_take]
  split
  ·exact .inl rfl
  ·exact .inr rfl
 rcases hk with hk|hk
 ·rw[hk]at hu;simpa using hu
 ·rw[hk]at hu;cases hu
theorem Ady (l:List Nat) (hl:l.length=4) (A:Option Addr) (c B:Nat) (w:World) (hA:Rd w B A (U8 l)) (hb: ∀x∈l,x<256):
  Calls Tryz.prog 165 #[.slice A 4 c] w fun e w'=>e= .returned (.tuple #[.int .i64 (valB l:Nat), .int .i64 0])∧w=w':=by
 have h:=bB l A c B w hA hb (by omega) (by omega)
 rw[hl]at h
 exact h
theorem pA (l:List Nat) (F:Array Value) (hF:F=(U8 l).toArray) (w:World) (hb: ∀x∈l,x<256) (hl:l.length=32):
  Calls Tryz.prog 112 #[.agg F] w fun e w'=>e= .returned (.int .i64 (valB (l.take 4):Nat))∧Below w.heap.size w w':=by
 have hsF:F.size=32:=by rw[hF];simp[U8,hl]
 have hiF:(Tryz.prog.info? 83).map (·.size)=some F.size:=by rw[hsF];exact sI
 have hoF:F.all (·.oneCell')=true:=by rw[hF];exact Bv _
 have HIF:=Lib.hid hiF
 have HOF:=Lib.hid hoF
 have HSF:=Lib.hid hsF
 have HF:=Lib.hid hF
 have HB:=Lib.hid hb
 have HL:=Lib.hid hl
 clear hiF hoF hsF hF hb hl
 go_enter Tryz.func112, Tryz.ntmps112
 go_wp2_with fail
 refine(Ady (l.take 4) (by rw[List.length_take,HL.out];rfl) _ 32 _ (w.alloc (.cells F 83)) (kG 4 (heap_alloc_new w _) HF.out) (fun x hx=>HB.out x (List.mem_of_mem_take hx))).mono ?_
 rintro e w1 ⟨rfl,rfl⟩
 go_wp2
 go_ret
 exact⟨rfl,(Below.refl _ _).alloc (Nat.le_refl _) _⟩
theorem Adz (l:List Nat) (k:Nat) (h:k<l.length):valB (l.take (k+1))=valB (l.take k)*256+l.getD k 0:=by
 rw[List.take_succ_eq_append_getElem h,Ob,List.getD_eq_getElem?_getD,List.getElem?_eq_getElem h];rfl
theorem pB (l:List Nat) (h: ∀x∈l,x<256) (k:Nat) (hk:k≤4):valB (l.take k)<4294967296:=by
 have h1:=Gx (l.take k) (fun x hx=>h x (List.mem_of_mem_take hx))
 have h2:256^(l.take k).length≤256^4:=Nat.pow_le_pow_right (by omega) (by simp;omega)
 omega
theorem vT (a b:Nat) (ha:a<16777216) (hb:b<256):bits .or .i64 ((a:Int)*256) (b:Int)=((a*256+b:Nat):Int):=by
 have e:(a:Int)*256=((a*256:Nat):Int):=by omega
 have h:=Nat.two_pow_add_eq_or_of_lt (i:=8) (b:=b) (by omega) a
 simp only[Nat.reducePow]at h
 have hab:a*256|||b=a*256+b:=by rw[Nat.mul_comm, ←h,Nat.mul_comm]
 rw[e]
 show IntKind.i64.wrap ((BitVec.ofInt 64 ((a*256:Nat):Int)|||BitVec.ofInt 64 (b:Int)).toNat:Int)=_
 rw[BitVec.toNat_or,ofInt_u64 _ (by omega),ofInt_u64 b (by omega),hab]
 exact IntWalk.i64_in _ (by omega)
theorem Ad0 (l:List Nat) (F:Array Value) (hF:F=(U8 l).toArray) (w:World) (hb: ∀x∈l,x<256) (hl:l.length=32):
  Calls Tryz.prog 171 #[.agg F] w fun e w'=>e= .returned (.int .i64 (valB (l.take 4):Nat))∧Below w.heap.size w w':=by
 have hsF:F.size=32:=by rw[hF];simp[U8,hl]
 have hiF:(Tryz.prog.info? 83).map (·.size)=some F.size:=by rw[hsF];exact sI
 have hoF:F.all (·.oneCell')=true:=by rw[hF];exact Bv _
 have hrd:=kG 4 (heap_alloc_new w (.cells F 83)) hF
 have HRD:=Lib.hid hrd
 have HIF:=Lib.hid hiF
 have HOF:=Lib.hid hoF
 have HSF:=Lib.hid hsF
 have HF:=Lib.hid hF
 have HB:=Lib.hid hb
 have HL:=Lib.hid hl
 clear hiF hoF hsF hF hb hl hrd
 go_enter Tryz.func171, Tryz.ntmps171
 go_wp2
 go_loop [3,5,8] (fun t _ i=> ∃k:Nat,k≤4∧i= .int .i64 k∧t= .int .i64 (valB (l.take k):Nat)) (fun _ _ i=>4 - (intOf i).toNat)
 case atStart=>exact⟨0,Nat.zero_le _,rfl,rfl⟩
 case round=>
  obtain⟨k,hk,rfl,rfl⟩:=hrel
  by_cases hlt:k<4
  ·have hkl:k<(l.take 4).length:=by rw[List.length_take,HL.out];omega
   obtain⟨ad,e,_,hc⟩:=HRD.out k _ (Co (l.take 4) k hkl)
   cases e
   have hx:(l.take 4)[k]<256:=HB.out _ (List.mem_of_mem_take (List.getElem_mem hkl))
   have hv:=Adz l k (by rw[HL.out];omega)
   have e0:l.getD k 0=(l.take 4)[k]:=by
    rw[List.getD_eq_getElem?_getD,List.getElem?_eq_getElem (by rw[HL.out];omega),List.getElem_take];rfl
   rw[e0]at hv
   have hy:=pB l HB.out k (by omega)
   rw[Bu]at hc
   have hy2:valB (l.take k)<16777216:=by
    have h1:=Gx (l.take k) (fun x hx=>HB.out x (List.mem_of_mem_take hx))
    have h2:256^(l.take k).length≤256^3:=Nat.pow_le_pow_right (by omega) (by simp;omega)
    omega
   have HV:=Lib.hid hv
   clear e0 hv
   generalize (l.take 4)[k]=x at*
   generalize valB (l.take k)=y at*
   clear hkl
   go_wp2
   go_round
   case rel=>exact⟨k+1,by omega,by go_num,by rw[HV.out,vT y x hy2 hx]⟩
   case measure=>simp[intOf];omega
  ·have e:k=4:=by omega
   subst e
   go_wp2
   go_ret
   exact⟨rfl,(Below.refl _ _).alloc (Nat.le_refl _) _⟩
end Go.Proofs.YtmdbfogjfbbpjaaGreatDoor
end
section
namespace Go.Proofs.YtmdbfogjfbbpjaaGreatDoor
set_option maxRecDepth 100000
open Go.ChangeShapes Go.WideShapes Go.ChangeAt Go.RowKit
theorem vU (n:Nat) (w:World) (hn:n≤4294967295):
  Calls Tryz.prog 170 #[.int .i64 n] w fun e w'=> ∃g cap,e= .returned (.tuple #[.slice (some ⟨g,0,none⟩) 10 cap, .int .i64 0])∧
   Rd w' w'.heap.size (some ⟨g,0,none⟩) (U8 (dec n))∧Below w.heap.size w w':=by
 obtain⟨i0,hi,hz0,hz1,hz2⟩:=info_parts Be
 go_enter Tryz.func170, Tryz.ntmps170
 go_wp2_with (at_make;refine wpList_make_full _ rfl _ _ 23 rfl w.heap.size 5 i0 (.int .u8 0) 1 Tryz.underlying23 hi hz0 hz1 _ _ _ _ 10 rfl rfl (by omega) (by omega) ?b2 ?b3 (Nat.le_refl _) ?_)
 case b2=>rw[hz2];omega
 case b3=>unfold maxLen;omega
 intro w1 hown hg
 have hown1:w1.ownsRow w.heap.size 5 1 (.slice (some ⟨w.heap.size,0,none⟩) 10 10) 10 (U8 (Cu n 0)):=by
  rw[toList_madeCells_one]at hown
  rw[dV,U8,List.map_replicate]
  exact hown
 have hbel:Below w.heap.size w w1:=(Below.refl _ _).grown hg (Nat.le_refl _) (by simp)
 clear hown hg
 go_wp2
 go_loopw [0,5,13] (fun m _ i wr=> ∃k:Nat,k≤10∧i= .int .i64 k∧m= .int .i64 (n / 10^k:Nat)∧wr.ownsRow w.heap.size 5 1 (.slice (some ⟨w.heap.size,0,none⟩) 10 10) 10 (U8 (Cu n k))∧Below w.heap.size w wr) (fun _ _ i _=>10 - (intOf i).toNat)
 case atStart=>exact⟨0,Nat.zero_le _,rfl,by simp,hown1,hbel⟩
 case round=>
  clear hown1 hbel
  obtain⟨k,hk,rfl,rfl,hown,hbel⟩:=hrel
  by_cases hlt:k<10
  ·have hc2: ∃v,wr.cell? ⟨w.heap.size,9 - k,none⟩=some v:=by
    rw[hown.cellAt (9 - k) (by omega),U8,List.getElem?_map]
    rw[List.getElem?_eq_getElem (by rw[Wf];omega)]
    exact⟨_,rfl⟩
   obtain⟨v2,hc2⟩:=hc2
   have hf:=hown.frozenAt (9 - k)
   have hst:=(hown.stored (9 - k) (.int .u8 ((n / 10^k % 10:Nat):Int))).1
   have hset:(U8 (Cu n k)).set (9 - k) (.int .u8 ((n / 10^k % 10:Nat):Int))=U8 (Cu n (k+1)):=by
    rw[←iV n k hlt,U8,U8,List.map_set]
   rw[hset]at hst
   have hnx:n / 10^(k+1)=n / 10^k / 10:=by rw[Nat.pow_succ,Nat.div_div_eq_div_mul]
   have hy:n / 10^k≤4294967295:=Nat.le_trans (Nat.div_le_self _ _) hn
   have HNX:=Lib.hid hnx
   clear hset hnx
   generalize n / 10^k=y at*
   have HST:=Lib.hid hst
   have HOW:=Lib.hid hown
   clear hst hown
   have f1:((9:Int) - (k:Int)).toNat=9 - k:=by omega
   have f2:IntKind.i64.wrap ((9:Int) - (k:Int))=9 - (k:Int):=IntWalk.i64_in _ (by omega)
   have f3:(0:Int)≤9 - (k:Int):=by omega
   have f4:9 - (k:Int)<10:=by omega
   go_wp2
   go_roundw
   case rel=>
    refine⟨k+1,by omega,by go_num, ?_, ?_,hbel.setCell (Nat.le_refl _) _⟩
    ·rw[HNX.out];go_num
    ·exact HST.out
   case measure=>simp[intOf];omega
  ·have e1:k=10:=by omega
   subst e1
   rw[iW]at hown
   go_wp2
   go_ret2
   exact⟨_,_,rfl,Rd.of_own hown,hbel⟩
end Go.Proofs.YtmdbfogjfbbpjaaGreatDoor
end
section
namespace Go.Proofs.YtmdbfogjfbbpjaaGreatDoor
open Go.ChangeShapes Go.WideShapes Go.ChangeAt Go.RowKit
def bC (wr:World) (base n k:Nat) (v:Value):Prop:= ∃g cap,v= .slice (some ⟨g,0,none⟩) k cap∧wr.ownsRow base 5 1 (.slice (some ⟨g,0,none⟩) k cap) k (U8 (Qr n k))
theorem eW (n:Nat) (w:World) (hn:n≤4294967295):
  Calls Tryz.prog 111 #[.int .i64 n] w fun e w'=> ∃g cap,e= .returned (.tuple #[.slice (some ⟨g,0,none⟩) 10 cap, .int .i64 0])∧
   Rd w' w'.heap.size (some ⟨g,0,none⟩) (U8 (dec n))∧Below w.heap.size w w':=by
 obtain⟨i0,hi,hz0,hz1,hz2⟩:=info_parts Be
 go_enter Tryz.func111, Tryz.ntmps111
 go_wp2
 go_loopw [4,5,6] (fun v t i wr=> ∃k:Nat,k≤10∧i= .int .i64 k∧t= .int .i64 (1000000000 / 10^k:Nat)∧bC wr w.heap.size n k v∧Below w.heap.size w wr) (fun _ _ i _=>10 - (intOf i).toNat)
 case atStart=>exact⟨0,Nat.zero_le _,rfl,by simp,⟨_,_,rfl,World.ownsRow_lit w #[] 0 (Nat.le_refl _) (by decide) rfl⟩,(Below.refl _ _).alloc (Nat.le_refl _) _⟩
 case round=>
  obtain⟨k,hk,rfl,rfl,⟨g,cap,rfl,hown⟩,hbel⟩:=hrel
  by_cases hlt:k<10
  ·have hy2:1000000000 / 10^(k+1)=1000000000 / 10^k / 10:=by rw[Nat.pow_succ,Nat.div_div_eq_div_mul]
   have hb1:1≤1000000000 / 10^k:=by rw[Aak k (by omega)];exact Nat.pow_pos (by decide)
   have hb2:1000000000 / 10^k≤1000000000:=Nat.div_le_self _ _
   have hp:Qr n (k+1)=Qr n k++ [n / (1000000000 / 10^k) % 10]:=by rw[oB,We,Aak k (by omega)]
   generalize 1000000000 / 10^k=y at*
   obtain⟨q,hq⟩: ∃q,q=n / y:=⟨_,rfl⟩
   have hqlt:q≤4294967295:=by rw[hq];exact Nat.le_trans (Nat.div_le_self _ _) hn
   have hcast:((n:Int) / (y:Int))=(q:Int):=by rw[hq];simp
   rw[←hq]at hp
   have HY:=Lib.hid hy2
   have HP:=Lib.hid hp
   clear hy2 hp hq
   have y1:(1:Int)≤(y:Int):=by omega
   have q1:(n:Int) / (y:Int)≤4294967295:=by rw[hcast];omega
   have q0:0≤(n:Int) / (y:Int):=by rw[hcast];omega
   have hbs:=hbel.size
   have HOWN:=Lib.hid (Aj hown (Aa wr #[.int .u8 ((q:Int) % 10)] 5))
   have hrdl:=Cm wr #[.int .u8 ((q:Int) % 10)] 5
   have HRD:=Lib.hid hrdl
   have hone: ∀u∈ [Value.int .u8 ((q:Int) % 10)],u.oneCell'=true:=by
    intro u hu
    simp only[List.mem_cons,List.not_mem_nil,or_false]at hu
    subst hu;rfl
   clear hown hrdl
   go_wp2_with (at_builtin;refine Af _ rfl _ _ 23 rfl w.heap.size 5 i0 (.int .u8 0) 1 Tryz.underlying23 hi hz0 hz1 hz2 rfl _ k (U8 (Qr n k)) rfl HOWN.out _ _ 1 1 [.int .u8 ((q:Int) % 10)] rfl HRD.out rfl (fun h=>by cases h) hone ?c3 ?c4 ?c5 ?_)
   case c3=>unfold maxLen;omega
   case c4=>omega
   case c5=>first|omega|exact Nat.le_trans hbs (Aa wr _ _).size
   intro v' w1 hown' hgrow
   have hbel1:Below w.heap.size w w1:=(hbel.alloc hbs _).grown hgrow (by simp;omega) (fun j hj=>Ak HOWN.out hj)
   have hown1:w1.ownsRow w.heap.size 5 1 v' (k+1) (U8 (Qr n (k+1))):=by
    rw[HP.out,U8,List.map_append,List.map_cons,List.map_nil]
    have e:Value.int .u8 ((q % 10:Nat):Int)= .int .u8 ((q:Int) % 10):=by simp
    rw[e]
    exact hown'
   have hga:bC w1 w.heap.size n (k+1) v':=by
    obtain⟨g',cap',e,_⟩:=hown1.form (by omega)
    subst e
    exact⟨g',cap',rfl,hown1⟩
   have HG:=Lib.hid hga
   clear hown' hgrow hown1 hga hbel
   go_wp2
   go_roundw
   case rel=>exact⟨k+1,by omega,by go_num,by rw[HY.out];go_num,HG.out,hbel1⟩
   case measure=>simp[intOf];omega
  ·have ek:k=10:=by omega
   subst ek
   have hall:Qr n 10=dec n:=rfl
   rw[hall]at hown
   have HR:=Lib.hid (Rd.of_own hown)
   clear hown
   go_wp2
   go_ret2
   exact⟨_,_,rfl,HR.out,hbel⟩
end Go.Proofs.YtmdbfogjfbbpjaaGreatDoor
end
section
namespace Go.Proofs.YtmdbfogjfbbpjaaGreatDoor
set_option maxRecDepth 100000
open Go.ChangeShapes Go.WideShapes Go.ChangeAt Go.RowKit
theorem sJ {w:World} {B:Nat} {A:Option Addr} {l:List Nat} (h:Rd w B A (U8 l)) (k:Nat) (hk:k<l.length): ∃ad,A=some ad∧ad.block<B∧w.cell? (ad.add k)=some (.int .u8 ((l.getD k 0:Nat):Int)):=by
 obtain⟨ad,e,hlt,hc⟩:=h k _ (Co l k hk)
 refine⟨ad,e,hlt, ?_⟩
 rw[hc,List.getD_eq_getElem?_getD,List.getElem?_eq_getElem hk]
 rfl
theorem pC (x y d Bk:Nat) (w:World) (hv:w.heap[Bk]?=some (.cells #[.int .u8 (d:Int)] 5 (0,0))) (hx:x<256) (hy:y<256) (hd:d<256):
  Calls Tryz.prog 138 #[.int .u8 x, .int .u8 y, .pointer (some ⟨Bk,0,none⟩)] w fun e w'=>e= .returned (.tuple #[])∧w'=w.setCell ⟨Bk,0,none⟩ (.int .u8 ((d|||(x^^^y):Nat):Int)):=by
 have h1:=cell_of_one hv
 have h2:=free_of_one hv
 have hxy:x^^^y<256:=Nat.xor_lt_two_pow (n:=8) hx hy
 have e1:=u8_xor_nat x y hx hy
 have e2:=u8_or_nat d (x^^^y) hd hxy
 clear hv
 go_enter Tryz.func138, Tryz.ntmps138
 go_wp2
 go_end0
 exact⟨rfl,rfl⟩
theorem sK (n m:Nat):((n:Int)==(m:Int))=(n==m):=by
 by_cases h:n=m
 ·subst h;simp
 ·rw[(by simpa using h:(n==m)=false)];simp;omega
theorem AaI (a b:List Nat) (n m:Nat) (hn:n=a.length) (hm:m=b.length) (A A':Option Addr) (c c':Nat) (w:World) (hA:Rd w w.heap.size A (U8 a)) (hA':Rd w w.heap.size A' (U8 b)) (ha: ∀x∈a,x<256) (hb: ∀x∈b,x<256) (h1:n≤9223372036854775807) (h2:m≤9223372036854775807):
  Calls Tryz.prog 79 #[.slice A n c, .slice A' m c'] w fun e w'=>e= .returned (.tuple #[.int .u8 (dn a b (min n m):Nat), .bool (n==m)])∧Below w.heap.size w w':=by
 have HN:=Lib.hid hn
 have HM:=Lib.hid hm
 have HA:=Lib.hid ha
 have HB:=Lib.hid hb
 clear hn hm ha hb
 rcases Nat.lt_or_ge m n with hmn|hmn
 all_goals
  go_enter Tryz.func79, Tryz.ntmps79
  go_wp2
  go_loopw [8,15] (fun _ i wr=> ∃k:Nat,k≤n∧k≤m∧i= .int .i64 k∧wr.heap[w.heap.size]?=some (.cells #[.int .u8 (dn a b k:Nat)] 5 (0,0))∧Below w.heap.size w wr) (fun _ i _=>n - (intOf i).toNat)
  case atStart=>exact⟨0,Nat.zero_le _,Nat.zero_le _,rfl,heap_alloc_new w _,(Below.refl _ _).alloc (Nat.le_refl _) _⟩
  case round=>
   obtain⟨k,hk,hk',rfl,hv,hbel⟩:=hrel
   by_cases hlt:k<n∧k<m
   ·obtain⟨hlt,hlt'⟩:=hlt
    obtain⟨ad,rfl,had,hc⟩:=sJ (hA.below hbel) k (by rw[←HN.out];exact hlt)
    obtain⟨ad',rfl,had',hc'⟩:=sJ (hA'.below hbel) k (by rw[←HM.out];exact hlt')
    have hx:=Ij HA.out k
    have hy:=Ij HB.out k
    have hd:=AfB HA.out HB.out k
    have hnx:dn a b (k+1)=dn a b k|||(a.getD k 0^^^b.getD k 0):=rfl
    have HNX:=Lib.hid hnx
    clear hA hA' hnx
    generalize a.getD k 0=x at*
    generalize b.getD k 0=y at*
    generalize dn a b k=z at*
    have b1:(0:Int)≤(k:Int):=by omega
    have b2:(k:Int)<(n:Int):=by omega
    have b3:(k:Int)<(m:Int):=by omega
    have HV:=Lib.hid hv
    have HBL:=Lib.hid hbel
    clear hv hbel
    go_wp2
    refine wp_region_still_tail 9 (by kernel_rfl) (by kernel_rfl) ?_
    simp only[List.take_succ_cons,List.take_zero,List.drop_succ_cons,List.drop_zero]
    repeat still_step
    refine wpStill_nil ?_
    change wpList _ _ _ _ _ wr.drew
    go_wp2_with fail
    refine(pC x y z w.heap.size wr.drew HV.out hx hy hd).mono ?_
    rintro e w1 ⟨rfl,rfl⟩
    go_wp2
    go_roundw
    case rel=>exact⟨k+1,by omega,by omega,by go_num,by rw[HNX.out];exact one_setCell HV.out,(HBL.out.drew).setCell (Nat.le_refl _) _⟩
    case measure=>simp[intOf];omega
   ·have hmin:k=min n m:=by omega
    have hcell:=cell_of_one hv
    have HMIN:=Lib.hid hmin
    have c2:k=n∨k=m:=by omega
    have c1: ¬(k<min n m):=by omega
    clear hmin hlt hv
    rcases c2 with rfl|rfl
    all_goals
     go_wp2<;>(go_ret2;exact⟨by rw[sK, ←HMIN.out];rfl,hbel⟩)
end Go.Proofs.YtmdbfogjfbbpjaaGreatDoor
end
section
namespace Go.Proofs.YtmdbfogjfbbpjaaGreatDoor
open Go.ChangeShapes Go.WideShapes Go.ChangeAt Go.RowKit
theorem Xb (a b:List Nat) (n m:Nat) (hn:n=a.length) (hm:m=b.length) (A A':Option Addr) (c c':Nat) (w:World) (hA:Rd w w.heap.size A (U8 a)) (hA':Rd w w.heap.size A' (U8 b)) (ha: ∀x∈a,x<256) (hb: ∀x∈b,x<256) (h1:n≤9223372036854775807) (h2:m≤9223372036854775807)
  (d:Nat) (q:Bool) (hd:d=dn a b (min n m)) (hq:q=(n==m)):
  Calls Tryz.prog 79 #[.slice A n c, .slice A' m c'] w fun e w'=>e= .returned (.tuple #[.int .u8 (d:Int), .bool q])∧Below w.heap.size w w':=by
 subst hd hq
 exact AaI a b n m hn hm A A' c c' w hA hA' ha hb h1 h2
theorem Lq (a b:List Nat) (n m:Nat) (hn:n=a.length) (hm:m=b.length) (A A':Option Addr) (c c':Nat) (w:World) (hA:Rd w w.heap.size A (U8 a)) (hA':Rd w w.heap.size A' (U8 b)) (ha: ∀x∈a,x<256) (hb: ∀x∈b,x<256) (h1:n≤9223372036854775807) (h2:m≤9223372036854775807):
  Calls Tryz.prog 36 #[.slice A n c, .slice A' m c'] w fun e w'=>e= .returned (.bool (a==b))∧Below w.heap.size w w':=by
 have hs:=AcY a b
 rw[←hn, ←hm]at hs
 have HS:=Lib.hid hs
 have HN:=Lib.hid hn
 have HM:=Lib.hid hm
 have HA:=Lib.hid ha
 have HB:=Lib.hid hb
 clear hs hn hm ha hb
 obtain⟨d,hd⟩: ∃d,d=dn a b (min n m):=⟨_,rfl⟩
 obtain⟨q,hq⟩: ∃q,q=(n==m):=⟨_,rfl⟩
 rw[←hd, ←hq]at HS
 have HD:=Lib.hid hd
 have HQ:=Lib.hid hq
 have e1:((d:Int)==0)=(d==0):=sK d 0
 clear hd hq
 cases q with
 |true=>
  rw[Bool.true_and]at HS
  go_enter Tryz.func36, Tryz.ntmps36
  go_wp2_with fail
  refine(Xb a b n m HN.out HM.out A A' c c' w hA hA' HA.out HB.out h1 h2 d true HD.out HQ.out).mono ?_
  rintro e w1 ⟨rfl,hb⟩
  go_wp2
  go_ret
  exact⟨by rw[←HS.out, ←e1];rfl,hb⟩
 |false=>
  rw[Bool.false_and]at HS
  go_enter Tryz.func36, Tryz.ntmps36
  go_wp2_with fail
  refine(Xb a b n m HN.out HM.out A A' c c' w hA hA' HA.out HB.out h1 h2 d false HD.out HQ.out).mono ?_
  rintro e w1 ⟨rfl,hb⟩
  go_wp2
  go_ret
  exact⟨by rw[←HS.out];rfl,hb⟩
end Go.Proofs.YtmdbfogjfbbpjaaGreatDoor
end
section
namespace Go.Proofs.YtmdbfogjfbbpjaaGreatDoor
def tagS (s l:List Nat):List Nat:=dec (valB ((Zg s (83::l)).take 4))
theorem Ko (s l:List Nat):(tagS s l).length=10:=oA _
theorem vV (s l:List Nat): ∀x∈tagS s l,x<10:=iU _
theorem eX (s l:List Nat): ∀x∈tagS s l,x<256:=AeJ _
def Lr (l:List K) (r:Rg):List Nat:=(lputX r).2++tagS (Bn l r.key).sec (lputX r).2
def Im (l:List K) (r:Rg):Int × List Nat:=
 if isR l=false then(1,[])else if(lputX r).1≠0 then((lputX r).1,[])else if As l r.key≠0 then(As l r.key,[])else(Gl (Lr l r),putL (Lr l r))
def Cb (p:List Nat):List Nat:=p.take (p.length - 10)
def Gf (p:List Nat):List Nat:=p.drop (p.length - 10)
def Ug (l:List K) (p:List Nat):Int × Rg:=
 if p.length<10 then(14,Ah)else if(By (Cb p)).1≠0 then((By (Cb p)).1,Ah)else if As l (By (Cb p)).2.key≠0 then(As l (By (Cb p)).2.key,Ah)
 else if(Gf p==tagS (Bn l (By (Cb p)).2.key).sec (Cb p))=false then(11,Ah)else By (Cb p)
def Hn (l:List K) (b:List Nat):Int × Rg:=if isR l=false then(1,Ah)else if Gm b≠0 then(Gm b,Ah)else Ug l (readL b)
theorem Ta {l:List Nat} {r:Rg} (h:By l=(0,r)):l.length≤40:=by
 obtain⟨x,q,v,rfl,_,hx,hs,_,_⟩:=tE h
 rw[Bq]at hs
 split at hs
 ·rename_i h1
  exact(h1 (Prod.mk.inj hs).1).elim
 ·split at hs
  ·exact absurd (Prod.mk.inj hs).1 (by decide)
  ·rename_i h2
   have h3:(Hp (Au (x:Int))).1≤40:=by
    rcases(show x=1∨x=2∨x=3∨x=4 by omega)with rfl|rfl|rfl|rfl<;>decide+kernel
   omega
theorem Ny {r:Rg} {p:List Nat} {E:Int} (h:lputX r=(E,p)):p.length≤40:=by
 by_cases hE:E=0
 ·subst hE
  exact Ta (mC h)
 ·rw[mB h hE];simp
theorem vW (p:List Nat):Cb p++Gf p=p:=List.take_append_drop _ _
theorem AaJ (p t:List Nat) (h:t.length=10):Cb (p++t)=p∧Gf (p++t)=t:=by
 have e:(p++t).length - 10=p.length:=by rw[List.length_append];omega
 exact⟨by rw[Cb,e,List.take_left],by rw[Gf,e,List.drop_left]⟩
theorem AaK {l:List K} {r:Rg} {b:List Nat} (h:Im l r=(0,b)):isR l=true∧(lputX r).1=0∧As l r.key=0∧Gl (Lr l r)=0∧putL (Lr l r)=b:=by
 rw[Im]at h
 cases h1:isR l with
 |false=>rw[if_pos h1]at h;exact absurd (Prod.mk.inj h).1 (by decide)
 |true=>
  rw[if_neg (by rw[h1];decide)]at h
  by_cases h2:(lputX r).1=0
  ·rw[if_neg (by omega)]at h
   by_cases h3:As l r.key=0
   ·rw[if_neg (by omega)]at h
    exact⟨rfl,h2,h3,(Prod.mk.inj h).1,(Prod.mk.inj h).2⟩
   ·rw[if_pos h3]at h;exact(h3 (Prod.mk.inj h).1).elim
  ·rw[if_pos h2]at h;exact(h2 (Prod.mk.inj h).1).elim
theorem AaL {l:List K} {r:Rg} (h2:(lputX r).1=0) (h3:As l r.key=0):Ug l (Lr l r)=(0,r):=by
 have hg:=mC (show lputX r=(0,(lputX r).2) by rw[←h2])
 have ht:=Ko (Bn l r.key).sec (lputX r).2
 obtain⟨e1,e2⟩:=AaJ (lputX r).2 _ ht
 have e3: ¬(Lr l r).length<10:=by rw[Lr,List.length_append,ht];omega
 rw[Ug,if_neg e3,Lr,e1,e2,hg,if_neg (by simp)]
 simp only
 rw[if_neg (by omega),if_neg (by simp)]
theorem Re {l:List K} {r:Rg} {b:List Nat} (h:Im l r=(0,b)):Hn l b=(0,r)∧Du b=0∧(∀x∈b,x<256)∧b.length≤50:=by
 obtain⟨h1,h2,h3,h4,rfl⟩:=AaK h
 have hx:=nT h4
 have hE:Du (putL (Lr l r))=0:=by rw[Du,hx]
 have hL:Hk (putL (Lr l r))=Lr l r:=by rw[Hk,hx]
 obtain⟨r1,r2,r3⟩:=Le hE
 refine⟨?_,hE,rP h4,Wd hE⟩
 rw[Hn,if_neg (by rw[h1];decide),if_neg (by omega),r3,hL,AaL h2 h3]
theorem Afc {l:List K} {b:List Nat} {r:Rg} (h:Hn l b=(0,r)):isR l=true∧Gm b=0∧Ug l (readL b)=(0,r):=by
 rw[Hn]at h
 cases h1:isR l with
 |false=>rw[if_pos h1]at h;exact absurd (Prod.mk.inj h).1 (by decide)
 |true=>
  rw[if_neg (by rw[h1];decide)]at h
  by_cases h2:Gm b=0
  ·rw[if_neg (by omega)]at h
   exact⟨rfl,h2,h⟩
  ·rw[if_pos h2]at h;exact(h2 (Prod.mk.inj h).1).elim
theorem Ad1 {l:List K} {p:List Nat} {r:Rg} (h:Ug l p=(0,r)):10≤p.length∧By (Cb p)=(0,r)∧As l r.key=0∧Gf p=tagS (Bn l r.key).sec (Cb p):=by
 rw[Ug]at h
 by_cases h1:p.length<10
 ·rw[if_pos h1]at h;exact absurd (Prod.mk.inj h).1 (by decide)
 ·rw[if_neg h1]at h
  by_cases h2:(By (Cb p)).1=0
  ·rw[if_neg (by omega)]at h
   by_cases h3:As l (By (Cb p)).2.key=0
   ·rw[if_neg (by omega)]at h
    cases h4:(Gf p==tagS (Bn l (By (Cb p)).2.key).sec (Cb p))with
    |false=>rw[if_pos h4]at h;exact absurd (Prod.mk.inj h).1 (by decide)
    |true=>
     rw[if_neg (by rw[h4];decide)]at h
     have h5:=eq_of_beq h4
     rw[h]at h3 h5
     exact⟨by omega,h,h3,h5⟩
   ·rw[if_pos h3]at h;exact(h3 (Prod.mk.inj h).1).elim
  ·rw[if_pos h2]at h;exact(h2 (Prod.mk.inj h).1).elim
theorem sL {l:List K} {b:List Nat} {r:Rg} (hb: ∀x∈b,x<256) (h:Hn l b=(0,r)):Im l r=(0,putL (readL b))∧putL (readL b)=(if Jr b=true then Em b else b)∧(∀x∈putL (readL b),x<256)∧b.length≤50∧lputX r=(0,Cb (readL b)):=by
 obtain⟨h1,h2,h3⟩:=Afc h
 obtain⟨g1,g2,g3,g4⟩:=Ad1 h3
 obtain⟨p1,p2⟩:=AbW g2
 have he:Lr l r=readL b:=by
  rw[Lr,p1, ←g4]
  exact vW _
 have hp:Gl (readL b)=0∧putL (readL b)=(if Jr b=true then Em b else b)∧b.length≤50:=by
  by_cases e1:Du b=0
  ·obtain⟨r1,r2,r3⟩:=Le e1
   obtain⟨x1,x2⟩:=Wa (Wb e1)
   rw[r3,r2,if_neg (by decide)]
   exact⟨x1,x2,Wd e1⟩
  ·by_cases e2:Du (Em b)=0
   ·obtain⟨r1,r2,r3⟩:=Mp e1 e2
    obtain⟨x1,x2⟩:=Wa (Wb e2)
    rw[r3,r2,if_pos rfl]
    have:=Wd e2
    rw[Qq]at this
    exact⟨x1,x2,this⟩
   ·obtain⟨r1,r2,r3⟩:=Sr e1 e2
    exact(e1 (r1▸h2)).elim
 refine⟨?_,hp.2.1,rP hp.1,hp.2.2,p1⟩
 rw[Im,if_neg (by rw[h1];decide),p1]
 simp only
 rw[if_neg (by simp),if_neg (by omega),he,hp.1]
theorem AaM {l:List K} {id:Int} (hr:isR l=true) (h:As l id≠0):As l id=10:=by
 rw[As,if_pos hr]at h⊢
 split at h
 ·exact(h rfl).elim
 ·rename_i h1;rw[if_neg h1]
theorem Ve {n w:Int} (h:0≤n) (h1:0≤w) (h2:w≤18) (h3:n.toNat<10^w.toNat):Ch n w=0:=by
 rw[Ch,if_neg (by omega),if_neg (by omega)]
theorem Xc: ∀(vs ws:List Int) (out:List Nat),(∀i,i<vs.length→Ch (vs.getD i 0) (ws.getD i 0)=0)→(joinR vs ws out).1=0
 |[],ws,out,h=>rfl
 |v::vs,ws,out,h=>by
  have h0:Ch v (ws.headD 0)=0:=by
   have:=h 0 (by simp)
   rw[show ws.headD 0=ws.getD 0 0 from by cases ws<;>rfl]
   exact this
  rw[joinR,if_pos h0]
  apply Xc vs ws.tail
  intro i hi
  have:=h (i+1) (by simpa using hi)
  rw[show ws.tail.getD i 0=ws.getD (i+1) 0 from by cases ws<;>simp]
  simpa using this
theorem bD {r:Rg} (ha:Hf r=true) (hf:Jn r=true):(lputX r).1=0:=by
 obtain⟨h1,h2,h3,h4,h5⟩:=(Cc r).1 ha
 obtain⟨hn,hd,hp,hu⟩:=(Dm r.t).1 h1
 obtain⟨n1,n2,n3,n4,n5,n6,n7,n8,n9,n10⟩:=(Dc r.t).1 hn
 obtain⟨d1,d2,d3,d4,d5,d6,d7⟩:=(Ir r.t).1 hd
 obtain⟨s1,s2,s3,s4⟩:=(cE _ _ _).1 h2
 obtain⟨f1,f2⟩:=(Gz r).1 hf
 have hus:0≤r.t.uses∧r.t.uses≤20:=by
  rw[Fr]at hu
  split at hu
  ·simp at hu;omega
  ·have:r.t.uses=r.t.kind.tmod 3:=by simpa using hu
   rw[this]
   rcases(show r.t.kind=1∨r.t.kind=2∨r.t.kind=3∨r.t.kind=4 by omega)with e|e|e|e<;>rw[e]<;>decide
 have hpl:0≤r.t.frm∧0≤r.t.till∧(r.t.kind=3→r.t.frm≤6∧r.t.till≤6)∧r.t.frm≤99∧r.t.till≤99:=by
  rw[Dt]at hp
  split at hp
  ·simp at hp;omega
  ·rename_i hk
   simp[isN]at hp
   omega
 rw[lputX,if_neg (by rw[ha];decide),if_neg (by rw[hf];decide),joinX]
 have hlen:(valL r).length=(Au r.t.kind).length∧(valL r).length≤20:=by
  rw[Au,if_pos ⟨n3,n4⟩,valL,List.length_append,List.length_append,mD ⟨n3,n4⟩]
  refine⟨rfl, ?_⟩
  rw[←mD ⟨n3,n4⟩,Nc]
  split<;>simp
 rw[if_neg (by omega)]
 apply Xc
 rcases(show r.t.kind=1∨r.t.kind=2∨r.t.kind=3∨r.t.kind=4 by omega)with e|e|e|e
 ·rw[valL,Nc,if_neg (by omega),Au,if_pos (by omega),Qb,if_neg (by omega),if_neg (by omega)]
  intro i hi
  rcases(show i=0∨i=1∨i=2∨i=3∨i=4∨i=5∨i=6∨i=7∨i=8∨i=9∨i=10∨i=11 by simp at hi;omega)with rfl|rfl|rfl|rfl|rfl|rfl|rfl|rfl|rfl|rfl|rfl|rfl<;>
   (refine Ve ?_ (by decide) (by decide) ?_<;>simp<;>omega)
 ·rw[valL,Nc,if_neg (by omega),Au,if_pos (by omega),Qb,if_neg (by omega),if_neg (by omega)]
  intro i hi
  rcases(show i=0∨i=1∨i=2∨i=3∨i=4∨i=5∨i=6∨i=7∨i=8∨i=9∨i=10∨i=11 by simp at hi;omega)with rfl|rfl|rfl|rfl|rfl|rfl|rfl|rfl|rfl|rfl|rfl|rfl<;>
   (refine Ve ?_ (by decide) (by decide) ?_<;>simp<;>omega)
 ·have:=hpl.2.2.1 e
  rw[valL,Nc,if_neg (by omega),Au,if_pos (by omega),Qb,if_pos e]
  intro i hi
  rcases(show i=0∨i=1∨i=2∨i=3∨i=4∨i=5∨i=6∨i=7∨i=8∨i=9∨i=10∨i=11 by simp at hi;omega)with rfl|rfl|rfl|rfl|rfl|rfl|rfl|rfl|rfl|rfl|rfl|rfl<;>
   (refine Ve ?_ (by decide) (by decide) ?_<;>simp<;>omega)
 ·rw[valL,Nc,if_pos e,Au,if_pos (by omega),Qb,if_neg (by omega),if_pos e]
  intro i hi
  rcases(show i=0∨i=1∨i=2∨i=3∨i=4∨i=5∨i=6∨i=7∨i=8∨i=9∨i=10∨i=11∨i=12 by simp at hi;omega)with rfl|rfl|rfl|rfl|rfl|rfl|rfl|rfl|rfl|rfl|rfl|rfl|rfl<;>
   (refine Ve ?_ (by decide) (by decide) ?_<;>simp<;>omega)
end Go.Proofs.YtmdbfogjfbbpjaaGreatDoor
end
