import Derived.Test.YtcnglbliidjnfaaGreatDoorShaPPad
import Derived.Test.YtcnglbliidjnfaaGreatDoorFieldsMath
import Derived.Test.YtcnglbliidjnfaaGreatDoorRingFind
section
namespace Go.Proofs.YtcnglbliidjnfaaGreatDoor
set_option maxRecDepth 100000
set_option linter.unusedVariables false
open Go.ChangeShapes Go.WideShapes Go.ChangeAt Go.RowKit
def blocksN (h:St) (p:List Nat):Nat→St
 |0=>h
 |j+1=>blockN (blocksN h p j) (wordsOf ((p.drop (64*j)).take 64))
theorem blocksN_ok {h:St} (hh:h.ok) (p:List Nat) (j:Nat):(blocksN h p j).ok:=by
 cases j with
 |zero=>exact hh
 |succ j=>exact sumSt_ok _ _
theorem beginN_ok:beginN.ok:=by unfold St.ok beginN;decide
def nblk (l:List Nat):Nat:=(padN l).length / 64
theorem nblk_eq (l:List Nat):(padN l).length=64*nblk l:=by
 unfold nblk;rw[length_padN];unfold zerosN;omega
theorem nblk_pos (l:List Nat):0<nblk l:=by
 have:=nblk_eq l;rw[length_padN]at this;omega
def sumSt8 (l:List Nat):St:=blocksN beginN (padN l) (nblk l)
def digestN (l:List Nat):List Nat:=bytesOf (sumSt8 l).list
theorem block_r (h:St) (W:List Nat) (w:World) (hT:Tabs w) (hh:h.ok) (hx: ∀x∈W,x<4294967296) (hl:W.length=16):
  Calls Tryz.prog 113 #[h.val, .agg (U32 W).toArray] w fun e w'=> ∃R,Hid (R=blockN h W)∧e= .returned (.agg #[.int .u32 R.a, .int .u32 R.b, .int .u32 R.c, .int .u32 R.d, .int .u32 R.e, .int .u32 R.f, .int .u32 R.g, .int .u32 R.h])∧Below w.heap.size w w':=
 (block_list h W w hT hh hx hl).mono fun _ _ ⟨a,b⟩=>⟨_,Lib.hid rfl,a,b⟩
theorem set8_all (w3:World) (S:Nat) (V R:St) (t:TypeId) (hv:w3.heap[S]?=some (.cells (U32 V.list).toArray t (0,0))) (w':World) (h:w'=((((((((w3.setCell ⟨S,0,none⟩ (.int .u32 R.a)).setCell ⟨S,1,none⟩ (.int .u32 R.b)).setCell ⟨S,2,none⟩ (.int .u32 R.c)).setCell ⟨S,3,none⟩ (.int .u32 R.d)).setCell ⟨S,4,none⟩ (.int .u32 R.e)).setCell ⟨S,5,none⟩ (.int .u32 R.f)).setCell ⟨S,6,none⟩ (.int .u32 R.g)).setCell ⟨S,7,none⟩ (.int .u32 R.h))):
  w'.heap[S]?=some (.cells (U32 R.list).toArray t (0,0))∧Below S w3 w'∧ ∀k,k≠S→w'.heap[k]?=w3.heap[k]?:=by
 subst h
 refine⟨set8 w3 S V t hv _ _ _ _ _ _ _ _, ?_,fun k hk=> ?_⟩
 ·have hle:=Nat.le_refl S
  exact((((((((Below.refl _ _).setCell hle _).setCell hle _).setCell hle _).setCell hle _).setCell hle _).setCell hle _).setCell hle _).setCell hle _
 ·simp only[heap_setCell_other _ _ k _ (show k≠(⟨S,_,none⟩:Addr).block from hk)]
theorem cells8 {w:World} {g:Nat} {V:St} {t:TypeId} (h:w.heap[g]?=some (.cells (U32 V.list).toArray t (0,0))):w.cell? ⟨g,0,none⟩=some (.int .u32 (V.a:Int))∧w.cell? ⟨g,1,none⟩=some (.int .u32 (V.b:Int))∧w.cell? ⟨g,2,none⟩=some (.int .u32 (V.c:Int))∧w.cell? ⟨g,3,none⟩=some (.int .u32 (V.d:Int))∧w.cell? ⟨g,4,none⟩=some (.int .u32 (V.e:Int))∧w.cell? ⟨g,5,none⟩=some (.int .u32 (V.f:Int))∧w.cell? ⟨g,6,none⟩=some (.int .u32 (V.g:Int))∧w.cell? ⟨g,7,none⟩=some (.int .u32 (V.h:Int)):=by
 have hlc: ∀i (v:Nat),V.list[i]?=some v→w.cell? ⟨g,i,none⟩=some (.int .u32 (v:Int)):=by
  intro i v hv
  rw[cell_of_row w g i _ _ (0,0) h,List.getElem?_toArray,U32,List.getElem?_map,hv];rfl
 exact⟨hlc 0 _ rfl,hlc 1 _ rfl,hlc 2 _ rfl,hlc 3 _ rfl,hlc 4 _ rfl,hlc 5 _ rfl,hlc 6 _ rfl,hlc 7 _ rfl⟩
theorem froz8 {w:World} {g:Nat} {V:St} {t:TypeId} (h:w.heap[g]?=some (.cells (U32 V.list).toArray t (0,0))):w.frozen? ⟨g,0,none⟩=false∧w.frozen? ⟨g,1,none⟩=false∧w.frozen? ⟨g,2,none⟩=false∧w.frozen? ⟨g,3,none⟩=false∧w.frozen? ⟨g,4,none⟩=false∧w.frozen? ⟨g,5,none⟩=false∧w.frozen? ⟨g,6,none⟩=false∧w.frozen? ⟨g,7,none⟩=false:=by
 have hf: ∀i,w.frozen? ⟨g,i,none⟩=false:=fun i=>frozen_of_row w g i _ _ h
 exact⟨hf 0,hf 1,hf 2,hf 3,hf 4,hf 5,hf 6,hf 7⟩
theorem Tabs.begin {w:World} (h:Tabs w) (i v:Nat) (hi:beginN.list[i]?=some v):w.cell? ⟨0,i,none⟩=some (.int .u32 (v:Int))∧ 0 <w.heap.size:=by
 obtain⟨ad,he,hlt,hc⟩:=h.2 i (.int .u32 (v:Int)) (by rw[U32,List.getElem?_map,hi];rfl)
 cases he
 rw[at_add]at hc
 exact⟨hc,hlt⟩
theorem Rd.from {w:World} {B g k:Nat} {xs:List Value} (h:Rd w B (some ⟨g,0,none⟩) xs):Rd w B (some ⟨g,k,none⟩) (xs.drop k):=by
 intro i u hu
 rw[List.getElem?_drop]at hu
 obtain⟨ad,he,hlt,hc⟩:=h (k+i) u hu
 cases he
 refine⟨_,rfl,hlt, ?_⟩
 have e:(⟨g,k,none⟩:Addr).add i=⟨g,k+i,none⟩:=by
  unfold Addr.add
  split
  ·next h0=>subst h0;rfl
  ·rfl
 rw[e, ←hc,at_add]
theorem two_made {w w':World} {ca cb:Array Value} {ta tb:TypeId} (h:w'=(w.alloc (.cells ca ta)).alloc (.cells cb tb)):
  w'.heap.size=w.heap.size+1+1∧w'.heap[w.heap.size]?=some (.cells ca ta (0,0))∧w'.heap[w.heap.size+1]?=some (.cells cb tb (0,0))∧Below w.heap.size w w':=by
 subst h
 exact⟨by simp,heap_alloc2_old _ _ _,heap_alloc2_new _ _ _,((Below.refl _ _).alloc (Nat.le_refl _) _).alloc (by simp) _⟩
theorem pad_len (l:List Nat) (n:Nat) (hn:n=l.length) (A:Option Addr) (c:Nat) (w:World) (hA:Rd w w.heap.size A (U8 l)) (hnil:A=none→c=0) (hl:n≤140737488351232):
  Calls Tryz.prog 112 #[.slice A n c] w fun e w'=> ∃v,e= .returned v∧w'.ownsRow w.heap.size 5 1 v (padN l).length (U8 (padN l))∧Below w.heap.size w w':=by
 subst hn
 exact pad_ok l A c w hA hnil hl
theorem U8_drop (l:List Nat) (k:Nat):(U8 l).drop k=U8 (l.drop k):=by simp[U8]
def Left (g n:Nat) (v:Value) (j:Nat):Prop:= ∃ad r q,v= .slice (some ad) r q∧r+64*j=n∧r≤q∧q≤maxLen∧(0<r→ad=⟨g,64*j,none⟩)
set_option maxRecDepth 100000 in
set_option maxHeartbeats 1600000 in
theorem sum_ok (l:List Nat) (A:Option Addr) (c:Nat) (w:World) (hT:Tabs w) (hA:Rd w w.heap.size A (U8 l)) (hnil:A=none→c=0) (hb: ∀x∈l,x<256) (hl:l.length≤5000):
  Calls Tryz.prog 93 #[.slice A l.length c] w fun e w'=>e= .returned (.agg (U8 (digestN l)).toArray)∧Below w.heap.size w w':=by
 obtain⟨c0,hg1⟩:=hT.begin 0 _ rfl
 have c1:=(hT.begin 1 _ rfl).1
 have c2:=(hT.begin 2 _ rfl).1
 have c3:=(hT.begin 3 _ rfl).1
 have c4:=(hT.begin 4 _ rfl).1
 have c5:=(hT.begin 5 _ rfl).1
 have c6:=(hT.begin 6 _ rfl).1
 have c7:=(hT.begin 7 _ rfl).1
 have HT:=Lib.hid hT
 obtain⟨n0,hn0⟩: ∃n0,n0=l.length:=⟨_,rfl⟩
 have HN0:=Lib.hid hn0
 have HNIL:=Lib.hid hnil
 have HA:=Lib.hid hA
 have HB:=Lib.hid hb
 rw[←hn0]at hl⊢
 clear hT hn0 hnil hA hb
 go_enter Tryz.func93, Tryz.ntmps93
 go_wp2_with fail
 obtain⟨w0,hw0⟩: ∃w0:World,w0=(w.alloc (.cells b32 42)).alloc (.cells (U32 beginN.list).toArray 139):=⟨_,rfl⟩
 obtain⟨hs0,hr0,hv0,hb0⟩:=two_made hw0
 refine(pad_len l n0 HN0.out A c _ ((HA.out.below (by rw[hw0]at hb0;exact hb0)).more (by simp;omega)) HNIL.out (by omega)).mono ?_
 rintro e w1 ⟨v1,rfl,hown1,hb1⟩
 replace hb1:Below w0.heap.size w0 w1:=by rw[hw0];exact hb1
 have hown1':w1.ownsRow w0.heap.size 5 1 v1 (padN l).length (U8 (padN l)):=by rw[hw0];exact hown1
 rw[nblk_eq]at hown1'
 have hm0:=nblk_pos l
 have hm1:nblk l≤80:=by have:=nblk_eq l;rw[length_padN, ←HN0.out]at this;unfold zerosN at this;omega
 obtain⟨m,hm⟩: ∃m,m=nblk l:=⟨_,rfl⟩
 rw[←hm]at hown1' hm0 hm1
 obtain⟨g,cap,rfl,hgb⟩:=hown1'.form (by omega)
 have hcap:64*m≤cap∧cap≤maxLen:=by
  rcases hown1'.2 with⟨h,_⟩|⟨g',cap',cur,h,_,_,h1,h2,_⟩
  ·cases h
  ·simp at h;obtain⟨_,rfl⟩:=h;exact⟨h1,h2⟩
 obtain⟨hcap1,hcap2⟩:=hcap
 have hs1:w.heap.size+1+1≤w1.heap.size:=by have:=hb1.size;omega
 have hr1:w1.heap[w.heap.size]?=some (.cells b32 42 (0,0)):=(hb1.block _ (by omega)).trans hr0
 have hv1:w1.heap[w.heap.size+1]?=some (.cells (U32 beginN.list).toArray 139 (0,0)):=(hb1.block _ (by omega)).trans hv0
 have hbw:Below w.heap.size w w1:=hb0.trans (hb1.mono hb0.size)
 have hgs:w.heap.size+1<g:=by have:=own_ge hown1' (g:=g) rfl;omega
 have hgl:g<w1.heap.size:=by
  obtain⟨ad,he,hlt,_⟩:=(Rd.of_own hown1') 0 _ (U8_at (padN l) 0 (by rw[nblk_eq, ←hm];omega))
  cases he;exact hlt
 have HM:=Lib.hid hm
 have HO1:=Lib.hid hown1'
 have HR1:=Lib.hid hr1
 have HV1:=Lib.hid hv1
 have HBW:=Lib.hid hbw
 have HPB:=Lib.hid (padN_lt l HB.out)
 clear hown1 hown1' hr1 hv1 hbw hb0 hb1 hs0 hr0 hv0 hw0 hm c0 c1 c2 c3 c4 c5 c6 c7
 go_wp2_with fail
 go_loopw [4] (fun v wr=> ∃j:Nat,j≤m∧Left g (64*m) v j∧wr.heap[w.heap.size+1]?=some (.cells (U32 (blocksN beginN (padN l) j).list).toArray 139 (0,0))∧Below (w.heap.size+1) w1 wr∧wr.heap[g]?=w1.heap[g]?) (fun v _=>lenV v)
 case atStart=>exact⟨0,Nat.zero_le _,⟨_,_,_,rfl,by omega,hcap1,hcap2,fun _=>rfl⟩,HV1.out,Below.refl _ _,rfl⟩
 case round=>
  obtain⟨j,hj,⟨ad,r,q,rfl,hrj,hrq,hqm,had⟩,hv,hbel,hgk⟩:=hrel
  by_cases hlt:0<r
  ·obtain rfl:=had hlt
   have hjm:j<m:=by omega
   have hr64:64≤r:=by omega
   have hgw:g<wr.heap.size:=by have:=hbel.size;omega
   have hrd0:Rd wr.drew wr.drew.heap.size (some ⟨g,0,none⟩) (U8 (padN l)):=by
    intro k u hu
    obtain⟨ad,he,_,hc⟩:=(Rd.of_own HO1.out) k u hu
    cases he
    refine⟨_,rfl,hgw, ?_⟩
    rw[at_add]at hc⊢
    exact(World.cell?_of_block (w:=w1) (w':=wr) hgk).trans hc
   have hrd:=hrd0.from (k:=64*j)
   rw[U8_drop]at hrd
   have hlq:((padN l).drop (64*j)).length=r:=by rw[List.length_drop,nblk_eq, ←HM.out];omega
   have hbq: ∀x∈(padN l).drop (64*j),x<256:=fun x hx=>HPB.out x (List.mem_of_mem_drop hx)
   have hnext:blocksN beginN (padN l) (j+1)=blockN (blocksN beginN (padN l) j) (wordsOf (((padN l).drop (64*j)).take 64)):=rfl
   have hok:=blocksN_ok beginN_ok (padN l) j
   have hT2:Tabs wr.drew:=HT.out.next (HBW.out.trans ((hbel.mono (by omega)).drew))
   obtain⟨W,hWE⟩: ∃W,W=wordsOf (((padN l).drop (64*j)).take 64):=⟨_,rfl⟩
   have hW1:W.length=16:=by rw[hWE,length_wordsOf,List.length_take,hlq,Nat.min_eq_left hr64]
   have hW2: ∀x∈W,x<4294967296:=by rw[hWE];exact wordsOf_lt _ (fun x hx=>hbq x (List.mem_of_mem_take hx))
   have hbwc:=blockWords_any ((padN l).drop (64*j)) ⟨g,64*j,none⟩ r q wr.drew hrd hbq hlq hr64 hrq hqm
   rw[←hWE]at hnext hbwc
   obtain⟨V,hVE⟩: ∃V,V=blocksN beginN (padN l) j:=⟨_,rfl⟩
   rw[←hVE]at hv hnext hok
   have HNX:=Lib.hid hnext
   have HBWC:=Lib.hid hbwc
   have HOK:=Lib.hid hok
   have HT2:=Lib.hid hT2
   have HW1:=Lib.hid hW1
   have HW2:=Lib.hid hW2
   have HV:=Lib.hid hv
   have HGK:=Lib.hid hgk
   have hrp:(0:Int)<(r:Int):=by omega
   unfold maxLen at hqm
   clear hrd0 hrd hlq hbq hnext hok hT2 hW1 hW2 hWE hbwc hv hVE hgk had
   go_wp2_with fail
   obtain⟨a0,a1,a2,a3,a4,a5,a6,a7⟩:=cells8 HV.out
   have hgw2:w.heap.size+1<wr.heap.size:=by omega
   go_region_law (first
    |(go_simp;go_at_call 114;refine HBWC.out.mono ?_;rintro e w2 ⟨rfl,hb2⟩;have hs2:wr.heap.size≤w2.heap.size:=hb2.size;have HV2:=Lib.hid ((hb2.block (w.heap.size+1) hgw2).trans HV.out);obtain⟨b0,b1,b2,b3,b4,b5,b6,b7⟩:=cells8 HV2.out)
    |(go_simp;go_at_call 113;refine(block_r V W w2 (HT2.out.next hb2) HOK.out HW2.out HW1.out).mono ?_;rintro e w3 ⟨R,HRE,rfl,hb3⟩;have HV3:=Lib.hid ((hb3.block (w.heap.size+1) (by omega)).trans HV2.out);obtain⟨d0,d1,d2,d3,d4,d5,d6,d7⟩:=cells8 HV3.out;obtain⟨z0,z1,z2,z3,z4,z5,z6,z7⟩:=froz8 HV3.out;have hs3:w2.heap.size≤w3.heap.size:=hb3.size))
   all_goals clear a0 a1 a2 a3 a4 a5 a6 a7 b0 b1 b2 b3 b4 b5 b6 b7 d0 d1 d2 d3 d4 d5 d6 d7 z0 z1 z2 z3 z4 z5 z6 z7
   all_goals by_cases hq64:q=64
   all_goals go_wp2
   all_goals
    obtain⟨q1,q2,q3⟩:=set8_all w3 (w.heap.size+1) V R 139 HV3.out _ rfl
    refine⟨⟨j+1,by omega,⟨_,_,_,rfl,by omega,by omega,by unfold maxLen;omega, ?_⟩, ?_, ?_, ?_⟩,by simp only[lenV];omega⟩
    ·first
      |(intro h;exfalso;omega)
      |(intro _;rw[Nat.mul_succ])
    ·rw[q1,HNX.out, ←HRE.out]
    ·exact((hbel.drew.trans (hb2.mono (by show _≤wr.heap.size;omega))).trans (hb3.mono (by omega))).trans q2
    ·exact(q3 g (by omega)).trans ((hb3.block g (by omega)).trans ((hb2.block g hgw).trans HGK.out))
  ·have hjm:j=m:=by omega
   subst hjm
   have hr0:r=0:=by omega
   subst hr0
   obtain⟨V,hVE⟩: ∃V,V=blocksN beginN (padN l) j:=⟨_,rfl⟩
   have hok:V.ok:=by rw[hVE];exact blocksN_ok beginN_ok _ _
   rw[←hVE]at hv
   have hdg:digestN l=bytesOf V.list:=by rw[hVE,HM.out];rfl
   have hres:wr.heap[w.heap.size]?=some (.cells b32 42 (0,0)):=(hbel.block _ (by omega)).trans HR1.out
   have hbb:Below w.heap.size w wr:=HBW.out.trans (hbel.mono (by omega))
   have hsr:w.heap.size+1<wr.heap.size:=by have:=hbel.size;omega
   have HV:=Lib.hid hv
   have HOK:=Lib.hid hok
   have HDG:=Lib.hid hdg
   have HRES:=Lib.hid hres
   clear hv hVE hok hdg hres hbel hgk had
   go_wp2_with ((with_reducible refine at_load 17 ?_);refine wpList_load_row (o:=⟨some 17, .load 139 (.tmp 3),_,_,_,_⟩) rfl 139 (.tmp 3) rfl (w.heap.size+1) rfl 139 (U32 V.list).toArray (0,0) _ HV.out Tryz.underlying139 rfl info28 ?_)
   refine(digest_any V wr HOK.out).mono ?_
   rintro e w2 ⟨rfl,hb2⟩
   obtain⟨D,hD⟩: ∃D,D=bytesOf V.list:=⟨_,rfl⟩
   rw[←hD]
   have hDl:D.length=32:=by rw[hD,length_bytesOf];rfl
   have hsz:(U8 D).toArray.size=32:=by simp[U8,hDl]
   have hin:(Tryz.prog.info? 42).map (·.size)=some (U8 D).toArray.size:=by rw[hsz];exact info32
   have HRES2:=Lib.hid ((hb2.block w.heap.size (by omega)).trans HRES.out)
   have HSZ:=Lib.hid hsz
   have HIN:=Lib.hid hin
   have HD:=Lib.hid hD
   clear hD hDl hsz hin
   go_wp2_with ((with_reducible refine at_store 2 ?_);refine wpList_store_named (o:=⟨none, .store 42 (.tmp 2) (.tmp 18),_,_,_,_⟩) rfl 42 (.tmp 2) (.tmp 18) rfl w.heap.size (U8 D).toArray rfl rfl 42 b32 HRES2.out HIN.out HSZ.out.symm (all_one8 D) ?_;intro w3 hw3)
   have hr3:w3.heap[w.heap.size]?=some (.cells (U8 D).toArray 42 (0,0)):=by rw[hw3.out];exact setRow_heap _ _ _ _ _ _ HRES2.out
   refine bodyPost_ret (results_cell_row Tryz.results93 _ w3 w.heap.size 42 _ (0,0) _ rfl hr3 Tryz.underlying42 rfl HIN.out) rfl ⟨by rw[HDG.out,HD.out], ?_⟩
   exact(hbb.trans (hb2.mono (by omega))).trans (below_row hw3.out (Nat.le_refl _))
end Go.Proofs.YtcnglbliidjnfaaGreatDoor
end
section
namespace Go.Proofs.YtcnglbliidjnfaaGreatDoor
set_option maxRecDepth 100000
def force {β:Type} (n:Nat) (k:Nat→β):β:=
 match n with
 |0=>k 0
 |m+1=>k (m+1)
theorem force_eq {β:Type} (n:Nat) (k:Nat→β):force n k=k n:=by cases n<;>rfl
def forceL {β:Type} :List Nat→(List Nat→β)→β
 |[],k=>k []
 |x::l,k=>force x fun y=>forceL l fun m=>k (y::m)
theorem forceL_eq {β:Type} : ∀(l:List Nat) (k:List Nat→β),forceL l k=k l
 |[],_=>rfl
 |x::l,k=>by rw[forceL,force_eq,forceL_eq l]
def rq (x k:Nat):Nat:=x / 2^k|||x*2^(32 - k) % 4294967296
theorem rq_eq {x k:Nat} (hx:x<4294967296) (hk:k<32):rq x k=itr k x:=or_rot x k hx hk
def wAt (w:List Nat) (t:Nat):Nat:=wNext w (wl w t) t
theorem wl_get (w:List Nat) (n t:Nat) (h:t<n):(wl w n).getD t 0=wAt w t:=by
 induction n with
 |zero=>omega
 |succ n ih=>
  rw[wl,List.getD_eq_getElem?_getD]
  by_cases e:t<n
  ·rw[List.getElem?_append_left (by rw[length_wl];exact e), ←List.getD_eq_getElem?_getD,ih e]
  ·have e':t=n:=by omega
   subst e'
   rw[List.getElem?_append_right (by rw[length_wl];exact Nat.le_refl _),length_wl,Nat.sub_self]
   rfl
theorem wAt_small (w:List Nat) (t:Nat) (h:t<16):wAt w t=w.getD t 0:=by unfold wAt wNext;rw[if_pos h]
theorem wAt_next (w:List Nat) (t:Nat):wAt w (t+16)=(wAt w t+twoN (wAt w (t+1)) 7 18 8+wAt w (t+9)+twoN (wAt w (t+14)) 17 19 1024) % 4294967296:=by
 rw[wAt,wNext,if_neg (by omega),wl_get w _ _ (by omega),wl_get w _ _ (by omega),wl_get w _ _ (by omega),wl_get w _ _ (by omega)]
 rfl
theorem wAt_lt (w:List Nat) (hw: ∀x∈w,x<4294967296) (t:Nat):wAt w t<4294967296:=by
 rw[←wl_get w (t+1) t (by omega)]
 exact getD_lt (wl_lt w hw (t+1)) t
def goF:List Nat→(x0 x1 x2 x3 x4 x5 x6 x7 x8 x9 x10 x11 x12 x13 x14 x15 a b c d e f g h:Nat)→St
 |[],_,_,_,_,_,_,_,_,_,_,_,_,_,_,_,_,a,b,c,d,e,f,g,h=>⟨a,b,c,d,e,f,g,h⟩
 |k::ks,x0,x1,x2,x3,x4,x5,x6,x7,x8,x9,x10,x11,x12,x13,x14,x15,a,b,c,d,e,f,g,h=>
  force ((h+(rq e 6^^^rq e 11^^^rq e 25)+((e&&&f)|||((4294967295^^^e)&&&g))+k+x0) % 4294967296) fun t1=>
  force ((t1+((rq a 2^^^rq a 13^^^rq a 22)+((a&&&b)|||(a&&&c)|||(b&&&c))) % 4294967296) % 4294967296) fun a'=>
  force ((d+t1) % 4294967296) fun e'=>
  force ((x0+(rq x1 7^^^rq x1 18^^^x1 / 8)+x9+(rq x14 17^^^rq x14 19^^^x14 / 1024)) % 4294967296) fun y=>
  goF ks x1 x2 x3 x4 x5 x6 x7 x8 x9 x10 x11 x12 x13 x14 x15 y a' a b c e' e f g
theorem goF_eq (h:St) (w:List Nat) (hh:h.ok) (hw: ∀x∈w,x<4294967296): ∀(n t:Nat),t+n=64→ ∀v,v=rnds h (wl w 64) t→
  goF (kTab.drop t) (wAt w t) (wAt w (t+1)) (wAt w (t+2)) (wAt w (t+3)) (wAt w (t+4)) (wAt w (t+5)) (wAt w (t+6)) (wAt w (t+7)) (wAt w (t+8)) (wAt w (t+9)) (wAt w (t+10)) (wAt w (t+11)) (wAt w (t+12)) (wAt w (t+13)) (wAt w (t+14)) (wAt w (t+15)) v.a v.b v.c v.d v.e v.f v.g v.h=rnds h (wl w 64) 64
 |0,t,ht,v,hv=>by
  have e:t=64:=by omega
  subst e
  rw[List.drop_of_length_le (by rw[length_kTab];exact Nat.le_refl _), ←hv]
  rfl
 |n+1,t,ht,v,hv=>by
  have hok:v.ok:=by rw[hv];exact rnds_ok hh _ _
  obtain⟨h1,h2,h3,h4,h5,h6,h7,h8⟩:=hok
  have l1:=wAt_lt w hw (t+1)
  have l14:=wAt_lt w hw (t+14)
  have hk:kTab.drop t=kTab.getD t 0::kTab.drop (t+1):=by
   have hl:t<kTab.length:=by rw[length_kTab];omega
   rw[List.drop_eq_getElem_cons hl,List.getD_eq_getElem?_getD,List.getElem?_eq_getElem hl];rfl
  have hx:(wl w 64).getD t 0=wAt w t:=wl_get w 64 t (by omega)
  have hnx:rnds h (wl w 64) (t+1)=rnd v (kTab.getD t 0) (wAt w t):=by rw[hv, ←hx];rfl
  have hN:=wAt_next w t
  have ih:=goF_eq h w hh hw n (t+1) (by omega) _ hnx.symm
  simp only[Nat.add_assoc,Nat.reduceAdd]at ih
  rw[hk,goF]
  simp only[force_eq]
  rw[rq_eq h5 (by omega),rq_eq h5 (by omega),rq_eq h5 (by omega),rq_eq h1 (by omega),rq_eq h1 (by omega),rq_eq h1 (by omega),rq_eq l1 (by omega),rq_eq l1 (by omega),rq_eq l14 (by omega),rq_eq l14 (by omega),choose_nat _ _ _ h5 h6 h7,most_nat _ _ _ h1 h2 h3]
  have e2:(wAt w t+(itr 7 (wAt w (t+1))^^^itr 18 (wAt w (t+1))^^^wAt w (t+1) / 8)+wAt w (t+9)+(itr 17 (wAt w (t+14))^^^itr 19 (wAt w (t+14))^^^wAt w (t+14) / 1024)) % 4294967296=wAt w (t+16):=hN.symm
  rw[e2]
  exact ih
def sumF {β:Type} :St→St→(St→β)→β
 |⟨a',b',c',d',e',f',g',i'⟩,⟨a,b,c,d,e,f,g,i⟩,k=>
  force ((a'+a) % 4294967296) fun a=>force ((b'+b) % 4294967296) fun b=>force ((c'+c) % 4294967296) fun c=>force ((d'+d) % 4294967296) fun d=>
  force ((e'+e) % 4294967296) fun e=>force ((f'+f) % 4294967296) fun f=>force ((g'+g) % 4294967296) fun g=>force ((i'+i) % 4294967296) fun i=>k ⟨a,b,c,d,e,f,g,i⟩
theorem sumF_eq {β:Type} (v h:St) (k:St→β):sumF v h k=k (sumSt v h):=by
 obtain⟨a',b',c',d',e',f',g',i'⟩:=v
 obtain⟨a,b,c,d,e,f,g,i⟩:=h
 simp only[sumF,force_eq,sumSt]
def rowF:St→List Nat→St
 |⟨a,b,c,d,e,f,g,i⟩,w=>goF kTab (w.getD 0 0) (w.getD 1 0) (w.getD 2 0) (w.getD 3 0) (w.getD 4 0) (w.getD 5 0) (w.getD 6 0) (w.getD 7 0) (w.getD 8 0) (w.getD 9 0) (w.getD 10 0) (w.getD 11 0) (w.getD 12 0) (w.getD 13 0) (w.getD 14 0) (w.getD 15 0) a b c d e f g i
theorem rowF_eq (h:St) (w:List Nat) (hh:h.ok) (hw: ∀x∈w,x<4294967296):rowF h w=rnds h (wl w 64) 64:=by
 have e:=goF_eq h w hh hw 64 0 (by omega) h rfl
 rw[List.drop_zero]at e
 simp only[Nat.zero_add,wAt_small w _ (show(0:Nat)<16 by omega),wAt_small w _ (show(1:Nat)<16 by omega),wAt_small w _ (show(2:Nat)<16 by omega),wAt_small w _ (show(3:Nat)<16 by omega),wAt_small w _ (show(4:Nat)<16 by omega),wAt_small w _ (show(5:Nat)<16 by omega),wAt_small w _ (show(6:Nat)<16 by omega),wAt_small w _ (show(7:Nat)<16 by omega),wAt_small w _ (show(8:Nat)<16 by omega),wAt_small w _ (show(9:Nat)<16 by omega),wAt_small w _ (show(10:Nat)<16 by omega),wAt_small w _ (show(11:Nat)<16 by omega),wAt_small w _ (show(12:Nat)<16 by omega),wAt_small w _ (show(13:Nat)<16 by omega),wAt_small w _ (show(14:Nat)<16 by omega),wAt_small w _ (show(15:Nat)<16 by omega)]at e
 rw[←e]
 obtain⟨a,b,c,d,e,f,g,i⟩:=h
 rw[rowF]
def blockF {β:Type} (h:St) (w:List Nat) (k:St→β):β:=
 forceL w fun w=>sumF (rowF h w) h k
theorem blockF_eq {β:Type} (h:St) (w:List Nat) (k:St→β) (hh:h.ok) (hw: ∀x∈w,x<4294967296):blockF h w k=k (blockN h w):=by
 rw[blockF,forceL_eq,sumF_eq,rowF_eq h w hh hw,blockN]
def blocksF {β:Type} :(n:Nat)→St→List Nat→(St→β)→β
 |0,h,_,k=>k h
 |n+1,h,p,k=>forceL (p.drop 64) fun r=>blockF h (wordsOf (p.take 64)) fun h'=>blocksF n h' r k
theorem blocksN_shift (h:St) (p:List Nat) (j:Nat):blocksN h p (j+1)=blocksN (blockN h (wordsOf (p.take 64))) (p.drop 64) j:=by
 induction j with
 |zero=>rfl
 |succ j ih=>
  have e1:blocksN h p (j+1+1)=blockN (blocksN h p (j+1)) (wordsOf ((p.drop (64*(j+1))).take 64)):=by rw[blocksN]
  have e2:blocksN (blockN h (wordsOf (p.take 64))) (p.drop 64) (j+1)=blockN (blocksN (blockN h (wordsOf (p.take 64))) (p.drop 64) j) (wordsOf (((p.drop 64).drop (64*j)).take 64)):=by rw[blocksN]
  rw[e1,e2,ih,List.drop_drop,show 64*(j+1)=64+64*j by omega]
theorem blocksF_eq {β:Type} : ∀(n:Nat) (h:St) (p:List Nat) (k:St→β),h.ok→(∀x∈p,x<256)→blocksF n h p k=k (blocksN h p n)
 |0,_,_,_,_,_=>rfl
 |n+1,h,p,k,hh,hp=>by
  have hw: ∀x∈wordsOf (p.take 64),x<4294967296:=wordsOf_lt _ (fun x hx=>hp x (List.mem_of_mem_take hx))
  have hok:(blockN h (wordsOf (p.take 64))).ok:=sumSt_ok _ _
  rw[blocksF,forceL_eq,blockF_eq h _ _ hh hw,blocksF_eq n _ _ k hok (fun x hx=>hp x (List.mem_of_mem_drop hx)),blocksN_shift]
def digestF (l:List Nat):List Nat:=forceL (padN l) fun p=>blocksF (p.length / 64) beginN p fun h=>forceL (bytesOf h.list) id
theorem digestF_eq (l:List Nat) (hl: ∀x∈l,x<256):digestN l=digestF l:=by
 rw[digestF,forceL_eq,blocksF_eq _ _ _ _ beginN_ok (padN_lt l hl),forceL_eq,digestN,sumSt8,nblk,id]
end Go.Proofs.YtcnglbliidjnfaaGreatDoor
end
section
namespace Go.Proofs.YtcnglbliidjnfaaGreatDoor
set_option maxRecDepth 100000
def keyN (l:List Nat):List Nat:=if 64<l.length then digestN l else l
def blockM (l:List Nat):List Nat:=keyN l++List.replicate (64 - (keyN l).length) 0
def maskN (k:List Nat) (m:Nat):List Nat:=k.map (· ^^^m)
def tagN (s b:List Nat):List Nat:=digestN (maskN (blockM s) 92++digestN (maskN (blockM s) 54++b))
theorem length_dig (l:List Nat):(digestN l).length=32:=by unfold digestN;rw[length_bytesOf];rfl
theorem dig_lt (l:List Nat): ∀x∈digestN l,x<256:=bytesOf_lt _
theorem length_keyN (l:List Nat):(keyN l).length≤64:=by
 unfold keyN
 split
 ·rw[length_dig];omega
 ·omega
theorem length_blockM (l:List Nat):(blockM l).length=64:=by
 have:=length_keyN l
 simp[blockM];omega
theorem keyN_lt (l:List Nat) (h: ∀x∈l,x<256): ∀x∈keyN l,x<256:=by
 unfold keyN
 split
 ·exact dig_lt l
 ·exact h
theorem blockM_lt (l:List Nat) (h: ∀x∈l,x<256): ∀x∈blockM l,x<256:=by
 intro x hx
 rcases List.mem_append.1 hx with h1|h1
 ·exact keyN_lt l h x h1
 ·have:=(List.mem_replicate.1 h1).2;omega
theorem length_maskN (k:List Nat) (m:Nat):(maskN k m).length=k.length:=by simp[maskN]
theorem xor_lt8 {a b:Nat} (ha:a<256) (hb:b<256):a^^^b<256:=Nat.xor_lt_two_pow (n:=8) ha hb
theorem maskN_lt (k:List Nat) (m:Nat) (hk: ∀x∈k,x<256) (hm:m<256): ∀x∈maskN k m,x<256:=by
 intro x hx
 simp only[maskN,List.mem_map]at hx
 obtain⟨y,hy,rfl⟩:=hx
 exact xor_lt8 (hk y hy) hm
def maskTo (k:List Nat) (m j:Nat):List Nat:=(k.take j).map (· ^^^m)++k.drop j
theorem maskTo_zero (k:List Nat) (m:Nat):maskTo k m 0=k:=by simp[maskTo]
theorem maskTo_all (k:List Nat) (m:Nat):maskTo k m k.length=maskN k m:=by simp[maskTo,maskN]
theorem length_maskTo (k:List Nat) (m j:Nat):(maskTo k m j).length=k.length:=by simp[maskTo];omega
theorem maskTo_get (k:List Nat) (m j:Nat):(maskTo k m j).getD j 0=k.getD j 0:=by
 unfold maskTo
 by_cases h:j<k.length
 ·have hl:((k.take j).map (· ^^^m)).length=j:=by simp;omega
  rw[List.getD_eq_getElem?_getD,List.getElem?_append_right (by rw[hl];exact Nat.le_refl _),hl,Nat.sub_self,List.getElem?_drop,Nat.add_zero, ←List.getD_eq_getElem?_getD]
 ·have h1:(maskTo k m j).length=k.length:=length_maskTo k m j
  unfold maskTo at h1
  rw[List.getD_eq_getElem?_getD,List.getD_eq_getElem?_getD,List.getElem?_eq_none (by omega),List.getElem?_eq_none (by omega)]
theorem maskTo_set (k:List Nat) (m j:Nat) (h:j<k.length):(maskTo k m j).set j (k.getD j 0^^^m)=maskTo k m (j+1):=by
 unfold maskTo
 have hl:((k.take j).map (· ^^^m)).length=j:=by simp;omega
 have e:k.take (j+1)=k.take j++ [k[j]]:=List.take_succ_eq_append_getElem h
 have eg:k.getD j 0=k[j]:=by rw[List.getD_eq_getElem?_getD,List.getElem?_eq_getElem h];rfl
 rw[List.set_append_right _ _ (by rw[hl];exact Nat.le_refl _),hl,Nat.sub_self,List.drop_eq_getElem_cons h,List.set_cons_zero,e,eg,List.map_append,List.append_assoc]
 rfl
theorem getD_lt8 {k:List Nat} (hk: ∀x∈k,x<256) (j:Nat):k.getD j 0<256:=by
 rw[List.getD_eq_getElem?_getD]
 rcases h:k[j]? with _|y
 ·simp
 ·exact hk y (List.mem_of_getElem? h)
end Go.Proofs.YtcnglbliidjnfaaGreatDoor
end
section
namespace Go.Proofs.YtcnglbliidjnfaaGreatDoor
set_option linter.unusedVariables false
def tagB (s b:List Nat):List Nat:=tagN s (66::b)
theorem tagB_len (s b:List Nat):(tagB s b).length=32:=length_dig _
theorem tagB_lt (s b:List Nat): ∀x∈tagB s b,x<256:=dig_lt _
def bodyB (r:Rg):List Nat:=putT (fdPut r).2
def wholeB (l:List K) (r:Rg):List Nat:=bodyB r++tagB (findK l r.key).sec (bodyB r)
def ecB (l:List K) (r:Rg):Nat × List Nat:=
 if isR l=false then(1,[])else if(fdPut r).1≠0 then((fdPut r).1,[])else if findE l r.key≠0 then(10,[])else(0,putF (wholeB l r))
def restB (p:List Nat):List Nat:=p.take (p.length - 32)
def sealB (p:List Nat):List Nat:=p.drop (p.length - 32)
def verT:List Tf→Nat × Nat
 |[]=>(12,0)
 |f::_=>if f.tag=1∧f.val.length=1∧1≤f.val.getD 0 0∧f.val.getD 0 0≤3 then(0,f.val.getD 0 0)else(12,0)
def verP (p:List Nat):Nat × Nat:=if p.length<32 then(14,0)else if(gotT (restB p)).1≠0 then((gotT (restB p)).1,0)else verT (gotT (restB p)).2
def verB (s:List Nat):Nat × Nat:=if(fgetX s).1≠0 then((fgetX s).1,0)else verP (fgetX s).2
def toldB (l:List K) (p:List Nat):Nat × Rg:=
 if p.length<32 then(14,zeroR)else if(gotT (restB p)).1≠0 then((gotT (restB p)).1,zeroR)
 else if(fdGet (gotT (restB p)).2).1≠0 then((fdGet (gotT (restB p)).2).1,zeroR)
 else if findE l (fdGet (gotT (restB p)).2).2.key≠0 then(10,zeroR)
 else if sealB p≠tagB (findK l (fdGet (gotT (restB p)).2).2.key).sec (restB p)then(11,zeroR)else(0,(fdGet (gotT (restB p)).2).2)
def decB (l:List K) (s:List Nat):Nat × Rg:=if isR l=false then(1,zeroR)else if(fgetX s).1≠0 then((fgetX s).1,zeroR)else toldB l (fgetX s).2
theorem rest_seal (p:List Nat):restB p++sealB p=p:=List.take_append_drop _ _
theorem rest_app (p t:List Nat) (h:t.length=32):restB (p++t)=p∧sealB (p++t)=t:=by
 unfold restB sealB
 rw[List.length_append,h,Nat.add_sub_cancel]
 exact⟨List.take_left,List.drop_left⟩
theorem fldF_lt: ∀(s:List Int) (k:Nat), ∀f∈fldF k s, ∀x∈f.val,x<256
 |[],k,f,hf=>by simp[fldF]at hf
 |v::s,k,f,hf=>by
  rw[fldF,List.mem_append]at hf
  rcases hf with hf|hf
  ·split at hf
   ·simp at hf
   ·rw[List.mem_singleton]at hf
    subst hf
    exact numB_lt _
  ·exact fldF_lt s (k+1) f hf
theorem fldF_len9: ∀(s:List Int) (k:Nat),(∀x∈s,In56 x)→(putT (fldF k s)).length≤9*s.length
 |[],k,h=>by simp[fldF,putT]
 |v::s,k,h=>by
  have h1:=fldF_len9 s (k+1) (fun x hx=>h x (List.mem_cons_of_mem _ hx))
  have hv:=h v List.mem_cons_self
  rw[fldF,putT_append,List.length_append,List.length_cons]
  split
  ·simp only[putT,List.length_nil];omega
  ·have:=size_in (n:=v.toNat) (by have:=hv.1;have:=hv.2;omega)
   simp only[putT,List.length_cons,List.length_append,List.length_nil,numB_len]
   omega
theorem putT_mem: ∀ {l:List Tf} {f:Tf} {x:Nat},f∈l→x∈f.val→x∈putT l
 |[],f,x,hf,hx=>by simp at hf
 |g::l,f,x,hf,hx=>by
  rw[putT]
  rcases List.mem_cons.1 hf with e|hf
  ·subst e;simp[hx]
  ·have:=putT_mem hf hx;simp[this]
theorem body_lt {r:Rg} {l:List Tf} (h:fdPut r=(0,l)): ∀x∈putT l,x<256:=by
 obtain⟨h1,h2,h3⟩:=fdPut_zero h
 refine putT_lt l (fun f hf=>(isT_short (get_put h).1 (by omega) (by omega)).2 f hf) ?_
 rw[h3]
 exact fldF_lt _ _
theorem body_len {r:Rg} {l:List Tf} (h:fdPut r=(0,l)):(putT l).length≤117:=by
 obtain⟨h1,h2,h3⟩:=fdPut_zero h
 rw[h3]
 have:=fldF_len9 (numL (cutU r)) 1 (fun x hx=>by have:=num_in h1 x hx;exact⟨by omega,by omega⟩)
 rwa[numL_len]at this
theorem numB_ver: ∀n,n<4→1≤n→numB n=[n]:=by decide
theorem put_first {r:Rg} {l:List Tf} (h:fdPut r=(0,l)):(1≤r.ver∧r.ver≤3)∧ ∃t,l=⟨1,[r.ver.toNat]⟩::t:=by
 obtain⟨h1,h2,h3⟩:=fdPut_zero h
 obtain⟨a1,a2,a3,a4,a5,a6,a7⟩:=(argF_iff r).1 h1
 obtain⟨q,e1⟩: ∃q,numL (cutU r)=r.ver::q:=by
  refine⟨(numL (cutU r)).drop 1, ?_⟩
  rw[←cut_ver r];rfl
 rw[e1,fldF,if_neg (by omega),List.singleton_append,numB_ver r.ver.toNat (by omega) (by omega)]at h3
 exact⟨⟨a6,a7⟩,_,h3⟩
theorem ver_put {r:Rg} {l:List Tf} (h:fdPut r=(0,l)):verT l=(0,r.ver.toNat):=by
 obtain⟨⟨h1,h2⟩,t,h3⟩:=put_first h
 rw[h3,verT,if_pos ⟨rfl,rfl,by simp;omega,by simp;omega⟩]
 rfl
theorem ecB_ok {l:List K} {r:Rg} {b:List Nat} (h:ecB l r=(0,b)):isR l=true∧(fdPut r).1=0∧findE l r.key=0∧b=putF (wholeB l r):=by
 rw[ecB]at h
 split at h
 ·cases h
 ·rename_i h0
  split at h
  ·rename_i h1;exact absurd (Prod.mk.inj h).1 h1
  ·rename_i h1
   split at h
   ·cases h
   ·rename_i h2
    exact⟨by simpa using h0,by omega,by omega,((Prod.mk.inj h).2).symm⟩
theorem fdPut_eq {r:Rg} (h:(fdPut r).1=0):fdPut r=(0,(fdPut r).2):=Prod.ext h rfl
theorem whole_lt {l:List K} {r:Rg} (h:(fdPut r).1=0): ∀x∈wholeB l r,x<256:=by
 intro x hx
 rw[wholeB,List.mem_append]at hx
 exact hx.elim (body_lt (fdPut_eq h) x) (tagB_lt _ _ x)
theorem whole_len {l:List K} {r:Rg} (h:(fdPut r).1=0):32≤(wholeB l r).length∧(wholeB l r).length≤149:=by
 have:=body_len (fdPut_eq h)
 rw[wholeB,List.length_append,tagB_len,bodyB]
 omega
theorem whole_parts (l:List K) (r:Rg):restB (wholeB l r)=bodyB r∧sealB (wholeB l r)=tagB (findK l r.key).sec (bodyB r):=rest_app _ _ (tagB_len _ _)
theorem got_body {r:Rg} (h:(fdPut r).1=0):gotT (bodyB r)=(0,(fdPut r).2)∧fdGet (fdPut r).2=(0,r):=by
 have:=get_put (fdPut_eq h)
 exact⟨gotT_put this.1,this.2.1⟩
theorem told_body {l:List K} {r:Rg} (h:(fdPut r).1=0) (h2:findE l r.key=0) (t:List Nat) (ht:t.length=32):
  toldB l (bodyB r++t)=(if t≠tagB (findK l r.key).sec (bodyB r)then(11,zeroR)else(0,r)):=by
 obtain⟨e1,e2⟩:=rest_app (bodyB r) t ht
 obtain⟨g1,g2⟩:=got_body h
 rw[toldB,if_neg (by rw[List.length_append,ht];omega),e1,e2,g1]
 simp only
 rw[if_neg (by simp),g2]
 simp only
 rw[if_neg (by simp),if_neg (by omega)]
theorem ecB_back {l:List K} {r:Rg} {b:List Nat} (h:ecB l r=(0,b)):decB l b=(0,r)∧verB b=(0,r.ver.toNat)∧(1≤r.ver∧r.ver≤3)∧(∀x∈b,x<256)∧b.length≤224:=by
 obtain⟨h1,h2,h3,h4⟩:=ecB_ok h
 obtain⟨n1,n2⟩:=whole_len (l:=l) h2
 have hg:fgetX b=(0,wholeB l r):=by rw[h4];exact getX_putF (whole_lt h2)
 refine⟨?_, ?_,(put_first (fdPut_eq h2)).1, ?_, ?_⟩
 ·rw[decB,if_neg (by rw[h1];decide),hg]
  simp only
  rw[if_neg (by simp),wholeB,told_body h2 h3 _ (tagB_len _ _),if_neg (by simp)]
 ·rw[verB,hg]
  simp only
  rw[if_neg (by simp),verP,if_neg (by omega),(whole_parts l r).1,(got_body h2).1]
  simp only
  rw[if_neg (by simp)]
  exact ver_put (fdPut_eq h2)
 ·rw[h4];exact putF_lt _
 ·rw[h4,putF_len];omega
theorem decB_ok {l:List K} {s:List Nat} {r:Rg} (h:decB l s=(0,r)):isR l=true∧(fgetX s).1=0∧toldB l (fgetX s).2=(0,r):=by
 rw[decB]at h
 split at h
 ·cases h
 ·rename_i h0
  split at h
  ·rename_i h1;exact absurd (Prod.mk.inj h).1 h1
  ·rename_i h1
   exact⟨by simpa using h0,by omega,h⟩
theorem toldB_ok {l:List K} {p:List Nat} {r:Rg} (h:toldB l p=(0,r)):32≤p.length∧(gotT (restB p)).1=0∧fdGet (gotT (restB p)).2=(0,r)∧findE l r.key=0∧sealB p=tagB (findK l r.key).sec (restB p):=by
 rw[toldB]at h
 split at h
 ·cases h
 ·rename_i h0
  split at h
  ·rename_i h1;exact absurd (Prod.mk.inj h).1 h1
  ·rename_i h1
   split at h
   ·rename_i h2;exact absurd (Prod.mk.inj h).1 h2
   ·rename_i h2
    split at h
    ·cases h
    ·rename_i h3
     split at h
     ·cases h
     ·rename_i h4
      have e:=(Prod.mk.inj h).2
      rw[e]at h3 h4
      exact⟨by omega,by omega,Prod.ext (by simp only;omega) e,by omega,by simpa using h4⟩
theorem decB_enc {l:List K} {s:List Nat} {r:Rg} (h:decB l s=(0,r)):ecB l r=(0,s)∧verB s=(0,r.ver.toNat)∧(1≤r.ver∧r.ver≤3):=by
 obtain⟨h1,h2,h3⟩:=decB_ok h
 obtain⟨g1,g2,g3,g4,g5⟩:=toldB_ok h3
 have hx:fgetX s=(0,(fgetX s).2):=Prod.ext h2 rfl
 obtain⟨p1,p2⟩:=putF_getX hx
 have hrl: ∀x∈restB (fgetX s).2,x<256:=fun x hx=>p2 x (List.mem_of_mem_take hx)
 have hgot:gotT (restB (fgetX s).2)=(0,(gotT (restB (fgetX s).2)).2):=Prod.ext g2 rfl
 obtain⟨q1,q2⟩:=putT_got hrl hgot
 have hfv: ∀f∈(gotT (restB (fgetX s).2)).2, ∀x∈f.val,x<256:=fun f hf x hx=>hrl x (by rw[←q2];exact putT_mem hf hx)
 obtain⟨u1,u2⟩:=put_get hfv g3
 have he:ecB l r=(0,s):=by
  rw[ecB,if_neg (by rw[h1];decide),if_neg (by rw[u1];simp),if_neg (by omega),wholeB,bodyB,u1]
  simp only
  rw[q2, ←g5,rest_seal,p1]
 exact⟨he,(ecB_back he).2.1,(ecB_back he).2.2.1⟩
theorem ecB_seal {l:List K} {r:Rg} {b:List Nat} (h:ecB l r=(0,b)) (t:List Nat) (ht:t.length=32) (hb: ∀x∈t,x<256) (hne:t≠tagB (findK l r.key).sec (bodyB r)):decB l (putF (bodyB r++t))=(11,zeroR):=by
 obtain⟨h1,h2,h3,h4⟩:=ecB_ok h
 have hg:fgetX (putF (bodyB r++t))=(0,bodyB r++t):=getX_putF (fun x hx=>(List.mem_append.1 hx).elim (body_lt (fdPut_eq h2) x) (hb x))
 rw[decB,if_neg (by rw[h1];decide),hg]
 simp only
 rw[if_neg (by simp),told_body h2 h3 t ht,if_pos hne]
theorem ecB_turn {l:List K} {r:Rg} {b p:List Nat} (h:ecB l r=(0,b)) (hp:fgetX b=(0,p)) (i y:Nat) (h1:p.length - 32≤i) (h2:i<p.length) (hy:y<256) (hne:y≠p.getD i 0):decB l (putF (p.set i y))=(11,zeroR):=by
 obtain⟨_,k2,k3,k4⟩:=ecB_ok h
 have e:p=wholeB l r:=by
  have:=getX_putF (whole_lt (l:=l) k2)
  rw[←k4,hp]at this
  exact(Prod.mk.inj this).2
 have hlen:p.length - 32=(bodyB r).length:=by rw[e,wholeB,List.length_append,tagB_len];omega
 have hpl:p.length=(bodyB r).length+32:=by rw[e,wholeB,List.length_append,tagB_len]
 have es:p.set i y=bodyB r++(tagB (findK l r.key).sec (bodyB r)).set (i - (bodyB r).length) y:=by
  rw[e,wholeB,List.set_append_right _ _ (by omega)]
 rw[es]
 refine ecB_seal h _ (by rw[List.length_set,tagB_len]) ?_ ?_
 ·intro x hx
  rcases List.mem_or_eq_of_mem_set hx with hx|hx
  ·exact tagB_lt _ _ x hx
  ·omega
 ·intro hq
  apply hne
  have hi:i - (bodyB r).length<(tagB (findK l r.key).sec (bodyB r)).length:=by rw[tagB_len];omega
  have:=congrArg (fun q=>q.getD (i - (bodyB r).length) 0) hq
  simp only[List.getD_eq_getElem?_getD,List.getElem?_set_self hi]at this
  rw[e,wholeB,List.getD_eq_getElem?_getD,List.getElem?_append_right (by omega)]
  simpa using this
theorem decB_key {l:List K} {k:K} (b:List Nat) (h:0=addE l k):
  (decB l b).1≠10∧decB (addK l k) b=decB l b∨(decB l b).1=10∧((decB (addK l k) b).1=10∨(decB (addK l k) b).1=11∨(decB (addK l k) b).1=0∧(decB (addK l k) b).2.key=k.id):=by
 obtain⟨h1,h2,h3,h4,h5⟩:=add_zero h
 have same:decB (addK l k) b=decB l b→(decB l b).1≠10∧decB (addK l k) b=decB l b∨(decB l b).1=10∧((decB (addK l k) b).1=10∨(decB (addK l k) b).1=11∨(decB (addK l k) b).1=0∧(decB (addK l k) b).2.key=k.id):=by
  intro e
  by_cases h6:(decB l b).1=10
  ·exact .inr ⟨h6, .inl (by rw[e];exact h6)⟩
  ·exact .inl ⟨h6,e⟩
 by_cases e1:(fgetX b).1=0
 ·have dl:decB l b=toldB l (fgetX b).2:=by rw[decB,if_neg (by rw[h1];decide),if_neg (by omega)]
  have dm:decB (addK l k) b=toldB (addK l k) (fgetX b).2:=by rw[decB,if_neg (by rw[h4,h5];decide),if_neg (by omega)]
  generalize (fgetX b).2=p at dl dm
  by_cases e2:p.length<32
  ·refine same ?_
   rw[dl,dm,toldB,toldB,if_pos e2,if_pos e2]
  ·by_cases e3:(gotT (restB p)).1=0
   ·by_cases e5:(fdGet (gotT (restB p)).2).1=0
    ·by_cases e4:(fdGet (gotT (restB p)).2).2.key=k.id
     ·have f1:findE l k.id=10:=by
       have:=any_ne h3
       rw[findE,if_pos h1,if_neg]
       rw[Option.isSome_iff_exists]
       rintro⟨x,hx⟩
       have g1:=List.mem_of_find?_eq_some hx
       have g2:=List.find?_some hx
       exact this x g1 (by simpa using g2)
      have f2:findE (addK l k) k.id=0:=by rw[h4,findE,if_pos h5,find_ins_same k l (any_ne h3)];rfl
      have d1:decB l b=(10,zeroR):=by
       rw[dl,toldB,if_neg e2,if_neg (by omega),if_neg (by omega),e4,if_pos (by omega)]
      refine .inr ⟨by rw[d1], .inr ?_⟩
      rw[dm,toldB,if_neg e2,if_neg (by omega),if_neg (by omega),e4,if_neg (by omega)]
      split
      ·exact .inl rfl
      ·exact .inr ⟨rfl,e4⟩
     ·have f1:findE (addK l k) (fdGet (gotT (restB p)).2).2.key=findE l (fdGet (gotT (restB p)).2).2.key:=by
       rw[h4,findE,findE,if_pos h5,if_pos h1,find_ins_other k l _ (fun e=>e4 e.symm)]
      have f2:findK (addK l k) (fdGet (gotT (restB p)).2).2.key=findK l (fdGet (gotT (restB p)).2).2.key:=by
       rw[h4,findK,findK,if_pos h5,if_pos h1,find_ins_other k l _ (fun e=>e4 e.symm)]
      refine same ?_
      rw[dl,dm,toldB,toldB,f1,f2]
    ·refine same ?_
     have z: ¬(gotT (restB p)).1≠0:=by omega
     rw[dl,dm,toldB,toldB,if_neg e2,if_neg e2,if_neg z,if_pos e5,if_neg z,if_pos e5]
   ·refine same ?_
    rw[dl,dm,toldB,toldB,if_neg e2,if_neg e2,if_pos e3,if_pos e3]
 ·refine same ?_
  have dl:decB l b=((fgetX b).1,zeroR):=by rw[decB,if_neg (by rw[h1];decide),if_pos e1]
  have dm:decB (addK l k) b=((fgetX b).1,zeroR):=by rw[decB,if_neg (by rw[h4,h5];decide),if_pos e1]
  rw[dl,dm]
end Go.Proofs.YtcnglbliidjnfaaGreatDoor
end
