import Derived.Test.YtmdbfogjfbbpjaaGreatDoorBarMath
import Derived.Test.YtmdbfogjfbbpjaaGreatDoorRingAddMath
import Derived.Test.YtmdbfogjfbbpjaaGreatDoorShaPSum
import Derived.Test.YtmdbfogjfbbpjaaGreatDoorMem
import Derived.Test.YtmdbfogjfbbpjaaGreatDoorLayPFields
import Derived.Test.YtmdbfogjfbbpjaaGreatDoorShaPad
import Derived.Test.YtmdbfogjfbbpjaaGreatDoorLineMath
set_option maxHeartbeats 1600000
set_option maxRecDepth 100000
set_option linter.unusedVariables false
section
namespace Go.Proofs.YtmdbfogjfbbpjaaGreatDoor
open Go.ChangeShapes Go.WideShapes Go.ChangeAt Go.RowKit
theorem AcC {l:List K} (h:isR l=true) {i j:Nat} (hij:i<j) (hj:j<l.length):(l.getD i K0).id<(l.getD j K0).id:=by
 have hp:=((Qt l).1 h).2
 rw[List.pairwise_iff_getElem]at hp
 have:=hp i j (by omega) hj hij
 rw[List.getD_eq_getElem?_getD,List.getD_eq_getElem?_getD,List.getElem?_eq_getElem hj,List.getElem?_eq_getElem (show i<l.length by omega)]
 exact this
theorem Vt {l:List K} (h:isR l=true) {k:K} (hk:k∈l):1≤k.sec.length∧k.sec.length≤64:=by
 have:=((Qt l).1 h).1 k hk
 have:=(Lf _ _ _ _).1 this
 exact⟨this.2.2.1,this.2.2.2.1⟩
theorem zA {l:List K} {k:Nat} (h:k<l.length):l.getD k K0∈l:=by
 rw[List.getD_eq_getElem?_getD,List.getElem?_eq_getElem h]
 exact List.getElem_mem h
theorem tY {l:List K} {id:Int} (hr:isR l=true) {k:Nat} (hk:k<l.length) (hp:((l.getD k K0).id==id)=true):l.find? (fun q=>q.id==id)=some (l.getD k K0):=
 rT k hk (fun j hj=>by
  have:=AcC hr hj hk
  have e:(l.getD k K0).id=id:=by simpa using hp
  show((l.getD j K0).id==id)=false
  rw[beq_eq_false_iff_ne];omega) hp
theorem tZ {w w':World} {B g:Nat} {cs:Array Value} {s:List Nat} {A:Option Addr} {c:Nat} (h:Bs w B s A c) (hg: ∀ad,A=some ad→ad.block≠g) (hw:w'=w.setRow g cs):Bs w' B s A c:=by
 subst hw
 refine⟨fun k u hu=> ?_,h.nil,h.len,h.cap,h.lt⟩
 obtain⟨ad,e,hlt,hc⟩:=h.rd k u hu
 refine⟨ad,e,hlt, ?_⟩
 rw[←hc]
 have:(w.setRow g cs).heap[(ad.add k).block]?=w.heap[(ad.add k).block]?:=setRow_other w g _ cs (by rw[add_block];exact hg ad e)
 simp only[World.cell?,this]
theorem Ip (l:List K) (n:Nat) (hn:n=l.length) (id:Int) (A:Option Addr) (c:Nat) (w:World) (hA:Ks w w.heap.size A l) (h1:n≤9223372036854775807)
  (r:K) (E:Int) (hr:r=Bn l id) (hE:E=As l id):
  Calls Tryz.prog 18 #[.slice A n c, .int .i64 id] w fun e w'=> ∃S cc,e= .returned (.tuple #[.agg #[.int .i64 r.id, .slice S r.sec.length cc, .int .i64 r.frm, .int .i64 r.til], .int .i64 E])∧Bs w' w'.heap.size r.sec S cc∧Below w.heap.size w w':=by
 have HN:=Lib.hid hn
 have HA:=Lib.hid hA
 have HR:=Lib.hid hr
 have HE:=Lib.hid hE
 clear hn hA hr hE
 obtain⟨w0,hw0⟩: ∃w0,w0=(w.alloc (.cells #[.int .i64 id] 3)).alloc (.cells #[.int .i64 0, .slice none 0 0, .int .i64 0, .int .i64 0] 44):=⟨_,rfl⟩
 have hb0:Below w.heap.size w w0:=by rw[hw0];exact((Below.refl _ w).alloc (Nat.le_refl _) _).alloc (by simp) _
 have hi0:w0.heap[w.heap.size]?=some (.cells #[.int .i64 id] 3 (0,0)):=by rw[hw0];exact(Below.heap_alloc _ _ _ (by simp)).trans (heap_alloc_new w _)
 have hx0:w0.heap[w.heap.size+1]?=some (.cells #[.int .i64 0, .slice none 0 0, .int .i64 0, .int .i64 0] 44 (0,0)):=by rw[hw0];exact aN w _ _
 have hs0:w0.heap.size=w.heap.size+2:=by rw[hw0];simp
 have HW0:=Lib.hid hw0
 have HA0:=Lib.hid (HA.out.next hb0)
 clear hw0
 cases his:isR l with
 |false=>
  have hr:r=K0:=by rw[HR.out,Bn,his];rfl
  have hE:E=1:=by rw[HE.out,As,his];rfl
  subst hr hE
  go_enter Tryz.func18, Tryz.ntmps18
  go_wp2_with fail
  rw[←HW0.out]
  refine(Ho l n HN.out false his A c w0 HA0.out h1).mono ?_
  rintro e w1 ⟨rfl,hb1⟩
  have HBX:=Lib.hid ((hb1.block _ (by omega)).trans hx0)
  have HB1:=Lib.hid (hb0.trans (hb1.mono hb0.size))
  clear hb1 hx0 hi0 hb0 hs0
  go_wp2_with ((with_reducible refine Ac 4 ?_);refine Al HBX.out Ep (Py _ _ _ _ _ _) ?_;intro w5 hw5)
  have hr5:=setRow_heap w1 (w.heap.size+1) #[.int .i64 0, .slice none 0 0, .int .i64 0, .int .i64 0] #[.int .i64 0, .slice none 0 0, .int .i64 0, .int .i64 0] 44 (0,0) HBX.out
  rw[←hw5.out]at hr5
  have hb5:=An hw5.out (show w.heap.size≤w.heap.size+1 by omega)
  refine bodyPost_ret (Db Tryz.results18 _ w5 (w.heap.size+1) 44 #[.int .i64 0, .slice none 0 0, .int .i64 0, .int .i64 0] (0,0) _ rfl hr5 Tryz.underlying44 rfl Ep) rfl ⟨none,0,rfl,Bs.empty _ _,HB1.out.trans hb5⟩
 |true=>
  have h100:n≤100:=by rw[HN.out];exact Aas his
  have HRING:=Lib.hid his
  have HE21:=Lib.hid (enters_of Tryz.func50 (by kernel_rfl) rfl)
  go_enter Tryz.func18, Tryz.ntmps18
  go_wp2_with fail
  rw[←HW0.out]
  refine(Ho l n HN.out true his A c w0 HA0.out h1).mono ?_
  rintro e w1 ⟨rfl,hb1⟩
  have hx1:=(hb1.block _ (show w.heap.size+1<w0.heap.size by omega)).trans hx0
  have hi1:=(hb1.block _ (show w.heap.size<w0.heap.size by omega)).trans hi0
  have hB1:=hb0.trans (hb1.mono hb0.size)
  have hs1:w.heap.size+2≤w1.heap.size:=by have:=hb1.size;omega
  have HA1:=Lib.hid (HA.out.next hB1)
  have HFIT:=Lib.hid (wF id w.heap.size w1 hi1)
  clear hb1 hx0 hi0 hb0 hs0 hi1 his
  rcases Rk (fun j=>(fun q:K=>q.id==id) (l.getD j K0)) n with⟨hlx,hall⟩|⟨k,hk,hlx,hpk,hall⟩
  ·have hf:=aL (p:=fun q:K=>q.id==id) (by rw[←HN.out];exact hall)
   have hr:r=K0:=by rw[HR.out,Bn,HRING.out,hf];rfl
   have hE:E=10:=by rw[HE.out,As,HRING.out,hf];rfl
   subst hr hE
   have HLX:=Lib.hid hlx
   clear hf hall hlx
   go_wp2_with fail
   refine(kX (fun q:K=>q.id==id) l n HN.out (by omega) 50 #[.pointer (some ⟨w.heap.size,0,none⟩)] HE21.out A c w1 HA1.out HFIT.out).mono ?_
   rintro e w2 ⟨rfl,hb2⟩
   rw[HLX.out]
   have HBX:=Lib.hid ((hb2.block _ (show w.heap.size+1<w1.heap.size by omega)).trans hx1)
   have HB1:=Lib.hid (hB1.trans (hb2.mono hB1.size))
   clear hb2 hx1 hB1
   go_wp2_with ((with_reducible refine Ac 4 ?_);refine Al HBX.out Ep (Py _ _ _ _ _ _) ?_;intro w5 hw5)
   have hr5:=setRow_heap w2 (w.heap.size+1) #[.int .i64 0, .slice none 0 0, .int .i64 0, .int .i64 0] #[.int .i64 0, .slice none 0 0, .int .i64 0, .int .i64 0] 44 (0,0) HBX.out
   rw[←hw5.out]at hr5
   have hb5:=An hw5.out (show w.heap.size≤w.heap.size+1 by omega)
   refine bodyPost_ret (Db Tryz.results18 _ w5 (w.heap.size+1) 44 #[.int .i64 0, .slice none 0 0, .int .i64 0, .int .i64 0] (0,0) _ rfl hr5 Tryz.underlying44 rfl Ep) rfl ⟨none,0,rfl,Bs.empty _ _,HB1.out.trans hb5⟩
  ·have hkl:k<l.length:=by rw[←HN.out];exact hk
   have hf:=tY HRING.out hkl hpk
   obtain⟨x,hx⟩: ∃x,x=l.getD k K0:=⟨_,rfl⟩
   have hr:r=x:=by rw[HR.out,Bn,HRING.out,hf,hx];rfl
   have hE:E=0:=by rw[HE.out,As,HRING.out,hf];rfl
   subst hr hE
   have HLEN:=Lib.hid (Vt HRING.out (zA hkl))
   rw[←hx]at HLEN
   have HLX:=Lib.hid hlx
   have HX:=Lib.hid hx
   have HKL:=Lib.hid hkl
   clear hf hall hlx hpk hx hkl
   go_wp2_with fail
   refine(kX (fun q:K=>q.id==id) l n HN.out (by omega) 50 #[.pointer (some ⟨w.heap.size,0,none⟩)] HE21.out A c w1 HA1.out HFIT.out).mono ?_
   rintro e w2 ⟨rfl,hb2⟩
   rw[HLX.out]
   have hx2:=(hb2.block _ (show w.heap.size+1<w1.heap.size by omega)).trans hx1
   have hB2:=hB1.trans (hb2.mono hB1.size)
   have hs2:w.heap.size+2≤w2.heap.size:=by have:=hb2.size;omega
   obtain⟨ad,S,cc,rfl,had,hk4⟩:=(HA.out.next hB2) k HKL.out
   rw[←HX.out]at hk4
   have hc0:=hk4.c0
   have hc1:=hk4.c1
   have hc2:=hk4.c2
   have hc3:=hk4.c3
   have HBS:=Lib.hid hk4.bs
   have HX2:=Lib.hid hx2
   have HB2:=Lib.hid hB2
   have b0: ¬((k:Int)<0):=by omega
   have b1:(0:Int)≤(k:Int):=by omega
   have b2:(k:Int)<(n:Int):=by omega
   clear hb2 hx1 hB1 hx2 hB2 hk4
   go_wp2_with (first|(go_at_call 51;refine(wH ⟨r,S,cc⟩ r.sec.length rfl w2 HBS.out HLEN.out.1 HLEN.out.2).mono ?_;rintro e w3 ⟨S3,c3,rfl,hbs3,hge3,hb3⟩;have HX3:=Lib.hid ((hb3.block _ (show w.heap.size+1<w2.heap.size by omega)).trans HX2.out);have HBS3:=Lib.hid hbs3;have HGE3:=Lib.hid hge3;have HB3:=Lib.hid hb3;clear hbs3 hge3 hb3)|((with_reducible refine Ac 4 ?_);refine Al HX3.out Ep (Py _ _ _ _ _ _) ?_;intro w5 hw5))
   have hr5:=setRow_heap w3 (w.heap.size+1) #[.int .i64 0, .slice none 0 0, .int .i64 0, .int .i64 0] #[.int .i64 r.id, .slice S3 r.sec.length c3, .int .i64 r.frm, .int .i64 r.til] 44 (0,0) HX3.out
   rw[←hw5.out]at hr5
   have hb5:=An hw5.out (show w.heap.size≤w.heap.size+1 by omega)
   have hbs5:Bs w5 w5.heap.size r.sec S3 c3:=by
    have h3:=HBS3.out
    have e5:w5.heap.size=w3.heap.size:=by rw[hw5.out];simp
    rw[e5]
    exact tZ h3 (fun ad' e=>by have:=HGE3.out ad' e;omega) hw5.out
   refine bodyPost_ret (Db Tryz.results18 _ w5 (w.heap.size+1) 44 #[.int .i64 r.id, .slice S3 r.sec.length c3, .int .i64 r.frm, .int .i64 r.til] (0,0) _ rfl hr5 Tryz.underlying44 rfl Ep) rfl ⟨S3,c3,rfl,hbs5,(HB2.out.trans (HB3.out.mono HB2.out.size)).trans hb5⟩
def toB (l:List K) (b:List Nat) (v k:Int):Int × List Nat × Int × Int:=
 if(Hn l b).1≠0 then((Hn l b).1,[],0,0)else if(ecB l ⟨(Hn l b).2.t,k,0,0,v⟩).1≠0 then(((ecB l ⟨(Hn l b).2.t,k,0,0,v⟩).1:Nat),[],0,0)
 else(0,(ecB l ⟨(Hn l b).2.t,k,0,0,v⟩).2,(Hn l b).2.left,(Hn l b).2.inn)
def toS (l:List K) (s:List Nat) (i j k:Int):Int × List Nat:=if(Gs l s).1≠0 then(((Gs l s).1:Nat),[])else Im l ⟨(Gs l s).2.t,k,i,j,0⟩
theorem dO {l:List K} {b p:List Nat} {v k i j:Int} (h:toB l b v k=(0,p,i,j)): ∃r,Hn l b=(0,r)∧ecB l ⟨r.t,k,0,0,v⟩=(0,p)∧i=r.left∧j=r.inn:=by
 rw[toB]at h
 split at h
 ·rename_i h1;exact absurd (Prod.mk.inj h).1 h1
 ·rename_i h1
  split at h
  ·rename_i h2
   have:=(Prod.mk.inj h).1
   exact absurd (by omega) h2
  ·rename_i h2
   obtain⟨_,h3⟩:=Prod.mk.inj h
   obtain⟨h4,h5⟩:=Prod.mk.inj h3
   obtain⟨h6,h7⟩:=Prod.mk.inj h5
   exact⟨(Hn l b).2,Prod.ext (Decidable.not_not.1 h1) rfl,Prod.ext (Decidable.not_not.1 h2) h4,h6.symm,h7.symm⟩
theorem nH {l:List K} {b p:List Nat} {v k:Int} {r:Rg} (h1:Hn l b=(0,r)) (h2:ecB l ⟨r.t,k,0,0,v⟩=(0,p)):toB l b v k=(0,p,r.left,r.inn):=by
 rw[toB,h1,if_neg (by simp)]
 simp only
 rw[h2,if_neg (by simp)]
theorem nI {l:List K} {s p:List Nat} {i j k:Int} (h:toS l s i j k=(0,p)): ∃r,Gs l s=(0,r)∧Im l ⟨r.t,k,i,j,0⟩=(0,p):=by
 rw[toS]at h
 split at h
 ·rename_i h1
  have:=(Prod.mk.inj h).1
  exact absurd (by omega) h1
 ·rename_i h1;exact⟨(Gs l s).2,Prod.ext (Decidable.not_not.1 h1) rfl,h⟩
theorem Pa {l:List K} {s:List Nat} {i j k:Int} {r:Rg} (h1:Gs l s=(0,r)):toS l s i j k=Im l ⟨r.t,k,i,j,0⟩:=by rw[toS,h1,if_neg (by simp)]
theorem iC {l:List K} {b:List Nat} {r:Rg} (hb: ∀x∈b,x<256) (h:Hn l b=(0,r)):Hf r=true∧Jn r=true:=by
 have:=Rw (sL hb h).2.2.2.2
 exact⟨this.1,this.2.1⟩
theorem Ql {l:List K} {s:List Nat} {r:Rg} (h:Gs l s=(0,r)):Om r=true:=by
 have h2:=(Abk (kV h).1).2.1
 cases ha:Om r with
 |true=>rfl
 |false=>rw[Nw ha]at h2;cases h2
theorem Ae6 {l:List K} {b p:List Nat} {v k i j:Int} (hb: ∀x∈b,x<256) (h:toB l b v k=(0,p,i,j)): ∃r c,Hn l b=(0,r)∧toS l p i j r.key=(0,c)∧(c=b∨c=Em b):=by
 obtain⟨r,h1,h2,rfl,rfl⟩:=dO h
 obtain⟨e1,e2,_⟩:=sL hb h1
 have hv:r.ver=0:=((Cc r).1 (iC hb h1).1).2.2.2.2
 refine⟨r,putL (readL b),h1, ?_, ?_⟩
 ·rw[Pa (Kq h2).1]
  have:(⟨r.t,r.key,r.left,r.inn,0⟩:Rg)=r:=by rw[←hv]
  rw[show(⟨(⟨r.t,k,0,0,v⟩:Rg).t,r.key,r.left,r.inn,0⟩:Rg)=r from this]
  exact e1
 ·rw[e2]
  split
  ·exact .inr rfl
  ·exact .inl rfl
theorem AcD {l:List K} {s p:List Nat} {i j k:Int} (h:toS l s i j k=(0,p)): ∃r,Gs l s=(0,r)∧toB l p r.ver r.key=(0,s,i,j):=by
 obtain⟨r,h1,h2⟩:=nI h
 obtain⟨_,_,_,a4,a5,_⟩:=(Ez r).1 (Ql h1)
 refine⟨r,h1,nH (r:=⟨r.t,k,i,j,0⟩) (Re h2).1 ?_⟩
 rw[show(⟨(⟨r.t,k,i,j,0⟩:Rg).t,r.key,0,0,r.ver⟩:Rg)=r by obtain⟨t',k',l',n',v'⟩:=r;simp only at a4 a5;rw[a4,a5]]
 exact(kV h1).1
theorem zB {d:List Nat} (h:Gl d≠0):putL d=[]:=by rw[putL,if_neg h]
theorem zC {d:List Nat} (h:Gl d=0):0<(putL d).length:=by rw[rO h];omega
theorem AcE {d:List Nat} :Gl d≠18:=by
 rw[Gl]
 split
 ·decide
 ·split<;>decide
theorem AcF {l:List K} {id:Int} (h:As l id=0):0≤id∧id≤99:=by
 rw[As]at h
 split at h
 ·rename_i hr
  split at h
  ·rename_i hs
   obtain⟨x,hx⟩:=Option.isSome_iff_exists.1 hs
   have h1:=((Qt l).1 hr).1 x (List.mem_of_find?_eq_some hx)
   have h2:=(Lf _ _ _ _).1 h1
   have h3:x.id=id:=by have:=List.find?_some hx;simpa using this
   rw[←h3]
   exact⟨h2.1,h2.2.1⟩
  ·exact absurd h (by decide)
 ·exact absurd h (by decide)
theorem zE {l:List K} {r:Rg} {E:Int} {p:List Nat} (h:Im l r=(E,p)) (hE:E≠0):p=[]:=by
 rw[Im]at h
 split at h
 ·exact(Prod.mk.inj h).2.symm
 split at h
 ·exact(Prod.mk.inj h).2.symm
 split at h
 ·exact(Prod.mk.inj h).2.symm
 obtain⟨h1,h2⟩:=Prod.mk.inj h
 rw[←h2]
 exact zB (by rw[h1];exact hE)
theorem AcG {l:List K} {s p:List Nat} {i j k E:Int} (h:toS l s i j k=(E,p)) (hE:E≠0):p=[]:=by
 rw[toS]at h
 split at h
 ·exact(Prod.mk.inj h).2.symm
 ·exact zE h hE
theorem aA {l:List K} {r:Rg} (h1:isR l=true) (h0:(lputX r).1=0) (h3:As l r.key=0):(Im l r).1=0:=by
 have hp:lputX r=(0,(lputX r).2):=Prod.ext h0 rfl
 obtain⟨ha,hf,hj⟩:=Rw hp
 rw[Im,if_neg (by rw[h1];decide),if_neg (by omega),if_neg (by omega)]
 have hl:=Ny hp
 have h9: ∀x∈(lputX r).2,x≤9:=by
  rw[show(lputX r).2=(joinX (valL r) (Au r.t.kind)).2 from(congrArg Prod.snd hj).symm]
  exact(AbR _ _).2
 show Gl (Lr l r)=0
 rw[Gl,if_neg,if_pos]
 ·rw[Aw,List.all_eq_true]
  intro x hx
  rw[Lr,List.mem_append]at hx
  rcases hx with hx|hx
  ·simpa using h9 x hx
  ·have:=vV _ _ x hx
   simp;omega
 ·rw[Lr,List.length_append,Ko];omega
theorem Ae7 {l:List K} {s p:List Nat} {i j k E:Int} {r:Rg} (h1:Gs l s=(0,r)) (h:toS l s i j k=(E,p)):
  (Ub r.t=true→Ft r.t.uses i j=true→As l k=0→E=0)∧(E=0→Ub r.t=true∧Ft r.t.uses i j=true∧As l k=0∧0<p.length)∧(E=18↔Ft r.t.uses i j=true∧0≤k∧k≤99∧Ub r.t=false):=by
 rw[Pa h1]at h
 have hr:=(sS h1).1
 have ht:=((Ez r).1 (Ql h1)).1
 have hA:=Cc ⟨r.t,k,i,j,0⟩
 have hF:=Gz ⟨r.t,k,i,j,0⟩
 have hk:As l k=0→0≤k∧k≤99:=fun h=>AcF h
 have hR:=uQ r.t
 have hEe:E=(Im l ⟨r.t,k,i,j,0⟩).1:=by rw[h]
 refine⟨fun q1 q2 q3=> ?_,fun q=> ?_, ?_⟩
 ·rw[hEe]
  have hh:=hk q3
  exact aA hr (bD (hA.2 ⟨ht,q2,hh.1,hh.2,rfl⟩) (hF.2 ⟨(hR.1 q1).2.2,(hR.1 q1).2.1⟩)) q3
 ·subst q
  obtain⟨_,e2,e3,e4,e5⟩:=AaK h
  have hp:lputX ⟨r.t,k,i,j,0⟩=(0,(lputX ⟨r.t,k,i,j,0⟩).2):=Prod.ext e2 rfl
  obtain⟨ha,hf,_⟩:=Rw hp
  have ha':=hA.1 ha
  have hf':=hF.1 hf
  refine⟨hR.2 ⟨ht,hf'.2,hf'.1⟩,ha'.2.1,e3, ?_⟩
  rw[←e5]
  exact zC e4
 ·rw[hEe,Im,if_neg (by rw[hr];decide)]
  by_cases q1:Hf ⟨r.t,k,i,j,0⟩=true
  ·have qa:=hA.1 q1
   by_cases q2:Jn ⟨r.t,k,i,j,0⟩=true
   ·have qf:=hF.1 q2
    rw[if_neg (by have:=bD q1 q2;omega)]
    constructor
    ·intro h18
     exfalso
     split at h18
     ·have:=AaM hr (by assumption)
      have e:As l k=18:=h18
      have e':As l k=10:=this
      omega
     ·have e:Gl (Lr l ⟨r.t,k,i,j,0⟩)=18:=h18
      exact AcE e
    ·rintro⟨_,_,_,h4⟩
     exact absurd (hR.2 ⟨ht,qf.2,qf.1⟩) (by rw[h4];decide)
   ·have q2':Jn ⟨r.t,k,i,j,0⟩=false:=by simpa using q2
    have hl:lputX ⟨r.t,k,i,j,0⟩=(18,[]):=by rw[lputX,if_neg (by rw[q1];decide),if_pos q2']
    rw[hl,if_pos (by decide)]
    refine⟨fun _=>⟨qa.2.1,qa.2.2.1,qa.2.2.2.1, ?_⟩,fun _=>rfl⟩
    cases hro:Ub r.t with
    |false=>rfl
    |true=>exact absurd (hF.2 ⟨(hR.1 hro).2.2,(hR.1 hro).2.1⟩) (by rw[q2'];decide)
  ·have q1':Hf ⟨r.t,k,i,j,0⟩=false:=by simpa using q1
   have hl:lputX ⟨r.t,k,i,j,0⟩=(1,[]):=by rw[lputX,if_pos q1']
   rw[hl,if_pos (by decide)]
   constructor
   ·intro h;exact absurd h (by decide)
   ·rintro⟨h2,h3,h4,_⟩
    exact absurd (hA.2 ⟨ht,h2,h3,h4,rfl⟩) q1
theorem Sk {w:World} {B X:Nat} {s:List Nat} {A:Option Addr} {c:Nat} {r:Rg} {cs:Array Value} (h:Bs w B s A c) (hX:Am w X r):Bs (w.setRow X cs) B s A c:=by
 refine⟨fun k u hu=> ?_,h.nil,h.len,h.cap,h.lt⟩
 obtain⟨ad,e,hlt,hc⟩:=h.rd k u hu
 refine⟨ad,e,hlt, ?_⟩
 by_cases hb:X=(ad.add k).block
 ·exfalso
  obtain⟨x,hx⟩: ∃x:Nat,u= .int .u8 x:=by
   simp only[U8,List.getElem?_map,Option.map_eq_some_iff]at hu
   obtain⟨x,_,rfl⟩:=hu
   exact⟨x,rfl⟩
  subst hx
  unfold World.cell? at hc
  rw[←hb,hX]at hc
  simp only at hc
  simp at hc
  have hm:=List.mem_of_getElem? hc.2
  simp at hm
 ·exact(cell_setRow_other w X cs _ (fun e=>hb e.symm)).trans hc
theorem Ml {fn:Func} {p q:Tmp} (h:fn.results= #[.cell p 39, .cell q 27]) (tmps:Array Value) (w:World) (g g2:Nat) (cs:Array Value) (E:Int) (t:TypeId)
  (hp:tmps.getD p undef= .pointer (some ⟨g,0,none⟩)) (hq:tmps.getD q undef= .pointer (some ⟨g2,0,none⟩)) (hg:w.heap[g]?=some (.cells cs t (0,0))) (hi:(Tryz.prog.info? 39).map (·.size)=some cs.size) (he:w.cell? ⟨g2,0,none⟩=some (.int .i64 E)):
  (results fn tmps).run Tryz.prog w= .ok (.tuple #[.agg cs, .int .i64 E]) w:=by
 have hp':tmps[p]?.getD undef= .pointer (some ⟨g,0,none⟩):=by simpa using hp
 have hq':tmps[q]?.getD undef= .pointer (some ⟨g2,0,none⟩):=by simpa using hq
 have h1:=run_loadVar_row (P:= Tryz.prog) w g t 39 cs (0,0) _ hg Tryz.underlying39 rfl hi
 have h2:(loadVar 27 ⟨g2,0,none⟩).run Tryz.prog w= .ok (.int .i64 E) w:=by simp[go_sem,he]
 simp[results,h,hp',hq',asAddr,h1,h2]
theorem nJ (ad:Addr) (a b:Nat):(ad.add a).add b=ad.add (a+b):=by
 unfold Addr.add
 by_cases ha:a=0
 ·subst ha;simp
 ·by_cases hb:b=0
  ·subst hb;simp[ha]
  ·simp[ha,hb,Nat.add_assoc]
theorem Bs.split {w:World} {B:Nat} {s:List Nat} {a:Addr} {c:Nat} (h:Bs w B s (some a) c) (m:Nat) (hm:m≤s.length):Bs w B (s.take m) (some a) c∧Bs w B (s.drop m) (some (a.add m)) (c - m):=by
 have h1:=h.len
 have h2:=h.cap
 refine⟨⟨?_,(fun e=>by cases e),(by rw[List.length_take];omega),h2,fun x hx=>h.lt x (List.mem_of_mem_take hx)⟩,⟨?_,(fun e=>by cases e),(by rw[List.length_drop];omega),(by omega),fun x hx=>h.lt x (List.mem_of_mem_drop hx)⟩⟩
 ·intro k u hu
  refine h.rd k u ?_
  rw[U8,List.getElem?_map]at hu⊢
  rw[List.getElem?_take]at hu
  split at hu
  ·exact hu
  ·simp at hu
 ·intro k u hu
  obtain⟨ad,e,hlt,hc⟩:=h.rd (m+k) u (by
   rw[U8,List.getElem?_map]at hu⊢
   rw[List.getElem?_drop]at hu
   exact hu)
  cases e
  exact⟨_,rfl,by rw[add_block];exact hlt,by rw[nJ];exact hc⟩
theorem Iw {l:List K} {id:Int} (h:As l id=0):(Bn l id).sec.length≤64:=by
 rw[As]at h
 split at h
 ·rename_i hr
  split at h
  ·rename_i hs
   obtain⟨x,hx⟩:=Option.isSome_iff_exists.1 hs
   rw[Bn,if_pos hr,hx,Option.getD_some]
   exact(Vt hr (List.mem_of_find?_eq_some hx)).2
  ·exact absurd h (by decide)
 ·exact absurd h (by decide)
theorem Bs.part {w:World} {s:List Nat} {A:Option Addr} {c:Nat} (h:Bs w w.heap.size s A c):Part.ok w ⟨A,s,c⟩:=⟨h.rd,h.nil⟩
theorem Uu (a b L:List Nat) (hL:a++b=L) (n m k:Nat) (hn:n=a.length) (hm:m=b.length) (hk:k=L.length) (A B:Option Addr) (c d:Nat) (w:World) (ha:Rd w w.heap.size A (U8 a)) (hb:Rd w w.heap.size B (U8 b)) (hnA:A=none→c=0) (hnB:B=none→d=0) (hla: ∀x∈a,x<256) (hlb: ∀x∈b,x<256) (h0:0<k) (h1:k≤140737488355328):
  Calls Tryz.prog 58 #[.slice (some ⟨w.heap.size,0,none⟩) 2 2] (w.alloc (.cells #[.slice A n c, .slice B m d] 23)) fun e w'=> ∃A' c',e= .returned (.slice A' k c')∧Bs w' w'.heap.size L A' c'∧Below w.heap.size w w':=by
 subst hL hk
 have hf:a++b=Cf [⟨A,a,c⟩,⟨B,b,d⟩]:=by simp[Cf]
 have hbl:=Aa w #[.slice A n c, .slice B m d] 23
 rw[hf]at h0 h1⊢
 refine(Lx [⟨A,a,c⟩,⟨B,b,d⟩] w.heap.size 2 2 _ rfl (by simp) (Oa (by simp[Part.val,hn,hm])) ?_ (by omega) h0 h1).mono ?_
 ·intro p hp
  refine Part.ok_alloc ?_ _
  simp only[List.mem_cons,List.not_mem_nil,or_false]at hp
  rcases hp with rfl|rfl
  ·exact⟨ha,hnA⟩
  ·exact⟨hb,hnB⟩
 ·rintro e w' ⟨v,rfl,hown,hbw⟩
  rw[←hf]at hown⊢
  obtain⟨A',c',rfl,hs⟩:=Av hown (fun x hx=>by
   rcases List.mem_append.1 hx with h|h
   ·exact hla x h
   ·exact hlb x h)
  exact⟨A',c',rfl,hs,hbl.trans (hbw.mono hbl.size)⟩
end Go.Proofs.YtmdbfogjfbbpjaaGreatDoor
end
section
namespace Go.Proofs.YtmdbfogjfbbpjaaGreatDoor
set_option maxRecDepth 100000
open Go.ChangeShapes Go.WideShapes Go.ChangeAt Go.RowKit
def b64:Array Value:= #[.int .u8 0, .int .u8 0, .int .u8 0, .int .u8 0, .int .u8 0, .int .u8 0, .int .u8 0, .int .u8 0, .int .u8 0, .int .u8 0, .int .u8 0, .int .u8 0, .int .u8 0, .int .u8 0, .int .u8 0, .int .u8 0, .int .u8 0, .int .u8 0, .int .u8 0, .int .u8 0, .int .u8 0, .int .u8 0, .int .u8 0, .int .u8 0, .int .u8 0, .int .u8 0, .int .u8 0, .int .u8 0, .int .u8 0, .int .u8 0, .int .u8 0, .int .u8 0, .int .u8 0, .int .u8 0, .int .u8 0, .int .u8 0, .int .u8 0, .int .u8 0, .int .u8 0, .int .u8 0, .int .u8 0, .int .u8 0, .int .u8 0, .int .u8 0, .int .u8 0, .int .u8 0, .int .u8 0, .int .u8 0, .int .u8 0, .int .u8 0, .int .u8 0, .int .u8 0, .int .u8 0, .int .u8 0, .int .u8 0, .int .u8 0, .int .u8 0, .int .u8 0, .int .u8 0, .int .u8 0, .int .u8 0, .int .u8 0, .int .u8 0, .int .u8 0]
theorem zG:b64=(U8 (List.replicate 64 0)).toArray:=rfl
theorem Kd:(Tryz.prog.info? 169).map (·.size)=some 64:=by kernel_rfl
theorem dQ (l:List Nat) (k:Nat) (h:k<l.length):(U8 l)[k]?=some (.int .u8 ((l.getD k 0:Nat):Int)):=by
 rw[Co l k h,List.getD_eq_getElem?_getD,List.getElem?_eq_getElem h];rfl
theorem Uv {w:World} {g:Nat} {l:List Nat} {t:TypeId} (h:w.heap[g]?=some (.cells (U8 l).toArray t (0,0))) (k:Nat) (hk:k<l.length):w.cell? ⟨g,k,none⟩=some (.int .u8 ((l.getD k 0:Nat):Int)):=by
 rw[cell_of_row w g k _ _ (0,0) h,List.getElem?_toArray,dQ l k hk]
theorem nK (K:List Nat) (m:Nat) (w:World) (hK: ∀x∈K,x<256) (hl:K.length=64) (hm:m<256):
  Calls Tryz.prog 156 #[.agg (U8 K).toArray, .int .u8 m] w fun e w'=>e= .returned (.agg (U8 (maskN K m)).toArray)∧Below w.heap.size w w':=by
 obtain⟨X,hX⟩: ∃X:Array Value,X=(U8 K).toArray:=⟨_,rfl⟩
 obtain⟨w0,hw0⟩: ∃w0:World,w0=(w.alloc (.cells X 169)).alloc (.cells b64 169):=⟨_,rfl⟩
 rw[←hX]
 obtain⟨hs0,hx0,hr0,hb0⟩:=kC hw0
 rw[hX]at hx0
 have HX0:=Lib.hid hx0
 have HR0:=Lib.hid hr0
 have HK:=Lib.hid hK
 have HL:=Lib.hid hl
 have HW:=Lib.hid hw0
 have HS:=Lib.hid hs0
 clear hX hw0 hx0 hr0 hK hl hs0
 go_enter Tryz.func156, Tryz.ntmps156
 go_wp2_with fail
 have e0:(w.alloc (.cells X 169)).alloc (.cells b64 169)=w0:=HW.out.symm
 unfold b64 at e0
 rw[e0]
 clear e0
 go_loopw [5,6] (fun _ i wr=> ∃k:Nat,k≤64∧i= .int .i64 k∧wr.heap[w.heap.size]?=some (.cells (U8 (Fa K m k)).toArray 169 (0,0))∧wr.heap[w.heap.size+1]?=some (.cells b64 169 (0,0))∧Below w.heap.size w wr) (fun _ i _=>64 - (intOf i).toNat)
 case atStart=>exact⟨0,Nat.zero_le _,rfl,by rw[kE];exact HX0.out,HR0.out,hb0⟩
 case round=>
  obtain⟨k,hk,rfl,hv,hr,hbel⟩:=hrel
  by_cases hlt:k<64
  ·have hkl:k<K.length:=by rw[HL.out];exact hlt
   have hfz:=frozen_of_row wr _ k _ _ hv
   have hcur:=Uv hv k (by rw[Ou];exact hkl)
   rw[oY]at hcur
   have hset:=heap_setCell_same wr _ k _ 169 (.int .u8 ((K.getD k 0^^^m:Nat):Int)) hv
   have hst:(U8 (Fa K m k)).toArray.setIfInBounds k (.int .u8 ((K.getD k 0^^^m:Nat):Int))=(U8 (Fa K m (k+1))).toArray:=by
    rw[List.setIfInBounds_toArray, ←oZ K m k hkl,U8,U8,List.map_set]
   rw[hst]at hset
   have HSET:=Lib.hid hset
   have HR:=Lib.hid ((heap_setCell_other wr ⟨w.heap.size,k,none⟩ (w.heap.size+1) (.int .u8 ((K.getD k 0^^^m:Nat):Int)) (by show w.heap.size+1≠w.heap.size;omega)).trans hr)
   have hx8:=kF HK.out k
   have hxor:=u8_xor_nat (K.getD k 0) m hx8 hm
   have bk0:(0:Int)≤(k:Int):=Int.natCast_nonneg _
   have bk1:(k:Int)<64:=by omega
   clear hset hst hv hr
   generalize K.getD k 0=y at*
   go_wp2
   go_roundw
   case rel=>exact⟨k+1,by omega,by go_num,HSET.out,HR.out,hbel.setCell (Nat.le_refl _) _⟩
   case measure=>simp[intOf];omega
  ·have k64:k=64:=by omega
   subst k64
   have hall:Fa K m 64=maskN K m:=by rw[←HL.out];exact oX K m
   rw[hall]at hv
   obtain⟨F,hF⟩: ∃F:Array Value,F=(U8 (maskN K m)).toArray:=⟨_,rfl⟩
   rw[←hF]at hv
   have hsz:F.size=64:=by rw[hF];simp[U8,Ea,HL.out]
   have hin:(Tryz.prog.info? 169).map (·.size)=some F.size:=by rw[hsz];exact Kd
   have hone:F.all (·.oneCell')=true:=by rw[hF];exact Bv _
   have HF:=Lib.hid hF
   have HV:=Lib.hid hv
   have HR:=Lib.hid hr
   have HSZ:=Lib.hid hsz
   have HIN:=Lib.hid hin
   have HONE:=Lib.hid hone
   clear hF hv hr hsz hin hone hall
   go_wp2_with (first
    |((with_reducible refine Dl 16 ?_);refine wpList_load_row (o:=⟨some 16, .load 169 (.tmp 2),_,_,_,_⟩) rfl 169 (.tmp 2) rfl w.heap.size rfl 169 F (0,0) _ HV.out Tryz.underlying169 rfl HIN.out ?_)
    |((with_reducible refine Ac 4 ?_);refine Ad (o:=⟨none, .store 169 (.tmp 4) (.tmp 16),_,_,_,_⟩) rfl 169 (.tmp 4) (.tmp 16) rfl (w.heap.size+1) F rfl rfl 169 b64 HR.out HIN.out HSZ.out.symm HONE.out ?_;intro w1 hw1))
   have hr1:w1.heap[w.heap.size+1]?=some (.cells F 169 (0,0)):=by rw[hw1.out];exact setRow_heap _ _ _ _ _ _ HR.out
   refine bodyPost_ret (results_cell_row Tryz.results156 _ w1 (w.heap.size+1) 169 _ (0,0) _ rfl hr1 Tryz.underlying169 rfl HIN.out) rfl ⟨by rw[HF.out], ?_⟩
   exact hbel.trans (An hw1.out (by omega))
end Go.Proofs.YtmdbfogjfbbpjaaGreatDoor
end
section
namespace Go.Proofs.YtmdbfogjfbbpjaaGreatDoor
open Go.ChangeShapes Go.WideShapes Go.ChangeAt Go.RowKit
theorem AcH (l:List Nat) (n:Nat) (hn:n=l.length) (A:Option Addr) (c:Nat) (w:World) (hT:Cx w) (hA:Rd w w.heap.size A (U8 l)) (hnil:A=none→c=0) (hb: ∀x∈l,x<256) (hl:n≤5000):
  Calls Tryz.prog 157 #[.slice A n c] w fun e w'=>e= .returned (.agg (U8 (digestN l)).toArray)∧Below w.heap.size w w':=by
 subst hn
 exact Afb l A c w hT hA hnil hb hl
theorem AcI (l:List Nat) (A A':Option Addr) (c c' B:Nat) (w:World) (hA:Rd w B A (U8 l)) (hA':Rd w B A' (U8 l)) (hl:l.length≤maxLen):
  Calls Tryz.prog 12 #[.slice A l.length c, .slice A' l.length c'] w fun e w'=>e= .returned (.bool true)∧Below w.heap.size w w':=by
 unfold maxLen at hl
 obtain⟨n,hn⟩: ∃n,n=l.length:=⟨_,rfl⟩
 have HN:=Lib.hid hn
 rw[←hn]at hl⊢
 clear hn
 go_enter Tryz.func12, Tryz.ntmps12
 go_wp2
 go_loopw [5] (fun i wr=> ∃k d:Nat,k≤n∧i= .int .i64 k∧wr=w.drewN d) (fun i _=>n - (intOf i).toNat)
 case atStart=>exact⟨0,0,Nat.zero_le _,rfl,rfl⟩
 case round=>
  obtain⟨k,d,hk,rfl,rfl⟩:=hrel
  by_cases hlt:k<n
  ·obtain⟨ad,rfl,_,hc⟩:=hA k _ (Co l k (by rw[←HN.out];exact hlt))
   obtain⟨ad',rfl,_,hc'⟩:=hA' k _ (Co l k (by rw[←HN.out];exact hlt))
   clear hA hA'
   have b1:(0:Int)≤(k:Int):=by omega
   have b2:(k:Int)<(n:Int):=by omega
   generalize l[k]=x at hc hc'
   go_wp2
   go_quiet (fail)
   go_wp2
   go_roundw
   case rel=>exact⟨k+1,_,by omega,by go_num,rfl⟩
   case measure=>simp[intOf];omega
  ·go_wp2
   go_ret
   exact⟨rfl,Ae (Below.refl _ _) _⟩
end Go.Proofs.YtmdbfogjfbbpjaaGreatDoor
end
section
namespace Go.Proofs.YtmdbfogjfbbpjaaGreatDoor
set_option maxRecDepth 100000
open Go.ChangeShapes Go.WideShapes Go.ChangeAt Go.RowKit
theorem uA (l:List Nat) (k j:Nat) (hj:j<4) (h:4*k+4≤l.length):valB ((l.drop (4*k)).take (j+1))=valB ((l.drop (4*k)).take j)*256+l[4*k+j]:=by
 rw[List.take_succ_eq_append_getElem (by simp;omega),Ob]
 simp
theorem uB (l:List Nat) (hl: ∀x∈l,x<256) (k j:Nat) (hj:j<4):valB ((l.drop (4*k)).take j)<16777216:=by
 have h:=Gx ((l.drop (4*k)).take j) (fun x hx=>hl x (List.mem_of_mem_drop (List.mem_of_mem_take hx)))
 have h2:256^((l.drop (4*k)).take j).length≤256^3:=Nat.pow_le_pow_right (by omega) (by simp;omega)
 omega
theorem dR (l:List Nat) (k:Nat):Cz l l.length k=valB ((l.drop (4*k)).take 4):=by
 unfold Cz;rw[List.take_length]
theorem iD (l:List Nat) (A:Option Addr) (c:Nat) (w:World) (hA:Rd w w.heap.size A (U8 l)) (hb: ∀x∈l,x<256) (hl:l.length≤4000) (h4:l.length % 4=0):
  Calls Tryz.prog 207 #[.slice A l.length c] w fun e w'=> ∃v,e= .returned (.tuple #[v, .int .i64 0])∧
   w'.ownsRow w.heap.size 192 1 v (l.length / 4) (U32 (wordsOf l))∧Below w.heap.size w w':=by
 obtain⟨i0,hi,hz0,hz1,hz2⟩:=info_parts eJ
 obtain⟨n,hn⟩: ∃n,n=l.length:=⟨_,rfl⟩
 rw[←hn]at hl h4⊢
 obtain⟨m,hm⟩: ∃m,m=n / 4:=⟨_,rfl⟩
 have HN:=Lib.hid hn
 have HM:=Lib.hid hm
 have HB:=Lib.hid hb
 have hmn:4*m≤n:=by omega
 have hnm:n≤4*m:=by omega
 rw[←hm]
 clear hn hm hb
 have hb4:((n:Int) % 4 !=0)=false:=by simp;omega
 go_enter Tryz.func207, Tryz.ntmps207
 go_wp2
 go_loopw [4,5] (fun v i wr=> ∃k:Nat,k≤m∧i= .int .i64 (4*k:Nat)∧wr.ownsRow w.heap.size 192 1 v k (U32 (Ax l k n))∧Below w.heap.size w wr) (fun _ i _=>n - (intOf i).toNat)
 case atStart=>exact⟨0,Nat.zero_le _,rfl,World.ownsRow_lit w #[] 0 (Nat.le_refl _) (by decide) rfl,(Below.refl _ _).alloc (Nat.le_refl _) _⟩
 case round=>
  obtain⟨k,hk,rfl,hown,hbel⟩:=hrel
  by_cases hlt:k<m
  ·have hkn:4*k+4≤n:=by omega
   go_wp2
   go_loop [6,7] (fun x t=> ∃j:Nat,j≤4∧t= .int .i64 j∧x= .int .u32 (valB ((l.drop (4*k)).take j):Nat)) (fun _ t=>4 - (intOf t).toNat)
   case atStart=>exact⟨0,Nat.zero_le _,rfl,rfl⟩
   case round=>
    obtain⟨j,hj,rfl,rfl⟩:=hrel
    by_cases hj4:j<4
    ·have hkl:4*k+j<l.length:=by rw[←HN.out];omega
     obtain⟨ad,rfl,hab,hc0⟩:=hA (4*k+j) _ (Co l (4*k+j) hkl)
     have hc:wr.cell? (ad.add (4*k+j))=some (.int .u8 (l[4*k+j]:Nat)):=(hbel.cell (by rw[add_block];exact hab)).trans hc0
     have hx:=HB.out _ (List.getElem_mem hkl)
     have hy:=uB l HB.out k j hj4
     have hs:=uA l k j hj4 (by rw[←HN.out];exact hkn)
     generalize l[4*k+j]=x at*
     generalize valB ((l.drop (4*k)).take j)=y at*
     have HS:=Lib.hid hs
     clear hs hc0 hA
     go_wp2
     go_round
     case rel=>exact⟨j+1,by omega,by go_num,by rw[HS.out];go_num⟩
     case measure=>simp[intOf];omega
    ·have e4:j=4:=by omega
     subst e4
     obtain⟨y,hy⟩: ∃y,y=valB ((l.drop (4*k)).take 4):=⟨_,rfl⟩
     have HY:=Lib.hid hy
     rw[←hy]
     clear hy
     go_wp2_with (at_builtin;refine wpList_append_own _ rfl _ _ 200 rfl w.heap.size 192 i0 (.int .u32 0) 1 4 Tryz.underlying200 hi hz0 hz1 hz2 rfl (by decide) _ _ _ rfl (hown.alloc _) ⟨wr.heap.size,0,none⟩ 1 1 [.int .u32 (y:Int)] rfl rfl ?c1 ?c2 ?c3 ?c4 ?c5 ?_)
     case c2=>first|rfl|(intro u hu;simp at hu;subst hu;rfl)
     case c3=>unfold maxLen;omega
     case c4=>omega
     case c5=>have:=hbel.size;simp;omega
     intro v' w1 hown' hgrow _
     have hbel1:Below w.heap.size w w1:=(hbel.alloc hbel.size _).grown hgrow (by have:=hbel.size;simp;omega) (fun g hg=>Ak hown hg)
     have hown1:w1.ownsRow w.heap.size 192 1 v' (k+1) (U32 (Ax l (k+1) n)):=by
      rw[Xy,U32,List.map_append]
      rw[HN.out,dR, ←HY.out, ←HN.out]
      exact hown'
     clear hown' hgrow hown hbel
     go_wp2
     go_roundw
     case rel=>exact⟨k+1,by omega,by go_num,hown1,hbel1⟩
     case measure=>simp[intOf];omega
  ·have e:Ax l k n=wordsOf l:=by
    have e1:k=m:=by omega
    rw[e1,HM.out,HN.out];rfl
   have ek:k=m:=by omega
   rw[e,ek]at hown
   have HO:=Lib.hid hown
   clear e ek hown
   go_wp2
   go_ret2
   exact⟨_,rfl,HO.out,hbel⟩
theorem zH (x:Nat) (hx:x<4294967296):U8 [x / 16777216,x / 65536 % 256,x / 256 % 256,x % 256]=
  [.int .u8 (IntKind.u8.wrap (IntKind.u32.wrap ((x:Int) / 16777216))), .int .u8 (IntKind.u8.wrap ((IntKind.u32.wrap ((x:Int) / 65536)).tmod 256)), .int .u8 (IntKind.u8.wrap ((IntKind.u32.wrap ((x:Int) / 256)).tmod 256)), .int .u8 (IntKind.u8.wrap ((x:Int).tmod 256))]:=by
 have w32: ∀z:Int,0≤z→z<4294967296→IntKind.u32.wrap z=z:=fun z h1 h2=>by
  simp[IntKind.wrap,IntKind.signed,IntKind.bits];omega
 have w8: ∀z:Int,0≤z→z<256→IntKind.u8.wrap z=z:=fun z h1 h2=>by
  simp[IntKind.wrap,IntKind.signed,IntKind.bits];omega
 rw[w32 ((x:Int) / 16777216) (by omega) (by omega),w32 ((x:Int) / 65536) (by omega) (by omega),w32 ((x:Int) / 256) (by omega) (by omega)]
 rw[Int.tmod_eq_emod_of_nonneg (by omega:(0:Int)≤(x:Int) / 65536),Int.tmod_eq_emod_of_nonneg (by omega:(0:Int)≤(x:Int) / 256),Int.tmod_eq_emod_of_nonneg (by omega:(0:Int)≤(x:Int))]
 rw[w8 ((x:Int) / 16777216) (by omega) (by omega),w8 ((x:Int) / 65536 % 256) (by omega) (by omega),w8 ((x:Int) / 256 % 256) (by omega) (by omega),w8 ((x:Int) % 256) (by omega) (by omega)]
 simp[U8]
theorem iE (l:List Nat) (A:Option Addr) (c:Nat) (w:World) (hA:Rd w w.heap.size A (U32 l)) (hb: ∀x∈l,x<4294967296) (hl:l.length≤1000):
    Calls Tryz.prog 209 #[.slice A l.length c] w fun e w'=> ∃v,e= .returned v∧
      w'.ownsRow w.heap.size 5 1 v (4*l.length) (U8 (bytesOf l))∧Below w.heap.size w w':=by
  obtain⟨i0,hi,hz0,hz1,hz2⟩:=info_parts Be
  obtain⟨n,hn⟩: ∃n,n=l.length:=⟨_,rfl⟩
  rw[←hn]at hl⊢
  have HN:=Lib.hid hn
  have HB:=Lib.hid hb
  clear hn hb
  go_enter Tryz.func209, Tryz.ntmps209
  go_wp2
  go_loopw [3,4] (fun v i wr=> ∃k:Nat,k≤n∧i= .int .i64 k∧wr.ownsRow w.heap.size 5 1 v (4*k) (U8 (Io l k))∧Below w.heap.size w wr) (fun _ i _=>n - (intOf i).toNat)
  case atStart=>exact⟨0,Nat.zero_le _,rfl,World.ownsRow_lit w #[] 0 (Nat.le_refl _) (by decide) rfl,(Below.refl _ _).alloc (Nat.le_refl _) _⟩
  case round=>
    obtain⟨k,hk,rfl,hown,hbel⟩:=hrel
    by_cases hlt:k<n
    · have hkl:k<l.length:=by rw[←HN.out];exact hlt
      obtain⟨ad,rfl,hab,hc0⟩:=hA k _ (eL l k hkl)
      have hc:wr.cell? (ad.add k)=some (.int .u32 (l[k]:Nat)):=(hbel.cell (by rw[add_block];exact hab)).trans hc0
      have hx:=HB.out _ (List.getElem_mem hkl)
      have hs:=fV l k hkl HB.out
      generalize l[k]=x at*
      have HS:=Lib.hid hs
      clear hs hc0 hA
      have hbs:=hbel.size
      have b0:(0:Int)≤(k:Int):=Int.natCast_nonneg _
      have b1:(k:Int)<(n:Int):=by omega
      have lk:=World.block_lt_of_cell? wr _ hc
      obtain⟨v,hv⟩: ∃v,v=u3:=⟨_,rfl⟩
      rw[←hv]at hown⊢
      clear hv
      have hge: ∀g,v.ownBlock=some g→w.heap.size≤g:=fun g hg=>Ak hown hg
      have hne:v.ownBlock≠some (ad.add k).block:=by
        intro e
        have:=hge _ e
        rw[add_block]at this
        omega
      have HGE:=Lib.hid hge
      clear hge
      go_wp2
      go_region_held3 (fun w'=>w'.cell? (ad.add k)=some (.int .u32 (x:Nat)))
        (first | go_keep|(rw[hgrow.cell_far _ (by simp;omega) (Ne.symm hne)];assumption))
        ((refine step_append_lies _ (by rfl) _ _ _ (by rfl) w.heap.size 5 i0 _ 1 1 Tryz.underlying23 hi hz0 hz1 hz2 rfl (by omega) v (4*k) (U8 (Io l k)) (by rfl) ((hown.alloc _).drew)
            ⟨wr.heap.size,0,none⟩ 4 4 [.int .u8 (IntKind.u8.wrap (IntKind.u32.wrap ((x:Int) / 16777216))), .int .u8 (IntKind.u8.wrap ((IntKind.u32.wrap ((x:Int) / 65536)).tmod 256)), .int .u8 (IntKind.u8.wrap ((IntKind.u32.wrap ((x:Int) / 256)).tmod 256)), .int .u8 (IntKind.u8.wrap ((x:Int).tmod 256))] (by rfl) (by rfl)
            (World.news_of_block (cs:= #[.int .u8 (IntKind.u8.wrap (IntKind.u32.wrap ((x:Int) / 16777216))), .int .u8 (IntKind.u8.wrap ((IntKind.u32.wrap ((x:Int) / 65536)).tmod 256)), .int .u8 (IntKind.u8.wrap ((IntKind.u32.wrap ((x:Int) / 256)).tmod 256)), .int .u8 (IntKind.u8.wrap ((x:Int).tmod 256))]) (t:= 5) (fr:=(0,0)) (heap_alloc_new wr _)) (by simp[Value.oneCell'])
            (by omega) (by unfold maxLen;omega) (by omega) (by simp;omega) (wr.heap.size+1) (by simp) ?_;intro gg cap w1 hown1 hgrow hat hlt1))
      have hbel1:Below w.heap.size w w1:=((hbel.alloc hbs _).drew).grown hgrow (by simp;omega) HGE.out
      have hown2:w1.ownsRow w.heap.size 5 1 (.slice (some ⟨gg,0,none⟩) (4*k+4) cap) (4*(k+1)) (U8 (Io l (k+1))):=by
        have e:U8 (Io l (k+1))=U8 (Io l k)++U8 [x / 16777216,x / 65536 % 256,x / 256 % 256,x % 256]:=by
          rw[HS.out,U8,U8,U8,List.map_append]
        rw[e,zH x hx]
        exact hown1
      clear hown1 hgrow hat hlt1 hown hbel hc hne
      go_wp2
      go_roundw
      case rel=>exact⟨k+1,by omega,by go_num,hown2,hbel1⟩
      case measure=>simp[intOf];omega
    · have e:Io l k=bytesOf l:=by
        have e1:k=l.length:=by rw[←HN.out];omega
        rw[e1];rfl
      have ek:k=n:=by omega
      rw[e,ek]at hown
      have HO:=Lib.hid hown
      clear e ek hown
      go_wp2
      go_ret
      exact⟨_,rfl,HO.out,hbel⟩
end Go.Proofs.YtmdbfogjfbbpjaaGreatDoor
end
