import Derived.Test.YtmdbfogjfbbpjaaGreatDoorFieldsMath
import Derived.Test.YtmdbfogjfbbpjaaGreatDoorRingAddMath
import Derived.Test.YtmdbfogjfbbpjaaGreatDoorShaPSum
import Derived.Test.YtmdbfogjfbbpjaaGreatDoorTrackBackMath
import Derived.Test.YtmdbfogjfbbpjaaGreatDoorMem
import Derived.Test.YtmdbfogjfbbpjaaGreatDoorLayPFields
import Derived.RangeFuncNested
import Derived.RangeFuncBound
import Derived.RangeFuncLeaves
import Derived.Shelf.Abstract
import Derived.WalkKit
import Derived.OwnWalkIn
import Derived.TacticsInMore
import Derived.LoopNIn
import Derived.LoopIn
import Derived.Deep.RegionHeld3
import Derived.Deep.MidRow
import Derived.ArgAppend
set_option maxHeartbeats 2000000
set_option maxRecDepth 100000
set_option linter.unusedVariables false
section
namespace Go.Proofs.YtmdbfogjfbbpjaaGreatDoor
def tagB (s b:List Nat):List Nat:=Zg s (66::b)
theorem Gr (s b:List Nat):(tagB s b).length=32:=Cs _
theorem Rf (s b:List Nat): ∀x∈tagB s b,x<256:=Sy _
def Mh (r:Rg):List Nat:=putT (Ci r).2
def wholeB (l:List K) (r:Rg):List Nat:=Mh r++tagB (Bn l r.key).sec (Mh r)
def ecB (l:List K) (r:Rg):Nat × List Nat:=
 if isR l=false then(1,[])else if(Ci r).1≠0 then((Ci r).1,[])else if As l r.key≠0 then(10,[])else(0,putF (wholeB l r))
def restB (p:List Nat):List Nat:=p.take (p.length - 32)
def Eg (p:List Nat):List Nat:=p.drop (p.length - 32)
def Afh:List Tf→Nat × Nat
 |[]=>(12,0)
 |f::_=>if f.tag=1∧f.val.length=1∧1≤f.val.getD 0 0∧f.val.getD 0 0≤3 then(0,f.val.getD 0 0)else(12,0)
def AfH (p:List Nat):Nat × Nat:=if p.length<32 then(14,0)else if(gotT (restB p)).1≠0 then((gotT (restB p)).1,0)else Afh (gotT (restB p)).2
def Afi (s:List Nat):Nat × Nat:=if(fgetX s).1≠0 then((fgetX s).1,0)else AfH (fgetX s).2
def Rh (l:List K) (p:List Nat):Nat × Rg:=
 if p.length<32 then(14,Ah)else if(gotT (restB p)).1≠0 then((gotT (restB p)).1,Ah)
 else if(Br (gotT (restB p)).2).1≠0 then((Br (gotT (restB p)).2).1,Ah)
 else if As l (Br (gotT (restB p)).2).2.key≠0 then(10,Ah)
 else if Eg p≠tagB (Bn l (Br (gotT (restB p)).2).2.key).sec (restB p)then(11,Ah)else(0,(Br (gotT (restB p)).2).2)
def Gs (l:List K) (s:List Nat):Nat × Rg:=if isR l=false then(1,Ah)else if(fgetX s).1≠0 then((fgetX s).1,Ah)else Rh l (fgetX s).2
theorem wC (p:List Nat):restB p++Eg p=p:=List.take_append_drop _ _
theorem kS (p t:List Nat) (h:t.length=32):restB (p++t)=p∧Eg (p++t)=t:=by
 unfold restB Eg
 rw[List.length_append,h,Nat.add_sub_cancel]
 exact⟨List.take_left,List.drop_left⟩
theorem sQ: ∀(s:List Int) (k:Nat), ∀f∈fldF k s, ∀x∈f.val,x<256
 |[],k,f,hf=>by simp[fldF]at hf
 |v::s,k,f,hf=>by
  rw[fldF,List.mem_append]at hf
  rcases hf with hf|hf
  ·split at hf
   ·simp at hf
   ·rw[List.mem_singleton]at hf
    subst hf
    exact dX _
  ·exact sQ s (k+1) f hf
theorem bJ: ∀(s:List Int) (k:Nat),(∀x∈s,oJ x)→(putT (fldF k s)).length≤9*s.length
 |[],k,h=>by simp[fldF,putT]
 |v::s,k,h=>by
  have h1:=bJ s (k+1) (fun x hx=>h x (List.mem_cons_of_mem _ hx))
  have hv:=h v List.mem_cons_self
  rw[fldF,Uc,List.length_append,List.length_cons]
  split
  ·simp only[putT,List.length_nil];omega
  ·have:=eC (n:=v.toNat) (by have:=hv.1;have:=hv.2;omega)
   simp only[putT,List.length_cons,List.length_append,List.length_nil,Kj]
   omega
theorem Xf: ∀ {l:List Tf} {f:Tf} {x:Nat},f∈l→x∈f.val→x∈putT l
 |[],f,x,hf,hx=>by simp at hf
 |g::l,f,x,hf,hx=>by
  rw[putT]
  rcases List.mem_cons.1 hf with e|hf
  ·subst e;simp[hx]
  ·have:=Xf hf hx;simp[this]
theorem sR {r:Rg} {l:List Tf} (h:Ci r=(0,l)): ∀x∈putT l,x<256:=by
 obtain⟨h1,h2,h3⟩:=Lj h
 refine dW l (fun f hf=>(Nu (Va h).1 (by omega) (by omega)).2 f hf) ?_
 rw[h3]
 exact sQ _ _
theorem Ri {r:Rg} {l:List Tf} (h:Ci r=(0,l)):(putT l).length≤117:=by
 obtain⟨h1,h2,h3⟩:=Lj h
 rw[h3]
 have:=bJ (numL (cutU r)) 1 (fun x hx=>by have:=eF h1 x hx;exact⟨by omega,by omega⟩)
 rwa[Dq]at this
theorem Abj: ∀n,n<4→1≤n→numB n=[n]:=by decide
theorem bK {r:Rg} {l:List Tf} (h:Ci r=(0,l)):(1≤r.ver∧r.ver≤3)∧ ∃t,l=⟨1,[r.ver.toNat]⟩::t:=by
 obtain⟨h1,h2,h3⟩:=Lj h
 obtain⟨a1,a2,a3,a4,a5,a6,a7⟩:=(Ez r).1 h1
 obtain⟨q,e1⟩: ∃q,numL (cutU r)=r.ver::q:=by
  refine⟨(numL (cutU r)).drop 1, ?_⟩
  rw[←eG r];rfl
 rw[e1,fldF,if_neg (by omega),List.singleton_append,Abj r.ver.toNat (by omega) (by omega)]at h3
 exact⟨⟨a6,a7⟩,_,h3⟩
theorem AdB {r:Rg} {l:List Tf} (h:Ci r=(0,l)):Afh l=(0,r.ver.toNat):=by
 obtain⟨⟨h1,h2⟩,t,h3⟩:=bK h
 rw[h3,Afh,if_pos ⟨rfl,rfl,by simp;omega,by simp;omega⟩]
 rfl
theorem Abk {l:List K} {r:Rg} {b:List Nat} (h:ecB l r=(0,b)):isR l=true∧(Ci r).1=0∧As l r.key=0∧b=putF (wholeB l r):=by
 rw[ecB]at h
 split at h
 ·cases h
 ·rename_i h0
  split at h
  ·rename_i h1;exact absurd (Prod.mk.inj h).1 h1
  ·rename_i h1
   split at h
   ·cases h
   ·rename_i h2
    exact⟨by simpa using h0,by omega,by omega,((Prod.mk.inj h).2).symm⟩
theorem Mx {r:Rg} (h:(Ci r).1=0):Ci r=(0,(Ci r).2):=Prod.ext h rfl
theorem Abl {l:List K} {r:Rg} (h:(Ci r).1=0): ∀x∈wholeB l r,x<256:=by
 intro x hx
 rw[wholeB,List.mem_append]at hx
 exact hx.elim (sR (Mx h) x) (Rf _ _ x)
theorem wD {l:List K} {r:Rg} (h:(Ci r).1=0):32≤(wholeB l r).length∧(wholeB l r).length≤149:=by
 have:=Ri (Mx h)
 rw[wholeB,List.length_append,Gr,Mh]
 omega
theorem kT (l:List K) (r:Rg):restB (wholeB l r)=Mh r∧Eg (wholeB l r)=tagB (Bn l r.key).sec (Mh r):=kS _ _ (Gr _ _)
theorem kU {r:Rg} (h:(Ci r).1=0):gotT (Mh r)=(0,(Ci r).2)∧Br (Ci r).2=(0,r):=by
 have:=Va (Mx h)
 exact⟨Aap this.1,this.2.1⟩
theorem wE {l:List K} {r:Rg} (h:(Ci r).1=0) (h2:As l r.key=0) (t:List Nat) (ht:t.length=32):
  Rh l (Mh r++t)=(if t≠tagB (Bn l r.key).sec (Mh r)then(11,Ah)else(0,r)):=by
 obtain⟨e1,e2⟩:=kS (Mh r) t ht
 obtain⟨g1,g2⟩:=kU h
 rw[Rh,if_neg (by rw[List.length_append,ht];omega),e1,e2,g1]
 simp only
 rw[if_neg (by simp),g2]
 simp only
 rw[if_neg (by simp),if_neg (by omega)]
theorem Kq {l:List K} {r:Rg} {b:List Nat} (h:ecB l r=(0,b)):Gs l b=(0,r)∧Afi b=(0,r.ver.toNat)∧(1≤r.ver∧r.ver≤3)∧(∀x∈b,x<256)∧b.length≤224:=by
 obtain⟨h1,h2,h3,h4⟩:=Abk h
 obtain⟨n1,n2⟩:=wD (l:=l) h2
 have hg:fgetX b=(0,wholeB l r):=by rw[h4];exact vM (Abl h2)
 refine⟨?_, ?_,(bK (Mx h2)).1, ?_, ?_⟩
 ·rw[Gs,if_neg (by rw[h1];decide),hg]
  simp only
  rw[if_neg (by simp),wholeB,wE h2 h3 _ (Gr _ _),if_neg (by simp)]
 ·rw[Afi,hg]
  simp only
  rw[if_neg (by simp),AfH,if_neg (by omega),(kT l r).1,(kU h2).1]
  simp only
  rw[if_neg (by simp)]
  exact AdB (Mx h2)
 ·rw[h4];exact Vb _
 ·rw[h4,Qy];omega
theorem sS {l:List K} {s:List Nat} {r:Rg} (h:Gs l s=(0,r)):isR l=true∧(fgetX s).1=0∧Rh l (fgetX s).2=(0,r):=by
 rw[Gs]at h
 split at h
 ·cases h
 ·rename_i h0
  split at h
  ·rename_i h1;exact absurd (Prod.mk.inj h).1 h1
  ·rename_i h1
   exact⟨by simpa using h0,by omega,h⟩
theorem Abm {l:List K} {p:List Nat} {r:Rg} (h:Rh l p=(0,r)):32≤p.length∧(gotT (restB p)).1=0∧Br (gotT (restB p)).2=(0,r)∧As l r.key=0∧Eg p=tagB (Bn l r.key).sec (restB p):=by
 rw[Rh]at h
 split at h
 ·cases h
 ·rename_i h0
  split at h
  ·rename_i h1;exact absurd (Prod.mk.inj h).1 h1
  ·rename_i h1
   split at h
   ·rename_i h2;exact absurd (Prod.mk.inj h).1 h2
   ·rename_i h2
    split at h
    ·cases h
    ·rename_i h3
     split at h
     ·cases h
     ·rename_i h4
      have e:=(Prod.mk.inj h).2
      rw[e]at h3 h4
      exact⟨by omega,by omega,Prod.ext (by simp only;omega) e,by omega,by simpa using h4⟩
theorem kV {l:List K} {s:List Nat} {r:Rg} (h:Gs l s=(0,r)):ecB l r=(0,s)∧Afi s=(0,r.ver.toNat)∧(1≤r.ver∧r.ver≤3):=by
 obtain⟨h1,h2,h3⟩:=sS h
 obtain⟨g1,g2,g3,g4,g5⟩:=Abm h3
 have hx:fgetX s=(0,(fgetX s).2):=Prod.ext h2 rfl
 obtain⟨p1,p2⟩:=Sw hx
 have hrl: ∀x∈restB (fgetX s).2,x<256:=fun x hx=>p2 x (List.mem_of_mem_take hx)
 have hgot:gotT (restB (fgetX s).2)=(0,(gotT (restB (fgetX s).2)).2):=Prod.ext g2 rfl
 obtain⟨q1,q2⟩:=jF hrl hgot
 have hfv: ∀f∈(gotT (restB (fgetX s).2)).2, ∀x∈f.val,x<256:=fun f hf x hx=>hrl x (by rw[←q2];exact Xf hf hx)
 obtain⟨u1,u2⟩:=rZ hfv g3
 have he:ecB l r=(0,s):=by
  rw[ecB,if_neg (by rw[h1];decide),if_neg (by rw[u1];simp),if_neg (by omega),wholeB,Mh,u1]
  simp only
  rw[q2, ←g5,wC,p1]
 exact⟨he,(Kq he).2.1,(Kq he).2.2.1⟩

end Go.Proofs.YtmdbfogjfbbpjaaGreatDoor
end
section
namespace Go.Proofs.YtmdbfogjfbbpjaaGreatDoor
open Go.ChangeShapes Go.WideShapes Go.ChangeAt Go.RowKit
theorem pM (id f t:Int) (n:Nat) (A:Option Addr) (c:Nat) (w:World) (hn:n≤9223372036854775807):
  Calls Tryz.prog 76 #[.agg #[.int .i64 id, .slice A n c, .int .i64 f, .int .i64 t]] w fun e w'=>e= .returned (.bool (Pj id n f t))∧Below w.heap.size w w':=by
 go_enter Tryz.func76, Tryz.ntmps76
 go_wp2
 all_goals
  go_ret
  refine⟨congrArg Ending.returned (congrArg Value.bool ?_),(Below.refl _ _).alloc (Nat.le_refl _) _⟩
  rw[Bool.eq_iff_iff]
  simp[Pj]
  try omega
def Ov (w:World) (b:Nat) (k:K) (S:Option Addr) (c:Nat):Prop:=
 w.cell? ⟨b,0,none⟩=some (.int .i64 k.id)∧w.cell? ⟨b,1,none⟩=some (.slice S k.sec.length c)∧w.cell? ⟨b,2,none⟩=some (.int .i64 k.frm)∧w.cell? ⟨b,3,none⟩=some (.int .i64 k.til)
theorem Abn {w:World} {b:Nat} {k:K} {S:Option Addr} {c:Nat} (h:w.heap[b]?=some (.cells #[.int .i64 k.id, .slice S k.sec.length c, .int .i64 k.frm, .int .i64 k.til] 44 (0,0))):Ov w b k S c:=
 ⟨by rw[cell_of_row w b 0 _ _ (0,0) h];rfl,by rw[cell_of_row w b 1 _ _ (0,0) h];rfl,by rw[cell_of_row w b 2 _ _ (0,0) h];rfl,by rw[cell_of_row w b 3 _ _ (0,0) h];rfl⟩
theorem Ov.below {w w':World} {b B:Nat} {k:K} {S:Option Addr} {c:Nat} (h:Ov w b k S c) (hb:b<B) (hB:Below B w w'):Ov w' b k S c:=
 ⟨(hB.cell (p:=⟨b,0,none⟩) hb).trans h.1,(hB.cell (p:=⟨b,1,none⟩) hb).trans h.2.1,(hB.cell (p:=⟨b,2,none⟩) hb).trans h.2.2.1,(hB.cell (p:=⟨b,3,none⟩) hb).trans h.2.2.2⟩
theorem Rj (k:K) (n:Nat) (hn:n=k.sec.length) (b:Bool) (hb:k.right=b) (A:Option Addr) (c:Nat) (w:World) (h1:n≤9223372036854775807):
  Calls Tryz.prog 76 #[.agg #[.int .i64 k.id, .slice A n c, .int .i64 k.frm, .int .i64 k.til]] w fun e w'=>e= .returned (.bool b)∧Below w.heap.size w w':=by
 subst hb hn
 exact pM k.id k.frm k.til k.sec.length A c w h1
theorem AdC (l:List K) (n:Nat) (hn:n=l.length) (A:Option Addr) (c:Nat) (w:World) (hA:Ks w w.heap.size A l) (h1:n≤9223372036854775807):
  Calls Tryz.prog 33 #[.slice A n c] w fun e w'=>e= .returned (.bool (isR l))∧Below w.heap.size w w':=by
 have HN:=Lib.hid hn
 clear hn
 go_enter Tryz.func33, Tryz.ntmps33
 go_wp2
 go_loopw [7] (fun i wr=> ∃k:Nat,k≤n∧i= .int .i64 k∧Below w.heap.size w wr∧ ∀j,j<k→Cy l j=true) (fun i _=>n - (intOf i).toNat)
 case atStart=>exact⟨0,Nat.zero_le _,rfl,Below.refl _ _,by omega⟩
 case round=>
  obtain⟨k,hk,rfl,hbel,hall⟩:=hrel
  by_cases hlt:k<n
  ·have HA:=Lib.hid hA
   obtain⟨ad,S,cc,rfl,had,hk4⟩:=(hA.below hbel) k (by rw[←HN.out];exact hlt)
   have HLEN:=Lib.hid (Nat.le_trans hk4.bs.len hk4.bs.cap)
   have b1:(0:Int)≤(k:Int):=by omega
   have b2:(k:Int)<(n:Int):=by omega
   have HH:=Lib.hid hall
   have HBL:=Lib.hid hbel
   have hkl:k<l.length:=by rw[←HN.out];exact hlt
   have HKL:=Lib.hid hkl
   clear hall hA hkl hbel
   obtain⟨x,hx⟩: ∃x,x=l.getD k K0:=⟨_,rfl⟩
   rw[←hx]at hk4 HLEN
   have HX:=Lib.hid hx
   clear hx
   have hc0:=hk4.c0
   have hc1:=hk4.c1
   have hc2:=hk4.c2
   have hc3:=hk4.c3
   clear hk4
   have HBX0:Hid (Below w.heap.size w (wr.alloc (.cells #[.int .i64 x.id, .slice S x.sec.length cc, .int .i64 x.frm, .int .i64 x.til] 44))):=Lib.hid (HBL.out.trans ((Aa wr _ _).mono HBL.out.size))
   have HBXw:Hid (Ov (wr.alloc (.cells #[.int .i64 x.id, .slice S x.sec.length cc, .int .i64 x.frm, .int .i64 x.til] 44)).drew wr.heap.size x S cc):=Lib.hid (Abn (heap_alloc_new wr _))
   have hlw:wr.heap.size<(wr.alloc (.cells #[.int .i64 x.id, .slice S x.sec.length cc, .int .i64 x.frm, .int .i64 x.til] 44)).drew.heap.size:=by show _<(wr.alloc _).heap.size;simp
   have HLW:=Lib.hid hlw
   clear hlw
   cases hr:x.right with
   |false=>
    have HIS:=Lib.hid (Nz k HKL.out (by rw[Cy, ←HX.out,hr,Bool.false_and]))
    have HRT:=Lib.hid hr
    have HS:=HBXw
    clear hr
    go_wp2
    refine wp_region_held_drew (S:=fun w'=>Ov w' wr.heap.size x S cc) (by kernel_rfl) HS.out (fun hHeld=> ?_)
    refine pl 0 12 hHeld ?_ (hy:=by intro w hSw;obtain⟨h0,h1,h2,h3⟩:=hSw;go_simp;(first|done|with_reducible rfl))
    refine wpAnyH_ready (rs:=[1]) (by kernel_rfl) (by simp) ?_
    refine AllReadyH.cons (o:=⟨some 13, .call _,_,_,_,_⟩) rfl (fun K hK=> ?_) AllReadyH.nil
    go_simp
    go_at_call 76
    refine(Rj x x.sec.length rfl false HRT.out S cc (wr.alloc (.cells #[.int .i64 x.id, .slice S x.sec.length cc, .int .i64 x.frm, .int .i64 x.til] 44)).drew HLEN.out).mono ?_
    rintro e w3 ⟨rfl,hb3⟩
    go_wp2_with fail
    have HB3:=Lib.hid (HBX0.out.drew.trans (hb3.mono HBX0.out.drew.size))
    have HS3:=Lib.hid (HS.out.below HLW.out hb3)
    clear hb3
    refine hK.out _ _ HS3.out (fun hHeld=> ?_)
    clear hK K
    refine pl 2 14 hHeld ?_
    refine pl 3 15 hHeld ?_
    refine sk 4 16 hHeld ?_
    refine sk 5 17 hHeld ?_
    refine sk 6 18 hHeld ?_
    refine sk 7 19 hHeld ?_
    refine sk 8 20 hHeld ?_
    refine sk 9 21 hHeld ?_
    refine sk 10 22 hHeld ?_
    refine sk 11 23 hHeld ?_
    refine sk 12 24 hHeld ?_
    refine sk 13 25 hHeld ?_
    refine sk 14 26 hHeld ?_
    refine sk 15 27 hHeld ?_
    refine sk 16 28 hHeld ?_
    refine pl 17 29 hHeld ?_
    refine wpAnyH_done (by kernel_rfl) ?_ _
    go_wp2
    go_ret
    exact⟨by rw[HIS.out];rfl,HB3.out⟩
   |true=>
    have HRT:=Lib.hid hr
    clear hr
    by_cases h0:k=0
    ·have HG:=Lib.hid (show∀i,i<k+1→Cy l i=true from by
      intro i hi
      have e:i=k:=by omega
      subst e
      subst h0
      rw[Cy, ←HX.out,HRT.out];rfl)
     have HS:=HBXw
     have b3: ¬((0:Int)<(k:Int)):=by omega
     clear h0
     go_wp2
     refine wp_region_held_drew (S:=fun w'=>Ov w' wr.heap.size x S cc) (by kernel_rfl) HS.out (fun hHeld=> ?_)
     refine pl 0 12 hHeld ?_ (hy:=by intro w hSw;obtain⟨h0,h1,h2,h3⟩:=hSw;go_simp;(first|done|with_reducible rfl))
     refine wpAnyH_ready (rs:=[1]) (by kernel_rfl) (by simp) ?_
     refine AllReadyH.cons (o:=⟨some 13, .call _,_,_,_,_⟩) rfl (fun K hK=> ?_) AllReadyH.nil
     go_simp
     go_at_call 76
     refine(Rj x x.sec.length rfl true HRT.out S cc (wr.alloc (.cells #[.int .i64 x.id, .slice S x.sec.length cc, .int .i64 x.frm, .int .i64 x.til] 44)).drew HLEN.out).mono ?_
     rintro e w3 ⟨rfl,hb3⟩
     go_wp2_with fail
     have HB3:=Lib.hid (HBX0.out.drew.trans (hb3.mono HBX0.out.drew.size))
     have HS3:=Lib.hid (HS.out.below HLW.out hb3)
     clear hb3
     refine hK.out _ _ HS3.out (fun hHeld=> ?_)
     clear hK K
     refine pl 2 14 hHeld ?_
     refine pl 3 15 hHeld ?_
     refine pl 4 16 hHeld ?_
     refine pl 5 17 (v:= .bool false) hHeld ?_ (hy:=by intro w hSw;go_simp;(first|done|omega|(simp[b3];done)|(simp;omega)))
     refine pl 6 18 hHeld ?_
     refine sk 7 19 hHeld ?_
     refine sk 8 20 hHeld ?_
     refine sk 9 21 hHeld ?_
     refine sk 10 22 hHeld ?_
     refine sk 11 23 hHeld ?_
     refine sk 12 24 hHeld ?_
     refine sk 13 25 hHeld ?_
     refine sk 14 26 hHeld ?_
     refine sk 15 27 hHeld ?_
     refine pl 16 28 hHeld ?_
     refine pl 17 29 hHeld ?_
     refine wpAnyH_done (by kernel_rfl) ?_ _
     go_wp2
     go_roundw
     case rel=>exact⟨k+1,by omega,by go_num,HB3.out,HG.out⟩
     case measure=>simp[intOf];omega
    ·obtain⟨j,hj⟩: ∃j,k=j+1:=⟨k - 1,by omega⟩
     obtain⟨ad',S',cc',e,_,hj4⟩:=(HA.out.below HBX0.out) j (by have:=HKL.out;omega)
     cases e
     obtain⟨y,hy⟩: ∃y,y=l.getD j K0:=⟨_,rfl⟩
     rw[←hy]at hj4
     have HY:=Lib.hid hy
     have HJ:=Lib.hid hj
     have HS:Hid (Ov (wr.alloc (.cells #[.int .i64 x.id, .slice S x.sec.length cc, .int .i64 x.frm, .int .i64 x.til] 44)).drew wr.heap.size x S cc∧KAt (wr.alloc (.cells #[.int .i64 x.id, .slice S x.sec.length cc, .int .i64 x.frm, .int .i64 x.til] 44)).drew w.heap.size (ad.add (j*4)) y S' cc'):=Lib.hid ⟨HBXw.out,hj4.below (by rw[add_block];exact Nat.lt_of_lt_of_le had HBX0.out.size) HBX0.out.size (Below.refl _ _).drew⟩
     have b3:(0:Int)<(k:Int):=by omega
     have hkj:(k:Int) - 1=(j:Int):=by omega
     have bj:(0:Int)≤(j:Int):=by omega
     have hwj:IntKind.i64.wrap (j:Int)=(j:Int):=IntWalk.i64_in _ (by omega)
     have bj2:(j:Int)<(n:Int):=by omega
     clear hj4 hy h0 hj
     by_cases hxy:x.id≤y.id
     ·have HIS:=Lib.hid (Nz k HKL.out (by
       have e1:(decide (y.id<x.id))=false:=by simp;omega
       rw[Cy,HJ.out,Nat.add_sub_cancel, ←HJ.out, ←HX.out, ←HY.out,e1,Bool.or_false]
       have e2:(k==0)=false:=by simp;omega
       rw[e2,Bool.and_false]))
      go_wp2
      refine wp_region_held_drew (S:=fun w'=>Ov w' wr.heap.size x S cc∧KAt w' w.heap.size (ad.add (j*4)) y S' cc') (by kernel_rfl) HS.out (fun hHeld=> ?_)
      refine pl 0 12 hHeld ?_ (hy:=by intro w hSw;obtain⟨⟨h0,h1,h2,h3⟩,_⟩:=hSw;go_simp;(first|done|with_reducible rfl))
      refine wpAnyH_ready (rs:=[1]) (by kernel_rfl) (by simp) ?_
      refine AllReadyH.cons (o:=⟨some 13, .call _,_,_,_,_⟩) rfl (fun K hK=> ?_) AllReadyH.nil
      go_simp
      go_at_call 76
      refine(Rj x x.sec.length rfl true HRT.out S cc (wr.alloc (.cells #[.int .i64 x.id, .slice S x.sec.length cc, .int .i64 x.frm, .int .i64 x.til] 44)).drew HLEN.out).mono ?_
      rintro e w3 ⟨rfl,hb3⟩
      go_wp2_with fail
      have HB3:=Lib.hid (HBX0.out.drew.trans (hb3.mono HBX0.out.drew.size))
      have HS3:=Lib.hid (And.intro (HS.out.1.below HLW.out hb3) (HS.out.2.below (by rw[add_block];exact Nat.lt_of_lt_of_le had HBX0.out.drew.size) HBX0.out.drew.size hb3))
      clear hb3
      refine hK.out _ _ HS3.out (fun hHeld=> ?_)
      clear hK K
      refine pl 2 14 hHeld ?_
      refine pl 3 15 hHeld ?_
      refine pl 4 16 hHeld ?_
      refine pl 5 17 (v:= .bool true) hHeld ?_ (hy:=by intro w hSw;go_simp;(first|done|omega|(simp[b3];done)|(simp;omega)))
      refine pl 6 18 hHeld ?_
      refine pl 7 19 hHeld ?_
      refine pl 8 20 hHeld ?_
      refine pl 9 21 (v:= .int .i64 (j:Int)) hHeld ?_ (hy:=by intro w hSw;go_simp;(first|done|omega|(simp[hkj,hwj];done)|(simp;omega)))
      refine pl 10 22 hHeld ?_
      refine pl 11 23 hHeld ?_
      refine pl 12 24 hHeld ?_ (hy:=by intro w hSw;obtain⟨_,⟨k0,k1,k2,k3,_⟩⟩:=hSw;go_simp;(first|done|with_reducible rfl))
      refine pl 13 25 hHeld ?_
      refine pl 14 26 hHeld ?_ (hy:=by intro w hSw;obtain⟨⟨h0,h1,h2,h3⟩,_⟩:=hSw;go_simp;(first|done|with_reducible rfl))
      refine pl 15 27 (v:= .bool true) hHeld ?_ (hy:=by intro w hSw;go_simp;(first|done|omega|(simp[hxy];done)|(simp;omega)))
      refine pl 16 28 hHeld ?_
      refine pl 17 29 hHeld ?_
      refine wpAnyH_done (by kernel_rfl) ?_ _
      go_wp2
      go_ret
      exact⟨by rw[HIS.out];rfl,HB3.out⟩
     ·have HG:=Lib.hid (show∀i,i<k+1→Cy l i=true from by
       intro i hi
       rcases Nat.lt_or_ge i k with h|h
       ·exact HH.out i h
       ·have e:i=k:=by omega
        subst e
        have e1:(decide (y.id<x.id))=true:=by simp;omega
        rw[Cy,HJ.out,Nat.add_sub_cancel, ←HJ.out, ←HX.out, ←HY.out,HRT.out,e1,Bool.or_true];rfl)
      go_wp2
      refine wp_region_held_drew (S:=fun w'=>Ov w' wr.heap.size x S cc∧KAt w' w.heap.size (ad.add (j*4)) y S' cc') (by kernel_rfl) HS.out (fun hHeld=> ?_)
      refine pl 0 12 hHeld ?_ (hy:=by intro w hSw;obtain⟨⟨h0,h1,h2,h3⟩,_⟩:=hSw;go_simp;(first|done|with_reducible rfl))
      refine wpAnyH_ready (rs:=[1]) (by kernel_rfl) (by simp) ?_
      refine AllReadyH.cons (o:=⟨some 13, .call _,_,_,_,_⟩) rfl (fun K hK=> ?_) AllReadyH.nil
      go_simp
      go_at_call 76
      refine(Rj x x.sec.length rfl true HRT.out S cc (wr.alloc (.cells #[.int .i64 x.id, .slice S x.sec.length cc, .int .i64 x.frm, .int .i64 x.til] 44)).drew HLEN.out).mono ?_
      rintro e w3 ⟨rfl,hb3⟩
      go_wp2_with fail
      have HB3:=Lib.hid (HBX0.out.drew.trans (hb3.mono HBX0.out.drew.size))
      have HS3:=Lib.hid (And.intro (HS.out.1.below HLW.out hb3) (HS.out.2.below (by rw[add_block];exact Nat.lt_of_lt_of_le had HBX0.out.drew.size) HBX0.out.drew.size hb3))
      clear hb3
      refine hK.out _ _ HS3.out (fun hHeld=> ?_)
      clear hK K
      refine pl 2 14 hHeld ?_
      refine pl 3 15 hHeld ?_
      refine pl 4 16 hHeld ?_
      refine pl 5 17 (v:= .bool true) hHeld ?_ (hy:=by intro w hSw;go_simp;(first|done|omega|(simp[b3];done)|(simp;omega)))
      refine pl 6 18 hHeld ?_
      refine pl 7 19 hHeld ?_
      refine pl 8 20 hHeld ?_
      refine pl 9 21 (v:= .int .i64 (j:Int)) hHeld ?_ (hy:=by intro w hSw;go_simp;(first|done|omega|(simp[hkj,hwj];done)|(simp;omega)))
      refine pl 10 22 hHeld ?_
      refine pl 11 23 hHeld ?_
      refine pl 12 24 hHeld ?_ (hy:=by intro w hSw;obtain⟨_,⟨k0,k1,k2,k3,_⟩⟩:=hSw;go_simp;(first|done|with_reducible rfl))
      refine pl 13 25 hHeld ?_
      refine pl 14 26 hHeld ?_ (hy:=by intro w hSw;obtain⟨⟨h0,h1,h2,h3⟩,_⟩:=hSw;go_simp;(first|done|with_reducible rfl))
      refine pl 15 27 (v:= .bool false) hHeld ?_ (hy:=by intro w hSw;go_simp;(first|done|omega|(simp[hxy];done)|(simp;omega)))
      refine pl 16 28 hHeld ?_
      refine pl 17 29 hHeld ?_
      refine wpAnyH_done (by kernel_rfl) ?_ _
      go_wp2
      go_roundw
      case rel=>exact⟨k+1,by omega,by go_num,HB3.out,HG.out⟩
      case measure=>simp[intOf];omega
  ·have e:k=n:=by omega
   have HB:=Lib.hid (Ku.2 (by rw[←HN.out, ←e];exact hall))
   clear hall
   go_wp2
   go_ret
   exact⟨by rw[HB.out];rfl,hbel⟩
theorem Ho (l:List K) (n:Nat) (hn:n=l.length) (b:Bool) (hb:isR l=b) (A:Option Addr) (c:Nat) (w:World) (hA:Ks w w.heap.size A l) (h1:n≤9223372036854775807):
  Calls Tryz.prog 33 #[.slice A n c] w fun e w'=>e= .returned (.bool b)∧Below w.heap.size w w':=by
 subst hb
 exact AdC l n hn A c w hA h1
end Go.Proofs.YtmdbfogjfbbpjaaGreatDoor
end
section
namespace Go.Proofs.YtmdbfogjfbbpjaaGreatDoor
open Go.ChangeShapes Go.WideShapes Go.ChangeAt Go.RowKit Go.Shelf
attribute [local go_sem] Oper.semAt_some
def KV0:KV:=⟨K0,none,0⟩
def fH (L:List KV) (k:Nat):Nat × KV:=(L.length - 1 - k,L.getD (L.length - 1 - k) KV0)
def upto (L:List KV) (k:Nat):List (Nat × KV):=(List.range k).map (fH L)
theorem Td (L:List KV) (k:Nat):upto L (k+1)=upto L k++ [fH L k]:=by simp[upto,List.range_succ]
theorem kW (L:List KV) (k:Nat):(upto L k).length=k:=by simp[upto]
def AdD (x:Nat × KV):Array Value:= #[.int .i64 (x.1:Int), .agg #[.int .i64 x.2.k.id, .slice x.2.S x.2.k.sec.length x.2.c, .int .i64 x.2.k.frm, .int .i64 x.2.k.til]]
theorem KVs.below {w w':World} {B:Nat} {A:Option Addr} {L:List KV} (h:KVs w B A L) (hb:Below B w w'):KVs w' B A L:=by
 intro i q hq
 obtain⟨ad,e,hlt,hk⟩:=h i q hq
 exact⟨ad,e,hlt,hk.below (by rw[add_block];exact hlt) (Nat.le_refl _) hb⟩
theorem Abo (F:Fence) (n:Nat) (hf:F.fn 149) (hro:F.round=none) (hn:1≤n) (l Bx n₀:Nat) (A:Option Addr) (m c:Nat) (L:List KV) (hm:m=L.length) (h100:m≤1000) (hBx:Bx<n₀) (J Jx:List (Nat × KV)→World→Prop)
    (hY: ∀pre x W,J pre W→pre.length<m→YieldAt F (n - 1) Tryz.prog l (AdD x) W fun e W'=>
      (e= .returned (.bool true)∧J (pre++ [x]) W'∧Below n₀ W W')∨(e= .returned (.bool false)∧Jx (pre++ [x]) W'))
    (W:World) (hc:W.cell? ⟨Bx,0,none⟩=some (.slice A m c)) (hL:KVs W n₀ A L) (h0:J [] W):
    CallsIn F n Tryz.prog 149 #[.func (.yield l) #[] #[], .pointer (some ⟨Bx,0,none⟩)] W fun e W'=>(∃v,e= .returned v)∧
      ((∃ys,ys=upto L m∧J ys W')∨(∃pre,(∃k,k≤m∧pre=upto L k)∧Jx pre W')):=by
  have HM:=Lib.hid hm
  have HL:=Lib.hid hL
  have HC:=Lib.hid hc
  clear hm hL
  refine callsIn_of_wp Tryz.func149 rfl hf ?_ hro
  simp only[Tryz.ntmps149,List.size_toArray,List.length_cons,List.length_nil,Nat.reduceAdd,Nat.reduceSub,Array.replicate_succ,Array.replicate_zero,List.push_toArray,List.append_toArray,List.nil_append,List.cons_append]
  gi_wp2
  gi_loopw [3] (fun i wr=> ∃k:Nat,k≤m∧i= .int .i64 ((m:Int) - 1 - k)∧J (upto L k) wr∧Below n₀ W wr)
    (fun i _=>(intOf i+1).toNat)
  case atStart=>
    exact⟨0,Nat.zero_le _,by go_num,h0,Below.refl _ _⟩
  case round=>
    obtain⟨k,hk,rfl,hJs,hnx⟩:=hrel
    by_cases hlt:k<m
    · obtain⟨j,hj⟩: ∃j:Nat,j=m - 1 - k:=⟨_,rfl⟩
      have e:(m:Int) - 1 - (k:Int)=(j:Int):=by omega
      rw[e]
      have hjl:j<L.length:=by rw[←HM.out];omega
      obtain⟨ad,rfl,had,hk4⟩:=(HL.out.below hnx) j _ (List.getElem?_eq_getElem hjl)
      have hbk:fH L k=(j,L[j]):=by
        have:L.length - 1 - k=j:=by rw[←HM.out];omega
        rw[fH,this,List.getD_eq_getElem?_getD,List.getElem?_eq_getElem hjl];rfl
      obtain⟨fn,tmps,assign,body,hy,hR⟩:=hY _ (j,L[j]) wr hJs (by rw[kW];exact hlt)
      have HBK:=Lib.hid hbk
      generalize L[j]=x at*
      dsimp only[AdD]at hy
      have hcx:wr.cell? ⟨Bx,0,none⟩=some (.slice (some ad) m c):=(hnx.cell (p:=⟨Bx,0,none⟩) hBx).trans HC.out
      have hc0:=hk4.c0
      have hc1:=hk4.c1
      have hc2:=hk4.c2
      have hc3:=hk4.c3
      have b1:(0:Int)≤(j:Int):=by omega
      have b2:(j:Int)<(m:Int):=by omega
      have HNX:=Lib.hid hnx
      have HJ:=Lib.hid hj
      clear hk4 hnx hbk hj e
      gi_wp2
      refine hR.mono ?_
      rintro e' W3 (⟨rfl,hJ3,hk3⟩|⟨rfl,hJx3⟩)
      · gi_wp2
        go_roundw
        case rel=>exact⟨k+1,by omega,by have:=HJ.out;go_num,by rw[Td,HBK.out];exact hJ3,HNX.out.trans hk3⟩
        case measure=>have:=HJ.out;simp[intOf]<;>omega
      · gi_wp2
        refine bodyPost_ret (results_none rfl _ _ _) rfl ?_
        exact⟨⟨_,rfl⟩, .inr ⟨_,⟨k+1,by omega,by rw[Td,HBK.out]⟩,hJx3⟩⟩
    · obtain rfl:k=m:=by omega
      have e:(k:Int) - 1 - (k:Int)= -1:=by omega
      rw[e]
      gi_wp2
      go_end0
      exact⟨⟨_,rfl⟩, .inl ⟨_,rfl,hJs⟩⟩
attribute [local go_sem] Oper.semAt_some
theorem AdE (F:Fence) (n:Nat) (hf:F.fn 95) (hro:F.round=none) (A:Option Addr) (m c:Nat) (w:World):
  CallsIn F n Tryz.prog 95 #[.slice A m c] w fun e w'=>e= .returned (.func (.func 149) #[] #[.pointer (some ⟨w.heap.size,0,none⟩)])∧w'=w.alloc (.cells #[.slice A m c] 22):=by
 refine callsIn_of_wp Tryz.func95 rfl hf ?_ hro
 simp only[Tryz.ntmps95,List.size_toArray,List.length_cons,List.length_nil,Nat.reduceAdd,Nat.reduceSub,Array.replicate_succ,Array.replicate_zero,List.push_toArray,List.append_toArray,List.nil_append,List.cons_append]
 gi_wp2
 go_ret
 exact⟨rfl,rfl⟩
theorem pN (F:Fence) (n:Nat) (hf:F.fn 149) (hro:F.round=none) (hn:1≤n) (Bx n₀:Nat) (A:Option Addr) (m c:Nat) (L:List KV) (hm:m=L.length) (h100:m≤1000) (hBx:Bx<n₀) (w:World) (hn₀:n₀≤w.heap.size)
  (hc:w.cell? ⟨Bx,0,none⟩=some (.slice A m c)) (hL:KVs w n₀ A L):
  SeqStopsK F n Tryz.prog 149 #[.pointer (some ⟨Bx,0,none⟩)] AdD (Below n₀) (fun ys=>ys=upto L m) (fun pre=> ∃k,k≤m∧pre=upto L k) m w:=fun l J Jx W hW _ _ hY h0=>
 Abo F n hf hro hn l Bx n₀ A m c L hm h100 hBx J Jx hY W ((hW.cell (p:=⟨Bx,0,none⟩) (Nat.lt_of_lt_of_le hBx hn₀)).trans hc) (hL.below (hW.mono hn₀)) h0
def Gt (p:Nat→Bool):Nat→Int
 |0=> -1
 |n+1=>if p n=true then(n:Int)else Gt p n
theorem Ul {p:Nat→Bool} : ∀n:Nat,(∀j,j<n→p j=false)→Gt p n= -1
 |0,_=>rfl
 |n+1,h=>by rw[Gt,h n (by omega)];simpa using Ul n (fun j hj=>h j (by omega))
theorem bL {p:Nat→Bool} : ∀(n k:Nat),k<n→p k=true→(∀j,k<j→j<n→p j=false)→Gt p n=(k:Int)
 |0,k,hk,_,_=>by omega
 |n+1,k,hk,hp,h=>by
  by_cases e:k=n
  ·subst e;rw[Gt,if_pos hp]
  ·rw[Gt,h n (by omega) (by omega)];simpa using bL n k (by omega) hp (fun j h1 h2=>h j h1 (by omega))
theorem Rk (p:Nat→Bool): ∀n:Nat,(Gt p n= -1∧ ∀j,j<n→p j=false)∨ ∃k:Nat,k<n∧Gt p n=(k:Int)∧p k=true∧ ∀j,k<j→j<n→p j=false
 |0=> .inl ⟨rfl,by omega⟩
 |n+1=>by
  by_cases hp:p n=true
  ·exact .inr ⟨n,by omega,by rw[Gt,if_pos hp],hp,by omega⟩
  ·have hf:p n=false:=by simpa using hp
   rcases Rk p n with⟨h1,h2⟩|⟨k,h1,h2,h3,h4⟩
   ·refine .inl ⟨by rw[Gt,hf];simpa using h1,fun j hj=> ?_⟩
    rcases Nat.lt_or_ge j n with h|h
    ·exact h2 j h
    ·have:j=n:=by omega
     subst this;exact hf
   ·refine .inr ⟨k,by omega,by rw[Gt,hf];simpa using h2,h3,fun j hj1 hj2=> ?_⟩
    rcases Nat.lt_or_ge j n with h|h
    ·exact h4 j hj1 h
    ·have:j=n:=by omega
     subst this;exact hf
theorem Abp {l:List K} {L:List KV} (h:L.map (·.k)=l) (j:Nat):l.getD j K0=(L.getD j KV0).k:=by
 subst h
 rw[List.getD_eq_getElem?_getD,List.getD_eq_getElem?_getD,List.getElem?_map]
 cases L[j]?<;>rfl
theorem bM {l:List K} {L:List KV} {p:K→Bool} (h:L.map (·.k)=l) (k:Nat) (hk:k≤L.length) (hall: ∀x∈upto L k,p x.2.k=false): ∀j,L.length - k≤j→j<L.length→p (l.getD j K0)=false:=by
 intro j h1 h2
 have hm:fH L (L.length - 1 - j)∈upto L k:=by
  simp only[upto,List.mem_map,List.mem_range]
  exact⟨_,by omega,rfl⟩
 have:=hall _ hm
 rw[fH,show L.length - 1 - (L.length - 1 - j)=j by omega]at this
 rw[Abp h]
 exact this
theorem Xg {B:Nat} {W W':World} (hb:Below W.heap.size W W'):KeepsFrom B W W':=⟨hb.size,fun k o _ hk _=>(hb.block k (Array.getElem?_eq_some_iff.1 hk).1).trans hk⟩
def AfI (g:Nat) (lb:Array Value) (p:K→Bool) (w:World):Prop:=
 ∀(W:World) (q:KV),Below w.heap.size w W→Calls Tryz.prog g (#[.agg #[.int .i64 q.k.id, .slice q.S q.k.sec.length q.c, .int .i64 q.k.frm, .int .i64 q.k.til]]++lb) W fun e w'=>e= .returned (.bool (p q.k))∧Below W.heap.size W w'
theorem kX (p:K→Bool) (l:List K) (m:Nat) (hm:m=l.length) (h100:m≤1000) (g:Nat) (lb:Array Value) (eg: ∀args w,(callFunc g args).run Tryz.prog w= .ok (.enter g args) w) (A:Option Addr) (c:Nat) (w:World) (hA:Ks w w.heap.size A l) (hp:AfI g lb p w):
    Calls Tryz.prog 49 #[.slice A m c, .func (.func g) #[] lb] w fun e w'=>e= .returned (.int .i64 (Gt (fun j=>p (l.getD j K0)) m))∧Below w.heap.size w w':=by
  obtain⟨L,hL,hKV,_⟩:=wZ hA
  have hmL:m=L.length:=by rw[hm, ←hL,List.length_map]
  have HM:=Lib.hid hm
  have HL:=Lib.hid hL
  have HKV:=Lib.hid hKV
  have HP:=Lib.hid hp
  have HML:=Lib.hid hmL
  clear hm hL hKV hp hmL hA
  refine(callsIn_wide (n:=3)).1 ?_
  refine callsIn_of_wp_marks Tryz.func49 rfl trivial ?_ rfl
  simp only[Tryz.ntmps49,List.size_toArray,List.length_cons,List.length_nil,Nat.reduceAdd,Nat.reduceSub,Array.replicate_succ,Array.replicate_zero,List.push_toArray,List.append_toArray,List.nil_append,List.cons_append]
  gi_wp2_with (refine⟨trivial, ?_⟩;gi_at_call 95;refine(AdE Fence.wide _ trivial rfl _ _ _ _).mono ?_;rintro e w' ⟨rfl,rfl⟩)
  have bF:=((Boxed.new w 77 (.func (.func g) #[] lb)).alloc (.cells #[.int .i64 0] 3)).alloc (.cells #[.slice A m c] 22)
  have bR:=(Boxed.new (w.alloc (.cells #[.func (.func g) #[] lb] 77)) 3 (.int .i64 0)).alloc (.cells #[.slice A m c] 22)
  have bS:=Boxed.new ((w.alloc (.cells #[.func (.func g) #[] lb] 77)).alloc (.cells #[.int .i64 0] 3)) 22 (.slice A m c)
  simp only[World.size_alloc]at bR bS
  have hB0:Below w.heap.size w (((w.alloc (.cells #[.func (.func g) #[] lb] 77)).alloc (.cells #[.int .i64 0] 3)).alloc (.cells #[.slice A m c] 22)):=(((Below.refl _ w).alloc (Nat.le_refl _) _).alloc (by simp) _).alloc (by simp;omega) _
  have hsz:(((w.alloc (.cells #[.func (.func g) #[] lb] 77)).alloc (.cells #[.int .i64 0] 3)).alloc (.cells #[.slice A m c] 22)).heap.size=w.heap.size+3:=by simp
  obtain⟨W0,hW0⟩: ∃W0,((w.alloc (.cells #[.func (.func g) #[] lb] 77)).alloc (.cells #[.int .i64 0] 3)).alloc (.cells #[.slice A m c] 22)=W0:=⟨_,rfl⟩
  rw[hW0]at bF bR bS hB0 hsz⊢
  clear hW0
  have hKV0:KVs W0 (w.heap.size+3) A L:=fun i q hq=>by
    obtain⟨ad,e,hlt,hk⟩:=(HKV.out.below hB0) i q hq
    exact⟨ad,e,by omega,hk.more (by omega)⟩
  refine wpIn_rangeFunc_ownH rfl (by omega) (gf:= 149) (lb:= #[.pointer (some ⟨w.heap.size+1+1,0,none⟩)]) rfl trivial (enters_of Tryz.func149 (by kernel_rfl) rfl)
    (pN Fence.wide _ trivial rfl (by omega) (w.heap.size+1+1) (w.heap.size+3) A m c L HML.out h100 (by omega) W0 (by omega) bS.cell hKV0) belowK_t (belowK_b (by omega)) (Below.refl _ _) (fun _=>rfl)
    (fun pre W=>((∀x∈pre,p x.2.k=false)∧Boxed W w.heap.size 77 (.func (.func g) #[] lb)∧Boxed W (w.heap.size+1) 3 (.int .i64 0)∧w.heap.size+3≤W.heap.size)∧Below w.heap.size w W)
    (fun c pre W=>(c= .ret∧ ∃(ini:List (Nat × KV)) (z:Nat × KV),pre=ini++ [z]∧(∀x∈ini,p x.2.k=false)∧p z.2.k=true∧Boxed W (w.heap.size+1) 3 (.int .i64 (z.1:Int)))∧Below w.heap.size w W)
    (OwnFrom.and (Own.from (fun s A B row hs hg hr=>⟨hs.1,hs.2.1.kept hg (fun e=>by obtain⟨o,h1,h2⟩:=hr _ e.symm;rw[show A.heap[w.heap.size]?=_ from hs.2.1]at h1;cases h1;cases h2),hs.2.2.1.kept hg (fun e=>by obtain⟨o,h1,h2⟩:=hr _ e.symm;rw[show A.heap[w.heap.size+1]?=_ from hs.2.2.1]at h1;cases h1;cases h2),Nat.le_trans hs.2.2.2 hg.size⟩) _) (ownFrom_below (Nat.le_refl _) (by omega)))
    (fun c=>OwnFrom.and (Own.from (fun s A B row hs hg hr=>by
      obtain⟨hc,ini,z,e1,e2,e3,e4⟩:=hs
      exact⟨hc,ini,z,e1,e2,e3,e4.kept hg (fun e=>by obtain⟨o,h1,h2⟩:=hr _ e.symm;rw[show A.heap[w.heap.size+1]?=_ from e4]at h1;cases h1;cases h2)⟩) _) (ownFrom_below (Nat.le_refl _) (by omega)))
    ⟨⟨by simp,bF,bR,by omega⟩,hB0⟩
    (fun x a' W=> ∃Bx,w.heap.size+2<Bx∧W.heap[Bx]?=some (.cells #[.int .i64 x.2.k.id, .slice x.2.S x.2.k.sec.length x.2.c, .int .i64 x.2.k.frm, .int .i64 x.2.k.til] 44 (0,0))∧a'= { tmps:= #[.slice A m c, .func (.func g) #[] lb,undef, .pointer (some ⟨w.heap.size,0,none⟩), .pointer (some ⟨w.heap.size+1,0,none⟩), .int .i64 (x.1:Int), .pointer (some ⟨Bx,0,none⟩), .slice A m c, .func (.func 149) #[] #[.pointer (some ⟨w.heap.size+1+1,0,none⟩)], .int .i64 (x.1:Int), .agg #[.int .i64 x.2.k.id, .slice x.2.S x.2.k.sec.length x.2.c, .int .i64 x.2.k.frm, .int .i64 x.2.k.til],undef,undef,undef,undef],defers:=[] })
    ?hax ?assign ?body ?done ?stop
  case hax=>
    intro x a' s X Y row hs hg hr
    obtain⟨Bx,h1,h2,h3⟩:=hs
    refine⟨Bx,h1,(hg.block Bx (Array.getElem?_eq_some_iff.1 h2).1 (fun e=> ?_)).trans h2,h3⟩
    obtain⟨o,h4,h5⟩:=(hr Bx e.symm).2
    rw[h2]at h4
    cases h4
    cases h5
  case assign=>
    rintro l pre x W K ⟨⟨hall,hF,hR,h3⟩,hB⟩ hK
    have HK:=Lib.hid hK
    clear hK
    dsimp only[AdD]
    gi_wp2
    exact HK.out _ _ ((KeepsOthers.alloc _ _).from _) ((Below.refl _ W).alloc h3 _) ⟨⟨hall,hF.alloc _,hR.alloc _,by simp;omega⟩,hB.alloc (by omega) _⟩ ⟨W.heap.size,by omega,World.alloc_heap_new W _,rfl⟩
  case body=>
    rintro l pre x a' W hl ⟨r,hr⟩ ⟨⟨hall,hF,hR,h3⟩,hB⟩ ⟨Bx,hBx,hX,rfl⟩ hlt
    have hX0:W.cell? ⟨Bx,0,none⟩=some (.int .i64 x.2.k.id):=by rw[cell_of_row W Bx 0 _ _ (0,0) hX];rfl
    have hX1:W.cell? ⟨Bx,1,none⟩=some (.slice x.2.S x.2.k.sec.length x.2.c):=by rw[cell_of_row W Bx 1 _ _ (0,0) hX];rfl
    have hX2:W.cell? ⟨Bx,2,none⟩=some (.int .i64 x.2.k.frm):=by rw[cell_of_row W Bx 2 _ _ (0,0) hX];rfl
    have hX3:W.cell? ⟨Bx,3,none⟩=some (.int .i64 x.2.k.til):=by rw[cell_of_row W Bx 3 _ _ (0,0) hX];rfl
    have hcF:=hF.cell
    have hfit:=HP.out W x.2 hB
    have HF:=Lib.hid hF
    have HR:=Lib.hid hR
    have HALL:=Lib.hid hall
    clear hX hF hR hall
    cases hpx:p x.2.k with
    | true=>
      rw[hpx]at hfit
      gi_wp2_with (refine⟨trivial, ?_⟩;refine(CallsIn.inRound l (callsIn_wide.2 hfit)).mono ?_;rintro e w' ⟨rfl,hb⟩;have hR1:Boxed w' (w.heap.size+1) 3 (.int .i64 0):=(hb.block _ HR.out.lt).trans HR.out;have hc1:=hR1.cell;have hf1:=hR1.frozen;have HR1:=Lib.hid hR1;have HB1:=Lib.hid hb;clear hR1 hb)
      exact⟨(Xg HB1.out).trans ((KeepsOthers.setCell _ _ _).from _),⟨rfl,pre,x,rfl,HALL.out,hpx,HR1.out.set _⟩,(hB.trans (HB1.out.mono hB.size)).setCell (p:=⟨w.heap.size+1,0,none⟩) (by simp) _⟩
    | false=>
      rw[hpx]at hfit
      gi_wp2_with (refine⟨trivial, ?_⟩;refine(CallsIn.inRound l (callsIn_wide.2 hfit)).mono ?_;rintro e w' ⟨rfl,hb⟩;have HB1:=Lib.hid hb;clear hb)
      exact⟨Xg HB1.out,HB1.out.mono h3,⟨fun y hy=>(List.mem_append.1 hy).elim (HALL.out y) (fun e=>by simp at e;subst e;exact hpx),(HB1.out.block _ HF.out.lt).trans HF.out,(HB1.out.block _ HR.out.lt).trans HR.out,Nat.le_trans h3 HB1.out.size⟩,hB.trans (HB1.out.mono hB.size)⟩
  case done=>
    rintro D ys W hD rfl ⟨⟨hall,hF,hR,h3⟩,hB⟩ hK
    have hcr:=hR.cell
    have hfr:=hR.frozen
    have HALL:=Lib.hid hall
    clear hall
    gi_wp2
    have hK':=(KeepsOthers.setCell W ⟨w.heap.size+1,0,none⟩ (.int .i64 (-1))).same D _ hK rfl
    refine⟨by simp, .inl ⟨_,_,rfl,run_takeDeferred hK', ?_⟩⟩
    have hc5:=cell_kept (World.cell?_setCell_same' W ⟨w.heap.size+1,0,none⟩ (.int .i64 (-1)) (by rw[hcr];rfl)) (grownBy_putObj' _ D (.deferred none)) (fun r e=>by cases e;exact⟨_,hK',rfl⟩)
    have hix:Gt (fun j=>p (l.getD j K0)) m= -1:=Ul m (fun j hj=>by
      have:=HML.out
      exact bM HL.out m (by omega) HALL.out j (by omega) (by omega))
    refine⟨.int .i64 (-1), ?_,by rw[hix],(hB.setCell (p:=⟨w.heap.size+1,0,none⟩) (by simp) _).trans (belowK_b (w:=w) (Nat.le_refl _) _ D _ _ (by omega) hK' rfl rfl)⟩
    simp[results, Tryz.results49,go_sem,hc5]
  case stop=>
    rintro D cc pre W hD ⟨k,hk,rfl⟩ ⟨⟨rfl,ini,z,e1,e2,e3,hR⟩,hB⟩ hK
    have hcr:=hR.cell
    gi_wp2
    refine⟨by simp, .inl ⟨_,_,rfl,run_takeDeferred hK, ?_⟩⟩
    have hc5:=cell_kept hcr (grownBy_putObj' _ D (.deferred none)) (fun r e=>by cases e;exact⟨_,hK,rfl⟩)
    obtain⟨k',rfl⟩: ∃k',k=k'+1:=by
      cases k with
      | zero=>simp[upto]at e1
      | succ k'=>exact⟨k',rfl⟩
    rw[Td]at e1
    obtain⟨rfl,e5⟩:=List.append_inj' e1 rfl
    obtain rfl:fH L k'=z:=by simpa using e5
    have hml:=HML.out
    have hix:Gt (fun j=>p (l.getD j K0)) m=((L.length - 1 - k':Nat):Int):=bL m _ (by omega) (by
      have:=e3
      rw[fH]at this
      show p (l.getD (L.length - 1 - k') K0)=true
      rw[Abp HL.out]
      exact this) (fun j h1 h2=>bM HL.out k' (by omega) e2 j (by omega) (by omega))
    refine⟨.int .i64 ((L.length - 1 - k':Nat):Int), ?_,by rw[hix],hB.trans (belowK_b (w:=w) (Nat.le_refl _) W D _ _ (by omega) hK rfl rfl)⟩
    have hc6:=hc5
    simp only[fH]at hc6
    simp[results, Tryz.results49,go_sem,hc6]
end Go.Proofs.YtmdbfogjfbbpjaaGreatDoor
end
section
namespace Go.Proofs.YtmdbfogjfbbpjaaGreatDoor
open Go.ChangeShapes Go.WideShapes Go.ChangeAt Go.RowKit
theorem wF (id:Int) (b:Nat) (w:World) (h:w.heap[b]?=some (.cells #[.int .i64 id] 3 (0,0))):AfI 50 #[.pointer (some ⟨b,0,none⟩)] (fun q=>q.id==id) w:=by
 intro W q hB
 have hb:W.heap[b]?=some (.cells #[.int .i64 id] 3 (0,0)):=(hB.block _ (Array.getElem?_eq_some_iff.1 h).1).trans h
 have hc:W.cell? ⟨b,0,none⟩=some (.int .i64 id):=by rw[cell_of_row W b 0 _ _ (0,0) hb];rfl
 have hlt:=(Array.getElem?_eq_some_iff.1 hb).1
 clear h hB hb
 show Calls _ _ #[.agg #[.int .i64 q.k.id, .slice q.S q.k.sec.length q.c, .int .i64 q.k.frm, .int .i64 q.k.til], .pointer (some ⟨b,0,none⟩)] W _
 go_enter Tryz.func50, Tryz.ntmps50
 go_wp2
 go_ret
 exact⟨rfl,Aa W _ _⟩
theorem AfJ {w:World} {B:Nat} {ad:Addr} {xs:List Value} (h:Rd w B (some ad) xs): ∀j u,xs[j]?=some u→w.cell? (ad.add j)=some u:=by
 intro j u hu
 obtain⟨ad',e,_,hc⟩:=h j u hu
 cases e
 exact hc
theorem Xh {w:World} {base n:Nat} {v:Value} {s:List Nat} (h:w.ownsRow base 5 1 v n (U8 s)) (hs: ∀x∈s,x<256): ∃A c,v= .slice A n c∧Bs w w.heap.size s A c:=by
 have hn:s.length=n:=by have:=h.1;simpa[U8]using this
 rcases h.2 with⟨rfl,h0⟩|⟨g,cap,cur,rfl,_,_,h2,h3,_⟩
 ·subst h0
  have:s=[]:=List.eq_nil_of_length_eq_zero hn
  subst this
  exact⟨none,0,rfl,⟨by intro k u hu;simp[U8]at hu,fun _=>rfl,by simp,by omega,by simp⟩⟩
 ·unfold maxLen at h3
  exact⟨_,cap,rfl,⟨Rd.of_own h,by simp,by omega,h3,hs⟩⟩
theorem wG:(Tryz.prog.info? 23).map (·.size)=some 1:=by kernel_rfl
theorem wH (q:KV) (n:Nat) (hn:n=q.k.sec.length) (w:World) (h:Bs w w.heap.size q.k.sec q.S q.c) (h0:1≤n) (h1:n≤64):
  Calls Tryz.prog 51 #[.agg #[.int .i64 q.k.id, .slice q.S n q.c, .int .i64 q.k.frm, .int .i64 q.k.til]] w fun e w'=> ∃S c,e= .returned (.agg #[.int .i64 q.k.id, .slice S n c, .int .i64 q.k.frm, .int .i64 q.k.til])∧Bs w' w'.heap.size q.k.sec S c∧(∀ad,S=some ad→w.heap.size≤ad.block)∧Below w.heap.size w w':=by
 obtain⟨i0,hi,hz0,hz1,hz2⟩:=info_parts Be
 obtain⟨ad,hS⟩: ∃ad,q.S=some ad:=by
  have:0<(U8 q.k.sec).length:=by simp[U8];omega
  obtain⟨ad,e,_⟩:=h.rd 0 _ (List.getElem?_eq_getElem this)
  exact⟨ad,e⟩
 have HB:=Lib.hid h
 have HN:=Lib.hid hn
 have hcap:n≤q.c:=by have:=h.len;omega
 have hcap2:=h.cap
 obtain⟨⟨kid,ksec,kf,kt⟩,S,c⟩:=q
 simp only at hS hcap hcap2 HB HN
 subst hS
 have HUL:=Lib.hid (show(U8 ksec).length=n by simp[U8,HN.out])
 have HRD:=Lib.hid (fun(w':World) (hb:Below w.heap.size w w')=>HB.out.rd.next hb)
 have hn1:0+n≤maxLen:=by unfold maxLen;omega
 have hn2:(0+n)*1≤140737488355328:=by omega
 clear h hn
 go_enter Tryz.func51, Tryz.ntmps51
 go_wp2
 obtain⟨wb,hwb⟩: ∃wb,wb=(w.alloc (.cells #[.int .i64 kid, .slice (some ad) n c, .int .i64 kf, .int .i64 kt] 44)).alloc (.cells #[.int .i64 0, .slice none 0 0, .int .i64 0, .int .i64 0] 44):=⟨_,rfl⟩
 have hb0:wb.heap[w.heap.size]?=some (.cells #[.int .i64 kid, .slice (some ad) n c, .int .i64 kf, .int .i64 kt] 44 (0,0)):=by
  rw[hwb];exact(Below.heap_alloc _ _ _ (by simp)).trans (heap_alloc_new w _)
 have hb1:wb.heap[w.heap.size+1]?=some (.cells #[.int .i64 0, .slice none 0 0, .int .i64 0, .int .i64 0] 44 (0,0)):=by
  rw[hwb];exact aN w _ _
 have hbel:Below w.heap.size w wb:=by
  rw[hwb];exact((Below.refl _ w).alloc (Nat.le_refl _) _).alloc (by simp) _
 have hsz:wb.heap.size=w.heap.size+2:=by rw[hwb];simp
 rw[←hwb]
 clear hwb
 have hc1:wb.drew.cell? ⟨w.heap.size,1,none⟩=some (.slice (some ad) n c):=by change wb.cell? _=_;rw[cell_of_row wb _ 1 _ _ (0,0) hb0];rfl
 refine wp_region_still_tail 5 (by kernel_rfl) (by kernel_rfl) ?_
 simp only[List.take_succ_cons,List.take_zero,List.drop_succ_cons,List.drop_zero]
 repeat still_step
 refine wpStill_nil ?_
 change wpList _ _ _ _ _ wb.drew
 go_wp2_with (at_builtin;refine wpList_append_grows _ rfl (.tmp 5) (.tmp 7) 23 rfl 5 i0 (.int .u8 0) 1 1 Tryz.underlying23 hi hz0 hz1 hz2 rfl (by omega) (some ad) 0 0 [] rfl (fun h=>by cases h) rfl (fun b hb j u hu=>by simp at hu) ad n c (U8 ksec) rfl (by rw[HUL.out];omega) (AfJ (HRD.out _ hbel.drew)) (Bd _) (by omega) hn1 hn2 ?_)
 intro v1 w1 hown1 hg1
 have hown2:w1.ownsRow wb.heap.size 5 1 v1 n (U8 ksec):=by rw[hsz];simpa using hown1
 obtain⟨A',c',e,hbs⟩:=Xh hown2 HB.out.lt
 subst e
 have HOW:=Lib.hid hown2
 have hbw:Below wb.heap.size wb w1:=(Below.refl _ wb).drew.grown hg1 (Nat.le_refl _) (fun k e=>by cases e)
 have h10:w1.heap[w.heap.size]?=some (.cells #[.int .i64 kid, .slice (some ad) n c, .int .i64 kf, .int .i64 kt] 44 (0,0)):=(hbw.block _ (by omega)).trans hb0
 have h11:w1.heap[w.heap.size+1]?=some (.cells #[.int .i64 0, .slice none 0 0, .int .i64 0, .int .i64 0] 44 (0,0)):=(hbw.block _ (by omega)).trans hb1
 have HBW:=Lib.hid (hbel.trans (hbw.mono (by omega)))
 have HSZ:=Lib.hid (show w.heap.size+2≤w1.heap.size by have:=hbw.size;omega)
 clear hown1 hown2 hg1 hbs hbw hb0 hb1 hbel hc1
 have hc1:w1.cell? ⟨w.heap.size,1,none⟩=some (.slice (some ad) n c):=by rw[cell_of_row w1 _ 1 _ _ (0,0) h10];rfl
 have hf1:w1.frozen? ⟨w.heap.size,1,none⟩=false:=frozen_of_row w1 _ 1 _ _ h10
 have hc1s:(w1.cell? ⟨w.heap.size,1,none⟩).isSome=true:=by rw[hc1];rfl
 have H10:=Lib.hid h10
 have H11:=Lib.hid h11
 clear h10 h11 hc1
 go_wp2_with ((with_reducible refine Ac 9 ?_);refine Rb (op:=⟨none, .store 23 (.tmp 9) (.tmp 8),_,_,_,_⟩) rfl 23 (.tmp 9) (.tmp 8) rfl w.heap.size 1 (.slice A' n c') rfl rfl rfl hc1s hf1 wG ?_)
 intro w2 hw2
 have h20:w2.heap[w.heap.size]?=some (.cells #[.int .i64 kid, .slice A' n c', .int .i64 kf, .int .i64 kt] 44 (0,0)):=by rw[hw2.out];exact heap_setCell_same w1 _ 1 _ _ _ H10.out
 have h21:w2.heap[w.heap.size+1]?=some (.cells #[.int .i64 0, .slice none 0 0, .int .i64 0, .int .i64 0] 44 (0,0)):=by rw[hw2.out];exact(heap_setCell_other w1 _ _ _ (by simp)).trans H11.out
 have hb2:Below w.heap.size w1 w2:=by rw[hw2.out];exact(Below.refl _ _).setCell (p:=⟨w.heap.size,1,none⟩) (Nat.le_refl _) _
 have hd0:w2.cell? ⟨w.heap.size,0,none⟩=some (.int .i64 kid):=by rw[cell_of_row w2 _ 0 _ _ (0,0) h20];rfl
 have hd1:w2.cell? ⟨w.heap.size,1,none⟩=some (.slice A' n c'):=by rw[cell_of_row w2 _ 1 _ _ (0,0) h20];rfl
 have hd2:w2.cell? ⟨w.heap.size,2,none⟩=some (.int .i64 kf):=by rw[cell_of_row w2 _ 2 _ _ (0,0) h20];rfl
 have hd3:w2.cell? ⟨w.heap.size,3,none⟩=some (.int .i64 kt):=by rw[cell_of_row w2 _ 3 _ _ (0,0) h20];rfl
 have H21:=Lib.hid h21
 have HB2:=Lib.hid (HBW.out.trans hb2)
 clear h20 h21 hb2 hc1s hf1
 go_wp2_with ((with_reducible refine Ac 2 ?_);refine Al H21.out Ep (Py _ _ _ _ _ _) ?_;intro w5 hw5)
 have hr5:=setRow_heap w2 (w.heap.size+1) #[.int .i64 0, .slice none 0 0, .int .i64 0, .int .i64 0] #[.int .i64 kid, .slice A' n c', .int .i64 kf, .int .i64 kt] 44 (0,0) H21.out
 rw[←hw5.out]at hr5
 have hge: ∀b,b<w.heap.size+2→(Value.slice A' n c').ownBlock=none∨(Value.slice A' n c').ownBlock≠some b:=fun b hb=>by
  cases e:(Value.slice A' n c').ownBlock with
  |none=>exact .inl rfl
  |some g=>exact .inr (fun e2=>by cases e2;have:=Ak HOW.out e;omega)
 have how2:w2.ownsRow wb.heap.size 5 1 (.slice A' n c') n (U8 ksec):=HOW.out.kept (by rw[hw2.out];exact Bl _ _ _ _) (hge _ (by omega))
 have how5:w5.ownsRow wb.heap.size 5 1 (.slice A' n c') n (U8 ksec):=how2.kept (by rw[hw5.out];exact aY _ _ _) (hge _ (by omega))
 obtain⟨A5,c5,e5,hbs5⟩:=Xh how5 HB.out.lt
 cases e5
 have hb5:Below w.heap.size w2 w5:=An hw5.out (by omega)
 refine bodyPost_ret (Ic Tryz.results51 _ w5 (w.heap.size+1) 44 #[.int .i64 kid, .slice A' n c', .int .i64 kf, .int .i64 kt] (0,0) _ rfl hr5 Tryz.underlying44 rfl Ep) rfl ⟨A',c',rfl,hbs5,fun ad' e=>by subst e;have:=Ak HOW.out (g:=ad'.block) rfl;omega,HB2.out.trans hb5⟩
end Go.Proofs.YtmdbfogjfbbpjaaGreatDoor
end
