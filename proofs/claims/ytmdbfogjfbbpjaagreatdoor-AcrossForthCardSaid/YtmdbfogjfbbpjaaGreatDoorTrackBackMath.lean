import Derived.Test.YtmdbfogjfbbpjaaGreatDoorLineMath
set_option linter.unusedVariables false
namespace Go.Proofs.YtmdbfogjfbbpjaaGreatDoor
def charN (v:Nat):Nat:=if Bb v % 2=0 then v+16 else v
def Oo (v:Nat):List Bool:=[charN v % 2==1,charN v / 2 % 2==1,charN v / 4 % 2==1,charN v / 8 % 2==1,charN v / 16 % 2==1]
theorem So (v:Nat):(Oo v).length=5:=rfl
def Ap (vs:List Nat):List Bool:=vs.flatMap Oo
theorem Mm (v:Nat) (vs:List Nat):Ap (v::vs)=Oo v++Ap vs:=by simp[Ap]
theorem Hu (a b:List Nat):Ap (a++b)=Ap a++Ap b:=by simp[Ap]
theorem Fy: ∀vs:List Nat,(Ap vs).length=5*vs.length
 |[]=>rfl
 |v::vs=>by rw[Mm,List.length_append,So,Fy vs,List.length_cons];omega
def xorL (vs:List Nat):Nat:=vs.foldl (fun n x=>n^^^x) 0
theorem Oq: ∀(vs:List Nat) (a:Nat),a<16→(∀v∈vs,v<16)→vs.foldl (fun n x=>n^^^x) a<16
 |[],a,ha,_=>ha
 |v::vs,a,ha,h=>Oq vs (a^^^v) (Nat.xor_lt_two_pow (n:=4) ha (h v (by simp))) (fun x hx=>h x (by simp[hx]))
theorem dS (vs:List Nat) (h: ∀v∈vs,v<16):xorL vs<16:=Oq vs 0 (by omega) h
def putVals (d:List Nat):List Nat:=11::(d++ [15])
def trackV (d:List Nat):List Nat:=putVals d++ [xorL (putVals d)]
theorem Lc (d:List Nat):(trackV d).length=d.length+3:=by simp[trackV,putVals]
def Aw (d:List Nat):Bool:=d.all fun x=>decide (x≤9)
def Gl (d:List Nat):Int:=if 77<d.length then 21 else if Aw d=true then 0 else 7
def putL (d:List Nat):List Nat:=if Gl d=0 then packL (Ap (trackV d))else []
theorem AcS {d:List Nat} (h:Gl d=0):d.length≤77∧Aw d=true:=by
 unfold Gl at h
 split at h
 ·cases h
 ·split at h
  ·exact⟨by omega,by assumption⟩
  ·cases h
theorem AcT {d:List Nat} (h1:d.length≤77) (h2:Aw d=true):Gl d=0:=by rw[Gl,if_neg (by omega),if_pos h2]
theorem rO {d:List Nat} (h:Gl d=0):(putL d).length=(5*d.length+22) / 8:=by
 rw[putL,if_pos h,Hq,Fy,Lc]
 omega
def chAt (l:List Bool) (i:Nat):Nat:=bit (l.getD i false)+2*bit (l.getD (i+1) false)+4*bit (l.getD (i+2) false)+8*bit (l.getD (i+3) false)+16*bit (l.getD (i+4) false)
theorem Ld (l:List Bool) (i:Nat):chAt l i<32:=by
 have:=Ha (l.getD i false)
 have:=Ha (l.getD (i+1) false)
 have:=Ha (l.getD (i+2) false)
 have:=Ha (l.getD (i+3) false)
 have:=Ha (l.getD (i+4) false)
 unfold chAt
 omega
theorem Jq: ∀v:Nat,v<16→charN v<32∧Bb (charN v) % 2=1∧charN v % 16=v:=by decide
theorem nO: ∀c:Nat,c<32→Bb c % 2=1→charN (c % 16)=c:=by decide
theorem nP {v:Nat} (hv:v<16) (l:List Bool):chAt (Oo v++l) 0=charN v:=by
 have h:=(Jq v hv).1
 unfold chAt Oo
 simp only[List.cons_append,List.nil_append,List.getD_cons_zero,List.getD_cons_succ,Afy,Nat.zero_add]
 omega
theorem AcU {l:List Bool} {i:Nat} (h:i+5≤l.length):l.take (i+5)=l.take i++ [chAt l i % 2==1,chAt l i / 2 % 2==1,chAt l i / 4 % 2==1,chAt l i / 8 % 2==1,chAt l i / 16 % 2==1]:=by
 obtain⟨b0,h0⟩: ∃b,l[i]?=some b:=⟨_,List.getElem?_eq_getElem (by omega)⟩
 obtain⟨b1,h1⟩: ∃b,l[i+1]?=some b:=⟨_,List.getElem?_eq_getElem (by omega)⟩
 obtain⟨b2,h2⟩: ∃b,l[i+2]?=some b:=⟨_,List.getElem?_eq_getElem (by omega)⟩
 obtain⟨b3,h3⟩: ∃b,l[i+3]?=some b:=⟨_,List.getElem?_eq_getElem (by omega)⟩
 obtain⟨b4,h4⟩: ∃b,l[i+4]?=some b:=⟨_,List.getElem?_eq_getElem (by omega)⟩
 have e:chAt l i=bit b0+2*bit b1+4*bit b2+8*bit b3+16*bit b4:=by
  simp only[chAt,List.getD_eq_getElem?_getD,h0,h1,h2,h3,h4,Option.getD_some]
 rw[e,show i+5=i+4+1 by omega,List.take_add_one,h4,List.take_add_one,h3,List.take_add_one,h2,List.take_add_one,h1,List.take_add_one,h0]
 simp only[Option.toList_some,List.append_assoc,List.cons_append,List.nil_append]
 congr 1
 cases b0<;>cases b1<;>cases b2<;>cases b3<;>cases b4<;>decide
def Dw (l:List Bool):Nat→Nat→List Nat→Except Int (List Nat × Nat)
 |0,_,_=> .error 5
 |f+1,i,out=>
  if l.length<i+5 then .error 5
  else if Bb (chAt l i) % 2=0 then .error 3
  else if 9<chAt l i % 16∧chAt l i % 16≠15 then .error 7
  else if chAt l i % 16=15 then .ok (out,i+5)
  else Dw l f (i+5) (out++ [chAt l i % 16])
def Ey (b:List Nat) (l:List Bool) (out:List Nat) (i:Nat):Except Int (List Nat):=
 if l.length<i+5 then .error 5
 else if Bb (chAt l i) % 2=0 then .error 3
 else if chAt l i % 16≠xorL (putVals out)then .error 6
 else if 77<out.length then .error 21
 else if packL (l.take (i+5))≠b then .error 14
 else .ok out
def Hy (b:List Nat):Except Int (List Nat):=
 if b.length<2∨50<b.length then .error 14
 else if chAt (Ag b) 0≠11 then .error 4
 else match Dw (Ag b) (Ag b).length 5 []with
  | .error e=> .error e
  | .ok (out,i)=>Ey b (Ag b) out i
def Du (b:List Nat):Int:=match Hy b with| .error e=>e| .ok _=>0
def Hk (b:List Nat):List Nat:=match Hy b with| .error _=>[]| .ok d=>d
theorem Aag (l:List Bool) (i k:Nat) (hk:k<8):accB l i 8 / 2^(7 - k) % 2=bit (l.getD (i+k) false):=by
 have b0:=Ha (l.getD (i+0) false)
 have b1:=Ha (l.getD (i+1) false)
 have b2:=Ha (l.getD (i+2) false)
 have b3:=Ha (l.getD (i+3) false)
 have b4:=Ha (l.getD (i+4) false)
 have b5:=Ha (l.getD (i+5) false)
 have b6:=Ha (l.getD (i+6) false)
 have b7:=Ha (l.getD (i+7) false)
 simp only[accB]
 rcases(show k=0∨k=1∨k=2∨k=3∨k=4∨k=5∨k=6∨k=7 by omega)with rfl|rfl|rfl|rfl|rfl|rfl|rfl|rfl<;>simp only[Nat.reduceSub,Nat.reducePow]<;>omega
theorem iN (x k:Nat) (hk:k<8):(Ff x 8).getD k false=(x / 2^(7 - k) % 2==1):=by
 rw[Ff,List.getD_eq_getElem?_getD,List.getElem?_map,List.getElem?_range hk];rfl
theorem Mn: ∀(b:List Nat) (j k:Nat),k<8→(Ag b).getD (8*j+k) false=(b.getD j 0 / 2^(7 - k) % 2==1)
 |[],j,k,_=>by simp[Ag]
 |x::b,0,k,hk=>by
  rw[Mb,List.getD_eq_getElem?_getD,List.getElem?_append_left (by rw[Ma];omega), ←List.getD_eq_getElem?_getD,Nat.mul_zero,Nat.zero_add,iN x k hk]
  rfl
 |x::b,j+1,k,hk=>by
  have ih:=Mn b j k hk
  rw[Mb,List.getD_eq_getElem?_getD,List.getElem?_append_right (by rw[Ma];omega),Ma,show 8*(j+1)+k - 8=8*j+k by omega, ←List.getD_eq_getElem?_getD,ih]
  rfl
theorem nQ (l:List Bool) (j:Nat):(packL l).getD j 0=if j<(l.length+7) / 8 then accB l (8*j) 8 else 0:=by
 rw[packL,Cw,List.getD_eq_getElem?_getD,List.getElem?_map]
 by_cases h:j<(l.length+7) / 8
 ·rw[List.getElem?_range h,if_pos h];rfl
 ·rw[List.getElem?_eq_none (by simp;omega),if_neg h];rfl
theorem Kg (l:List Bool) (i:Nat):(Ag (packL l)).getD i false=l.getD i false:=by
 have e:i=8*(i / 8)+i % 8:=by omega
 have hk:i % 8<8:=by omega
 generalize hj:i / 8=j at e
 generalize i % 8=k at e hk
 subst e
 rw[Mn _ j k hk,nQ]
 by_cases h:j<(l.length+7) / 8
 ·rw[if_pos h,Aag l (8*j) k hk]
  cases l.getD (8*j+k) false<;>rfl
 ·rw[if_neg h,List.getD_eq_getElem?_getD,List.getElem?_eq_none (by omega)]
  simp
theorem Sp (l:List Bool):(Ag (packL l)).take l.length=l:=by
 apply List.ext_getElem?
 intro i
 by_cases h:i<l.length
 ·rw[List.getElem?_take,if_pos h]
  have h2:i<(Ag (packL l)).length:=by rw[Bz,Hq];omega
  have:=Kg l i
  rw[List.getD_eq_getElem?_getD,List.getD_eq_getElem?_getD,List.getElem?_eq_getElem h,List.getElem?_eq_getElem h2]at this
  rw[List.getElem?_eq_getElem h,List.getElem?_eq_getElem h2]
  simpa using this
 ·rw[List.getElem?_eq_none (by simp;omega),List.getElem?_eq_none (by omega)]
theorem iO (l:List Bool) (i:Nat):chAt (Ag (packL l)) i=chAt l i:=by
 unfold chAt
 simp only[Kg]
theorem Iz: ∀(vs:List Nat),(∀v∈vs,v<16)→ ∀k v,vs[k]?=some v→chAt (Ap vs) (5*k)=charN v
 |[],_,k,v,h=>by simp at h
 |x::vs,hv,0,v,h=>by
  simp at h
  subst h
  rw[Mm,Nat.mul_zero]
  exact nP (hv x (by simp)) _
 |x::vs,hv,k+1,v,h=>by
  have ih:=Iz vs (fun y hy=>hv y (by simp[hy])) k v (by simpa using h)
  rw[←ih,Mm]
  have hs: ∀j,(Oo x++Ap vs).getD (5*(k+1)+j) false=(Ap vs).getD (5*k+j) false:=by
   intro j
   rw[List.getD_eq_getElem?_getD,List.getD_eq_getElem?_getD,List.getElem?_append_right (by rw[So];omega),So]
   congr 2
   omega
  unfold chAt
  rw[hs 1,hs 2,hs 3,hs 4, ←Nat.add_zero (5*(k+1)),hs 0]
  rfl
theorem dT {d:List Nat} (h:Aw d=true): ∀v∈putVals d,v<16:=by
 intro v hv
 simp only[putVals,List.mem_cons,List.mem_append,List.not_mem_nil,or_false]at hv
 rcases hv with rfl|h1|rfl
 ·omega
 ·have:=of_decide_eq_true (List.all_eq_true.1 h v h1);omega
 ·omega
theorem Qp {d:List Nat} (h:Aw d=true): ∀v∈trackV d,v<16:=by
 intro v hv
 simp only[trackV,List.mem_append,List.mem_singleton]at hv
 rcases hv with h1|rfl
 ·exact dT h v h1
 ·exact dS _ (dT h)
theorem nR {L:List Bool} {d:List Nat} (hd:Aw d=true) (hlen:5*(d.length+3)≤L.length) (hch: ∀i,chAt L i=chAt (Ap (trackV d)) i):
  ∀(f k:Nat),k≤d.length→d.length - k<f→Dw L f (5*(k+1)) (d.take k)= .ok (d,5*(d.length+2)):=by
 intro f
 induction f with
 |zero=>intro k _ h;omega
 |succ f ih=>
  intro k hk hf
  rw[Dw,if_neg (by omega)]
  by_cases hlt:k<d.length
  ·obtain⟨x,hx⟩: ∃x,d[k]?=some x:=⟨_,List.getElem?_eq_getElem hlt⟩
   have hx9:x≤9:=of_decide_eq_true (List.all_eq_true.1 hd x (List.mem_of_getElem? hx))
   have hv:(trackV d)[k+1]?=some x:=by
    rw[trackV,putVals,List.cons_append,List.getElem?_cons_succ,List.append_assoc,List.getElem?_append_left hlt,hx]
   have hc:=Jq x (by omega)
   have e:chAt L (5*(k+1))=charN x:=by rw[hch,Iz _ (Qp hd) (k+1) x hv]
   rw[e,if_neg (by omega),hc.2.2,if_neg (by omega),if_neg (by omega),show 5*(k+1)+5=5*(k+1+1) by omega]
   have ht:d.take k++ [x]=d.take (k+1):=by rw[List.take_add_one,hx];rfl
   rw[ht]
   exact ih (k+1) hlt (by omega)
  ·have ek:k=d.length:=by omega
   subst ek
   have hv:(trackV d)[d.length+1]?=some 15:=by
    rw[trackV,putVals,List.cons_append,List.getElem?_cons_succ,List.append_assoc,List.getElem?_append_right (Nat.le_refl _)]
    simp
   have e:chAt L (5*(d.length+1))=charN 15:=by rw[hch,Iz _ (Qp hd) (d.length+1) 15 hv]
   have hc:=Jq 15 (by omega)
   rw[e,if_neg (by omega),hc.2.2,if_neg (by omega),if_pos rfl,List.take_length]
   rfl
theorem nT {d:List Nat} (h:Gl d=0):Hy (putL d)= .ok d:=by
 obtain⟨h1,h2⟩:=AcS h
 have hl:=rO h
 have hL:(Ap (trackV d)).length=5*(d.length+3):=by rw[Fy,Lc]
 rw[Hy,if_neg (by rw[hl];omega)]
 have hp:putL d=packL (Ap (trackV d)):=by rw[putL,if_pos h]
 have hul:(Ag (putL d)).length=8*((5*d.length+22) / 8):=by rw[Bz,hl]
 have hch: ∀i,chAt (Ag (putL d)) i=chAt (Ap (trackV d)) i:=by intro i;rw[hp];exact iO _ i
 have h11:chAt (Ag (putL d)) 0=11:=by
  rw[hch,show(0:Nat)=5*0 by rfl,Iz _ (Qp h2) 0 11 rfl]
  decide
 rw[if_neg (by rw[h11];simp)]
 have hs:=nR h2 (L:=Ag (putL d)) (by omega) hch (Ag (putL d)).length 0 (by omega) (by omega)
 rw[show(5:Nat)=5*(0+1) by rfl,show([]:List Nat)=d.take 0 by rfl,hs]
 show Ey (putL d) (Ag (putL d)) d (5*(d.length+2))= .ok d
 have hv:(trackV d)[d.length+2]?=some (xorL (putVals d)):=by
  rw[trackV,List.getElem?_append_right (by simp[putVals])]
  simp[putVals]
 have hx:xorL (putVals d)<16:=dS _ (dT h2)
 have hc:=Jq _ hx
 have e:chAt (Ag (putL d)) (5*(d.length+2))=charN (xorL (putVals d)):=by rw[hch,Iz _ (Qp h2) (d.length+2) _ hv]
 rw[Ey,if_neg (by omega),e,if_neg (by omega),hc.2.2,if_neg (by simp),if_neg (by omega),show 5*(d.length+2)+5=(Ap (trackV d)).length by omega,hp,Sp,if_neg (by simp)]
theorem Vz {l:List Bool} {i:Nat} (h:i+5≤l.length) (hp:Bb (chAt l i) % 2=1):l.take (i+5)=l.take i++Oo (chAt l i % 16):=by
 rw[AcU h,Oo,nO _ (Ld l i) hp]
theorem Mo {out:List Nat} {x:Nat} (h:Aw out=true) (hx:x≤9):Aw (out++ [x])=true:=by
 rw[Aw,List.all_append,Bool.and_eq_true]
 exact⟨h,by simp[hx]⟩
theorem nU {l:List Bool} {d:List Nat} {i':Nat} : ∀(f i:Nat) (out:List Nat),l.take i=Ap (11::out)→Aw out=true→Dw l f i out= .ok (d,i')→
  i'≤l.length∧l.take i'=Ap (putVals d)∧Aw d=true:=by
 intro f
 induction f with
 |zero=>intro i out _ _ h;cases h
 |succ f ih=>
  intro i out ht hd h
  rw[Dw]at h
  split at h
  ·cases h
  ·split at h
   ·cases h
   ·split at h
    ·cases h
    ·have hv:=Vz (l:=l) (i:=i) (by omega) (by omega)
     split at h
     ·rename_i h15
      cases h
      refine⟨by omega, ?_,hd⟩
      rw[hv,ht,h15,putVals, ←List.cons_append,Hu]
      rfl
     ·refine ih (i+5) (out++ [chAt l i % 16]) ?_ (Mo hd (by omega)) h
      rw[hv,ht, ←List.cons_append,Hu]
      simp[Ap]
theorem Wa {b d:List Nat} (h:Hy b= .ok d):Gl d=0∧putL d=b:=by
 rw[Hy]at h
 split at h
 ·cases h
 ·rename_i hlen
  split at h
  ·cases h
  ·rename_i h11
   have h11:chAt (Ag b) 0=11:=by simpa using h11
   have hul:=Bz b
   have ht5:(Ag b).take 5=Ap [11]:=by
    have:=Vz (l:=Ag b) (i:=0) (by omega) (by rw[h11];decide)
    rw[h11]at this
    simpa[Ap]using this
   split at h
   ·cases h
   ·rename_i out i hs
    obtain⟨hi,ht,hd⟩:=nU _ 5 [] ht5 rfl hs
    rw[Ey]at h
    split at h
    ·cases h
    ·split at h
     ·cases h
     ·split at h
      ·cases h
      ·split at h
       ·cases h
       ·split at h
        ·cases h
        ·rename_i hx h77 hpk
         cases h
         have hx:chAt (Ag b) i % 16=xorL (putVals d):=by simpa using hx
         have hpk:packL ((Ag b).take (i+5))=b:=by simpa using hpk
         have hv:=Vz (l:=Ag b) (i:=i) (by omega) (by omega)
         have he:=AcT (d:=d) (by omega) hd
         refine⟨he, ?_⟩
         rw[putL,if_pos he, ←hpk,hv,ht,hx,trackV,Hu]
         simp[Ap]
theorem Ph {a b:List Bool} {i:Nat} : ∀k,(∀q,q<k→a.getD (i+q) false=b.getD (i+q) false)→accB a i k=accB b i k
 |0,_=>rfl
 |k+1,h=>by
  rw[accB,accB,Ph k (fun q hq=>h q (by omega)),h k (by omega)]
theorem Nt (l:List Bool) (n i:Nat):(l.take n).getD i false=if i<n then l.getD i false else false:=by
 rw[List.getD_eq_getElem?_getD,List.getElem?_take]
 split
 ·rw[List.getD_eq_getElem?_getD]
 ·rfl
theorem Sq (l:List Bool) (i r:Nat): ∀s,accB (l.take (i+r)) i (r+s)=accB l i r*2^s
 |0=>by
  rw[Nat.pow_zero,Nat.mul_one,Nat.add_zero]
  exact Ph r (fun q hq=>by rw[Nt,if_pos (by omega)])
 |s+1=>by
  rw[←Nat.add_assoc,accB,Sq l i r s,Nt,if_neg (by omega),Nat.pow_succ]
  simp only[bit,Bool.false_eq_true,if_false]
  rw[Nat.mul_comm 2,Nat.mul_assoc]
  omega
theorem uL {l:List Bool} {k i:Nat} (h:i≠k):(l.take (k+1)).getD i false=(l.take k).getD i false:=by
 rw[Nt,Nt]
 by_cases h1:i<k
 ·rw[if_pos (by omega),if_pos h1]
 ·rw[if_neg (by omega),if_neg h1]
def iP (l:List Bool) (k:Nat):Nat:=accB l (8*(k / 8)) (k % 8)*2^(8 - k % 8)
theorem AeE (l:List Bool) (k m:Nat) (h:k / 8<m):(Cw (l.take k) m)[k / 8]?=some (iP l k):=by
 have e:8*(k / 8)+k % 8=k:=by omega
 have:=Sq l (8*(k / 8)) (k % 8) (8 - k % 8)
 rw[e,show k % 8+(8 - k % 8)=8 by omega]at this
 rw[Cw,List.getElem?_map,List.getElem?_range h,Option.map_some,this]
 rfl
theorem AcV (l:List Bool) (k m:Nat) (h:k / 8<m):Cw (l.take (k+1)) m=(Cw (l.take k) m).set (k / 8) (iP l k+bit (l.getD k false)*2^(7 - k % 8)):=by
 have e:8*(k / 8)+(k % 8+1)=k+1:=by omega
 have h1:=Sq l (8*(k / 8)) (k % 8+1) (7 - k % 8)
 rw[e,show k % 8+1+(7 - k % 8)=8 by omega]at h1
 apply List.ext_getElem?
 intro j
 by_cases hj:j<m
 ·by_cases hjk:j=k / 8
  ·subst hjk
   rw[List.getElem?_set_self (by rw[It];exact h),Cw,List.getElem?_map,List.getElem?_range h,Option.map_some,h1,accB,show 8*(k / 8)+k % 8=k by omega,iP,show 8 - k % 8=7 - k % 8+1 by omega,Nat.pow_succ]
   congr 1
   rw[Nat.add_mul,Nat.mul_comm 2,Nat.mul_assoc,Nat.mul_comm 2]
  ·rw[List.getElem?_set_ne (by omega),Cw,Cw,List.getElem?_map,List.getElem?_map,List.getElem?_range hj,Option.map_some,Option.map_some]
   congr 1
   exact Ph 8 (fun q hq=>uL (by omega))
 ·rw[List.getElem?_eq_none (by rw[It];omega),List.getElem?_eq_none (by rw[List.length_set,It];omega)]
theorem AcW (l:List Bool) (m:Nat):Cw (l.take 0) m=List.replicate m 0:=by
 have h: ∀i k,accB [] i k=0:=by
  intro i k
  induction k with
  |zero=>rfl
  |succ k ih=>rw[accB,ih];simp[bit]
 apply List.ext_getElem?
 intro j
 by_cases hj:j<m
 ·rw[Cw,List.getElem?_map,List.getElem?_range hj,Option.map_some,List.take_zero,h,List.getElem?_replicate,if_pos hj]
 ·rw[List.getElem?_eq_none (by rw[It];omega),List.getElem?_eq_none (by simp;omega)]
theorem AeF (l:List Bool) (k:Nat): ∃r p,r<8∧p<2^r∧k % 8=r∧iP l k=p*2^(8 - r):=⟨k % 8,accB l (8*(k / 8)) (k % 8),by omega,Rx _ _ _,rfl,rfl⟩
def Fl (b:List Nat) (k:Nat):List Bool:=(Ag b).take k++List.replicate (8*b.length - k) false
theorem nV (b:List Nat) (k:Nat) (h:k≤8*b.length):(Fl b k).length=8*b.length:=by
 rw[Fl,List.length_append,List.length_take,List.length_replicate,Bz];omega
theorem iQ (b:List Nat):Fl b 0=List.replicate (8*b.length) false:=by simp[Fl]
theorem nW (b:List Nat):Fl b (8*b.length)=Ag b:=by
 rw[Fl,Nat.sub_self,List.replicate_zero,List.append_nil, ←Bz,List.take_length]
theorem nX (b:List Nat) (k:Nat) (h:k<8*b.length):(Fl b k).set k ((Ag b).getD k false)=Fl b (k+1):=by
 have hl:=Bz b
 obtain⟨x,hx⟩: ∃x,(Ag b)[k]?=some x:=⟨_,List.getElem?_eq_getElem (by omega)⟩
 rw[Fl,List.set_append_right (h:=by rw[List.length_take];omega)]
 rw[List.length_take,Nat.min_eq_left (by omega),Nat.sub_self,show 8*b.length - k=(8*b.length - (k+1))+1 by omega,List.replicate_succ,List.set_cons_zero,Fl,List.take_add_one,hx,List.getD_eq_getElem?_getD,hx]
 simp
theorem AeG (b:List Nat) (k x:Nat) (hx:b[k / 8]?=some x):(Ag b).getD k false=(x / 2^(7 - k % 8) % 2==1):=by
 have:=Mn b (k / 8) (k % 8) (by omega)
 rw[show 8*(k / 8)+k % 8=k by omega]at this
 have e:b.getD (k / 8) 0=x:=by rw[List.getD_eq_getElem?_getD,hx];rfl
 rw[e]at this
 exact this
theorem AcX {l:List Bool} {e:Int} : ∀(f i:Nat) (out:List Nat),Dw l f i out= .error e→e≠0:=by
 intro f
 induction f with
 |zero=>intro i out h;cases h;decide
 |succ f ih=>
  intro i out h
  rw[Dw]at h
  split at h
  ·cases h;decide
  ·split at h
   ·cases h;decide
   ·split at h
    ·cases h;decide
    ·split at h
     ·cases h
     ·exact ih _ _ h
theorem AeH {b:List Nat} {e:Int} (h:Hy b= .error e):e≠0:=by
 rw[Hy]at h
 split at h
 ·cases h;decide
 ·split at h
  ·cases h;decide
  ·split at h
   ·rename_i e' hs
    cases h
    exact AcX _ _ _ hs
   ·rw[Ey]at h
    split at h
    ·cases h;decide
    ·split at h
     ·cases h;decide
     ·split at h
      ·cases h;decide
      ·split at h
       ·cases h;decide
       ·split at h
        ·cases h;decide
        ·cases h
theorem Wb {b:List Nat} (h:Du b=0):Hy b= .ok (Hk b):=by
 unfold Du Hk at*
 cases hx:Hy b with
 |error e=>rw[hx]at h;exact absurd h (AeH hx)
 |ok d=>rfl
theorem Wd {b:List Nat} (h:Du b=0):b.length≤50:=by
 have hx:=Wb h
 rw[Hy]at hx
 split at hx
 ·cases hx
 ·omega
theorem rP {d:List Nat} (h:Gl d=0): ∀x∈putL d,x<256:=by
 rw[putL,if_pos h];exact Yg _
def Em (b:List Nat):List Nat:=packL (Ag b).reverse
theorem Qq (b:List Nat):(Em b).length=b.length:=by rw[Em,Hq,List.length_reverse,Bz];omega
def Gm (b:List Nat):Int:=if Du b=0 then 0 else if Du (Em b)=0 then 0 else Du b
def Jr (b:List Nat):Bool:=if Du b=0 then false else if Du (Em b)=0 then true else false
def readL (b:List Nat):List Nat:=if Du b=0 then Hk b else if Du (Em b)=0 then Hk (Em b)else []
theorem Le {b:List Nat} (h:Du b=0):Gm b=0∧Jr b=false∧readL b=Hk b:=by simp[Gm,Jr,readL,h]
theorem Mp {b:List Nat} (h: ¬Du b=0) (h2:Du (Em b)=0):Gm b=0∧Jr b=true∧readL b=Hk (Em b):=by simp[Gm,Jr,readL,h,h2]
theorem Sr {b:List Nat} (h: ¬Du b=0) (h2: ¬Du (Em b)=0):Gm b=Du b∧Jr b=false∧readL b=[]:=by simp[Gm,Jr,readL,h,h2]
def Ok (l:List Bool) (k:Nat):List Bool:=(List.range l.length).map fun j=>if j<k∨l.length<j+k+1 then l.getD (l.length - 1 - j) false else l.getD j false
theorem Kh (l:List Bool) (k:Nat):(Ok l k).length=l.length:=by simp[Ok]
theorem Js (l:List Bool) (k j:Nat) (h:j<l.length):(Ok l k)[j]?=some (if j<k∨l.length<j+k+1 then l.getD (l.length - 1 - j) false else l.getD j false):=by
 rw[Ok,List.getElem?_map,List.getElem?_range h];rfl
theorem uM (l:List Bool):Ok l 0=l:=by
 apply List.ext_getElem?
 intro j
 by_cases h:j<l.length
 ·rw[Js l 0 j h,if_neg (by omega),List.getD_eq_getElem?_getD,List.getElem?_eq_getElem h];rfl
 ·rw[List.getElem?_eq_none (by rw[Kh];omega),List.getElem?_eq_none (by omega)]
theorem uN (l:List Bool) (k:Nat) (h:k=l.length / 2):Ok l k=l.reverse:=by
 apply List.ext_getElem?
 intro j
 by_cases hj:j<l.length
 ·rw[Js l k j hj,List.getElem?_reverse hj]
  rw[List.getD_eq_getElem?_getD,List.getD_eq_getElem?_getD,List.getElem?_eq_getElem (show l.length - 1 - j<l.length by omega),List.getElem?_eq_getElem hj]
  by_cases h2:j<k∨l.length<j+k+1
  ·rw[if_pos h2];rfl
  ·rw[if_neg h2]
   have e:l.length - 1 - j=j:=by omega
   simp[e]
 ·rw[List.getElem?_eq_none (by rw[Kh];omega),List.getElem?_eq_none (by rw[List.length_reverse];omega)]
theorem Aah (l:List Bool) (k:Nat) (h:2*k+1<l.length):(Ok l k)[k]?=some (l.getD k false):=by
 rw[Js l k k (by omega),if_neg (by omega)]
theorem uO (l:List Bool) (k:Nat) (h:2*k+1<l.length):(Ok l k)[l.length - 1 - k]?=some (l.getD (l.length - 1 - k) false):=by
 rw[Js l k _ (by omega),if_neg (by omega)]
theorem uP (l:List Bool) (k:Nat) (h:2*k+1<l.length):((Ok l k).set k (l.getD (l.length - 1 - k) false)).set (l.length - 1 - k) (l.getD k false)=Ok l (k+1):=by
 apply List.ext_getElem?
 intro j
 by_cases hj:j<l.length
 ·by_cases h2:j=l.length - 1 - k
  ·subst h2
   rw[List.getElem?_set_self (by rw[List.length_set,Kh];exact hj),Js l (k+1) _ hj,if_pos (by omega)]
   congr 2
   omega
  ·rw[List.getElem?_set_ne (by omega)]
   by_cases h1:j=k
   ·subst h1
    rw[List.getElem?_set_self (by rw[Kh];exact hj),Js l (j+1) j hj,if_pos (by omega)]
   ·rw[List.getElem?_set_ne (by omega),Js l k j hj,Js l (k+1) j hj]
    by_cases h3:j<k∨l.length<j+k+1
    ·rw[if_pos h3,if_pos (by omega)]
    ·rw[if_neg h3,if_neg (by omega)]
 ·rw[List.getElem?_eq_none (by simp[Kh];omega),List.getElem?_eq_none (by rw[Kh];omega)]
theorem Aai (l:List Bool) (k:Nat) (h:k<l.length):l.reverse.take (k+1)=l.reverse.take k++ [l.getD (l.length - 1 - k) false]:=by
 rw[List.take_add_one,List.getElem?_reverse h,List.getD_eq_getElem?_getD,List.getElem?_eq_getElem (show l.length - 1 - k<l.length by omega)]
 rfl
structure K where
 id:Int
 sec:List Nat
 frm:Int
 til:Int
def K0:K:=⟨0,[],0,0⟩
def Pj (id:Int) (n:Nat) (f t:Int):Bool:=decide (0≤id)&&(decide (id≤99)&&(decide (1≤n)&&(decide (n≤64)&&(decide (0≤f)&&(decide (f≤t)&&decide (t≤99999))))))
def K.right (k:K):Bool:=Pj k.id k.sec.length k.frm k.til
theorem Lf (id:Int) (n:Nat) (f t:Int):Pj id n f t=true↔0≤id∧id≤99∧1≤n∧n≤64∧0≤f∧f≤t∧t≤99999:=by simp[Pj]
def threeN (x i j k:Nat):Nat:=itr i x^^^itr j x^^^itr k x
def twoN (x i j d:Nat):Nat:=itr i x^^^itr j x^^^x / d
def pk (e f g:Nat):Nat→Nat
 |0=>0
 |i+1=>pk e f g i+(if e / 2^i % 2=1 then f else g) / 2^i % 2*2^i
def mj (a b c:Nat):Nat→Nat
 |0=>0
 |i+1=>mj a b c i+if 2≤a / 2^i % 2+b / 2^i % 2+c / 2^i % 2 then 2^i else 0
theorem Hz {a b:Nat} (ha:a<4294967296) (hb:b<4294967296):a^^^b<4294967296:=Nat.xor_lt_two_pow (n:=32) ha hb
theorem Jt (x i:Nat):x / 2^i % 2≤1:=by omega
theorem Aeo (e f g n:Nat):pk e f g n<2^n:=by
 induction n with
 |zero=>simp[pk]
 |succ n ih=>
  have h:=Jt (if e / 2^n % 2=1 then f else g) n
  have h2:(if e / 2^n % 2=1 then f else g) / 2^n % 2*2^n≤1*2^n:=Nat.mul_le_mul_right _ h
  rw[pk,Nat.pow_succ]
  omega
theorem Aep (a b c n:Nat):mj a b c n<2^n:=by
 induction n with
 |zero=>simp[mj]
 |succ n ih=>
  rw[mj,Nat.pow_succ]
  split<;>omega
theorem Tz (x b n j:Nat) (hx:x<2^n) (hb:b≤1):(x+b*2^n).testBit j=if j<n then x.testBit j else if j=n then decide (b=1)else false:=by
 rw[Nat.add_comm,Nat.mul_comm,Nat.testBit_two_pow_mul_add b hx j]
 split
 ·rfl
 ·next h=>
  rcases(show b=0∨b=1 by omega)with rfl|rfl
  ·simp
  ·by_cases e:j=n
   ·subst e;simp
   ·obtain⟨k,hk⟩: ∃k,j - n=k+1:=⟨j - n - 1,by omega⟩
    rw[if_neg e,hk,Nat.testBit_succ]
    simp
theorem Mq (x i:Nat):decide (x / 2^i % 2=1)=x.testBit i:=by
 rw[Nat.testBit_eq_decide_div_mod_eq]
theorem nY (e f g n j:Nat):(pk e f g n).testBit j=(decide (j<n)&&(if e.testBit j then f.testBit j else g.testBit j)):=by
 induction n with
 |zero=>simp[pk]
 |succ n ih=>
  rw[pk,Tz _ _ _ _ (Aeo e f g n) (Jt _ _),ih]
  by_cases h:j<n
  ·simp[h,show j<n+1 by omega]
  ·rw[if_neg h]
   by_cases h2:j=n
   ·subst h2
    rw[if_pos rfl,Mq]
    simp only[←Mq e j]
    by_cases h3:e / 2^j % 2=1<;>simp[h3]
   ·rw[if_neg h2]
    simp[show¬j<n+1 by omega]
theorem nZ (a b c n j:Nat):(mj a b c n).testBit j=(decide (j<n)&&((a.testBit j&&b.testBit j)||(a.testBit j&&c.testBit j)||(b.testBit j&&c.testBit j))):=by
 induction n with
 |zero=>simp[mj]
 |succ n ih=>
  have e:(if 2≤a / 2^n % 2+b / 2^n % 2+c / 2^n % 2 then 2^n else 0)=(if 2≤a / 2^n % 2+b / 2^n % 2+c / 2^n % 2 then 1 else 0)*2^n:=by split<;>simp
  rw[mj,e,Tz _ _ _ _ (Aep a b c n) (by split<;>omega),ih]
  by_cases h:j<n
  ·simp[h,show j<n+1 by omega]
  ·rw[if_neg h]
   by_cases h2:j=n
   ·subst h2
    rw[if_pos rfl, ←Mq a j, ←Mq b j, ←Mq c j]
    rcases(show a / 2^j % 2=0∨a / 2^j % 2=1 by omega)with ha|ha<;>rcases(show b / 2^j % 2=0∨b / 2^j % 2=1 by omega)with hb|hb<;>rcases(show c / 2^j % 2=0∨c / 2^j % 2=1 by omega)with hc|hc<;>simp[ha,hb,hc]
   ·rw[if_neg h2]
    simp[show¬j<n+1 by omega]
def kTab:List Nat:=[1116352408,1899447441,3049323471,3921009573,961987163,1508970993,2453635748,2870763221,3624381080,310598401,607225278,1426881987,1925078388,2162078206,2614888103,3248222580,3835390401,4022224774,264347078,604807628,770255983,1249150122,1555081692,1996064986,2554220882,2821834349,2952996808,3210313671,3336571891,3584528711,113926993,338241895,666307205,773529912,1294757372,1396182291,1695183700,1986661051,2177026350,2456956037,2730485921,2820302411,3259730800,3345764771,3516065817,3600352804,4094571909,275423344,430227734,506948616,659060556,883997877,958139571,1322822218,1537002063,1747873779,1955562222,2024104815,2227730452,2361852424,2428436474,2756734187,3204031479,3329325298]
theorem iR:kTab.length=64:=rfl
theorem rQ: ∀x∈kTab,x<4294967296:=by decide
def Mr (w l:List Nat) (t:Nat):Nat:=if t<16 then w.getD t 0 else(l.getD (t - 16) 0+twoN (l.getD (t - 15) 0) 7 18 8+l.getD (t - 7) 0+twoN (l.getD (t - 2) 0) 17 19 1024) % 4294967296
def wl (w:List Nat):Nat→List Nat
 |0=>[]
 |t+1=>wl w t++ [Mr w (wl w t) t]
theorem Hl (w:List Nat) (t:Nat):(wl w t).length=t:=by
 induction t with
 |zero=>rfl
 |succ t ih=>simp[wl,ih]
theorem Ot (w:List Nat) (hw: ∀x∈w,x<4294967296) (t:Nat): ∀x∈wl w t,x<4294967296:=by
 induction t with
 |zero=>intro x hx;simp[wl]at hx
 |succ t ih=>
  intro x hx
  rw[wl,List.mem_append,List.mem_singleton]at hx
  rcases hx with hx|rfl
  ·exact ih x hx
  ·unfold Mr
   split
   ·rw[List.getD_eq_getElem?_getD]
    rcases h:w[t]? with _|y
    ·simp
    ·exact hw y (List.mem_of_getElem? h)
   ·omega
structure St where
 a:Nat
 b:Nat
 c:Nat
 d:Nat
 e:Nat
 f:Nat
 g:Nat
 h:Nat
def St.ok (v:St):Prop:=v.a<4294967296∧v.b<4294967296∧v.c<4294967296∧v.d<4294967296∧v.e<4294967296∧v.f<4294967296∧v.g<4294967296∧v.h<4294967296
def St.list (v:St):List Nat:=[v.a,v.b,v.c,v.d,v.e,v.f,v.g,v.h]
def t1N (v:St) (k w:Nat):Nat:=(v.h+threeN v.e 6 11 25+pk v.e v.f v.g 32+k+w) % 4294967296
def t2N (v:St):Nat:=(threeN v.a 2 13 22+mj v.a v.b v.c 32) % 4294967296
def rnd (v:St) (k w:Nat):St:=⟨(t1N v k w+t2N v) % 4294967296,v.a,v.b,v.c,(v.d+t1N v k w) % 4294967296,v.e,v.f,v.g⟩
def Ol (v:St) (l:List Nat):Nat→St
 |0=>v
 |t+1=>rnd (Ol v l t) (kTab.getD t 0) (l.getD t 0)
def Aeq (v h:St):St:=⟨(v.a+h.a) % 4294967296,(v.b+h.b) % 4294967296,(v.c+h.c) % 4294967296,(v.d+h.d) % 4294967296,(v.e+h.e) % 4294967296,(v.f+h.f) % 4294967296,(v.g+h.g) % 4294967296,(v.h+h.h) % 4294967296⟩
def Fm (h:St) (w:List Nat):St:=Aeq (Ol h (wl w 64) 64) h
theorem AeI {v:St} (h:v.ok) (k w:Nat):(rnd v k w).ok:=by
 obtain⟨h1,h2,h3,h4,h5,h6,h7,h8⟩:=h
 exact⟨Nat.mod_lt _ (by omega),h1,h2,h3,Nat.mod_lt _ (by omega),h5,h6,h7⟩
theorem rR {v:St} (h:v.ok) (l:List Nat) (t:Nat):(Ol v l t).ok:=by
 induction t with
 |zero=>exact h
 |succ t ih=>exact AeI ih _ _
theorem iS (v h:St):(Aeq v h).ok:=⟨Nat.mod_lt _ (by omega),Nat.mod_lt _ (by omega),Nat.mod_lt _ (by omega),Nat.mod_lt _ (by omega),Nat.mod_lt _ (by omega),Nat.mod_lt _ (by omega),Nat.mod_lt _ (by omega),Nat.mod_lt _ (by omega)⟩
theorem St.list_lt {v:St} (h:v.ok): ∀x∈v.list,x<4294967296:=by
 obtain⟨h1,h2,h3,h4,h5,h6,h7,h8⟩:=h
 intro x hx
 simp only[St.list,List.mem_cons,List.not_mem_nil,or_false]at hx
 rcases hx with rfl|rfl|rfl|rfl|rfl|rfl|rfl|rfl<;>assumption
def dn (a b:List Nat):Nat→Nat
 |0=>0
 |k+1=>dn a b k|||(a.getD k 0^^^b.getD k 0)
theorem Ij {l:List Nat} (h: ∀x∈l,x<256) (k:Nat):l.getD k 0<256:=by
 rw[List.getD_eq_getElem?_getD]
 rcases Nat.lt_or_ge k l.length with hk|hk
 ·rw[List.getElem?_eq_getElem hk];exact h _ (List.getElem_mem hk)
 ·rw[List.getElem?_eq_none hk];decide
theorem AfB {a b:List Nat} (ha: ∀x∈a,x<256) (hb: ∀x∈b,x<256) (k:Nat):dn a b k<256:=by
 induction k with
 |zero=>exact(by decide:0<256)
 |succ k ih=>exact Nat.or_lt_two_pow (n:=8) ih (Nat.xor_lt_two_pow (n:=8) (Ij ha k) (Ij hb k))
theorem iT (a b:Nat):a|||b=0↔a=0∧b=0:=by
 constructor
 ·intro h
  constructor
  ·apply Nat.eq_of_testBit_eq;intro i
   have:=congrArg (fun z=>z.testBit i) h
   simp at this⊢;exact this.1
  ·apply Nat.eq_of_testBit_eq;intro i
   have:=congrArg (fun z=>z.testBit i) h
   simp at this⊢;exact this.2
 ·rintro⟨rfl,rfl⟩;rfl
theorem dU (a b:Nat):a^^^b=0↔a=b:=by
 constructor
 ·intro h
  apply Nat.eq_of_testBit_eq;intro i
  have:=congrArg (fun z=>z.testBit i) h
  simpa using this
 ·rintro rfl;exact Nat.xor_self a
theorem Ua (a b:List Nat) (k:Nat):dn a b k=0↔ ∀i,i<k→a.getD i 0=b.getD i 0:=by
 induction k with
 |zero=>simp[dn]
 |succ k ih=>
  rw[dn,iT,dU,ih]
  constructor
  ·rintro⟨h1,h2⟩ i hi
   rcases Nat.lt_or_ge i k with h|h
   ·exact h1 i h
   ·have:i=k:=by omega
    subst this;exact h2
  ·intro h
   exact⟨fun i hi=>h i (by omega),h k (by omega)⟩
theorem AcY (a b:List Nat):((a.length==b.length)&&(dn a b (min a.length b.length)==0))=(a==b):=by
 by_cases hl:a.length=b.length
 ·by_cases h:a=b
  ·subst h
   have h0:dn a a (min a.length a.length)=0:=(Ua _ _ _).2 fun _ _=>rfl
   rw[h0]
   simp
  ·have h2:dn a b (min a.length b.length)≠0:=by
    intro h0
    apply h
    have:=(Ua _ _ _).1 h0
    apply List.ext_getElem hl
    intro i h1 h2
    have h3:=this i (by omega)
    rwa[List.getD_eq_getElem?_getD,List.getD_eq_getElem?_getD,List.getElem?_eq_getElem h1,List.getElem?_eq_getElem h2]at h3
   have e1:(a==b)=false:=by simpa using h
   have e2:(dn a b (min a.length b.length)==0)=false:=by simpa using h2
   rw[e1,e2,Bool.and_false]
 ·have e1:(a==b)=false:=by simp;rintro rfl;exact hl rfl
  have e2:(a.length==b.length)=false:=by simpa using hl
  rw[e1,e2,Bool.false_and]
def We (n i:Nat):Nat:=n / 10^(9 - i) % 10
def dec (n:Nat):List Nat:=(List.range 10).map (We n)
theorem oA (n:Nat):(dec n).length=10:=by simp[dec]
theorem Aaj (n i:Nat):We n i<10:=Nat.mod_lt _ (by decide)
theorem iU (n:Nat): ∀x∈dec n,x<10:=by
 intro x hx
 simp only[dec,List.mem_map]at hx
 obtain⟨i,_,rfl⟩:=hx
 exact Aaj n i
theorem AeJ (n:Nat): ∀x∈dec n,x<256:=fun x hx=>Nat.lt_of_lt_of_le (iU n x hx) (by decide)
def Cu (n i:Nat):List Nat:=(List.range 10).map fun t=>if 10≤t+i then We n t else 0
theorem Wf (n i:Nat):(Cu n i).length=10:=by simp[Cu]
theorem dV (n:Nat):Cu n 0=List.replicate 10 0:=by
 apply List.ext_getElem
 ·simp[Cu]
 ·intro j h1 h2
  simp only[Cu,List.length_map,List.length_range]at h1
  rw[List.getElem_replicate]
  simp only[Cu,List.getElem_map,List.getElem_range]
  rw[if_neg (by omega)]
theorem iV (n i:Nat) (hi:i<10):(Cu n i).set (9 - i) (n / 10^i % 10)=Cu n (i+1):=by
 apply List.ext_getElem
 ·simp[Cu]
 ·intro j h1 h2
  simp[Cu]at h1
  rw[List.getElem_set]
  simp only[Cu,List.getElem_map,List.getElem_range]
  split
  ·next h=>subst h;rw[if_pos (by omega),We,show 9 - (9 - i)=i by omega]
  ·next h=>
   by_cases h3:10≤j+i
   ·rw[if_pos h3,if_pos (by omega)]
   ·rw[if_neg h3,if_neg (by omega)]
theorem iW (n:Nat):Cu n 10=dec n:=by
 apply List.ext_getElem
 ·simp[Cu,dec]
 ·intro j h1 h2
  simp[Cu,dec]
def Qr (n k:Nat):List Nat:=(List.range k).map (We n)
theorem oB (n k:Nat):Qr n (k+1)=Qr n k++ [We n k]:=by simp[Qr,List.range_succ]
theorem Aak (k:Nat) (hk:k≤9):1000000000 / 10^k=10^(9 - k):=by
 have:(1000000000:Nat)=10^(9 - k)*10^k:=by rw[←Nat.pow_add,show 9 - k+k=9 by omega]
 rw[this,Nat.mul_div_cancel _ (Nat.pow_pos (by decide))]
def Ub (t:Tk):Bool:=okT t&&(decide (t.ser≤9999999)&&(t.seat==0))
theorem uQ (t:Tk):Ub t=true↔okT t=true∧t.ser≤9999999∧t.seat=0:=by simp[Ub]
structure Tf where
 tag:Int
 val:List Nat
def TF0:Tf:=⟨0,[]⟩
def Aal (a t:Int) (n:Nat):Bool:=decide (a<t)&&(decide (t≤255)&&decide (n≤255))
theorem Ca (a t:Int) (n:Nat):Aal a t n=true↔a<t∧t≤255∧n≤255:=by simp[Aal]
def isT:Int→List Tf→Bool
 |_,[]=>true
 |a,f::l=>Aal a f.tag f.val.length&&isT f.tag l
def putT:List Tf→List Nat
 |[]=>[]
 |f::l=>f.tag.toNat::f.val.length::(f.val++putT l)
def Fk:Int→List Tf→Int
 |a,[]=>a
 |_,f::l=>Fk f.tag l
theorem Uc (l m:List Tf):putT (l++m)=putT l++putT m:=by
 induction l with
 |nil=>rfl
 |cons f l ih=>simp[putT,ih]
theorem Wg (a:Int) (l m:List Tf):isT a (l++m)=(isT a l&&isT (Fk a l) m):=by
 induction l generalizing a with
 |nil=>simp[isT,Fk]
 |cons f l ih=>simp[isT,Fk,ih,Bool.and_assoc]
theorem Qs (a:Int) (l m:List Tf):Fk a (l++m)=Fk (Fk a l) m:=by
 induction l generalizing a with
 |nil=>rfl
 |cons f l ih=>simp[Fk,ih]
theorem Aam {a:Int} {l:List Tf} (h:isT a l=true):a≤Fk a l∧(l≠ []→a<Fk a l)∧(a≤255→Fk a l≤255):=by
 induction l generalizing a with
 |nil=>exact⟨Int.le_refl _,fun h=>absurd rfl h,fun h=>h⟩
 |cons f l ih=>
  simp only[isT,Bool.and_eq_true]at h
  obtain⟨h1,h2,h3⟩:=(Ca _ _ _).1 h.1
  obtain⟨i1,_,i3⟩:=ih h.2
  have e:Fk a (f::l)=Fk f.tag l:=rfl
  rw[e]
  exact⟨by omega,fun _=>by omega,fun _=>i3 h2⟩
theorem Aan {a b:Int} {l:List Tf} (hab:b≤a) (h:isT a l=true):isT b l=true:=by
 cases l with
 |nil=>rfl
 |cons f l=>
  simp only[isT,Bool.and_eq_true]at h⊢
  obtain⟨h1,h2,h3⟩:=(Ca _ _ _).1 h.1
  exact⟨(Ca _ _ _).2 ⟨by omega,h2,h3⟩,h.2⟩
theorem oC (l:List Tf) (k:Nat) (h:k<l.length):l=l.take k++(l.getD k TF0::l.drop (k+1)):=by
 rw[List.getD_eq_getElem?_getD,List.getElem?_eq_getElem h,Option.getD_some,List.getElem_cons_drop,List.take_append_drop]
theorem Pk (l:List Tf) (k:Nat) (h:k<l.length):l.take (k+1)=l.take k++ [l.getD k TF0]:=by
 rw[List.take_succ_eq_append_getElem h,List.getD_eq_getElem?_getD,List.getElem?_eq_getElem h];rfl
theorem rS (l:List Tf) (k:Nat) (h:k<l.length) (hk:Aal (Fk 0 (l.take k)) (l.getD k TF0).tag (l.getD k TF0).val.length=false):isT 0 l=false:=by
 rw[oC l k h,Wg]
 rw[isT,hk]
 simp
theorem iX (l:List Tf) (k:Nat) (h:k<l.length) (h0:isT 0 (l.take k)=true) (hk:Aal (Fk 0 (l.take k)) (l.getD k TF0).tag (l.getD k TF0).val.length=true):isT 0 (l.take (k+1))=true∧Fk 0 (l.take (k+1))=(l.getD k TF0).tag:=by
 rw[Pk l k h,Wg,Qs]
 exact⟨by rw[h0,isT,hk];rfl,rfl⟩
theorem Aao (l:List Tf) (k:Nat) (h:k<l.length):Fk 0 (l.take (k+1))=(l.getD k TF0).tag:=by rw[Pk l k h,Qs];rfl
theorem Nu {a:Int} {l:List Tf} (h:isT a l=true) (ha:0≤a) (ha2:a≤255):(l.length:Int)≤255 - a∧ ∀f∈l,f.val.length≤255∧0<f.tag∧f.tag≤255:=by
 induction l generalizing a with
 |nil=>exact⟨by simp;omega,by simp⟩
 |cons f l ih=>
  simp only[isT,Bool.and_eq_true]at h
  obtain⟨h1,h2,h3⟩:=(Ca _ _ _).1 h.1
  obtain⟨i1,i2⟩:=ih h.2 (by omega) h2
  refine⟨by rw[List.length_cons];omega, ?_⟩
  intro g hg
  rcases List.mem_cons.1 hg with rfl|hg
  ·exact⟨h3,by omega,h2⟩
  ·exact i2 g hg
theorem dW (l:List Tf) (h: ∀f∈l,f.val.length≤255∧0<f.tag∧f.tag≤255) (hv: ∀f∈l, ∀x∈f.val,x<256): ∀x∈putT l,x<256:=by
 induction l with
 |nil=>simp[putT]
 |cons f l ih=>
  obtain⟨h1,h2,h3⟩:=h f (by simp)
  have hi:=ih (fun g hg=>h g (by simp[hg])) (fun g hg=>hv g (by simp[hg]))
  intro x hx
  simp only[putT,List.mem_cons,List.mem_append]at hx
  rcases hx with rfl|rfl|hx|hx
  ·omega
  ·omega
  ·exact hv f (by simp) x hx
  ·exact hi x hx
theorem aG (l:List Tf) (k:Nat) (h:k<l.length):putT (l.take (k+1))=putT (l.take k)++ [(l.getD k TF0).tag.toNat,(l.getD k TF0).val.length]++(l.getD k TF0).val:=by
 rw[Pk l k h,Uc]
 simp[putT]
def iY (l:List Tf):Nat × List Nat:=if isT 0 l=true then(0,putT l)else(1,[])
theorem Ux {l:List Tf} (h:isT 0 l=true):iY l=(0,putT l):=by rw[iY,if_pos h]
theorem iZ {l:List Tf} (h:isT 0 l=false):iY l=(1,[]):=by rw[iY,if_neg (by rw[h];decide)]
def Gj:Nat→Nat→List Nat→Nat × List Tf
 |0,_,_=>(0,[])
 |_+1,_,[]=>(0,[])
 |_+1,_,[_]=>(14,[])
 |k+1,a,t::n::r=>
  if t≤a then(13,[])
  else if r.length<n then(14,[])
  else((Gj k t (r.drop n)).1,if(Gj k t (r.drop n)).1=0 then⟨t,r.take n⟩::(Gj k t (r.drop n)).2 else [])
def gotT (b:List Nat):Nat × List Tf:=Gj b.length 0 b
def Wh (l:List Tf) (q:Nat × List Tf):Nat × List Tf:=(q.1,if q.1=0 then l++q.2 else [])
theorem jA {k a:Nat} {b:List Nat} :Wh [] (Gj k a b)=Gj k a b:=by
 have h:(Gj k a b).1≠0→(Gj k a b).2=[]:=by
  match k,b with
  |0,_=>intro h;exact absurd rfl h
  |_+1,[]=>intro h;exact absurd rfl h
  |_+1,[_]=>intro _;rfl
  |k+1,t::n::r=>
   unfold Gj
   split
   ·intro _;rfl
   ·split
    ·intro _;rfl
    ·intro h;simp only at h⊢;rw[if_neg h]
 rw[Wh]
 by_cases e:(Gj k a b).1=0
 ·rw[if_pos e,List.nil_append]
 ·rw[if_neg e, ←h e]
theorem Wi (k a:Nat):Gj k a []=(0,[]):=by cases k<;>rfl
theorem jB {k a x:Nat} (h:1≤k):Gj k a [x]=(14,[]):=by
 obtain⟨j,rfl⟩: ∃j,k=j+1:=⟨k - 1,by omega⟩
 rfl
theorem Wj {k a t n:Nat} {r:List Nat} (h:1≤k) (ht:t≤a):Gj k a (t::n::r)=(13,[]):=by
 obtain⟨j,rfl⟩: ∃j,k=j+1:=⟨k - 1,by omega⟩
 rw[Gj,if_pos ht]
theorem aH {k a t n:Nat} {r:List Nat} (h:1≤k) (ht:a<t) (hn:r.length<n):Gj k a (t::n::r)=(14,[]):=by
 obtain⟨j,rfl⟩: ∃j,k=j+1:=⟨k - 1,by omega⟩
 rw[Gj,if_neg (by omega),if_pos hn]
theorem aI {k a t n:Nat} {r:List Nat} (ht:a<t) (hn:n≤r.length) (acc:List Tf):Wh acc (Gj (k+1) a (t::n::r))=Wh (acc++ [⟨t,r.take n⟩]) (Gj k t (r.drop n)):=by
 rw[Gj,if_neg (by omega),if_neg (by omega)]
 simp only[Wh]
 by_cases e:(Gj k t (r.drop n)).1=0
 ·simp[e]
 ·simp[e]
theorem Ki (acc:List Tf) {e:Nat} (h:e≠0):Wh acc (e,[])=(e,[]):=by simp[Wh,h]
theorem jC (acc:List Tf):Wh acc (0,[])=(0,acc):=by simp[Wh]
theorem jD: ∀(l:List Tf) (k a:Nat),isT (a:Int) l=true→(putT l).length≤k→Gj k a (putT l)=(0,l)
 |[],k,a,_,_=>Wi k a
 |f::l,k,a,h,hk=>by
  simp only[isT,Bool.and_eq_true]at h
  obtain⟨h1,h2,h3⟩:=(Ca _ _ _).1 h.1
  have ht:((f.tag.toNat:Nat):Int)=f.tag:=by omega
  simp only[putT,List.length_cons,List.length_append]at hk
  obtain⟨j,rfl⟩: ∃j,k=j+1:=⟨k - 1,by omega⟩
  have hi:=jD l j f.tag.toNat (by rw[ht];exact h.2) (by omega)
  rw[putT,Gj,if_neg (by omega),if_neg (by rw[List.length_append];omega),List.drop_left,List.take_left,hi,ht]
  simp
theorem Aap {l:List Tf} (h:isT 0 l=true):gotT (putT l)=(0,l):=jD l _ 0 (by simpa using h) (Nat.le_refl _)
theorem jE: ∀(k a:Nat) (b:List Nat) (l:List Tf),b.length≤k→(∀x∈b,x<256)→Gj k a b=(0,l)→isT (a:Int) l=true∧putT l=b
 |0,a,b,l,hb,_,h=>by
  obtain rfl:b=[]:=List.eq_nil_of_length_eq_zero (by omega)
  rw[Gj]at h
  cases h
  exact⟨rfl,rfl⟩
 |k+1,a,[],l,_,_,h=>by
  rw[Gj]at h
  cases h
  exact⟨rfl,rfl⟩
 |k+1,a,[x],l,_,_,h=>by
  rw[Gj]at h
  cases h
 |k+1,a,t::n::r,l,hb,hx,h=>by
  rw[Gj]at h
  by_cases h1:t≤a
  ·rw[if_pos h1]at h;cases h
  ·rw[if_neg h1]at h
   by_cases h2:r.length<n
   ·rw[if_pos h2]at h;cases h
   ·rw[if_neg h2]at h
    obtain⟨e1,e2⟩:=Prod.mk.inj h
    rw[if_pos e1]at e2
    have hr: ∀x∈r.drop n,x<256:=fun x hm=>hx x (by simp[List.mem_of_mem_drop hm])
    simp only[List.length_cons]at hb
    obtain⟨i1,i2⟩:=jE k t (r.drop n) (Gj k t (r.drop n)).2 (by rw[List.length_drop];omega) hr (by rw[←e1])
    have ht:=hx t (by simp)
    have hn:=hx n (by simp)
    subst e2
    have hl:(r.take n).length=n:=by rw[List.length_take];omega
    refine⟨?_, ?_⟩
    ·simp only[isT,Bool.and_eq_true]
     exact⟨(Ca _ _ _).2 ⟨by omega,by omega,by rw[hl];omega⟩,i1⟩
    ·simp only[putT]
     rw[i2,hl,List.take_append_drop]
     simp
theorem jF {b:List Nat} {l:List Tf} (hb: ∀x∈b,x<256) (h:gotT b=(0,l)):isT 0 l=true∧putT l=b:=by simpa using jE _ 0 b l (Nat.le_refl _) hb h
def Ia:Nat→Nat→Nat
 |0,_=>0
 |k+1,n=>if n=0 then 0 else Ia k (n / 256)+1
def En (n:Nat):Nat:=Ia 8 n
theorem Wk: ∀(k n:Nat),n<256^k→Ia k n≤k∧n<256^Ia k n∧(n≠0→256^(Ia k n - 1)≤n∧1≤Ia k n)
 |0,n,h=>by
  have:n=0:=by simpa using h
  subst this
  exact⟨Nat.le_refl _,by simp[Ia],fun h=>absurd rfl h⟩
 |k+1,n,h=>by
  by_cases e:n=0
  ·subst e
   simp[Ia]
  ·have hd:n / 256<256^k:=by
    rw[Nat.div_lt_iff_lt_mul (by omega), ←Nat.pow_succ];exact h
   obtain⟨h1,h2,h3⟩:=Wk k (n / 256) hd
   have es:Ia (k+1) n=Ia k (n / 256)+1:=by rw[Ia,if_neg e]
   rw[es]
   refine⟨by omega, ?_,fun _=>⟨?_,by omega⟩⟩
   ·rw[Nat.pow_succ]
    rwa[Nat.div_lt_iff_lt_mul (by omega)]at h2
   ·rw[Nat.add_sub_cancel]
    by_cases e2:n / 256=0
    ·have es2:Ia k (n / 256)=0:=by rw[e2];cases k<;>simp[Ia]
     rw[es2];omega
    ·obtain⟨g1,g2⟩:=h3 e2
     obtain⟨j,hj⟩: ∃j,Ia k (n / 256)=j+1:=⟨Ia k (n / 256) - 1,by omega⟩
     rw[hj,Nat.add_sub_cancel]at g1
     rw[hj,Nat.pow_succ]
     calc 256^j*256≤n / 256*256:=Nat.mul_le_mul_right _ g1
      _≤n:=Nat.div_mul_le_self _ _
theorem Ja {n:Nat} (h:n<9223372036854775808):En n≤8∧n<256^En n∧(n≠0→256^(En n - 1)≤n∧1≤En n):=Wk 8 n (by omega)
theorem Wl {n k:Nat} (h:n<9223372036854775808) (h1:n<256^k) (h2: ∀j,j<k→256^j≤n):En n=k:=by
 obtain⟨_,s2,s3⟩:=Ja h
 rcases Nat.lt_trichotomy (En n) k with h4|h4|h4
 ·have:=h2 _ h4
  omega
 ·exact h4
 ·have hn:n≠0:=by
   intro e
   subst e
   simp[En,Ia]at h4
  have h5:=(s3 hn).1
  have h6:256^k≤256^(En n - 1):=Nat.pow_le_pow_right (by omega) (by omega)
  omega
def numB (n:Nat):List Nat:=putB n (En n)
theorem Kj (n:Nat):(numB n).length=En n:=De _ _
theorem dX (n:Nat): ∀x∈numB n,x<256:=sW _ _
def Ib (b:List Nat):Nat × Nat:=if b.length=0∨7<b.length∨b.getD 0 0=0 then(0,14)else(valB b,0)
theorem dY {b:List Nat} (h1:1≤b.length) (h2:b.length≤7) (h3:b.getD 0 0≠0):Ib b=(valB b,0):=by rw[Ib,if_neg];omega
theorem Jb {b:List Nat} (h:b.length=0∨7<b.length∨b.getD 0 0=0):Ib b=(0,14):=by rw[Ib,if_pos h]
theorem uR (n k:Nat) (h:1≤k):(putB n k).getD 0 0=n / 256^(k - 1) % 256:=by
 obtain⟨j,rfl⟩: ∃j,k=j+1:=⟨k - 1,by omega⟩
 rfl
theorem Aaq {n:Nat} (h:n<9223372036854775808) (h0:n≠0) (h7:En n≤7):Ib (numB n)=(n,0):=by
 obtain⟨_,s2,s3⟩:=Ja h
 obtain⟨s4,s5⟩:=s3 h0
 have hh:(numB n).getD 0 0≠0:=by
  rw[numB,uR n _ s5]
  have hd:1≤n / 256^(En n - 1):=(Nat.le_div_iff_mul_le (Nat.pow_pos (by omega))).2 (by omega)
  have hl:n / 256^(En n - 1)<256:=by
   rw[Nat.div_lt_iff_lt_mul (Nat.pow_pos (by omega)),Nat.mul_comm, ←Nat.pow_succ,show(En n - 1).succ=En n by omega]
   exact s2
  omega
 rw[dY (by rw[Kj];exact s5) (by rw[Kj];exact h7) hh,numB,xP,Nat.mod_eq_of_lt s2]
theorem aJ: ∀(b:List Nat),(∀x∈b,x<256)→ ∀m,putB (m*256^b.length+valB b) b.length=b
 |[],_,_=>rfl
 |x::b,h,m=>by
  have hx:=h x (by simp)
  have hb:=Gx b (fun y hy=>h y (by simp[hy]))
  have hi:=aJ b (fun y hy=>h y (by simp[hy])) (m*256+x)
  have hp:0<256^b.length:=Nat.pow_pos (by omega)
  have e:m*256^(b.length+1)+(x*256^b.length+valB b)=(m*256+x)*256^b.length+valB b:=by
   rw[Nat.pow_succ,Nat.add_mul,Nat.mul_assoc,Nat.mul_comm 256,Nat.add_assoc]
  rw[List.length_cons,putB,Kv,e,hi]
  congr 1
  rw[Nat.add_comm,Nat.add_mul_div_right _ _ hp,Nat.div_eq_of_lt hb,Nat.zero_add]
  omega
theorem Aar {b:List Nat} {v:Nat} (hb: ∀x∈b,x<256) (h:Ib b=(v,0)):0<v∧v<72057594037927936∧numB v=b:=by
 by_cases hc:b.length=0∨7<b.length∨b.getD 0 0=0
 ·rw[Jb hc]at h;cases h
 ·rw[Ib,if_neg hc]at h
  obtain⟨rfl,_⟩:=Prod.mk.inj h
  have h7:b.length≤7:=by omega
  have hlt:=Gx b hb
  have h2:256^b.length≤256^7:=Nat.pow_le_pow_right (by omega) h7
  cases b with
  |nil=>simp at hc
  |cons x b=>
   have hx:1≤x:=by simp at hc;omega
   have hge:256^b.length≤valB (x::b):=by
    rw[Kv]
    have:=Nat.mul_le_mul_right (256^b.length) hx
    omega
   have hpos:0<256^b.length:=Nat.pow_pos (by omega)
   have hs:En (valB (x::b))=(x::b).length:=by
    refine Wl (by omega) hlt fun j hj=> ?_
    rw[List.length_cons]at hj
    exact Nat.le_trans (Nat.pow_le_pow_right (by omega) (by omega)) hge
   refine⟨by omega,by omega, ?_⟩
   have:=aJ (x::b) hb 0
   rw[Nat.zero_mul,Nat.zero_add]at this
   rw[numB,hs,this]
end Go.Proofs.YtmdbfogjfbbpjaaGreatDoor
