import Derived.Test.YtmdbfogjfbbpjaaGreatDoorTrackBackMath
import Derived.Test.YtmdbfogjfbbpjaaGreatDoorLineMath
set_option maxRecDepth 100000
set_option linter.unusedVariables false
namespace Go.Proofs.YtmdbfogjfbbpjaaGreatDoor
def Bj (t:Int):Int:=if t<1∨13<t then 0 else if t=8 then 2 else if t=9 then 3 else 1
def okN (t:Int):Bool:=decide (1≤t)&&decide (t≤13)
def numL (r:Rg):List Int:=[r.ver,r.key,r.t.kind,r.t.ser,r.t.frm,r.t.till,r.t.cls,r.t.card,r.t.seat,r.t.day,r.t.days,r.t.uses,r.t.epoch]
def rdL (a:List Int):Rg:=⟨⟨a.getD 3 0,a.getD 2 0,a.getD 4 0,a.getD 5 0,a.getD 6 0,a.getD 7 0,a.getD 8 0,a.getD 9 0,a.getD 10 0,a.getD 11 0,a.getD 12 0⟩,a.getD 1 0,0,0,a.getD 0 0⟩
def cutU (r:Rg):Rg:=if r.t.kind=4 then r else { r with t:= { r.t with uses:=0 } }
def Fh (r:Rg):Rg:=if r.t.kind=4 then r else { r with t:= { r.t with uses:=r.t.kind.tmod 3 } }
def tagsF:Nat→List Int→List Nat
 |_,[]=>[]
 |k,x::l=>(if x=0 then []else [k])++tagsF (k+1) l
def fldF:Nat→List Int→List Tf
 |_,[]=>[]
 |k,x::l=>(if x=0 then []else [⟨k,numB x.toNat⟩])++fldF (k+1) l
def He (v:Int) (ts:List Nat):Bool:=ts.all fun t=>decide (Bj t≤v)
def Om (r:Rg):Bool:=okT r.t&&(decide (0≤r.key)&&(decide (r.key≤99)&&((r.left==0)&&((r.inn==0)&&(decide (1≤r.ver)&&decide (r.ver≤3))))))
theorem Ez (r:Rg):Om r=true↔okT r.t=true∧0≤r.key∧r.key≤99∧r.left=0∧r.inn=0∧1≤r.ver∧r.ver≤3:=by simp[Om]
def Ci (r:Rg):Nat × List Tf:=if Om r=false then(1,[])else if He r.ver (tagsF 1 (numL (cutU r)))=false then(18,[])else(0,fldF 1 (numL (cutU r)))
def fdFill:List Int→List Tf→Nat × List Int
 |a,[]=>(0,a)
 |a,f::l=>if 128≤f.tag then(16,a)else if 13<f.tag then(15,a)else if(Ib f.val).2≠0 then((Ib f.val).2,a)else fdFill (a.set (f.tag.toNat - 1) ((Ib f.val).1:Nat)) l
def z13:List Int:=[0,0,0,0,0,0,0,0,0,0,0,0,0]
def Jm (a:List Int):Bool:=decide (1≤a.getD 0 0)&&(decide (a.getD 0 0≤3)&&He (a.getD 0 0) (tagsF 1 a))
def Dp (r:Rg):Bool:=((r.t.kind==4)||(r.t.uses==0))&&(decide (r.key≤99)&&okT (Fh r).t)
def Pm (a:List Int):Nat × Rg:=if Jm a=false then(12,Ah)else if Dp (rdL a)=false then(9,Ah)else(0,Fh (rdL a))
def Br (l:List Tf):Nat × Rg:=if isT 0 l=false then(1,Ah)else if(fdFill z13 l).1≠0 then((fdFill z13 l).1,Ah)else Pm (fdFill z13 l).2
theorem oI (l:List Int) (x:Int): ∀k,tagsF k (l++ [x])=tagsF k l++(if x=0 then []else [k+l.length]):=by
 induction l with
 |nil=>intro k;simp[tagsF]
 |cons y l ih=>intro k;rw[List.cons_append,tagsF,tagsF,ih,List.append_assoc,List.length_cons,show k+1+l.length=k+(l.length+1) by omega]
theorem vF (l:List Int) (x:Int): ∀k,fldF k (l++ [x])=fldF k l++(if x=0 then []else [⟨((k+l.length:Nat):Int),numB x.toNat⟩]):=by
 induction l with
 |nil=>intro k;simp[fldF]
 |cons y l ih=>intro k;rw[List.cons_append,fldF,fldF,ih,List.append_assoc,List.length_cons,show k+1+l.length=k+(l.length+1) by omega]
theorem Wo (l:List Int) (k:Nat) (h:k<l.length):l.take (k+1)=l.take k++ [l.getD k 0]:=by
 rw[List.take_succ_eq_append_getElem h,List.getD_eq_getElem?_getD,List.getElem?_eq_getElem h];rfl
theorem Wp (a:List Int) (j:Nat) (h:j<a.length):tagsF 1 (a.take (j+1))=tagsF 1 (a.take j)++(if a.getD j 0=0 then []else [j+1]):=by
 rw[Wo a j h,oI,List.length_take,Nat.min_eq_left (by omega),Nat.add_comm 1 j]
theorem vG (a:List Int) (j:Nat) (h:j<a.length):fldF 1 (a.take (j+1))=fldF 1 (a.take j)++(if a.getD j 0=0 then []else [⟨((j+1:Nat):Int),numB (a.getD j 0).toNat⟩]):=by
 rw[Wo a j h,vF,List.length_take,Nat.min_eq_left (by omega),Nat.add_comm 1 j]
theorem Su: ∀(s:List Int) (k t:Nat),t∈tagsF k s→k≤t∧t<k+s.length∧s.getD (t - k) 0≠0
 |[],k,t,h=>by simp[tagsF]at h
 |x::s,k,t,h=>by
  rw[tagsF,List.mem_append]at h
  rcases h with h|h
  ·by_cases h0:x=0
   ·rw[if_pos h0]at h;simp at h
   ·rw[if_neg h0]at h
    simp at h
    subst h
    simp[h0]
  ·obtain⟨h1,h2,h3⟩:=Su s (k+1) t h
   refine⟨by omega,by simp;omega, ?_⟩
   rw[show t - k=(t - (k+1))+1 by omega,List.getD_cons_succ]
   exact h3
theorem aR: ∀(s:List Int) (k i:Nat),i<s.length→s.getD i 0≠0→k+i∈tagsF k s
 |[],k,i,h,_=>by simp at h
 |x::s,k,0,h,h0=>by
  rw[tagsF,List.mem_append,if_neg (by simpa using h0)]
  exact .inl (by simp)
 |x::s,k,i+1,h,h0=>by
  rw[tagsF,List.mem_append]
  refine .inr ?_
  rw[show k+(i+1)=k+1+i by omega]
  exact aR s (k+1) i (by simpa using h) (by rwa[List.getD_cons_succ]at h0)
theorem Nv: ∀(s:List Int) (k:Nat),(tagsF k s).length≤s.length
 |[],k=>by simp[tagsF]
 |x::s,k=>by
  have:=Nv s (k+1)
  rw[tagsF,List.length_append,List.length_cons]
  split<;>simp<;>omega
theorem Wq: ∀(s:List Int) (k:Nat),(fldF k s).length=(tagsF k s).length
 |[],k=>rfl
 |x::s,k=>by
  rw[tagsF,fldF,List.length_append,List.length_append,Wq s (k+1)]
  split<;>rfl
def jP (a:List Int) (ts:List Nat):List Tf:=ts.map fun t=>⟨(t:Nat),numB (a.getD (t - 1) 0).toNat⟩
theorem vH (s:List Int): ∀(p:List Int),jP (p++s) (tagsF (p.length+1) s)=fldF (p.length+1) s:=by
 induction s with
 |nil=>intro p;rfl
 |cons x s ih=>
  intro p
  have hi:=ih (p++ [x])
  rw[List.append_assoc,List.length_append]at hi
  rw[tagsF,fldF,jP,List.map_append]
  congr 1
  by_cases h0:x=0
  ·rw[if_pos h0,if_pos h0];rfl
  ·rw[if_neg h0,if_neg h0]
   simp
theorem Aa3 (a:List Int):jP a (tagsF 1 a)=fldF 1 a:=vH a []
theorem vI (a:List Int) (ts:List Nat) (j t:Nat) (h:ts[j]?=some t):jP a (ts.take (j+1))=jP a (ts.take j)++ [⟨(t:Nat),numB (a.getD (t - 1) 0).toNat⟩]:=by
 have hj:j<ts.length:=(List.getElem?_eq_some_iff.1 h).1
 have e:ts[j]=t:=(List.getElem?_eq_some_iff.1 h).2
 rw[jP,List.take_succ_eq_append_getElem hj,List.map_append,e]
 rfl
theorem Pn: ∀(g k:Nat) (s:List Int),fldF k (List.replicate g 0++s)=fldF (k+g) s
 |0,k,s=>by simp
 |g+1,k,s=>by
  rw[List.replicate_succ,List.cons_append,fldF,if_pos rfl,List.nil_append,Pn g (k+1) s,show k+1+g=k+(g+1) by omega]
def oJ (x:Int):Prop:=0≤x∧x<72057594037927936
theorem eC {n:Nat} (h:n<72057594037927936):En n≤7:=by
 obtain⟨h1,_,h3⟩:=Ja (n:=n) (by omega)
 rcases Nat.lt_or_ge (En n) 8 with h4|h4
 ·omega
 ·by_cases h0:n=0
  ·subst h0
   simp[En,Ia]at h4
  ·have h5:=(h3 h0).1
   have:En n=8:=by omega
   rw[this]at h5
   omega
theorem Adg {x:Int} (h:oJ x) (h0:x≠0):Ib (numB x.toNat)=(x.toNat,0):=by
 obtain⟨h1,h2⟩:=h
 exact Aaq (by omega) (by omega) (eC (by omega))
theorem jQ (p:List Int) (n:Nat) (x:Int):(p++List.replicate (n+1) 0).set p.length x=(p++ [x])++List.replicate n 0:=by
 induction p with
 |nil=>simp[List.replicate_succ]
 |cons y p ih=>rw[List.cons_append,List.length_cons,List.set_cons_succ,ih];simp
theorem jR: ∀(s p:List Int),p.length+s.length=13→(∀x∈s,oJ x)→fdFill (p++List.replicate s.length 0) (fldF (p.length+1) s)=(0,p++s)
 |[],p,_,_=>by simp[fldF,fdFill]
 |x::s,p,hl,hin=>by
  rw[List.length_cons]at hl
  have hi:=jR s (p++ [x]) (by rw[List.length_append,List.length_singleton];omega) (fun y hy=>hin y (by simp[hy]))
  rw[List.length_append,List.length_singleton,List.append_assoc p [x] s]at hi
  by_cases h0:x=0
  ·rw[fldF,if_pos h0,List.nil_append,List.length_cons,List.replicate_succ]
   rw[h0]at hi⊢
   rw[show p++(0:Int)::List.replicate s.length 0=p++ [0]++List.replicate s.length 0 by simp]
   exact hi
  ·have hx:=hin x (by simp)
   have hv:=Adg hx h0
   rw[fldF,if_neg h0,List.singleton_append,fdFill,if_neg (by show¬(128:Int)≤((p.length+1:Nat):Int);omega),if_neg (by show¬(13:Int)<((p.length+1:Nat):Int);omega),hv,if_neg (by simp),List.length_cons]
   rw[show(((p.length+1:Nat):Int).toNat - 1)=p.length by omega]
   rw[show(((x.toNat,0):Nat × Nat).1:Int)=x by have:=hx.1;simp;omega]
   rw[jQ]
   exact hi
theorem Aa4: ∀(s:List Int) (k:Nat),k+s.length≤255→(∀x∈s,oJ x)→isT (k:Int) (fldF (k+1) s)=true
 |[],k,_,_=>rfl
 |x::s,k,hl,hin=>by
  rw[List.length_cons]at hl
  have hi:=Aa4 s (k+1) (by omega) (fun y hy=>hin y (by simp[hy]))
  by_cases h0:x=0
  ·rw[fldF,if_pos h0,List.nil_append]
   exact Aan (by omega) hi
  ·rw[fldF,if_neg h0,List.singleton_append,isT,Bool.and_eq_true]
   have hx:=hin x (by simp)
   have:=eC (n:=x.toNat) (by have:=hx.2;have:=hx.1;omega)
   exact⟨(Ca _ _ _).2 ⟨by show(k:Int)<((k+1:Nat):Int);omega,by show((k+1:Nat):Int)≤255;omega,by rw[Kj];omega⟩,hi⟩
theorem Adh (p:List Int) (g n:Nat) (x:Int):(p++List.replicate (g+(n+1)) 0).set (p.length+g) x=(p++List.replicate g 0++ [x])++List.replicate n 0:=by
 have h:=jQ (p++List.replicate g 0) n x
 rw[List.length_append,List.length_replicate,List.append_assoc p,List.replicate_append_replicate]at h
 exact h
theorem jS : ∀ (l : List Tf) (p a : List Int), p.length ≤ 13 → isT (p.length : Int) l = true → (∀ f ∈ l, ∀ x ∈ f.val, x < 256) → fdFill (p ++ List.replicate (13 - p.length) 0) l = (0, a) →
    ∃ s, a = p ++ s ∧ s.length = 13 - p.length ∧ l = fldF (p.length + 1) s ∧ ∀ x ∈ s, oJ x
  | [], p, a, hp, _, _, h => by
    rw [fdFill] at h
    cases h
    refine ⟨_, rfl, by simp, ?_, ?_⟩
    · have := Pn (13 - p.length) (p.length + 1) []
      rw [List.append_nil] at this
      rw [this]; rfl
    · intro x hx
      rw [List.eq_of_mem_replicate hx]
      exact ⟨by omega, by omega⟩
  | f :: l, p, a, hp, hi, hb, h => by
    simp only [isT, Bool.and_eq_true] at hi
    obtain ⟨i1, i2, i3⟩ := (Ca _ _ _).1 hi.1
    rw [fdFill] at h
    by_cases h1 : 128 ≤ f.tag
    · rw [if_pos h1] at h; cases h
    rw [if_neg h1] at h
    by_cases h2 : 13 < f.tag
    · rw [if_pos h2] at h; cases h
    rw [if_neg h2] at h
    by_cases h3 : (Ib f.val).2 ≠ 0
    · rw [if_pos h3] at h; exact absurd (Prod.mk.inj h).1 h3
    rw [if_neg h3] at h
    obtain ⟨v, hv⟩ : ∃ v, Ib f.val = (v, 0) := ⟨(Ib f.val).1, by have h4 : (Ib f.val).2 = 0 := by omega
                                                                 rw [← h4]⟩
    rw [hv] at h
    obtain ⟨v1, v2, v3⟩ := Aar (hb f (by simp)) hv
    obtain ⟨t, ht⟩ : ∃ t : Nat, f.tag = (t : Int) := ⟨f.tag.toNat, by omega⟩
    obtain ⟨g, hg⟩ : ∃ g, t = p.length + g + 1 := ⟨t - p.length - 1, by omega⟩
    have hz : 13 - p.length = g + ((13 - t) + 1) := by omega
    rw [ht, Int.toNat_natCast, show t - 1 = p.length + g by omega, hz, Adh] at h
    have hpl : (p ++ List.replicate g 0 ++ [((v : Nat) : Int)]).length = t := by simp; omega
    have hr := jS l (p ++ List.replicate g 0 ++ [((v : Nat) : Int)]) a (by omega) (by rw [hpl, ← ht]; exact hi.2) (fun q hq => hb q (by simp [hq])) (by rw [hpl]; exact h)
    rw [hpl] at hr
    obtain ⟨s, e1, e2, e3, e4⟩ := hr
    refine ⟨List.replicate g 0 ++ ((v : Nat) : Int) :: s, by rw [e1]; simp, by simp; omega, ?_, ?_⟩
    · rw [Pn, fldF, if_neg (by omega), List.singleton_append]
      have : p.length + 1 + g = t := by omega
      rw [this, ← e3, Int.toNat_natCast, v3, ← ht]
    · intro x hx
      rw [List.mem_append, List.mem_cons] at hx
      rcases hx with hx | rfl | hx
      · rw [List.eq_of_mem_replicate hx]; exact ⟨by omega, by omega⟩
      · exact ⟨by omega, by omega⟩
      · exact e4 x hx
theorem eD {a:List Int} (h:a.length=13):a=numL (rdL a):=by
 match a,h with
 |[a0,a1,a2,a3,a4,a5,a6,a7,a8,a9,a10,a11,a12],_=>rfl
theorem Adi (r:Rg) (h1:r.left=0) (h2:r.inn=0):rdL (numL r)=r:=by
 obtain⟨⟨a0,a1,a2,a3,a4,a5,a6,a7,a8,a9,a10⟩,a11,a12,a13,a14⟩:=r
 simp only at h1 h2
 subst h1 h2
 rfl
theorem Dq (r:Rg):(numL r).length=13:=rfl
theorem Aa5 {n:Int} (h:isN n=true):0≤n∧n≤1000:=by
 simp[isN]at h
 omega
theorem eF {r:Rg} (h:Om r=true): ∀x∈numL (cutU r),0≤x∧x≤1099511627776:=by
 obtain⟨h1,h2,h3,h4,h5,h6,h7⟩:=(Ez r).1 h
 have hn:=(Dc r.t).1 ((Dm r.t).1 h1).1
 have hd:=(Ir r.t).1 ((Dm r.t).1 h1).2.1
 have hu:=fT h1
 have hp:(0≤r.t.frm∧r.t.frm≤1000)∧(0≤r.t.till∧r.t.till≤1000):=by
  by_cases hk:r.t.kind=3
  ·have:=AbJ h1 hk
   omega
  ·obtain⟨w1,w2,_⟩:=Afu h1 hk
   exact⟨Aa5 w1,Aa5 w2⟩
 intro x hx
 unfold cutU at hx
 by_cases hk:r.t.kind=4
 ·rw[if_pos hk]at hx
  have:=hu.1 hk
  simp only[numL,List.mem_cons,List.not_mem_nil,or_false]at hx
  omega
 ·rw[if_neg hk]at hx
  simp only[numL,List.mem_cons,List.not_mem_nil,or_false]at hx
  omega
theorem eG (r:Rg):(cutU r).ver=r.ver:=by unfold cutU;split<;>rfl
theorem Aa6 (r:Rg):(cutU r).left=r.left:=by unfold cutU;split<;>rfl
theorem Adj (r:Rg):(cutU r).inn=r.inn:=by unfold cutU;split<;>rfl
theorem Adk (r:Rg):(cutU r).key=r.key:=by unfold cutU;split<;>rfl
theorem jT (r:Rg):(cutU r).t.kind=r.t.kind:=by unfold cutU;split<;>rfl
theorem Uy (r:Rg):(Fh r).ver=r.ver:=by unfold Fh;split<;>rfl
theorem Qv (r:Rg):(Fh r).left=r.left:=by unfold Fh;split<;>rfl
theorem Uz (r:Rg):(Fh r).inn=r.inn:=by unfold Fh;split<;>rfl
theorem Qw (r:Rg):(Fh r).key=r.key:=by unfold Fh;split<;>rfl
theorem Kn (r:Rg):(Fh r).t.kind=r.t.kind:=by unfold Fh;split<;>rfl
theorem rY {r:Rg} (h:okT r.t=true):Fh (cutU r)=r:=by
 have hu:=fT h
 unfold Fh
 rw[jT]
 unfold cutU
 by_cases hk:r.t.kind=4
 ·rw[if_pos hk,if_pos hk]
 ·rw[if_neg hk,if_neg hk]
  have:=hu.2 hk
  obtain⟨⟨a0,a1,a2,a3,a4,a5,a6,a7,a8,a9,a10⟩,a11,a12,a13,a14⟩:=r
  simp only at this⊢
  rw[this]
theorem Adl {r:Rg} (h:r.t.kind=4∨r.t.uses=0):cutU (Fh r)=r:=by
 unfold cutU
 rw[Kn]
 unfold Fh
 by_cases hk:r.t.kind=4
 ·rw[if_pos hk,if_pos hk]
 ·rw[if_neg hk,if_neg hk]
  have hu:r.t.uses=0:=by omega
  obtain⟨⟨a0,a1,a2,a3,a4,a5,a6,a7,a8,a9,a10⟩,a11,a12,a13,a14⟩:=r
  simp only at hu⊢
  rw[hu]
theorem Aa7 (r:Rg):(cutU r).t.kind=4∨(cutU r).t.uses=0:=by
 rw[jT]
 unfold cutU
 by_cases hk:r.t.kind=4
 ·exact .inl hk
 ·rw[if_neg hk];exact .inr rfl
theorem Nw {r:Rg} (h:Om r=false):Ci r=(1,[]):=by rw[Ci,if_pos h]
theorem Sv {r:Rg} (h:Om r=true) (h2:He r.ver (tagsF 1 (numL (cutU r)))=false):Ci r=(18,[]):=by rw[Ci,if_neg (by rw[h];decide),if_pos h2]
theorem Qx {r:Rg} (h:Om r=true) (h2:He r.ver (tagsF 1 (numL (cutU r)))=true):Ci r=(0,fldF 1 (numL (cutU r))):=by rw[Ci,if_neg (by rw[h];decide),if_neg (by rw[h2];decide)]
theorem Lj {r:Rg} {l:List Tf} (h:Ci r=(0,l)):Om r=true∧He r.ver (tagsF 1 (numL (cutU r)))=true∧l=fldF 1 (numL (cutU r)):=by
 cases h1:Om r with
 |false=>rw[Nw h1]at h;cases h
 |true=>
  cases h2:He r.ver (tagsF 1 (numL (cutU r)))with
  |false=>rw[Sv h1 h2]at h;cases h
  |true=>rw[Qx h1 h2]at h;exact⟨rfl,rfl,((Prod.mk.inj h).2).symm⟩
theorem Aa8 (l:List Tf):fdFill z13 l=fdFill ([]++List.replicate (13 - ([]:List Int).length) 0) l:=rfl
theorem Va {r:Rg} {l:List Tf} (h:Ci r=(0,l)):isT 0 l=true∧Br l=(0,r)∧l.length≤13:=by
 obtain⟨h1,h2,h3⟩:=Lj h
 obtain⟨a1,a2,a3,a4,a5,a6,a7⟩:=(Ez r).1 h1
 have hin: ∀x∈numL (cutU r),oJ x:=fun x hx=>by have:=eF h1 x hx;exact⟨this.1,by omega⟩
 have hi:isT 0 l=true:=by rw[h3];exact Aa4 (numL (cutU r)) 0 (by rw[Dq];omega) hin
 have hf:fdFill z13 l=(0,numL (cutU r)):=by rw[h3];exact jR (numL (cutU r)) [] (by rw[Dq];rfl) hin
 have hr:rdL (numL (cutU r))=cutU r:=Adi _ (by rw[Aa6];exact a4) (by rw[Adj];exact a5)
 have hv:(numL (cutU r)).getD 0 0=r.ver:=eG r
 refine⟨hi, ?_,by rw[h3,Wq];exact Nat.le_trans (Nv _ _) (by rw[Dq];omega)⟩
 rw[Br,if_neg (by rw[hi];decide),hf,if_neg (by simp),Pm]
 have e1:Jm (numL (cutU r))=true:=by rw[Jm,hv,h2];simp;omega
 have e2:Dp (rdL (numL (cutU r)))=true:=by
  rw[hr,Dp,rY a1,a1,Adk]
  have:=Aa7 r
  simp
  exact⟨this,a3⟩
 simp only[e1,e2,Bool.true_eq_false,if_false]
 rw[hr,rY a1]
theorem oK {l : List Tf} {r : Rg} (h : Br l = (0, r)) : isT 0 l = true ∧ ∃ a, fdFill z13 l = (0, a) ∧ Jm a = true ∧ Dp (rdL a) = true ∧ r = Fh (rdL a) := by
  cases h1 : isT 0 l with
  | false => rw [Br, if_pos h1] at h; cases h
  | true =>
    rw [Br, if_neg (by rw [h1]; decide)] at h
    by_cases h2 : (fdFill z13 l).1 ≠ 0
    · rw [if_pos h2] at h; exact absurd (Prod.mk.inj h).1 h2
    · rw [if_neg h2] at h
      refine ⟨rfl, (fdFill z13 l).2, by have : (fdFill z13 l).1 = 0 := by omega
                                        rw [← this], ?_⟩
      generalize (fdFill z13 l).2 = a at h
      rw [Pm] at h
      cases h3 : Jm a with
      | false => rw [if_pos h3] at h; cases h
      | true =>
        rw [if_neg (by rw [h3]; decide)] at h
        cases h4 : Dp (rdL a) with
        | false => rw [if_pos h4] at h; cases h
        | true =>
          rw [if_neg (by rw [h4]; decide)] at h
          exact ⟨rfl, rfl, ((Prod.mk.inj h).2).symm⟩
theorem rZ {l:List Tf} {r:Rg} (hb: ∀f∈l, ∀x∈f.val,x<256) (h:Br l=(0,r)):Ci r=(0,l)∧okT r.t=true:=by
 obtain⟨h1,a,h2,h3,h4,h5⟩:=oK h
 rw[Aa8]at h2
 obtain⟨s,e1,e2,e3,e4⟩:=jS l [] a (by decide) h1 hb h2
 rw[List.nil_append]at e1
 subst e1
 have hl:a.length=13:=e2
 have ha:=eD hl
 simp[Dp]at h4
 obtain⟨k1,k2,k3⟩:=h4
 have hc:cutU r=rdL a:=by rw[h5];exact Adl k1
 have hn:numL (cutU r)=a:=by rw[hc];exact ha.symm
 have hv:r.ver=a.getD 0 0:=by rw[h5,Uy];rfl
 have ho:okT r.t=true:=by rw[h5];exact k3
 simp[Jm]at h3
 obtain⟨v1,v2,v3⟩:=h3
 have hk:oJ (rdL a).key:=e4 _ (by rw[ha];exact List.mem_of_getElem? (i:=1) rfl)
 refine⟨?_,ho⟩
 rw[Qx ((Ez r).2 ⟨ho,by rw[h5,Qw];exact hk.1,by rw[h5,Qw];exact k2,by rw[h5,Qv];rfl,by rw[h5,Uz];rfl,by rw[hv];simpa using v1,by rw[hv];simpa using v2⟩) (by rw[hn,hv];simpa using v3),hn]
 rw[show fldF 1 a=l from e3.symm]
def aT:List Nat:=[48,49,50,51,52,53,54,55,56,57,65,66,67,68,69,70,71,72,73,74,75,76,77,78,79,80,81,82,83,84,85,86,87,88,89,90,32,36,37,42,43,45,46,47,58]
def sg (n:Nat):Nat:=aT.getD n 0
def Wr:List Nat→Nat→Nat
 |[],_=>0
 |x::l,c=>if x=c then 0 else Wr l c+1
def vl (c:Nat):Nat:=Wr aT c
theorem AeM: ∀n,n<46→sg n<256:=by decide
theorem Ud: ∀n,n<45→vl (sg n)=n:=by decide
theorem AeN {n:Nat} (h:45≤n):sg n=0:=by unfold sg;rw[List.getD_eq_getElem?_getD,List.getElem?_eq_none h];rfl
theorem sA (n:Nat):sg n<256:=by
 rcases Nat.lt_or_ge n 46 with h|h
 ·exact AeM n h
 ·rw[AeN (by omega)];omega
theorem sB: ∀(l:List Nat) (c:Nat),Wr l c≤l.length
 |[],_=>Nat.le_refl _
 |x::l,c=>by
  rw[Wr,List.length_cons]
  have:=sB l c
  split<;>omega
theorem Ws (c:Nat):vl c≤45:=sB aT c
theorem sC: ∀(l:List Nat) (c:Nat),Wr l c<l.length→l[Wr l c]?=some c
 |[],c,h=>by simp[Wr]at h
 |x::l,c,h=>by
  rw[Wr]at h⊢
  by_cases e:x=c
  ·rw[if_pos e,e];rfl
  ·rw[if_neg e]at h⊢
   rw[List.getElem?_cons_succ]
   exact sC l c (by rw[List.length_cons]at h;omega)
theorem Ue: ∀(l:List Nat) (c i:Nat),i<Wr l c→l[i]?≠some c
 |[],c,i,h=>by simp[Wr]at h
 |x::l,c,i,h=>by
  rw[Wr]at h
  by_cases e:x=c
  ·rw[if_pos e]at h;omega
  ·rw[if_neg e]at h
   cases i with
   |zero=>simpa using e
   |succ i=>rw[List.getElem?_cons_succ];exact Ue l c i (by omega)
theorem Uf {c:Nat} (h:vl c<45):sg (vl c)=c:=by
 have:=sC aT c h
 unfold sg vl
 rw[List.getD_eq_getElem?_getD,this];rfl
theorem Aa9 {c i:Nat} (hi:i<45) (hb:i≤vl c) (h:sg i=c):vl c=i:=by
 rcases Nat.lt_or_ge i (vl c)with h1|h1
 ·exact absurd (by unfold sg at h;rw[List.getD_eq_getElem?_getD]at h;rw[List.getElem?_eq_getElem (show i<aT.length from hi)]at h⊢;exact congrArg some h) (Ue aT c i h1)
 ·omega
theorem Adm {c i : Nat} (hi : i < 45) (hb : i ≤ vl c) (h : sg i ≠ c) : i + 1 ≤ vl c := by
  rcases Nat.lt_or_ge i (vl c) with h1 | h1
  · omega
  · exact absurd (by have : vl c = i := by omega
                     rw [← this]; exact Uf (by omega)) h
def put3 (n:Nat):List Nat:=[sg (n % 45),sg (n / 45 % 45),sg (n / 2025)]
def put2 (n:Nat):List Nat:=[sg (n % 45),sg (n / 45)]
def Lk:List Nat→List Nat
 |[a,b]=>put3 (a*256+b)
 |[a]=>put2 a
 |_=>[]
def putF:List Nat→List Nat
 |a::b::r=>put3 (a*256+b)++putF r
 |[a]=>put2 a
 |[]=>[]
theorem jU (n:Nat):(put3 n).length=3:=rfl
theorem Adn (n:Nat): ∀x∈put3 n,x<256:=by
 intro x hx
 simp only[put3,List.mem_cons,List.not_mem_nil,or_false]at hx
 rcases hx with rfl|rfl|rfl<;>exact sA _
theorem Ado (n:Nat): ∀x∈put2 n,x<256:=by
 intro x hx
 simp only[put2,List.mem_cons,List.not_mem_nil,or_false]at hx
 rcases hx with rfl|rfl<;>exact sA _
theorem Vb: ∀(l:List Nat), ∀x∈putF l,x<256
 |[],x,hx=>by simp[putF]at hx
 |[a],x,hx=>Ado a x hx
 |a::b::r,x,hx=>by
  rw[putF,List.mem_append]at hx
  exact hx.elim (Adn _ x) (Vb r x)
theorem Qy: ∀(l:List Nat),(putF l).length=l.length / 2*3+l.length % 2*2
 |[]=>rfl
 |[a]=>by simp[putF,put2]
 |a::b::r=>by
  rw[putF,List.length_append,jU,Qy r,List.length_cons,List.length_cons]
  omega
theorem Mt: ∀(a b:List Nat),a.length % 2=0→putF (a++b)=putF a++putF b
 |[],b,_=>rfl
 |[x],b,h=>by simp at h
 |x::y::r,b,h=>by
  rw[List.cons_append,List.cons_append,putF,putF,List.append_assoc,Mt r b (by simp only[List.length_cons]at h;omega)]
def Ee (c:Nat):Bool:=decide (vl c<45)
def eH (x y:Nat):Nat:=vl x+45*vl y
def Po (x y z:Nat):Nat:=vl x+45*vl y+2025*vl z
def Ck:List Nat→Nat × List Nat
 |[x,y]=>if(Ee x&&Ee y)=false then(7,[])else if 255<eH x y then(23,[])else(0,[eH x y])
 |[x,y,z]=>if(Ee x&&Ee y&&Ee z)=false then(7,[])else if 65535<Po x y z then(23,[])else(0,[Po x y z / 256,Po x y z % 256])
 |_=>(0,[])
def Jd (p q:Nat × List Nat):Nat × List Nat:=if p.1≠0 then(p.1,[])else if q.1≠0 then(q.1,[])else(0,p.2++q.2)
def Cv:List Nat→Nat × List Nat
 |x::y::z::r=>Jd (Ck [x,y,z]) (Cv r)
 |[x,y]=>Ck [x,y]
 |[_]=>(0,[])
 |[]=>(0,[])
def fgetX (l:List Nat):Nat × List Nat:=if l.length % 3=1 then(14,[])else Cv l
theorem vJ {p:Nat × List Nat} (h:p.1≠0) (q:Nat × List Nat):Jd p q=(p.1,[]):=by unfold Jd;rw[if_pos h]
theorem jV (p q r:Nat × List Nat):Jd (Jd p q) r=Jd p (Jd q r):=by
 obtain⟨e,l⟩:=p
 obtain⟨f,m⟩:=q
 obtain⟨g,k⟩:=r
 unfold Jd
 by_cases h0:e≠0
 ·simp[h0]
 ·by_cases h1:f≠0
  ·simp[h0,h1]
  ·by_cases h2:g≠0
   ·simp[h0,h1,h2]
   ·simp[h0,h1,h2]
theorem Jv: ∀(a b:List Nat),a.length % 3=0→Cv (a++b)=Jd (Cv a) (Cv b)
  | [],b,_=>by
    rw[List.nil_append,show Cv []=(0,[])from rfl]
    unfold Jd
    obtain⟨e,l⟩: ∃e,e=Cv b:=⟨_,rfl⟩
    rw[←l]
    by_cases h:e.1≠0
    · rw[if_neg (by simp),if_pos h]
      rw[l]at h⊢
      exact getR_nil b h
    · rw[if_neg (by simp),if_neg h]
      simp only[List.nil_append]
      exact Prod.ext (by show e.1=0;omega) rfl
  | [x],b,h=>by simp at h
  | [x,y],b,h=>by simp at h
  | x::y::z::r,b,h=>by
    rw[List.cons_append,List.cons_append,List.cons_append,Cv,Cv,Jv r b (by simp only[List.length_cons]at h;omega),jV]
where getR_nil: ∀(l:List Nat),(Cv l).1≠0→Cv l=((Cv l).1,[])
  | [],h=>rfl
  | [x],h=>rfl
  | [x,y],h=>by
    rw[Cv,Ck]at h⊢
    split at h
    · rename_i e;rw[if_pos e]
    · rename_i e
      rw[if_neg e]
      split at h
      · rename_i e2;rw[if_pos e2]
      · simp at h
  | x::y::z::r,h=>by
    rw[Cv]at h⊢
    unfold Jd at h⊢
    split at h
    · rename_i e;rw[if_pos e]
    · rename_i e
      rw[if_neg e]
      split at h
      · rename_i e2;rw[if_pos e2]
      · simp at h
theorem Wt {n:Nat} (h:n<45):Ee (sg n)=true:=by unfold Ee;rw[Ud n h];simpa using h
theorem vK {a b:Nat} (ha:a<256) (hb:b<256):Ck (put3 (a*256+b))=(0,[a,b]):=by
 obtain⟨n,hn⟩: ∃n,n=a*256+b:=⟨_,rfl⟩
 have h1:n<65536:=by omega
 have e:Po (sg (n % 45)) (sg (n / 45 % 45)) (sg (n / 2025))=n:=by
  unfold Po
  rw[Ud _ (by omega),Ud _ (by omega),Ud _ (by omega)]
  omega
 rw[←hn,put3,Ck,Wt (by omega),Wt (by omega),Wt (by omega),e,if_neg (by simp),if_neg (by omega)]
 have e1:n / 256=a:=by omega
 have e2:n % 256=b:=by omega
 rw[e1,e2]
theorem vL {a:Nat} (ha:a<256):Ck (put2 a)=(0,[a]):=by
 have e:eH (sg (a % 45)) (sg (a / 45))=a:=by
  unfold eH
  rw[Ud _ (by omega),Ud _ (by omega)]
  omega
 rw[put2,Ck,Wt (by omega),Wt (by omega),e,if_neg (by simp),if_neg (by omega)]
theorem aU: ∀(l:List Nat),(∀x∈l,x<256)→Cv (putF l)=(0,l)
 |[],_=>rfl
 |[a],h=>vL (h a (by simp))
 |a::b::r,h=>by
  rw[putF,Jv _ _ (by rw[jU]),aU r (fun x hx=>h x (by simp[hx]))]
  have:Cv (put3 (a*256+b))=(0,[a,b]):=by
   rw[put3,Cv,show Cv []=(0,[])from rfl]
   have:=vK (h a (by simp)) (h b (by simp))
   rw[put3]at this
   rw[this];rfl
  rw[this]
  rfl
theorem vM {l:List Nat} (h: ∀x∈l,x<256):fgetX (putF l)=(0,l):=by
 unfold fgetX
 rw[if_neg (by rw[Qy];omega),aU l h]
theorem Mu {c:Nat} (h:Ee c=true):vl c<45:=of_decide_eq_true h
theorem oL {x y z:Nat} {d:List Nat} (h:Ck [x,y,z]=(0,d)): ∃a b,d=[a,b]∧put3 (a*256+b)=[x,y,z]∧a<256∧b<256:=by
 rw[Ck]at h
 split at h
 ·cases h
 ·rename_i h1
  split at h
  ·cases h
  ·rename_i h2
   have h3:(Ee x&&Ee y&&Ee z)=true:=by cases hh:(Ee x&&Ee y&&Ee z)with|true=>rfl|false=>exact absurd hh h1
   rw[Bool.and_eq_true,Bool.and_eq_true]at h3
   obtain⟨⟨k1,k2⟩,k3⟩:=h3
   have v1:=Mu k1
   have v2:=Mu k2
   have v3:=Mu k3
   have hd:[Po x y z / 256,Po x y z % 256]=d:=(Prod.mk.inj h).2
   refine⟨_,_,hd.symm, ?_,by omega,by omega⟩
   have e:Po x y z / 256*256+Po x y z % 256=Po x y z:=by omega
   rw[e,put3]
   unfold Po
   have e1:(vl x+45*vl y+2025*vl z) % 45=vl x:=by omega
   have e2:(vl x+45*vl y+2025*vl z) / 45 % 45=vl y:=by omega
   have e3:(vl x+45*vl y+2025*vl z) / 2025=vl z:=by omega
   rw[e1,e2,e3,Uf v1,Uf v2,Uf v3]
theorem oM {x y:Nat} {d:List Nat} (h:Ck [x,y]=(0,d)): ∃a,d=[a]∧put2 a=[x,y]∧a<256:=by
 rw[Ck]at h
 split at h
 ·cases h
 ·rename_i h1
  split at h
  ·cases h
  ·rename_i h2
   have h3:(Ee x&&Ee y)=true:=by simpa using h1
   rw[Bool.and_eq_true]at h3
   obtain⟨k1,k2⟩:=h3
   have v1:=Mu k1
   have v2:=Mu k2
   have hd:[eH x y]=d:=(Prod.mk.inj h).2
   refine⟨_,hd.symm, ?_,by omega⟩
   rw[put2]
   unfold eH
   have e1:(vl x+45*vl y) % 45=vl x:=by omega
   have e2:(vl x+45*vl y) / 45=vl y:=by omega
   rw[e1,e2,Uf v1,Uf v2]
theorem oN {p q:Nat × List Nat} {d:List Nat} (h:Jd p q=(0,d)):p.1=0∧q.1=0∧d=p.2++q.2:=by
 unfold Jd at h
 split at h
 ·rename_i h1;exact absurd (Prod.mk.inj h).1 h1
 ·split at h
  ·rename_i h1;exact absurd (Prod.mk.inj h).1 h1
  ·exact⟨by omega,by omega,(Prod.mk.inj h).2.symm⟩
theorem aV: ∀(l d:List Nat),l.length % 3≠1→Cv l=(0,d)→putF d=l∧ ∀x∈d,x<256
 |[],d,_,h=>by
  rw[show d=[]from(Prod.mk.inj h).2.symm]
  exact⟨rfl,by simp⟩
 |[x],d,h1,_=>by simp at h1
 |[x,y],d,_,h=>by
  obtain⟨a,rfl,h2,h3⟩:=oM h
  exact⟨h2,by simpa using h3⟩
 |x::y::z::r,d,h1,h=>by
  rw[Cv]at h
  obtain⟨h2,h3,rfl⟩:=oN h
  obtain⟨a,b,hd,hp,ha,hb⟩:=oL (x:=x) (y:=y) (z:=z) (d:=(Ck [x,y,z]).2) (Prod.ext h2 rfl)
  obtain⟨k1,k2⟩:=aV r (Cv r).2 (by simp only[List.length_cons]at h1;omega) (Prod.ext h3 rfl)
  rw[hd]
  refine⟨?_, ?_⟩
  ·rw[List.cons_append,List.cons_append,List.nil_append,putF,hp,k1];rfl
  ·intro u hu
   simp only[List.cons_append,List.nil_append,List.mem_cons]at hu
   rcases hu with rfl|rfl|hu
   ·exact ha
   ·exact hb
   ·exact k2 u hu
theorem Sw {l d:List Nat} (h:fgetX l=(0,d)):putF d=l∧ ∀x∈d,x<256:=by
 unfold fgetX at h
 split at h
 ·cases h
 ·rename_i h1;exact aV l d h1 h
theorem jW {l d:List Nat} {e:Nat} (h:fgetX l=(e,d)) (he:e≠0):d=[]:=by
 unfold fgetX at h
 split at h
 ·exact(Prod.mk.inj h).2.symm
 ·have h2:(Cv l).1≠0:=by rw[h];exact he
  rw[Jv.getR_nil l h2]at h
  exact(Prod.mk.inj h).2.symm
theorem sE {l d:List Nat} {e:Nat} (h:fgetX l=(e,d)): ∀x∈d,x<256:=by
 by_cases he:e=0
 ·subst he;exact(Sw h).2
 ·rw[jW h he];simp
end Go.Proofs.YtmdbfogjfbbpjaaGreatDoor
