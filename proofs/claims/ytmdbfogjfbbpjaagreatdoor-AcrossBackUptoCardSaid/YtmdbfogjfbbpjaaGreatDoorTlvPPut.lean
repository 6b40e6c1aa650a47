import Derived.Test.YtmdbfogjfbbpjaaGreatDoorFortyPGet
import Derived.Test.YtmdbfogjfbbpjaaGreatDoorFortyPMap
import Derived.Test.YtmdbfogjfbbpjaaGreatDoorLayPFields
import Derived.Laws.Cover3
import Derived.Laws.EntriesVeiled
import Derived.Test.YtmdbfogjfbbpjaaGreatDoorStripePDec
import Derived.Test.YtmdbfogjfbbpjaaGreatDoorBarMath
import Derived.Test.YtmdbfogjfbbpjaaGreatDoorRingPFind
import Derived.BigRegion
import Derived.Deep.RegionWith
import Derived.Test.YtmdbfogjfbbpjaaGreatDoorShaRefSum
import Derived.Test.YtmdbfogjfbbpjaaGreatDoorFieldsMath
import Derived.Test.YtmdbfogjfbbpjaaGreatDoorTrackPGet
set_option maxHeartbeats 1600000
set_option maxRecDepth 100000
set_option linter.unusedVariables false
section
namespace Go.Proofs.YtmdbfogjfbbpjaaGreatDoor
open Go.ChangeShapes Go.WideShapes Go.ChangeAt Go.RowKit
theorem Vg (a b:List Nat):U8 (a++b)=U8 a++U8 b:=by simp[U8]
theorem sT (a:List Nat):(U8 a).length=a.length:=by simp[U8]
theorem AdG {w:World} {base:Nat} {e:TypeId} {size:Nat} {v:Value} {n:Nat} {xs:List Value} (h:w.ownsRow base e size v n xs) {g:Nat} (hg:v.ownBlock=some g):g<w.heap.size:=by
 rcases h.2 with⟨rfl,_⟩|⟨g',cap,cur,rfl,_,hh,_⟩
 ·simp[Value.ownBlock]at hg
 ·simp[Value.ownBlock]at hg
  subst hg
  exact(Array.getElem?_eq_some_iff.1 hh).1
theorem Afj (w:World) (t m:Nat):Rd (w.alloc (.cells #[.int .u8 (t:Int), .int .u8 (m:Int)] 5)) (w.alloc (.cells #[.int .u8 (t:Int), .int .u8 (m:Int)] 5)).heap.size (some ⟨w.heap.size,0,none⟩) (U8 [t,m]):=Cm w _ _
theorem Abv (l:List Tf) (n:Nat) (hn:n=l.length) (E:Nat) (p:List Nat) (hp:iY l=(E,p)) (A:Option Addr) (c:Nat) (w:World) (hA:Ts w w.heap.size l A c):
  Calls Tryz.prog 55 #[.slice A n c] w fun e w'=> ∃A' c',e= .returned (.tuple #[.slice A' (p.length:Nat) c', .int .i64 (E:Int)])∧Bs w' w'.heap.size p A' c'∧Below w.heap.size w w':=by
 obtain⟨i0,hi,hz0,hz1,hz2⟩:=info_parts Be
 have h1:n≤9223372036854775807:=by have h1:=hA.len;have h2:=hA.cap;omega
 have HN:=Lib.hid hn
 have HP:=Lib.hid hp
 have HA:=Lib.hid hA
 clear hn hp hA
 cases hb:isT 0 l with
 |false=>
  have hp:=HP.out
  rw[iZ hb]at hp
  cases hp
  have HB:=Lib.hid hb
  clear hb
  go_enter Tryz.func55, Tryz.ntmps55
  go_wp2_with fail
  refine(gM l n HN.out false HB.out A c w HA.out).mono ?_
  rintro e w1 ⟨rfl,hb1⟩
  have HB1:=Lib.hid hb1
  clear hb1
  go_wp2
  go_ret2
  exact⟨none,0,rfl,Bs.empty _ _,HB1.out⟩
 |true=>
  have hp:=HP.out
  rw[Ux hb]at hp
  obtain⟨rfl,hp2⟩:=Prod.mk.inj hp
  obtain⟨hl,hall⟩:=Nu hb (by omega) (by omega)
  have hn255:n≤255:=by rw[HN.out];omega
  have HALL:=Lib.hid hall
  have HB:=Lib.hid hb
  have HPP:=Lib.hid hp2
  clear hb hp hp2 hl hall
  go_enter Tryz.func55, Tryz.ntmps55
  go_wp2_with fail
  refine(gM l n HN.out true HB.out A c w HA.out).mono ?_
  rintro e w1 ⟨rfl,hb1⟩
  have HB1:=Lib.hid hb1
  clear hb1
  go_wp2
  go_loopw [4,13] (fun v i wr=> ∃(k:Nat) (q:List Nat),k≤n∧i= .int .i64 k∧q=putT (l.take k)∧q.length≤257*k∧wr.ownsRow w1.heap.size 5 1 v q.length (U8 q)∧Below w1.heap.size w1 wr) (fun _ i _=>n - (intOf i).toNat)
  case atStart=>exact⟨0,[],Nat.zero_le _,rfl,rfl,by simp,World.ownsRow_lit w1 #[] 0 (Nat.le_refl _) (by decide) rfl,(Below.refl _ _).alloc (Nat.le_refl _) _⟩
  case round=>
   obtain⟨k,q,hk,rfl,hq,hql,hown,hbel⟩:=hrel
   have HQ:=Lib.hid hq
   have HOW:=Lib.hid hown
   have HBL:=Lib.hid (HB1.out.trans (hbel.mono HB1.out.size))
   have HBW:=Lib.hid hbel
   have hsz:=hbel.size
   clear hq hown hbel
   by_cases hlt:k<n
   ·obtain⟨ad,S,cc,rfl,had,hk4⟩:=(HA.out.below HBL.out).rd k (by rw[←HN.out];exact hlt)
    have HKL:=Lib.hid (show k<l.length by rw[←HN.out];exact hlt)
    have hmem:l.getD k TF0∈l:=by
     rw[List.getD_eq_getElem?_getD,List.getElem?_eq_getElem HKL.out]
     exact List.getElem_mem _
    obtain⟨h3,h4,h5⟩:=HALL.out _ hmem
    have hsn:=aG l k HKL.out
    obtain⟨x,hx⟩: ∃x,x=l.getD k TF0:=⟨_,rfl⟩
    rw[←hx]at hk4 h3 h4 h5 hsn
    obtain⟨t,ht⟩: ∃t:Nat,t=x.tag.toNat:=⟨_,rfl⟩
    obtain⟨s,hs⟩: ∃s:List Nat,s=x.val:=⟨_,rfl⟩
    obtain⟨m,hm⟩: ∃m:Nat,m=s.length:=⟨_,rfl⟩
    have hc0:wr.cell? (ad.add (k*2))=some (.int .i64 (t:Int)):=by rw[hk4.c0];congr 2;omega
    have hc1:wr.cell? ⟨(ad.add (k*2)).block,(ad.add (k*2)).off+1,none⟩=some (.slice S m cc):=by rw[hk4.c1,hm,hs]
    have HS:=Lib.hid (show Bs wr w.heap.size s S cc by rw[hs];exact hk4.bs)
    rw[←HQ.out, ←ht, ←hs, ←hm]at hsn
    have ht2:t<256:=by omega
    have hm2:m<256:=by rw[hm,hs];omega
    have HSN:=Lib.hid hsn
    have HM:=Lib.hid hm
    obtain⟨j,hj⟩: ∃j,j=q.length:=⟨_,rfl⟩
    rw[←hj]at HOW hql
    have HJ:=Lib.hid hj
    have b1:(0:Int)≤(k:Int):=by omega
    have b2:(k:Int)<(n:Int):=by omega
    have w1':IntKind.u8.wrap (t:Int)=(t:Int):=Mc t ht2
    have w2':IntKind.u8.wrap (m:Int)=(m:Int):=Mc m hm2
    clear hx hk4 h3 h4 h5 hsn ht hs hm hj hmem
    obtain⟨wb,hwb⟩: ∃wb,wb=wr.alloc (.cells #[.int .i64 (t:Int), .slice S m cc] 121):=⟨_,rfl⟩
    obtain⟨wl,hwl⟩: ∃wl,wl=wb.alloc (.cells #[.int .u8 (t:Int), .int .u8 (m:Int)] 5):=⟨_,rfl⟩
    have hbb:Below wr.heap.size wr wb:=by rw[hwb];exact Aa wr _ _
    have hbl:Below wb.heap.size wb wl:=by rw[hwl];exact Aa wb _ _
    have hbx:Below wr.heap.size wr wl:=hbb.trans (hbl.mono hbb.size)
    have HO1:=Lib.hid (Aj HOW.out hbx)
    have hwbs:wb.heap.size=wr.heap.size+1:=by rw[hwb];simp
    have HR1:=Lib.hid (show Rd wl wl.heap.size (some ⟨wr.heap.size+1,0,none⟩) (U8 [t,m]) by rw[←hwbs,hwl];exact Afj wb t m)
    have hsz1:w1.heap.size≤wl.heap.size:=Nat.le_trans hsz hbx.size
    have hx1:j+2≤maxLen:=by unfold maxLen;omega
    have HBX:=Lib.hid (show wl.heap[wr.heap.size]?=some (.cells #[.int .i64 (t:Int), .slice S m cc] 121 (0,0))from(hbl.block _ (by rw[hwb];simp)).trans (by rw[hwb];exact heap_alloc_new wr _))
    have HBWL:=Lib.hid (HBW.out.trans (hbx.mono hsz))
    have hbsz:wr.heap.size<wl.heap.size:=(Array.getElem?_eq_some_iff.1 HBX.out).1
    clear hbb hbl hbx hwbs
    rw[hwb]at hwl
    rw[hwl]at HO1 HR1 hsz1 HBX HBWL hbsz
    clear hwb hwl wb wl
    go_wp2_with (at_builtin;refine Af _ rfl (.tmp 17) (.tmp 25) 23 rfl w1.heap.size 5 i0 (.int .u8 0) 1 Tryz.underlying23 hi hz0 hz1 hz2 rfl _ j (U8 q) rfl HO1.out _ (some ⟨wr.heap.size+1,0,none⟩) 2 2 (U8 [t,m]) rfl HR1.out rfl (fun h=>by cases h) (Bd _) hx1 (by omega) hsz1 ?_)
    intro v2 x2 hown2 hg2
    have hne:some wr.heap.size≠u4.ownBlock:=fun h=>Nat.lt_irrefl _ (AdG HOW.out h.symm)
    have hblk:=(hg2.block wr.heap.size hbsz hne).trans HBX.out
    have hb1:x2.cell? ⟨wr.heap.size,1,none⟩=some (.slice S m cc):=by rw[cell_of_row x2 _ 1 _ _ (0,0) hblk];rfl
    have HB2:=Lib.hid (show Below w1.heap.size w1 x2 from HBWL.out.grown hg2 hsz1 (fun g hg=>Ak HO1.out hg))
    have HW2:=Lib.hid (show Below w1.heap.size wr x2 from(((Aa wr _ _).trans ((Aa _ _ _).mono (Aa wr _ _).size)).mono hsz).grown hg2 hsz1 (fun g hg=>Ak HO1.out hg))
    have HS2:=Lib.hid (HS.out.rd.below (HW2.out.mono HB1.out.size))
    rw[←Vg]at hown2
    have HO2:=Lib.hid hown2
    have hsz2:=HB2.out.size
    have hx2:j+2+m≤maxLen:=by unfold maxLen;omega
    have HML:=Lib.hid (show(U8 s).length=m by rw[sT,HM.out])
    clear hown2 hg2 hne hblk hx1 hbsz hsz1 HO1 HR1 HBX HBWL
    go_wp2_with (at_builtin;refine Af _ rfl (.tmp 27) (.tmp 29) 23 rfl w1.heap.size 5 i0 (.int .u8 0) 1 Tryz.underlying23 hi hz0 hz1 hz2 rfl _ (j+2) (U8 (q++ [t,m])) rfl HO2.out _ S m cc (U8 s) rfl HS2.out HML.out HS.out.nil (Bd _) hx2 (by omega) hsz2 ?_)
    intro v3 x3 hown3 hg3
    have HB3:=Lib.hid (show Below w1.heap.size w1 x3 from HB2.out.grown hg3 hsz2 (fun g hg=>Ak HO2.out hg))
    rw[←Vg]at hown3
    obtain⟨q',hq'⟩: ∃q',q'=q++ [t,m]++s:=⟨_,rfl⟩
    have hql':q'.length=j+2+m:=by rw[hq',List.length_append,List.length_append, ←HJ.out, ←HM.out];rfl
    rw[←hq', ←hql']at hown3
    have HO3:=Lib.hid hown3
    have HQ':=Lib.hid (hq'.trans HSN.out.symm)
    have hqb:q'.length≤257*(k+1):=by omega
    have HQB:=Lib.hid hqb
    clear hown3 hg3 hq' hql' hqb hx2 hsz2 hb1 hc0 hc1
    go_wp2
    go_roundw
    case rel=>exact⟨k+1,q',by omega,by go_num,HQ'.out,HQB.out,HO3.out,HB3.out⟩
    case measure=>simp[intOf];omega
   ·have e:k=n:=by omega
    have e2:l.take k=l:=List.take_of_length_le (by rw[←HN.out];omega)
    have hqp:q=p:=by rw[HQ.out,e2,HPP.out]
    have hown:=HOW.out
    rw[hqp]at hown
    obtain⟨AQ,cQ,e3,hbs⟩:=Av hown (by rw[←HPP.out];exact dW l HALL.out HA.out.vals)
    have HBS:=Lib.hid hbs
    clear e2 hqp hown hbs
    subst e3
    go_wp2
    go_ret2
    exact⟨_,_,rfl,HBS.out,HBL.out⟩
theorem Ow (A:Option Addr) (n c:Nat) (w:World):(binOp .eql 23 (.slice A n c) (.slice none 0 0)).run Tryz.prog w= .ok (.bool A.isNone) w:=by
 simp[binOp,run_equal_slice_nil w 23 5 A n c Tryz.underlying23]
theorem wJ (s:List Nat) (n:Nat) (hn:n=s.length) (A:Option Addr) (c:Nat) (w:World) (h:Bs w w.heap.size s A c) (h1:n≤140737488355328):
  Calls Tryz.prog 146 #[.slice A n c] w fun e w'=> ∃A' c',e= .returned (.slice A' n c')∧Bs w' w'.heap.size s A' c'∧Below w.heap.size w w':=by
 obtain⟨i0,hi,hz0,hz1,hz2⟩:=info_parts Be
 rcases A with _|ad
 ·have hc:c=0:=h.nil rfl
  have hl:=h.len
  have h0:n=0:=by omega
  subst hc h0
  have hs:s=[]:=List.eq_nil_of_length_eq_zero (by omega)
  have HH:=Lib.hid h
  have hnil:=Ow none 0 0
  clear h hl hn
  go_enter Tryz.func146, Tryz.ntmps146
  go_wp2
  go_ret
  exact⟨none,0,rfl,HH.out,Below.refl _ _⟩
 ·have hbase:w.heap.size≤(w.alloc (.cells #[] 5)).heap.size:=by simp
  have hown0:(w.alloc (.cells #[] 5)).ownsRow w.heap.size 5 1 (.slice (some ⟨w.heap.size,0,none⟩) 0 0) 0 []:=World.ownsRow_lit w #[] 0 (Nat.le_refl _) (by decide) rfl
  have HE:=Lib.hid hown0
  have HAE:=Lib.hid (h.rd.next (Aa w #[] 5))
  have HUL:=Lib.hid (show(U8 s).length=n by simp[U8,hn])
  have HLT:=Lib.hid h.lt
  have hn0:0+n≤maxLen:=by unfold maxLen;omega
  have hn1:(0+n)*1≤140737488355328:=by omega
  have hnil:=Ow (some ad) n c
  clear h hn hown0
  go_enter Tryz.func146, Tryz.ntmps146
  go_wp2_with (at_builtin;refine Af _ rfl (.tmp 5) (.tmp 6) 23 rfl w.heap.size 5 i0 (.int .u8 0) 1 Tryz.underlying23 hi hz0 hz1 hz2 rfl (.slice (some ⟨w.heap.size,0,none⟩) 0 0) 0 [] rfl HE.out (w.alloc (.cells #[] 5)).heap.size (some ad) n c (U8 s) rfl HAE.out HUL.out (fun h=>by cases h) (Bd s) hn0 hn1 hbase ?_)
  intro v1 w1 hown1 hg1
  have hb1:Below w.heap.size w w1:=(Aa w #[] 5).grown hg1 hbase (fun j hj=>Ak HE.out hj)
  have hown1':w1.ownsRow w.heap.size 5 1 v1 n (U8 s):=by simpa using hown1
  obtain⟨A',c',e,hbs⟩:=Av hown1' HLT.out
  subst e
  have HBS:=Lib.hid hbs
  have HB1:=Lib.hid hb1
  clear hown1 hown1' hg1 hbs hb1
  go_wp2
  go_ret
  exact⟨A',c',rfl,HBS.out,HB1.out⟩
theorem wK {w w':World} {X base:Nat} {e:TypeId} {size:Nat} {v:Value} {n:Nat} {xs:List Value} (h:w.ownsRow base e size v n xs) (hg:w.grownBy w' (some X)) (hX:X<base):w'.ownsRow base e size v n xs:=by
 refine⟨h.1, ?_⟩
 rcases h.2 with hn|⟨g,cap,cur,rfl,h1,hh,rest⟩
 ·exact .inl hn
 ·refine .inr ⟨g,cap,cur,rfl,h1, ?_,rest⟩
  rw[hg.block g (Array.getElem?_eq_some_iff.1 hh).1 (by simp;omega)]
  exact hh
def pO (X:Nat) (w:World):Nat:=match w.cell? ⟨X,0,none⟩with
 |some (.slice _ n _)=>n
 |_=>0
theorem Dx.left {w:World} {X:Nat} {A:Option Addr} {m c a:Nat} (h:Dx w X A m c a):pO X w=m:=by rw[pO,h.c0]
theorem Zi (b:List Nat) (hb6:b.length≤140737488355328) (E:Nat) (L:List Tf) (hg:gotT b=(E,L)) (c X:Nat) (A:Option Addr) (w:World) (hK:Dx w X A b.length c 0) (hA:Bs w X b A c):
  Calls Tryz.prog 147 #[.func (.func 148) #[.pointer (some ⟨X,0,none⟩)] #[]] w fun e w'=> ∃A' c',e= .returned (.tuple #[.slice A' (L.length:Nat) c', .int .i64 (E:Int)])∧Ts w' w'.heap.size L A' c'∧Below X w w':=by
 have hX:=hK.lt
 have HG:=Lib.hid hg
 have HK:=Lib.hid hK
 have HA:=Lib.hid hA
 have HB6:=Lib.hid hb6
 clear hg hK hA hb6
 go_enter Tryz.func147, Tryz.ntmps147
 go_wp2
 have hwx:X≤w.heap.size:=Nat.le_of_lt hX
 go_loopw [4] (fun v wr=> ∃(k a:Nat) (p:List Nat) (M:List TV) (A c m:_),p.length≤k∧Wh (M.map (·.f)) (Gj k a p)=(E,L)∧m=p.length∧Dx wr X A m c a∧Bs wr X p A c∧wr.ownsRow w.heap.size 121 2 v M.length (Es M)∧(∀q∈M,Bs wr X q.f.val q.S q.c)∧Below X w wr∧M.length≤a∧a≤255) (fun _ wr=>pO X wr)
 case atStart=>
  have hb1:=Aa w #[] 121
  exact⟨b.length,0,b,[],A,c,b.length,Nat.le_refl _,by rw[show List.map (·.f) ([]:List TV)=[]from rfl,jA];exact HG.out,rfl,HK.out.next hb1,HA.out.below (hb1.mono hwx),World.ownsRow_lit w #[] 0 (Nat.le_refl _) (by decide) rfl,by simp,hb1.mono hwx,by simp,by omega⟩
 case round=>
  obtain⟨k,a,p,M,A1,c1,m,hk,hpre,hm,hbox,hbs,hown,hvals,hbel,hlen⟩:=hrel
  have hXr:=hbox.lt
  have hsz:=hbel.size
  have HPRE:=Lib.hid hpre
  have HM:=Lib.hid hm
  have HBOX:=Lib.hid hbox
  have HBS:=Lib.hid hbs
  have HOW:=Lib.hid hown
  have HV:=Lib.hid hvals
  have HBL:=Lib.hid hbel
  have HLEN:=Lib.hid hlen
  have HKK:=Lib.hid hk
  clear hpre hm hbox hbs hown hvals hbel hlen hk HG HK HA
  rcases p with _|⟨x,_|⟨y,r⟩⟩
  ·obtain rfl:m=0:=by simpa using HM.out
   have hpre:=HPRE.out
   rw[Wi,jC]at hpre
   cases hpre
   obtain⟨A2,c2,e2,hts⟩:=Og HOW.out (fun q hq=>(HV.out q hq).more (Nat.le_of_lt hXr))
   have HTS:=Lib.hid hts
   clear HPRE HOW hts
   subst e2
   go_wp2_with fail
   refine(qT c1 a X A1 wr HBOX.out).mono ?_
   rintro e w1 ⟨rfl,hb1⟩
   have hb2:=hb1.trans ((Aa w1 #[.int .i64 0, .slice none 0 0] 121).mono hb1.size)
   have HBE:=Lib.hid (HBL.out.trans (hb2.mono (Nat.le_of_lt hXr)))
   have HTE:=Lib.hid (HTS.out.next hb2)
   clear hb1 hb2
   go_wp2
   go_ret2
   exact⟨A2,c2,by rw[List.length_map];rfl,HTE.out,HBE.out⟩
  ·obtain rfl:m=1:=by simpa using HM.out
   have hpre:=HPRE.out
   rw[jB (by simpa using HKK.out),Ki _ (by decide)]at hpre
   cases hpre
   clear HPRE HKK
   go_wp2_with fail
   refine(yB c1 a X A1 wr HBOX.out).mono ?_
   rintro e w1 ⟨rfl,hb1⟩
   have HBE:=Lib.hid (HBL.out.trans ((hb1.trans ((Aa w1 #[.int .i64 0, .slice none 0 0] 121).mono hb1.size)).mono (Nat.le_of_lt hXr)))
   clear hb1
   go_wp2
   go_ret2
   exact⟨none,0,rfl,Ts.empty _ _,HBE.out⟩
  ·have hm2:m=r.length+2:=by simpa using HM.out
   have hkk:1≤k:=by have:=HKK.out;simp only[List.length_cons]at this;omega
   have HM2:=Lib.hid hm2
   clear hm2
   by_cases q1:x≤a
   ·have hpre:=HPRE.out
    rw[Wj hkk q1,Ki _ (by decide)]at hpre
    cases hpre
    clear HPRE HKK
    go_wp2_with fail
    refine(mN x y r m HM2.out c1 a X A1 wr HBOX.out HBS.out q1).mono ?_
    rintro e w1 ⟨rfl,hb1⟩
    have HBE:=Lib.hid (HBL.out.trans ((hb1.trans ((Aa w1 #[.int .i64 0, .slice none 0 0] 121).mono hb1.size)).mono (Nat.le_of_lt hXr)))
    clear hb1
    go_wp2
    go_ret2
    exact⟨none,0,rfl,Ts.empty _ _,HBE.out⟩
   by_cases q2:r.length<y
   ·have hpre:=HPRE.out
    rw[aH hkk (by omega) q2,Ki _ (by decide)]at hpre
    cases hpre
    clear HPRE HKK
    go_wp2_with fail
    refine(qU x y r m HM2.out c1 a X A1 wr HBOX.out HBS.out (by omega) q2).mono ?_
    rintro e w1 ⟨rfl,hb1⟩
    have HBE:=Lib.hid (HBL.out.trans ((hb1.trans ((Aa w1 #[.int .i64 0, .slice none 0 0] 121).mono hb1.size)).mono (Nat.le_of_lt hXr)))
    clear hb1
    go_wp2
    go_ret2
    exact⟨none,0,rfl,Ts.empty _ _,HBE.out⟩
   obtain⟨j,rfl⟩: ∃j,k=j+1:=⟨k - 1,by omega⟩
   have hpre:=HPRE.out
   rw[aI (by omega) (by omega)]at hpre
   obtain⟨f,hf⟩: ∃f:Tf,f=⟨x,r.take y⟩:=⟨_,rfl⟩
   obtain⟨p,hp⟩: ∃p,p=r.drop y:=⟨_,rfl⟩
   rw[←hf, ←hp]at hpre
   have hpl:p.length≤j:=by have:=HKK.out;simp only[List.length_cons]at this;rw[hp,List.length_drop];omega
   have hpl2:p.length<m:=by rw[HM2.out,hp,List.length_drop];omega
   have hpm:M.length+1≤x∧x≤255:=by have:=HLEN.out;have:=HBS.out.lt x (by simp);omega
   have HF:=Lib.hid hf
   have HP:=Lib.hid hp
   have HPL:=Lib.hid hpl
   have HPL2:=Lib.hid hpl2
   have HPM:=Lib.hid hpm
   replace HPRE:=Lib.hid hpre
   have hM6:M.length≤1000000:=by have:=HLEN.out;omega
   have HQ:=Lib.hid (show a<x∧y≤r.length by omega)
   have HLF:=Lib.hid HBOX.out.left
   clear hpre hf hp hpl hpl2 hpm q1 q2
   go_wp2_with fail
   refine(yC x y r f HF.out p HP.out m HM2.out c1 a X A1 wr HBOX.out HBS.out HQ.out.1 HQ.out.2).mono ?_
   rintro e w1 ⟨S,cs,A2,c2,rfl,hb1,hb2,hb3,hb4⟩
   have HO1:=Lib.hid (wK HOW.out hb4 hX)
   have hbx:=Hc hb4 hXr
   have hbl:=Aa w1 #[.int .i64 f.tag, .slice S f.val.length cs] 121
   have hs1:w.heap.size≤w1.heap.size:=Nat.le_trans hsz hb4.size
   have hs2:w.heap.size≤(w1.alloc (.cells #[.int .i64 f.tag, .slice S f.val.length cs] 121)).heap.size:=Nat.le_trans hs1 hbl.size
   have HO2:=Lib.hid (Aj HO1.out hbl)
   have HBX:=Lib.hid (HBL.out.trans hbx)
   have HK1:=Lib.hid hb1
   have HV1:=Lib.hid hb2
   have HR1:=Lib.hid hb3
   have HVS:=Lib.hid (fun q hq=>(HV.out q hq).below hbx)
   have HBX1:=Lib.hid hbl
   clear hb1 hb2 hb3 hb4 hbx hbl
   go_wp2_with (at_builtin;refine Fq rfl (.tmp 17) (.tmp 19) rfl (w1.alloc (.cells #[.int .i64 f.tag, .slice S f.val.length cs] 121)) w.heap.size M.length u4 M ⟨f,S,cs⟩ rfl HO2.out (w1.heap.size+1) (World.size_alloc _ _) rfl hM6 hs2 ?_;intro v3 w3 hown3 hg3)
   have hge: ∀g,u4.ownBlock=some g→w.heap.size≤g:=fun g hg=>Ak HO2.out hg
   have hb3:Below w.heap.size w1 w3:=(HBX1.out.mono hs1).grown hg3 hs2 hge
   have HB3:=Lib.hid hb3
   have HO3:=Lib.hid hown3
   have HK3:=Lib.hid (show Dx w3 X A2 p.length c2 x from(hb3.block X hX).trans HK1.out)
   have HR3:=Lib.hid (HR1.out.below (hb3.mono hwx))
   have HV3:=Lib.hid (show∀q∈M++ [(⟨f,S,cs⟩:TV)],Bs w3 X q.f.val q.S q.c from fun q hq=>by
    rcases List.mem_append.1 hq with h|h
    ·exact(HVS.out q h).below (hb3.mono hwx)
    ·rw[List.mem_singleton]at h
     subst h
     exact HV1.out.below (hb3.mono hwx))
   have HBE:=Lib.hid (HBX.out.trans (hb3.mono hwx))
   clear hown3 hg3 hge hb3 HO1 HO2 HK1 HR1 HV1 HVS HBX
   go_wp2
   go_roundw
   case rel=>exact⟨j,x,p,M++ [⟨f,S,cs⟩],A2,c2,p.length,HPL.out,by rw[List.map_append];exact HPRE.out,rfl,HK3.out,HR3.out,by rw[List.length_append];exact HO3.out,HV3.out,HBE.out,by rw[List.length_append];exact HPM.out⟩
   case measure=>rw[HK3.out.left,HLF.out];exact HPL2.out
theorem Abw (b:List Nat) (n:Nat) (hn:n=b.length) (hn6:n≤140737488355328) (E:Nat) (L:List Tf) (hg:gotT b=(E,L)) (A:Option Addr) (c:Nat) (w:World) (hA:Bs w w.heap.size b A c):
  Calls Tryz.prog 94 #[.slice A n c] w fun e w'=> ∃A' c',e= .returned (.tuple #[.slice A' (L.length:Nat) c', .int .i64 (E:Int)])∧Ts w' w'.heap.size L A' c'∧Below w.heap.size w w':=by
 have hmf: ∀(fn:Fn) (first cap:Array Value) (w:World),(Instr.makeFunc fn first cap).run Tryz.prog w= .ok (.func fn first cap) w:=fun _ _ _ _=>rfl
 have HN:=Lib.hid hn
 have HG:=Lib.hid hg
 have HA:=Lib.hid hA
 clear hn hg hA
 go_enter Tryz.func94, Tryz.ntmps94
 go_wp2_with fail
 refine(wJ b n HN.out A c w HA.out (by omega)).mono ?_
 rintro e w1 ⟨A1,c1,rfl,h1,h2⟩
 have hbl:=Aa w1 #[.slice A1 n c1, .int .i64 (0:Int)] 163
 have HK:=Lib.hid (show Dx (w1.alloc (.cells #[.slice A1 n c1, .int .i64 (0:Int)] 163)) w1.heap.size A1 b.length c1 0 by rw[←HN.out];exact heap_alloc_new w1 _)
 have HR:=Lib.hid (h1.below hbl)
 have HB:=Lib.hid (h2.trans (hbl.mono h2.size))
 have HS:=Lib.hid h2.size
 clear h1 h2 hbl
 go_wp2_with fail
 refine(Zi b (by rw[←HN.out];exact hn6) E L HG.out c1 w1.heap.size A1 _ HK.out HR.out).mono ?_
 rintro e w3 ⟨A2,c2,rfl,h3,h4⟩
 have HT:=Lib.hid h3
 have HBE:=Lib.hid (HB.out.trans (h4.mono HS.out))
 clear h3 h4
 go_wp2
 go_ret2
 exact⟨_,_,rfl,HT.out,HBE.out⟩
end Go.Proofs.YtmdbfogjfbbpjaaGreatDoor
end
section
namespace Go.Proofs.YtmdbfogjfbbpjaaGreatDoor
set_option maxRecDepth 100000
open Go.ChangeShapes Go.WideShapes Go.ChangeAt Go.RowKit
theorem Afk (s:List Nat) (n:Nat) (hn:n=s.length) (hn4:n≤140737488355328) (E:Nat) (P:List Nat) (hE:fgetX s=(E,P)) (A:Option Addr) (c SB AB:Nat) (w:World) (hS:Blk w SB #[.slice A n c] 23) (hA:Bs w w.heap.size s A c) (hX:Blk w AB #[.slice none 0 0] 23):
  Calls Tryz.prog 90 #[.pointer (some ⟨SB,0,none⟩), .pointer (some ⟨AB,0,none⟩)] w fun e w'=>e= .returned (.int .i64 (E:Int))∧ ∃A' c',w.grownBy w' (some AB)∧Bs w' w'.heap.size P A' c'∧Blk w' AB #[.slice A' P.length c'] 23 :=by
 have HN:=Lib.hid hn
 have HE:=Lib.hid hE
 have HA:=Lib.hid hA
 have HX:=Lib.hid hX
 have cS:=hS.cell 0 rfl
 clear hn hE hA hX hS
 go_enter Tryz.func90, Tryz.ntmps90
 go_wp2_with fail
 refine(qS s n HN.out hn4 E P HE.out A c w HA.out).mono ?_
 rintro e w1 ⟨A1,c1,rfl,hs,hb⟩
 clear cS
 have X1:=HX.out.next hb
 have cX:=X1.cell 0 rfl
 have zX:=X1.frozen 0
 have HX1:=Lib.hid X1
 have HS:=Lib.hid hs
 have HG:=Lib.hid (Dy (some AB) hb)
 clear hs hb X1
 go_wp2
 go_ret
 have hg:=Bl w1 AB 0 (.slice A1 P.length c1)
 exact⟨rfl,A1,c1,At HG.out hg,Ek HS.out HX1.out hg (by simp),HX1.out.put 0 _⟩
theorem pP (k:Nat) (hk:32≤k) (A:Option Addr) (c AB:Nat) (w:World) (hX:Blk w AB #[.slice A k c] 23):
  Calls Tryz.prog 92 #[.pointer (some ⟨AB,0,none⟩)] w fun e w'=>e= .returned (.int .i64 0)∧w=w':=by
 have cX:=hX.cell 0 rfl
 have b1:decide ((32:Int)≤(k:Int))=true:=decide_eq_true (by omega)
 clear hX
 go_enter Tryz.func92, Tryz.ntmps92
 go_wp2_with fail
 refine(Uq 14 w).mono ?_
 rintro e w1 ⟨rfl,rfl⟩
 go_wp2
 go_ret
 exact⟨rfl,rfl⟩
theorem wL (k:Nat) (hk:k<32) (A:Option Addr) (c AB:Nat) (w:World) (hX:Blk w AB #[.slice A k c] 23):
  Calls Tryz.prog 92 #[.pointer (some ⟨AB,0,none⟩)] w fun e w'=>e= .returned (.int .i64 14)∧w=w':=by
 have cX:=hX.cell 0 rfl
 have b1:decide ((32:Int)≤(k:Int))=false:=decide_eq_false (by omega)
 clear hX
 go_enter Tryz.func92, Tryz.ntmps92
 go_wp2_with fail
 refine(Yp 14 w).mono ?_
 rintro e w1 ⟨rfl,rfl⟩
 go_wp2
 go_ret
 exact⟨rfl,rfl⟩
theorem Afl (P:List Nat) (k j:Nat) (hk:k=P.length) (hj:k=j+32) (h47:k≤140737488355328) (E:Nat) (L:List Tf) (hg:gotT (restB P)=(E,L)) (A:Option Addr) (c AB PB XB:Nat) (w:World) (hA:Blk w AB #[.slice A k c] 23) (hP:Blk w PB #[.pointer (some ⟨XB,0,none⟩)] 107) (hX:Blk w XB #[.slice none 0 0, .slice none 0 0, .slice none 0 0] 66) (hB:Bs w w.heap.size P A c) (hne1:XB≠AB) (hne2:XB≠PB):
  Calls Tryz.prog 93 #[.pointer (some ⟨AB,0,none⟩), .pointer (some ⟨PB,0,none⟩)] w fun e w'=>e= .returned (.int .i64 (E:Int))∧ ∃A1 c1 A2 c2 A3 c3,w.grownBy w' (some XB)∧Bs w' w'.heap.size (restB P) A1 c1∧Bs w' w'.heap.size (Eg P) A2 c2∧Ts w' w'.heap.size L A3 c3∧Blk w' XB #[.slice A1 j c1, .slice A2 32 c2, .slice A3 L.length c3] 66 :=by
 have e32:P.length - 32=j:=by omega
 obtain⟨a,rfl⟩: ∃a,A=some a:=by
  rcases A with _|a
  ·have h1:=hB.nil rfl
   have h2:=hB.len
   omega
  ·exact⟨a,rfl⟩
 have hcap:=hB.cap
 have hlen:=hB.len
 obtain⟨hs1,hs2⟩:=Bs.split hB j (by omega)
 have HS1:=Lib.hid (show Bs w w.heap.size (restB P) (some a) c by rw[restB,e32];exact hs1)
 have HS2:=Lib.hid (show Bs w w.heap.size (Eg P) (some (a.add j)) (c - j) by rw[Eg,e32];exact hs2)
 have HJ:=Lib.hid (show j=(restB P).length by rw[restB,List.length_take];omega)
 have HG:=Lib.hid hg
 have HA:=Lib.hid hA
 have HP:=Lib.hid hP
 have HX:=Lib.hid hX
 have n1: ¬XB=AB:=hne1
 have n2: ¬XB=PB:=hne2
 have n3: ¬AB=XB:=fun e=>hne1 e.symm
 have n4: ¬PB=XB:=fun e=>hne2 e.symm
 have cA:=hA.cell 0 rfl
 have cP:=hP.cell 0 rfl
 have cX0:=hX.cell 0 rfl
 have cX1:=hX.cell 1 rfl
 have zX0:=hX.frozen 0
 have zX1:=hX.frozen 1
 have wz:IntKind.i64.wrap ((k:Int) - 32)=(j:Int):=by
  rw[show(k:Int) - 32=(j:Int) by omega]
  exact IntWalk.i64_in _ (by omega)
 have mc:j≤c:=by omega
 have mk:j≤k:=by omega
 have nc: ¬c=j:=by omega
 have m0:(0:Int)≤(j:Int):=by omega
 have mci:(j:Int)≤(c:Int):=by omega
 have mki:(j:Int)≤(k:Int):=by omega
 have HKJ:=Lib.hid hj
 clear hs1 hs2 hg hA hP hX hB hk e32 hj hlen hcap hne1 hne2
 go_enter Tryz.func93, Tryz.ntmps93
 go_wp2
 go_region
 rw[show k - j=32 by have:=HKJ.out;omega]
 obtain⟨w2,hw2⟩: ∃w2,w2=((w.setCell ⟨XB,0,none⟩ (.slice (some a) j c)).setCell ⟨XB,1,none⟩ (.slice (some (a.add j)) 32 (c - j))).drew:=⟨_,rfl⟩
 rw[←hw2]
 have g1:=Bl w XB 0 (.slice (some a) j c)
 have g2:=Bl (w.setCell ⟨XB,0,none⟩ (.slice (some a) j c)) XB 1 (.slice (some (a.add j)) 32 (c - j))
 have X1:=HX.out.put 0 (.slice (some a) j c)
 have X2:=X1.put 1 (.slice (some (a.add j)) 32 (c - j))
 have hd:Below ((w.setCell ⟨XB,0,none⟩ (.slice (some a) j c)).setCell ⟨XB,1,none⟩ (.slice (some (a.add j)) 32 (c - j))).heap.size ((w.setCell ⟨XB,0,none⟩ (.slice (some a) j c)).setCell ⟨XB,1,none⟩ (.slice (some (a.add j)) 32 (c - j))) w2:=by rw[hw2];exact Ae (Below.refl _ _) 1
 have S1:=Lib.hid ((Ek (Ek HS1.out HX.out g1 (by simp)) X1 g2 (by simp)).next hd)
 have S2:=Lib.hid ((Ek (Ek HS2.out HX.out g1 (by simp)) X1 g2 (by simp)).next hd)
 have HX2:=Lib.hid (show Blk w2 XB #[.slice (some a) j c, .slice (some (a.add j)) 32 (c - j), .slice none 0 0] 66 from X2.next hd)
 have HP2:=Lib.hid (((HP.out.grown g1 n4).grown g2 n4).next hd)
 have HGR:=Lib.hid (At (At g1 g2) (Dy (some XB) hd))
 clear hw2 g1 g2 X1 X2 hd cA cP cX0 cX1 zX0 zX1 HS1 HS2 HX HP HA wz mc mk nc m0 mci mki
 have hdr:Below w2.heap.size w2 w2.drew:=Ae (Below.refl _ _) 1
 have HPD:=Lib.hid (HP2.out.next hdr)
 have HXD:=Lib.hid (HX2.out.next hdr)
 have cP:w2.drew.cell? ⟨PB,0,none⟩=some (.pointer (some ⟨XB,0,none⟩)):=HPD.out.cell 0 rfl
 have cX:w2.drew.cell? ⟨XB,0,none⟩=some (.slice (some a) j c):=HXD.out.cell 0 rfl
 have cX2:w2.drew.cell? ⟨XB,2,none⟩=some (.slice none 0 0):=HXD.out.cell 2 rfl
 have zX2:w2.drew.frozen? ⟨XB,2,none⟩=false:=HXD.out.frozen 2
 go_wp2_with fail
 go_region_with (go_at_call 94;refine(Abw (restB P) j HJ.out (by have:=HKJ.out;omega) E L HG.out (some a) c _ (S1.out.next hdr)).mono ?_;rintro e w3 ⟨A3,c3,rfl,hs,hb⟩;have HB3:=Lib.hid hb;have HS3:=Lib.hid hs;have HP3:=Lib.hid (HPD.out.next hb);have HX3:=Lib.hid (HXD.out.next hb);have dP:w3.cell? ⟨PB,0,none⟩=some (.pointer (some ⟨XB,0,none⟩)):=HP3.out.cell 0 rfl;have dX2:w3.cell? ⟨XB,2,none⟩=some (.slice none 0 0):=HX3.out.cell 2 rfl;have dz2:w3.frozen? ⟨XB,2,none⟩=false:=HX3.out.frozen 2;clear hb hs)
 all_goals
  go_wp2
  go_ret
  have hg:=Bl w3 XB 2 (.slice A3 L.length c3)
  have hb:Below w2.heap.size w2 w3:=hdr.trans (HB3.out.mono hdr.size)
  exact⟨rfl,some a,c,some (a.add j),c - j,A3,c3,At HGR.out (At (Dy (some XB) hb) hg),Ek (S1.out.next hb) HX3.out hg (by simp),Ek (S2.out.next hb) HX3.out hg (by simp),yE HS3.out HX3.out hg (by simp) (.inl (by simp)),HX3.out.put 2 _⟩
def apE (s:List Nat):Nat:=if(fgetX s).1≠0 then(fgetX s).1 else if(fgetX s).2.length<32 then 14 else(gotT (restB (fgetX s).2)).1
theorem AdH {l:List K} {s:List Nat} {E:Nat} (hr:isR l=true) (h:apE s=E) (h0:E≠0):Gs l s=(E,Ah):=by
 rw[apE]at h
 rw[Gs,if_neg (by rw[hr];decide)]
 split at h
 ·rename_i h1;rw[if_pos h1,h]
 ·rename_i h1
  rw[if_neg h1,Rh]
  split at h
  ·rename_i h2;rw[if_pos h2,h]
  ·rename_i h2;rw[if_neg h2,if_pos (by rw[h];exact h0),h]
structure BaseOK (Base:World→Prop) (s:List Nat) (m:Nat) (B:Option Addr) (d XB PB SB AB:Nat):Prop where
 next: ∀ {w w':World},Base w→Below w.heap.size w w'→Base w'
 grown: ∀ {w w':World} {X:Nat} {cs:Array Value} {t:TypeId},Base w→Blk w X cs t→(X=XB∨X=AB)→(∀f a c,Value.func f a c∉cs.toList)→w.grownBy w' (some X)→Base w'
 box: ∀ {w:World},Base w→Blk w SB #[.slice B m d] 23 ∧Bs w w.heap.size s B d∧Blk w PB #[.pointer (some ⟨XB,0,none⟩)] 107
def Xi (Base:World→Prop) (s:List Nat) (XB AB:Nat):Nat→World→Prop
 |0,w=>Base w∧Blk w XB #[.slice none 0 0, .slice none 0 0, .slice none 0 0] 66 ∧Blk w AB #[.slice none 0 0] 23
 |1,w=>Base w∧Blk w XB #[.slice none 0 0, .slice none 0 0, .slice none 0 0] 66 ∧ ∃P A1 c1,fgetX s=(0,P)∧Blk w AB #[.slice A1 P.length c1] 23 ∧Bs w w.heap.size P A1 c1
 |2,w=>Base w∧Blk w XB #[.slice none 0 0, .slice none 0 0, .slice none 0 0] 66 ∧ ∃P A1 c1,fgetX s=(0,P)∧32≤P.length∧Blk w AB #[.slice A1 P.length c1] 23 ∧Bs w w.heap.size P A1 c1
 |_,w=>Base w∧ ∃P L j A1 c1 A2 c2 A3 c3,fgetX s=(0,P)∧P.length=j+32∧gotT (restB P)=(0,L)∧Bs w w.heap.size (restB P) A1 c1∧Bs w w.heap.size (Eg P) A2 c2∧Ts w w.heap.size L A3 c3∧Blk w XB #[.slice A1 j c1, .slice A2 32 c2, .slice A3 L.length c3] 66
def Kt (PB SB AB:Nat):List Value:=[.func (.func 90) #[] #[.pointer (some ⟨SB,0,none⟩), .pointer (some ⟨AB,0,none⟩)], .func (.func 92) #[] #[.pointer (some ⟨AB,0,none⟩)], .func (.func 93) #[] #[.pointer (some ⟨AB,0,none⟩), .pointer (some ⟨PB,0,none⟩)]]
theorem Xj (s:List Nat):(fgetX s).2.length≤s.length:=by
 cases h:fgetX s with
 |mk E p=>
  by_cases h0:E=0
  ·subst h0
   have:=Sw h
   have h2:=Qy p
   rw[this.1]at h2
   simp only
   omega
  ·have:=jW h h0
   subst this
   simp
section
variable {Base:World→Prop} {s:List Nat} {m:Nat} {B:Option Addr} {d XB PB SB AB:Nat} {R:Int→World→Prop}
theorem AfL (hB:BaseOK Base s m B d XB PB SB AB) (hm:m=s.length) (h47:m≤140737488355328) (hne:XB≠AB) (hR: ∀(E:Nat) (w:World),E≠0→apE s=E→Base w→R E w) (v:Value) (hv:(Kt PB SB AB)[0]?=some v):Nj (Xi Base s XB AB 0) (Xi Base s XB AB 1) R v:=by
 cases hv
 refine⟨_,_,rfl,enters_of Tryz.func90 (by kernel_rfl) rfl,fun w hq=> ?_⟩
 obtain⟨hb,hx,ha⟩:=hq
 obtain⟨hs,hbs,hp⟩:=hB.box hb
 cases hE:fgetX s with
 |mk E P=>
  refine(Afk s m hm h47 E P hE B d SB AB w hs hbs ha).mono ?_
  rintro e w' ⟨rfl,A1,c1,hg,hP,hA⟩
  have hb':=hB.grown hb ha (.inr rfl) (by simp) hg
  by_cases h0:E=0
  ·subst h0
   exact .inl ⟨rfl,hb',hx.grown hg hne,P,A1,c1,hE,hA,hP⟩
  ·exact .inr ⟨E,by omega,rfl,hR E w' h0 (by rw[apE,hE,if_pos h0]) hb'⟩
theorem AfM (hB:BaseOK Base s m B d XB PB SB AB) (hR: ∀(E:Nat) (w:World),E≠0→apE s=E→Base w→R E w) (v:Value) (hv:(Kt PB SB AB)[1]?=some v):Nj (Xi Base s XB AB 1) (Xi Base s XB AB 2) R v:=by
 cases hv
 refine⟨_,_,rfl,enters_of Tryz.func92 (by kernel_rfl) rfl,fun w hq=> ?_⟩
 obtain⟨hb,hx,P,A1,c1,hE,ha,hP⟩:=hq
 by_cases h32:32≤P.length
 ·refine(pP P.length h32 A1 c1 AB w ha).mono ?_
  rintro e w' ⟨rfl,rfl⟩
  exact .inl ⟨rfl,hb,hx,P,A1,c1,hE,h32,ha,hP⟩
 ·refine(wL P.length (by omega) A1 c1 AB w ha).mono ?_
  rintro e w' ⟨rfl,rfl⟩
  exact .inr ⟨14,by decide,rfl,hR 14 w (by decide) (by rw[apE,hE,if_neg (by simp),if_pos (by simp only;omega)]) hb⟩
theorem AfN (hB:BaseOK Base s m B d XB PB SB AB) (hm:m=s.length) (h47:m≤140737488355328) (hne:XB≠AB) (hne2:XB≠PB) (hR: ∀(E:Nat) (w:World),E≠0→apE s=E→Base w→R E w) (v:Value) (hv:(Kt PB SB AB)[2]?=some v):Nj (Xi Base s XB AB 2) (Xi Base s XB AB 3) R v:=by
 cases hv
 refine⟨_,_,rfl,enters_of Tryz.func93 (by kernel_rfl) rfl,fun w hq=> ?_⟩
 obtain⟨hb,hx,P,A1,c1,hE,h32,ha,hP⟩:=hq
 obtain⟨hs,hbs,hp⟩:=hB.box hb
 obtain⟨j,hj⟩: ∃j,P.length=j+32:=⟨P.length - 32,by omega⟩
 have hl:=Xj s
 rw[hE]at hl
 cases hG:gotT (restB P)with
 |mk E L=>
  refine(Afl P P.length j rfl hj (by simp only at hl;omega) E L hG A1 c1 AB PB XB w ha hp hx hP hne hne2).mono ?_
  rintro e w' ⟨rfl,A2,c2,A3,c3,A4,c4,hg,hr,ht,hL,hX⟩
  have hb':=hB.grown hb hx (.inl rfl) (by simp) hg
  by_cases h0:E=0
  ·subst h0
   exact .inl ⟨rfl,hb',P,L,j,A2,c2,A3,c3,A4,c4,hE,hj,hG,hr,ht,hL,hX⟩
  ·exact .inr ⟨E,by omega,rfl,hR E w' h0 (by rw[apE,hE,if_neg (by simp),if_neg (by simp only;omega)];simp only;rw[hG]) hb'⟩
end
theorem pQ (XB:Nat) (B:Option Addr) (m d:Nat) (w:World):Calls Tryz.prog 48 #[.pointer (some ⟨XB,0,none⟩), .slice B m d] w fun e w'=> ∃PB SB AB RB,e= .returned (.slice (some ⟨RB,0,none⟩) 3 3)∧Below w.heap.size w w'∧Blk w' PB #[.pointer (some ⟨XB,0,none⟩)] 107 ∧Blk w' SB #[.slice B m d] 23 ∧Blk w' AB #[.slice none 0 0] 23 ∧
  Blk w' RB (Kt PB SB AB).toArray 74 ∧w.heap.size≤PB∧PB<SB∧SB<AB∧AB<RB:=by
 have hmf: ∀(fn:Fn) (first cap:Array Value) (w:World),(Instr.makeFunc fn first cap).run Tryz.prog w= .ok (.func fn first cap) w:=fun _ _ _ _=>rfl
 go_enter Tryz.func48, Tryz.ntmps48
 go_wp2
 go_ret
 obtain⟨w1,hw1⟩: ∃w1,w1=w.alloc (.cells #[.pointer (some ⟨XB,0,none⟩)] 107):=⟨_,rfl⟩
 obtain⟨w2,hw2⟩: ∃w2,w2=w1.alloc (.cells #[.slice B m d] 23):=⟨_,rfl⟩
 obtain⟨w3,hw3⟩: ∃w3,w3=w2.alloc (.cells #[.slice none 0 0] 23):=⟨_,rfl⟩
 have s1:w1.heap.size=w.heap.size+1:=by rw[hw1];simp
 have s2:w2.heap.size=w.heap.size+2:=by rw[hw2,World.size_alloc,s1]
 have s3:w3.heap.size=w.heap.size+3:=by rw[hw3,World.size_alloc,s2]
 obtain⟨w4,hw4⟩: ∃w4,w4=w3.alloc (.cells (Kt w.heap.size w1.heap.size w2.heap.size).toArray 74):=⟨_,rfl⟩
 have b1:Below w.heap.size w w1:=by rw[hw1];exact Aa w _ _
 have b2:Below w1.heap.size w1 w2:=by rw[hw2];exact Aa w1 _ _
 have b3:Below w2.heap.size w2 w3:=by rw[hw3];exact Aa w2 _ _
 have b4:Below w3.heap.size w3 w4:=by rw[hw4];exact Aa w3 _ _
 have e4:(((w.alloc (.cells #[.pointer (some ⟨XB,0,none⟩)] 107)).alloc (.cells #[.slice B m d] 23)).alloc (.cells #[.slice none 0 0] 23)).alloc (.cells #[.func (.func 90) #[] #[.pointer (some ⟨w.heap.size+1,0,none⟩), .pointer (some ⟨w.heap.size+1+1,0,none⟩)], .func (.func 92) #[] #[.pointer (some ⟨w.heap.size+1+1,0,none⟩)], .func (.func 93) #[] #[.pointer (some ⟨w.heap.size+1+1,0,none⟩), .pointer (some ⟨w.heap.size,0,none⟩)]] 74)=w4:=by rw[hw4,s1,s2,hw3,hw2,hw1];rfl
 refine⟨w.heap.size,w1.heap.size,w2.heap.size,w3.heap.size, ?_, ?_⟩
 ·rw[s3];rfl
 ·rw[e4]
  exact⟨b1.trans ((b2.trans ((b3.trans (b4.mono b3.size)).mono b2.size)).mono b1.size),(((show Blk w1 w.heap.size _ _ by rw[hw1];exact Blk.new w _ _).next b2).next b3).next b4,((show Blk w2 w1.heap.size _ _ by rw[hw2];exact Blk.new w1 _ _).next b3).next b4,(show Blk w3 w2.heap.size _ _ by rw[hw3];exact Blk.new w2 _ _).next b4,by rw[hw4];exact Blk.new w3 _ _,Nat.le_refl _,by omega,by omega,by omega⟩
theorem Xk (s l:List Nat) (n m:Nat) (hn:n=s.length) (hm:m=l.length) (A B:Option Addr) (c d:Nat) (w:World) (hT:Cx w) (hA:Bs w w.heap.size s A c) (hB:Bs w w.heap.size l B d) (h5:n≤5000) (h4:m≤3999) (F:Array Value) (hF:F=(U8 (tagB s l)).toArray):
  Calls Tryz.prog 56 #[.slice A n c, .slice B m d] w fun e w'=>e= .returned (.agg F)∧Below w.heap.size w w':=by
 obtain⟨L,hL⟩: ∃L,66::l=L:=⟨_,rfl⟩
 obtain⟨k,hk⟩: ∃k,k=m+1:=⟨_,rfl⟩
 have HL1:=Lib.hid (show [66]++l=L by rw[←hL];rfl)
 have HLK:=Lib.hid (show k=L.length by rw[←hL,hk,hm];rfl)
 have HLB:=Lib.hid (show∀x∈L,x<256 by rw[←hL];intro x hx;rcases List.mem_cons.1 hx with rfl|h;decide;exact hB.lt x h)
 have HFV:=Lib.hid (show F=(U8 (Zg s L)).toArray by rw[hF,tagB,hL])
 have HIF:=Lib.hid (Fx (l:=tagB s l) hF (Gr _ _))
 have HN:=Lib.hid hn
 have HM:=Lib.hid hm
 have HT:=Lib.hid hT
 have HA:=Lib.hid hA
 have HB:=Lib.hid hB
 have HK:=Lib.hid hk
 have hk4:k≤4000:=by omega
 clear hL hF hn hm hT hA hB hk
 go_enter Tryz.func56, Tryz.ntmps56
 go_wp2_with fail
 obtain⟨w0,hw0⟩: ∃w0,w.alloc (.cells #[.int .u8 0, .int .u8 0, .int .u8 0, .int .u8 0, .int .u8 0, .int .u8 0, .int .u8 0, .int .u8 0, .int .u8 0, .int .u8 0, .int .u8 0, .int .u8 0, .int .u8 0, .int .u8 0, .int .u8 0, .int .u8 0, .int .u8 0, .int .u8 0, .int .u8 0, .int .u8 0, .int .u8 0, .int .u8 0, .int .u8 0, .int .u8 0, .int .u8 0, .int .u8 0, .int .u8 0, .int .u8 0, .int .u8 0, .int .u8 0, .int .u8 0, .int .u8 0] 83)=w0:=⟨_,rfl⟩
 obtain⟨w1,hw1⟩: ∃w1,w0.alloc (.cells #[.int .u8 66] 5)=w1:=⟨_,rfl⟩
 have hs0:w.heap.size+1=w0.heap.size:=by rw[←hw0];simp
 have hs1:w0.heap.size+1=w1.heap.size:=by rw[←hw1];simp
 rw[hw0,hs0,hw1,hs1]
 have h66:Rd w1 w1.heap.size (some ⟨w0.heap.size,0,none⟩) (U8 [66]):=by rw[←hw1];exact Cm w0 #[.int .u8 66] 5
 have hb0:Below w.heap.size w w0:=by rw[←hw0];exact Aa w _ _
 have hb01:Below w.heap.size w w1:=by rw[←hw1];exact hb0.trans ((Aa w0 _ _).mono hb0.size)
 have HX0:=Lib.hid (show w1.heap[w.heap.size]?=some (.cells b32 83 (0,0)) by rw[←hw1,heap_alloc_old _ _ (by omega), ←hw0];exact heap_alloc_new w _)
 have HB01:=Lib.hid hb01
 have HB1:=Lib.hid (HB.out.next hb01)
 clear hs1 hw1 hb01
 refine(Uu [66] l L HL1.out 1 m k rfl HM.out HLK.out _ B 1 d w1 h66 HB1.out.rd (fun h=>by cases h) HB1.out.nil (by decide) HB1.out.lt (by have:=HK.out;omega) (by omega)).mono ?_
 rintro e w2 ⟨AL,cL,rfl,hs2,hb2⟩
 have HS2:=Lib.hid hs2
 have HB2:=Lib.hid (HB01.out.trans (hb2.mono HB01.out.size))
 have HX2:=Lib.hid ((hb2.block w.heap.size (Array.getElem?_eq_some_iff.1 HX0.out).1).trans HX0.out)
 clear hs2 hb2 h66
 go_wp2_with fail
 refine(Yu s L n k HN.out HLK.out A AL c cL w2 (HT.out.next HB2.out) (HA.out.next HB2.out).rd HS2.out.rd HA.out.nil HS2.out.nil HA.out.lt HLB.out h5 hk4 F HFV.out).mono ?_
 rintro e w3 ⟨rfl,hb3⟩
 have HX3:=Lib.hid ((hb3.block w.heap.size (Array.getElem?_eq_some_iff.1 HX2.out).1).trans HX2.out)
 have HB3:=Lib.hid (HB2.out.trans (hb3.mono HB2.out.size))
 clear hb3
 go_wp2_with ((with_reducible refine Ac 4 ?_);refine Al HX3.out HIF.out.1 HIF.out.2.2 ?_ (hold:=HIF.out.2.1);intro w6 hw6)
 have hr6:w6.heap[w.heap.size]?=some (.cells F 83 (0,0)):=by rw[hw6.out];exact setRow_heap _ _ _ _ _ _ HX3.out
 refine bodyPost_ret (results_cell_row Tryz.results56 _ w6 w.heap.size 83 _ (0,0) _ rfl hr6 Tryz.underlying83 rfl HIF.out.1) rfl ⟨rfl, ?_⟩
 exact HB3.out.trans (An hw6.out (Nat.le_refl _))
end Go.Proofs.YtmdbfogjfbbpjaaGreatDoor
end
section
namespace Go.Proofs.YtmdbfogjfbbpjaaGreatDoor
open Go.ChangeShapes Go.WideShapes Go.ChangeAt Go.RowKit
def Gu (w:World) (X:Nat) (l:List Int):Prop:=w.heap[X]?=some (.cells ((l.map fun x=>Value.int .i64 x).toArray) 100 (0,0))
theorem Gu.lt {w:World} {X:Nat} {l:List Int} (h:Gu w X l):X<w.heap.size:=(Array.getElem?_eq_some_iff.1 h).1
theorem Gu.alloc {w:World} {X:Nat} {l:List Int} (h:Gu w X l) (o:Obj):Gu (w.alloc o) X l:=(heap_alloc_old w o h.lt).trans h
theorem Gu.next {w w':World} {X:Nat} {l:List Int} (h:Gu w X l) (hb:Below w.heap.size w w'):Gu w' X l:=(hb.block _ h.lt).trans h
theorem Gu.set {w:World} {X:Nat} {l:List Int} (h:Gu w X l) (o:Nat) (x:Int):Gu (w.setCell ⟨X,o,none⟩ (.int .i64 x)) X (l.set o x):=by
 have:=heap_setCell_same w X o _ _ (.int .i64 x) h
 rw[Gu,this]
 simp[List.map_set]
theorem Gu.cell {w:World} {X o:Nat} {l:List Int} {x:Int} (h:Gu w X l) (ho:l[o]?=some x):w.cell? ⟨X,o,none⟩=some (.int .i64 x):=by
 rw[cell_of_row w X o _ _ (0,0) h]
 simp[ho]
theorem Gu.frozen {w:World} {X:Nat} {l:List Int} (h:Gu w X l) (o:Nat):w.frozen? ⟨X,o,none⟩=false:=frozen_of_row w X o _ _ h
theorem Gu.cells {w:World} {b:Nat} {r:Rg} (h:Gu w b (rgL r)):w.cell? ⟨b,0,none⟩=some (.int .i64 r.t.ser)∧w.cell? ⟨b,1,none⟩=some (.int .i64 r.t.kind)∧w.cell? ⟨b,2,none⟩=some (.int .i64 r.t.frm)∧w.cell? ⟨b,3,none⟩=some (.int .i64 r.t.till)∧w.cell? ⟨b,4,none⟩=some (.int .i64 r.t.cls)∧w.cell? ⟨b,5,none⟩=some (.int .i64 r.t.card)∧w.cell? ⟨b,6,none⟩=some (.int .i64 r.t.seat)∧w.cell? ⟨b,7,none⟩=some (.int .i64 r.t.day)∧w.cell? ⟨b,8,none⟩=some (.int .i64 r.t.days)∧w.cell? ⟨b,9,none⟩=some (.int .i64 r.t.uses)∧w.cell? ⟨b,10,none⟩=some (.int .i64 r.t.epoch)∧w.cell? ⟨b,11,none⟩=some (.int .i64 r.key)∧w.cell? ⟨b,12,none⟩=some (.int .i64 r.left)∧w.cell? ⟨b,13,none⟩=some (.int .i64 r.inn)∧w.cell? ⟨b,14,none⟩=some (.int .i64 r.ver):=
 ⟨h.cell rfl,h.cell rfl,h.cell rfl,h.cell rfl,h.cell rfl,h.cell rfl,h.cell rfl,h.cell rfl,h.cell rfl,h.cell rfl,h.cell rfl,h.cell rfl,h.cell rfl,h.cell rfl,h.cell rfl⟩
def wM (t:Nat):Nat:=if t=1 then 14 else if t=2 then 11 else if t=3 then 1 else if t=4 then 0 else t - 3
theorem Te {t:Nat} (h1:1≤t) (h2:t≤13):t=1∨t=2∨t=3∨t=4∨t=5∨t=6∨t=7∨t=8∨t=9∨t=10∨t=11∨t=12∨t=13:=by omega
theorem pR (r:Rg) {t:Nat} (h1:1≤t) (h2:t≤13):(rgL r)[wM t]?=some ((numL r).getD (t - 1) 0):=by
 rcases Te h1 h2 with rfl|rfl|rfl|rfl|rfl|rfl|rfl|rfl|rfl|rfl|rfl|rfl|rfl<;>rfl
theorem AdI {a:List Int} (ha:a.length=13) {t:Nat} (h1:1≤t) (h2:t≤13) (v:Int):(rgL (rdL a)).set (wM t) v=rgL (rdL (a.set (t - 1) v)):=by
 match a,ha with
 |[a0,a1,a2,a3,a4,a5,a6,a7,a8,a9,a10,a11,a12],_=>
  rcases Te h1 h2 with rfl|rfl|rfl|rfl|rfl|rfl|rfl|rfl|rfl|rfl|rfl|rfl|rfl<;>rfl
end Go.Proofs.YtmdbfogjfbbpjaaGreatDoor
end
