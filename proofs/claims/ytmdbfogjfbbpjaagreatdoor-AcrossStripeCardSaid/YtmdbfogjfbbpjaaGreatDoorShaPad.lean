import Derived.Test.YtmdbfogjfbbpjaaGreatDoorMem
import Derived.Test.YtmdbfogjfbbpjaaGreatDoorTrackBackMath
import Derived.Lib.AppendZeros
import Derived.Test.YtmdbfogjfbbpjaaGreatDoorShaBlock
set_option maxHeartbeats 800000
set_option maxRecDepth 100000
set_option linter.unusedVariables false
namespace Go.Proofs.YtmdbfogjfbbpjaaGreatDoor
set_option maxRecDepth 100000
open Go.ChangeShapes Go.WideShapes Go.ChangeAt Go.RowKit
def Cg (n:Nat):Nat:=(119 - n % 64) % 64
def padN (l:List Nat):List Nat:=l++128::(List.replicate (Cg l.length) 0++putB (8*l.length) 8)
def Hi (l:List Nat) (k:Nat):List Nat:=l++128::List.replicate k 0
theorem fN (l:List Nat) (k:Nat):(Hi l k).length=l.length+1+k:=by simp[Hi];omega
theorem pX (l:List Nat) (k:Nat):Hi l (k+1)=Hi l k++ [0]:=by simp[Hi,List.replicate_succ']
theorem fO (l:List Nat):padN l=Hi l (Cg l.length)++putB (8*l.length) 8:=by simp[padN,Hi]
theorem Fb (l:List Nat):(padN l).length=l.length+9+Cg l.length:=by rw[fO,List.length_append,fN,De];omega
theorem sV (l:List Nat) (h: ∀x∈l,x<256): ∀x∈padN l,x<256:=by
 intro x hx
 rw[fO,Hi]at hx
 simp only[List.mem_append,List.mem_cons,List.mem_replicate]at hx
 rcases hx with(hx|rfl|⟨_,rfl⟩)|hx
 ·exact h x hx
 ·omega
 ·omega
 ·exact sW _ _ x hx
theorem Gg (a b:List Nat):U8 (a++b)=U8 a++U8 b:=by simp[U8]
def xB:Value→Nat
 | .slice _ n _=>n
 |_=>0
def Zk (wr:World) (base n:Nat) (xs:List Nat) (v:Value):Prop:= ∃g cap,v= .slice (some ⟨g,0,none⟩) n cap∧wr.ownsRow base 5 1 (.slice (some ⟨g,0,none⟩) n cap) n (U8 xs)
theorem Zk.of {wr:World} {base n:Nat} {xs:List Nat} {v:Value} (h:wr.ownsRow base 5 1 v n (U8 xs)) (hn:0<n):Zk wr base n xs v:=by
 obtain⟨g,cap,e,_⟩:=h.form hn
 subst e
 exact⟨g,cap,rfl,h⟩
theorem xC (l:List Nat) (A:Option Addr) (c:Nat) (w:World) (hA:Rd w w.heap.size A (U8 l)) (hnil:A=none→c=0) (hl:l.length≤5000):
  Calls Tryz.prog 205 #[.slice A l.length c] w fun e w'=> ∃v,e= .returned v∧w'.ownsRow w.heap.size 5 1 v (padN l).length (U8 (padN l))∧Below w.heap.size w w':=by
 obtain⟨i0,hi,hz0,hz1,hz2⟩:=info_parts Be
 obtain⟨n,hn⟩: ∃n,n=l.length:=⟨_,rfl⟩
 have HN:=Lib.hid hn
 have HNIL:=Lib.hid hnil
 have hlen:(U8 l).length=n:=by simp[U8,hn]
 have HLEN:=Lib.hid hlen
 have hz:Cg n≤63:=by unfold Cg;omega
 rw[←hn]at hl⊢
 clear hn hnil hlen
 go_enter Tryz.func205, Tryz.ntmps205
 go_wp2_with (first
  |(at_builtin;refine Af _ rfl (.tmp 9) (.tmp 10) 23 rfl w.heap.size 5 i0 (.int .u8 0) 1 Tryz.underlying23 hi hz0 hz1 hz2 rfl (.slice (some ⟨w.heap.size,0,none⟩) 0 0) 0 [] rfl (World.ownsRow_lit w #[] 0 (Nat.le_refl _) (by decide) rfl) w.heap.size A n c (U8 l) rfl (hA.alloc (Nat.le_refl _) _) HLEN.out HNIL.out (Bd l) (by unfold maxLen;omega) (by omega) (by simp) ?_;intro v1 w1 hown1 hg1;have hb1:Below w.heap.size w w1:=((Below.refl _ _).alloc (Nat.le_refl _) _).grown hg1 (by simp) (fun g hg=>by simp[Value.ownBlock]at hg;omega))
  |(at_builtin;refine Af _ rfl (.tmp 12) (.tmp 13) 23 rfl w.heap.size 5 i0 (.int .u8 0) 1 Tryz.underlying23 hi hz0 hz1 hz2 rfl v1 (0+n) ([]++U8 l) rfl (hown1.alloc _) (w1.heap.size+1) (some ⟨w1.heap.size,0,none⟩) 1 1 [.int .u8 128] rfl ((Cm w1 #[.int .u8 128] 5).more (by simp)) rfl (fun h=>by cases h) (fun u hu=>by simp at hu;subst hu;rfl) (by unfold maxLen;omega) (by omega) (by have:=hb1.size;simp;omega) ?_;intro v2 w2 hown2 hg2))
 have hb2:Below w.heap.size w w2:=(hb1.alloc hb1.size _).grown hg2 (by have:=hb1.size;simp;omega) (fun g hg=>Ak hown1 hg)
 have hrow:Zk w2 w.heap.size (n+1+0) (Hi l 0) v2:=by
  refine Zk.of ?_ (by omega)
  have e:U8 (Hi l 0)=[]++U8 l++ [.int .u8 128]:=by simp[Hi,U8]
  rw[e]
  simpa using hown2
 have HR:=Lib.hid hrow
 clear hown1 hg1 hown2 hg2 hrow
 go_loopw [3] (fun v wr=> ∃k:Nat,k≤Cg n∧Zk wr w.heap.size (n+1+k) (Hi l k) v∧Below w.heap.size w wr) (fun v _=>n+1+Cg n - xB v)
 case atStart=>exact⟨0,Nat.zero_le _,HR.out,hb2⟩
 case round=>
  clear HR hb1 hb2
  obtain⟨k,hk,⟨g,cap,rfl,hown⟩,hbel⟩:=hrel
  have hbs:=hbel.size
  obtain⟨m,hm⟩: ∃m,m=n+1+k:=⟨_,rfl⟩
  have hmle:m≤5064:=by omega
  rw[←hm]at hown⊢
  by_cases hlt:k<Cg n
  ·have ht:((m:Int) % 64 !=56)=true:=by
    unfold Cg at hlt
    simp
    omega
   have HM:=Lib.hid hm
   clear hm
   go_wp2_with (at_builtin;refine Af _ rfl _ _ 23 rfl w.heap.size 5 i0 (.int .u8 0) 1 Tryz.underlying23 hi hz0 hz1 hz2 rfl (.slice (some ⟨g,0,none⟩) m cap) m (U8 (Hi l k)) rfl (hown.alloc _) (wr.heap.size+1) (some ⟨wr.heap.size,0,none⟩) 1 1 [.int .u8 0] rfl ((Cm wr #[.int .u8 0] 5).more (by simp)) rfl (fun h=>by cases h) (fun u hu=>by simp at hu;subst hu;rfl) (by unfold maxLen;omega) (by omega) (by simp;omega) ?_;intro v3 w3 hown3 hg3)
   have hb3:Below w.heap.size w w3:=(hbel.alloc hbs _).grown hg3 (by simp;omega) (fun g hg=>Ak hown hg)
   have hrow:Zk w3 w.heap.size (n+1+(k+1)) (Hi l (k+1)) v3:=by
    refine Zk.of ?_ (by omega)
    have e:U8 (Hi l (k+1))=U8 (Hi l k)++ [.int .u8 0]:=by rw[pX,Gg];rfl
    rw[e,show n+1+(k+1)=m+1 by have:=HM.out;omega]
    exact hown3
   have hlv:xB v3=m+1:=by
    obtain⟨g',cap',e,_⟩:=hrow
    subst e
    have:=HM.out
    simp[xB]
    omega
   have HR:=Lib.hid hrow
   have HLV:=Lib.hid hlv
   clear hown3 hg3 hrow hlv
   go_wp2
   go_roundw
   case rel=>exact⟨k+1,by omega,HR.out,hb3⟩
   case measure=>
    have h1:=HLV.out
    have h2:=HM.out
    rw[h1]
    simp only[xB]
    omega
  ·have ek:k=Cg n:=by omega
   have ht:((m:Int) % 64 !=56)=false:=by
    subst ek
    unfold Cg at hm
    simp
    omega
   have HM:=Lib.hid hm
   have HK:=Lib.hid ek
   clear hm ek
   have hown0:=hown
   have HO:=Lib.hid hown
   clear hown hown0
   go_wp2
   obtain⟨wo,rfl⟩: ∃wo:World,wo=wr:=⟨_,rfl⟩
   go_loopw [4,5,6] (fun t v i wr=> ∃j:Nat,j≤8∧i= .int .i64 j∧t= .int .i64 (8*n / 256^j:Nat)∧Zk wr wo.heap.size j (putB (8*n) j) v∧Below wo.heap.size wo wr) (fun _ _ i _=>8 - (intOf i).toNat)
   case atStart=>exact⟨0,Nat.zero_le _,rfl,by simp,⟨_,_,rfl,World.ownsRow_lit wo #[] 0 (Nat.le_refl _) (by decide) rfl⟩,(Below.refl _ _).alloc (Nat.le_refl _) _⟩
   case round=>
    obtain⟨j,hj,rfl,rfl,⟨g2,cap2,rfl,hown2⟩,hbel2⟩:=hrel
    have hbs2:=hbel2.size
    by_cases hj8:j<8
    ·have hy:8*n / 256^j≤40000:=Nat.le_trans (Nat.div_le_self _ _) (by omega)
     have hy2:8*n / 256^(j+1)=8*n / 256^j / 256:=by rw[Nat.pow_succ,Nat.div_div_eq_div_mul]
     have hp:putB (8*n) (j+1)=8*n / 256^j % 256::putB (8*n) j:=rfl
     generalize 8*n / 256^j=y at*
     have HY:=Lib.hid hy2
     have HP:=Lib.hid hp
     have hlen:(U8 (putB (8*n) j)).length=j:=by simp[U8,De]
     have HL2:=Lib.hid hlen
     have hrd:=(Rd.of_own hown2).alloc (Nat.le_refl _) (.cells #[.int .u8 ((y:Int) % 256)] 5)
     clear hy2 hp hlen
     go_wp2_with (at_builtin;refine Af _ rfl _ _ 23 rfl wo.heap.size 5 i0 (.int .u8 0) 1 Tryz.underlying23 hi hz0 hz1 hz2 rfl (.slice (some ⟨wr.heap.size,0,none⟩) 1 1) 1 [.int .u8 ((y:Int) % 256)] rfl (World.ownsRow_lit wr #[.int .u8 ((y:Int) % 256)] 1 hbs2 (by decide) rfl) wr.heap.size (some ⟨g2,0,none⟩) j cap2 (U8 (putB (8*n) j)) rfl hrd HL2.out (fun h=>by cases h) (Bd _) (by unfold maxLen;omega) (by omega) (by simp;omega) ?_;intro v3 w3 hown3 hg3)
     have hb3:Below wo.heap.size wo w3:=(hbel2.alloc hbs2 _).grown hg3 (by simp;omega) (fun g hg=>by simp[Value.ownBlock]at hg;omega)
     have hrow:Zk w3 wo.heap.size (j+1) (putB (8*n) (j+1)) v3:=by
      refine Zk.of ?_ (by omega)
      have e:U8 (putB (8*n) (j+1))=[.int .u8 ((y:Int) % 256)]++U8 (putB (8*n) j):=by rw[HP.out];simp[U8]
      rw[e,Nat.add_comm j 1]
      exact hown3
     have HR:=Lib.hid hrow
     clear hown3 hg3 hrow hown2 hrd hbel2
     go_wp2
     go_roundw
     case rel=>exact⟨j+1,by omega,by go_num,by rw[HY.out];go_num,HR.out,hb3⟩
     case measure=>simp[intOf];omega
    ·have ej:j=8:=by omega
     subst ej
     have hob:=Aj HO.out hbel2
     have hrd:=Rd.of_own hown2
     have hlen:(U8 (putB (8*n) 8)).length=8:=by simp[U8,De]
     have HL2:=Lib.hid hlen
     clear hlen
     generalize 8*n / 256^8=y at*
     go_wp2_with (at_builtin;refine Af _ rfl _ _ 23 rfl w.heap.size 5 i0 (.int .u8 0) 1 Tryz.underlying23 hi hz0 hz1 hz2 rfl (.slice (some ⟨g,0,none⟩) m cap) m (U8 (Hi l k)) rfl hob wr.heap.size (some ⟨g2,0,none⟩) 8 cap2 (U8 (putB (8*n) 8)) rfl hrd HL2.out (fun h=>by cases h) (Bd _) (by unfold maxLen;omega) (by omega) (by omega) ?_;intro v3 w3 hown3 hg3)
     have hb3:Below w.heap.size w w3:=(hbel.trans (hbel2.mono hbs)).grown hg3 (by omega) (fun g hg=>Ak hob hg)
     have e1:U8 (Hi l k)++U8 (putB (8*n) 8)=U8 (padN l):=by rw[←Gg,HK.out,HN.out,fO]
     have e2:m+8=(padN l).length:=by rw[Fb, ←HN.out,HM.out,HK.out];omega
     rw[e1,e2]at hown3
     have HOW:=Lib.hid hown3
     clear hown3 hg3 e1 e2
     go_wp2
     go_ret
     exact⟨_,rfl,HOW.out,hb3⟩
theorem Ab9 (n:Nat) (w:World) (h0:0<n) (hn:n≤140737488355328):
  Calls Tryz.prog 103 #[.slice none 0 0, .int .i64 n] w fun e w'=> ∃v,e= .returned v∧w'.ownsRow w.heap.size 5 1 v 0 []∧Below w.heap.size w w':=by
 obtain⟨i0,hi,hz0,hz1,hz2⟩:=info_parts Be
 have hrun:=Lib.run_append_nil_zeros (P:= Tryz.prog) w 23 3 23 5 i0 (.int .u8 0) .i64 .i64 Tryz.underlying23 Tryz.underlying3 hi hz0 n h0 (by rw[hz1];omega) (by omega) (by rw[hz2];omega)
 have HRUN:=Lib.hid hrun
 clear hrun
 go_enter Tryz.func103, Tryz.ntmps103
 go_wp2_with (at_builtin;refine Lib.wpList_append_run _ rfl (.tmp 20) (.tmp 21) 23 3 rfl (.slice none 0 0) (.int .i64 n) rfl rfl _ _ HRUN.out ?_)
 go_ret
 have hc1:=grownCap_ge w n 0 5
 have hc2:=grownCap_le_maxLen w n 0 5 (by unfold maxLen;omega)
 refine⟨_,rfl,⟨rfl, .inr ⟨w.heap.size,grownCap w n 0 5,Builtin.zeroCells #[Value.int IntKind.u8 0] n++Builtin.zeroCells #[Value.int IntKind.u8 0] (grownCap w n 0 5 - n),rfl,Nat.le_refl _, ?_,Nat.zero_le _,hc2, ?_, ?_⟩⟩, ?_⟩
 ·exact heap_alloc_new w _
 ·simp[size_zeroCells];omega
 ·simp
 ·exact((Below.refl _ _).alloc (Nat.le_refl _) _).drew
structure Part where
 A:Option Addr
 l:List Nat
 c:Nat
def Part.val (p:Part):Value:= .slice p.A p.l.length p.c
def Part.ok (w:World) (p:Part):Prop:=Rd w w.heap.size p.A (U8 p.l)∧(p.A=none→p.c=0)
def Cf (ps:List Part):List Nat:=(ps.map (·.l)).flatten
theorem Ru (a b:List Part):Cf (a++b)=Cf a++Cf b:=by simp[Cf]
theorem AbA (p:Part):Cf [p]=p.l:=by simp[Cf]
theorem bO (ps:List Part) (k:Nat) (h:k<ps.length):Cf (ps.take (k+1))=Cf (ps.take k)++ps[k].l:=by
 rw[List.take_succ_eq_append_getElem h,Ru,AbA]
theorem fP (ps:List Part) (k:Nat):(Cf (ps.take k)).length≤(Cf ps).length:=by
 have h:Cf ps=Cf (ps.take k)++Cf (ps.drop k):=by rw[←Ru,List.take_append_drop]
 rw[h,List.length_append];omega
theorem Lx (ps:List Part) (g m c:Nat) (w:World) (hm:ps.length=m) (hg:g<w.heap.size) (hcell: ∀i p,ps[i]?=some p→w.cell? ⟨g,i,none⟩=some p.val) (hok: ∀p∈ps,p.ok w) (hm2:m≤1000)
  (h0:0<(Cf ps).length) (hn:(Cf ps).length≤140737488355328):
  Calls Tryz.prog 58 #[.slice (some ⟨g,0,none⟩) m c] w fun e w'=> ∃v,e= .returned v∧w'.ownsRow w.heap.size 5 1 v (Cf ps).length (U8 (Cf ps))∧Below w.heap.size w w':=by
 obtain⟨i0,hi,hz0,hz1,hz2⟩:=info_parts Be
 have HM:=Lib.hid hm
 have HCELL:=Lib.hid hcell
 have HOK:=Lib.hid hok
 obtain⟨N,hN⟩: ∃N,N=(Cf ps).length:=⟨_,rfl⟩
 rw[←hN]at h0 hn⊢
 have HN:=Lib.hid hN
 clear hm hcell hok hN
 go_enter Tryz.func58, Tryz.ntmps58
 go_wp2_with fail
 go_loop [3,11] (fun s i=> ∃k:Nat,k≤m∧i= .int .i64 k∧s= .int .i64 ((Cf (ps.take k)).length:Nat)) (fun _ i=>m - (intOf i).toNat)
 case atStart=>exact⟨0,Nat.zero_le _,rfl,rfl⟩
 case round=>
  obtain⟨k,hk,rfl,rfl⟩:=hrel
  have hle:=fP ps k
  rw[←HN.out]at hle
  by_cases hlt:k<m
  ·have hkp:k<ps.length:=by rw[HM.out];exact hlt
   have hck:=HCELL.out k ps[k] (List.getElem?_eq_getElem hkp)
   unfold Part.val at hck
   have hfs:(Cf (ps.take (k+1))).length=(Cf (ps.take k)).length+ps[k].l.length:=by rw[bO ps k hkp,List.length_append]
   have hle2:=fP ps (k+1)
   rw[←HN.out]at hle2
   have HFS:=Lib.hid hfs
   have hb:(Cf (ps.take k)).length+ps[k].l.length≤140737488355328:=by omega
   clear hfs hle2
   generalize (Cf (ps.take k)).length=S at*
   generalize ps[k].l.length=n1 at*
   generalize ps[k].A=A1 at*
   generalize ps[k].c=c1 at*
   go_wp2
   go_round
   case rel=>exact⟨k+1,by omega,by go_num,by rw[HFS.out];go_num⟩
   case measure=>simp[intOf];omega
  ·have ek:k=m:=by omega
   subst ek
   have hS:(Cf (ps.take k)).length=N:=by rw[List.take_of_length_le (by rw[HM.out];omega),HN.out]
   rw[hS]
   clear hle hS
   go_wp2_with fail
   refine(Ab9 N w h0 hn).mono ?_
   rintro e w1 ⟨v1,rfl,hown1,hb1⟩
   have HOWN1:=Lib.hid hown1
   clear hown1
   go_wp2_with fail
   go_loopw [6,27] (fun v i wr=> ∃j:Nat,j≤k∧i= .int .i64 j∧wr.ownsRow w.heap.size 5 1 v (Cf (ps.take j)).length (U8 (Cf (ps.take j)))∧Below w.heap.size w wr) (fun _ i _=>k - (intOf i).toNat)
   case atStart=>exact⟨0,Nat.zero_le _,rfl,HOWN1.out,hb1⟩
   case round=>
    clear hb1
    obtain⟨j,hj,rfl,hown,hbel⟩:=hrel
    have hbs:=hbel.size
    by_cases hlt:j<k
    ·have hjp:j<ps.length:=by rw[HM.out];exact hlt
     have hcj:wr.cell? ⟨g,j,none⟩=some ps[j].val:=(hbel.cell (p:=⟨g,j,none⟩) hg).trans (HCELL.out j ps[j] (List.getElem?_eq_getElem hjp))
     unfold Part.val at hcj
     obtain⟨hrd,hnil⟩:=HOK.out ps[j] (List.getElem_mem hjp)
     have hrd':=hrd.below hbel
     have hfs:=bO ps j hjp
     have hle2:=fP ps (j+1)
     rw[←HN.out,hfs,List.length_append]at hle2
     have HFS:=Lib.hid hfs
     have HR:=Lib.hid hrd'
     have HNL:=Lib.hid hnil
     have HO:=Lib.hid hown
     have hlen:(U8 ps[j].l).length=ps[j].l.length:=by simp[U8]
     have HL:=Lib.hid hlen
     have hone:=Lib.hid (Bd ps[j].l)
     clear hrd hrd' hnil hfs hown hlen
     generalize Cf (ps.take j)=F at*
     generalize ps[j].l=l1 at*
     generalize ps[j].A=A1 at*
     generalize ps[j].c=c1 at*
     go_wp2_with (at_builtin;refine Af _ rfl (.tmp 31) (.tmp 32) 23 rfl w.heap.size 5 i0 (.int .u8 0) 1 Tryz.underlying23 hi hz0 hz1 hz2 rfl _ F.length (U8 F) rfl HO.out w.heap.size A1 l1.length c1 (U8 l1) rfl HR.out HL.out HNL.out hone.out (by unfold maxLen;omega) (by omega) hbs ?_;intro v2 w2 hown2 hg2)
     have hb2:Below w.heap.size w w2:=hbel.grown hg2 hbs (fun g hg=>Ak HO.out hg)
     have HO2:=Lib.hid hown2
     clear hown2 hg2
     go_wp2
     go_roundw
     case rel=>
      refine⟨j+1,by omega,by go_num, ?_,hb2⟩
      rw[HFS.out,Gg,List.length_append]
      exact HO2.out
     case measure=>simp[intOf];omega
    ·have ej:j=k:=by omega
     subst ej
     rw[List.take_of_length_le (by rw[HM.out];omega), ←HN.out]at hown
     have HO:=Lib.hid hown
     clear hown
     go_wp2
     go_ret
     exact⟨_,rfl,HO.out,hbel⟩
theorem lJ (x e:Nat):(x:Int) / 2^e % 256=((x / 2^e % 256:Nat):Int):=by simp
theorem bP (k:Nat):256^k=2^(8*k):=by rw[Nat.pow_mul]
theorem AdS (n size:Nat) (h:n<256^size):((n:Int) / 2^(8*size) !=0)=false:=by
 have e:(n:Int) / 2^(8*size)=((n / 2^(8*size):Nat):Int):=by simp
 rw[e,bne_eq_false_iff_eq]
 rw[bP]at h
 rw[Nat.div_eq_of_lt h];rfl
theorem AbB (n size:Nat) (w:World) (hn:n<9223372036854775808) (hs:size≤8) (h:n<256^size):
  Calls Tryz.prog 196 #[.int .i64 n, .int .i64 size] w fun e w'=> ∃g cap,e= .returned (.tuple #[.slice (some ⟨g,0,none⟩) size cap, .int .i64 0])∧
   w'.ownsRow w.heap.size 5 1 (.slice (some ⟨g,0,none⟩) size cap) size (U8 (putB n size))∧Below w.heap.size w w':=by
 obtain⟨i0,hi,hz0,hz1,hz2⟩:=info_parts Be
 have hov:=AdS n size h
 clear h
 go_enter Tryz.func196, Tryz.ntmps196
 go_wp2_with (at_make;refine wpList_make_full _ rfl _ _ 23 rfl w.heap.size 5 i0 (.int .u8 0) 1 Tryz.underlying23 hi hz0 hz1 _ _ _ _ size rfl rfl (by omega) (by omega) ?b2 ?b3 (Nat.le_refl _) ?_)
 case b2=>rw[hz2];omega
 case b3=>unfold maxLen;omega
 intro w1 hown hg
 have hown1:w1.ownsRow w.heap.size 5 1 (.slice (some ⟨w.heap.size,0,none⟩) size size) size (U8 (Eb n size 0)):=by
  rw[toList_madeCells_one]at hown
  rw[fW,U8,List.map_replicate]
  exact hown
 have hbel:Below w.heap.size w w1:=(Below.refl _ _).grown hg (Nat.le_refl _) (by simp)
 clear hown hg
 go_wp2
 go_loopw [28] (fun i wr=> ∃k:Nat,k≤size∧i= .int .i64 k∧wr.ownsRow w.heap.size 5 1 (.slice (some ⟨w.heap.size,0,none⟩) size size) size (U8 (Eb n size k))∧Below w.heap.size w wr) (fun i _=>size - (intOf i).toNat)
 case atStart=>exact⟨0,Nat.zero_le _,rfl,hown1,hbel⟩
 case round=>
  clear hown1 hbel
  obtain⟨k,hk,rfl,hown,hbel⟩:=hrel
  by_cases hlt:k<size
  ·have hc2: ∃v,wr.cell? ⟨w.heap.size,k,none⟩=some v:=by
    rw[hown.cellAt k (by omega),U8,List.getElem?_map]
    rw[List.getElem?_eq_getElem (by simp[Eb];omega)]
    exact⟨_,rfl⟩
   obtain⟨v2,hc2⟩:=hc2
   have hf:=hown.frozenAt k
   have hst:=(hown.stored k (.int .u8 ((n / 256^(size - 1 - k) % 256:Nat):Int))).1
   have hset:(U8 (Eb n size k)).set k (.int .u8 ((n / 256^(size - 1 - k) % 256:Nat):Int))=U8 (Eb n size (k+1)):=by
    rw[←lX n size k,U8,U8,List.map_set]
   rw[hset,bP]at hst
   clear hset
   have HST:=Lib.hid hst
   have HOW:=Lib.hid hown
   clear hst hown
   go_wp2
   go_roundw
   case rel=>
    refine⟨k+1,by omega,by go_num, ?_,hbel.setCell (Nat.le_refl _) _⟩
    rw[lJ]
    exact HST.out
   case measure=>simp[intOf];omega
  ·have e:Eb n size k=putB n size:=by
    have e1:k=size:=by omega
    rw[e1,lY]
   rw[e]at hown
   clear e
   go_wp2
   go_ret2
   exact⟨_,_,rfl,hown,hbel⟩
def Xs (n:Nat):List Nat:=128::(List.replicate (Cg n) 0++putB (8*n) 8)
theorem xD (l:List Nat):padN l=l++Xs l.length:=rfl
theorem Un (n:Nat):(Xs n).length=9+Cg n:=by simp[Xs,De];omega
theorem Oa {w:World} {ps:List Part} {cs:Array Value} {t:TypeId} (h:cs=(ps.map Part.val).toArray): ∀i p,ps[i]?=some p→(w.alloc (.cells cs t)).cell? ⟨w.heap.size,i,none⟩=some p.val:=by
 intro i p hp
 rw[h,cell_of_row _ _ i _ t (0,0) (heap_alloc_new w _),List.getElem?_toArray,List.getElem?_map,hp];rfl
theorem Part.ok_alloc {w:World} {p:Part} (h:p.ok w) (o:Obj):p.ok (w.alloc o):=⟨(h.1.alloc (Nat.le_refl _) o).more (by simp),h.2⟩
theorem lK (n:Nat) (w:World) (hn:n≤140737488351232):
  Calls Tryz.prog 229 #[.int .i64 n] w fun e w'=> ∃v,e= .returned v∧w'.ownsRow w.heap.size 5 1 v (Xs n).length (U8 (Xs n))∧Below w.heap.size w w':=by
 obtain⟨i0,hi,hz0,hz1,hz2⟩:=info_parts Be
 go_enter Tryz.func229, Tryz.ntmps229
 go_wp2_with fail
 rw[show(8:Int)*(n:Int)=((8*n:Nat):Int) by omega]
 refine(AbB (8*n) 8 _ (by omega) (by omega) (by omega)).mono ?_
 rintro e w1 ⟨g1,c1,rfl,hown1,hb1⟩
 have HOWN1:=Lib.hid hown1
 have hs1:=hb1.size
 have hz:Cg n≤63:=by unfold Cg;omega
 clear hown1
 go_wp2_with (at_make;refine wpList_make_full _ rfl (.tmp 21) (.tmp 21) 23 rfl w.heap.size 5 i0 (.int .u8 0) 1 Tryz.underlying23 hi hz0 hz1 _ _ _ _ (Cg n) rfl rfl ?b0 ?b1 ?b2 ?b3 ?b4 ?_)
 case b0=>unfold Cg;omega
 case b1=>unfold Cg;omega
 case b2=>rw[hz2];omega
 case b3=>unfold maxLen;omega
 case b4=>simp;omega
 intro w2 hown2 hg2
 rw[toList_madeCells_one]at hown2
 have hb12:Below w1.heap.size w1 w2:=((Below.refl _ _).alloc (Nat.le_refl _) _).grown hg2 (by simp) (by simp)
 have h128:Rd w2 w2.heap.size (some ⟨w1.heap.size,0,none⟩) (U8 [128]):=by
  have h1:=Cm w1 #[.int .u8 128] 5
  have h2:Below (w1.alloc (.cells #[.int .u8 128] 5)).heap.size (w1.alloc (.cells #[.int .u8 128] 5)) w2:=(Below.refl _ _).grown hg2 (Nat.le_refl _) (by simp)
  exact h1.next h2
 have hsz2:w1.heap.size+1≤w2.heap.size:=by have:=hg2.size;simpa using this
 have hrd2:=Rd.of_own hown2
 have hrd1:=(Rd.of_own HOWN1.out).next hb12
 have H128:=Lib.hid h128
 have HR1:=Lib.hid hrd1
 have HR2:=Lib.hid hrd2
 have hb2:Below w.heap.size w w2:=hb1.trans (hb12.mono hs1)
 clear h128 hrd1 hrd2 hown2 hg2 hb12 hb1
 go_wp2_with fail
 have hfl:Cf [⟨some ⟨w1.heap.size,0,none⟩,[128],1⟩,⟨some ⟨w1.heap.size+1,0,none⟩,List.replicate (Cg n) 0,Cg n⟩,⟨some ⟨g1,0,none⟩,putB (8*n) 8,c1⟩]=Xs n:=by simp[Cf,Xs]
 refine(Lx [⟨some ⟨w1.heap.size,0,none⟩,[128],1⟩,⟨some ⟨w1.heap.size+1,0,none⟩,List.replicate (Cg n) 0,Cg n⟩,⟨some ⟨g1,0,none⟩,putB (8*n) 8,c1⟩] w2.heap.size 3 3 _ rfl (by simp) (Oa (by simp[Part.val,De])) ?_ (by omega) (by rw[hfl,Un];omega) (by rw[hfl,Un];omega)).mono ?_
 ·intro p hp
  refine Part.ok_alloc ?_ _
  simp only[List.mem_cons,List.not_mem_nil,or_false]at hp
  rcases hp with rfl|rfl|rfl
  ·exact⟨H128.out,fun h=>by cases h⟩
  ·refine⟨?_,fun h=>by cases h⟩
   have:=HR2.out
   simp only[U8,List.map_replicate]
   simpa using this
  ·exact⟨HR1.out,fun h=>by cases h⟩
 ·rw[hfl]
  clear hfl
  rintro e w3 ⟨v3,rfl,hown3,hb3⟩
  have hbb:Below w.heap.size w w3:=(hb2.alloc hb2.size _).trans (hb3.mono (by have:=hb2.size;simp;omega))
  have hown4:w3.ownsRow w.heap.size 5 1 v3 (Xs n).length (U8 (Xs n)):=⟨hown3.1,hown3.2.imp id fun⟨g,cap,cur,h1,h2,h3⟩=>⟨g,cap,cur,h1,by have:=hb2.size;simp at h2;omega,h3⟩⟩
  have HO:=Lib.hid hown4
  clear hown3 hown4
  go_wp2
  go_ret
  exact⟨_,rfl,HO.out,hbb⟩
theorem Aft (l:List Nat) (A:Option Addr) (c:Nat) (w:World) (hA:Rd w w.heap.size A (U8 l)) (hnil:A=none→c=0) (hl:l.length≤140737488351232):
  Calls Tryz.prog 198 #[.slice A l.length c] w fun e w'=> ∃v,e= .returned v∧w'.ownsRow w.heap.size 5 1 v (padN l).length (U8 (padN l))∧Below w.heap.size w w':=by
 obtain⟨n,hn⟩: ∃n,n=l.length:=⟨_,rfl⟩
 have HN:=Lib.hid hn
 have HNIL:=Lib.hid hnil
 rw[←hn]at hl⊢
 clear hn hnil
 go_enter Tryz.func198, Tryz.ntmps198
 go_wp2_with fail
 refine(lK n w hl).mono ?_
 rintro e w1 ⟨v1,rfl,hown1,hb1⟩
 obtain⟨A1,c1,rfl,hr1⟩:=Iq hown1
 have hnil1:A1=none→c1=0:=by
  rintro rfl
  rcases hown1.2 with⟨h,_⟩|⟨g,cap,cur,h,_⟩
  ·simp at h;exact h.2
  ·simp at h
 have HR1:=Lib.hid hr1
 have HNIL1:=Lib.hid hnil1
 clear hown1 hr1 hnil1
 have hA1:=hA.next hb1
 go_wp2_with fail
 have hfl:Cf [⟨A,l,c⟩,⟨A1,Xs n,c1⟩]=padN l:=by rw[xD, ←HN.out];simp[Cf]
 refine(Lx [⟨A,l,c⟩,⟨A1,Xs n,c1⟩] w1.heap.size 2 2 _ rfl (by simp) (Oa (by simp[Part.val];exact HN.out)) ?_ (by omega) (by rw[hfl,Fb];omega) (by rw[hfl,Fb, ←HN.out];unfold Cg;omega)).mono ?_
 ·intro p hp
  refine Part.ok_alloc ?_ _
  simp only[List.mem_cons,List.not_mem_nil,or_false]at hp
  rcases hp with rfl|rfl
  ·exact⟨hA1,HNIL.out⟩
  ·exact⟨HR1.out,HNIL1.out⟩
 ·rw[hfl]
  clear hfl
  rintro e w3 ⟨v3,rfl,hown3,hb3⟩
  have hbb:Below w.heap.size w w3:=(hb1.alloc hb1.size _).trans (hb3.mono (by have:=hb1.size;simp;omega))
  have hown4:w3.ownsRow w.heap.size 5 1 v3 (padN l).length (U8 (padN l)):=⟨hown3.1,hown3.2.imp id fun⟨g,cap,cur,h1,h2,h3⟩=>⟨g,cap,cur,h1,by have:=hb1.size;simp at h2;omega,h3⟩⟩
  have HO:=Lib.hid hown4
  clear hown3 hown4
  go_wp2
  go_ret
  exact⟨_,rfl,HO.out,hbb⟩
theorem xE (a b:Nat) (ha:a<16777216) (hb:b<256):bits .or .u32 ((a:Int)*256) (b:Int)=((a*256+b:Nat):Int):=by
 have e:(a:Int)*256=((a*256:Nat):Int):=by omega
 rw[e,u32_or_nat _ _ (by omega) (by omega)]
 have h:=Nat.two_pow_add_eq_or_of_lt (i:=8) (b:=b) (by omega) a
 simp only[Nat.reducePow]at h
 rw[Nat.mul_comm, ←h,Nat.mul_comm]
theorem AbC (l:List Nat) (A:Option Addr) (c:Nat) (w:World) (hA:Rd w w.heap.size A (U8 l)) (hb: ∀x∈l,x<256) (hl:l.length≤4000) (h4:l.length % 4=0):
  Calls Tryz.prog 232 #[.slice A l.length c] w fun e w'=> ∃g cap,e= .returned (.tuple #[.slice (some ⟨g,0,none⟩) (l.length / 4) cap, .int .i64 0])∧
   w'.ownsRow w.heap.size 192 1 (.slice (some ⟨g,0,none⟩) (l.length / 4) cap) (l.length / 4) (U32 (wordsOf l))∧Below w.heap.size w w':=by
 obtain⟨i0,hi,hz0,hz1,hz2⟩:=info_parts eJ
 obtain⟨n,hn⟩: ∃n,n=l.length:=⟨_,rfl⟩
 rw[←hn]at hl h4⊢
 obtain⟨m,hm⟩: ∃m,m=n / 4:=⟨_,rfl⟩
 have HN:=Lib.hid hn
 have HM:=Lib.hid hm
 have HB:=Lib.hid hb
 have hmn:4*m≤n:=by omega
 have hnm:n≤4*m:=by omega
 rw[←hm]
 clear hn hm hb
 go_enter Tryz.func232, Tryz.ntmps232
 go_wp2_with (at_make;refine wpList_make_full _ rfl _ _ 200 rfl w.heap.size 192 i0 (.int .u32 0) 1 Tryz.underlying200 hi hz0 hz1 _ _ _ _ m rfl rfl (by omega) (by omega) ?b2 ?b3 (Nat.le_refl _) ?_)
 case b2=>rw[hz2];omega
 case b3=>unfold maxLen;omega
 intro w1 hown hg
 have hown1:w1.ownsRow w.heap.size 192 1 (.slice (some ⟨w.heap.size,0,none⟩) m m) m (U32 (Ax l m 0)):=by
  rw[toList_madeCells_one]at hown
  rw[Xw,U32,List.map_replicate]
  exact hown
 have hbel:Below w.heap.size w w1:=(Below.refl _ _).grown hg (Nat.le_refl _) (by simp)
 clear hown hg
 go_wp2
 go_loopw [16] (fun i wr=> ∃k:Nat,k≤n∧i= .int .i64 k∧wr.ownsRow w.heap.size 192 1 (.slice (some ⟨w.heap.size,0,none⟩) m m) m (U32 (Ax l m k))∧Below w.heap.size w wr) (fun i _=>n - (intOf i).toNat)
 case atStart=>exact⟨0,Nat.zero_le _,rfl,hown1,hbel⟩
 case round=>
  clear hown1 hbel
  obtain⟨k,hk,rfl,hown,hbel⟩:=hrel
  by_cases hlt:k<n
  ·have hkl:k<l.length:=by rw[←HN.out];exact hlt
   obtain⟨ad,rfl,hab,hc0⟩:=hA k _ (Co l k hkl)
   have hc:wr.cell? (ad.add k)=some (.int .u8 (l[k]:Nat)):=(hbel.cell (by rw[add_block];exact hab)).trans hc0
   have hkm:k / 4<m:=by omega
   have hc2:wr.cell? ⟨w.heap.size,k / 4,none⟩=some (.int .u32 (Cz l k (k / 4):Nat)):=by
    rw[hown.cellAt (k / 4) (by omega),U32,List.getElem?_map,Zn l m k (k / 4) hkm];rfl
   have hf:=hown.frozenAt (k / 4)
   have hx:=HB.out _ (List.getElem_mem hkl)
   have hy:=lV l HB.out k
   have hst:=(hown.stored (k / 4) (.int .u32 ((Cz l k (k / 4)*256+l[k]:Nat):Int))).1
   have hset:(U32 (Ax l m k)).set (k / 4) (.int .u32 ((Cz l k (k / 4)*256+l[k]:Nat):Int))=U32 (Ax l m (k+1)):=by
    rw[←Zm l m k hkl,U32,U32,List.map_set]
   rw[hset]at hst
   clear hset
   generalize l[k]=x at*
   generalize Cz l k (k / 4)=y at*
   have HST:=Lib.hid hst
   have HOW:=Lib.hid hown
   clear hst hown hA hc0
   go_wp2
   go_region
   go_wp2
   go_roundw
   case rel=>
    refine⟨k+1,by omega,by go_num, ?_, ?_⟩
    ·rw[xE y x hy hx]
     exact HST.out
    ·exact(hbel.setCell (Nat.le_refl _) _).drew
   case measure=>simp[intOf];omega
  ·have e:Ax l m k=wordsOf l:=by
    have e1:k=l.length:=by rw[←HN.out];omega
    rw[e1,HM.out,HN.out];rfl
   rw[e]at hown
   clear e
   go_wp2
   go_ret2
   exact⟨_,_,rfl,hown,hbel⟩
theorem xF (x e:Nat):(x:Int) / 2^e % 256=((x / 2^e % 256:Nat):Int):=by simp
theorem AbD (l:List Nat) (A:Option Addr) (c:Nat) (w:World) (hA:Rd w w.heap.size A (U32 l)) (hb: ∀x∈l,x<4294967296) (hl:l.length≤1000):
  Calls Tryz.prog 233 #[.slice A l.length c] w fun e w'=> ∃g cap,e= .returned (.slice (some ⟨g,0,none⟩) (4*l.length) cap)∧
   w'.ownsRow w.heap.size 5 1 (.slice (some ⟨g,0,none⟩) (4*l.length) cap) (4*l.length) (U8 (bytesOf l))∧Below w.heap.size w w':=by
 obtain⟨i0,hi,hz0,hz1,hz2⟩:=info_parts Be
 obtain⟨n,hn⟩: ∃n,n=l.length:=⟨_,rfl⟩
 rw[←hn]at hl⊢
 obtain⟨m,hm⟩: ∃m,m=4*n:=⟨_,rfl⟩
 have HN:=Lib.hid hn
 have HM:=Lib.hid hm
 have HB:=Lib.hid hb
 have hmn:4*n≤m:=by omega
 have hnm:m≤4*n:=by omega
 rw[←hm]
 clear hn hm hb
 go_enter Tryz.func233, Tryz.ntmps233
 go_wp2_with (at_make;refine wpList_make_full _ rfl _ _ 23 rfl w.heap.size 5 i0 (.int .u8 0) 1 Tryz.underlying23 hi hz0 hz1 _ _ _ _ m rfl rfl (by omega) (by omega) ?b2 ?b3 (Nat.le_refl _) ?_)
 case b2=>rw[hz2];omega
 case b3=>unfold maxLen;omega
 intro w1 hown hg
 have hown1:w1.ownsRow w.heap.size 5 1 (.slice (some ⟨w.heap.size,0,none⟩) m m) m (U8 (Ce l m 0)):=by
  rw[toList_madeCells_one]at hown
  rw[Xz,U8,List.map_replicate]
  exact hown
 have hbel:Below w.heap.size w w1:=(Below.refl _ _).grown hg (Nat.le_refl _) (by simp)
 clear hown hg
 go_wp2
 go_loopw [12] (fun i wr=> ∃k:Nat,k≤m∧i= .int .i64 k∧wr.ownsRow w.heap.size 5 1 (.slice (some ⟨w.heap.size,0,none⟩) m m) m (U8 (Ce l m k))∧Below w.heap.size w wr) (fun i _=>m - (intOf i).toNat)
 case atStart=>exact⟨0,Nat.zero_le _,rfl,hown1,hbel⟩
 case round=>
  clear hown1 hbel
  obtain⟨k,hk,rfl,hown,hbel⟩:=hrel
  by_cases hlt:k<m
  ·have hkl:k / 4<l.length:=by rw[←HN.out];omega
   obtain⟨ad,rfl,hab,hc0⟩:=hA (k / 4) _ (eL l (k / 4) hkl)
   have hc:wr.cell? (ad.add (k / 4))=some (.int .u32 (l[k / 4]:Nat)):=(hbel.cell (by rw[add_block];exact hab)).trans hc0
   have hkn:k / 4<n:=by omega
   have hc2: ∃v,wr.cell? ⟨w.heap.size,k,none⟩=some v:=by
    rw[hown.cellAt k (by omega),U8,List.getElem?_map]
    rw[List.getElem?_eq_getElem (by simp[Ce];omega)]
    exact⟨_,rfl⟩
   obtain⟨v2,hc2⟩:=hc2
   have hf:=hown.frozenAt k
   have hx:=HB.out _ (List.getElem_mem hkl)
   have hst:=(hown.stored k (.int .u8 ((byteAt l k:Nat):Int))).1
   have hset:(U8 (Ce l m k)).set k (.int .u8 ((byteAt l k:Nat):Int))=U8 (Ce l m (k+1)):=by
    rw[←Zo l m k,U8,U8,List.map_set]
   rw[hset]at hst
   have hba:byteAt l k=l[k / 4] / 2^(8*(3 - k % 4)) % 256:=by
    unfold byteAt
    rw[List.getD_eq_getElem?_getD,List.getElem?_eq_getElem hkl];rfl
   rw[hba]at hst
   clear hset hba
   generalize l[k / 4]=x at*
   have HST:=Lib.hid hst
   have HOW:=Lib.hid hown
   clear hst hown hA hc0
   go_wp2
   go_roundw
   case rel=>
    refine⟨k+1,by omega,by go_num, ?_,hbel.setCell (Nat.le_refl _) _⟩
    rw[xF]
    exact HST.out
   case measure=>simp[intOf];omega
  ·have e:Ce l m k=bytesOf l:=by
    have e1:k=m:=by omega
    rw[e1,HM.out,HN.out,Zp]
   rw[e]at hown
   clear e
   go_wp2
   go_ret
   exact⟨_,_,rfl,hown,hbel⟩
theorem AbE (W:List Nat) (h:W.length=16): ∃x0 x1 x2 x3 x4 x5 x6 x7 x8 x9 x10 x11 x12 x13 x14 x15,W=[x0,x1,x2,x3,x4,x5,x6,x7,x8,x9,x10,x11,x12,x13,x14,x15]:=by
 match W,h with
 |[x0,x1,x2,x3,x4,x5,x6,x7,x8,x9,x10,x11,x12,x13,x14,x15],_=>exact⟨x0,x1,x2,x3,x4,x5,x6,x7,x8,x9,x10,x11,x12,x13,x14,x15,rfl⟩
theorem pY (h:St) (W:List Nat) (w:World) (hT:Cx w) (hh:h.ok) (hx: ∀x∈W,x<4294967296) (hl:W.length=16):
  Calls Tryz.prog 199 #[h.val, .agg (U32 W).toArray] w fun e w'=>e= .returned (Fm h W).val∧Below w.heap.size w w':=by
 obtain⟨x0,x1,x2,x3,x4,x5,x6,x7,x8,x9,x10,x11,x12,x13,x14,x15,rfl⟩:=AbE W hl
 exact vO h x0 x1 x2 x3 x4 x5 x6 x7 x8 x9 x10 x11 x12 x13 x14 x15 w hT hh hx
theorem Zl (h:St) (W:List Nat) (w:World) (hh:h.ok) (hx: ∀x∈W,x<4294967296) (hl:W.length=16):
  Calls Tryz.prog 208 #[h.val, .agg (U32 W).toArray] w fun e w'=>e= .returned (Fm h W).val∧Below w.heap.size w w':=by
 obtain⟨x0,x1,x2,x3,x4,x5,x6,x7,x8,x9,x10,x11,x12,x13,x14,x15,rfl⟩:=AbE W hl
 exact eI h x0 x1 x2 x3 x4 x5 x6 x7 x8 x9 x10 x11 x12 x13 x14 x15 w hh hx
theorem fQ:(Tryz.prog.info? 195).map (·.size)=some 16:=by kernel_rfl
theorem Na:(Tryz.prog.info? 83).map (·.size)=some 32:=by kernel_rfl
theorem AdT:(Tryz.prog.info? 192).map (·.size)=some 1:=by kernel_rfl
theorem pZ:(Tryz.prog.info? 5).map (·.size)=some 1:=by kernel_rfl
section
variable {P:Program}
theorem Xt (d:Nat) {ops:Array Oper} {rest:List Oper} {c:Call} {t:TypeId} {p:String} {af:Array Edge} {g:Option (Nat × Bool)} {a:Act} {w:World} {Q:Exit→Act→World→Prop} (h:wpList P ops Q (⟨some d, .call c,t,p,af,g⟩::rest) a w):wpList P ops Q (⟨some d, .call c,t,p,af,g⟩::rest) a w:=h
end
theorem Xu (cur cs:List Value) (h:cs.length=cur.length):splice cur 0 cs=cs:=by
 unfold splice
 simp[h]
theorem xG (l:List Nat) (n:Nat) (hn:l.length=n) (A:Option Addr) (c:Nat) (w:World) (hA:Rd w w.heap.size A (U8 l)) (hb: ∀x∈l,x<256) (hl:n≤4000) (h4:n % 4=0):
  Calls Tryz.prog 232 #[.slice A n c] w fun e w'=> ∃g cap,e= .returned (.tuple #[.slice (some ⟨g,0,none⟩) (n / 4) cap, .int .i64 0])∧
   w'.ownsRow w.heap.size 192 1 (.slice (some ⟨g,0,none⟩) (n / 4) cap) (n / 4) (U32 (wordsOf l))∧Below w.heap.size w w':=by
 subst hn
 exact AbC l A c w hA hb hl h4
theorem xH (l:List Nat) (n:Nat) (hn:l.length=n) (A:Option Addr) (c:Nat) (w:World) (hA:Rd w w.heap.size A (U32 l)) (hb: ∀x∈l,x<4294967296) (hl:n≤1000):
  Calls Tryz.prog 233 #[.slice A n c] w fun e w'=> ∃g cap,e= .returned (.slice (some ⟨g,0,none⟩) (4*n) cap)∧
   w'.ownsRow w.heap.size 5 1 (.slice (some ⟨g,0,none⟩) (4*n) cap) (4*n) (U8 (bytesOf l))∧Below w.heap.size w w':=by
 subst hn
 exact AbD l A c w hA hb hl
theorem lL {w3:World} {g:Nat} {W:List Nat} {t:TypeId} (h:w3.heap[g]?=some (.cells (splice z16.toList 0 (U32 W)).toArray t (0,0))) (hW:W.length=16):w3.heap[g]?=some (.cells (U32 W).toArray t (0,0)):=by
 rw[Xu _ _ (by rw[U32,List.length_map,hW];rfl)]at h
 exact h
theorem bQ {w w2:World} {base:Nat} {e:TypeId} {g n cap:Nat} {xs:List Value} (h:w.ownsRow base e 1 (.slice (some ⟨g,0,none⟩) n cap) n xs) (hb:Below w.heap.size w w2): ∀j v,xs[j]?=some v→w2.cell? ((⟨g,0,none⟩:Addr).add j)=some v:=by
 intro j v hv
 obtain⟨ad,he,_,hc⟩:=(Rd.of_own h).next hb j v hv
 cases he
 exact hc
theorem Qa (l:List Nat):(U32 l).length=l.length:=by simp[U32]
theorem Fj (l:List Nat):(U8 l).length=l.length:=by simp[U8]
theorem Xv (lp:List Nat) (ad:Addr) (n c:Nat) (w:World) (hA:Rd w w.heap.size (some ad) (U8 lp)) (hb: ∀x∈lp,x<256) (hl:lp.length=n) (h64:64≤n) (hc:n≤c) (hcm:c≤maxLen):
  Calls Tryz.prog 200 #[.slice (some ad) n c] w fun e w'=>e= .returned (.agg (U32 (wordsOf (lp.take 64))).toArray)∧Below w.heap.size w w':=by
 unfold maxLen at hcm
 have hA64:Rd w w.heap.size (some ad) (U8 (lp.take 64)):=by
  intro k u hu
  refine hA k u ?_
  simp only[U8,List.map_take,List.getElem?_take]at hu⊢
  split at hu
  ·exact hu
  ·cases hu
 have hlt:(lp.take 64).length=64:=by simp;omega
 have hbt: ∀x∈lp.take 64,x<256:=fun x hx=>hb x (List.mem_of_mem_take hx)
 have HA:=Lib.hid hA64
 have HL:=Lib.hid hlt
 have HB:=Lib.hid hbt
 clear hA hb hl hA64 hlt hbt
 generalize lp.take 64=q at*
 go_enter Tryz.func200, Tryz.ntmps200
 go_wp2_with fail
 refine(xG q 64 HL.out (some ad) c _ ((HA.out.alloc (Nat.le_refl _) _).more (by simp)) HB.out (by omega) (by omega)).mono ?_
 rintro e w1 ⟨g1,c1,rfl,hown1,hb1⟩
 have hb01:Below w.heap.size w w1:=((Below.refl _ _).alloc (Nat.le_refl _) _).trans (hb1.mono (by simp))
 have hs1:w.heap.size+1≤w1.heap.size:=by have:=hb1.size;simpa using this
 have hres:w1.heap[w.heap.size]?=some (.cells z16 195 (0,0)):=(hb1.block _ (by simp)).trans (heap_alloc_new w _)
 have hW:(wordsOf q).length=16:=by rw[Ji,HL.out]
 have HO:=Lib.hid hown1
 have HRES:=Lib.hid hres
 have HW:=Lib.hid hW
 clear hown1 hb1 hres hW
 obtain⟨W,hWE⟩: ∃W,W=wordsOf q:=⟨_,rfl⟩
 rw[←hWE]at HO HW
 have HWE:=Lib.hid hWE
 have hsz:(U32 W).toArray.size=16:=by simp[U32,HW.out]
 have hin:(Tryz.prog.info? 195).map (·.size)=some (U32 W).toArray.size:=by rw[hsz];exact fQ
 have HSZ:=Lib.hid hsz
 have HIN:=Lib.hid hin
 clear hWE hsz hin
 go_wp2_with (first
  |((with_reducible refine Ac 5 ?_);refine Ad (o:=⟨none, .store 195 (.tmp 5) (.tmp 12),_,_,_,_⟩) rfl 195 (.tmp 5) (.tmp 12) rfl w1.heap.size z16 rfl rfl 195 z16 (heap_alloc_new w1 _) fQ rfl (Ds (List.replicate 16 0)) ?_;intro w2 hw2)
  |((with_reducible refine Xt 15 ?_);refine wpList_copy_splice (o:=⟨some 15,_,_,_,_,_⟩) rfl (.tmp 13) (.tmp 14) 200 200 rfl 192 Tryz.underlying200 AdT (some ⟨w1.heap.size,0,none⟩) (some ⟨g1,0,none⟩) 16 16 16 c1 rfl rfl w1.heap.size 0 z16.toList 195 (Bg hw2.out).2.1 (U32 W) ((Qa W).trans HW.out) (fun _=>⟨rfl,_,rfl,bQ HO.out (Bg hw2.out).2.2⟩) (Nat.le_of_eq ((congrArg (0+ ·) (Qa W)).trans (by rw[HW.out];rfl))) (sG W) w1.heap.size w2 (Below.refl _ _) (Nat.le_refl _) ?_;intro w3 hw3 hb3)
  |((with_reducible refine Dl 16 ?_);have hw3':=lL hw3.out HW.out;refine wpList_load_row (o:=⟨some 16, .load 195 (.tmp 5),_,_,_,_⟩) rfl 195 (.tmp 5) rfl w1.heap.size rfl 195 (U32 W).toArray (0,0) _ hw3' Tryz.underlying195 rfl (HIN.out) ?_;clear hw3')
  |((with_reducible refine Ac 2 ?_);refine Ad (o:=⟨none, .store 195 (.tmp 2) (.tmp 16),_,_,_,_⟩) rfl 195 (.tmp 2) (.tmp 16) rfl w.heap.size (U32 W).toArray rfl rfl 195 z16 ((hb3.block _ (by omega)).trans (((Bg hw2.out).2.2.block _ (by omega)).trans HRES.out)) HIN.out HSZ.out.symm (Ds W) ?_;intro w4 hw4))
 have hr4:w4.heap[w.heap.size]?=some (.cells (U32 W).toArray 195 (0,0)):=by
  rw[hw4.out];exact setRow_heap _ _ _ _ _ _ ((hb3.block _ (by omega)).trans (((Bg hw2.out).2.2.block _ (by omega)).trans HRES.out))
 refine bodyPost_ret (results_cell_row Tryz.results200 _ w4 w.heap.size 195 _ (0,0) _ rfl hr4 Tryz.underlying195 rfl HIN.out) rfl ⟨by rw[HWE.out], ?_⟩
 exact((hb01.trans ((Bg hw2.out).2.2.mono (by omega))).trans (hb3.mono (by omega))).trans (An hw4.out (Nat.le_refl _))
theorem fR {w3:World} {g:Nat} {W:List Nat} {t:TypeId} (h:w3.heap[g]?=some (.cells (splice b32.toList 0 (U8 W)).toArray t (0,0))) (hW:W.length=32):w3.heap[g]?=some (.cells (U8 W).toArray t (0,0)):=by
 rw[Xu _ _ (by rw[U8,List.length_map,hW];rfl)]at h
 exact h
theorem qA (h:St) (w:World) (hh:h.ok):
  Calls Tryz.prog 201 #[h.val] w fun e w'=>e= .returned (.agg (U8 (bytesOf h.list)).toArray)∧Below w.heap.size w w':=by
 obtain⟨W,hWE⟩: ∃W,W=bytesOf h.list:=⟨_,rfl⟩
 have hW:W.length=32:=by rw[hWE,Fd];rfl
 have hsz:(U8 W).toArray.size=32:=by simp[U8,hW]
 have hin:(Tryz.prog.info? 83).map (·.size)=some (U8 W).toArray.size:=by rw[hsz];exact Na
 rw[←hWE]
 have HWE:=Lib.hid hWE
 have HW:=Lib.hid hW
 have HSZ:=Lib.hid hsz
 have HIN:=Lib.hid hin
 clear hWE hW hsz hin
 unfold St.val
 go_enter Tryz.func201, Tryz.ntmps201
 go_wp2_with ((with_reducible refine Ac 3 ?_);refine Al Pp Na (Bv (List.replicate 32 0)) ?_;intro w0 hw0)
 obtain⟨hs0,hbl0,hbl1,hbl2,hb0⟩:=Wx hw0.out
 clear hw0
 have HS0:=Lib.hid hs0
 have HB0:=Lib.hid hbl0
 have HB1:=Lib.hid hbl1
 have HB2:=Lib.hid hbl2
 clear hs0 hbl0 hbl1 hbl2
 have hrd:Rd w0.drew w0.drew.heap.size (some ⟨w.heap.size,0,none⟩) (U32 h.list):=by
  intro k u hu
  refine⟨_,rfl,by show w.heap.size<w0.heap.size;rw[HS0.out];omega, ?_⟩
  have h0:w0.drew.heap[w.heap.size]?=some (.cells (U32 h.list).toArray 193 (0,0)):=HB0.out
  rw[Bu,cell_of_row w0.drew _ k _ _ (0,0) h0]
  simpa using hu
 have HRD:=Lib.hid hrd
 have HB:=Lib.hid hb0
 clear hrd hb0
 go_region_held3 (fun _=>True) (trivial) (first
  |(refine step_copy_splice (o:=⟨some 8,_,_,_,_,_⟩) (by rfl) (.tmp 5) (.tmp 7) 23 23 (by rfl) 5 Tryz.underlying23 pZ (some ⟨w.heap.size+1+1,0,none⟩) (some ⟨g1,0,none⟩) 32 32 32 c1 (by rfl) (by rfl) (w.heap.size+1+1) 0 b32.toList 83 H12.out (U8 W) ((Fj W).trans HW.out) (fun _=>⟨rfl,_,rfl,bQ HO.out (Below.refl _ _)⟩) (Nat.le_of_eq ((congrArg (0+ ·) (Fj W)).trans (by rw[HW.out];rfl))) (Bd W) (w.heap.size+1+1) w1 (Below.refl _ _) (Nat.le_refl _) ?_;intro w3 hw3 hb3)
  |(go_at_call 233;refine(xH h.list 8 rfl (some ⟨w.heap.size,0,none⟩) 8 w0.drew HRD.out (St.list_lt hh) (by omega)).mono ?_;rintro e w1 ⟨g1,c1,rfl,hown1,hb1⟩;rw[←HWE.out]at hown1;have hs1:w.heap.size+1+1+1≤w1.heap.size:=(by have h7:=hb1.size;have h8:=HS0.out;have h9:w0.drew.heap.size=w0.heap.size:=rfl;omega);have H11:=Lib.hid ((hb1.block (w.heap.size+1) (by show _<w0.heap.size;rw[HS0.out];omega)).trans HB1.out);have H12:=Lib.hid ((hb1.block (w.heap.size+1+1) (by show _<w0.heap.size;rw[HS0.out];omega)).trans HB2.out);have hb01:Below w.heap.size w w1:=HB.out.drew.trans (hb1.mono HB.out.size);have HO:=Lib.hid hown1;clear hown1 hb1))
 go_wp2_with (first
  |((with_reducible refine Dl 9 ?_);have hw3':=fR hw3.out HW.out;refine wpList_load_row (o:=⟨some 9, .load 83 (.tmp 3),_,_,_,_⟩) rfl 83 (.tmp 3) rfl (w.heap.size+1+1) rfl 83 (U8 W).toArray (0,0) _ hw3' Tryz.underlying83 rfl (HIN.out) ?_;clear hw3')
  |((with_reducible refine Ac 2 ?_);refine Al ((hb3.block _ (by omega)).trans H11.out) HIN.out (Bv W) ?_ (hold:=HSZ.out.symm);intro w4 hw4))
 have hr4:w4.heap[w.heap.size+1]?=some (.cells (U8 W).toArray 83 (0,0)):=by
  rw[hw4.out];exact setRow_heap _ _ _ _ _ _ ((hb3.block _ (by omega)).trans H11.out)
 refine bodyPost_ret (results_cell_row Tryz.results201 _ w4 (w.heap.size+1) 83 _ (0,0) _ rfl hr4 Tryz.underlying83 rfl HIN.out) rfl ⟨rfl, ?_⟩
 exact(hb01.trans (hb3.mono (by omega))).trans (An hw4.out (by omega))
end Go.Proofs.YtmdbfogjfbbpjaaGreatDoor
