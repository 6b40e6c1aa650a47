import Derived.Test.YtcnglbliidjnfaaGreatDoorTlvPNextOk
import Derived.Test.YtcnglbliidjnfaaGreatDoorMem
import Derived.Test.YtcnglbliidjnfaaGreatDoorMath
import Derived.OneCell
import Derived.StillTailTactics
import Derived.Test.YtcnglbliidjnfaaGreatDoorMacTag
import Derived.Test.YtcnglbliidjnfaaGreatDoorBarPEnc
import Derived.Test.YtcnglbliidjnfaaGreatDoorRingLast
import Derived.Test.YtcnglbliidjnfaaGreatDoorFortyPPut
import Derived.RegionTactic
import Derived.BigRegion
import Derived.Deep.RegionWith
import Derived.Test.YtcnglbliidjnfaaGreatDoorRgBox
import Derived.Test.YtcnglbliidjnfaaGreatDoorBarConst
import Derived.Test.YtcnglbliidjnfaaGreatDoorShaMix
section
namespace Go.Proofs.YtcnglbliidjnfaaGreatDoor
set_option maxRecDepth 100000
set_option linter.unusedVariables false
open Go.ChangeShapes Go.WideShapes Go.ChangeAt Go.RowKit
def apE (s:List Nat):Nat:=if(fgetX s).1≠0 then(fgetX s).1 else if(fgetX s).2.length<32 then 14 else(gotT (restB (fgetX s).2)).1
theorem apE_dec {l:List K} {s:List Nat} {E:Nat} (hr:isR l=true) (h:apE s=E) (h0:E≠0):decB l s=(E,zeroR):=by
 rw[apE]at h
 rw[decB,if_neg (by rw[hr];decide)]
 split at h
 ·rename_i h1;rw[if_pos h1,h]
 ·rename_i h1
  rw[if_neg h1,toldB]
  split at h
  ·rename_i h2;rw[if_pos h2,h]
  ·rename_i h2;rw[if_neg h2,if_pos (by rw[h];exact h0),h]
theorem apE_ver {s:List Nat} {E:Nat} (h:apE s=E) (h0:E≠0):verB s=(E,0):=by
 rw[apE]at h
 rw[verB]
 split at h
 ·rename_i h1;rw[if_pos h1,h]
 ·rename_i h1
  rw[if_neg h1,verP]
  split at h
  ·rename_i h2;rw[if_pos h2,h]
  ·rename_i h2;rw[if_neg h2,if_pos (by rw[h];exact h0),h]
structure BaseOK (Base:World→Prop) (s:List Nat) (m:Nat) (B:Option Addr) (d XB PB SB AB:Nat):Prop where
 next: ∀ {w w':World},Base w→Below w.heap.size w w'→Base w'
 grown: ∀ {w w':World} {X:Nat} {cs:Array Value} {t:TypeId},Base w→Blk w X cs t→(X=XB∨X=AB)→(∀f a c,Value.func f a c∉cs.toList)→w.grownBy w' (some X)→Base w'
 box: ∀ {w:World},Base w→Blk w SB #[.slice B m d] 30 ∧Bs w w.heap.size s B d∧Blk w PB #[.pointer (some ⟨XB,0,none⟩)] 109
def Link (Base:World→Prop) (s:List Nat) (XB AB:Nat):Nat→World→Prop
 |0,w=>Base w∧Blk w XB #[.slice none 0 0, .slice none 0 0, .slice none 0 0] 62 ∧Blk w AB #[.slice none 0 0] 30
 |1,w=>Base w∧Blk w XB #[.slice none 0 0, .slice none 0 0, .slice none 0 0] 62 ∧ ∃P A1 c1,fgetX s=(0,P)∧Blk w AB #[.slice A1 P.length c1] 30 ∧Bs w w.heap.size P A1 c1
 |2,w=>Base w∧Blk w XB #[.slice none 0 0, .slice none 0 0, .slice none 0 0] 62 ∧ ∃P A1 c1,fgetX s=(0,P)∧32≤P.length∧Blk w AB #[.slice A1 P.length c1] 30 ∧Bs w w.heap.size P A1 c1
 |_,w=>Base w∧ ∃P L j A1 c1 A2 c2 A3 c3,fgetX s=(0,P)∧P.length=j+32∧gotT (restB P)=(0,L)∧Bs w w.heap.size (restB P) A1 c1∧Bs w w.heap.size (sealB P) A2 c2∧Ts w w.heap.size L A3 c3∧Blk w XB #[.slice A1 j c1, .slice A2 32 c2, .slice A3 L.length c3] 62
def stepV (PB SB AB:Nat):List Value:=[.func (.func 84) #[] #[.pointer (some ⟨SB,0,none⟩), .pointer (some ⟨AB,0,none⟩)], .func (.func 85) #[] #[.pointer (some ⟨AB,0,none⟩)], .func (.func 86) #[] #[.pointer (some ⟨AB,0,none⟩), .pointer (some ⟨PB,0,none⟩)]]
theorem fgetX_len9 (s:List Nat):(fgetX s).2.length≤s.length:=by
 cases h:fgetX s with
 |mk E p=>
  by_cases h0:E=0
  ·subst h0
   have:=putF_getX h
   have h2:=putF_len p
   rw[this.1]at h2
   simp only
   omega
  ·have:=getX_bad h h0
   subst this
   simp
section
variable {Base:World→Prop} {s:List Nat} {m:Nat} {B:Option Addr} {d XB PB SB AB:Nat} {R:Int→World→Prop}
theorem link1 (hB:BaseOK Base s m B d XB PB SB AB) (hm:m=s.length) (h47:m≤140737488355328) (hne:XB≠AB) (hR: ∀(E:Nat) (w:World),E≠0→apE s=E→Base w→R E w) (v:Value) (hv:(stepV PB SB AB)[0]?=some v):StepOK (Link Base s XB AB 0) (Link Base s XB AB 1) R v:=by
 cases hv
 refine⟨_,_,rfl,enters_of Tryz.func84 (by kernel_rfl) rfl,fun w hq=> ?_⟩
 obtain⟨hb,hx,ha⟩:=hq
 obtain⟨hs,hbs,hp⟩:=hB.box hb
 cases hE:fgetX s with
 |mk E P=>
  refine(bstep1 s m hm h47 E P hE B d SB AB w hs hbs ha).mono ?_
  rintro e w' ⟨rfl,A1,c1,hg,hP,hA⟩
  have hb':=hB.grown hb ha (.inr rfl) (by simp) hg
  by_cases h0:E=0
  ·subst h0
   exact .inl ⟨rfl,hb',hx.grown hg hne,P,A1,c1,hE,hA,hP⟩
  ·exact .inr ⟨E,by omega,rfl,hR E w' h0 (by rw[apE,hE,if_pos h0]) hb'⟩
theorem link2 (hB:BaseOK Base s m B d XB PB SB AB) (hR: ∀(E:Nat) (w:World),E≠0→apE s=E→Base w→R E w) (v:Value) (hv:(stepV PB SB AB)[1]?=some v):StepOK (Link Base s XB AB 1) (Link Base s XB AB 2) R v:=by
 cases hv
 refine⟨_,_,rfl,enters_of Tryz.func85 (by kernel_rfl) rfl,fun w hq=> ?_⟩
 obtain⟨hb,hx,P,A1,c1,hE,ha,hP⟩:=hq
 by_cases h32:32≤P.length
 ·refine(bstep2_yes P.length h32 A1 c1 AB w ha).mono ?_
  rintro e w' ⟨rfl,rfl⟩
  exact .inl ⟨rfl,hb,hx,P,A1,c1,hE,h32,ha,hP⟩
 ·refine(bstep2_no P.length (by omega) A1 c1 AB w ha).mono ?_
  rintro e w' ⟨rfl,rfl⟩
  exact .inr ⟨14,by decide,rfl,hR 14 w (by decide) (by rw[apE,hE,if_neg (by simp),if_pos (by simp only;omega)]) hb⟩
theorem link3 (hB:BaseOK Base s m B d XB PB SB AB) (hm:m=s.length) (h47:m≤140737488355328) (hne:XB≠AB) (hne2:XB≠PB) (hR: ∀(E:Nat) (w:World),E≠0→apE s=E→Base w→R E w) (v:Value) (hv:(stepV PB SB AB)[2]?=some v):StepOK (Link Base s XB AB 2) (Link Base s XB AB 3) R v:=by
 cases hv
 refine⟨_,_,rfl,enters_of Tryz.func86 (by kernel_rfl) rfl,fun w hq=> ?_⟩
 obtain⟨hb,hx,P,A1,c1,hE,h32,ha,hP⟩:=hq
 obtain⟨hs,hbs,hp⟩:=hB.box hb
 obtain⟨j,hj⟩: ∃j,P.length=j+32:=⟨P.length - 32,by omega⟩
 have hl:=fgetX_len9 s
 rw[hE]at hl
 cases hG:gotT (restB P)with
 |mk E L=>
  refine(bstep3 P P.length j rfl hj (by simp only at hl;omega) E L hG A1 c1 AB PB XB w ha hp hx hP hne hne2).mono ?_
  rintro e w' ⟨rfl,A2,c2,A3,c3,A4,c4,hg,hr,ht,hL,hX⟩
  have hb':=hB.grown hb hx (.inl rfl) (by simp) hg
  by_cases h0:E=0
  ·subst h0
   exact .inl ⟨rfl,hb',P,L,j,A2,c2,A3,c3,A4,c4,hE,hj,hG,hr,ht,hL,hX⟩
  ·exact .inr ⟨E,by omega,rfl,hR E w' h0 (by rw[apE,hE,if_neg (by simp),if_neg (by simp only;omega)];simp only;rw[hG]) hb'⟩
end
set_option maxHeartbeats 1600000 in
theorem bsteps_any (XB:Nat) (B:Option Addr) (m d:Nat) (w:World):Calls Tryz.prog 43 #[.pointer (some ⟨XB,0,none⟩), .slice B m d] w fun e w'=> ∃PB SB AB RB,e= .returned (.slice (some ⟨RB,0,none⟩) 3 3)∧Below w.heap.size w w'∧Blk w' PB #[.pointer (some ⟨XB,0,none⟩)] 109 ∧Blk w' SB #[.slice B m d] 30 ∧Blk w' AB #[.slice none 0 0] 30 ∧
  Blk w' RB (stepV PB SB AB).toArray 70 ∧w.heap.size≤PB∧PB<SB∧SB<AB∧AB<RB:=by
 have hmf: ∀(fn:Fn) (first cap:Array Value) (w:World),(Instr.makeFunc fn first cap).run Tryz.prog w= .ok (.func fn first cap) w:=fun _ _ _ _=>rfl
 go_enter Tryz.func43, Tryz.ntmps43
 go_wp2
 go_ret
 obtain⟨w1,hw1⟩: ∃w1,w1=w.alloc (.cells #[.pointer (some ⟨XB,0,none⟩)] 109):=⟨_,rfl⟩
 obtain⟨w2,hw2⟩: ∃w2,w2=w1.alloc (.cells #[.slice B m d] 30):=⟨_,rfl⟩
 obtain⟨w3,hw3⟩: ∃w3,w3=w2.alloc (.cells #[.slice none 0 0] 30):=⟨_,rfl⟩
 have s1:w1.heap.size=w.heap.size+1:=by rw[hw1];simp
 have s2:w2.heap.size=w.heap.size+2:=by rw[hw2,World.size_alloc,s1]
 have s3:w3.heap.size=w.heap.size+3:=by rw[hw3,World.size_alloc,s2]
 obtain⟨w4,hw4⟩: ∃w4,w4=w3.alloc (.cells (stepV w.heap.size w1.heap.size w2.heap.size).toArray 70):=⟨_,rfl⟩
 have b1:Below w.heap.size w w1:=by rw[hw1];exact below_lit w _ _
 have b2:Below w1.heap.size w1 w2:=by rw[hw2];exact below_lit w1 _ _
 have b3:Below w2.heap.size w2 w3:=by rw[hw3];exact below_lit w2 _ _
 have b4:Below w3.heap.size w3 w4:=by rw[hw4];exact below_lit w3 _ _
 have e4:(((w.alloc (.cells #[.pointer (some ⟨XB,0,none⟩)] 109)).alloc (.cells #[.slice B m d] 30)).alloc (.cells #[.slice none 0 0] 30)).alloc (.cells #[.func (.func 84) #[] #[.pointer (some ⟨w.heap.size+1,0,none⟩), .pointer (some ⟨w.heap.size+1+1,0,none⟩)], .func (.func 85) #[] #[.pointer (some ⟨w.heap.size+1+1,0,none⟩)], .func (.func 86) #[] #[.pointer (some ⟨w.heap.size+1+1,0,none⟩), .pointer (some ⟨w.heap.size,0,none⟩)]] 70)=w4:=by rw[hw4,s1,s2,hw3,hw2,hw1];rfl
 refine⟨w.heap.size,w1.heap.size,w2.heap.size,w3.heap.size, ?_, ?_⟩
 ·rw[s3];rfl
 ·rw[e4]
  exact⟨b1.trans ((b2.trans ((b3.trans (b4.mono b3.size)).mono b2.size)).mono b1.size),(((show Blk w1 w.heap.size _ _ by rw[hw1];exact Blk.new w _ _).next b2).next b3).next b4,((show Blk w2 w1.heap.size _ _ by rw[hw2];exact Blk.new w1 _ _).next b3).next b4,(show Blk w3 w2.heap.size _ _ by rw[hw3];exact Blk.new w2 _ _).next b4,by rw[hw4];exact Blk.new w3 _ _,Nat.le_refl _,by omega,by omega,by omega⟩
end Go.Proofs.YtcnglbliidjnfaaGreatDoor
end
section
namespace Go.Proofs.YtcnglbliidjnfaaGreatDoor
set_option maxRecDepth 100000
set_option linter.unusedVariables false
open Go.ChangeShapes Go.WideShapes Go.ChangeAt Go.RowKit
theorem seal_at {w:World} {B:Nat} {A:Option Addr} {l:List Nat} (h:Rd w B A (U8 l)) (k:Nat) (hk:k<l.length): ∃ad,A=some ad∧ad.block<B∧w.cell? (ad.add k)=some (.int .u8 ((l.getD k 0:Nat):Int)):=by
 obtain⟨ad,e,hlt,hc⟩:=h k _ (U8_at l k hk)
 refine⟨ad,e,hlt, ?_⟩
 rw[hc,List.getD_eq_getElem?_getD,List.getElem?_eq_getElem hk]
 rfl
theorem gather_any (x y d Bk:Nat) (w:World) (hv:w.heap[Bk]?=some (.cells #[.int .u8 (d:Int)] 5 (0,0))) (hx:x<256) (hy:y<256) (hd:d<256):
  Calls Tryz.prog 129 #[.int .u8 x, .int .u8 y, .pointer (some ⟨Bk,0,none⟩)] w fun e w'=>e= .returned (.tuple #[])∧w'=w.setCell ⟨Bk,0,none⟩ (.int .u8 ((d|||(x^^^y):Nat):Int)):=by
 have h1:=cell_of_one hv
 have h2:=free_of_one hv
 have hxy:x^^^y<256:=Nat.xor_lt_two_pow (n:=8) hx hy
 have e1:=u8_xor_nat x y hx hy
 have e2:=u8_or_nat d (x^^^y) hd hxy
 clear hv
 go_enter Tryz.func129, Tryz.ntmps129
 go_wp2
 go_end0
 exact⟨rfl,rfl⟩
theorem eq_cast (n m:Nat):((n:Int)==(m:Int))=(n==m):=by
 by_cases h:n=m
 ·subst h;simp
 ·rw[(by simpa using h:(n==m)=false)];simp;omega
theorem diff_any (a b:List Nat) (n m:Nat) (hn:n=a.length) (hm:m=b.length) (A A':Option Addr) (c c':Nat) (w:World) (hA:Rd w w.heap.size A (U8 a)) (hA':Rd w w.heap.size A' (U8 b)) (ha: ∀x∈a,x<256) (hb: ∀x∈b,x<256) (h1:n≤9223372036854775807) (h2:m≤9223372036854775807):
  Calls Tryz.prog 106 #[.slice A n c, .slice A' m c'] w fun e w'=>e= .returned (.tuple #[.int .u8 (dn a b (min n m):Nat), .bool (n==m)])∧Below w.heap.size w w':=by
 have HN:=Lib.hid hn
 have HM:=Lib.hid hm
 have HA:=Lib.hid ha
 have HB:=Lib.hid hb
 clear hn hm ha hb
 rcases Nat.lt_or_ge m n with hmn|hmn
 all_goals
  go_enter Tryz.func106, Tryz.ntmps106
  go_wp2
  go_loopw [8,15] (fun _ i wr=> ∃k:Nat,k≤n∧k≤m∧i= .int .i64 k∧wr.heap[w.heap.size]?=some (.cells #[.int .u8 (dn a b k:Nat)] 5 (0,0))∧Below w.heap.size w wr) (fun _ i _=>n - (intOf i).toNat)
  case atStart=>exact⟨0,Nat.zero_le _,Nat.zero_le _,rfl,heap_alloc_new w _,(Below.refl _ _).alloc (Nat.le_refl _) _⟩
  case round=>
   obtain⟨k,hk,hk',rfl,hv,hbel⟩:=hrel
   by_cases hlt:k<n∧k<m
   ·obtain⟨hlt,hlt'⟩:=hlt
    obtain⟨ad,rfl,had,hc⟩:=seal_at (hA.below hbel) k (by rw[←HN.out];exact hlt)
    obtain⟨ad',rfl,had',hc'⟩:=seal_at (hA'.below hbel) k (by rw[←HM.out];exact hlt')
    have hx:=seal_getD_lt HA.out k
    have hy:=seal_getD_lt HB.out k
    have hd:=dn_lt HA.out HB.out k
    have hnx:dn a b (k+1)=dn a b k|||(a.getD k 0^^^b.getD k 0):=rfl
    have HNX:=Lib.hid hnx
    clear hA hA' hnx
    generalize a.getD k 0=x at*
    generalize b.getD k 0=y at*
    generalize dn a b k=z at*
    have b1:(0:Int)≤(k:Int):=by omega
    have b2:(k:Int)<(n:Int):=by omega
    have b3:(k:Int)<(m:Int):=by omega
    have HV:=Lib.hid hv
    have HBL:=Lib.hid hbel
    clear hv hbel
    go_wp2
    refine wp_region_still_tail 9 (by kernel_rfl) (by kernel_rfl) ?_
    simp only[List.take_succ_cons,List.take_zero,List.drop_succ_cons,List.drop_zero]
    repeat still_step
    refine wpStill_nil ?_
    change wpList _ _ _ _ _ wr.drew
    go_wp2_with fail
    refine(gather_any x y z w.heap.size wr.drew HV.out hx hy hd).mono ?_
    rintro e w1 ⟨rfl,rfl⟩
    go_wp2
    go_roundw
    case rel=>exact⟨k+1,by omega,by omega,by go_num,by rw[HNX.out];exact one_setCell HV.out,(HBL.out.drew).setCell (Nat.le_refl _) _⟩
    case measure=>simp[intOf];omega
   ·have hmin:k=min n m:=by omega
    have hcell:=cell_of_one hv
    have HMIN:=Lib.hid hmin
    have c2:k=n∨k=m:=by omega
    have c1: ¬(k<min n m):=by omega
    clear hmin hlt hv
    rcases c2 with rfl|rfl
    all_goals
     go_wp2<;>(go_ret2;exact⟨by rw[eq_cast, ←HMIN.out];rfl,hbel⟩)
end Go.Proofs.YtcnglbliidjnfaaGreatDoor
end
section
namespace Go.Proofs.YtcnglbliidjnfaaGreatDoor
set_option linter.unusedVariables false
open Go.ChangeShapes Go.WideShapes Go.ChangeAt Go.RowKit
theorem diff_named (a b:List Nat) (n m:Nat) (hn:n=a.length) (hm:m=b.length) (A A':Option Addr) (c c':Nat) (w:World) (hA:Rd w w.heap.size A (U8 a)) (hA':Rd w w.heap.size A' (U8 b)) (ha: ∀x∈a,x<256) (hb: ∀x∈b,x<256) (h1:n≤9223372036854775807) (h2:m≤9223372036854775807)
  (d:Nat) (q:Bool) (hd:d=dn a b (min n m)) (hq:q=(n==m)):
  Calls Tryz.prog 106 #[.slice A n c, .slice A' m c'] w fun e w'=>e= .returned (.tuple #[.int .u8 (d:Int), .bool q])∧Below w.heap.size w w':=by
 subst hd hq
 exact diff_any a b n m hn hm A A' c c' w hA hA' ha hb h1 h2
theorem sealsame_any (a b:List Nat) (n m:Nat) (hn:n=a.length) (hm:m=b.length) (A A':Option Addr) (c c':Nat) (w:World) (hA:Rd w w.heap.size A (U8 a)) (hA':Rd w w.heap.size A' (U8 b)) (ha: ∀x∈a,x<256) (hb: ∀x∈b,x<256) (h1:n≤9223372036854775807) (h2:m≤9223372036854775807):
  Calls Tryz.prog 82 #[.slice A n c, .slice A' m c'] w fun e w'=>e= .returned (.bool (a==b))∧Below w.heap.size w w':=by
 have hs:=dn_same a b
 rw[←hn, ←hm]at hs
 have HS:=Lib.hid hs
 have HN:=Lib.hid hn
 have HM:=Lib.hid hm
 have HA:=Lib.hid ha
 have HB:=Lib.hid hb
 clear hs hn hm ha hb
 obtain⟨d,hd⟩: ∃d,d=dn a b (min n m):=⟨_,rfl⟩
 obtain⟨q,hq⟩: ∃q,q=(n==m):=⟨_,rfl⟩
 rw[←hd, ←hq]at HS
 have HD:=Lib.hid hd
 have HQ:=Lib.hid hq
 have e1:((d:Int)==0)=(d==0):=eq_cast d 0
 clear hd hq
 cases q with
 |true=>
  rw[Bool.true_and]at HS
  go_enter Tryz.func82, Tryz.ntmps82
  go_wp2_with fail
  refine(diff_named a b n m HN.out HM.out A A' c c' w hA hA' HA.out HB.out h1 h2 d true HD.out HQ.out).mono ?_
  rintro e w1 ⟨rfl,hb⟩
  go_wp2
  go_ret
  exact⟨by rw[←HS.out, ←e1];rfl,hb⟩
 |false=>
  rw[Bool.false_and]at HS
  go_enter Tryz.func82, Tryz.ntmps82
  go_wp2_with fail
  refine(diff_named a b n m HN.out HM.out A A' c c' w hA hA' HA.out HB.out h1 h2 d false HD.out HQ.out).mono ?_
  rintro e w1 ⟨rfl,hb⟩
  go_wp2
  go_ret
  exact⟨by rw[←HS.out];rfl,hb⟩
end Go.Proofs.YtcnglbliidjnfaaGreatDoor
end
section
namespace Go.Proofs.YtcnglbliidjnfaaGreatDoor
set_option linter.unusedVariables false
open Go.ChangeShapes Go.WideShapes Go.ChangeAt Go.RowKit
set_option maxRecDepth 100000 in
set_option maxHeartbeats 1600000 in
theorem bterr_no (l:List K) (n:Nat) (hn:n=l.length) (hn3:n≤9223372036854775807) (id:Int) (A:Option Addr) (c:Nat) (s t:List Nat) (j:Nat) (hj:j=s.length) (h117:j≤3999) (ht:t.length=32) (A1 A2:Option Addr) (c1 c2:Nat) (v3:Value) (XB:Nat) (w:World) (hT:Tabs w) (hA:Ks w w.heap.size A l) (h1:Bs w w.heap.size s A1 c1) (h2:Bs w w.heap.size t A2 c2) (hX:Blk w XB #[.slice A1 j c1, .slice A2 32 c2,v3] 62) (h0:findE l id=10):Calls Tryz.prog 40 #[.pointer (some ⟨XB,0,none⟩), .slice A n c, .int .i64 id] w fun e w'=>e= .returned (.int .i64 10)∧Below w.heap.size w w':=by
 obtain⟨q,hq⟩: ∃q,q=findK l id:=⟨_,rfl⟩
 have HQ:=Lib.hid hq
 have H0:=Lib.hid h0.symm
 have HN:=Lib.hid hn
 have HA:=Lib.hid hA
 clear hn hA
 clear hT h1 h2 hX hq h0
 have HBL:=Lib.hid (Below.refl w.heap.size w)
 go_enter Tryz.func40, Tryz.ntmps40
 go_wp2_with fail
 refine(pfind_any l n HN.out id A c w HA.out hn3 q 10 HQ.out H0.out).mono ?_
 rintro e w1 ⟨S,cc,rfl,hs,hb⟩
 replace HA:=Lib.hid (HA.out.next hb)
 replace HBL:=Lib.hid (HBL.out.trans (hb.mono HBL.out.size))
 have FS:=Lib.hid hs
 clear hb hs
 go_wp2_with fail
 obtain⟨w2,hw⟩: ∃w2,w2=w1.alloc (.cells #[.int .i64 q.id, .slice S q.sec.length cc, .int .i64 q.frm, .int .i64 q.til] 48):=⟨_,rfl⟩
 rw[←hw]
 have hx:Box w2 w1.heap.size ⟨q,S,cc⟩:=by rw[hw];exact(box_lit w1 ⟨q,S,cc⟩ FS.out).1
 have hb:Below w1.heap.size w1 w2:=by rw[hw];exact below_lit w1 _ _
 replace HA:=Lib.hid (HA.out.next hb)
 replace FS:=Lib.hid (FS.out.next hb)
 replace HBL:=Lib.hid (HBL.out.trans (hb.mono HBL.out.size))
 have HX:=Lib.hid hx
 clear hx hb hw
 obtain⟨X,hB⟩: ∃B,B=w1.heap.size:=⟨_,rfl⟩
 rw[←hB]at HX⊢
 clear hB
 go_wp2
 go_ret
 exact⟨rfl,HBL.out⟩
theorem oper_store_row {P:Program} {o:Oper} {a:Act} {w:World} {K:Act→World→Prop} {Q:Exit→Act→World→Prop} (hgd:o.guard=none) (ty:TypeId) (x y:Operand) (ho:o.op= .store ty x y) (g:Nat) (cells:Array Value) (hx:a.eval x= .pointer (some ⟨g,0,none⟩)) (hy:a.eval y= .agg cells)
  (t:TypeId) (old:Array Value) (hg:w.heap[g]?=some (.cells old t (0,0))) (hi:(P.info? ty).map (·.size)=some cells.size) (hold:old.size=cells.size) (h1:cells.all (·.oneCell')=true) (h:K (a.put o.dst undef) (w.setRow g cells)):Oper.wp P o a w K Q:=by
 unfold Oper.wp execOp
 simp only[ho,hx,hy,Instr.storeAt,Instr.sureAddr,Sem.run_bind,Sem.run_pure,Result.andThen_ok,run_storeVar_row w g t ty old cells hg hi hold h1]
 exact h
set_option maxRecDepth 100000 in
set_option maxHeartbeats 1600000 in
theorem bterr_ok (l:List K) (n:Nat) (hn:n=l.length) (hn3:n≤9223372036854775807) (id:Int) (A:Option Addr) (c:Nat) (s t:List Nat) (j:Nat) (hj:j=s.length) (h117:j≤3999) (ht:t.length=32) (A1 A2:Option Addr) (c1 c2:Nat) (v3:Value) (XB:Nat) (w:World) (hT:Tabs w) (hA:Ks w w.heap.size A l) (h1:Bs w w.heap.size s A1 c1) (h2:Bs w w.heap.size t A2 c2) (hX:Blk w XB #[.slice A1 j c1, .slice A2 32 c2,v3] 62) (h0:findE l id=0) (b:Bool) (hb:(t==tagB (findK l id).sec s)=b):Calls Tryz.prog 40 #[.pointer (some ⟨XB,0,none⟩), .slice A n c, .int .i64 id] w fun e w'=>e= .returned (.int .i64 (if b=true then 0 else 11))∧Below w.heap.size w w':=by
 have h64:=find_sec h0
 obtain⟨V,hV⟩: ∃V:Int,(if b=true then 0 else 11)=V:=⟨_,rfl⟩
 rw[hV]
 have HV:=Lib.hid hV
 clear hV
 obtain⟨q,hq⟩: ∃q,q=findK l id:=⟨_,rfl⟩
 rw[←hq]at h64 hb
 obtain⟨T,hTg⟩: ∃T,tagB q.sec s=T:=⟨_,rfl⟩
 obtain⟨F,hF⟩: ∃F:Array Value,F=(U8 T).toArray:=⟨_,rfl⟩
 rw[hTg]at hb
 have hTL:T.length=32:=by rw[←hTg];exact tagB_len _ _
 have HTL:=Lib.hid hTL
 have HTT:=Lib.hid (show∀x∈T,x<256 by rw[←hTg];exact tagB_lt _ _)
 have HFB:=Lib.hid (show F=(U8 (tagB q.sec s)).toArray by rw[hTg];exact hF)
 have HIS:=Lib.hid (isArr32 hF hTL)
 have HF:=Lib.hid hF
 have H6:=Lib.hid hb
 have HT2:=Lib.hid ht
 have HQ:=Lib.hid hq
 have H0:=Lib.hid h0.symm
 have HS:=Lib.hid h64
 clear hq h0 h64 hTg hF hTL hb ht
 have HN:=Lib.hid hn
 have HJ:=Lib.hid hj
 have HT:=Lib.hid hT
 have HA:=Lib.hid hA
 have H1:=Lib.hid h1
 have H2:=Lib.hid h2
 have HP:=Lib.hid hX
 clear hn hj hT hA h1 h2 hX
 have HBL:=Lib.hid (Below.refl w.heap.size w)
 go_enter Tryz.func40, Tryz.ntmps40
 go_wp2_with fail
 refine(pfind_any l n HN.out id A c w HA.out hn3 q 0 HQ.out H0.out).mono ?_
 rintro e w1 ⟨S,cc,rfl,hs,hb⟩
 replace HT:=Lib.hid (HT.out.next hb)
 replace HA:=Lib.hid (HA.out.next hb)
 replace H1:=Lib.hid (H1.out.next hb)
 replace H2:=Lib.hid (H2.out.next hb)
 replace HP:=Lib.hid (HP.out.next hb)
 replace HBL:=Lib.hid (HBL.out.trans (hb.mono HBL.out.size))
 have FS:=Lib.hid hs
 clear hb hs
 go_wp2_with fail
 obtain⟨w2,hw⟩: ∃w2,w2=w1.alloc (.cells #[.int .i64 q.id, .slice S q.sec.length cc, .int .i64 q.frm, .int .i64 q.til] 48):=⟨_,rfl⟩
 rw[←hw]
 have hx:Box w2 w1.heap.size ⟨q,S,cc⟩:=by rw[hw];exact(box_lit w1 ⟨q,S,cc⟩ FS.out).1
 have hb:Below w1.heap.size w1 w2:=by rw[hw];exact below_lit w1 _ _
 replace HT:=Lib.hid (HT.out.next hb)
 replace HA:=Lib.hid (HA.out.next hb)
 replace H1:=Lib.hid (H1.out.next hb)
 replace H2:=Lib.hid (H2.out.next hb)
 replace HP:=Lib.hid (HP.out.next hb)
 replace FS:=Lib.hid (FS.out.next hb)
 replace HBL:=Lib.hid (HBL.out.trans (hb.mono HBL.out.size))
 have HX:=Lib.hid hx
 clear hx hb hw
 obtain⟨X,hB⟩: ∃B,B=w1.heap.size:=⟨_,rfl⟩
 rw[←hB]at HX⊢
 clear hB
 go_wp2_with fail
 obtain⟨wd,hwd⟩: ∃wd,wd=w2.drew:=⟨_,rfl⟩
 have hb:Below w2.heap.size w2 wd:=by rw[hwd];exact below_drewN (Below.refl _ _) 1
 replace HT:=Lib.hid (HT.out.next hb)
 replace HA:=Lib.hid (HA.out.next hb)
 replace H1:=Lib.hid (H1.out.next hb)
 replace H2:=Lib.hid (H2.out.next hb)
 replace HP:=Lib.hid (HP.out.next hb)
 replace FS:=Lib.hid (FS.out.next hb)
 replace HX:=Lib.hid (HX.out.next hb)
 replace HBL:=Lib.hid (HBL.out.trans (hb.mono HBL.out.size))
 clear hb
 refine wp_region_held_drew (S:=fun w'=>Box w' X ⟨q,S,cc⟩∧Blk w' XB #[.slice A1 j c1, .slice A2 32 c2,v3] 62) (by kernel_rfl) (show Box w2.drew X ⟨q,S,cc⟩∧Blk w2.drew XB #[.slice A1 j c1, .slice A2 32 c2,v3] 62 by rw[←hwd];exact⟨HX.out,HP.out⟩) (fun hHeld=> ?_)
 rw[←hwd]at hHeld⊢
 clear hwd
 refine wpAnyH_take (i:=0) (oi:=⟨some 19,_,_,_,_,_⟩) (v:= ?_) rfl (by kernel_rfl) (by kernel_rfl) (by kernel_rfl) (fun _ _ _ h=>h) (Or.inl ⟨by rfl, ?_⟩) hHeld ?_
 rotate_left
 ·intro w hSw
  go_simp
  first|done|with_reducible rfl
 try simp only[Act.put,List.setIfInBounds_toArray,List.set_cons_zero,List.set_cons_succ]
 refine wpAnyH_take (i:=1) (oi:=⟨some 20,_,_,_,_,_⟩) (v:= ?_) rfl (by kernel_rfl) (by kernel_rfl) (by kernel_rfl) (fun _ _ _ h=>h) (Or.inl ⟨by rfl, ?_⟩) hHeld ?_
 rotate_left
 ·intro w hSw
  obtain⟨hX9,hP9⟩:=hSw
  have k1:=cell_of_row _ _ 1 _ _ _ hX9.1
  go_simp
  first|done|with_reducible rfl
 try simp only[Act.put,List.setIfInBounds_toArray,List.set_cons_zero,List.set_cons_succ]
 refine wpAnyH_take (i:=2) (oi:=⟨some 21,_,_,_,_,_⟩) (v:= ?_) rfl (by kernel_rfl) (by kernel_rfl) (by kernel_rfl) (fun _ _ _ h=>h) (Or.inl ⟨by rfl, ?_⟩) hHeld ?_
 rotate_left
 ·intro w hSw
  go_simp
  first|done|with_reducible rfl
 try simp only[Act.put,List.setIfInBounds_toArray,List.set_cons_zero,List.set_cons_succ]
 refine wpAnyH_take (i:=3) (oi:=⟨some 22,_,_,_,_,_⟩) (v:= ?_) rfl (by kernel_rfl) (by kernel_rfl) (by kernel_rfl) (fun _ _ _ h=>h) (Or.inl ⟨by rfl, ?_⟩) hHeld ?_
 rotate_left
 ·intro w hSw
  go_simp
  first|done|with_reducible rfl
 try simp only[Act.put,List.setIfInBounds_toArray,List.set_cons_zero,List.set_cons_succ]
 refine wpAnyH_take (i:=4) (oi:=⟨some 23,_,_,_,_,_⟩) (v:= ?_) rfl (by kernel_rfl) (by kernel_rfl) (by kernel_rfl) (fun _ _ _ h=>h) (Or.inl ⟨by rfl, ?_⟩) hHeld ?_
 rotate_left
 ·intro w hSw
  go_simp
  first|done|with_reducible rfl
 try simp only[Act.put,List.setIfInBounds_toArray,List.set_cons_zero,List.set_cons_succ]
 refine wpAnyH_take (i:=5) (oi:=⟨some 24,_,_,_,_,_⟩) (v:= ?_) rfl (by kernel_rfl) (by kernel_rfl) (by kernel_rfl) (fun _ _ _ h=>h) (Or.inl ⟨by rfl, ?_⟩) hHeld ?_
 rotate_left
 ·intro w hSw
  obtain⟨hX9,hP9⟩:=hSw
  have x0:=hP9.cell 0 rfl
  go_simp
  first|done|with_reducible rfl
 try simp only[Act.put,List.setIfInBounds_toArray,List.set_cons_zero,List.set_cons_succ]
 refine wpAnyH_ready (rs:=[6,7]) (by kernel_rfl) (by simp) ?_
 refine AllReadyH.cons (o:=⟨some 25, .call _,_,_,_,_⟩) rfl (fun K hK=> ?_) (AllReadyH.cons (o:=⟨some 9, .alloc _,_,_,_,_⟩) rfl (fun K hK=> ?_) AllReadyH.nil)
 ·go_simp
  go_at_call 19
  refine(btag_any q.sec s q.sec.length j rfl HJ.out S A1 cc c1 _ HT.out FS.out H1.out (by have:=HS.out;omega) h117 F HFB.out).mono ?_
  rintro e w20 ⟨rfl,hb⟩
  go_wp2_with fail
  replace HT:=Lib.hid (HT.out.next hb)
  replace HA:=Lib.hid (HA.out.next hb)
  replace H1:=Lib.hid (H1.out.next hb)
  replace H2:=Lib.hid (H2.out.next hb)
  replace HP:=Lib.hid (HP.out.next hb)
  replace FS:=Lib.hid (FS.out.next hb)
  replace HX:=Lib.hid (HX.out.next hb)
  replace HBL:=Lib.hid (HBL.out.trans (hb.mono HBL.out.size))
  refine hK.out _ _ ⟨HX.out,HP.out⟩ (fun hHeld=> ?_)
  clear hK K
  try simp only[Act.put,List.setIfInBounds_toArray,List.set_cons_zero,List.set_cons_succ]
  refine wpAnyH_ready (rs:=[7]) (by kernel_rfl) (by simp) ?_
  refine AllReadyH.cons (o:=⟨some 9, .alloc _,_,_,_,_⟩) rfl (fun K hK=> ?_) AllReadyH.nil
  go_simp
  obtain⟨w21,hy⟩: ∃w21,w21=w20.alloc (.cells #[.int .u8 0, .int .u8 0, .int .u8 0, .int .u8 0, .int .u8 0, .int .u8 0, .int .u8 0, .int .u8 0, .int .u8 0, .int .u8 0, .int .u8 0, .int .u8 0, .int .u8 0, .int .u8 0, .int .u8 0, .int .u8 0, .int .u8 0, .int .u8 0, .int .u8 0, .int .u8 0, .int .u8 0, .int .u8 0, .int .u8 0, .int .u8 0, .int .u8 0, .int .u8 0, .int .u8 0, .int .u8 0, .int .u8 0, .int .u8 0, .int .u8 0, .int .u8 0] 42):=⟨_,rfl⟩
  rw[←hy]
  have hb:Below w20.heap.size w20 w21:=by rw[hy];exact below_lit w20 _ _
  have hZ:Blk w21 w20.heap.size #[.int .u8 0, .int .u8 0, .int .u8 0, .int .u8 0, .int .u8 0, .int .u8 0, .int .u8 0, .int .u8 0, .int .u8 0, .int .u8 0, .int .u8 0, .int .u8 0, .int .u8 0, .int .u8 0, .int .u8 0, .int .u8 0, .int .u8 0, .int .u8 0, .int .u8 0, .int .u8 0, .int .u8 0, .int .u8 0, .int .u8 0, .int .u8 0, .int .u8 0, .int .u8 0, .int .u8 0, .int .u8 0, .int .u8 0, .int .u8 0, .int .u8 0, .int .u8 0] 42 :=by rw[hy];exact Blk.new w20 _ _
  have H2x:=H2
  have HPx:=HP
  have HXx:=HX
  have HBLx:=HBL
  have HB0:=Lib.hid hb
  replace HT:=Lib.hid (HT.out.next hb)
  replace HA:=Lib.hid (HA.out.next hb)
  replace H1:=Lib.hid (H1.out.next hb)
  replace H2:=Lib.hid (H2.out.next hb)
  replace HP:=Lib.hid (HP.out.next hb)
  replace FS:=Lib.hid (FS.out.next hb)
  replace HX:=Lib.hid (HX.out.next hb)
  replace HBL:=Lib.hid (HBL.out.trans (hb.mono HBL.out.size))
  obtain⟨Y,hYe⟩: ∃Y,Y=w20.heap.size:=⟨_,rfl⟩
  rw[←hYe]at hZ⊢
  have HZ:=Lib.hid hZ
  have HYL:=Lib.hid (Nat.le_of_eq hYe.symm)
  clear hZ hb hy hYe
  refine hK.out _ _ ⟨HX.out,HP.out⟩ (fun hHeld=> ?_)
  clear hK K
  try simp only[Act.put,List.setIfInBounds_toArray,List.set_cons_zero,List.set_cons_succ]
  refine wpAnyH_ready (rs:=[8]) (by kernel_rfl) (by simp) ?_
  refine AllReadyH.cons (o:=⟨none, .store 42 (.tmp 9) (.tmp 25),_,_,_,_⟩) rfl (fun K hK=> ?_) AllReadyH.nil
  rw[if_pos (by rfl)]
  refine oper_store_row rfl 42 (.tmp 9) (.tmp 25) rfl Y F rfl rfl 42 _ HZ.out HIS.out.1 HIS.out.2.1 HIS.out.2.2 ?_
  obtain⟨w30,hw30⟩: ∃w30,w30=w21.setRow Y F:=⟨_,rfl⟩
  rw[←hw30]
  have hb:Below w20.heap.size w20 w30:=by rw[hw30];exact below_setRow HB0.out HYL.out F
  have hY9:Blk w30 Y F 42 :=by rw[hw30];exact HZ.out.row F
  replace HX:=Lib.hid (HXx.out.next hb)
  replace HP:=Lib.hid (HPx.out.next hb)
  replace H2:=Lib.hid (H2x.out.next hb)
  replace HBL:=Lib.hid (HBLx.out.trans (hb.mono HBLx.out.size))
  have HRT:=Lib.hid (rd_row hY9 HF.out)
  clear hb hw30 hY9 HZ HB0 HYL HXx HPx H2x HBLx HT HA H1 FS
  refine hK.out _ _ ⟨HX.out,HP.out⟩ (fun hHeld=> ?_)
  clear hK K
  try simp only[Act.put]
  refine wpAnyH_done (by kernel_rfl) ?_ _
  go_wp2_with fail
  have hdr:Below w30.heap.size w30 w30.drew:=below_drewN (Below.refl _ _) 1
  have T2d:=H2.out.next hdr
  have RTd:=HRT.out.next hdr
  have xt:w30.drew.cell? ⟨XB,1,none⟩=some (.slice A2 32 c2):=(HP.out.next hdr).cell 1 rfl
  go_region_with (first|(go_at_call 82;refine(sealsame_any t T 32 32 HT2.out.symm HTL.out.symm A2 (some ⟨Y,0,none⟩) c2 32 _ T2d.rd RTd T2d.lt HTT.out (by omega) (by omega)).mono ?_;rintro e w31 ⟨rfl,hb31⟩;rw[H6.out])|(go_at_call 36;refine(punless_any b 11 V HV.out _).mono ?_;rintro e w32 ⟨rfl,rfl⟩))
  all_goals
   go_wp2
   go_ret
   exact⟨rfl,HBL.out.trans ((hdr.trans (hb31.mono hdr.size)).mono HBL.out.size)⟩
 ·go_simp
  obtain⟨w20,hy⟩: ∃w20,w20=wd.alloc (.cells #[.int .u8 0, .int .u8 0, .int .u8 0, .int .u8 0, .int .u8 0, .int .u8 0, .int .u8 0, .int .u8 0, .int .u8 0, .int .u8 0, .int .u8 0, .int .u8 0, .int .u8 0, .int .u8 0, .int .u8 0, .int .u8 0, .int .u8 0, .int .u8 0, .int .u8 0, .int .u8 0, .int .u8 0, .int .u8 0, .int .u8 0, .int .u8 0, .int .u8 0, .int .u8 0, .int .u8 0, .int .u8 0, .int .u8 0, .int .u8 0, .int .u8 0, .int .u8 0] 42):=⟨_,rfl⟩
  rw[←hy]
  have hb:Below wd.heap.size wd w20:=by rw[hy];exact below_lit wd _ _
  have hZ:Blk w20 wd.heap.size #[.int .u8 0, .int .u8 0, .int .u8 0, .int .u8 0, .int .u8 0, .int .u8 0, .int .u8 0, .int .u8 0, .int .u8 0, .int .u8 0, .int .u8 0, .int .u8 0, .int .u8 0, .int .u8 0, .int .u8 0, .int .u8 0, .int .u8 0, .int .u8 0, .int .u8 0, .int .u8 0, .int .u8 0, .int .u8 0, .int .u8 0, .int .u8 0, .int .u8 0, .int .u8 0, .int .u8 0, .int .u8 0, .int .u8 0, .int .u8 0, .int .u8 0, .int .u8 0] 42 :=by rw[hy];exact Blk.new wd _ _
  have H2x:=H2
  have HPx:=HP
  have HXx:=HX
  have HBLx:=HBL
  have HB0:=Lib.hid hb
  replace HT:=Lib.hid (HT.out.next hb)
  replace HA:=Lib.hid (HA.out.next hb)
  replace H1:=Lib.hid (H1.out.next hb)
  replace H2:=Lib.hid (H2.out.next hb)
  replace HP:=Lib.hid (HP.out.next hb)
  replace FS:=Lib.hid (FS.out.next hb)
  replace HX:=Lib.hid (HX.out.next hb)
  replace HBL:=Lib.hid (HBL.out.trans (hb.mono HBL.out.size))
  obtain⟨Y,hYe⟩: ∃Y,Y=wd.heap.size:=⟨_,rfl⟩
  rw[←hYe]at hZ⊢
  have HZ:=Lib.hid hZ
  have HYL:=Lib.hid (Nat.le_of_eq hYe.symm)
  clear hZ hb hy hYe
  refine hK.out _ _ ⟨HX.out,HP.out⟩ (fun hHeld=> ?_)
  clear hK K
  try simp only[Act.put,List.setIfInBounds_toArray,List.set_cons_zero,List.set_cons_succ]
  refine wpAnyH_ready (rs:=[6]) (by kernel_rfl) (by simp) ?_
  refine AllReadyH.cons (o:=⟨some 25, .call _,_,_,_,_⟩) rfl (fun K hK=> ?_) AllReadyH.nil
  go_simp
  go_at_call 19
  refine(btag_any q.sec s q.sec.length j rfl HJ.out S A1 cc c1 _ HT.out FS.out H1.out (by have:=HS.out;omega) h117 F HFB.out).mono ?_
  rintro e w21 ⟨rfl,hb⟩
  go_wp2_with fail
  replace HT:=Lib.hid (HT.out.next hb)
  replace HA:=Lib.hid (HA.out.next hb)
  replace H1:=Lib.hid (H1.out.next hb)
  replace H2:=Lib.hid (H2.out.next hb)
  replace HP:=Lib.hid (HP.out.next hb)
  replace FS:=Lib.hid (FS.out.next hb)
  replace HX:=Lib.hid (HX.out.next hb)
  replace HBL:=Lib.hid (HBL.out.trans (hb.mono HBL.out.size))
  replace HZ:=Lib.hid (HZ.out.next hb)
  replace HB0:=Lib.hid (HB0.out.trans (hb.mono HB0.out.size))
  clear hb
  refine hK.out _ _ ⟨HX.out,HP.out⟩ (fun hHeld=> ?_)
  clear hK K
  try simp only[Act.put,List.setIfInBounds_toArray,List.set_cons_zero,List.set_cons_succ]
  refine wpAnyH_ready (rs:=[8]) (by kernel_rfl) (by simp) ?_
  refine AllReadyH.cons (o:=⟨none, .store 42 (.tmp 9) (.tmp 25),_,_,_,_⟩) rfl (fun K hK=> ?_) AllReadyH.nil
  rw[if_pos (by rfl)]
  refine oper_store_row rfl 42 (.tmp 9) (.tmp 25) rfl Y F rfl rfl 42 _ HZ.out HIS.out.1 HIS.out.2.1 HIS.out.2.2 ?_
  obtain⟨w30,hw30⟩: ∃w30,w30=w21.setRow Y F:=⟨_,rfl⟩
  rw[←hw30]
  have hb:Below wd.heap.size wd w30:=by rw[hw30];exact below_setRow HB0.out HYL.out F
  have hY9:Blk w30 Y F 42 :=by rw[hw30];exact HZ.out.row F
  replace HX:=Lib.hid (HXx.out.next hb)
  replace HP:=Lib.hid (HPx.out.next hb)
  replace H2:=Lib.hid (H2x.out.next hb)
  replace HBL:=Lib.hid (HBLx.out.trans (hb.mono HBLx.out.size))
  have HRT:=Lib.hid (rd_row hY9 HF.out)
  clear hb hw30 hY9 HZ HB0 HYL HXx HPx H2x HBLx HT HA H1 FS
  refine hK.out _ _ ⟨HX.out,HP.out⟩ (fun hHeld=> ?_)
  clear hK K
  try simp only[Act.put]
  refine wpAnyH_done (by kernel_rfl) ?_ _
  go_wp2_with fail
  have hdr:Below w30.heap.size w30 w30.drew:=below_drewN (Below.refl _ _) 1
  have T2d:=H2.out.next hdr
  have RTd:=HRT.out.next hdr
  have xt:w30.drew.cell? ⟨XB,1,none⟩=some (.slice A2 32 c2):=(HP.out.next hdr).cell 1 rfl
  go_region_with (first|(go_at_call 82;refine(sealsame_any t T 32 32 HT2.out.symm HTL.out.symm A2 (some ⟨Y,0,none⟩) c2 32 _ T2d.rd RTd T2d.lt HTT.out (by omega) (by omega)).mono ?_;rintro e w31 ⟨rfl,hb31⟩;rw[H6.out])|(go_at_call 36;refine(punless_any b 11 V HV.out _).mono ?_;rintro e w32 ⟨rfl,rfl⟩))
  all_goals
   go_wp2
   go_ret
   exact⟨rfl,HBL.out.trans ((hdr.trans (hb31.mono hdr.size)).mono HBL.out.size)⟩
end Go.Proofs.YtcnglbliidjnfaaGreatDoor
end
section
namespace Go.Proofs.YtcnglbliidjnfaaGreatDoor
set_option linter.unusedVariables false
open Go.ChangeShapes Go.WideShapes Go.ChangeAt Go.RowKit
end Go.Proofs.YtcnglbliidjnfaaGreatDoor
end
