import Derived.Test.YtcnglbliidjnfaaGreatDoorShaPSum
import Derived.Test.YtcnglbliidjnfaaGreatDoorFortyPPut
import Derived.Test.YtcnglbliidjnfaaGreatDoorBarPEnc
import Derived.Test.YtcnglbliidjnfaaGreatDoorBarPChain
import Derived.Test.YtcnglbliidjnfaaGreatDoorBarPDec0
import Derived.Laws.EntriesVeiled
import Derived.Test.YtcnglbliidjnfaaGreatDoorMem
import Derived.Test.YtcnglbliidjnfaaGreatDoorShaRefSum
import Derived.Test.YtcnglbliidjnfaaGreatDoorRgBox
import Derived.Test.YtcnglbliidjnfaaGreatDoorBarConst
import Derived.Laws.StructEq
section
namespace Go.Proofs.YtcnglbliidjnfaaGreatDoor
set_option linter.unusedVariables false
open Go.ChangeShapes Go.WideShapes Go.ChangeAt Go.RowKit
theorem verT_nil:verT []=(12,0):=rfl
theorem verT_tag {f:Tf} {t:List Tf} (h:f.tag≠1):verT (f::t)=(12,0):=by rw[verT,if_neg (fun q=>h q.1)]
theorem verT_len {f:Tf} {t:List Tf} (h:f.val.length≠1):verT (f::t)=(12,0):=by rw[verT,if_neg (fun q=>h q.2.1)]
theorem verT_lo {f:Tf} {t:List Tf} (h:f.val.getD 0 0<1):verT (f::t)=(12,0):=by rw[verT,if_neg (fun q=>by have:=q.2.2.1;omega)]
theorem verT_hi {f:Tf} {t:List Tf} (h:3<f.val.getD 0 0):verT (f::t)=(12,0):=by rw[verT,if_neg (fun q=>by have:=q.2.2.2;omega)]
theorem verT_ok {f:Tf} {t:List Tf} (h:f.tag=1) (h1:f.val.length=1) (h2:1≤f.val.getD 0 0) (h3:f.val.getD 0 0≤3):verT (f::t)=(0,f.val.getD 0 0):=by rw[verT,if_pos ⟨h,h1,h2,h3⟩]
set_option maxRecDepth 100000 in
set_option maxHeartbeats 1600000 in
theorem pver_nil (A:Option Addr) (c:Nat) (w:World):Calls Tryz.prog 48 #[.slice A 0 c] w fun e w'=>e= .returned (.tuple #[.int .i64 0, .int .i64 12])∧w=w':=by
 go_enter Tryz.func48, Tryz.ntmps48
 go_wp2
 go_ret2
 exact⟨rfl,rfl⟩
set_option maxRecDepth 100000 in
set_option maxHeartbeats 1600000 in
theorem pver_tag (f:Tf) (t:List Tf) (n:Nat) (hn:n=(f::t).length) (h1:f.tag≠1) (A:Option Addr) (c:Nat) (w:World) (hA:Ts w w.heap.size (f::t) A c):Calls Tryz.prog 48 #[.slice A n c] w fun e w'=>e= .returned (.tuple #[.int .i64 0, .int .i64 12])∧w=w':=by
 obtain⟨ad,S,cc,rfl,hlt,hk⟩:=hA.rd 0 (by simp)
 rw[List.getD_cons_zero,Nat.zero_mul,add_zero']at hk
 have c0:=hk.c0
 have c1:=hk.c1
 have HBS:=Lib.hid hk.bs
 have hlc:=hA.len
 rw[List.length_cons, ←Nat.succ_eq_add_one,Nat.succ_eq_add_one, ←List.length_cons (a:=f), ←hn]at hlc
 have b0:0<n:=by rw[hn];simp
 have b1:decide (0<n)=true:=decide_eq_true b0
 have b2:((n:Int)==0)=false:=by rw[beq_eq_false_iff_ne];omega
 have b3:(n==0)=false:=by rw[beq_eq_false_iff_ne];omega
 have b4: ¬n=0:=by omega
 obtain⟨tg,htg⟩: ∃tg,f.tag=tg:=⟨_,rfl⟩
 obtain⟨k,hk9⟩: ∃k,f.val.length=k:=⟨_,rfl⟩
 rw[htg]at c0
 rw[hk9]at c1
 have HK:=Lib.hid hk9
 have HTG:=Lib.hid htg
 clear hk hA hn hlc
 rw[htg]at h1
 have t1:((tg:Int)==1)=false:=by rw[beq_eq_false_iff_ne];omega
 have t2:((tg:Int) !=1)=true:=by rw[bne_iff_ne];omega
 have t3:(tg==1)=false:=by rw[beq_eq_false_iff_ne];exact h1
 have t4:(tg !=1)=true:=by rw[bne_iff_ne];exact h1
 clear h1
 go_enter Tryz.func48, Tryz.ntmps48
 go_wp2
 go_ret2
 exact⟨rfl,rfl⟩
set_option maxRecDepth 100000 in
set_option maxHeartbeats 1600000 in
theorem pver_len (f:Tf) (t:List Tf) (n:Nat) (hn:n=(f::t).length) (h1:f.tag=1) (h2:f.val.length≠1) (A:Option Addr) (c:Nat) (w:World) (hA:Ts w w.heap.size (f::t) A c):Calls Tryz.prog 48 #[.slice A n c] w fun e w'=>e= .returned (.tuple #[.int .i64 0, .int .i64 12])∧w=w':=by
 obtain⟨ad,S,cc,rfl,hlt,hk⟩:=hA.rd 0 (by simp)
 rw[List.getD_cons_zero,Nat.zero_mul,add_zero']at hk
 have c0:=hk.c0
 have c1:=hk.c1
 have HBS:=Lib.hid hk.bs
 have hlc:=hA.len
 rw[List.length_cons, ←Nat.succ_eq_add_one,Nat.succ_eq_add_one, ←List.length_cons (a:=f), ←hn]at hlc
 have b0:0<n:=by rw[hn];simp
 have b1:decide (0<n)=true:=decide_eq_true b0
 have b2:((n:Int)==0)=false:=by rw[beq_eq_false_iff_ne];omega
 have b3:(n==0)=false:=by rw[beq_eq_false_iff_ne];omega
 have b4: ¬n=0:=by omega
 obtain⟨tg,htg⟩: ∃tg,f.tag=tg:=⟨_,rfl⟩
 obtain⟨k,hk9⟩: ∃k,f.val.length=k:=⟨_,rfl⟩
 rw[htg]at c0
 rw[hk9]at c1
 have HK:=Lib.hid hk9
 have HTG:=Lib.hid htg
 clear hk hA hn hlc
 rw[htg]at h1
 rw[hk9]at h2
 subst h1
 have t1:((k:Int)==1)=false:=by rw[beq_eq_false_iff_ne];omega
 have t2:((k:Int) !=1)=true:=by rw[bne_iff_ne];omega
 have t3:(k==1)=false:=by rw[beq_eq_false_iff_ne];exact h2
 have t4:(k !=1)=true:=by rw[bne_iff_ne];exact h2
 clear h2
 go_enter Tryz.func48, Tryz.ntmps48
 go_wp2
 go_ret2
 exact⟨rfl,rfl⟩
set_option maxRecDepth 100000 in
set_option maxHeartbeats 1600000 in
theorem pver_lo (f:Tf) (t:List Tf) (n:Nat) (hn:n=(f::t).length) (h1:f.tag=1) (h2:f.val.length=1) (h3:f.val.getD 0 0<1) (A:Option Addr) (c:Nat) (w:World) (hA:Ts w w.heap.size (f::t) A c):Calls Tryz.prog 48 #[.slice A n c] w fun e w'=>e= .returned (.tuple #[.int .i64 0, .int .i64 12])∧w=w':=by
 obtain⟨ad,S,cc,rfl,hlt,hk⟩:=hA.rd 0 (by simp)
 rw[List.getD_cons_zero,Nat.zero_mul,add_zero']at hk
 have c0:=hk.c0
 have c1:=hk.c1
 have HBS:=Lib.hid hk.bs
 have hlc:=hA.len
 rw[List.length_cons, ←Nat.succ_eq_add_one,Nat.succ_eq_add_one, ←List.length_cons (a:=f), ←hn]at hlc
 have b0:0<n:=by rw[hn];simp
 have b1:decide (0<n)=true:=decide_eq_true b0
 have b2:((n:Int)==0)=false:=by rw[beq_eq_false_iff_ne];omega
 have b3:(n==0)=false:=by rw[beq_eq_false_iff_ne];omega
 have b4: ¬n=0:=by omega
 obtain⟨tg,htg⟩: ∃tg,f.tag=tg:=⟨_,rfl⟩
 obtain⟨k,hk9⟩: ∃k,f.val.length=k:=⟨_,rfl⟩
 rw[htg]at c0
 rw[hk9]at c1
 have HK:=Lib.hid hk9
 have HTG:=Lib.hid htg
 clear hk hA hn hlc
 rw[htg]at h1
 rw[hk9]at h2
 subst h1 h2
 obtain⟨x,hx⟩: ∃x,f.val=[x]:=by
  match f.val,hk9 with
  |[x],_=>exact⟨x,rfl⟩
 rw[hx,List.getD_cons_zero]at h3
 obtain⟨ad2,rfl,hl2,hc2⟩:=HBS.out.rd 0 _ (by rw[hx];rfl)
 rw[add_zero']at hc2
 have hx9:=HBS.out.lt x (by rw[hx];simp)
 obtain rfl:x=0:=by omega
 clear hx9 h3
 go_enter Tryz.func48, Tryz.ntmps48
 go_wp2
 go_ret2
 exact⟨rfl,rfl⟩
set_option maxRecDepth 100000 in
set_option maxHeartbeats 1600000 in
theorem pver_hi (f:Tf) (t:List Tf) (n:Nat) (hn:n=(f::t).length) (h1:f.tag=1) (h2:f.val.length=1) (h3:3<f.val.getD 0 0) (A:Option Addr) (c:Nat) (w:World) (hA:Ts w w.heap.size (f::t) A c):Calls Tryz.prog 48 #[.slice A n c] w fun e w'=>e= .returned (.tuple #[.int .i64 0, .int .i64 12])∧w=w':=by
 obtain⟨ad,S,cc,rfl,hlt,hk⟩:=hA.rd 0 (by simp)
 rw[List.getD_cons_zero,Nat.zero_mul,add_zero']at hk
 have c0:=hk.c0
 have c1:=hk.c1
 have HBS:=Lib.hid hk.bs
 have hlc:=hA.len
 rw[List.length_cons, ←Nat.succ_eq_add_one,Nat.succ_eq_add_one, ←List.length_cons (a:=f), ←hn]at hlc
 have b0:0<n:=by rw[hn];simp
 have b1:decide (0<n)=true:=decide_eq_true b0
 have b2:((n:Int)==0)=false:=by rw[beq_eq_false_iff_ne];omega
 have b3:(n==0)=false:=by rw[beq_eq_false_iff_ne];omega
 have b4: ¬n=0:=by omega
 obtain⟨tg,htg⟩: ∃tg,f.tag=tg:=⟨_,rfl⟩
 obtain⟨k,hk9⟩: ∃k,f.val.length=k:=⟨_,rfl⟩
 rw[htg]at c0
 rw[hk9]at c1
 have HK:=Lib.hid hk9
 have HTG:=Lib.hid htg
 clear hk hA hn hlc
 rw[htg]at h1
 rw[hk9]at h2
 subst h1 h2
 obtain⟨x,hx⟩: ∃x,f.val=[x]:=by
  match f.val,hk9 with
  |[x],_=>exact⟨x,rfl⟩
 rw[hx,List.getD_cons_zero]at h3
 obtain⟨ad2,rfl,hl2,hc2⟩:=HBS.out.rd 0 _ (by rw[hx];rfl)
 rw[add_zero']at hc2
 have hx9:=HBS.out.lt x (by rw[hx];simp)
 have t1: ¬((x:Int)<1):=by omega
 have t2:(3:Int)<(x:Int):=by omega
 have t5:IntKind.i64.wrap (x:Int)=x:=IntWalk.i64_in _ (by omega)
 clear hx9 h3
 go_enter Tryz.func48, Tryz.ntmps48
 go_wp2
 go_ret2
 exact⟨rfl,rfl⟩
set_option maxRecDepth 100000 in
set_option maxHeartbeats 1600000 in
theorem pver_ok (f:Tf) (t:List Tf) (n:Nat) (hn:n=(f::t).length) (h1:f.tag=1) (h2:f.val.length=1) (h3:1≤f.val.getD 0 0) (h4:f.val.getD 0 0≤3) (v:Nat) (hv:f.val.getD 0 0=v) (A:Option Addr) (c:Nat) (w:World) (hA:Ts w w.heap.size (f::t) A c):Calls Tryz.prog 48 #[.slice A n c] w fun e w'=>e= .returned (.tuple #[.int .i64 (v:Int), .int .i64 0])∧w=w':=by
 obtain⟨ad,S,cc,rfl,hlt,hk⟩:=hA.rd 0 (by simp)
 rw[List.getD_cons_zero,Nat.zero_mul,add_zero']at hk
 have c0:=hk.c0
 have c1:=hk.c1
 have HBS:=Lib.hid hk.bs
 have hlc:=hA.len
 rw[List.length_cons, ←Nat.succ_eq_add_one,Nat.succ_eq_add_one, ←List.length_cons (a:=f), ←hn]at hlc
 have b0:0<n:=by rw[hn];simp
 have b1:decide (0<n)=true:=decide_eq_true b0
 have b2:((n:Int)==0)=false:=by rw[beq_eq_false_iff_ne];omega
 have b3:(n==0)=false:=by rw[beq_eq_false_iff_ne];omega
 have b4: ¬n=0:=by omega
 obtain⟨tg,htg⟩: ∃tg,f.tag=tg:=⟨_,rfl⟩
 obtain⟨k,hk9⟩: ∃k,f.val.length=k:=⟨_,rfl⟩
 rw[htg]at c0
 rw[hk9]at c1
 have HK:=Lib.hid hk9
 have HTG:=Lib.hid htg
 clear hk hA hn hlc
 rw[htg]at h1
 rw[hk9]at h2
 subst h1 h2
 obtain⟨x,hx⟩: ∃x,f.val=[x]:=by
  match f.val,hk9 with
  |[x],_=>exact⟨x,rfl⟩
 rw[hx,List.getD_cons_zero]at h3 h4
 obtain⟨ad2,rfl,hl2,hc2⟩:=HBS.out.rd 0 _ (by rw[hx];rfl)
 rw[add_zero']at hc2
 have hx9:=HBS.out.lt x (by rw[hx];simp)
 have t1: ¬((x:Int)<1):=by omega
 have t2: ¬((3:Int)<(x:Int)):=by omega
 have t5:IntKind.i64.wrap (x:Int)=x:=IntWalk.i64_in _ (by omega)
 obtain rfl:v=x:=by rw[←hv,hx,List.getD_cons_zero]
 clear hx9 h3 h4 hv
 go_enter Tryz.func48, Tryz.ntmps48
 go_wp2
 go_ret2
 exact⟨rfl,rfl⟩
theorem pversionOf_any (L:List Tf) (n:Nat) (hn:n=L.length) (E v:Nat) (hV:verT L=(E,v)) (A:Option Addr) (c:Nat) (w:World) (hA:Ts w w.heap.size L A c):Calls Tryz.prog 48 #[.slice A n c] w fun e w'=>e= .returned (.tuple #[.int .i64 (v:Int), .int .i64 (E:Int)])∧w=w':=by
 match L,hn,hV,hA with
 |[],hn,hV,hA=>
  subst hn
  rw[verT_nil]at hV
  cases hV
  exact pver_nil A c w
 |f::t,hn,hV,hA=>
  by_cases h1:f.tag=1
  ·by_cases h2:f.val.length=1
   ·by_cases h3:f.val.getD 0 0<1
    ·rw[verT_lo h3]at hV
     cases hV
     exact pver_lo f t n hn h1 h2 h3 A c w hA
    ·by_cases h4:3<f.val.getD 0 0
     ·rw[verT_hi h4]at hV
      cases hV
      exact pver_hi f t n hn h1 h2 h4 A c w hA
     ·rw[verT_ok h1 h2 (by omega) (by omega)]at hV
      obtain⟨rfl,hv⟩:=Prod.mk.inj hV
      exact pver_ok f t n hn h1 h2 (by omega) (by omega) v hv A c w hA
   ·rw[verT_len h2]at hV
    cases hV
    exact pver_len f t n hn h1 h2 A c w hA
  ·rw[verT_tag h1]at hV
   cases hV
   exact pver_tag f t n hn h1 A c w hA
set_option maxRecDepth 100000 in
set_option maxHeartbeats 1600000 in
theorem bver1 (L:List Tf) (n:Nat) (hn:n=L.length) (E v:Nat) (hV:verT L=(E,v)) (A:Option Addr) (c:Nat) (v1 v2:Value) (x:Int) (XB VB:Nat) (w:World) (hL:Ts w w.heap.size L A c) (hX:Blk w XB #[v1,v2, .slice A n c] 62) (hB:Blk w VB #[.int .i64 x] 3):
  Calls Tryz.prog 47 #[.pointer (some ⟨XB,0,none⟩), .pointer (some ⟨VB,0,none⟩)] w fun e w'=>e= .returned (.int .i64 (E:Int))∧w.grownBy w' (some VB)∧Blk w' VB #[.int .i64 (v:Int)] 3 :=by
 have HN:=Lib.hid hn
 have HV:=Lib.hid hV
 have HL:=Lib.hid hL
 have HB:=Lib.hid hB
 have cX:w.cell? ⟨XB,2,none⟩=some (.slice A n c):=hX.cell 2 rfl
 have cB:=hB.cell 0 rfl
 have zB:=hB.frozen 0
 clear hn hV hL hX hB
 go_enter Tryz.func47, Tryz.ntmps47
 go_wp2_with fail
 refine(pversionOf_any L n HN.out E v HV.out A c w HL.out).mono ?_
 rintro e w1 ⟨rfl,rfl⟩
 go_wp2
 go_ret
 exact⟨rfl,grown_cell w VB 0 _,HB.out.put 0 _⟩
end Go.Proofs.YtcnglbliidjnfaaGreatDoor
end
section
namespace Go.Proofs.YtcnglbliidjnfaaGreatDoor
set_option linter.unusedVariables false
open Go.ChangeShapes Go.WideShapes Go.ChangeAt Go.RowKit
structure VB0 (w0:World) (B:Option Addr) (m d:Nat) (FA:Option Addr) (vs:List Value) (XB PB SB:Nat) (w:World):Prop where
 below:Below w0.heap.size w0 w
 rd:Rd w w.heap.size FA vs
 s:Blk w SB #[.slice B m d] 30
 p:Blk w PB #[.pointer (some ⟨XB,0,none⟩)] 109
theorem VB0.next {w0:World} {B:Option Addr} {m d:Nat} {FA:Option Addr} {vs:List Value} {XB PB SB:Nat} {w w':World} (h:VB0 w0 B m d FA vs XB PB SB w) (hb:Below w.heap.size w w'):VB0 w0 B m d FA vs XB PB SB w':=
 ⟨h.below.trans (hb.mono h.below.size),h.rd.next hb,h.s.next hb,h.p.next hb⟩
theorem VB0.grown {w0:World} {B:Option Addr} {m d:Nat} {FA:Option Addr} {vs:List Value} {XB PB SB:Nat} {w w':World} (h:VB0 w0 B m d FA vs XB PB SB w) (hv: ∀u∈vs, ∃f a k,u=Value.func f a k) {X:Nat} {cs:Array Value} {t:TypeId} (hX:Blk w X cs t) (hnf: ∀f a k,Value.func f a k∉cs.toList) (hg:w.grownBy w' (some X)) (h1:w0.heap.size≤X) (h3:SB≠X) (h4:PB≠X):VB0 w0 B m d FA vs XB PB SB w':=
 ⟨h.below.trans (below_grownR hg h1 h.below.size),krd_grown h.rd hX hg (fun u hu=>by obtain⟨f,a,k,rfl⟩:=hv u hu;exact hnf f a k),h.s.grown hg h3,h.p.grown hg h4⟩
def verV (XB VB PB SB AB:Nat):List Value:=stepV PB SB AB++ [.func (.func 47) #[] #[.pointer (some ⟨XB,0,none⟩), .pointer (some ⟨VB,0,none⟩)]]
theorem verV_func (XB VB PB SB AB:Nat): ∀u∈verV XB VB PB SB AB, ∃f a k,u=Value.func f a k:=by
 intro u hu
 simp only[verV,stepV,List.cons_append,List.nil_append,List.mem_cons,List.not_mem_nil,or_false]at hu
 rcases hu with rfl|rfl|rfl|rfl<;>exact⟨_,_,_,rfl⟩
def VQ (B0:World→Prop) (b:List Nat) (XB AB VB:Nat):Nat→World→Prop
 |0,w=>Link (fun w=>B0 w∧Blk w VB #[.int .i64 0] 3) b XB AB 0 w
 |1,w=>Link (fun w=>B0 w∧Blk w VB #[.int .i64 0] 3) b XB AB 1 w
 |2,w=>Link (fun w=>B0 w∧Blk w VB #[.int .i64 0] 3) b XB AB 2 w
 |3,w=>Link (fun w=>B0 w∧Blk w VB #[.int .i64 0] 3) b XB AB 3 w
 |_,w=> ∃v:Nat,verB b=(0,v)∧B0 w∧Blk w VB #[.int .i64 (v:Int)] 3
def VR (w0:World) (b:List Nat) (VB:Nat) (E:Int) (w:World):Prop:= ∃e:Nat,E=(e:Int)∧verB b=(e,0)∧Below w0.heap.size w0 w∧Blk w VB #[.int .i64 0] 3
theorem ver_said {b P:List Nat} {L:List Tf} (h1:fgetX b=(0,P)) (h2:32≤P.length) (h3:gotT (restB P)=(0,L)):verB b=verT L:=by
 rw[verB,h1]
 simp only
 rw[if_neg (by simp),verP,if_neg (by omega),h3]
 simp only
 rw[if_neg (by simp)]
theorem verT_bad: ∀ {L:List Tf} {E v:Nat},verT L=(E,v)→E≠0→v=0
 |[],E,v,h,_=>by rw[verT_nil]at h;cases h;rfl
 |f::t,E,v,h,h0=>by
  rw[verT]at h
  split at h
  ·exact absurd (Prod.mk.inj h).1.symm h0
  ·exact(Prod.mk.inj h).2.symm
section
variable {w0:World} {B:Option Addr} {m d:Nat} {FA:Option Addr} {XB VB PB SB AB:Nat} {b:List Nat}
theorem vbase (hB:Bs w0 w0.heap.size b B d) (h0:w0.heap.size≤XB) (h1:XB<VB) (h2:VB<PB) (h5:PB<SB) (h6:SB<AB) {vs:List Value} (hvs: ∀u∈vs, ∃f a k,u=Value.func f a k):BaseOK (fun w=>VB0 w0 B m d FA vs XB PB SB w∧Blk w VB #[.int .i64 0] 3) b m B d XB PB SB AB:=
 ⟨fun h hb=>⟨h.1.next hb,h.2.next hb⟩,fun {w w' X cs t} h hX ho hnf hg=>⟨h.1.grown hvs hX hnf hg (by omega) (by omega) (by omega),h.2.grown hg (by omega)⟩,fun h=>⟨h.1.s,hB.next h.1.below,h.1.p⟩⟩
theorem vstep_all (hm:m=b.length) (h47:m≤140737488355328) (hB:Bs w0 w0.heap.size b B d) (h0:w0.heap.size≤XB) (h1:XB<VB) (h2:VB<PB) (h5:PB<SB) (h6:SB<AB) (vs:List Value) (hvs:vs=verV XB VB PB SB AB) (k:Nat) (v:Value) (hv:vs[k]?=some v):StepOK (VQ (VB0 w0 B m d FA vs XB PB SB) b XB AB VB k) (VQ (VB0 w0 B m d FA vs XB PB SB) b XB AB VB (k+1)) (VR w0 b VB) v:=by
 have hf: ∀u∈vs, ∃f a k,u=Value.func f a k:=by rw[hvs];exact verV_func _ _ _ _ _
 have hBO:=vbase (m:=m) (FA:=FA) hB h0 h1 h2 h5 h6 hf
 have hR: ∀(E:Nat) (w:World),E≠0→apE b=E→(VB0 w0 B m d FA vs XB PB SB w∧Blk w VB #[.int .i64 0] 3)→VR w0 b VB E w:=fun E w hE ha h=>⟨E,rfl,apE_ver ha hE,h.1.below,h.2⟩
 have hv0:=hv
 rw[hvs]at hv
 match k,hv with
 |0,hv=>exact link1 hBO hm h47 (by omega) hR v hv
 |1,hv=>exact link2 hBO hR v hv
 |2,hv=>exact link3 hBO hm h47 (by omega) (by omega) hR v hv
 |3,hv=>
  cases hv
  refine⟨_,_,rfl,enters_of Tryz.func47 (by kernel_rfl) rfl,fun w hq=> ?_⟩
  obtain⟨⟨hb,hV⟩,P,L,j,A1,c1,A2,c2,A3,c3,h1',h2',h3',hs1,hs2,hL,hXb⟩:=hq
  have hsaid:=ver_said h1' (by omega) h3'
  cases hG:verT L with
  |mk E v=>
   rw[hG]at hsaid
   refine(bver1 L L.length rfl E v hG A3 c3 _ _ 0 XB VB w hL hXb hV).mono ?_
   rintro e w' ⟨rfl,hg,hV'⟩
   have hb':=hb.grown hf hV (by simp) hg (by omega) (by omega) (by omega)
   by_cases hE:E=0
   ·subst hE
    exact .inl ⟨rfl,v,hsaid,hb',hV'⟩
   ·obtain rfl:=verT_bad hG hE
    exact .inr ⟨E,by omega,rfl,E,rfl,hsaid,hb'.below,hV'⟩
 |k+4,hv=>simp[verV,stepV]at hv
end
theorem own_blk {w:World} {X B n:Nat} {l:List Value} {t:TypeId} (h:Blk w X l.toArray t) (hB:B≤X) (hn:l.length=n) (hm:n≤maxLen):w.ownsRow B t 1 (.slice (some ⟨X,0,none⟩) n n) n l:=
 ⟨by rw[hn,Nat.mul_one], .inr ⟨X,n,l.toArray,rfl,hB,h,Nat.le_refl _,hm,by simp[hn],by rw[Nat.mul_one];exact List.take_of_length_le (Nat.le_of_eq hn)⟩⟩
set_option maxRecDepth 100000 in
set_option maxHeartbeats 1600000 in
theorem bver_any (b : List Nat) (m : Nat) (hm : m = b.length) (h47 : m ≤ 140737488355328) (B : Option Addr) (d : Nat) (E v : Nat) (hE : verB b = (E, v)) (w : World) (hB : Bs w w.heap.size b B d) : Calls Tryz.prog 17 #[.slice B m d] w fun e w' => e = .returned (.tuple #[.int .i64 (v : Int), .int .i64 (E : Int)]) ∧ Below w.heap.size w w' := by
  have hmf : ∀ (fn : Fn) (first cap : Array Value) (w : World), (Instr.makeFunc fn first cap).run Tryz.prog w = .ok (.func fn first cap) w := fun _ _ _ _ => rfl
  obtain ⟨i0, hi, hz0, hz1, hz2⟩ := info_parts infoStep
  have HM := Lib.hid hm
  have HB := Lib.hid hB
  have HE := Lib.hid hE
  clear hm hB hE
  go_enter Tryz.func17, Tryz.ntmps17
  go_wp2_with fail
  obtain ⟨a1, ha1⟩ : ∃ a1, a1 = w.alloc (.cells #[.slice none 0 0, .slice none 0 0, .slice none 0 0] 62) := ⟨_, rfl⟩
  obtain ⟨a2, ha2⟩ : ∃ a2, a2 = a1.alloc (.cells #[.int .i64 0] 3) := ⟨_, rfl⟩
  have s1 : a1.heap.size = w.heap.size + 1 := by rw [ha1, World.size_alloc]
  have s2 : a2.heap.size = w.heap.size + 1 + 1 := by rw [ha2, World.size_alloc, s1]
  have b1 : Below w.heap.size w a1 := by rw [ha1]; exact below_lit w _ _
  have b2 : Below a1.heap.size a1 a2 := by rw [ha2]; exact below_lit a1 _ _
  have XX := Lib.hid (show Blk a2 w.heap.size #[.slice none 0 0, .slice none 0 0, .slice none 0 0] 62 from (show Blk a1 w.heap.size _ _ by rw [ha1]; exact Blk.new w _ _).next b2)
  have XV := Lib.hid (show Blk a2 (w.heap.size + 1) #[.int .i64 0] 3 by rw [← s1, ha2]; exact Blk.new a1 _ _)
  have HBL := Lib.hid (show Below w.heap.size w a2 from b1.trans (b2.mono b1.size))
  have e5 : (w.alloc (.cells #[.slice none 0 0, .slice none 0 0, .slice none 0 0] 62)).alloc (.cells #[.int .i64 0] 3) = a2 := by rw [ha2, ha1]
  have HS5 := Lib.hid s2
  rw [e5]
  clear s1 s2 b1 b2 e5 ha1 ha2
  refine (bsteps_any w.heap.size B m d a2).mono ?_
  rintro e w1 ⟨PB, SB, AB, LB, rfl, hb, hP, hS, hAB, hLB, o1, o2, o3, o4⟩
  have O1 := Lib.hid (show w.heap.size + 1 + 1 ≤ PB by rw [← HS5.out]; exact o1)
  have O2 := Lib.hid o2
  have O3 := Lib.hid o3
  have O4 := Lib.hid o4
  replace XX := Lib.hid (XX.out.next hb)
  replace XV := Lib.hid (XV.out.next hb)
  replace HBL := Lib.hid (HBL.out.trans (hb.mono HBL.out.size))
  have XP := Lib.hid hP
  have XS := Lib.hid hS
  have XA := Lib.hid hAB
  have XL := Lib.hid hLB
  clear hb hP hS hAB hLB o1 o2 o3 o4 HS5
  have hb9 := below_lit w1 #[.func (.func 47) #[] #[.pointer (some ⟨w.heap.size, 0, none⟩), .pointer (some ⟨w.heap.size + 1, 0, none⟩)]] 70
  have HB9 := Lib.hid hb9
  have R9 := Lib.hid (rd_lit w1 #[.func (.func 47) #[] #[.pointer (some ⟨w.heap.size, 0, none⟩), .pointer (some ⟨w.heap.size + 1, 0, none⟩)]] 70)
  have HOWN := Lib.hid (show (w1.alloc (.cells #[.func (.func 47) #[] #[.pointer (some ⟨w.heap.size, 0, none⟩), .pointer (some ⟨w.heap.size + 1, 0, none⟩)]] 70)).ownsRow w.heap.size 70 1 (.slice (some ⟨LB, 0, none⟩) 3 3) 3 (stepV PB SB AB) from own_blk (XL.out.next hb9) (by have := O1.out; have := O2.out; have := O3.out; have := O4.out; omega) rfl (by decide))
  have hsz : w.heap.size ≤ (w1.alloc (.cells #[.func (.func 47) #[] #[.pointer (some ⟨w.heap.size, 0, none⟩), .pointer (some ⟨w.heap.size + 1, 0, none⟩)]] 70)).heap.size := Nat.le_trans HBL.out.size hb9.size
  clear hb9
  go_wp2_with (at_builtin; go_loud (refine wpList_append_rd _ rfl (.tmp 8) (.tmp 10) 68 rfl w.heap.size 70 i0 .nilFunc 8 Tryz.underlying68 hi hz0 hz1 hz2 rfl (.slice (some ⟨LB, 0, none⟩) 3 3) 3 (stepV PB SB AB) rfl HOWN.out _ (some ⟨w1.heap.size, 0, none⟩) 1 1 [.func (.func 47) #[] #[.pointer (some ⟨w.heap.size, 0, none⟩), .pointer (some ⟨w.heap.size + 1, 0, none⟩)]] rfl R9.out rfl (fun h => by cases h) (by intro u hu; rw [List.mem_singleton] at hu; subst hu; rfl) (by decide) (by omega) hsz ?_; intro v2 w2 hown2 hg2))
  have hg : (w1.alloc (.cells #[.func (.func 47) #[] #[.pointer (some ⟨w.heap.size, 0, none⟩), .pointer (some ⟨w.heap.size + 1, 0, none⟩)]] 70)).grownBy w2 (some LB) := hg2
  obtain ⟨FA, cF, rfl, hF⟩ := own_shape hown2
  have R4 := Lib.hid (show Rd w2 w2.heap.size FA (verV w.heap.size (w.heap.size + 1) PB SB AB) from hF)
  have hO : w.heap.size + 1 + 1 ≤ PB ∧ PB < SB ∧ SB < AB ∧ AB < LB := ⟨O1.out, O2.out, O3.out, O4.out⟩
  replace HBL := Lib.hid ((HBL.out.trans (HB9.out.mono HBL.out.size)).trans (below_grownR hg (by omega) hsz))
  replace XX := Lib.hid ((XX.out.next HB9.out).grown hg (by omega))
  replace XV := Lib.hid ((XV.out.next HB9.out).grown hg (by omega))
  replace XP := Lib.hid ((XP.out.next HB9.out).grown hg (by omega))
  replace XS := Lib.hid ((XS.out.next HB9.out).grown hg (by omega))
  replace XA := Lib.hid ((XA.out.next HB9.out).grown hg (by omega))
  clear hg hg2 hown2 hF hsz hO HB9 R9 HOWN XL
  have hin := inorder_any (VQ (VB0 w B m d FA (verV w.heap.size (w.heap.size + 1) PB SB AB) w.heap.size PB SB) b w.heap.size AB (w.heap.size + 1)) (VR w b (w.heap.size + 1)) (verV w.heap.size (w.heap.size + 1) PB SB AB) 4 rfl FA cF (by omega)
    (fun k w' hk hq => by
      match k, hk, hq with
      | 0, _, hq => exact ⟨_, hq.1.1.rd⟩
      | 1, _, hq => exact ⟨_, hq.1.1.rd⟩
      | 2, _, hq => exact ⟨_, hq.1.1.rd⟩
      | 3, _, hq => exact ⟨_, hq.1.1.rd⟩
      | k + 4, hk, _ => omega)
    (fun k v hv => vstep_all HM.out h47 HB.out (Nat.le_refl _) (by omega) (by have := O1.out; omega) O2.out O3.out _ rfl k v hv)
    w2 ⟨⟨⟨HBL.out, R4.out, XS.out, XP.out⟩, XV.out⟩, XX.out, XA.out⟩
  have HIN := Lib.hid hin
  clear hin
  refine HIN.out.mono ?_
  rintro e w4 (⟨rfl, v2, hdec, hb0, hV⟩ | ⟨E2, hne, rfl, e2, rfl, hdec, hbl, hV⟩)
  · obtain ⟨rfl, rfl⟩ : E = 0 ∧ v = v2 := by
      have := HE.out.symm.trans hdec
      exact ⟨(Prod.mk.inj this).1, (Prod.mk.inj this).2⟩
    have cV := hV.cell 0 rfl
    have YB := Lib.hid hb0.below
    clear hdec hb0 hV HIN XX XV XP XS XA R4 HBL
    go_wp2
    go_ret2
    exact ⟨rfl, YB.out⟩
  · obtain ⟨rfl, rfl⟩ : E = e2 ∧ v = 0 := by
      have := HE.out.symm.trans hdec
      exact ⟨(Prod.mk.inj this).1, (Prod.mk.inj this).2⟩
    have cV := hV.cell 0 rfl
    have YB := Lib.hid hbl
    clear hdec hbl hV HIN XX XV XP XS XA R4 HBL hne
    go_wp2
    go_ret2
    exact ⟨rfl, YB.out⟩
end Go.Proofs.YtcnglbliidjnfaaGreatDoor
end
section
namespace Go.Proofs.YtcnglbliidjnfaaGreatDoor
set_option linter.unusedVariables false
open Go.ChangeShapes Go.WideShapes Go.ChangeAt Go.RowKit
theorem bs_mark (w:World) (cs:Array Value) (fr:Nat × Nat) (s:List Nat) (n:Nat) (h:cs.toList=U8 s) (hn:n=s.length) (h1:n≤1000) (h2: ∀x∈s,x<256):Bs (w.alloc (.cells cs 5 fr)) (w.alloc (.cells cs 5 fr)).heap.size s (some ⟨w.heap.size,0,none⟩) n:=by
 refine⟨fun k u hu=>⟨_,rfl,by simp, ?_⟩,by simp,by omega,by omega,h2⟩
 rw[at_add,cell_of_row (w.alloc (.cells cs 5 fr)) w.heap.size k cs _ fr (heap_alloc_new w _)]
 rw[←h]at hu
 simpa using hu
end Go.Proofs.YtcnglbliidjnfaaGreatDoor
end
section
namespace Go.Proofs.YtcnglbliidjnfaaGreatDoor
set_option linter.unusedVariables false
open Go.ChangeShapes Go.WideShapes Go.ChangeAt Go.RowKit
theorem eq_arr32 {F:Array Value} {l:List Nat} (h:F=(U8 l).toArray) (hl:l.length=32) (w:World):(Op.equalIn 10000 42 (.agg F) (.agg F)).run Tryz.prog w= .ok true w:=by
 have h1:=run_equalIn_same (P:= Tryz.prog) w 9998 42 5 32 .u8 .u8 Tryz.underlying42 Tryz.underlying5 sizeRunU8 (l.map fun x:Nat=>(x:Int)) (by rw[List.length_map,hl])
 rw[List.map_map]at h1
 rw[h];exact h1
end Go.Proofs.YtcnglbliidjnfaaGreatDoor
end
section
namespace Go.Proofs.YtcnglbliidjnfaaGreatDoor
set_option linter.unusedVariables false
open Go.ChangeShapes Go.WideShapes Go.ChangeAt Go.RowKit
theorem res_tmp_row {fn:Func} {p q:Tmp} (h:fn.results= #[.tmp p, .cell q 28]) (tmps:Array Value) (w:World) (g:Nat) (cs:Array Value) (t:TypeId)
  (hq:tmps.getD q undef= .pointer (some ⟨g,0,none⟩)) (hg:w.heap[g]?=some (.cells cs t (0,0))) (hi:(Tryz.prog.info? 28).map (·.size)=some cs.size):
  (results fn tmps).run Tryz.prog w= .ok (.tuple #[tmps.getD p undef, .agg cs]) w:=by
 have hq':tmps[q]?.getD undef= .pointer (some ⟨g,0,none⟩):=by simpa using hq
 have h1:=run_loadVar_row (P:= Tryz.prog) w g t 28 cs (0,0) _ hg Tryz.underlying28 rfl hi
 simp[results,h,hq',asAddr,h1]
end Go.Proofs.YtcnglbliidjnfaaGreatDoor
end
section
namespace Go.Proofs.YtcnglbliidjnfaaGreatDoor
set_option linter.unusedVariables false
open Go.ChangeShapes Go.WideShapes Go.ChangeAt Go.RowKit
def rgB (r s:Rg):Bool:=(r.t.ser==s.t.ser)&&((r.t.kind==s.t.kind)&&((r.t.frm==s.t.frm)&&((r.t.till==s.t.till)&&((r.t.cls==s.t.cls)&&((r.t.card==s.t.card)&&((r.t.seat==s.t.seat)&&((r.t.day==s.t.day)&&((r.t.days==s.t.days)&&((r.t.uses==s.t.uses)&&((r.t.epoch==s.t.epoch)&&((r.key==s.key)&&((r.left==s.left)&&((r.inn==s.inn)&&((r.ver==s.ver)))))))))))))))
theorem rgB_self (r:Rg):rgB r r=true:=by simp[rgB]
theorem rgB_of_eq {r s:Rg} (h0:r.t.ser=s.t.ser) (h1:r.t.kind=s.t.kind) (h2:r.t.frm=s.t.frm) (h3:r.t.till=s.t.till) (h4:r.t.cls=s.t.cls) (h5:r.t.card=s.t.card) (h6:r.t.seat=s.t.seat) (h7:r.t.day=s.t.day) (h8:r.t.days=s.t.days) (h9:r.t.uses=s.t.uses) (h10:r.t.epoch=s.t.epoch) (h11:r.key=s.key) (h12:r.left=s.left) (h13:r.inn=s.inn) (h14:r.ver=s.ver):rgB r s=true:=by rw[rgB,h0,h1,h2,h3,h4,h5,h6,h7,h8,h9,h10,h11,h12,h13,h14];simp
set_option maxRecDepth 100000 in
set_option maxHeartbeats 1600000 in
theorem read_eq (r s:Rg) (w:World):(Op.equalIn 10000 28 (.agg #[.int .i64 r.t.ser, .int .i64 r.t.kind, .int .i64 r.t.frm, .int .i64 r.t.till, .int .i64 r.t.cls, .int .i64 r.t.card, .int .i64 r.t.seat, .int .i64 r.t.day, .int .i64 r.t.days, .int .i64 r.t.uses, .int .i64 r.t.epoch, .int .i64 r.key, .int .i64 r.left, .int .i64 r.inn, .int .i64 r.ver]) (.agg #[.int .i64 s.t.ser, .int .i64 s.t.kind, .int .i64 s.t.frm, .int .i64 s.t.till, .int .i64 s.t.cls, .int .i64 s.t.card, .int .i64 s.t.seat, .int .i64 s.t.day, .int .i64 s.t.days, .int .i64 s.t.uses, .int .i64 s.t.epoch, .int .i64 s.key, .int .i64 s.left, .int .i64 s.inn, .int .i64 s.ver])).run Tryz.prog w= .ok (rgB r s) w:=by
 go_simp
 by_cases h0:r.t.ser=s.t.ser
 rotate_left
 ·rw[if_neg h0,rgB,show(r.t.ser==s.t.ser)=false by rw[beq_eq_false_iff_ne];exact h0]
  simp
 rw[if_pos h0]
 by_cases h1:r.t.kind=s.t.kind
 rotate_left
 ·rw[if_neg h1,rgB,show(r.t.kind==s.t.kind)=false by rw[beq_eq_false_iff_ne];exact h1]
  simp
 rw[if_pos h1]
 by_cases h2:r.t.frm=s.t.frm
 rotate_left
 ·rw[if_neg h2,rgB,show(r.t.frm==s.t.frm)=false by rw[beq_eq_false_iff_ne];exact h2]
  simp
 rw[if_pos h2]
 by_cases h3:r.t.till=s.t.till
 rotate_left
 ·rw[if_neg h3,rgB,show(r.t.till==s.t.till)=false by rw[beq_eq_false_iff_ne];exact h3]
  simp
 rw[if_pos h3]
 by_cases h4:r.t.cls=s.t.cls
 rotate_left
 ·rw[if_neg h4,rgB,show(r.t.cls==s.t.cls)=false by rw[beq_eq_false_iff_ne];exact h4]
  simp
 rw[if_pos h4]
 by_cases h5:r.t.card=s.t.card
 rotate_left
 ·rw[if_neg h5,rgB,show(r.t.card==s.t.card)=false by rw[beq_eq_false_iff_ne];exact h5]
  simp
 rw[if_pos h5]
 by_cases h6:r.t.seat=s.t.seat
 rotate_left
 ·rw[if_neg h6,rgB,show(r.t.seat==s.t.seat)=false by rw[beq_eq_false_iff_ne];exact h6]
  simp
 rw[if_pos h6]
 by_cases h7:r.t.day=s.t.day
 rotate_left
 ·rw[if_neg h7,rgB,show(r.t.day==s.t.day)=false by rw[beq_eq_false_iff_ne];exact h7]
  simp
 rw[if_pos h7]
 by_cases h8:r.t.days=s.t.days
 rotate_left
 ·rw[if_neg h8,rgB,show(r.t.days==s.t.days)=false by rw[beq_eq_false_iff_ne];exact h8]
  simp
 rw[if_pos h8]
 by_cases h9:r.t.uses=s.t.uses
 rotate_left
 ·rw[if_neg h9,rgB,show(r.t.uses==s.t.uses)=false by rw[beq_eq_false_iff_ne];exact h9]
  simp
 rw[if_pos h9]
 by_cases h10:r.t.epoch=s.t.epoch
 rotate_left
 ·rw[if_neg h10,rgB,show(r.t.epoch==s.t.epoch)=false by rw[beq_eq_false_iff_ne];exact h10]
  simp
 rw[if_pos h10]
 by_cases h11:r.key=s.key
 rotate_left
 ·rw[if_neg h11,rgB,show(r.key==s.key)=false by rw[beq_eq_false_iff_ne];exact h11]
  simp
 rw[if_pos h11]
 by_cases h12:r.left=s.left
 rotate_left
 ·rw[if_neg h12,rgB,show(r.left==s.left)=false by rw[beq_eq_false_iff_ne];exact h12]
  simp
 rw[if_pos h12]
 by_cases h13:r.inn=s.inn
 rotate_left
 ·rw[if_neg h13,rgB,show(r.inn==s.inn)=false by rw[beq_eq_false_iff_ne];exact h13]
  simp
 rw[if_pos h13]
 by_cases h14:r.ver=s.ver
 rotate_left
 ·rw[if_neg h14,rgB,show(r.ver==s.ver)=false by rw[beq_eq_false_iff_ne];exact h14]
  simp
 rw[if_pos h14]
 rw[rgB_of_eq h0 h1 h2 h3 h4 h5 h6 h7 h8 h9 h10 h11 h12 h13 h14]
end Go.Proofs.YtcnglbliidjnfaaGreatDoor
end
section
namespace Go.Proofs.YtcnglbliidjnfaaGreatDoor
set_option linter.unusedVariables false
open Go.ChangeShapes Go.WideShapes Go.ChangeAt Go.RowKit
theorem first_diff: ∀(a b:List Nat),a.length=b.length→a≠b→ ∃k,k<a.length∧a.take k=b.take k∧a.getD k 0≠b.getD k 0
 |[],[],_,h=>absurd rfl h
 |[],_::_,h,_=>by simp at h
 |_::_,[],h,_=>by simp at h
 |x::a,y::b,hl,h=>by
  by_cases e:x=y
  ·subst e
   obtain⟨k,h1,h2,h3⟩:=first_diff a b (by simpa using hl) (fun e=>h (by rw[e]))
   exact⟨k+1,by simp;omega,by simp[h2],by simpa using h3⟩
  ·exact⟨0,by simp,by simp,by simpa using e⟩
set_option maxRecDepth 20000 in
theorem same_short (n n':Nat) (hne:n≠n') (A A':Option Addr) (c c':Nat) (w:World) (h1:n≤9223372036854775807) (h2:n'≤9223372036854775807):
  Calls Tryz.prog 14 #[.slice A n c, .slice A' n' c'] w fun e w'=>e= .returned (.bool false)∧Below w.heap.size w w':=by
 have e1:((n:Int) !=(n':Int))=true:=by simp;omega
 have e2:((n:Int)==(n':Int))=false:=by simp;omega
 have e3:(n !=n')=true:=by simpa using hne
 go_enter Tryz.func14, Tryz.ntmps14
 go_wp2
 go_ret
 exact⟨rfl,Below.refl _ _⟩
set_option maxRecDepth 20000 in
theorem same_other (l l':List Nat) (n k:Nat) (hn:n=l.length) (hn':n=l'.length) (hk:k<n) (ht:l.take k=l'.take k) (hd:l.getD k 0≠l'.getD k 0) (A A':Option Addr) (c c' B:Nat) (w:World) (hA:Rd w B A (U8 l)) (hA':Rd w B A' (U8 l')) (hl:n≤9223372036854775807):
  Calls Tryz.prog 14 #[.slice A n c, .slice A' n c'] w fun e w'=>e= .returned (.bool false)∧Below w.heap.size w w':=by
 have HN:=Lib.hid hn
 have HN':=Lib.hid hn'
 have HT:=Lib.hid ht
 have HD:=Lib.hid hd
 clear hn hn' ht hd
 go_enter Tryz.func14, Tryz.ntmps14
 go_wp2
 go_loopw [5] (fun i wr=> ∃j d:Nat,j≤k∧i= .int .i64 j∧wr=w.drewN d) (fun i _=>n - (intOf i).toNat)
 case atStart=>exact⟨0,0,Nat.zero_le _,rfl,rfl⟩
 case round=>
  obtain⟨j,d,hj,rfl,rfl⟩:=hrel
  have hjn:j<n:=by omega
  obtain⟨ad,rfl,_,hc⟩:=hA j _ (U8_at l j (by rw[←HN.out];exact hjn))
  obtain⟨ad',rfl,_,hc'⟩:=hA' j _ (U8_at l' j (by rw[←HN'.out];exact hjn))
  clear hA hA'
  have b1:(0:Int)≤(j:Int):=by omega
  have b2:(j:Int)<(n:Int):=by omega
  by_cases hlt:j<k
  ·have he:l[j]'(by rw[←HN.out];exact hjn)=l'[j]'(by rw[←HN'.out];exact hjn):=by
    have h1:(l.take k)[j]?=(l'.take k)[j]?:=by rw[HT.out]
    rw[List.getElem?_take,List.getElem?_take,if_pos hlt,if_pos hlt,List.getElem?_eq_getElem (by rw[←HN.out];exact hjn),List.getElem?_eq_getElem (by rw[←HN'.out];exact hjn)]at h1
    exact Option.some.inj h1
   rw[he]at hc
   clear he
   generalize l'[j]'(by rw[←HN'.out];exact hjn)=x at hc hc'
   go_wp2
   go_quiet (fail)
   go_wp2
   go_roundw
   case rel=>exact⟨j+1,_,by omega,by go_num,rfl⟩
   case measure=>simp[intOf];omega
  ·have ej:j=k:=by omega
   subst ej
   have hne:l[j]'(by rw[←HN.out];exact hjn)≠l'[j]'(by rw[←HN'.out];exact hjn):=by
    have h1:=HD.out
    rwa[List.getD_eq_getElem?_getD,List.getD_eq_getElem?_getD,List.getElem?_eq_getElem (by rw[←HN.out];exact hjn),List.getElem?_eq_getElem (by rw[←HN'.out];exact hjn)]at h1
   generalize l[j]'(by rw[←HN.out];exact hjn)=x at hc hne
   generalize l'[j]'(by rw[←HN'.out];exact hjn)=y at hc' hne
   have e1:((x:Int) !=(y:Int))=true:=by simp;omega
   have e2:((x:Int)==(y:Int))=false:=by simp;omega
   clear hne
   go_wp2
   go_quiet (fail)
   go_wp2
   go_ret
   exact⟨rfl,below_drewN (below_drewN (Below.refl _ _) _) _⟩
theorem same_any (l l':List Nat) (n n':Nat) (hn:n=l.length) (hn':n'=l'.length) (A A':Option Addr) (c c' B:Nat) (w:World) (hA:Rd w B A (U8 l)) (hA':Rd w B A' (U8 l')) (hl:n≤9223372036854775807) (hl':n'≤9223372036854775807):
  Calls Tryz.prog 14 #[.slice A n c, .slice A' n' c'] w fun e w'=>e= .returned (.bool (l==l'))∧Below w.heap.size w w':=by
 by_cases e:l=l'
 ·subst e
  subst hn
  subst hn'
  have:=same_eq l A A' c c' B w hA hA' (by unfold maxLen;exact hl)
  simpa using this
 ·have eb:(l==l')=false:=by simpa using e
  rw[eb]
  by_cases h:n=n'
  ·subst h
   obtain⟨k,h1,h2,h3⟩:=first_diff l l' (by omega) e
   exact same_other l l' n k hn hn' (by omega) h2 h3 A A' c c' B w hA hA' hl
  ·exact same_short n n' h A A' c c' w hl hl'
end Go.Proofs.YtcnglbliidjnfaaGreatDoor
end
section
namespace Go.Proofs.YtcnglbliidjnfaaGreatDoor
set_option linter.unusedVariables false
open Go.ChangeShapes Go.WideShapes Go.ChangeAt Go.RowKit
theorem bs_lit (w:World) (cs:Array Value) (s:List Nat) (n:Nat) (h:cs.toList=U8 s) (hn:n=s.length) (h1:n≤1000) (h2: ∀x∈s,x<256):Bs (w.alloc (.cells cs 5)) (w.alloc (.cells cs 5)).heap.size s (some ⟨w.heap.size,0,none⟩) n:=
 ⟨by rw[←h];exact rd_lit w cs _,by simp,by omega,by omega,h2⟩
set_option maxRecDepth 100000 in
set_option maxHeartbeats 1600000 in
theorem same_true (s:List Nat) (n n':Nat) (hn:n=s.length) (hn':n'=s.length) (A A':Option Addr) (c c':Nat) (w:World) (hA:Bs w w.heap.size s A c) (hA':Bs w w.heap.size s A' c'):Calls Tryz.prog 14 #[.slice A n c, .slice A' n' c'] w fun e w'=>e= .returned (.bool true)∧Below w.heap.size w w':=by
 have h1:=hA.len
 have h2:=hA.cap
 have:=same_any s s n n' hn hn' A A' c c' w.heap.size w hA.rd hA'.rd (by omega) (by omega)
 simpa using this
set_option maxRecDepth 100000 in
set_option maxHeartbeats 1600000 in
theorem same_told (s s':List Nat) (t:Bool) (ht:(s==s')=t) (n n':Nat) (hn:n=s.length) (hn':n'=s'.length) (A A':Option Addr) (c c':Nat) (w:World) (hA:Bs w w.heap.size s A c) (hA':Bs w w.heap.size s' A' c'):Calls Tryz.prog 14 #[.slice A n c, .slice A' n' c'] w fun e w'=>e= .returned (.bool t)∧Below w.heap.size w w':=by
 have h1:=hA.len
 have h2:=hA.cap
 have h3:=hA'.len
 have h4:=hA'.cap
 rw[←ht]
 exact same_any s s' n n' hn hn' A A' c c' w.heap.size w hA.rd hA'.rd (by omega) (by omega)
end Go.Proofs.YtcnglbliidjnfaaGreatDoor
end
