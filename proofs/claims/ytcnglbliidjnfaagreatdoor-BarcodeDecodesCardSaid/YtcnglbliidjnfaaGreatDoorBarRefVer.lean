import Derived.Test.YtcnglbliidjnfaaGreatDoorFortyRefGet
import Derived.Test.YtcnglbliidjnfaaGreatDoorBarPChain
import Derived.Test.YtcnglbliidjnfaaGreatDoorBarCoded
import Derived.Test.YtcnglbliidjnfaaGreatDoorBarRefDec
import Derived.Test.YtcnglbliidjnfaaGreatDoorRingLast
section
namespace Go.Proofs.YtcnglbliidjnfaaGreatDoor
set_option linter.unusedVariables false
open Go.ChangeShapes Go.WideShapes Go.ChangeAt Go.RowKit
set_option maxRecDepth 100000 in
set_option maxHeartbeats 1600000 in
theorem rver_no (s:List Nat) (m:Nat) (hm:m=s.length) (hm4:m≤4000) (B:Option Addr) (d:Nat) (w:World) (hB:Bs w w.heap.size s B d) (E:Nat) (P:List Nat) (hE:fgetX s=(E,P)) (h0:E≠0):Calls Tryz.prog 18 #[.slice B m d] w fun e w'=>e= .returned (.tuple #[.int .i64 0, .int .i64 (E:Int)])∧Below w.heap.size w w':=by
 have s1:((E:Int)==0)=false:=by rw[beq_eq_false_iff_ne];omega
 have s2:((E:Int) !=0)=true:=by rw[bne_iff_ne];omega
 have s3:(E==0)=false:=by rw[beq_eq_false_iff_ne];exact h0
 have s4:(E !=0)=true:=by rw[bne_iff_ne];exact h0
 have HE:=Lib.hid hE
 have H0:=Lib.hid h0
 clear hE h0
 have HM:=Lib.hid hm
 have HB:=Lib.hid hB
 clear hm hB
 go_enter Tryz.func18, Tryz.ntmps18
 go_wp2_with fail
 refine(rbody_no s m HM.out hm4 B d w HB.out E P HE.out H0.out).mono ?_
 rintro e w1 ⟨rfl,hb⟩
 have HBL:=Lib.hid hb
 clear hb
 go_wp2
 go_ret2
 exact⟨rfl,HBL.out⟩
set_option maxRecDepth 100000 in
set_option maxHeartbeats 1600000 in
theorem rver_short (s:List Nat) (m:Nat) (hm:m=s.length) (hm4:m≤4000) (B:Option Addr) (d:Nat) (w:World) (hB:Bs w w.heap.size s B d) (P:List Nat) (hE:fgetX s=(0,P)) (h0:P.length<32):Calls Tryz.prog 18 #[.slice B m d] w fun e w'=>e= .returned (.tuple #[.int .i64 0, .int .i64 14])∧Below w.heap.size w w':=by
 have HE:=Lib.hid hE
 have H0:=Lib.hid h0
 clear hE h0
 have HM:=Lib.hid hm
 have HB:=Lib.hid hB
 clear hm hB
 go_enter Tryz.func18, Tryz.ntmps18
 go_wp2_with fail
 refine(rbody_short s m HM.out hm4 B d w HB.out P HE.out H0.out).mono ?_
 rintro e w1 ⟨rfl,hb⟩
 have HBL:=Lib.hid hb
 clear hb
 go_wp2
 go_ret2
 exact⟨rfl,HBL.out⟩
set_option maxRecDepth 100000 in
set_option maxHeartbeats 1600000 in
theorem rver_tlv (s:List Nat) (m:Nat) (hm:m=s.length) (hm4:m≤4000) (B:Option Addr) (d:Nat) (w:World) (hB:Bs w w.heap.size s B d) (P:List Nat) (hE:fgetX s=(0,P)) (j:Nat) (hj:P.length=j+32) (E:Nat) (L:List Tf) (hG:gotT (restB P)=(E,L)) (h0:E≠0):Calls Tryz.prog 18 #[.slice B m d] w fun e w'=>e= .returned (.tuple #[.int .i64 0, .int .i64 (E:Int)])∧Below w.heap.size w w':=by
 have s1:((E:Int)==0)=false:=by rw[beq_eq_false_iff_ne];omega
 have s2:((E:Int) !=0)=true:=by rw[bne_iff_ne];omega
 have s3:(E==0)=false:=by rw[beq_eq_false_iff_ne];exact h0
 have s4:(E !=0)=true:=by rw[bne_iff_ne];exact h0
 have HG:=Lib.hid hG
 clear hG h0
 have HRJ:=Lib.hid (show j=(restB P).length by rw[restB,List.length_take];omega)
 have hjl:j≤4000:=by
  have h9:=fgetX_len9 s
  rw[hE]at h9
  simp only at h9
  omega
 have HE:=Lib.hid hE
 have HJ:=Lib.hid hj
 clear hE hj
 have HM:=Lib.hid hm
 have HB:=Lib.hid hB
 clear hm hB
 go_enter Tryz.func18, Tryz.ntmps18
 go_wp2_with fail
 refine(rbody_ok s m HM.out hm4 B d w HB.out P HE.out j HJ.out).mono ?_
 rintro e w1 ⟨A1,c1,A2,c2,rfl,hs1,hs2,hb⟩
 have S1:=Lib.hid hs1
 have HBL:=Lib.hid hb
 clear hs1 hs2 hb
 go_wp2_with fail
 refine(refget_tlv (restB P) j HRJ.out (by omega) E L HG.out A1 c1 w1 S1.out).mono ?_
 rintro e w2 ⟨A3,c3,rfl,hs,hb⟩
 replace HBL:=Lib.hid (HBL.out.trans (hb.mono HBL.out.size))
 clear hs hb
 go_wp2
 go_ret2
 exact⟨rfl,HBL.out⟩
set_option maxRecDepth 100000 in
set_option maxHeartbeats 1600000 in
theorem rver_nil (s:List Nat) (m:Nat) (hm:m=s.length) (hm4:m≤4000) (B:Option Addr) (d:Nat) (w:World) (hB:Bs w w.heap.size s B d) (P:List Nat) (hE:fgetX s=(0,P)) (j:Nat) (hj:P.length=j+32) (hG:gotT (restB P)=(0,[])):Calls Tryz.prog 18 #[.slice B m d] w fun e w'=>e= .returned (.tuple #[.int .i64 0, .int .i64 12])∧Below w.heap.size w w':=by
 have HG:=Lib.hid hG
 clear hG
 have HRJ:=Lib.hid (show j=(restB P).length by rw[restB,List.length_take];omega)
 have hjl:j≤4000:=by
  have h9:=fgetX_len9 s
  rw[hE]at h9
  simp only at h9
  omega
 have HE:=Lib.hid hE
 have HJ:=Lib.hid hj
 clear hE hj
 have HM:=Lib.hid hm
 have HB:=Lib.hid hB
 clear hm hB
 go_enter Tryz.func18, Tryz.ntmps18
 go_wp2_with fail
 refine(rbody_ok s m HM.out hm4 B d w HB.out P HE.out j HJ.out).mono ?_
 rintro e w1 ⟨A1,c1,A2,c2,rfl,hs1,hs2,hb⟩
 have S1:=Lib.hid hs1
 have HBL:=Lib.hid hb
 clear hs1 hs2 hb
 go_wp2_with fail
 refine(refget_tlv (restB P) j HRJ.out (by omega) 0 [] HG.out A1 c1 w1 S1.out).mono ?_
 rintro e w2 ⟨A3,c3,rfl,hs,hb⟩
 replace HBL:=Lib.hid (HBL.out.trans (hb.mono HBL.out.size))
 clear hs hb
 rw[List.length_nil]
 go_wp2
 go_ret2
 exact⟨rfl,HBL.out⟩
set_option maxRecDepth 100000 in
set_option maxHeartbeats 1600000 in
theorem rver_tag (s:List Nat) (m:Nat) (hm:m=s.length) (hm4:m≤4000) (B:Option Addr) (d:Nat) (w:World) (hB:Bs w w.heap.size s B d) (P:List Nat) (hE:fgetX s=(0,P)) (j:Nat) (hj:P.length=j+32) (f:Tf) (t:List Tf) (hG:gotT (restB P)=(0,f::t)) (h1:f.tag≠1):Calls Tryz.prog 18 #[.slice B m d] w fun e w'=>e= .returned (.tuple #[.int .i64 0, .int .i64 12])∧Below w.heap.size w w':=by
 have HG:=Lib.hid hG
 clear hG
 have HRJ:=Lib.hid (show j=(restB P).length by rw[restB,List.length_take];omega)
 have hjl:j≤4000:=by
  have h9:=fgetX_len9 s
  rw[hE]at h9
  simp only at h9
  omega
 have HE:=Lib.hid hE
 have HJ:=Lib.hid hj
 clear hE hj
 have HM:=Lib.hid hm
 have HB:=Lib.hid hB
 clear hm hB
 go_enter Tryz.func18, Tryz.ntmps18
 go_wp2_with fail
 refine(rbody_ok s m HM.out hm4 B d w HB.out P HE.out j HJ.out).mono ?_
 rintro e w1 ⟨A1,c1,A2,c2,rfl,hs1,hs2,hb⟩
 have S1:=Lib.hid hs1
 have HBL:=Lib.hid hb
 clear hs1 hs2 hb
 go_wp2_with fail
 refine(refget_tlv (restB P) j HRJ.out (by omega) 0 (f::t) HG.out A1 c1 w1 S1.out).mono ?_
 rintro e w2 ⟨A3,c3,rfl,hs,hb⟩
 replace HBL:=Lib.hid (HBL.out.trans (hb.mono HBL.out.size))
 have hTS:=hs
 clear hs hb
 obtain⟨n,hn⟩: ∃n,n=(f::t).length:=⟨_,rfl⟩
 rw[←hn]
 obtain⟨ad,S,cc,rfl,hlt,hk⟩:=hTS.rd 0 (by simp)
 rw[List.getD_cons_zero,Nat.zero_mul,add_zero']at hk
 have c0:=hk.c0
 have c1:=hk.c1
 have HBS:=Lib.hid hk.bs
 have b0:0<n:=by rw[hn];simp
 have b1:decide (0<n)=true:=decide_eq_true b0
 have b2:((n:Int)==0)=false:=by rw[beq_eq_false_iff_ne];omega
 have b3:(n==0)=false:=by rw[beq_eq_false_iff_ne];omega
 have b4: ¬n=0:=by omega
 obtain⟨tg,htg⟩: ∃tg,f.tag=tg:=⟨_,rfl⟩
 obtain⟨k,hk9⟩: ∃k,f.val.length=k:=⟨_,rfl⟩
 rw[htg]at c0
 rw[hk9]at c1
 clear hk hn hTS
 rw[htg]at h1
 have t1:((tg:Int)==1)=false:=by rw[beq_eq_false_iff_ne];omega
 have t2:((tg:Int) !=1)=true:=by rw[bne_iff_ne];omega
 have t3:(tg==1)=false:=by rw[beq_eq_false_iff_ne];exact h1
 have t4:(tg !=1)=true:=by rw[bne_iff_ne];exact h1
 clear h1
 go_wp2
 go_ret2
 exact⟨rfl,HBL.out⟩
set_option maxRecDepth 100000 in
set_option maxHeartbeats 1600000 in
theorem rver_len (s:List Nat) (m:Nat) (hm:m=s.length) (hm4:m≤4000) (B:Option Addr) (d:Nat) (w:World) (hB:Bs w w.heap.size s B d) (P:List Nat) (hE:fgetX s=(0,P)) (j:Nat) (hj:P.length=j+32) (f:Tf) (t:List Tf) (hG:gotT (restB P)=(0,f::t)) (h1:f.tag=1) (h2:f.val.length≠1):Calls Tryz.prog 18 #[.slice B m d] w fun e w'=>e= .returned (.tuple #[.int .i64 0, .int .i64 12])∧Below w.heap.size w w':=by
 have HG:=Lib.hid hG
 clear hG
 have HRJ:=Lib.hid (show j=(restB P).length by rw[restB,List.length_take];omega)
 have hjl:j≤4000:=by
  have h9:=fgetX_len9 s
  rw[hE]at h9
  simp only at h9
  omega
 have HE:=Lib.hid hE
 have HJ:=Lib.hid hj
 clear hE hj
 have HM:=Lib.hid hm
 have HB:=Lib.hid hB
 clear hm hB
 go_enter Tryz.func18, Tryz.ntmps18
 go_wp2_with fail
 refine(rbody_ok s m HM.out hm4 B d w HB.out P HE.out j HJ.out).mono ?_
 rintro e w1 ⟨A1,c1,A2,c2,rfl,hs1,hs2,hb⟩
 have S1:=Lib.hid hs1
 have HBL:=Lib.hid hb
 clear hs1 hs2 hb
 go_wp2_with fail
 refine(refget_tlv (restB P) j HRJ.out (by omega) 0 (f::t) HG.out A1 c1 w1 S1.out).mono ?_
 rintro e w2 ⟨A3,c3,rfl,hs,hb⟩
 replace HBL:=Lib.hid (HBL.out.trans (hb.mono HBL.out.size))
 have hTS:=hs
 clear hs hb
 obtain⟨n,hn⟩: ∃n,n=(f::t).length:=⟨_,rfl⟩
 rw[←hn]
 obtain⟨ad,S,cc,rfl,hlt,hk⟩:=hTS.rd 0 (by simp)
 rw[List.getD_cons_zero,Nat.zero_mul,add_zero']at hk
 have c0:=hk.c0
 have c1:=hk.c1
 have HBS:=Lib.hid hk.bs
 have b0:0<n:=by rw[hn];simp
 have b1:decide (0<n)=true:=decide_eq_true b0
 have b2:((n:Int)==0)=false:=by rw[beq_eq_false_iff_ne];omega
 have b3:(n==0)=false:=by rw[beq_eq_false_iff_ne];omega
 have b4: ¬n=0:=by omega
 obtain⟨tg,htg⟩: ∃tg,f.tag=tg:=⟨_,rfl⟩
 obtain⟨k,hk9⟩: ∃k,f.val.length=k:=⟨_,rfl⟩
 rw[htg]at c0
 rw[hk9]at c1
 clear hk hn hTS
 rw[htg]at h1
 rw[hk9]at h2
 subst h1
 have t1:((k:Int)==1)=false:=by rw[beq_eq_false_iff_ne];omega
 have t2:((k:Int) !=1)=true:=by rw[bne_iff_ne];omega
 have t3:(k==1)=false:=by rw[beq_eq_false_iff_ne];exact h2
 have t4:(k !=1)=true:=by rw[bne_iff_ne];exact h2
 clear h2
 go_wp2
 go_ret2
 exact⟨rfl,HBL.out⟩
set_option maxRecDepth 100000 in
set_option maxHeartbeats 1600000 in
theorem rver_lo (s:List Nat) (m:Nat) (hm:m=s.length) (hm4:m≤4000) (B:Option Addr) (d:Nat) (w:World) (hB:Bs w w.heap.size s B d) (P:List Nat) (hE:fgetX s=(0,P)) (j:Nat) (hj:P.length=j+32) (f:Tf) (t:List Tf) (hG:gotT (restB P)=(0,f::t)) (h1:f.tag=1) (h2:f.val.length=1) (h3:f.val.getD 0 0<1):Calls Tryz.prog 18 #[.slice B m d] w fun e w'=>e= .returned (.tuple #[.int .i64 0, .int .i64 12])∧Below w.heap.size w w':=by
 have HG:=Lib.hid hG
 clear hG
 have HRJ:=Lib.hid (show j=(restB P).length by rw[restB,List.length_take];omega)
 have hjl:j≤4000:=by
  have h9:=fgetX_len9 s
  rw[hE]at h9
  simp only at h9
  omega
 have HE:=Lib.hid hE
 have HJ:=Lib.hid hj
 clear hE hj
 have HM:=Lib.hid hm
 have HB:=Lib.hid hB
 clear hm hB
 go_enter Tryz.func18, Tryz.ntmps18
 go_wp2_with fail
 refine(rbody_ok s m HM.out hm4 B d w HB.out P HE.out j HJ.out).mono ?_
 rintro e w1 ⟨A1,c1,A2,c2,rfl,hs1,hs2,hb⟩
 have S1:=Lib.hid hs1
 have HBL:=Lib.hid hb
 clear hs1 hs2 hb
 go_wp2_with fail
 refine(refget_tlv (restB P) j HRJ.out (by omega) 0 (f::t) HG.out A1 c1 w1 S1.out).mono ?_
 rintro e w2 ⟨A3,c3,rfl,hs,hb⟩
 replace HBL:=Lib.hid (HBL.out.trans (hb.mono HBL.out.size))
 have hTS:=hs
 clear hs hb
 obtain⟨n,hn⟩: ∃n,n=(f::t).length:=⟨_,rfl⟩
 rw[←hn]
 obtain⟨ad,S,cc,rfl,hlt,hk⟩:=hTS.rd 0 (by simp)
 rw[List.getD_cons_zero,Nat.zero_mul,add_zero']at hk
 have c0:=hk.c0
 have c1:=hk.c1
 have HBS:=Lib.hid hk.bs
 have b0:0<n:=by rw[hn];simp
 have b1:decide (0<n)=true:=decide_eq_true b0
 have b2:((n:Int)==0)=false:=by rw[beq_eq_false_iff_ne];omega
 have b3:(n==0)=false:=by rw[beq_eq_false_iff_ne];omega
 have b4: ¬n=0:=by omega
 obtain⟨tg,htg⟩: ∃tg,f.tag=tg:=⟨_,rfl⟩
 obtain⟨k,hk9⟩: ∃k,f.val.length=k:=⟨_,rfl⟩
 rw[htg]at c0
 rw[hk9]at c1
 clear hk hn hTS
 rw[htg]at h1
 rw[hk9]at h2
 subst h1 h2
 obtain⟨x,hx⟩: ∃x,f.val=[x]:=by
  match f.val,hk9 with
  |[x],_=>exact⟨x,rfl⟩
 rw[hx,List.getD_cons_zero]at h3
 obtain⟨ad2,rfl,hl2,hc2⟩:=HBS.out.rd 0 _ (by rw[hx];rfl)
 rw[add_zero']at hc2
 have hx9:=HBS.out.lt x (by rw[hx];simp)
 obtain rfl:x=0:=by omega
 clear hx9 h3
 go_wp2
 go_ret2
 exact⟨rfl,HBL.out⟩
set_option maxRecDepth 100000 in
set_option maxHeartbeats 1600000 in
theorem rver_hi (s:List Nat) (m:Nat) (hm:m=s.length) (hm4:m≤4000) (B:Option Addr) (d:Nat) (w:World) (hB:Bs w w.heap.size s B d) (P:List Nat) (hE:fgetX s=(0,P)) (j:Nat) (hj:P.length=j+32) (f:Tf) (t:List Tf) (hG:gotT (restB P)=(0,f::t)) (h1:f.tag=1) (h2:f.val.length=1) (h3:3<f.val.getD 0 0):Calls Tryz.prog 18 #[.slice B m d] w fun e w'=>e= .returned (.tuple #[.int .i64 0, .int .i64 12])∧Below w.heap.size w w':=by
 have HG:=Lib.hid hG
 clear hG
 have HRJ:=Lib.hid (show j=(restB P).length by rw[restB,List.length_take];omega)
 have hjl:j≤4000:=by
  have h9:=fgetX_len9 s
  rw[hE]at h9
  simp only at h9
  omega
 have HE:=Lib.hid hE
 have HJ:=Lib.hid hj
 clear hE hj
 have HM:=Lib.hid hm
 have HB:=Lib.hid hB
 clear hm hB
 go_enter Tryz.func18, Tryz.ntmps18
 go_wp2_with fail
 refine(rbody_ok s m HM.out hm4 B d w HB.out P HE.out j HJ.out).mono ?_
 rintro e w1 ⟨A1,c1,A2,c2,rfl,hs1,hs2,hb⟩
 have S1:=Lib.hid hs1
 have HBL:=Lib.hid hb
 clear hs1 hs2 hb
 go_wp2_with fail
 refine(refget_tlv (restB P) j HRJ.out (by omega) 0 (f::t) HG.out A1 c1 w1 S1.out).mono ?_
 rintro e w2 ⟨A3,c3,rfl,hs,hb⟩
 replace HBL:=Lib.hid (HBL.out.trans (hb.mono HBL.out.size))
 have hTS:=hs
 clear hs hb
 obtain⟨n,hn⟩: ∃n,n=(f::t).length:=⟨_,rfl⟩
 rw[←hn]
 obtain⟨ad,S,cc,rfl,hlt,hk⟩:=hTS.rd 0 (by simp)
 rw[List.getD_cons_zero,Nat.zero_mul,add_zero']at hk
 have c0:=hk.c0
 have c1:=hk.c1
 have HBS:=Lib.hid hk.bs
 have b0:0<n:=by rw[hn];simp
 have b1:decide (0<n)=true:=decide_eq_true b0
 have b2:((n:Int)==0)=false:=by rw[beq_eq_false_iff_ne];omega
 have b3:(n==0)=false:=by rw[beq_eq_false_iff_ne];omega
 have b4: ¬n=0:=by omega
 obtain⟨tg,htg⟩: ∃tg,f.tag=tg:=⟨_,rfl⟩
 obtain⟨k,hk9⟩: ∃k,f.val.length=k:=⟨_,rfl⟩
 rw[htg]at c0
 rw[hk9]at c1
 clear hk hn hTS
 rw[htg]at h1
 rw[hk9]at h2
 subst h1 h2
 obtain⟨x,hx⟩: ∃x,f.val=[x]:=by
  match f.val,hk9 with
  |[x],_=>exact⟨x,rfl⟩
 rw[hx,List.getD_cons_zero]at h3
 obtain⟨ad2,rfl,hl2,hc2⟩:=HBS.out.rd 0 _ (by rw[hx];rfl)
 rw[add_zero']at hc2
 have hx9:=HBS.out.lt x (by rw[hx];simp)
 have t1: ¬((x:Int)<1):=by omega
 have t2:(3:Int)<(x:Int):=by omega
 have t5:IntKind.i64.wrap (x:Int)=x:=IntWalk.i64_in _ (by omega)
 clear hx9 h3
 go_wp2
 go_ret2
 exact⟨rfl,HBL.out⟩
set_option maxRecDepth 100000 in
set_option maxHeartbeats 1600000 in
theorem rver_ok (s:List Nat) (m:Nat) (hm:m=s.length) (hm4:m≤4000) (B:Option Addr) (d:Nat) (w:World) (hB:Bs w w.heap.size s B d) (P:List Nat) (hE:fgetX s=(0,P)) (j:Nat) (hj:P.length=j+32) (f:Tf) (t:List Tf) (hG:gotT (restB P)=(0,f::t)) (h1:f.tag=1) (h2:f.val.length=1) (h3:1≤f.val.getD 0 0) (h4:f.val.getD 0 0≤3) (v:Nat) (hv:f.val.getD 0 0=v):Calls Tryz.prog 18 #[.slice B m d] w fun e w'=>e= .returned (.tuple #[.int .i64 (v:Int), .int .i64 0])∧Below w.heap.size w w':=by
 have HG:=Lib.hid hG
 clear hG
 have HRJ:=Lib.hid (show j=(restB P).length by rw[restB,List.length_take];omega)
 have hjl:j≤4000:=by
  have h9:=fgetX_len9 s
  rw[hE]at h9
  simp only at h9
  omega
 have HE:=Lib.hid hE
 have HJ:=Lib.hid hj
 clear hE hj
 have HM:=Lib.hid hm
 have HB:=Lib.hid hB
 clear hm hB
 go_enter Tryz.func18, Tryz.ntmps18
 go_wp2_with fail
 refine(rbody_ok s m HM.out hm4 B d w HB.out P HE.out j HJ.out).mono ?_
 rintro e w1 ⟨A1,c1,A2,c2,rfl,hs1,hs2,hb⟩
 have S1:=Lib.hid hs1
 have HBL:=Lib.hid hb
 clear hs1 hs2 hb
 go_wp2_with fail
 refine(refget_tlv (restB P) j HRJ.out (by omega) 0 (f::t) HG.out A1 c1 w1 S1.out).mono ?_
 rintro e w2 ⟨A3,c3,rfl,hs,hb⟩
 replace HBL:=Lib.hid (HBL.out.trans (hb.mono HBL.out.size))
 have hTS:=hs
 clear hs hb
 obtain⟨n,hn⟩: ∃n,n=(f::t).length:=⟨_,rfl⟩
 rw[←hn]
 obtain⟨ad,S,cc,rfl,hlt,hk⟩:=hTS.rd 0 (by simp)
 rw[List.getD_cons_zero,Nat.zero_mul,add_zero']at hk
 have c0:=hk.c0
 have c1:=hk.c1
 have HBS:=Lib.hid hk.bs
 have b0:0<n:=by rw[hn];simp
 have b1:decide (0<n)=true:=decide_eq_true b0
 have b2:((n:Int)==0)=false:=by rw[beq_eq_false_iff_ne];omega
 have b3:(n==0)=false:=by rw[beq_eq_false_iff_ne];omega
 have b4: ¬n=0:=by omega
 obtain⟨tg,htg⟩: ∃tg,f.tag=tg:=⟨_,rfl⟩
 obtain⟨k,hk9⟩: ∃k,f.val.length=k:=⟨_,rfl⟩
 rw[htg]at c0
 rw[hk9]at c1
 clear hk hn hTS
 rw[htg]at h1
 rw[hk9]at h2
 subst h1 h2
 obtain⟨x,hx⟩: ∃x,f.val=[x]:=by
  match f.val,hk9 with
  |[x],_=>exact⟨x,rfl⟩
 rw[hx,List.getD_cons_zero]at h3 h4
 obtain⟨ad2,rfl,hl2,hc2⟩:=HBS.out.rd 0 _ (by rw[hx];rfl)
 rw[add_zero']at hc2
 have hx9:=HBS.out.lt x (by rw[hx];simp)
 have t1: ¬((x:Int)<1):=by omega
 have t2: ¬((3:Int)<(x:Int)):=by omega
 have t5:IntKind.i64.wrap (x:Int)=x:=IntWalk.i64_in _ (by omega)
 obtain rfl:v=x:=by rw[←hv,hx,List.getD_cons_zero]
 clear hx9 h3 h4 hv
 go_wp2
 go_ret2
 exact⟨rfl,HBL.out⟩
theorem rver_any (s:List Nat) (m:Nat) (hm:m=s.length) (hm4:m≤4000) (B:Option Addr) (d:Nat) (w:World) (hB:Bs w w.heap.size s B d) (E v:Nat) (hV:verB s=(E,v)):Calls Tryz.prog 18 #[.slice B m d] w fun e w'=>e= .returned (.tuple #[.int .i64 (v:Int), .int .i64 (E:Int)])∧Below w.heap.size w w':=by
 cases hE:fgetX s with
 |mk G P=>
  by_cases h0:G=0
  ·subst h0
   by_cases h32:P.length<32
   ·obtain⟨rfl,rfl⟩:E=14∧v=0:=by
     have h:=hV.symm.trans (apE_ver (E:=14) (by rw[apE,hE,if_neg (by simp),if_pos h32]) (by decide))
     exact⟨(Prod.mk.inj h).1,(Prod.mk.inj h).2⟩
    exact rver_short s m hm hm4 B d w hB P hE h32
   ·obtain⟨j,hj⟩: ∃j,P.length=j+32:=⟨P.length - 32,by omega⟩
    cases hG:gotT (restB P)with
    |mk F L=>
     by_cases hF:F=0
     ·subst hF
      have hs:verB s=verT L:=by
       rw[verB,hE]
       simp only
       rw[if_neg (by simp),verP,if_neg h32,hG]
       simp only
       rw[if_neg (by simp)]
      rw[hs]at hV
      match L,hG,hV with
      |[],hG,hV=>
       rw[verT_nil]at hV
       cases hV
       exact rver_nil s m hm hm4 B d w hB P hE j hj hG
      |f::t,hG,hV=>
       by_cases h1:f.tag=1
       ·by_cases h2:f.val.length=1
        ·by_cases h3:f.val.getD 0 0<1
         ·rw[verT_lo h3]at hV
          cases hV
          exact rver_lo s m hm hm4 B d w hB P hE j hj f t hG h1 h2 h3
         ·by_cases h4:3<f.val.getD 0 0
          ·rw[verT_hi h4]at hV
           cases hV
           exact rver_hi s m hm hm4 B d w hB P hE j hj f t hG h1 h2 h4
          ·rw[verT_ok h1 h2 (by omega) (by omega)]at hV
           obtain⟨rfl,hv⟩:=Prod.mk.inj hV
           exact rver_ok s m hm hm4 B d w hB P hE j hj f t hG h1 h2 (by omega) (by omega) v hv
        ·rw[verT_len h2]at hV
         cases hV
         exact rver_len s m hm hm4 B d w hB P hE j hj f t hG h1 h2
       ·rw[verT_tag h1]at hV
        cases hV
        exact rver_tag s m hm hm4 B d w hB P hE j hj f t hG h1
     ·obtain⟨rfl,rfl⟩:E=F∧v=0:=by
       have h:=hV.symm.trans (apE_ver (E:=F) (by rw[apE,hE,if_neg (by simp),if_neg h32];simp only;rw[hG]) hF)
       exact⟨(Prod.mk.inj h).1,(Prod.mk.inj h).2⟩
      exact rver_tlv s m hm hm4 B d w hB P hE j hj E L hG hF
  ·obtain⟨rfl,rfl⟩:E=G∧v=0:=by
    have h:=hV.symm.trans (apE_ver (E:=G) (by rw[apE,hE,if_pos h0]) h0)
    exact⟨(Prod.mk.inj h).1,(Prod.mk.inj h).2⟩
   exact rver_no s m hm hm4 B d w hB E P hE h0
end Go.Proofs.YtcnglbliidjnfaaGreatDoor
end
section
namespace Go.Proofs.YtcnglbliidjnfaaGreatDoor
set_option linter.unusedVariables false
open Go.ChangeShapes Go.WideShapes Go.ChangeAt Go.RowKit
set_option maxRecDepth 100000 in
set_option maxHeartbeats 1600000 in
theorem decodes19_any (l:List K) (n:Nat) (hn:n=l.length) (hn3:n≤9223372036854775807) (A:Option Addr) (c:Nat) (b:List Nat) (m:Nat) (hm:m=b.length) (B:Option Addr) (d:Nat) (w:World) (hT:Tabs w) (hA:Ks w w.heap.size A l) (hB:Bs w w.heap.size b B d):Calls Tryz.prog 4 #[.slice A n c, .slice B m d] w fun e w'=>e= .returned (.bool true)∧Below w.heap.size w w':=by
 have h1:=hB.len
 have h2:=hB.cap
 have hm3:m≤9223372036854775807:=by omega
 clear h1 h2
 obtain⟨E,r,hE⟩: ∃E r,decB l b=(E,r):=⟨_,_,rfl⟩
 obtain⟨F,v,hV⟩: ∃F v,verB b=(F,v):=⟨_,_,rfl⟩
 have HN:=Lib.hid hn
 have HM:=Lib.hid hm
 have HT:=Lib.hid hT
 have HA:=Lib.hid hA
 have HB:=Lib.hid hB
 have HE:=Lib.hid hE
 have HV:=Lib.hid hV
 clear hn hm hT hA hB hE hV
 have HBL:=Lib.hid (Below.refl w.heap.size w)
 cases hbig:bigR l
 ·have HBIG:=Lib.hid hbig
  clear hbig
  by_cases q0:2000<m
  ·have p0:(2000:Int)<(m:Int):=by omega
   go_enter Tryz.func4, Tryz.ntmps4
   go_wp2_with fail
   refine(refbig_named l n HN.out false HBIG.out A c w HA.out hn3).mono ?_
   rintro e w1 ⟨rfl,hb⟩
   replace HT:=Lib.hid (HT.out.next hb)
   replace HA:=Lib.hid (HA.out.next hb)
   replace HB:=Lib.hid (HB.out.next hb)
   replace HBL:=Lib.hid (HBL.out.trans (hb.mono HBL.out.size))
   clear hb
   go_wp2
   go_ret
   exact⟨rfl,HBL.out⟩
  have p0: ¬((2000:Int)<(m:Int)):=by omega
  go_enter Tryz.func4, Tryz.ntmps4
  go_wp2_with fail
  refine(refbig_named l n HN.out false HBIG.out A c w HA.out hn3).mono ?_
  rintro e w1 ⟨rfl,hb⟩
  replace HT:=Lib.hid (HT.out.next hb)
  replace HA:=Lib.hid (HA.out.next hb)
  replace HB:=Lib.hid (HB.out.next hb)
  replace HBL:=Lib.hid (HBL.out.trans (hb.mono HBL.out.size))
  clear hb
  go_wp2_with fail
  refine(bdec_any l n HN.out hn3 b m HM.out (by omega) A c B d E r HE.out w1 HT.out HA.out HB.out).mono ?_
  rintro e w2 ⟨rfl,hb⟩
  replace HT:=Lib.hid (HT.out.next hb)
  replace HA:=Lib.hid (HA.out.next hb)
  replace HB:=Lib.hid (HB.out.next hb)
  replace HBL:=Lib.hid (HBL.out.trans (hb.mono HBL.out.size))
  clear hb
  go_wp2_with fail
  obtain⟨w3,hw⟩: ∃w3,w3=w2.alloc (.cells #[.int .i64 r.t.ser, .int .i64 r.t.kind, .int .i64 r.t.frm, .int .i64 r.t.till, .int .i64 r.t.cls, .int .i64 r.t.card, .int .i64 r.t.seat, .int .i64 r.t.day, .int .i64 r.t.days, .int .i64 r.t.uses, .int .i64 r.t.epoch, .int .i64 r.key, .int .i64 r.left, .int .i64 r.inn, .int .i64 r.ver] 28):=⟨_,rfl⟩
  rw[←hw]
  have hx:RBox w3 w2.heap.size r:=by rw[hw];exact RBox.new w2 r
  have hb:Below w2.heap.size w2 w3:=by rw[hw];exact below_lit w2 _ _
  replace HT:=Lib.hid (HT.out.next hb)
  replace HA:=Lib.hid (HA.out.next hb)
  replace HB:=Lib.hid (HB.out.next hb)
  replace HBL:=Lib.hid (HBL.out.trans (hb.mono HBL.out.size))
  have X1:=Lib.hid hx
  clear hx hb hw
  obtain⟨B1,hB⟩: ∃B,B=w2.heap.size:=⟨_,rfl⟩
  rw[←hB]at X1⊢
  clear hB
  refine(rbdec_any l n HN.out hn3 b m HM.out (by omega) A c B d E r HE.out w3 HA.out HB.out).mono ?_
  rintro e w4 ⟨rfl,hb⟩
  replace HT:=Lib.hid (HT.out.next hb)
  replace HA:=Lib.hid (HA.out.next hb)
  replace HB:=Lib.hid (HB.out.next hb)
  replace X1:=Lib.hid (X1.out.next hb)
  replace HBL:=Lib.hid (HBL.out.trans (hb.mono HBL.out.size))
  clear hb
  go_wp2_with fail
  obtain⟨w5,hw⟩: ∃w5,w5=w4.alloc (.cells #[.int .i64 r.t.ser, .int .i64 r.t.kind, .int .i64 r.t.frm, .int .i64 r.t.till, .int .i64 r.t.cls, .int .i64 r.t.card, .int .i64 r.t.seat, .int .i64 r.t.day, .int .i64 r.t.days, .int .i64 r.t.uses, .int .i64 r.t.epoch, .int .i64 r.key, .int .i64 r.left, .int .i64 r.inn, .int .i64 r.ver] 28):=⟨_,rfl⟩
  rw[←hw]
  have hx:RBox w5 w4.heap.size r:=by rw[hw];exact RBox.new w4 r
  have hb:Below w4.heap.size w4 w5:=by rw[hw];exact below_lit w4 _ _
  replace HT:=Lib.hid (HT.out.next hb)
  replace HA:=Lib.hid (HA.out.next hb)
  replace HB:=Lib.hid (HB.out.next hb)
  replace X1:=Lib.hid (X1.out.next hb)
  replace HBL:=Lib.hid (HBL.out.trans (hb.mono HBL.out.size))
  have X2:=Lib.hid hx
  clear hx hb hw
  obtain⟨B2,hB⟩: ∃B,B=w4.heap.size:=⟨_,rfl⟩
  rw[←hB]at X2⊢
  clear hB
  refine(bver_any b m HM.out (by omega) B d F v HV.out w5 HB.out).mono ?_
  rintro e w6 ⟨rfl,hb⟩
  replace HT:=Lib.hid (HT.out.next hb)
  replace HA:=Lib.hid (HA.out.next hb)
  replace HB:=Lib.hid (HB.out.next hb)
  replace X1:=Lib.hid (X1.out.next hb)
  replace X2:=Lib.hid (X2.out.next hb)
  replace HBL:=Lib.hid (HBL.out.trans (hb.mono HBL.out.size))
  clear hb
  go_wp2_with fail
  refine(rver_any b m HM.out (by omega) B d w6 HB.out F v HV.out).mono ?_
  rintro e w7 ⟨rfl,hb⟩
  replace HT:=Lib.hid (HT.out.next hb)
  replace HA:=Lib.hid (HA.out.next hb)
  replace HB:=Lib.hid (HB.out.next hb)
  replace X1:=Lib.hid (X1.out.next hb)
  replace X2:=Lib.hid (X2.out.next hb)
  replace HBL:=Lib.hid (HBL.out.trans (hb.mono HBL.out.size))
  clear hb
  go_wp2_with fail
  refine(coded19_any w7 HT.out).mono ?_
  rintro e w8 ⟨rfl,hb⟩
  replace HT:=Lib.hid (HT.out.next hb)
  replace HA:=Lib.hid (HA.out.next hb)
  replace HB:=Lib.hid (HB.out.next hb)
  replace X1:=Lib.hid (X1.out.next hb)
  replace X2:=Lib.hid (X2.out.next hb)
  replace HBL:=Lib.hid (HBL.out.trans (hb.mono HBL.out.size))
  clear hb
  obtain⟨c0,c1,c2,c3,c4,c5,c6,c7,c8,c9,c10,c11,c12,c13,c14⟩:=X1.out.cells
  obtain⟨k0,k1,k2,k3,k4,k5,k6,k7,k8,k9,k10,k11,k12,k13,k14⟩:=X2.out.cells
  have heq:=read_eq r r
  rw[rgB_self]at heq
  go_wp2
  go_ret
  exact⟨rfl,HBL.out⟩
 ·have HBIG:=Lib.hid hbig
  clear hbig
  go_enter Tryz.func4, Tryz.ntmps4
  go_wp2_with fail
  refine(refbig_named l n HN.out true HBIG.out A c w HA.out hn3).mono ?_
  rintro e w1 ⟨rfl,hb⟩
  replace HT:=Lib.hid (HT.out.next hb)
  replace HA:=Lib.hid (HA.out.next hb)
  replace HB:=Lib.hid (HB.out.next hb)
  replace HBL:=Lib.hid (HBL.out.trans (hb.mono HBL.out.size))
  clear hb
  go_wp2
  go_ret
  exact⟨rfl,HBL.out⟩
end Go.Proofs.YtcnglbliidjnfaaGreatDoor
end
