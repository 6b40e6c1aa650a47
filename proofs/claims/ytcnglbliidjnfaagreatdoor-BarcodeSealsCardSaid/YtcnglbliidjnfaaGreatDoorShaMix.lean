import Derived.Test.YtcnglbliidjnfaaGreatDoorRingFind
import Derived.Test.YtcnglbliidjnfaaGreatDoorFieldsMath
import Derived.Test.YtcnglbliidjnfaaGreatDoorMem
import Derived.ArgAppend
section
namespace Go.Proofs.YtcnglbliidjnfaaGreatDoor
set_option linter.unusedVariables false
open Go.ChangeShapes Go.WideShapes Go.ChangeAt Go.RowKit
theorem rot_small (x:Nat) (n:Int) (w:World) (hx:x<4294967296) (h0:0≤n) (h:n<32):
  Calls Tryz.prog 162 #[.int .u32 x, .int .i64 n] w fun e w'=>e= .returned (.int .u32 ((itr n.toNat x:Nat):Int))∧w=w':=by
 have h:=rot_any x n w hx (by omega) (by omega)
 rw[show(n % 32).toNat=n.toNat by omega]at h
 exact h
theorem stirEarly_any (x:Nat) (w:World) (hx:x<4294967296):
  Calls Tryz.prog 148 #[.int .u32 x] w fun e w'=>e= .returned (.int .u32 ((twoN x 7 18 8:Nat):Int))∧w=w':=by
 have ha:=itr_lt 7 hx
 have hb:=itr_lt 18 hx
 have hq:x / 8<4294967296:=by omega
 go_enter Tryz.func148, Tryz.ntmps148
 go_wp2_with fail
 refine(rot_small x 7 _ hx (by omega) (by omega)).mono ?_
 rintro e w' ⟨rfl,rfl⟩
 go_wp2_with fail
 refine(rot_small x 18 _ hx (by omega) (by omega)).mono ?_
 rintro e w' ⟨rfl,rfl⟩
 go_wp2_with fail
 go_ret
 refine⟨ret_int ?_,rfl⟩
 rw[show(x:Int) / 8=((x / 8:Nat):Int) by omega,xor32 _ _ ha hb,xor32 _ _ (xor_lt32 ha hb) hq]
 rfl
theorem stirLate_any (x:Nat) (w:World) (hx:x<4294967296):
  Calls Tryz.prog 149 #[.int .u32 x] w fun e w'=>e= .returned (.int .u32 ((twoN x 17 19 1024:Nat):Int))∧w=w':=by
 have ha:=itr_lt 17 hx
 have hb:=itr_lt 19 hx
 have hq:x / 1024<4294967296:=by omega
 go_enter Tryz.func149, Tryz.ntmps149
 go_wp2_with fail
 refine(rot_small x 17 _ hx (by omega) (by omega)).mono ?_
 rintro e w' ⟨rfl,rfl⟩
 go_wp2_with fail
 refine(rot_small x 19 _ hx (by omega) (by omega)).mono ?_
 rintro e w' ⟨rfl,rfl⟩
 go_wp2_with fail
 go_ret
 refine⟨ret_int ?_,rfl⟩
 rw[show(x:Int) / 1024=((x / 1024:Nat):Int) by omega,xor32 _ _ ha hb,xor32 _ _ (xor_lt32 ha hb) hq]
 rfl
theorem turnLow_any (x:Nat) (w:World) (hx:x<4294967296):
  Calls Tryz.prog 150 #[.int .u32 x] w fun e w'=>e= .returned (.int .u32 ((threeN x 6 11 25:Nat):Int))∧w=w':=by
 have ha:=itr_lt 6 hx
 have hb:=itr_lt 11 hx
 have hc:=itr_lt 25 hx
 go_enter Tryz.func150, Tryz.ntmps150
 go_wp2_with fail
 refine(rot_small x 6 _ hx (by omega) (by omega)).mono ?_
 rintro e w' ⟨rfl,rfl⟩
 go_wp2_with fail
 refine(rot_small x 11 _ hx (by omega) (by omega)).mono ?_
 rintro e w' ⟨rfl,rfl⟩
 go_wp2_with fail
 refine(rot_small x 25 _ hx (by omega) (by omega)).mono ?_
 rintro e w' ⟨rfl,rfl⟩
 go_wp2_with fail
 go_ret
 refine⟨ret_int ?_,rfl⟩
 rw[xor32 _ _ ha hb,xor32 _ _ (xor_lt32 ha hb) hc]
 rfl
theorem turnHigh_any (x:Nat) (w:World) (hx:x<4294967296):
  Calls Tryz.prog 152 #[.int .u32 x] w fun e w'=>e= .returned (.int .u32 ((threeN x 2 13 22:Nat):Int))∧w=w':=by
 have ha:=itr_lt 2 hx
 have hb:=itr_lt 13 hx
 have hc:=itr_lt 22 hx
 go_enter Tryz.func152, Tryz.ntmps152
 go_wp2_with fail
 refine(rot_small x 2 _ hx (by omega) (by omega)).mono ?_
 rintro e w' ⟨rfl,rfl⟩
 go_wp2_with fail
 refine(rot_small x 13 _ hx (by omega) (by omega)).mono ?_
 rintro e w' ⟨rfl,rfl⟩
 go_wp2_with fail
 refine(rot_small x 22 _ hx (by omega) (by omega)).mono ?_
 rintro e w' ⟨rfl,rfl⟩
 go_wp2_with fail
 go_ret
 refine⟨ret_int ?_,rfl⟩
 rw[xor32 _ _ ha hb,xor32 _ _ (xor_lt32 ha hb) hc]
 rfl
theorem choose_nat (e f g:Nat) (he:e<4294967296) (hf:f<4294967296) (hg:g<4294967296):(e&&&f)|||((4294967295^^^e)&&&g)=pk e f g 32:=by
 apply Nat.eq_of_testBit_eq
 intro j
 rw[testBit_pk,Nat.testBit_or,Nat.testBit_and,Nat.testBit_and,Nat.testBit_xor,show 4294967295=2^32 - 1 by rfl,Nat.testBit_two_pow_sub_one]
 by_cases h:j<32
 ·simp only[h,decide_true,Bool.true_and]
  cases e.testBit j<;>simp
 ·have z: ∀x:Nat,x<4294967296→x.testBit j=false:=fun x hx=>Nat.testBit_lt_two_pow (Nat.lt_of_lt_of_le hx (Nat.pow_le_pow_right (n:=2) (by omega) (show 32≤j by omega)))
  simp[h,z e he,z f hf,z g hg]
theorem most_nat (a b c:Nat) (ha:a<4294967296) (hb:b<4294967296) (hc:c<4294967296):(a&&&b)|||(a&&&c)|||(b&&&c)=mj a b c 32:=by
 apply Nat.eq_of_testBit_eq
 intro j
 rw[testBit_mj]
 simp only[Nat.testBit_or,Nat.testBit_and]
 by_cases h:j<32
 ·simp only[h,decide_true,Bool.true_and]
 ·have z: ∀x:Nat,x<4294967296→x.testBit j=false:=fun x hx=>Nat.testBit_lt_two_pow (Nat.lt_of_lt_of_le hx (Nat.pow_le_pow_right (n:=2) (by omega) (show 32≤j by omega)))
  simp[h,z a ha,z b hb,z c hc]
theorem and_lt32 {a b:Nat} (ha:a<4294967296):a&&&b<4294967296:=Nat.lt_of_le_of_lt Nat.and_le_left ha
theorem or_lt32 {a b:Nat} (ha:a<4294967296) (hb:b<4294967296):a|||b<4294967296:=Nat.or_lt_two_pow (n:=32) ha hb
theorem choose_any (e f g:Nat) (w:World) (he:e<4294967296) (hf:f<4294967296) (hg:g<4294967296):
  Calls Tryz.prog 151 #[.int .u32 e, .int .u32 f, .int .u32 g] w fun en w'=>en= .returned (.int .u32 ((pk e f g 32:Nat):Int))∧w=w':=by
 go_enter Tryz.func151, Tryz.ntmps151
 go_wp2
 go_ret
 refine⟨ret_int ?_,rfl⟩
 have hm:IntKind.u32.max=((4294967295:Nat):Int):=rfl
 rw[hm,xor32 _ _ (by omega) he,u32_and_nat _ _ he hf,u32_and_nat _ _ (xor_lt32 (by omega) he) hg,u32_or_nat _ _ (and_lt32 he) (and_lt32 (xor_lt32 (by omega) he)),choose_nat e f g he hf hg]
theorem pmost_any (a b c:Nat) (w:World) (ha:a<4294967296) (hb:b<4294967296) (hc:c<4294967296):
  Calls Tryz.prog 153 #[.int .u32 a, .int .u32 b, .int .u32 c] w fun en w'=>en= .returned (.int .u32 ((mj a b c 32:Nat):Int))∧w=w':=by
 go_enter Tryz.func153, Tryz.ntmps153
 go_wp2
 go_ret
 refine⟨ret_int ?_,rfl⟩
 rw[u32_and_nat _ _ ha hb,u32_and_nat _ _ ha hc,u32_and_nat _ _ hb hc,u32_or_nat _ _ (and_lt32 ha) (and_lt32 ha),u32_or_nat _ _ (or_lt32 (and_lt32 ha) (and_lt32 ha)) (and_lt32 hb),most_nat a b c ha hb hc]
end Go.Proofs.YtcnglbliidjnfaaGreatDoor
end
section
namespace Go.Proofs.YtcnglbliidjnfaaGreatDoor
set_option linter.unusedVariables false
open Go.ChangeShapes Go.WideShapes Go.ChangeAt Go.RowKit
def St.val (v:St):Value:= .agg #[.int .u32 v.a, .int .u32 v.b, .int .u32 v.c, .int .u32 v.d, .int .u32 v.e, .int .u32 v.f, .int .u32 v.g, .int .u32 v.h]
def beginN:St:=⟨1779033703,3144134277,1013904242,2773480762,1359893119,2600822924,528734635,1541459225⟩
set_option maxRecDepth 100000 in
theorem consts_any (w:World):Calls Tryz.prog 136 #[] w fun e w'=> ∃g cap,e= .returned (.slice (some ⟨g,0,none⟩) 64 cap)∧w'.ownsRow w.heap.size 138 1 (.slice (some ⟨g,0,none⟩) 64 cap) 64 (U32 kTab)∧Below w.heap.size w w':=by
 go_enter Tryz.func136, Tryz.ntmps136
 go_wp2
 go_ret
 exact⟨_,_,rfl,World.ownsRow_lit w (U32 kTab).toArray 64 (Nat.le_refl _) (by decide) rfl,(Below.refl _ _).alloc (Nat.le_refl _) _⟩
set_option maxRecDepth 100000 in
theorem begin_any (w:World):Calls Tryz.prog 117 #[] w fun e w'=>e= .returned beginN.val∧Below w.heap.size w w':=by
 go_enter Tryz.func117, Tryz.ntmps117
 go_wp2
 exact bodyPost_ret (v:=beginN.val) (by simp[results, Tryz.results117,go_sem,St.val,beginN]) rfl ⟨rfl,(Below.refl _ _).alloc (Nat.le_refl _) _⟩
end Go.Proofs.YtcnglbliidjnfaaGreatDoor
end
section
namespace Go.Proofs.YtcnglbliidjnfaaGreatDoor
set_option linter.unusedVariables false
open Go.ChangeShapes Go.WideShapes Go.ChangeAt Go.RowKit
def rndS (v:St) (kw:Nat):St:=
 ⟨(v.h+threeN v.e 6 11 25+pk v.e v.f v.g 32+kw+(threeN v.a 2 13 22+mj v.a v.b v.c 32)) % 4294967296,v.a,v.b,v.c,(v.d+(v.h+threeN v.e 6 11 25+pk v.e v.f v.g 32+kw)) % 4294967296,v.e,v.f,v.g⟩
theorem rndS_eq (v:St) (k w:Nat):rndS v ((k+w) % 4294967296)=rnd v k w:=by
 unfold rndS rnd t1N t2N
 congr 1
 ·omega
 ·omega
set_option maxRecDepth 100000 in
theorem round_any (V:St) (kw:Nat) (w:World) (hV:V.ok) (hk:kw<4294967296):
  Calls Tryz.prog 132 #[V.val, .int .u32 kw] w fun e w'=>e= .returned (rndS V kw).val∧Below w.heap.size w w':=by
 obtain⟨ba,bb,bc,bd,be,bf,bg,bh⟩:=hV
 unfold St.val
 go_enter Tryz.func132, Tryz.ntmps132
 go_wp2_with fail
 go_quiet (fail)
 go_wp2_with fail
 refine(turnLow_any _ _ be).mono ?_
 rintro e w' ⟨rfl,rfl⟩
 go_wp2_with fail
 refine(choose_any _ _ _ _ be bf bg).mono ?_
 rintro e w' ⟨rfl,rfl⟩
 go_wp2_with fail
 refine(turnHigh_any _ _ ba).mono ?_
 rintro e w' ⟨rfl,rfl⟩
 go_wp2_with fail
 refine(pmost_any _ _ _ _ ba bb bc).mono ?_
 rintro e w' ⟨rfl,rfl⟩
 go_wp2_with fail
 have ea:((V.h:Int)+(threeN V.e 6 11 25:Nat)+(pk V.e V.f V.g 32:Nat)+(kw:Int)+((threeN V.a 2 13 22:Nat)+(mj V.a V.b V.c 32:Nat))) % 4294967296=(((rndS V kw).a:Nat):Int):=by
  show _=(((_:Nat) % 4294967296:Nat):Int);omega
 have ee:((V.d:Int)+((V.h:Int)+(threeN V.e 6 11 25:Nat)+(pk V.e V.f V.g 32:Nat)+(kw:Int))) % 4294967296=(((rndS V kw).e:Nat):Int):=by
  show _=(((_:Nat) % 4294967296:Nat):Int);omega
 rw[ea,ee]
 have hle:w.heap.size≤w.heap.size+1:=by omega
 refine bodyPost_ret (v:=(rndS V kw).val) (by simp[results, Tryz.results132,go_sem,St.val,rndS]) rfl ⟨rfl, ?_⟩
 exact(((((((((below_drewN (((Below.refl _ _).alloc (Nat.le_refl _) _).alloc (by simp) _) _).setCell hle _).setCell hle _).setCell hle _).setCell hle _).setCell hle _).setCell hle _).setCell hle _).setCell hle _)
end Go.Proofs.YtcnglbliidjnfaaGreatDoor
end
section
namespace Go.Proofs.YtcnglbliidjnfaaGreatDoor
set_option linter.unusedVariables false
open Go.ChangeShapes Go.WideShapes Go.ChangeAt Go.RowKit
theorem own_base {w:World} {base base':Nat} {e:TypeId} {size:Nat} {v:Value} {n:Nat} {xs:List Value} (h:w.ownsRow base e size v n xs) (hb:base'≤base):w.ownsRow base' e size v n xs:=by
 refine⟨h.1, ?_⟩
 rcases h.2 with hn|⟨g,cap,cur,rfl,h1,rest⟩
 ·exact .inl hn
 ·exact .inr ⟨g,cap,cur,rfl,Nat.le_trans hb h1,rest⟩
section
variable {P:Program} (w:World)
theorem run_append_keep (base:Nat) (t ty e:TypeId) (i:TypeInfo) (z:Value) (bytes:Nat) (ht:P.underlying t=some (.slice e)) (hi:P.info? e=some i) (hz:i.zero=some z) (hsize:i.size=1) (hby:i.bytes=bytes) (hzs:z.cells.size=1)
  (g n cap:Nat) (xs:List Value) (hown:w.ownsRow base e 1 (.slice (some ⟨g,0,none⟩) n cap) n xs) (a:Addr) (m c:Nat) (news:List Value) (hl:news.length=m) (hnews: ∀j u,news[j]?=some u→w.cell? (a.add j)=some u)
  (h1: ∀u∈news,u.oneCell'=true) (h63:n+m≤maxLen) (hbytes:(n+m)*bytes≤140737488355328) (hbase:base≤w.heap.size):
  ∃v' w',(Builtin.append_ #[t,t] ty #[.slice (some ⟨g,0,none⟩) n cap, .slice (some a) m c]).run P w= .ok v' w'∧w'.ownsRow base e 1 v' (n+m) (xs++news)∧w.grownBy w' (some g)∧ ∀j,j<n→w'.cell? ⟨g,j,none⟩=w.cell? ⟨g,j,none⟩:=by
 have hlen:=hown.1
 by_cases hroom:n+m≤cap
 ·obtain⟨w',hr,ho,hg⟩:=run_append_fits (P:=P) w base t ty e i 1 ht hi hsize g n cap xs hown a m c news (by omega) hnews h1 hroom
  refine⟨_,w',hr,ho,hg,fun j hj=> ?_⟩
  rw[ho.cellAt j (by omega),hown.cellAt j (by omega),List.getElem?_append_left (by omega)]
 ·have hcells: ∀j u,xs[j]?=some u→w.cell? ((⟨g,0,none⟩:Addr).add j)=some u:=by
   intro j u hu
   have hj:j<xs.length:=by
    rcases Nat.lt_or_ge j xs.length with h|h
    ·exact h
    ·rw[List.getElem?_eq_none h]at hu;cases hu
   rw[at_add,hown.cellAt j (by omega)]
   exact hu
  obtain⟨v',w',hr,ho,hg⟩:=run_append_arg_grows (P:=P) w t ty e i z 1 bytes ht hi hz hsize hby hzs (by omega) ⟨g,0,none⟩ n cap xs hlen hcells a m c news (by omega) hnews (by omega) h63 hbytes
  refine⟨v',w',hr,own_base ho hbase,⟨hg.os,hg.tape,hg.output,hg.size,fun k hk _=>hg.block k hk (by simp)⟩,fun j hj=> ?_⟩
  have hlt:g<w.heap.size:=by
   have:=(Rd.of_own hown) j (xs[j]'(by omega)) (List.getElem?_eq_getElem _)
   obtain⟨ad,he,hb,_⟩:=this
   cases he
   exact hb
  exact World.cell?_of_block (hg.block g hlt (by simp))
theorem step_append_keep {ops:Array Oper} {o:Oper} {a:Act} {K:Act→World→Prop} {Q:Exit→Act→World→Prop} {E:Prop} (hgd:o.guard=none) (s x:Operand) (t:TypeId)
  (ho:o.op= .call { callee:= .builtin .append,args:= #[s,x],argTypes:= #[t,t] })
  (base:Nat) (e:TypeId) (i:TypeInfo) (z:Value) (bytes:Nat) (ht:P.underlying t=some (.slice e)) (hi:P.info? e=some i) (hz:i.zero=some z) (hsize:i.size=1) (hby:i.bytes=bytes) (hzs:z.cells.size=1)
  (g n cap:Nat) (xs:List Value) (hs:a.eval s= .slice (some ⟨g,0,none⟩) n cap) (hown:w.ownsRow base e 1 (.slice (some ⟨g,0,none⟩) n cap) n xs)
  (ad:Addr) (m c:Nat) (news:List Value) (hx:a.eval x= .slice (some ad) m c) (hl:news.length=m) (hnews: ∀j u,news[j]?=some u→w.cell? (ad.add j)=some u)
  (h1: ∀u∈news,u.oneCell'=true) (h63:n+m≤maxLen) (hbytes:(n+m)*bytes≤140737488355328) (hbase:base≤w.heap.size)
  (h: ∀v' w',w'.ownsRow base e 1 v' (n+m) (xs++news)→w.grownBy w' (some g)→(∀j,j<n→w'.cell? ⟨g,j,none⟩=w.cell? ⟨g,j,none⟩)→K (a.put o.dst v') w'):
  if Region.wanted o (yielded ops a.tmps)=true then Oper.wp P o a w K Q else E:=by
 have hw:Region.wanted o (yielded ops a.tmps)=true:=by simp[Region.wanted,hgd]
 rw[if_pos hw]
 obtain⟨v',w',hrun,h2,h3,h4⟩:=run_append_keep (P:=P) w base t o.type e i z bytes ht hi hz hsize hby hzs g n cap xs hown ad m c news hl hnews h1 h63 hbytes hbase
 unfold Oper.wp
 simp[execOp,ho,resolve,invoke,builtin,hs,hx,hrun,Result.andThen]
 exact h v' w' h2 h3 h4
end
end Go.Proofs.YtcnglbliidjnfaaGreatDoor
end
