import Derived.Test.YtcnglbliidjnfaaGreatDoorShaPSum
import Derived.Test.YtcnglbliidjnfaaGreatDoorMem
import Derived.Deep.MidRow
import Derived.Test.YtcnglbliidjnfaaGreatDoorShaPBlock
import Derived.Test.YtcnglbliidjnfaaGreatDoorShaPPad
import Derived.Test.YtcnglbliidjnfaaGreatDoorMath
import Derived.Carry
import Derived.ChangeSlices
section
namespace Go.Proofs.YtcnglbliidjnfaaGreatDoor
set_option linter.unusedVariables false
open Go.ChangeShapes Go.WideShapes Go.ChangeAt Go.RowKit
def br0:Rg:=⟨⟨42,1,3,20,2,0,0,10,1,1,0⟩,5,0,0,1⟩
def bk1:K:=⟨5,[1,2,3],0,99⟩
def bk2:K:=⟨5,[1,2,4],0,99⟩
def bF:List Tf:=[⟨1,[1]⟩,⟨2,[5]⟩,⟨3,[1]⟩,⟨4,[42]⟩,⟨5,[3]⟩,⟨6,[20]⟩,⟨7,[2]⟩,⟨10,[10]⟩,⟨11,[1]⟩]
def bP:List Nat:=[1,1,1,2,1,5,3,1,1,4,1,42,5,1,3,6,1,20,7,1,2,10,1,10,11,1,1]
def bS:List Nat:=[87,53,48,88,53,48,32,53,48,52,72,48,90,53,48,83,54,48,76,83,48,57,72,48,54,54,48,37,42,48,82,66,48,45,53,48,82,72,49,72,55,48,73,42,74,71,51,52,36,45,81,89,66,87,87,57,65,55,48,83,50,83,72,65,70,65,84,51,66,82,79,72,74,74,56,56,37,55,74,53,82,70,68,66,68,85,55,85,48]
def bI1:List Nat:=[55,52,53,54,54,54,54,54,54,54,54,54,54,54,54,54,54,54,54,54,54,54,54,54,54,54,54,54,54,54,54,54,54,54,54,54,54,54,54,54,54,54,54,54,54,54,54,54,54,54,54,54,54,54,54,54,54,54,54,54,54,54,54,54,66,1,1,1,2,1,5,3,1,1,4,1,42,5,1,3,6,1,20,7,1,2,10,1,10,11,1,1]
def bD1:List Nat:=[77,245,10,87,94,116,253,190,153,233,115,167,48,0,58,140,138,58,195,181,70,138,187,78,177,195,233,224,169,44,16,52]
def bO1:List Nat:=[93,94,95,92,92,92,92,92,92,92,92,92,92,92,92,92,92,92,92,92,92,92,92,92,92,92,92,92,92,92,92,92,92,92,92,92,92,92,92,92,92,92,92,92,92,92,92,92,92,92,92,92,92,92,92,92,92,92,92,92,92,92,92,92,77,245,10,87,94,116,253,190,153,233,115,167,48,0,58,140,138,58,195,181,70,138,187,78,177,195,233,224,169,44,16,52]
def bV1:List Nat:=[76,157,56,32,59,213,4,255,49,80,207,221,131,139,103,81,199,87,167,138,204,66,178,62,21,214,135,89,91,60,178,30]
theorem b_in1:maskN (blockM [1,2,3]) 54++(66::bP)=bI1:=by kernel_rfl
theorem b_d1:digestN bI1=bD1:=by rw[digestF_eq _ (by decide)];kernel_rfl
theorem b_o1:maskN (blockM [1,2,3]) 92++bD1=bO1:=by kernel_rfl
theorem b_v1:digestN bO1=bV1:=by rw[digestF_eq _ (by decide)];kernel_rfl
theorem b_t1:tagB [1,2,3] bP=bV1:=by rw[tagB,tagN,b_in1,b_d1,b_o1,b_v1]
def bI2:List Nat:=[55,52,50,54,54,54,54,54,54,54,54,54,54,54,54,54,54,54,54,54,54,54,54,54,54,54,54,54,54,54,54,54,54,54,54,54,54,54,54,54,54,54,54,54,54,54,54,54,54,54,54,54,54,54,54,54,54,54,54,54,54,54,54,54,66,1,1,1,2,1,5,3,1,1,4,1,42,5,1,3,6,1,20,7,1,2,10,1,10,11,1,1]
def bD2:List Nat:=[122,130,28,32,114,171,194,184,60,29,135,153,241,146,202,212,137,49,75,169,134,67,81,243,83,182,243,113,68,110,145,52]
def bO2:List Nat:=[93,94,88,92,92,92,92,92,92,92,92,92,92,92,92,92,92,92,92,92,92,92,92,92,92,92,92,92,92,92,92,92,92,92,92,92,92,92,92,92,92,92,92,92,92,92,92,92,92,92,92,92,92,92,92,92,92,92,92,92,92,92,92,92,122,130,28,32,114,171,194,184,60,29,135,153,241,146,202,212,137,49,75,169,134,67,81,243,83,182,243,113,68,110,145,52]
def bV2:List Nat:=[142,4,11,58,36,88,152,7,76,253,75,38,160,114,60,247,247,197,74,14,76,163,170,67,205,233,194,120,161,16,17,133]
theorem b_in2:maskN (blockM [1,2,4]) 54++(66::bP)=bI2:=by kernel_rfl
theorem b_d2:digestN bI2=bD2:=by rw[digestF_eq _ (by decide)];kernel_rfl
theorem b_o2:maskN (blockM [1,2,4]) 92++bD2=bO2:=by kernel_rfl
theorem b_v2:digestN bO2=bV2:=by rw[digestF_eq _ (by decide)];kernel_rfl
theorem b_t2:tagB [1,2,4] bP=bV2:=by rw[tagB,tagN,b_in2,b_d2,b_o2,b_v2]
def bI3:List Nat:=[55,54,54,54,54,54,54,54,54,54,54,54,54,54,54,54,54,54,54,54,54,54,54,54,54,54,54,54,54,54,54,54,54,54,54,54,54,54,54,54,54,54,54,54,54,54,54,54,54,54,54,54,54,54,54,54,54,54,54,54,54,54,54,54,66]
def bD3:List Nat:=[105,196,59,18,196,192,107,143,232,92,22,66,253,184,221,3,156,251,54,58,77,225,5,184,37,250,134,10,212,48,170,201]
def bO3:List Nat:=[93,92,92,92,92,92,92,92,92,92,92,92,92,92,92,92,92,92,92,92,92,92,92,92,92,92,92,92,92,92,92,92,92,92,92,92,92,92,92,92,92,92,92,92,92,92,92,92,92,92,92,92,92,92,92,92,92,92,92,92,92,92,92,92,105,196,59,18,196,192,107,143,232,92,22,66,253,184,221,3,156,251,54,58,77,225,5,184,37,250,134,10,212,48,170,201]
def bV3:List Nat:=[223,152,161,58,32,149,149,200,55,133,66,21,212,95,169,195,153,21,252,61,83,174,120,30,191,79,242,216,216,152,175,73]
theorem b_in3:maskN (blockM [1]) 54++(66::[])=bI3:=by kernel_rfl
theorem b_d3:digestN bI3=bD3:=by rw[digestF_eq _ (by decide)];kernel_rfl
theorem b_o3:maskN (blockM [1]) 92++bD3=bO3:=by kernel_rfl
theorem b_v3:digestN bO3=bV3:=by rw[digestF_eq _ (by decide)];kernel_rfl
theorem b_t3:tagB [1] []=bV3:=by rw[tagB,tagN,b_in3,b_d3,b_o3,b_v3]
def bI4:List Nat:=[52,54,54,54,54,54,54,54,54,54,54,54,54,54,54,54,54,54,54,54,54,54,54,54,54,54,54,54,54,54,54,54,54,54,54,54,54,54,54,54,54,54,54,54,54,54,54,54,54,54,54,54,54,54,54,54,54,54,54,54,54,54,54,54,66]
def bD4:List Nat:=[40,16,111,192,194,124,17,34,148,178,114,138,250,102,192,165,181,205,203,176,64,158,103,211,211,72,212,244,213,34,128,202]
def bO4:List Nat:=[94,92,92,92,92,92,92,92,92,92,92,92,92,92,92,92,92,92,92,92,92,92,92,92,92,92,92,92,92,92,92,92,92,92,92,92,92,92,92,92,92,92,92,92,92,92,92,92,92,92,92,92,92,92,92,92,92,92,92,92,92,92,92,92,40,16,111,192,194,124,17,34,148,178,114,138,250,102,192,165,181,205,203,176,64,158,103,211,211,72,212,244,213,34,128,202]
def bV4:List Nat:=[156,58,19,156,88,59,163,97,51,42,38,158,134,6,163,120,142,45,165,97,203,110,215,78,160,123,198,17,225,29,192,136]
theorem b_in4:maskN (blockM [2]) 54++(66::[])=bI4:=by kernel_rfl
theorem b_d4:digestN bI4=bD4:=by rw[digestF_eq _ (by decide)];kernel_rfl
theorem b_o4:maskN (blockM [2]) 92++bD4=bO4:=by kernel_rfl
theorem b_v4:digestN bO4=bV4:=by rw[digestF_eq _ (by decide)];kernel_rfl
theorem b_t4:tagB [2] []=bV4:=by rw[tagB,tagN,b_in4,b_d4,b_o4,b_v4]
theorem b_put:fdPut br0=(0,bF):=by kernel_rfl
theorem b_bd:bodyB br0=bP:=by rw[bodyB,b_put];kernel_rfl
theorem b_is1:isR [bk1]=true:=by kernel_rfl
theorem b_is2:isR [bk2]=true:=by kernel_rfl
theorem b_is0:isR []=true:=by kernel_rfl
theorem b_f1:findE [bk1] 5=0:=by kernel_rfl
theorem b_f2:findE [bk2] 5=0:=by kernel_rfl
theorem b_f0:findE [] 5=10:=by kernel_rfl
theorem b_k1:(findK [bk1] 5).sec=[1,2,3]:=by kernel_rfl
theorem b_k2:(findK [bk2] 5).sec=[1,2,4]:=by kernel_rfl
theorem b_w1:wholeB [bk1] br0=bP++bV1:=by rw[wholeB,b_bd,show br0.key=5 from rfl,b_k1,b_t1]
theorem b_sig:putF (bP++bV1)=bS:=by kernel_rfl
theorem b_enc:ecB [bk1] br0=(0,bS):=by
 rw[ecB,if_neg (by rw[b_is1];decide),b_put,if_neg (by simp),show br0.key=5 from rfl,if_neg (by rw[b_f1];simp),b_w1,b_sig]
theorem b_enc0:ecB [] br0=(10,[]):=by
 rw[ecB,if_neg (by rw[b_is0];decide),b_put,if_neg (by simp),show br0.key=5 from rfl,if_pos (by rw[b_f0];simp)]
theorem b_dec:decB [bk1] bS=(0,br0):=(ecB_back b_enc).1
theorem b_ver:verB bS=(0,1):=(ecB_back b_enc).2.1
theorem b_get:fgetX bS=(0,bP++bV1):=by
 rw[←b_sig]
 exact getX_putF (by decide)
theorem b_dec2:decB [bk2] bS=(11,zeroR):=by
 rw[decB,if_neg (by rw[b_is2];decide),b_get]
 simp only
 rw[if_neg (by simp), ←b_bd,told_body (by rw[b_put]) (show findE [bk2] br0.key=0 from b_f2) _ rfl,if_pos]
 rw[show br0.key=5 from rfl,b_k2,b_bd,b_t2]
 decide
theorem b_dec0:decB [] bS=(10,zeroR):=by
 rw[decB,if_neg (by rw[b_is0];decide),b_get]
 simp only
 obtain⟨e1,e2⟩:=rest_app bP bV1 rfl
 obtain⟨g1,g2⟩:=got_body (r:=br0) (by rw[b_put])
 rw[b_bd]at g1
 rw[if_neg (by simp),toldB,if_neg (by decide),e1,g1]
 simp only
 rw[if_neg (by simp),g2]
 simp only
 rw[if_neg (by simp),show br0.key=5 from rfl,if_pos (by rw[b_f0];simp)]
theorem b_g9:fgetX [48,48]=(0,[0]):=by kernel_rfl
theorem b_dec9:decB [bk1] [48,48]=(14,zeroR):=by
 rw[decB,if_neg (by rw[b_is1];decide),b_g9]
 simp only
 rw[if_neg (by simp),toldB,if_pos (by decide)]
end Go.Proofs.YtcnglbliidjnfaaGreatDoor
end
section
namespace Go.Proofs.YtcnglbliidjnfaaGreatDoor
set_option linter.unusedVariables false
open Go.ChangeShapes Go.WideShapes Go.ChangeAt Go.RowKit
theorem run_storeVar_cell {P : Program} (w : World) (b o : Nat) (ty : TypeId) (v : Value) (h1 : v.oneCell' = true) (hc : (w.cell? ⟨b, o, none⟩).isSome = true) (hf : w.frozen? ⟨b, o, none⟩ = false) (hi : (P.info? ty).map (·.size) = some 1) :
    (storeVar ty ⟨b, o, none⟩ v).run P w = .ok () (w.setCell ⟨b, o, none⟩ v) := by
  have := run_storeCells_cells (P := P) b o [v] 0 w (fun j hj => by have : j = 0 := by simpa using hj
                                                                    subst this; simpa using hc) (fun j hj => by have : j = 0 := by simpa using hj
                                                                                                                subst this; simpa using hf) (fun x hx => by simp at hx; subst hx; exact h1)
  have he : v.cells = #[v] := by cases v <;> first | rfl | cases h1
  cases hq : P.info? ty with
  | none => simp [hq] at hi
  | some i =>
    have hs : i.size = 1 := by simpa [hq] using hi
    simp only [Nat.add_zero] at this
    simp [storeVar, sizeOf, typeInfo, hq, he, hs, this]
    rfl
theorem wpList_store_cell {P:Program} {ops:Array Oper} {rest:List Oper} {op:Oper} {a:Act} {w:World} {Q:Exit→Act→World→Prop} (hgd:op.guard=none) (ty:TypeId) (x y:Operand) (ho:op.op= .store ty x y)
  (b o:Nat) (v:Value) (hx:a.eval x= .pointer (some ⟨b,o,none⟩)) (hy:a.eval y=v) (h1:v.oneCell'=true)
  (hc:(w.cell? ⟨b,o,none⟩).isSome=true) (hf:w.frozen? ⟨b,o,none⟩=false) (hi:(P.info? ty).map (·.size)=some 1)
  (h: ∀w',Hid (w'=w.setCell ⟨b,o,none⟩ v)→wpList P ops Q rest (a.put op.dst undef) w'):wpList P ops Q (op::rest) a w:=
 wpList_plain hgd fun _ hK=>by
  unfold Oper.wp execOp
  simp only[ho,hx,hy,Instr.storeAt,Instr.sureAddr,Sem.run_bind,Sem.run_pure,Result.andThen_ok,run_storeVar_cell w b o ty v h1 hc hf hi]
  exact hK _ _ (h _ (Lib.hid rfl))
theorem results_row {P:Program} {fn:Func} {p:Tmp} {ty:TypeId} (h:fn.results= #[.cell p ty]) (tmps:Array Value) (w:World) (g:Nat) (t:TypeId) (cs:Array Value) (fr:Nat × Nat) (d:TypeDesc)
  (hp:tmps.getD p undef= .pointer (some ⟨g,0,none⟩)) (hg:w.heap[g]?=some (.cells cs t fr))
  (hu:P.underlying ty=some d) (hd:(match d with| .struct _| .array _ _=>true|_=>false)=true) (hi:(P.info? ty).map (·.size)=some cs.size):
  (results fn tmps).run P w= .ok (.agg cs) w:=by
 have hp':tmps[p]?.getD undef= .pointer (some ⟨g,0,none⟩):=by simpa using hp
 simp[results,h,hp',asAddr,run_loadVar_row w g t ty cs fr d hg hu hd hi]
theorem results_row_tmp' {P:Program} {fn:Func} {p u:Tmp} {ty:TypeId} (h:fn.results= #[.cell p ty, .tmp u]) (tmps:Array Value) (w:World) (g:Nat) (t:TypeId) (cs:Array Value) (fr:Nat × Nat) (d:TypeDesc)
  (hp:tmps.getD p undef= .pointer (some ⟨g,0,none⟩)) (hg:w.heap[g]?=some (.cells cs t fr))
  (hu:P.underlying ty=some d) (hd:(match d with| .struct _| .array _ _=>true|_=>false)=true) (hi:(P.info? ty).map (·.size)=some cs.size):
  (results fn tmps).run P w= .ok (.tuple #[.agg cs,tmps.getD u undef]) w:=by
 have hp':tmps[p]?.getD undef= .pointer (some ⟨g,0,none⟩):=by simpa using hp
 simp[results,h,hp',asAddr,run_loadVar_row w g t ty cs fr d hg hu hd hi]
theorem grown_cell (W:World) (b o:Nat) (v:Value):W.grownBy (W.setCell ⟨b,o,none⟩ v) (some b):=
 ⟨rfl,rfl,rfl,by simp,fun k _ hk=>Below.heap_setCell W _ v k (fun e=>hk (by rw[e]))⟩
theorem grown_row (W:World) (b:Nat) (c:Array Value):W.grownBy (W.setRow b c) (some b):=
 ⟨rfl,rfl,rfl,by simp,fun k _ hk=>setRow_other W b k c (fun e=>hk (by rw[e]))⟩
end Go.Proofs.YtcnglbliidjnfaaGreatDoor
end
section
namespace Go.Proofs.YtcnglbliidjnfaaGreatDoor
set_option linter.unusedVariables false
open Go.ChangeShapes Go.WideShapes Go.ChangeAt Go.RowKit
theorem Bs.part {w:World} {s:List Nat} {A:Option Addr} {c:Nat} (h:Bs w w.heap.size s A c):Part.ok w ⟨A,s,c⟩:=⟨h.rd,h.nil⟩
theorem concat2 (a b L:List Nat) (hL:a++b=L) (n m k:Nat) (hn:n=a.length) (hm:m=b.length) (hk:k=L.length) (A B:Option Addr) (c d:Nat) (w:World) (ha:Rd w w.heap.size A (U8 a)) (hb:Rd w w.heap.size B (U8 b)) (hnA:A=none→c=0) (hnB:B=none→d=0) (hla: ∀x∈a,x<256) (hlb: ∀x∈b,x<256) (h0:0<k) (h1:k≤140737488355328):
  Calls Tryz.prog 28 #[.slice (some ⟨w.heap.size,0,none⟩) 2 2] (w.alloc (.cells #[.slice A n c, .slice B m d] 30)) fun e w'=> ∃A' c',e= .returned (.slice A' k c')∧Bs w' w'.heap.size L A' c'∧Below w.heap.size w w':=by
 subst hL hk
 have hf:a++b=cflat [⟨A,a,c⟩,⟨B,b,d⟩]:=by simp[cflat]
 have hbl:=below_lit w #[.slice A n c, .slice B m d] 30
 rw[hf]at h0 h1⊢
 refine(concat_any [⟨A,a,c⟩,⟨B,b,d⟩] w.heap.size 2 2 _ rfl (by simp) (parts_lit (by simp[Part.val,hn,hm])) ?_ (by omega) h0 h1).mono ?_
 ·intro p hp
  refine Part.ok_alloc ?_ _
  simp only[List.mem_cons,List.not_mem_nil,or_false]at hp
  rcases hp with rfl|rfl
  ·exact⟨ha,hnA⟩
  ·exact⟨hb,hnB⟩
 ·rintro e w' ⟨v,rfl,hown,hbw⟩
  rw[←hf]at hown⊢
  obtain⟨A',c',rfl,hs⟩:=bs_of_own hown (fun x hx=>by
   rcases List.mem_append.1 hx with h|h
   ·exact hla x h
   ·exact hlb x h)
  exact⟨A',c',rfl,hs,hbl.trans (hbw.mono hbl.size)⟩
end Go.Proofs.YtcnglbliidjnfaaGreatDoor
end
section
namespace Go.Proofs.YtcnglbliidjnfaaGreatDoor
set_option maxRecDepth 100000
set_option linter.unusedVariables false
open Go.ChangeShapes Go.WideShapes Go.ChangeAt Go.RowKit
def b64:Array Value:= #[.int .u8 0, .int .u8 0, .int .u8 0, .int .u8 0, .int .u8 0, .int .u8 0, .int .u8 0, .int .u8 0, .int .u8 0, .int .u8 0, .int .u8 0, .int .u8 0, .int .u8 0, .int .u8 0, .int .u8 0, .int .u8 0, .int .u8 0, .int .u8 0, .int .u8 0, .int .u8 0, .int .u8 0, .int .u8 0, .int .u8 0, .int .u8 0, .int .u8 0, .int .u8 0, .int .u8 0, .int .u8 0, .int .u8 0, .int .u8 0, .int .u8 0, .int .u8 0, .int .u8 0, .int .u8 0, .int .u8 0, .int .u8 0, .int .u8 0, .int .u8 0, .int .u8 0, .int .u8 0, .int .u8 0, .int .u8 0, .int .u8 0, .int .u8 0, .int .u8 0, .int .u8 0, .int .u8 0, .int .u8 0, .int .u8 0, .int .u8 0, .int .u8 0, .int .u8 0, .int .u8 0, .int .u8 0, .int .u8 0, .int .u8 0, .int .u8 0, .int .u8 0, .int .u8 0, .int .u8 0, .int .u8 0, .int .u8 0, .int .u8 0, .int .u8 0]
theorem b64_eq:b64=(U8 (List.replicate 64 0)).toArray:=rfl
theorem info64:(Tryz.prog.info? 112).map (·.size)=some 64:=by kernel_rfl
theorem U8_getD (l:List Nat) (k:Nat) (h:k<l.length):(U8 l)[k]?=some (.int .u8 ((l.getD k 0:Nat):Int)):=by
 rw[U8_at l k h,List.getD_eq_getElem?_getD,List.getElem?_eq_getElem h];rfl
theorem cell_u8 {w:World} {g:Nat} {l:List Nat} {t:TypeId} (h:w.heap[g]?=some (.cells (U8 l).toArray t (0,0))) (k:Nat) (hk:k<l.length):w.cell? ⟨g,k,none⟩=some (.int .u8 ((l.getD k 0:Nat):Int)):=by
 rw[cell_of_row w g k _ _ (0,0) h,List.getElem?_toArray,U8_getD l k hk]
set_option maxRecDepth 100000 in
set_option maxHeartbeats 800000 in
theorem masked_any (K:List Nat) (m:Nat) (w:World) (hK: ∀x∈K,x<256) (hl:K.length=64) (hm:m<256):
  Calls Tryz.prog 92 #[.agg (U8 K).toArray, .int .u8 m] w fun e w'=>e= .returned (.agg (U8 (maskN K m)).toArray)∧Below w.heap.size w w':=by
 obtain⟨X,hX⟩: ∃X:Array Value,X=(U8 K).toArray:=⟨_,rfl⟩
 obtain⟨w0,hw0⟩: ∃w0:World,w0=(w.alloc (.cells X 112)).alloc (.cells b64 112):=⟨_,rfl⟩
 rw[←hX]
 obtain⟨hs0,hx0,hr0,hb0⟩:=two_made hw0
 rw[hX]at hx0
 have HX0:=Lib.hid hx0
 have HR0:=Lib.hid hr0
 have HK:=Lib.hid hK
 have HL:=Lib.hid hl
 have HW:=Lib.hid hw0
 have HS:=Lib.hid hs0
 clear hX hw0 hx0 hr0 hK hl hs0
 go_enter Tryz.func92, Tryz.ntmps92
 go_wp2_with fail
 have e0:(w.alloc (.cells X 112)).alloc (.cells b64 112)=w0:=HW.out.symm
 unfold b64 at e0
 rw[e0]
 clear e0
 go_loopw [5,6] (fun _ i wr=> ∃k:Nat,k≤64∧i= .int .i64 k∧wr.heap[w.heap.size]?=some (.cells (U8 (maskTo K m k)).toArray 112 (0,0))∧wr.heap[w.heap.size+1]?=some (.cells b64 112 (0,0))∧Below w.heap.size w wr) (fun _ i _=>64 - (intOf i).toNat)
 case atStart=>exact⟨0,Nat.zero_le _,rfl,by rw[maskTo_zero];exact HX0.out,HR0.out,hb0⟩
 case round=>
  obtain⟨k,hk,rfl,hv,hr,hbel⟩:=hrel
  by_cases hlt:k<64
  ·have hkl:k<K.length:=by rw[HL.out];exact hlt
   have hfz:=frozen_of_row wr _ k _ _ hv
   have hcur:=cell_u8 hv k (by rw[length_maskTo];exact hkl)
   rw[maskTo_get]at hcur
   have hset:=heap_setCell_same wr _ k _ 112 (.int .u8 ((K.getD k 0^^^m:Nat):Int)) hv
   have hst:(U8 (maskTo K m k)).toArray.setIfInBounds k (.int .u8 ((K.getD k 0^^^m:Nat):Int))=(U8 (maskTo K m (k+1))).toArray:=by
    rw[List.setIfInBounds_toArray, ←maskTo_set K m k hkl,U8,U8,List.map_set]
   rw[hst]at hset
   have HSET:=Lib.hid hset
   have HR:=Lib.hid ((heap_setCell_other wr ⟨w.heap.size,k,none⟩ (w.heap.size+1) (.int .u8 ((K.getD k 0^^^m:Nat):Int)) (by show w.heap.size+1≠w.heap.size;omega)).trans hr)
   have hx8:=getD_lt8 HK.out k
   have hxor:=u8_xor_nat (K.getD k 0) m hx8 hm
   have bk0:(0:Int)≤(k:Int):=Int.natCast_nonneg _
   have bk1:(k:Int)<64:=by omega
   clear hset hst hv hr
   generalize K.getD k 0=y at*
   go_wp2
   go_roundw
   case rel=>exact⟨k+1,by omega,by go_num,HSET.out,HR.out,hbel.setCell (Nat.le_refl _) _⟩
   case measure=>simp[intOf];omega
  ·have k64:k=64:=by omega
   subst k64
   have hall:maskTo K m 64=maskN K m:=by rw[←HL.out];exact maskTo_all K m
   rw[hall]at hv
   obtain⟨F,hF⟩: ∃F:Array Value,F=(U8 (maskN K m)).toArray:=⟨_,rfl⟩
   rw[←hF]at hv
   have hsz:F.size=64:=by rw[hF];simp[U8,length_maskN,HL.out]
   have hin:(Tryz.prog.info? 112).map (·.size)=some F.size:=by rw[hsz];exact info64
   have hone:F.all (·.oneCell')=true:=by rw[hF];exact all_one8 _
   have HF:=Lib.hid hF
   have HV:=Lib.hid hv
   have HR:=Lib.hid hr
   have HSZ:=Lib.hid hsz
   have HIN:=Lib.hid hin
   have HONE:=Lib.hid hone
   clear hF hv hr hsz hin hone hall
   go_wp2_with (first
    |((with_reducible refine at_load 16 ?_);refine wpList_load_row (o:=⟨some 16, .load 112 (.tmp 2),_,_,_,_⟩) rfl 112 (.tmp 2) rfl w.heap.size rfl 112 F (0,0) _ HV.out Tryz.underlying112 rfl HIN.out ?_)
    |((with_reducible refine at_store 4 ?_);refine wpList_store_named (o:=⟨none, .store 112 (.tmp 4) (.tmp 16),_,_,_,_⟩) rfl 112 (.tmp 4) (.tmp 16) rfl (w.heap.size+1) F rfl rfl 112 b64 HR.out HIN.out HSZ.out.symm HONE.out ?_;intro w1 hw1))
   have hr1:w1.heap[w.heap.size+1]?=some (.cells F 112 (0,0)):=by rw[hw1.out];exact setRow_heap _ _ _ _ _ _ HR.out
   refine bodyPost_ret (results_cell_row Tryz.results92 _ w1 (w.heap.size+1) 112 _ (0,0) _ rfl hr1 Tryz.underlying112 rfl HIN.out) rfl ⟨by rw[HF.out], ?_⟩
   exact hbel.trans (below_row hw1.out (by omega))
end Go.Proofs.YtcnglbliidjnfaaGreatDoor
end
section
namespace Go.Proofs.YtcnglbliidjnfaaGreatDoor
set_option linter.unusedVariables false
open Go.ChangeShapes Go.WideShapes Go.ChangeAt Go.RowKit
theorem Tryz.own:ownKnob Tryz.prog.godebug=none:=by kernel_rfl
theorem Tryz.laidOut:laidOutB Tryz.prog=true:=by kernel_rfl
theorem Tryz.cellsU8: Tryz.prog.cellsOf 5 =1:=by kernel_rfl
theorem Tryz.cellsU32: Tryz.prog.cellsOf 138 =1:=by kernel_rfl
section
variable {H:Type} {enc:TypeId × Value→H} {P:Program}
theorem trodAll_kept (hl:laidOutB P=true) {W W':World} (hb:Below W.heap.size W W'): ∀ {ts:List TypeId} {vs:List Value} {ds:List (DataW H)} {ps:List MemPlace},
  ts.all (fun t=>P.readableRec t&&decide (t<P.types.size))=true→(∀x∈ps,x.block<W.heap.size)→
  DataW.TrodAll enc P W 0 (fun _=>true) true ts vs ds ps→DataW.TrodAll enc P W' 0 (fun b=>decide (b<W.heap.size)) true ts vs ds ps
 |[],[],[],_,_,_,h=>h
 |[],_::_,_,_,_,_,h=>h.elim
 |[],[],_::_,_,_,_,h=>h.elim
 |_::_,[],_,_,_,_,h=>h.elim
 |_::_,_::_,[],_,_,_,h=>h.elim
 |t::ts,v::vs,d::ds,ps,hr,hlt,h=>by
  obtain⟨p,q,hp,hq,rfl⟩:=h
  simp only[List.all_cons,Bool.and_eq_true,decide_eq_true_eq]at hr
  exact⟨p,q,Below.trod hl hr.1.1 hr.1.2 hp hb (fun x hx=>hlt x (by simp[hx])),trodAll_kept hl hb (by simpa using hr.2) (fun x hx=>hlt x (by simp[hx])) hq,rfl⟩
theorem law_post (hl:laidOutB P=true) {fn:Func} {s:ChangeSpec} {W W':World} {args:Array Value} {ds gs:List (DataW H)} {before:List MemPlace} {b:TypeId} (hb4:P.underlying b=some .bool)
  (hW:DataW.Whole enc P fn.params.toList s.vars false W args.toList ds gs before) (hv:s.vars=[]) (hr:fn.resultTypes= #[b])
  (hp:fn.params.toList.all (fun t=>P.readableRec t&&decide (t<P.types.size))=true)
  (hf:s.fn H ds= { results:=[.lit (.bool true)],args:=ds }) (hb:Below W.heap.size W W'):
  s.post enc P fn false true false false W args (.bool true) W':=by
 have hlt:=hW.lt
 have hW':=hW
 obtain⟨p,q,hA,hV,rfl,_,_⟩:=hW'
 have hV':=hV
 rw[hv]at hV'
 obtain⟨rfl,rfl⟩:=trodVars_none hV'
 refine⟨ds,[],p++ [],[],p,[],hW, ?_, ?_, ?_,hb.frame _,fun h=>by cases h⟩
 ·rw[List.append_nil,hf,hr]
  exact trodAll_cons_mk (shut_bool hb4 _) trodAll_mk0
 ·rw[List.append_nil,hf]
  exact trodAll_kept hl hb hp (fun x hx=>by simpa using hlt x (by simp[hx])) hA
 ·rw[List.append_nil,hf,hv]
  rfl
theorem lt_of_cell {w:World} {a:Addr} {u:Value} (h:w.cell? a=some u):a.block<w.heap.size:=by
 rcases Nat.lt_or_ge a.block w.heap.size with hlt|hge
 ·exact hlt
 ·rw[World.cell?,Array.getElem?_eq_none hge]at h
  simp at h
end
theorem wf_u8 (z:Int) (h:(Lit.int .u8 z).wf=true):0≤z∧z<(256:Nat):=by
 simp[Lit.wf,IntKind.min,IntKind.max,IntKind.signed,IntKind.bits]at h;omega
theorem wf_i64 (z:Int) (h:(Lit.int .i64 z).wf=true): -9223372036854775808≤z∧z≤9223372036854775807:=by
 simp[Lit.wf,IntKind.min,IntKind.max,IntKind.signed,IntKind.bits]at h;omega
end Go.Proofs.YtcnglbliidjnfaaGreatDoor
end
section
namespace Go.Proofs.YtcnglbliidjnfaaGreatDoor
set_option linter.unusedVariables false
open Go.ChangeShapes Go.WideShapes Go.ChangeAt Go.RowKit
theorem sum_len (l:List Nat) (n:Nat) (hn:n=l.length) (A:Option Addr) (c:Nat) (w:World) (hT:Tabs w) (hA:Rd w w.heap.size A (U8 l)) (hnil:A=none→c=0) (hb: ∀x∈l,x<256) (hl:n≤5000):
  Calls Tryz.prog 93 #[.slice A n c] w fun e w'=>e= .returned (.agg (U8 (digestN l)).toArray)∧Below w.heap.size w w':=by
 subst hn
 exact sum_ok l A c w hT hA hnil hb hl
theorem sizeRunU8 (w:World):(sizeOf 5).run Tryz.prog w= .ok 1 w:=by kernel_rfl
end Go.Proofs.YtcnglbliidjnfaaGreatDoor
end
section
namespace Go.Proofs.YtcnglbliidjnfaaGreatDoor
set_option linter.unusedVariables false
open Go.ChangeShapes Go.WideShapes Go.ChangeAt Go.RowKit
theorem same_eq (l:List Nat) (A A':Option Addr) (c c' B:Nat) (w:World) (hA:Rd w B A (U8 l)) (hA':Rd w B A' (U8 l)) (hl:l.length≤maxLen):
  Calls Tryz.prog 14 #[.slice A l.length c, .slice A' l.length c'] w fun e w'=>e= .returned (.bool true)∧Below w.heap.size w w':=by
 unfold maxLen at hl
 obtain⟨n,hn⟩: ∃n,n=l.length:=⟨_,rfl⟩
 have HN:=Lib.hid hn
 rw[←hn]at hl⊢
 clear hn
 go_enter Tryz.func14, Tryz.ntmps14
 go_wp2
 go_loopw [5] (fun i wr=> ∃k d:Nat,k≤n∧i= .int .i64 k∧wr=w.drewN d) (fun i _=>n - (intOf i).toNat)
 case atStart=>exact⟨0,0,Nat.zero_le _,rfl,rfl⟩
 case round=>
  obtain⟨k,d,hk,rfl,rfl⟩:=hrel
  by_cases hlt:k<n
  ·obtain⟨ad,rfl,_,hc⟩:=hA k _ (U8_at l k (by rw[←HN.out];exact hlt))
   obtain⟨ad',rfl,_,hc'⟩:=hA' k _ (U8_at l k (by rw[←HN.out];exact hlt))
   clear hA hA'
   have b1:(0:Int)≤(k:Int):=by omega
   have b2:(k:Int)<(n:Int):=by omega
   generalize l[k]=x at hc hc'
   go_wp2
   go_quiet (fail)
   go_wp2
   go_roundw
   case rel=>exact⟨k+1,_,by omega,by go_num,rfl⟩
   case measure=>simp[intOf];omega
  ·go_wp2
   go_ret
   exact⟨rfl,below_drewN (Below.refl _ _) _⟩
end Go.Proofs.YtcnglbliidjnfaaGreatDoor
end
section
namespace Go.Proofs.YtcnglbliidjnfaaGreatDoor
set_option maxRecDepth 100000
set_option linter.unusedVariables false
open Go.ChangeShapes Go.WideShapes Go.ChangeAt Go.RowKit
theorem valB_step (l:List Nat) (k j:Nat) (hj:j<4) (h:4*k+4≤l.length):valB ((l.drop (4*k)).take (j+1))=valB ((l.drop (4*k)).take j)*256+l[4*k+j]:=by
 rw[List.take_succ_eq_append_getElem (by simp;omega),valB_snoc]
 simp
theorem valB_room (l:List Nat) (hl: ∀x∈l,x<256) (k j:Nat) (hj:j<4):valB ((l.drop (4*k)).take j)<16777216:=by
 have h:=valB_lt ((l.drop (4*k)).take j) (fun x hx=>hl x (List.mem_of_mem_drop (List.mem_of_mem_take hx)))
 have h2:256^((l.drop (4*k)).take j).length≤256^3:=Nat.pow_le_pow_right (by omega) (by simp;omega)
 omega
theorem wordAt_whole (l:List Nat) (k:Nat):wordAt l l.length k=valB ((l.drop (4*k)).take 4):=by
 unfold wordAt;rw[List.take_length]
theorem refwords_ok (l:List Nat) (A:Option Addr) (c:Nat) (w:World) (hA:Rd w w.heap.size A (U8 l)) (hb: ∀x∈l,x<256) (hl:l.length≤4000) (h4:l.length % 4=0):
  Calls Tryz.prog 118 #[.slice A l.length c] w fun e w'=> ∃v,e= .returned (.tuple #[v, .int .i64 0])∧
   w'.ownsRow w.heap.size 138 1 v (l.length / 4) (U32 (wordsOf l))∧Below w.heap.size w w':=by
 obtain⟨i0,hi,hz0,hz1,hz2⟩:=info_parts infoU32
 obtain⟨n,hn⟩: ∃n,n=l.length:=⟨_,rfl⟩
 rw[←hn]at hl h4⊢
 obtain⟨m,hm⟩: ∃m,m=n / 4:=⟨_,rfl⟩
 have HN:=Lib.hid hn
 have HM:=Lib.hid hm
 have HB:=Lib.hid hb
 have hmn:4*m≤n:=by omega
 have hnm:n≤4*m:=by omega
 rw[←hm]
 clear hn hm hb
 have hb4:((n:Int) % 4 !=0)=false:=by simp;omega
 go_enter Tryz.func118, Tryz.ntmps118
 go_wp2
 go_loopw [4,5] (fun v i wr=> ∃k:Nat,k≤m∧i= .int .i64 (4*k:Nat)∧wr.ownsRow w.heap.size 138 1 v k (U32 (wordsUpto l k n))∧Below w.heap.size w wr) (fun _ i _=>n - (intOf i).toNat)
 case atStart=>exact⟨0,Nat.zero_le _,rfl,World.ownsRow_lit w #[] 0 (Nat.le_refl _) (by decide) rfl,(Below.refl _ _).alloc (Nat.le_refl _) _⟩
 case round=>
  obtain⟨k,hk,rfl,hown,hbel⟩:=hrel
  by_cases hlt:k<m
  ·have hkn:4*k+4≤n:=by omega
   go_wp2
   go_loop [6,7] (fun x t=> ∃j:Nat,j≤4∧t= .int .i64 j∧x= .int .u32 (valB ((l.drop (4*k)).take j):Nat)) (fun _ t=>4 - (intOf t).toNat)
   case atStart=>exact⟨0,Nat.zero_le _,rfl,rfl⟩
   case round=>
    obtain⟨j,hj,rfl,rfl⟩:=hrel
    by_cases hj4:j<4
    ·have hkl:4*k+j<l.length:=by rw[←HN.out];omega
     obtain⟨ad,rfl,hab,hc0⟩:=hA (4*k+j) _ (U8_at l (4*k+j) hkl)
     have hc:wr.cell? (ad.add (4*k+j))=some (.int .u8 (l[4*k+j]:Nat)):=(hbel.cell (by rw[add_block];exact hab)).trans hc0
     have hx:=HB.out _ (List.getElem_mem hkl)
     have hy:=valB_room l HB.out k j hj4
     have hs:=valB_step l k j hj4 (by rw[←HN.out];exact hkn)
     generalize l[4*k+j]=x at*
     generalize valB ((l.drop (4*k)).take j)=y at*
     have HS:=Lib.hid hs
     clear hs hc0 hA
     go_wp2
     go_round
     case rel=>exact⟨j+1,by omega,by go_num,by rw[HS.out];go_num⟩
     case measure=>simp[intOf];omega
    ·have e4:j=4:=by omega
     subst e4
     obtain⟨y,hy⟩: ∃y,y=valB ((l.drop (4*k)).take 4):=⟨_,rfl⟩
     have HY:=Lib.hid hy
     rw[←hy]
     clear hy
     go_wp2_with (at_builtin;refine wpList_append_own _ rfl _ _ 145 rfl w.heap.size 138 i0 (.int .u32 0) 1 4 Tryz.underlying145 hi hz0 hz1 hz2 rfl (by decide) _ _ _ rfl (hown.alloc _) ⟨wr.heap.size,0,none⟩ 1 1 [.int .u32 (y:Int)] rfl rfl ?c1 ?c2 ?c3 ?c4 ?c5 ?_)
     case c2=>first|rfl|(intro u hu;simp at hu;subst hu;rfl)
     case c3=>unfold maxLen;omega
     case c4=>omega
     case c5=>have:=hbel.size;simp;omega
     intro v' w1 hown' hgrow _
     have hbel1:Below w.heap.size w w1:=(hbel.alloc hbel.size _).grown hgrow (by have:=hbel.size;simp;omega) (fun g hg=>own_ge hown hg)
     have hown1:w1.ownsRow w.heap.size 138 1 v' (k+1) (U32 (wordsUpto l (k+1) n)):=by
      rw[wordsUpto_succ,U32,List.map_append]
      rw[HN.out,wordAt_whole, ←HY.out, ←HN.out]
      exact hown'
     clear hown' hgrow hown hbel
     go_wp2
     go_roundw
     case rel=>exact⟨k+1,by omega,by go_num,hown1,hbel1⟩
     case measure=>simp[intOf];omega
  ·have e:wordsUpto l k n=wordsOf l:=by
    have e1:k=m:=by omega
    rw[e1,HM.out,HN.out];rfl
   have ek:k=m:=by omega
   rw[e,ek]at hown
   have HO:=Lib.hid hown
   clear e ek hown
   go_wp2
   go_ret2
   exact⟨_,rfl,HO.out,hbel⟩
end Go.Proofs.YtcnglbliidjnfaaGreatDoor
end
section
namespace Go.Proofs.YtcnglbliidjnfaaGreatDoor
set_option maxRecDepth 100000
set_option linter.unusedVariables false
open Go.ChangeShapes Go.WideShapes Go.ChangeAt Go.RowKit
theorem quarters (x:Nat) (hx:x<4294967296):U8 [x / 16777216,x / 65536 % 256,x / 256 % 256,x % 256]=
  [.int .u8 (IntKind.u8.wrap (IntKind.u32.wrap ((x:Int) / 16777216))), .int .u8 (IntKind.u8.wrap ((IntKind.u32.wrap ((x:Int) / 65536)).tmod 256)), .int .u8 (IntKind.u8.wrap ((IntKind.u32.wrap ((x:Int) / 256)).tmod 256)), .int .u8 (IntKind.u8.wrap ((x:Int).tmod 256))]:=by
 have w32: ∀z:Int,0≤z→z<4294967296→IntKind.u32.wrap z=z:=fun z h1 h2=>by
  simp[IntKind.wrap,IntKind.signed,IntKind.bits];omega
 have w8: ∀z:Int,0≤z→z<256→IntKind.u8.wrap z=z:=fun z h1 h2=>by
  simp[IntKind.wrap,IntKind.signed,IntKind.bits];omega
 rw[w32 ((x:Int) / 16777216) (by omega) (by omega),w32 ((x:Int) / 65536) (by omega) (by omega),w32 ((x:Int) / 256) (by omega) (by omega)]
 rw[Int.tmod_eq_emod_of_nonneg (by omega:(0:Int)≤(x:Int) / 65536),Int.tmod_eq_emod_of_nonneg (by omega:(0:Int)≤(x:Int) / 256),Int.tmod_eq_emod_of_nonneg (by omega:(0:Int)≤(x:Int))]
 rw[w8 ((x:Int) / 16777216) (by omega) (by omega),w8 ((x:Int) / 65536 % 256) (by omega) (by omega),w8 ((x:Int) / 256 % 256) (by omega) (by omega),w8 ((x:Int) % 256) (by omega) (by omega)]
 simp[U8]
set_option maxRecDepth 100000 in
set_option maxHeartbeats 1600000 in
theorem refbytes_ok (l : List Nat) (A : Option Addr) (c : Nat) (w : World) (hA : Rd w w.heap.size A (U32 l)) (hb : ∀ x ∈ l, x < 4294967296) (hl : l.length ≤ 1000) :
    Calls Tryz.prog 120 #[.slice A l.length c] w fun e w' => ∃ v, e = .returned v ∧
      w'.ownsRow w.heap.size 5 1 v (4 * l.length) (U8 (bytesOf l)) ∧ Below w.heap.size w w' := by
  obtain ⟨i0, hi, hz0, hz1, hz2⟩ := info_parts infoU8
  obtain ⟨n, hn⟩ : ∃ n, n = l.length := ⟨_, rfl⟩
  rw [← hn] at hl ⊢
  have HN := Lib.hid hn
  have HB := Lib.hid hb
  clear hn hb
  go_enter Tryz.func120, Tryz.ntmps120
  go_wp2
  go_loopw [3, 4] (fun v i wr => ∃ k : Nat, k ≤ n ∧ i = .int .i64 k ∧ wr.ownsRow w.heap.size 5 1 v (4 * k) (U8 (bytesTo l k)) ∧ Below w.heap.size w wr) (fun _ i _ => n - (intOf i).toNat)
  case atStart => exact ⟨0, Nat.zero_le _, rfl, World.ownsRow_lit w #[] 0 (Nat.le_refl _) (by decide) rfl, (Below.refl _ _).alloc (Nat.le_refl _) _⟩
  case round =>
    obtain ⟨k, hk, rfl, hown, hbel⟩ := hrel
    by_cases hlt : k < n
    · have hkl : k < l.length := by rw [← HN.out]; exact hlt
      obtain ⟨ad, rfl, hab, hc0⟩ := hA k _ (U32_at l k hkl)
      have hc : wr.cell? (ad.add k) = some (.int .u32 (l[k] : Nat)) := (hbel.cell (by rw [add_block]; exact hab)).trans hc0
      have hx := HB.out _ (List.getElem_mem hkl)
      have hs := bytesTo_succ l k hkl HB.out
      generalize l[k] = x at *
      have HS := Lib.hid hs
      clear hs hc0 hA
      have hbs := hbel.size
      have b0 : (0 : Int) ≤ (k : Int) := Int.natCast_nonneg _
      have b1 : (k : Int) < (n : Int) := by omega
      have lk := World.block_lt_of_cell? wr _ hc
      obtain ⟨v, hv⟩ : ∃ v, v = u3 := ⟨_, rfl⟩
      rw [← hv] at hown ⊢
      clear hv
      have hge : ∀ g, v.ownBlock = some g → w.heap.size ≤ g := fun g hg => own_ge hown hg
      have hne : v.ownBlock ≠ some (ad.add k).block := by
        intro e
        have := hge _ e
        rw [add_block] at this
        omega
      have HGE := Lib.hid hge
      clear hge
      go_wp2
      go_region_held3 (fun w' => w'.cell? (ad.add k) = some (.int .u32 (x : Nat)))
        (first | go_keep | (rw [hgrow.cell_far _ (by simp; omega) (Ne.symm hne)]; assumption))
        ((refine step_append_lies _ (by rfl) _ _ _ (by rfl) w.heap.size 5 i0 _ 1 1 Tryz.underlying30 hi hz0 hz1 hz2 rfl (by omega) v (4 * k) (U8 (bytesTo l k)) (by rfl) ((hown.alloc _).drew)
            ⟨wr.heap.size, 0, none⟩ 4 4 [.int .u8 (IntKind.u8.wrap (IntKind.u32.wrap ((x : Int) / 16777216))), .int .u8 (IntKind.u8.wrap ((IntKind.u32.wrap ((x : Int) / 65536)).tmod 256)), .int .u8 (IntKind.u8.wrap ((IntKind.u32.wrap ((x : Int) / 256)).tmod 256)), .int .u8 (IntKind.u8.wrap ((x : Int).tmod 256))] (by rfl) (by rfl)
            (World.news_of_block (cs := #[.int .u8 (IntKind.u8.wrap (IntKind.u32.wrap ((x : Int) / 16777216))), .int .u8 (IntKind.u8.wrap ((IntKind.u32.wrap ((x : Int) / 65536)).tmod 256)), .int .u8 (IntKind.u8.wrap ((IntKind.u32.wrap ((x : Int) / 256)).tmod 256)), .int .u8 (IntKind.u8.wrap ((x : Int).tmod 256))]) (t := 5) (fr := (0, 0)) (heap_alloc_new wr _)) (by simp [Value.oneCell'])
            (by omega) (by unfold maxLen; omega) (by omega) (by simp; omega) (wr.heap.size + 1) (by simp) ?_; intro gg cap w1 hown1 hgrow hat hlt1))
      have hbel1 : Below w.heap.size w w1 := ((hbel.alloc hbs _).drew).grown hgrow (by simp; omega) HGE.out
      have hown2 : w1.ownsRow w.heap.size 5 1 (.slice (some ⟨gg, 0, none⟩) (4 * k + 4) cap) (4 * (k + 1)) (U8 (bytesTo l (k + 1))) := by
        have e : U8 (bytesTo l (k + 1)) = U8 (bytesTo l k) ++ U8 [x / 16777216, x / 65536 % 256, x / 256 % 256, x % 256] := by
          rw [HS.out, U8, U8, U8, List.map_append]
        rw [e, quarters x hx]
        exact hown1
      clear hown1 hgrow hat hlt1 hown hbel hc hne
      go_wp2
      go_roundw
      case rel => exact ⟨k + 1, by omega, by go_num, hown2, hbel1⟩
      case measure => simp [intOf]; omega
    · have e : bytesTo l k = bytesOf l := by
        have e1 : k = l.length := by rw [← HN.out]; omega
        rw [e1]; rfl
      have ek : k = n := by omega
      rw [e, ek] at hown
      have HO := Lib.hid hown
      clear e ek hown
      go_wp2
      go_ret
      exact ⟨_, rfl, HO.out, hbel⟩
end Go.Proofs.YtcnglbliidjnfaaGreatDoor
end
