import Derived.Test.YtcnglbliidjnfaaGreatDoorShaPBlock
import Derived.Test.YtcnglbliidjnfaaGreatDoorMem
section
namespace Go.Proofs.YtcnglbliidjnfaaGreatDoor
set_option maxRecDepth 100000
set_option linter.unusedVariables false
open Go.ChangeShapes Go.WideShapes Go.ChangeAt Go.RowKit
def padB (n:Nat):List Nat:=128::(List.replicate (zerosN n) 0++putB (8*n) 8)
theorem padN_padB (l:List Nat):padN l=l++padB l.length:=rfl
theorem length_padB (n:Nat):(padB n).length=9+zerosN n:=by simp[padB,length_putB];omega
theorem parts_lit {w:World} {ps:List Part} {cs:Array Value} {t:TypeId} (h:cs=(ps.map Part.val).toArray): ∀i p,ps[i]?=some p→(w.alloc (.cells cs t)).cell? ⟨w.heap.size,i,none⟩=some p.val:=by
 intro i p hp
 rw[h,cell_of_row _ _ i _ t (0,0) (heap_alloc_new w _),List.getElem?_toArray,List.getElem?_map,hp];rfl
theorem Part.ok_alloc {w:World} {p:Part} (h:p.ok w) (o:Obj):p.ok (w.alloc o):=⟨(h.1.alloc (Nat.le_refl _) o).more (by simp),h.2⟩
set_option maxRecDepth 20000 in
theorem padding_any (n:Nat) (w:World) (hn:n≤140737488351232):
  Calls Tryz.prog 130 #[.int .i64 n] w fun e w'=> ∃v,e= .returned v∧w'.ownsRow w.heap.size 5 1 v (padB n).length (U8 (padB n))∧Below w.heap.size w w':=by
 obtain⟨i0,hi,hz0,hz1,hz2⟩:=info_parts infoU8
 go_enter Tryz.func130, Tryz.ntmps130
 go_wp2_with fail
 rw[show(8:Int)*(n:Int)=((8*n:Nat):Int) by omega]
 refine(put_ok (8*n) 8 _ (by omega) (by omega) (by omega)).mono ?_
 rintro e w1 ⟨g1,c1,rfl,hown1,hb1⟩
 have HOWN1:=Lib.hid hown1
 have hs1:=hb1.size
 have hz:zerosN n≤63:=by unfold zerosN;omega
 clear hown1
 go_wp2_with (at_make;refine wpList_make_full _ rfl (.tmp 21) (.tmp 21) 30 rfl w.heap.size 5 i0 (.int .u8 0) 1 Tryz.underlying30 hi hz0 hz1 _ _ _ _ (zerosN n) rfl rfl ?b0 ?b1 ?b2 ?b3 ?b4 ?_)
 case b0=>unfold zerosN;omega
 case b1=>unfold zerosN;omega
 case b2=>rw[hz2];omega
 case b3=>unfold maxLen;omega
 case b4=>simp;omega
 intro w2 hown2 hg2
 rw[toList_madeCells_one]at hown2
 have hb12:Below w1.heap.size w1 w2:=((Below.refl _ _).alloc (Nat.le_refl _) _).grown hg2 (by simp) (by simp)
 have h128:Rd w2 w2.heap.size (some ⟨w1.heap.size,0,none⟩) (U8 [128]):=by
  have h1:=rd_lit w1 #[.int .u8 128] 5
  have h2:Below (w1.alloc (.cells #[.int .u8 128] 5)).heap.size (w1.alloc (.cells #[.int .u8 128] 5)) w2:=(Below.refl _ _).grown hg2 (Nat.le_refl _) (by simp)
  exact h1.next h2
 have hsz2:w1.heap.size+1≤w2.heap.size:=by have:=hg2.size;simpa using this
 have hrd2:=Rd.of_own hown2
 have hrd1:=(Rd.of_own HOWN1.out).next hb12
 have H128:=Lib.hid h128
 have HR1:=Lib.hid hrd1
 have HR2:=Lib.hid hrd2
 have hb2:Below w.heap.size w w2:=hb1.trans (hb12.mono hs1)
 clear h128 hrd1 hrd2 hown2 hg2 hb12 hb1
 go_wp2_with fail
 have hfl:cflat [⟨some ⟨w1.heap.size,0,none⟩,[128],1⟩,⟨some ⟨w1.heap.size+1,0,none⟩,List.replicate (zerosN n) 0,zerosN n⟩,⟨some ⟨g1,0,none⟩,putB (8*n) 8,c1⟩]=padB n:=by simp[cflat,padB]
 refine(concat_any [⟨some ⟨w1.heap.size,0,none⟩,[128],1⟩,⟨some ⟨w1.heap.size+1,0,none⟩,List.replicate (zerosN n) 0,zerosN n⟩,⟨some ⟨g1,0,none⟩,putB (8*n) 8,c1⟩] w2.heap.size 3 3 _ rfl (by simp) (parts_lit (by simp[Part.val,length_putB])) ?_ (by omega) (by rw[hfl,length_padB];omega) (by rw[hfl,length_padB];omega)).mono ?_
 ·intro p hp
  refine Part.ok_alloc ?_ _
  simp only[List.mem_cons,List.not_mem_nil,or_false]at hp
  rcases hp with rfl|rfl|rfl
  ·exact⟨H128.out,fun h=>by cases h⟩
  ·refine⟨?_,fun h=>by cases h⟩
   have:=HR2.out
   simp only[U8,List.map_replicate]
   simpa using this
  ·exact⟨HR1.out,fun h=>by cases h⟩
 ·rw[hfl]
  clear hfl
  rintro e w3 ⟨v3,rfl,hown3,hb3⟩
  have hbb:Below w.heap.size w w3:=(hb2.alloc hb2.size _).trans (hb3.mono (by have:=hb2.size;simp;omega))
  have hown4:w3.ownsRow w.heap.size 5 1 v3 (padB n).length (U8 (padB n)):=⟨hown3.1,hown3.2.imp id fun⟨g,cap,cur,h1,h2,h3⟩=>⟨g,cap,cur,h1,by have:=hb2.size;simp at h2;omega,h3⟩⟩
  have HO:=Lib.hid hown4
  clear hown3 hown4
  go_wp2
  go_ret
  exact⟨_,rfl,HO.out,hbb⟩
set_option maxRecDepth 20000 in
theorem pad_ok (l:List Nat) (A:Option Addr) (c:Nat) (w:World) (hA:Rd w w.heap.size A (U8 l)) (hnil:A=none→c=0) (hl:l.length≤140737488351232):
  Calls Tryz.prog 112 #[.slice A l.length c] w fun e w'=> ∃v,e= .returned v∧w'.ownsRow w.heap.size 5 1 v (padN l).length (U8 (padN l))∧Below w.heap.size w w':=by
 obtain⟨n,hn⟩: ∃n,n=l.length:=⟨_,rfl⟩
 have HN:=Lib.hid hn
 have HNIL:=Lib.hid hnil
 rw[←hn]at hl⊢
 clear hn hnil
 go_enter Tryz.func112, Tryz.ntmps112
 go_wp2_with fail
 refine(padding_any n w hl).mono ?_
 rintro e w1 ⟨v1,rfl,hown1,hb1⟩
 obtain⟨A1,c1,rfl,hr1⟩:=own_shape hown1
 have hnil1:A1=none→c1=0:=by
  rintro rfl
  rcases hown1.2 with⟨h,_⟩|⟨g,cap,cur,h,_⟩
  ·simp at h;exact h.2
  ·simp at h
 have HR1:=Lib.hid hr1
 have HNIL1:=Lib.hid hnil1
 clear hown1 hr1 hnil1
 have hA1:=hA.next hb1
 go_wp2_with fail
 have hfl:cflat [⟨A,l,c⟩,⟨A1,padB n,c1⟩]=padN l:=by rw[padN_padB, ←HN.out];simp[cflat]
 refine(concat_any [⟨A,l,c⟩,⟨A1,padB n,c1⟩] w1.heap.size 2 2 _ rfl (by simp) (parts_lit (by simp[Part.val];exact HN.out)) ?_ (by omega) (by rw[hfl,length_padN];omega) (by rw[hfl,length_padN, ←HN.out];unfold zerosN;omega)).mono ?_
 ·intro p hp
  refine Part.ok_alloc ?_ _
  simp only[List.mem_cons,List.not_mem_nil,or_false]at hp
  rcases hp with rfl|rfl
  ·exact⟨hA1,HNIL.out⟩
  ·exact⟨HR1.out,HNIL1.out⟩
 ·rw[hfl]
  clear hfl
  rintro e w3 ⟨v3,rfl,hown3,hb3⟩
  have hbb:Below w.heap.size w w3:=(hb1.alloc hb1.size _).trans (hb3.mono (by have:=hb1.size;simp;omega))
  have hown4:w3.ownsRow w.heap.size 5 1 v3 (padN l).length (U8 (padN l)):=⟨hown3.1,hown3.2.imp id fun⟨g,cap,cur,h1,h2,h3⟩=>⟨g,cap,cur,h1,by have:=hb1.size;simp at h2;omega,h3⟩⟩
  have HO:=Lib.hid hown4
  clear hown3 hown4
  go_wp2
  go_ret
  exact⟨_,rfl,HO.out,hbb⟩
end Go.Proofs.YtcnglbliidjnfaaGreatDoor
end
section
namespace Go.Proofs.YtcnglbliidjnfaaGreatDoor
set_option maxRecDepth 100000
set_option linter.unusedVariables false
open Go.ChangeShapes Go.WideShapes Go.ChangeAt Go.RowKit
theorem or_byte32 (a b:Nat) (ha:a<16777216) (hb:b<256):bits .or .u32 ((a:Int)*256) (b:Int)=((a*256+b:Nat):Int):=by
 have e:(a:Int)*256=((a*256:Nat):Int):=by omega
 rw[e,u32_or_nat _ _ (by omega) (by omega)]
 have h:=Nat.two_pow_add_eq_or_of_lt (i:=8) (b:=b) (by omega) a
 simp only[Nat.reducePow]at h
 rw[Nat.mul_comm, ←h,Nat.mul_comm]
theorem words_ok (l:List Nat) (A:Option Addr) (c:Nat) (w:World) (hA:Rd w w.heap.size A (U8 l)) (hb: ∀x∈l,x<256) (hl:l.length≤4000) (h4:l.length % 4=0):
  Calls Tryz.prog 133 #[.slice A l.length c] w fun e w'=> ∃g cap,e= .returned (.tuple #[.slice (some ⟨g,0,none⟩) (l.length / 4) cap, .int .i64 0])∧
   w'.ownsRow w.heap.size 138 1 (.slice (some ⟨g,0,none⟩) (l.length / 4) cap) (l.length / 4) (U32 (wordsOf l))∧Below w.heap.size w w':=by
 obtain⟨i0,hi,hz0,hz1,hz2⟩:=info_parts infoU32
 obtain⟨n,hn⟩: ∃n,n=l.length:=⟨_,rfl⟩
 rw[←hn]at hl h4⊢
 obtain⟨m,hm⟩: ∃m,m=n / 4:=⟨_,rfl⟩
 have HN:=Lib.hid hn
 have HM:=Lib.hid hm
 have HB:=Lib.hid hb
 have hmn:4*m≤n:=by omega
 have hnm:n≤4*m:=by omega
 rw[←hm]
 clear hn hm hb
 go_enter Tryz.func133, Tryz.ntmps133
 go_wp2_with (at_make;refine wpList_make_full _ rfl _ _ 145 rfl w.heap.size 138 i0 (.int .u32 0) 1 Tryz.underlying145 hi hz0 hz1 _ _ _ _ m rfl rfl (by omega) (by omega) ?b2 ?b3 (Nat.le_refl _) ?_)
 case b2=>rw[hz2];omega
 case b3=>unfold maxLen;omega
 intro w1 hown hg
 have hown1:w1.ownsRow w.heap.size 138 1 (.slice (some ⟨w.heap.size,0,none⟩) m m) m (U32 (wordsUpto l m 0)):=by
  rw[toList_madeCells_one]at hown
  rw[wordsUpto_zero,U32,List.map_replicate]
  exact hown
 have hbel:Below w.heap.size w w1:=(Below.refl _ _).grown hg (Nat.le_refl _) (by simp)
 clear hown hg
 go_wp2
 go_loopw [16] (fun i wr=> ∃k:Nat,k≤n∧i= .int .i64 k∧wr.ownsRow w.heap.size 138 1 (.slice (some ⟨w.heap.size,0,none⟩) m m) m (U32 (wordsUpto l m k))∧Below w.heap.size w wr) (fun i _=>n - (intOf i).toNat)
 case atStart=>exact⟨0,Nat.zero_le _,rfl,hown1,hbel⟩
 case round=>
  clear hown1 hbel
  obtain⟨k,hk,rfl,hown,hbel⟩:=hrel
  by_cases hlt:k<n
  ·have hkl:k<l.length:=by rw[←HN.out];exact hlt
   obtain⟨ad,rfl,hab,hc0⟩:=hA k _ (U8_at l k hkl)
   have hc:wr.cell? (ad.add k)=some (.int .u8 (l[k]:Nat)):=(hbel.cell (by rw[add_block];exact hab)).trans hc0
   have hkm:k / 4<m:=by omega
   have hc2:wr.cell? ⟨w.heap.size,k / 4,none⟩=some (.int .u32 (wordAt l k (k / 4):Nat)):=by
    rw[hown.cellAt (k / 4) (by omega),U32,List.getElem?_map,wordsUpto_get l m k (k / 4) hkm];rfl
   have hf:=hown.frozenAt (k / 4)
   have hx:=HB.out _ (List.getElem_mem hkl)
   have hy:=wordAt_room l HB.out k
   have hst:=(hown.stored (k / 4) (.int .u32 ((wordAt l k (k / 4)*256+l[k]:Nat):Int))).1
   have hset:(U32 (wordsUpto l m k)).set (k / 4) (.int .u32 ((wordAt l k (k / 4)*256+l[k]:Nat):Int))=U32 (wordsUpto l m (k+1)):=by
    rw[←wordsUpto_set l m k hkl,U32,U32,List.map_set]
   rw[hset]at hst
   clear hset
   generalize l[k]=x at*
   generalize wordAt l k (k / 4)=y at*
   have HST:=Lib.hid hst
   have HOW:=Lib.hid hown
   clear hst hown hA hc0
   go_wp2
   go_region
   go_wp2
   go_roundw
   case rel=>
    refine⟨k+1,by omega,by go_num, ?_, ?_⟩
    ·rw[or_byte32 y x hy hx]
     exact HST.out
    ·exact(hbel.setCell (Nat.le_refl _) _).drew
   case measure=>simp[intOf];omega
  ·have e:wordsUpto l m k=wordsOf l:=by
    have e1:k=l.length:=by rw[←HN.out];omega
    rw[e1,HM.out,HN.out];rfl
   rw[e]at hown
   clear e
   go_wp2
   go_ret2
   exact⟨_,_,rfl,hown,hbel⟩
end Go.Proofs.YtcnglbliidjnfaaGreatDoor
end
section
namespace Go.Proofs.YtcnglbliidjnfaaGreatDoor
set_option maxRecDepth 100000
set_option linter.unusedVariables false
open Go.ChangeShapes Go.WideShapes Go.ChangeAt Go.RowKit
theorem cast_byte (x e:Nat):(x:Int) / 2^e % 256=((x / 2^e % 256:Nat):Int):=by simp
theorem bytes_ok (l:List Nat) (A:Option Addr) (c:Nat) (w:World) (hA:Rd w w.heap.size A (U32 l)) (hb: ∀x∈l,x<4294967296) (hl:l.length≤1000):
  Calls Tryz.prog 134 #[.slice A l.length c] w fun e w'=> ∃g cap,e= .returned (.slice (some ⟨g,0,none⟩) (4*l.length) cap)∧
   w'.ownsRow w.heap.size 5 1 (.slice (some ⟨g,0,none⟩) (4*l.length) cap) (4*l.length) (U8 (bytesOf l))∧Below w.heap.size w w':=by
 obtain⟨i0,hi,hz0,hz1,hz2⟩:=info_parts infoU8
 obtain⟨n,hn⟩: ∃n,n=l.length:=⟨_,rfl⟩
 rw[←hn]at hl⊢
 obtain⟨m,hm⟩: ∃m,m=4*n:=⟨_,rfl⟩
 have HN:=Lib.hid hn
 have HM:=Lib.hid hm
 have HB:=Lib.hid hb
 have hmn:4*n≤m:=by omega
 have hnm:m≤4*n:=by omega
 rw[←hm]
 clear hn hm hb
 go_enter Tryz.func134, Tryz.ntmps134
 go_wp2_with (at_make;refine wpList_make_full _ rfl _ _ 30 rfl w.heap.size 5 i0 (.int .u8 0) 1 Tryz.underlying30 hi hz0 hz1 _ _ _ _ m rfl rfl (by omega) (by omega) ?b2 ?b3 (Nat.le_refl _) ?_)
 case b2=>rw[hz2];omega
 case b3=>unfold maxLen;omega
 intro w1 hown hg
 have hown1:w1.ownsRow w.heap.size 5 1 (.slice (some ⟨w.heap.size,0,none⟩) m m) m (U8 (bytesUpto l m 0)):=by
  rw[toList_madeCells_one]at hown
  rw[bytesUpto_zero,U8,List.map_replicate]
  exact hown
 have hbel:Below w.heap.size w w1:=(Below.refl _ _).grown hg (Nat.le_refl _) (by simp)
 clear hown hg
 go_wp2
 go_loopw [12] (fun i wr=> ∃k:Nat,k≤m∧i= .int .i64 k∧wr.ownsRow w.heap.size 5 1 (.slice (some ⟨w.heap.size,0,none⟩) m m) m (U8 (bytesUpto l m k))∧Below w.heap.size w wr) (fun i _=>m - (intOf i).toNat)
 case atStart=>exact⟨0,Nat.zero_le _,rfl,hown1,hbel⟩
 case round=>
  clear hown1 hbel
  obtain⟨k,hk,rfl,hown,hbel⟩:=hrel
  by_cases hlt:k<m
  ·have hkl:k / 4<l.length:=by rw[←HN.out];omega
   obtain⟨ad,rfl,hab,hc0⟩:=hA (k / 4) _ (U32_at l (k / 4) hkl)
   have hc:wr.cell? (ad.add (k / 4))=some (.int .u32 (l[k / 4]:Nat)):=(hbel.cell (by rw[add_block];exact hab)).trans hc0
   have hkn:k / 4<n:=by omega
   have hc2: ∃v,wr.cell? ⟨w.heap.size,k,none⟩=some v:=by
    rw[hown.cellAt k (by omega),U8,List.getElem?_map]
    rw[List.getElem?_eq_getElem (by simp[bytesUpto];omega)]
    exact⟨_,rfl⟩
   obtain⟨v2,hc2⟩:=hc2
   have hf:=hown.frozenAt k
   have hx:=HB.out _ (List.getElem_mem hkl)
   have hst:=(hown.stored k (.int .u8 ((byteAt l k:Nat):Int))).1
   have hset:(U8 (bytesUpto l m k)).set k (.int .u8 ((byteAt l k:Nat):Int))=U8 (bytesUpto l m (k+1)):=by
    rw[←bytesUpto_set l m k,U8,U8,List.map_set]
   rw[hset]at hst
   have hba:byteAt l k=l[k / 4] / 2^(8*(3 - k % 4)) % 256:=by
    unfold byteAt
    rw[List.getD_eq_getElem?_getD,List.getElem?_eq_getElem hkl];rfl
   rw[hba]at hst
   clear hset hba
   generalize l[k / 4]=x at*
   have HST:=Lib.hid hst
   have HOW:=Lib.hid hown
   clear hst hown hA hc0
   go_wp2
   go_roundw
   case rel=>
    refine⟨k+1,by omega,by go_num, ?_,hbel.setCell (Nat.le_refl _) _⟩
    rw[cast_byte]
    exact HST.out
   case measure=>simp[intOf];omega
  ·have e:bytesUpto l m k=bytesOf l:=by
    have e1:k=m:=by omega
    rw[e1,HM.out,HN.out,bytesUpto_all]
   rw[e]at hown
   clear e
   go_wp2
   go_ret
   exact⟨_,_,rfl,hown,hbel⟩
end Go.Proofs.YtcnglbliidjnfaaGreatDoor
end
section
namespace Go.Proofs.YtcnglbliidjnfaaGreatDoor
set_option maxRecDepth 100000
set_option linter.unusedVariables false
open Go.ChangeShapes Go.WideShapes Go.ChangeAt Go.RowKit
theorem list16 (W:List Nat) (h:W.length=16): ∃x0 x1 x2 x3 x4 x5 x6 x7 x8 x9 x10 x11 x12 x13 x14 x15,W=[x0,x1,x2,x3,x4,x5,x6,x7,x8,x9,x10,x11,x12,x13,x14,x15]:=by
 match W,h with
 |[x0,x1,x2,x3,x4,x5,x6,x7,x8,x9,x10,x11,x12,x13,x14,x15],_=>exact⟨x0,x1,x2,x3,x4,x5,x6,x7,x8,x9,x10,x11,x12,x13,x14,x15,rfl⟩
theorem block_list (h:St) (W:List Nat) (w:World) (hT:Tabs w) (hh:h.ok) (hx: ∀x∈W,x<4294967296) (hl:W.length=16):
  Calls Tryz.prog 113 #[h.val, .agg (U32 W).toArray] w fun e w'=>e= .returned (blockN h W).val∧Below w.heap.size w w':=by
 obtain⟨x0,x1,x2,x3,x4,x5,x6,x7,x8,x9,x10,x11,x12,x13,x14,x15,rfl⟩:=list16 W hl
 exact block_any h x0 x1 x2 x3 x4 x5 x6 x7 x8 x9 x10 x11 x12 x13 x14 x15 w hT hh hx
theorem refblock_list (h:St) (W:List Nat) (w:World) (hh:h.ok) (hx: ∀x∈W,x<4294967296) (hl:W.length=16):
  Calls Tryz.prog 119 #[h.val, .agg (U32 W).toArray] w fun e w'=>e= .returned (blockN h W).val∧Below w.heap.size w w':=by
 obtain⟨x0,x1,x2,x3,x4,x5,x6,x7,x8,x9,x10,x11,x12,x13,x14,x15,rfl⟩:=list16 W hl
 exact refblock_any h x0 x1 x2 x3 x4 x5 x6 x7 x8 x9 x10 x11 x12 x13 x14 x15 w hh hx
theorem info29:(Tryz.prog.info? 141).map (·.size)=some 16:=by kernel_rfl
theorem info32:(Tryz.prog.info? 42).map (·.size)=some 32:=by kernel_rfl
theorem sizeU32:(Tryz.prog.info? 138).map (·.size)=some 1:=by kernel_rfl
theorem sizeU8:(Tryz.prog.info? 5).map (·.size)=some 1:=by kernel_rfl
section
variable {P:Program}
theorem at_calls (d:Nat) {ops:Array Oper} {rest:List Oper} {c:Call} {t:TypeId} {p:String} {af:Array Edge} {g:Option (Nat × Bool)} {a:Act} {w:World} {Q:Exit→Act→World→Prop} (h:wpList P ops Q (⟨some d, .call c,t,p,af,g⟩::rest) a w):wpList P ops Q (⟨some d, .call c,t,p,af,g⟩::rest) a w:=h
end
theorem splice_all (cur cs:List Value) (h:cs.length=cur.length):splice cur 0 cs=cs:=by
 unfold splice
 simp[h]
theorem words_len (l:List Nat) (n:Nat) (hn:l.length=n) (A:Option Addr) (c:Nat) (w:World) (hA:Rd w w.heap.size A (U8 l)) (hb: ∀x∈l,x<256) (hl:n≤4000) (h4:n % 4=0):
  Calls Tryz.prog 133 #[.slice A n c] w fun e w'=> ∃g cap,e= .returned (.tuple #[.slice (some ⟨g,0,none⟩) (n / 4) cap, .int .i64 0])∧
   w'.ownsRow w.heap.size 138 1 (.slice (some ⟨g,0,none⟩) (n / 4) cap) (n / 4) (U32 (wordsOf l))∧Below w.heap.size w w':=by
 subst hn
 exact words_ok l A c w hA hb hl h4
theorem bytes_len (l:List Nat) (n:Nat) (hn:l.length=n) (A:Option Addr) (c:Nat) (w:World) (hA:Rd w w.heap.size A (U32 l)) (hb: ∀x∈l,x<4294967296) (hl:n≤1000):
  Calls Tryz.prog 134 #[.slice A n c] w fun e w'=> ∃g cap,e= .returned (.slice (some ⟨g,0,none⟩) (4*n) cap)∧
   w'.ownsRow w.heap.size 5 1 (.slice (some ⟨g,0,none⟩) (4*n) cap) (4*n) (U8 (bytesOf l))∧Below w.heap.size w w':=by
 subst hn
 exact bytes_ok l A c w hA hb hl
theorem row_spliced {w3:World} {g:Nat} {W:List Nat} {t:TypeId} (h:w3.heap[g]?=some (.cells (splice z16.toList 0 (U32 W)).toArray t (0,0))) (hW:W.length=16):w3.heap[g]?=some (.cells (U32 W).toArray t (0,0)):=by
 rw[splice_all _ _ (by rw[U32,List.length_map,hW];rfl)]at h
 exact h
theorem own_cells {w w2:World} {base:Nat} {e:TypeId} {g n cap:Nat} {xs:List Value} (h:w.ownsRow base e 1 (.slice (some ⟨g,0,none⟩) n cap) n xs) (hb:Below w.heap.size w w2): ∀j v,xs[j]?=some v→w2.cell? ((⟨g,0,none⟩:Addr).add j)=some v:=by
 intro j v hv
 obtain⟨ad,he,_,hc⟩:=(Rd.of_own h).next hb j v hv
 cases he
 exact hc
theorem U32_length (l:List Nat):(U32 l).length=l.length:=by simp[U32]
theorem U8_length (l:List Nat):(U8 l).length=l.length:=by simp[U8]
set_option maxRecDepth 20000 in
theorem blockWords_any (lp:List Nat) (ad:Addr) (n c:Nat) (w:World) (hA:Rd w w.heap.size (some ad) (U8 lp)) (hb: ∀x∈lp,x<256) (hl:lp.length=n) (h64:64≤n) (hc:n≤c) (hcm:c≤maxLen):
  Calls Tryz.prog 114 #[.slice (some ad) n c] w fun e w'=>e= .returned (.agg (U32 (wordsOf (lp.take 64))).toArray)∧Below w.heap.size w w':=by
 unfold maxLen at hcm
 have hA64:Rd w w.heap.size (some ad) (U8 (lp.take 64)):=by
  intro k u hu
  refine hA k u ?_
  simp only[U8,List.map_take,List.getElem?_take]at hu⊢
  split at hu
  ·exact hu
  ·cases hu
 have hlt:(lp.take 64).length=64:=by simp;omega
 have hbt: ∀x∈lp.take 64,x<256:=fun x hx=>hb x (List.mem_of_mem_take hx)
 have HA:=Lib.hid hA64
 have HL:=Lib.hid hlt
 have HB:=Lib.hid hbt
 clear hA hb hl hA64 hlt hbt
 generalize lp.take 64=q at*
 go_enter Tryz.func114, Tryz.ntmps114
 go_wp2_with fail
 refine(words_len q 64 HL.out (some ad) c _ ((HA.out.alloc (Nat.le_refl _) _).more (by simp)) HB.out (by omega) (by omega)).mono ?_
 rintro e w1 ⟨g1,c1,rfl,hown1,hb1⟩
 have hb01:Below w.heap.size w w1:=((Below.refl _ _).alloc (Nat.le_refl _) _).trans (hb1.mono (by simp))
 have hs1:w.heap.size+1≤w1.heap.size:=by have:=hb1.size;simpa using this
 have hres:w1.heap[w.heap.size]?=some (.cells z16 141 (0,0)):=(hb1.block _ (by simp)).trans (heap_alloc_new w _)
 have hW:(wordsOf q).length=16:=by rw[length_wordsOf,HL.out]
 have HO:=Lib.hid hown1
 have HRES:=Lib.hid hres
 have HW:=Lib.hid hW
 clear hown1 hb1 hres hW
 obtain⟨W,hWE⟩: ∃W,W=wordsOf q:=⟨_,rfl⟩
 rw[←hWE]at HO HW
 have HWE:=Lib.hid hWE
 have hsz:(U32 W).toArray.size=16:=by simp[U32,HW.out]
 have hin:(Tryz.prog.info? 141).map (·.size)=some (U32 W).toArray.size:=by rw[hsz];exact info29
 have HSZ:=Lib.hid hsz
 have HIN:=Lib.hid hin
 clear hWE hsz hin
 go_wp2_with (first
  |((with_reducible refine at_store 5 ?_);refine wpList_store_named (o:=⟨none, .store 141 (.tmp 5) (.tmp 12),_,_,_,_⟩) rfl 141 (.tmp 5) (.tmp 12) rfl w1.heap.size z16 rfl rfl 141 z16 (heap_alloc_new w1 _) info29 rfl (all_one32 (List.replicate 16 0)) ?_;intro w2 hw2)
  |((with_reducible refine at_calls 15 ?_);refine wpList_copy_splice (o:=⟨some 15,_,_,_,_,_⟩) rfl (.tmp 13) (.tmp 14) 145 145 rfl 138 Tryz.underlying145 sizeU32 (some ⟨w1.heap.size,0,none⟩) (some ⟨g1,0,none⟩) 16 16 16 c1 rfl rfl w1.heap.size 0 z16.toList 141 (row_made hw2.out).2.1 (U32 W) ((U32_length W).trans HW.out) (fun _=>⟨rfl,_,rfl,own_cells HO.out (row_made hw2.out).2.2⟩) (Nat.le_of_eq ((congrArg (0+ ·) (U32_length W)).trans (by rw[HW.out];rfl))) (U32_one W) w1.heap.size w2 (Below.refl _ _) (Nat.le_refl _) ?_;intro w3 hw3 hb3)
  |((with_reducible refine at_load 16 ?_);have hw3':=row_spliced hw3.out HW.out;refine wpList_load_row (o:=⟨some 16, .load 141 (.tmp 5),_,_,_,_⟩) rfl 141 (.tmp 5) rfl w1.heap.size rfl 141 (U32 W).toArray (0,0) _ hw3' Tryz.underlying141 rfl (HIN.out) ?_;clear hw3')
  |((with_reducible refine at_store 2 ?_);refine wpList_store_named (o:=⟨none, .store 141 (.tmp 2) (.tmp 16),_,_,_,_⟩) rfl 141 (.tmp 2) (.tmp 16) rfl w.heap.size (U32 W).toArray rfl rfl 141 z16 ((hb3.block _ (by omega)).trans (((row_made hw2.out).2.2.block _ (by omega)).trans HRES.out)) HIN.out HSZ.out.symm (all_one32 W) ?_;intro w4 hw4))
 have hr4:w4.heap[w.heap.size]?=some (.cells (U32 W).toArray 141 (0,0)):=by
  rw[hw4.out];exact setRow_heap _ _ _ _ _ _ ((hb3.block _ (by omega)).trans (((row_made hw2.out).2.2.block _ (by omega)).trans HRES.out))
 refine bodyPost_ret (results_cell_row Tryz.results114 _ w4 w.heap.size 141 _ (0,0) _ rfl hr4 Tryz.underlying141 rfl HIN.out) rfl ⟨by rw[HWE.out], ?_⟩
 exact((hb01.trans ((row_made hw2.out).2.2.mono (by omega))).trans (hb3.mono (by omega))).trans (below_row hw4.out (Nat.le_refl _))
end Go.Proofs.YtcnglbliidjnfaaGreatDoor
end
section
namespace Go.Proofs.YtcnglbliidjnfaaGreatDoor
set_option maxRecDepth 100000
set_option linter.unusedVariables false
open Go.ChangeShapes Go.WideShapes Go.ChangeAt Go.RowKit
theorem row_spliced8 {w3:World} {g:Nat} {W:List Nat} {t:TypeId} (h:w3.heap[g]?=some (.cells (splice b32.toList 0 (U8 W)).toArray t (0,0))) (hW:W.length=32):w3.heap[g]?=some (.cells (U8 W).toArray t (0,0)):=by
 rw[splice_all _ _ (by rw[U8,List.length_map,hW];rfl)]at h
 exact h
set_option maxRecDepth 100000 in
set_option maxHeartbeats 800000 in
theorem digest_any (h:St) (w:World) (hh:h.ok):
  Calls Tryz.prog 115 #[h.val] w fun e w'=>e= .returned (.agg (U8 (bytesOf h.list)).toArray)∧Below w.heap.size w w':=by
 obtain⟨W,hWE⟩: ∃W,W=bytesOf h.list:=⟨_,rfl⟩
 have hW:W.length=32:=by rw[hWE,length_bytesOf];rfl
 have hsz:(U8 W).toArray.size=32:=by simp[U8,hW]
 have hin:(Tryz.prog.info? 42).map (·.size)=some (U8 W).toArray.size:=by rw[hsz];exact info32
 rw[←hWE]
 have HWE:=Lib.hid hWE
 have HW:=Lib.hid hW
 have HSZ:=Lib.hid hsz
 have HIN:=Lib.hid hin
 clear hWE hW hsz hin
 unfold St.val
 go_enter Tryz.func115, Tryz.ntmps115
 go_wp2_with ((with_reducible refine at_store 3 ?_);refine wpList_store_named (o:=⟨none, .store 42 (.tmp 3) (.tmp 4),_,_,_,_⟩) rfl 42 (.tmp 3) (.tmp 4) rfl (w.heap.size+1+1) b32 rfl rfl 42 b32 sched_here info32 rfl (all_one8 (List.replicate 32 0)) ?_;intro w0 hw0)
 obtain⟨hs0,hbl0,hbl1,hbl2,hb0⟩:=three_made hw0.out
 clear hw0
 have HS0:=Lib.hid hs0
 have HB0:=Lib.hid hbl0
 have HB1:=Lib.hid hbl1
 have HB2:=Lib.hid hbl2
 clear hs0 hbl0 hbl1 hbl2
 have hrd:Rd w0.drew w0.drew.heap.size (some ⟨w.heap.size,0,none⟩) (U32 h.list):=by
  intro k u hu
  refine⟨_,rfl,by show w.heap.size<w0.heap.size;rw[HS0.out];omega, ?_⟩
  have h0:w0.drew.heap[w.heap.size]?=some (.cells (U32 h.list).toArray 139 (0,0)):=HB0.out
  rw[at_add,cell_of_row w0.drew _ k _ _ (0,0) h0]
  simpa using hu
 have HRD:=Lib.hid hrd
 have HB:=Lib.hid hb0
 clear hrd hb0
 go_region_held3 (fun _=>True) (trivial) (first
  |(refine step_copy_splice (o:=⟨some 8,_,_,_,_,_⟩) (by rfl) (.tmp 5) (.tmp 7) 30 30 (by rfl) 5 Tryz.underlying30 sizeU8 (some ⟨w.heap.size+1+1,0,none⟩) (some ⟨g1,0,none⟩) 32 32 32 c1 (by rfl) (by rfl) (w.heap.size+1+1) 0 b32.toList 42 H12.out (U8 W) ((U8_length W).trans HW.out) (fun _=>⟨rfl,_,rfl,own_cells HO.out (Below.refl _ _)⟩) (Nat.le_of_eq ((congrArg (0+ ·) (U8_length W)).trans (by rw[HW.out];rfl))) (U8_one W) (w.heap.size+1+1) w1 (Below.refl _ _) (Nat.le_refl _) ?_;intro w3 hw3 hb3)
  |(go_at_call 134;refine(bytes_len h.list 8 rfl (some ⟨w.heap.size,0,none⟩) 8 w0.drew HRD.out (St.list_lt hh) (by omega)).mono ?_;rintro e w1 ⟨g1,c1,rfl,hown1,hb1⟩;rw[←HWE.out]at hown1;have hs1:w.heap.size+1+1+1≤w1.heap.size:=(by have h7:=hb1.size;have h8:=HS0.out;have h9:w0.drew.heap.size=w0.heap.size:=rfl;omega);have H11:=Lib.hid ((hb1.block (w.heap.size+1) (by show _<w0.heap.size;rw[HS0.out];omega)).trans HB1.out);have H12:=Lib.hid ((hb1.block (w.heap.size+1+1) (by show _<w0.heap.size;rw[HS0.out];omega)).trans HB2.out);have hb01:Below w.heap.size w w1:=HB.out.drew.trans (hb1.mono HB.out.size);have HO:=Lib.hid hown1;clear hown1 hb1))
 go_wp2_with (first
  |((with_reducible refine at_load 9 ?_);have hw3':=row_spliced8 hw3.out HW.out;refine wpList_load_row (o:=⟨some 9, .load 42 (.tmp 3),_,_,_,_⟩) rfl 42 (.tmp 3) rfl (w.heap.size+1+1) rfl 42 (U8 W).toArray (0,0) _ hw3' Tryz.underlying42 rfl (HIN.out) ?_;clear hw3')
  |((with_reducible refine at_store 2 ?_);refine wpList_store_named (o:=⟨none, .store 42 (.tmp 2) (.tmp 9),_,_,_,_⟩) rfl 42 (.tmp 2) (.tmp 9) rfl (w.heap.size+1) (U8 W).toArray rfl rfl 42 b32 ((hb3.block _ (by omega)).trans H11.out) HIN.out HSZ.out.symm (all_one8 W) ?_;intro w4 hw4))
 have hr4:w4.heap[w.heap.size+1]?=some (.cells (U8 W).toArray 42 (0,0)):=by
  rw[hw4.out];exact setRow_heap _ _ _ _ _ _ ((hb3.block _ (by omega)).trans H11.out)
 refine bodyPost_ret (results_cell_row Tryz.results115 _ w4 (w.heap.size+1) 42 _ (0,0) _ rfl hr4 Tryz.underlying42 rfl HIN.out) rfl ⟨rfl, ?_⟩
 exact(hb01.trans (hb3.mono (by omega))).trans (below_row hw4.out (by omega))
end Go.Proofs.YtcnglbliidjnfaaGreatDoor
end
