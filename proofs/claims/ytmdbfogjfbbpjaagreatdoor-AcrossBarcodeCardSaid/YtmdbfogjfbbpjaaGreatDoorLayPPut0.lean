import Derived.Test.YtmdbfogjfbbpjaaGreatDoorLayPFields
import Derived.Test.YtmdbfogjfbbpjaaGreatDoorEqualBytes
import Derived.Test.YtmdbfogjfbbpjaaGreatDoorTicketPRightK
import Derived.Test.YtmdbfogjfbbpjaaGreatDoorTicketPRight
import Derived.OwnWalk
import Derived.Test.YtmdbfogjfbbpjaaGreatDoorMem
import Derived.Test.YtmdbfogjfbbpjaaGreatDoorLineMath
import Derived.Test.YtmdbfogjfbbpjaaGreatDoorTrackBackMath
import Derived.Test.YtmdbfogjfbbpjaaGreatDoorShaRefSum
set_option maxHeartbeats 1600000
set_option maxRecDepth 100000
set_option linter.unusedVariables false
section
namespace Go.Proofs.YtmdbfogjfbbpjaaGreatDoor
open Go.ChangeShapes Go.WideShapes Go.ChangeAt Go.RowKit
theorem kK {r:Rg} (h:Hf r=false):lputX r=(1,[]):=by rw[lputX,if_pos h]
theorem kL {r:Rg} (h:Hf r=true) (h2:Jn r=false):lputX r=(18,[]):=by rw[lputX,if_neg (by rw[h];decide),if_pos h2]
theorem Tb {r:Rg} (h:Hf r=true) (h2:Jn r=true):lputX r=joinX (valL r) (Au r.t.kind):=by rw[lputX,if_neg (by rw[h];decide),if_neg (by rw[h2];decide)]
theorem AaU (r:Rg) (hin:InR r) (E:Int) (p:List Nat) (hE:lputX r=(E,p)) (w:World) (hbad:(Hf r&&Jn r)=false):Calls Tryz.prog 68 #[.agg #[.int .i64 r.t.ser, .int .i64 r.t.kind, .int .i64 r.t.frm, .int .i64 r.t.till, .int .i64 r.t.cls, .int .i64 r.t.card, .int .i64 r.t.seat, .int .i64 r.t.day, .int .i64 r.t.days, .int .i64 r.t.uses, .int .i64 r.t.epoch, .int .i64 r.key, .int .i64 r.left, .int .i64 r.inn, .int .i64 r.ver]] w fun e w'=> ∃A c,e= .returned (.tuple #[.slice A (p.length:Nat) c, .int .i64 E])∧Bs w' w'.heap.size p A c∧Below w.heap.size w w':=by
 obtain⟨b1,h1⟩: ∃b1,okT r.t=b1:=⟨_,rfl⟩
 obtain⟨b2,h2⟩: ∃b2,Ft r.t.uses r.left r.inn=b2:=⟨_,rfl⟩
 obtain⟨b3,h3⟩: ∃b3,(decide (0≤r.key)&&decide (r.key≤99))=b3:=⟨_,rfl⟩
 have ha:Hf r=(b1&&b2&&b3&&(r.ver==0)):=by
  rw[←h1, ←h2, ←h3,Hf]
  simp only[Bool.and_assoc]
 have HA:=Lib.hid ha
 have HF:=Lib.hid hbad
 have HE:=Lib.hid hE
 have H1:=Lib.hid h1
 have H2:=Lib.hid h2
 have H3:=Lib.hid h3
 clear hE h1 h2 h3 ha hbad
 obtain⟨w0,hw0⟩: ∃w0,w0=w.alloc (.cells #[.int .i64 r.t.ser, .int .i64 r.t.kind, .int .i64 r.t.frm, .int .i64 r.t.till, .int .i64 r.t.cls, .int .i64 r.t.card, .int .i64 r.t.seat, .int .i64 r.t.day, .int .i64 r.t.days, .int .i64 r.t.uses, .int .i64 r.t.epoch, .int .i64 r.key, .int .i64 r.left, .int .i64 r.inn, .int .i64 r.ver] 39):=⟨_,rfl⟩
 have HX:Hid (Am w0 w.heap.size r):=Lib.hid (by rw[hw0];exact Am.new w r)
 have HBL:Hid (Below w.heap.size w w0):=Lib.hid (by rw[hw0];exact Aa w _ _)
 have HW:=Lib.hid hw0
 clear hw0
 go_enter Tryz.func68, Tryz.ntmps68
 go_wp2_with fail
 rw[←HW.out]
 obtain⟨e0,e1,e2,e3,e4,e5,e6,e7,e8,e9,e10,e11,e12,e13,e14⟩:=HX.out.cells
 go_wp2_with fail
 refine(Kr r.t b1 H1.out _).mono ?_
 rintro e w1 ⟨rfl,hb⟩
 clear e0 e1 e2 e3 e4 e5 e6 e7 e8 e9 e10 e11 e12 e13 e14
 replace HX:=Lib.hid (HX.out.next hb)
 replace HBL:=Lib.hid (HBL.out.trans (hb.mono HBL.out.size))
 clear hb
 obtain⟨c0,c1,c2,c3,c4,c5,c6,c7,c8,c9,c10,c11,c12,c13,c14⟩:=HX.out.cells
 cases b1
 rotate_left
 go_wp2_with fail
 refine(Hs r.t r.left r.inn b2 H2.out _).mono ?_
 rintro e w1 ⟨rfl,hb⟩
 clear c0 c1 c2 c3 c4 c5 c6 c7 c8 c9 c10 c11 c12 c13 c14
 replace HX:=Lib.hid (HX.out.next hb)
 replace HBL:=Lib.hid (HBL.out.trans (hb.mono HBL.out.size))
 clear hb
 obtain⟨d0,d1,d2,d3,d4,d5,d6,d7,d8,d9,d10,d11,d12,d13,d14⟩:=HX.out.cells
 cases b2
 rotate_left
 go_wp2_with fail
 refine(No _ _ _ _ H3.out _).mono ?_
 rintro e w3 ⟨rfl,rfl⟩
 cases b3
 rotate_left
 cases q4:(r.ver==0)
 rotate_left
 have q4':(r.ver !=0)=false:=by rw[bne,q4];rfl
 cases q5:(r.t.seat !=0)
 cases q6:decide (9999999<r.t.ser)
 ·exfalso
  have h:=HF.out
  rw[HA.out,q4,Bool.true_and,Bool.true_and,Bool.true_and,Bool.true_and]at h
  have hf:Jn r=true:=(Gz r).2 ⟨by simpa using q5,by have:=of_decide_eq_false q6;omega⟩
  rw[hf]at h;cases h
 all_goals
  have ha:=HA.out
  have hE:=HE.out
  (try rw[q4]at ha)
  (try(have q4':(r.ver !=0)=true:=by rw[bne,q4];rfl))
  first|(have hb:Hf r=false:=by rw[ha];rfl);rw[kK hb]at hE|(have hb:Hf r=true:=by rw[ha];rfl);rw[kL hb (by have h:=HF.out;rw[hb,Bool.true_and]at h;exact h)]at hE
  obtain⟨rfl,rfl⟩:=Prod.mk.inj hE
  (try clear hb);clear ha
  go_wp2
  go_ret2
  exact⟨none,0,rfl,Gv _,HBL.out⟩
theorem vY {a b:Value} (h: ∀g,a.ownBlock=some g→b.ownBlock≠some g):b.ownBlock=none∨b.ownBlock≠a.ownBlock:=by
 cases hb:b.ownBlock with
 |none=>exact .inl rfl
 |some g=>
  refine .inr fun e=> ?_
  exact h g e.symm hb
theorem pJ {a b:Value} (h: ∀g,a.ownBlock=some g→b.ownBlock≠some g):a.ownBlock=none∨a.ownBlock≠b.ownBlock:=by
 cases ha:a.ownBlock with
 |none=>exact .inl rfl
 |some g=>
  refine .inr fun e=> ?_
  exact h g ha e.symm
theorem pK {w w5:World} {base m size:Nat} {e:TypeId} {v v' u:Value} {ys:List Value} (hd: ∀g,v'.ownBlock=some g→v.ownBlock=some g∨w5.heap.size≤g) (hu:w.ownsRow base e size u m ys) (hw:w.heap.size≤w5.heap.size) (h: ∀g,v.ownBlock=some g→u.ownBlock≠some g): ∀g,v'.ownBlock=some g→u.ownBlock≠some g:=by
 intro g hg hug
 rcases hd g hg with h1|h1
 ·exact h g h1 hug
 ·have:=pW hu hug
  omega
theorem pL {w w5:World} {base m size:Nat} {e:TypeId} {v u' u:Value} {ys:List Value} (hd: ∀g,u'.ownBlock=some g→u.ownBlock=some g∨w5.heap.size≤g) (hv:w.ownsRow base e size v m ys) (hw:w.heap.size≤w5.heap.size) (h: ∀g,v.ownBlock=some g→u.ownBlock≠some g): ∀g,v.ownBlock=some g→u'.ownBlock≠some g:=by
 intro g hg hug
 rcases hd g hug with h1|h1
 ·exact h g hg h1
 ·have:=pW hv hg
  omega
theorem Ad3 (w:World) (p:Value) (wd:Int) (o:Obj):((w.alloc (.cells #[p, .int .i64 wd] 143)).alloc o).cell? ⟨w.heap.size,1,none⟩=some (.int .i64 wd):=by
 rw[World.cell?_alloc_lt _ _ _ (by simp),cell_of_row _ _ 1 _ _ (0,0) (heap_alloc_new w _)]
 rfl
theorem AaV (w:World) (x:Int): ∀j u,([.int .i64 x]:List Value)[j]?=some u→(w.alloc (.cells #[.int .i64 x] 3)).cell? ((⟨w.heap.size,0,none⟩:Addr).add j)=some u:=lE w x
theorem AaW (r:Rg) (hin:InR r) (E:Int) (p:List Nat) (hE:lputX r=(E,p)) (w:World) (ha:Hf r=true) (hf:Jn r=true):Calls Tryz.prog 68 #[.agg #[.int .i64 r.t.ser, .int .i64 r.t.kind, .int .i64 r.t.frm, .int .i64 r.t.till, .int .i64 r.t.cls, .int .i64 r.t.card, .int .i64 r.t.seat, .int .i64 r.t.day, .int .i64 r.t.days, .int .i64 r.t.uses, .int .i64 r.t.epoch, .int .i64 r.key, .int .i64 r.left, .int .i64 r.inn, .int .i64 r.ver]] w fun e w'=> ∃A c,e= .returned (.tuple #[.slice A (p.length:Nat) c, .int .i64 E])∧Bs w' w'.heap.size p A c∧Below w.heap.size w w':=by
 rw[Tb ha hf]at hE
 have HJ:=Lib.hid hE
 have hk:=Od ((Cc r).1 ha).1
 have hvl:=Xr hk
 obtain⟨h1,h2,h3,h3',h4⟩:=(Cc r).1 ha
 have H1:=Lib.hid h1
 have H2:=Lib.hid h2
 have H3:=Lib.hid (show(decide (0≤r.key)&&decide (r.key≤99))=true by rw[decide_eq_true h3,decide_eq_true h3'];rfl)
 have q4:(r.ver !=0)=false:=by rw[h4];rfl
 have q4':(r.ver==0)=true:=by rw[h4];rfl
 clear h1 h2 h3 h3' h4
 obtain⟨h5,h6⟩:=(Gz r).1 hf
 have q5:(r.t.seat !=0)=false:=by rw[h5];rfl
 have q6:decide (9999999<r.t.ser)=false:=decide_eq_false (by omega)
 have q5':(r.t.seat==0)=true:=by rw[h5];rfl
 have q6':decide (r.t.ser≤9999999)=true:=decide_eq_true h6
 obtain⟨n,hn⟩: ∃n,n=(Au r.t.kind).length:=⟨_,rfl⟩
 have h13:n≤13:=by rw[hn];exact Vd r.t.kind
 have hnf:n=(fieldsL r.t.kind).length:=by rw[Ge,hn]
 have HN:=Lib.hid hn
 have HF:=Lib.hid hnf
 have HVL:=Lib.hid hvl
 have HIN:=Lib.hid hin
 have HK:=Lib.hid hk
 obtain⟨i0,hi,hz0,hz1,hz2⟩:=info_parts Gp
 clear ha hf h5 h6 hE hvl hn hnf hin hk
 obtain⟨w0,hw0⟩: ∃w0,w0=w.alloc (.cells #[.int .i64 r.t.ser, .int .i64 r.t.kind, .int .i64 r.t.frm, .int .i64 r.t.till, .int .i64 r.t.cls, .int .i64 r.t.card, .int .i64 r.t.seat, .int .i64 r.t.day, .int .i64 r.t.days, .int .i64 r.t.uses, .int .i64 r.t.epoch, .int .i64 r.key, .int .i64 r.left, .int .i64 r.inn, .int .i64 r.ver] 39):=⟨_,rfl⟩
 have HX:Hid (Am w0 w.heap.size r):=Lib.hid (by rw[hw0];exact Am.new w r)
 have HBL:Hid (Below w.heap.size w w0):=Lib.hid (by rw[hw0];exact Aa w _ _)
 have HW:=Lib.hid hw0
 clear hw0
 go_enter Tryz.func68, Tryz.ntmps68
 go_wp2_with fail
 rw[←HW.out]
 obtain⟨e0,e1,e2,e3,e4,e5,e6,e7,e8,e9,e10,e11,e12,e13,e14⟩:=HX.out.cells
 go_wp2_with (first|(go_at_call 52;refine(Kr r.t _ H1.out _).mono ?_;rintro e w1 ⟨rfl,hb⟩;clear e0 e1 e2 e3 e4 e5 e6 e7 e8 e9 e10 e11 e12 e13 e14;have HX1:=Lib.hid (HX.out.next hb);have HBL1:=Lib.hid (HBL.out.trans (hb.mono HBL.out.size));clear hb;obtain⟨c0,c1,c2,c3,c4,c5,c6,c7,c8,c9,c10,c11,c12,c13,c14⟩:=HX1.out.cells)|(go_at_call 20;refine(Hs r.t r.left r.inn _ H2.out _).mono ?_;rintro e w2 ⟨rfl,hb⟩;have HX2:=Lib.hid (HX1.out.next hb);have HBL2:=Lib.hid (HBL1.out.trans (hb.mono HBL1.out.size));clear hb c0 c1 c2 c3 c4 c5 c6 c7 c8 c9 c10 c11 c12 c13 c14;obtain⟨d0,d1,d2,d3,d4,d5,d6,d7,d8,d9,d10,d11,d12,d13,d14⟩:=HX2.out.cells;have dk:=(HX2.out.alloc (.cells #[.int .i64 r.t.ser, .int .i64 r.t.kind, .int .i64 r.t.frm, .int .i64 r.t.till, .int .i64 r.t.cls, .int .i64 r.t.card, .int .i64 r.t.seat, .int .i64 r.t.day, .int .i64 r.t.days, .int .i64 r.t.uses, .int .i64 r.t.epoch, .int .i64 r.key, .int .i64 r.left, .int .i64 r.inn, .int .i64 r.ver] 138)).cells.2.1)|(go_at_call 53;refine(No _ _ _ _ H3.out _).mono ?_;rintro e w3 ⟨rfl,rfl⟩)|(go_at_call 119;refine(My r.t.kind n HF.out _ _).mono ?_;rintro e w4 ⟨A,c,rfl,hfs,hb⟩;have HFS:=Lib.hid hfs;have HB4:=Lib.hid hb;clear hb hfs))
 obtain⟨X,hX⟩: ∃X,X=w2.heap.size:=⟨_,rfl⟩
 have HS4:Hid (Ie w4 X r):=Lib.hid (by rw[hX];exact(Ie.new w2 r).next HB4.out)
 have hX4:X<w4.heap.size:=HS4.out.lt
 have HFS4:Hid (Fs w4 w4.heap.size X (fieldsL r.t.kind) A c):=Lib.hid (by rw[hX];exact HFS.out)
 have HBL4:Hid (Below w.heap.size w w4):=Lib.hid (HBL2.out.trans (((Aa w2 _ _).trans (HB4.out.mono (by simp))).mono HBL2.out.size))
 rw[←hX]
 clear dk HFS HB4 HX HX1 HX2 d0 d1 d2 d3 d4 d5 d6 d7 d8 d9 d10 d11 d12 d13 d14 hX
 go_loopw [5,6,8,48] (fun v u _ i wr=> ∃j:Nat,j≤n∧i= .int .i64 j∧wr.ownsRow w4.heap.size 3 1 v j (I64 ((valL r).take j))∧wr.ownsRow w4.heap.size 3 1 u j (I64 ((Au r.t.kind).take j))∧(∀g,v.ownBlock=some g→u.ownBlock≠some g)∧Below w4.heap.size w4 wr) (fun _ _ _ i _=>n - (intOf i).toNat)
 case atStart=>exact⟨0,Nat.zero_le _,rfl,⟨rfl, .inl ⟨rfl,rfl⟩⟩,⟨rfl, .inl ⟨rfl,rfl⟩⟩,(fun g hg=>by cases hg),Below.refl _ _⟩
 case round=>
  obtain⟨j,hj,rfl,hv,hu,hap,hbel⟩:=hrel
  have HV:=Lib.hid hv
  have HU:=Lib.hid hu
  have HAP:=Lib.hid hap
  have HB:=Lib.hid hbel
  clear hv hu hap hbel
  by_cases hlt:j<n
  ·have hjl:j<(fieldsL r.t.kind).length:=by rw[←HF.out];exact hlt
   obtain⟨⟨o,wd⟩,hx⟩: ∃x,(fieldsL r.t.kind)[j]?=some x:=⟨_,List.getElem?_eq_getElem hjl⟩
   obtain⟨g,rfl,hb,hc,hc'⟩:=(HFS4.out.next HB.out).at hx
   obtain⟨x,hxv,hxr⟩:=pV HK.out hx
   have hw:(Au r.t.kind)[j]?=some wd:=by rw[←Mw,List.getElem?_map,hx];rfl
   have hSr:Ie wr X r:=HS4.out.below hX4 HB.out
   have hcx:(wr.alloc (.cells #[.pointer (some ⟨X,o,none⟩), .int .i64 wd] 143)).cell? ⟨X,o,none⟩=some (.int .i64 x):=(hSr.alloc _).at hxr
   have HW:=Lib.hid hw
   have HXV:=Lib.hid hxv
   have hs0:=HB.out.size
   have b1:(0:Int)≤(j:Int):=by omega
   have b2:(j:Int)<(n:Int):=by omega
   clear hjl hx hw hxv hxr hSr
   go_wp2_with (first
    |(at_builtin;refine Jh _ rfl (.tmp 52) (.tmp 57) 105 rfl w4.heap.size 3 i0 (.int .i64 0) 8 Tryz.underlying105 hi hz0 hz1 hz2 rfl _ j _ rfl ((HV.out.alloc _).alloc _) ⟨wr.heap.size+1,0,none⟩ 1 1 [.int .i64 x] rfl rfl (by omega) (Xo _ _ _) (Vj _) (by unfold maxLen;omega) (by omega) (by simp;omega) ?_;intro v' w5 hown hg hd;have HV5:=Lib.hid hown;have HG5:=Lib.hid hg;have HD5:=Lib.hid hd;have hc3:=hg.cell (Ad3 wr _ wd _) (Afs HV.out (Nat.le_refl _));have HU5:=Lib.hid (((HU.out.alloc _).alloc _).kept hg (vY HAP.out));have hs5:=hg.size;simp at hs5;clear hown hg hd)
    |(at_builtin;refine Jh _ rfl (.tmp 59) (.tmp 62) 105 rfl w4.heap.size 3 i0 (.int .i64 0) 8 Tryz.underlying105 hi hz0 hz1 hz2 rfl _ j _ rfl (HU5.out.alloc _) ⟨w5.heap.size,0,none⟩ 1 1 [.int .i64 wd] rfl rfl (by omega) (AaV _ _) (Vj _) (by unfold maxLen;omega) (by omega) (by simp;omega) ?_;intro u' w6 hown hg hd;have HU6:=Lib.hid hown;have HG6:=Lib.hid hg;have HD6:=Lib.hid hd;clear hown hg hd))
   have hB5:Below w4.heap.size w4 w5:=(((HB.out.alloc hs0 _).alloc (by simp;omega) _)).grown HG5.out (by simp;omega) (fun j hj=>Ak HV.out hj)
   have hB6:Below w4.heap.size w4 w6:=(hB5.alloc (by omega) _).grown HG6.out (by simp;omega) (fun j hj=>Ak HU5.out hj)
   have hA5:=pK HD5.out (((HU.out.alloc (.cells #[] 3)).alloc (.cells #[] 3))) (by simp) HAP.out
   have hV6:=(HV5.out.alloc (.cells #[.int .i64 wd] 3)).kept HG6.out (pJ hA5)
   have hA6:=pL HD6.out (HV5.out.alloc (.cells #[.int .i64 wd] 3)) (by simp) hA5
   have HV7:=Lib.hid (show w6.ownsRow w4.heap.size 3 1 v' (j+1) (I64 ((valL r).take (j+1))) by rw[Lv HXV.out,Ba];exact hV6)
   have HU7:=Lib.hid (show w6.ownsRow w4.heap.size 3 1 u' (j+1) (I64 ((Au r.t.kind).take (j+1))) by rw[Lv HW.out,Ba];exact HU6.out)
   have HA7:=Lib.hid hA6
   have HB7:=Lib.hid hB6
   clear hB5 hB6 hA5 hV6 hA6
   go_wp2
   go_roundw
   case rel=>exact⟨j+1,by omega,by go_num,HV7.out,HU7.out,HA7.out,HB7.out⟩
   case measure=>simp[intOf];omega
  ·have e1:j=n:=by omega
   subst e1
   have e2:(valL r).take j=valL r:=List.take_of_length_le (by rw[HVL.out, ←HN.out];omega)
   have e3:(Au r.t.kind).take j=Au r.t.kind:=List.take_of_length_le (by rw[←HN.out];omega)
   have ho:=HV.out
   have hu:=HU.out
   rw[e2]at ho
   rw[e3]at hu
   obtain⟨A2,c2,rfl,hl2,hzs⟩:=Bo ho
   obtain⟨A3,c3,rfl,hl3,hzu⟩:=Bo hu
   have HZ:=Lib.hid hzs
   have HZU:=Lib.hid hzu
   have HL2:=Lib.hid hl2
   have HL3:=Lib.hid hl3
   have HB3:=Lib.hid (HBL4.out.trans (HB.out.mono HBL4.out.size))
   clear e2 e3 ho hzs hu hzu hl2 hl3
   go_wp2_with (go_at_call 120;refine(uX (valL r) (Au r.t.kind) j j HL2.out HL3.out E p HJ.out A2 A3 c2 c3 _ HZ.out HZU.out (fK HIN.out)).mono ?_;rintro e w7 ⟨A7,c7,rfl,hbs,hb⟩;have HBS:=Lib.hid hbs;have HB9:=Lib.hid (HB3.out.trans (hb.mono HB3.out.size));clear hbs hb)
   go_ret2
   exact⟨A7,c7,rfl,HBS.out,HB9.out⟩
theorem AaX (r:Rg) (hin:InR r) (E:Int) (p:List Nat) (hE:lputX r=(E,p)) (w:World):Calls Tryz.prog 68 #[.agg #[.int .i64 r.t.ser, .int .i64 r.t.kind, .int .i64 r.t.frm, .int .i64 r.t.till, .int .i64 r.t.cls, .int .i64 r.t.card, .int .i64 r.t.seat, .int .i64 r.t.day, .int .i64 r.t.days, .int .i64 r.t.uses, .int .i64 r.t.epoch, .int .i64 r.key, .int .i64 r.left, .int .i64 r.inn, .int .i64 r.ver]] w fun e w'=> ∃A c,e= .returned (.tuple #[.slice A (p.length:Nat) c, .int .i64 E])∧Bs w' w'.heap.size p A c∧Below w.heap.size w w':=by
 cases h:(Hf r&&Jn r)
 ·exact AaU r hin E p hE w h
 ·rw[Bool.and_eq_true]at h
  exact AaW r hin E p hE w h.1 h.2
theorem Fo:(Tryz.prog.info? 182).map (·.size)=some 5:=by kernel_rfl
theorem Aff:(Tryz.prog.info? 4).map (·.size)=some 1:=by kernel_rfl
theorem Pq (x0 x1 x2 x3 x4:Bool):(#[Value.bool x0, .bool x1, .bool x2, .bool x3, .bool x4]:Array Value).all (·.oneCell')=true:=by
 rw[Array.all_eq_true_iff_forall_mem]
 intro u hu
 simp at hu
 rcases hu with rfl|rfl|rfl|rfl|rfl<;>rfl
def Bc (w:World) (b:Nat) (d:B5):Prop:=w.heap[b]?=some (.cells #[.bool d.b0, .bool d.b1, .bool d.b2, .bool d.b3, .bool d.b4] 182 (0,0))
theorem Bc.lt {w:World} {b:Nat} {d:B5} (h:Bc w b d):b<w.heap.size:=(Array.getElem?_eq_some_iff.1 h).1
theorem Bc.next {w w':World} {b:Nat} {d:B5} (h:Bc w b d) (hb:Below w.heap.size w w'):Bc w' b d:=(hb.block _ h.lt).trans h
theorem Bc.cells {w:World} {b:Nat} {d:B5} (h:Bc w b d):w.cell? ⟨b,0,none⟩=some (.bool d.b0)∧w.cell? ⟨b,1,none⟩=some (.bool d.b1)∧w.cell? ⟨b,2,none⟩=some (.bool d.b2)∧w.cell? ⟨b,3,none⟩=some (.bool d.b3)∧w.cell? ⟨b,4,none⟩=some (.bool d.b4):=
 ⟨by rw[cell_of_row w b 0 _ _ (0,0) h];rfl,by rw[cell_of_row w b 1 _ _ (0,0) h];rfl,by rw[cell_of_row w b 2 _ _ (0,0) h];rfl,by rw[cell_of_row w b 3 _ _ (0,0) h];rfl,by rw[cell_of_row w b 4 _ _ (0,0) h];rfl⟩
theorem Bc.some {w:World} {b:Nat} {d:B5} (h:Bc w b d) (j:Nat) (hj:j<5):(w.cell? ⟨b,j,none⟩).isSome=true:=by
 rcases(show j=0∨j=1∨j=2∨j=3∨j=4 by omega)with rfl|rfl|rfl|rfl|rfl
 ·rw[h.cells.1];rfl
 ·rw[h.cells.2.1];rfl
 ·rw[h.cells.2.2.1];rfl
 ·rw[h.cells.2.2.2.1];rfl
 ·rw[h.cells.2.2.2.2];rfl
theorem Bc.frozen {w:World} {b:Nat} {d:B5} (h:Bc w b d) (j:Nat):w.frozen? ⟨b,j,none⟩=false:=frozen_of_row w b j _ _ h
def fB (d:B5) (v:Bool):Nat→B5
 |0=> { d with b0:=v }
 |1=> { d with b1:=v }
 |2=> { d with b2:=v }
 |3=> { d with b3:=v }
 |_=> { d with b4:=v }
def Tc (d:B5):Nat→Bool
 |0=>d.b0
 |1=>d.b1
 |2=>d.b2
 |3=>d.b3
 |_=>d.b4
theorem Bc.set {w:World} {b:Nat} {d:B5} (h:Bc w b d) (v:Bool) (j:Nat) (hj:j<5):Bc (w.setCell ⟨b,j,none⟩ (.bool v)) b (fB d v j):=by
 rcases(show j=0∨j=1∨j=2∨j=3∨j=4 by omega)with rfl|rfl|rfl|rfl|rfl<;>exact heap_setCell_same w b _ _ _ _ h
theorem Bc.get {w:World} {b:Nat} {d:B5} (h:Bc w b d) (j:Nat) (hj:j<5):w.cell? ⟨b,j,none⟩=Option.some (.bool (Tc d j)):=by
 rcases(show j=0∨j=1∨j=2∨j=3∨j=4 by omega)with rfl|rfl|rfl|rfl|rfl
 ·exact h.cells.1
 ·exact h.cells.2.1
 ·exact h.cells.2.2.1
 ·exact h.cells.2.2.2.1
 ·exact h.cells.2.2.2.2
theorem Bc.setAt {w:World} {b b' j:Nat} {d:B5} (h:Bc w b d) (v:Value) (hne:b≠b'):Bc (w.setCell ⟨b',j,none⟩ v) b d:=(heap_setCell_other w _ _ v hne).trans h
theorem Bc.new (w:World) (d:B5):Bc (w.alloc (.cells #[.bool d.b0, .bool d.b1, .bool d.b2, .bool d.b3, .bool d.b4] 182)) w.heap.size d:=heap_alloc_new w _
def upB (n k:Nat):B5:=⟨decide (0<k)&&Ry n 0,decide (1<k)&&Ry n 1,decide (2<k)&&Ry n 2,decide (3<k)&&Ry n 3,decide (4<k)&&Ry n 4⟩
theorem kM (n k:Nat) (hk:k<5):fB (upB n k) (Ry n k) k=upB n (k+1):=by
 rcases(show k=0∨k=1∨k=2∨k=3∨k=4 by omega)with rfl|rfl|rfl|rfl|rfl<;>simp[fB,upB]
theorem fC {c:Int} (h:isC c=true):upB c.toNat 5=Ky c:=by rw[Ky,if_pos h];simp[upB]
theorem Jw (n k:Nat) (hn:n<32) (hk:Bb n=k) (w:World):Calls Tryz.prog 203 #[.int .i64 (n:Int)] w fun e w'=>e= .returned (.int .i64 (k:Int))∧w'=w:=by
 have HN:=Lib.hid hn
 have HK:=Lib.hid hk
 have hk5:k≤5:=by rw[←hk];exact mF n
 clear hn hk
 go_enter Tryz.func203, Tryz.ntmps203
 go_wp2
 go_loop [0,3] (fun a b=> ∃m j:Nat,a= .int .i64 m∧b= .int .i64 j∧m<32∧j+Bb m=k) (fun a _=>(intOf a).toNat)
 case atStart=>exact⟨n,0,rfl,rfl,HN.out,by rw[HK.out,Nat.zero_add]⟩
 case round=>
  obtain⟨m,j,rfl,rfl,hm,hj⟩:=hrel
  have hst:=qL hm
  have hle:=mF m
  have HJ:=Lib.hid hj
  have HM:=Lib.hid hm
  by_cases h0:0<m
  ·have b1:(0:Int)<(m:Int):=by omega
   have wj:IntKind.i64.wrap ((j:Int)+(m:Int) % 2)=(j:Int)+(m:Int) % 2:=IntWalk.i64_in _ (by omega)
   have wq:wrap64 ((m:Int) / 2)=(m:Int) / 2:=by unfold wrap64;omega
   have hq:((m:Int) / 2)=((m / 2:Nat):Int):=by omega
   have hj2:(j:Int)+(m:Int) % 2=((j+m % 2:Nat):Int):=by omega
   have HQ:=Lib.hid hq
   have HJ2:=Lib.hid hj2
   clear hq hj2
   have HS:=Lib.hid hst
   clear hj hm hst hle
   go_wp2
   go_round
   case rel=>exact⟨m / 2,j+m % 2,by first|(rw[wq,HQ.out];done)|(rw[HQ.out];done),by first|(rw[wj,HJ2.out];done)|(rw[HJ2.out];done),by have:=HM.out;omega,by have:=HJ.out;have:=HS.out;omega⟩
   case measure=>(try rw[wq]);simp[intOf];omega
  ·have e:m=0:=by omega
   subst e
   have hjk:j=k:=by have:=HJ.out;simp[Bb]at this;exact this
   clear hj hm hst hle h0
   go_wp2
   go_ret
   exact⟨rfl,rfl⟩
theorem Cn (c x E:Int) (hv:Zq c=x) (hE:Zr c=E) (w:World):Calls Tryz.prog 161 #[.int .i64 c] w fun e w'=>e= .returned (.tuple #[.int .i64 x, .int .i64 E])∧w'=w:=by
 cases h:isC c with
 |false=>
  have e1:x=0:=by rw[←hv,Zq,h];rfl
  have e2:E=1:=by rw[←hE,Zr,h];rfl
  subst e1 e2
  clear hv hE
  cases q1:decide (c<0)
  case true=>
   clear h
   go_enter Tryz.func161, Tryz.ntmps161
   go_wp2
   go_ret2
   exact⟨rfl,rfl⟩
  case false=>
   have q2:decide (31<c)=true:=by
    rw[decide_eq_false_iff_not]at q1
    refine decide_eq_true ?_
    rcases Int.lt_or_le 31 c with h1|h1
    ·exact h1
    ·rw[(Hw c).2 ⟨by omega,h1⟩]at h;cases h
   clear h
   go_enter Tryz.func161, Tryz.ntmps161
   go_wp2
   go_ret2
   exact⟨rfl,rfl⟩
 |true=>
  have hs:=(Hw c).1 h
  have q1:decide (c<0)=false:=decide_eq_false (by omega)
  have q2:decide (31<c)=false:=decide_eq_false (by omega)
  obtain⟨n,hn⟩: ∃n:Nat,c=(n:Int):=⟨c.toNat,by omega⟩
  subst hn
  have ht:(n:Int).toNat=n:=by omega
  have HN:=Lib.hid (show n<32 by omega)
  obtain⟨k,hk⟩: ∃k,Bb n=k:=⟨_,rfl⟩
  have HK:=Lib.hid hk
  have hx:(if k % 2=0 then 0 else(n:Int) % 16)=x:=by rw[←hv,Zq,if_pos h,ht,hk]
  have hE2:(if k % 2=0 then 3 else 0)=E:=by rw[←hE,Zr,if_pos h,ht,hk]
  by_cases hk2:k % 2=0
  ·have q3:((k:Int) % 2==0)=true:=by rw[beq_iff_eq];omega
   rw[if_pos hk2]at hx hE2
   subst hx hE2
   clear hv hE h hs hk hk2
   go_enter Tryz.func161, Tryz.ntmps161
   go_wp2_with (go_at_call 203;refine(Jw n k HN.out HK.out _).mono ?_;rintro e w1 ⟨rfl,rfl⟩)
   go_ret2
   exact⟨rfl,rfl⟩
  ·have q3:((k:Int) % 2==0)=false:=by rw[beq_eq_false_iff_ne];omega
   rw[if_neg hk2]at hx hE2
   subst hE2
   have HX:=Lib.hid hx
   clear hv hE h hs hk hk2 hx
   go_enter Tryz.func161, Tryz.ntmps161
   go_wp2_with (go_at_call 203;refine(Jw n k HN.out HK.out _).mono ?_;rintro e w1 ⟨rfl,rfl⟩)
   go_ret2
   exact⟨by rw[←HX.out];rfl,rfl⟩
theorem bG: ∀a:Nat,a<16→ ∀b:Nat,b<16→bits BinOp.xor IntKind.i64 (a:Int) (b:Int)=((a^^^b:Nat):Int):=by decide
theorem fD {l:List Int} {k:Nat} {z:Int} (hz:l[k]?=some z) (h:isV z=false):Hj l=false:=by
 cases hs:Hj l with
 |false=>rfl
 |true=>
  have:=(List.all_eq_true.1 hs) z (List.mem_of_getElem? hz)
  rw[h]at this;cases this
theorem Je (l:List Int) (n:Nat) (hn:n=l.length) (A:Option Addr) (c:Nat) (x E:Int) (hv:gE l=x) (hE:gF l=E) (w:World) (hA:Zs w w.heap.size l A c):Calls Tryz.prog 127 #[.slice A n c] w fun e w'=>e= .returned (.tuple #[.int .i64 x, .int .i64 E])∧w'=w:=by
 have HN:=Lib.hid hn
 have HV:=Lib.hid hv
 have HE:=Lib.hid hE
 have HA:=Lib.hid hA
 have hc:=hA.cap
 have hlc:=hA.len
 have hn3:n≤9223372036854775807:=by omega
 clear hn hv hE hA hc hlc
 go_enter Tryz.func127, Tryz.ntmps127
 go_wp2
 go_loop [4,5] (fun s i=> ∃k:Nat,k≤n∧i= .int .i64 k∧s= .int .i64 (sumX (l.take k):Nat)∧Hj (l.take k)=true) (fun _ i=>n - (intOf i).toNat)
 case atStart=>exact⟨0,by omega,rfl,rfl,rfl⟩
 case round=>
  obtain⟨k,hk,rfl,rfl,hok⟩:=hrel
  have HO:=Lib.hid hok
  clear hok
  by_cases hlt:k<n
  ·have hkl:k<l.length:=by rw[←HN.out];exact hlt
   obtain⟨z,hz⟩: ∃z,l[k]?=some z:=⟨_,List.getElem?_eq_getElem hkl⟩
   obtain⟨ad,rfl,hadl,hc⟩:=HA.out.at hz
   have b1:(k:Int)<(n:Int):=by omega
   have b0:(0:Int)≤(k:Int):=by omega
   have HZ:=Lib.hid hz
   clear hz hkl hadl
   cases q1:decide (z<0)
   case false=>
    cases q2:decide (15<z)
    case false=>
     have hvz:isV z=true:=by rw[decide_eq_false_iff_not]at q1 q2;exact(Er z).2 ⟨by omega,by omega⟩
     obtain⟨m,hm⟩: ∃m:Nat,z=(m:Int):=⟨z.toNat,by have:=(Er z).1 hvz;omega⟩
     have hx:bits BinOp.xor IntKind.i64 ((sumX (l.take k):Nat):Int) z=((sumX (l.take (k+1)):Nat):Int):=by
      rw[cK HZ.out,hm]
      exact bG _ (tG _ HO.out) m (by have:=(Er z).1 hvz;omega)
     have HS:=Lib.hid hx
     have HO2:=Lib.hid (show Hj (l.take (k+1))=true by rw[Yj HZ.out,HO.out,hvz];rfl)
     clear hlt hm hx hvz
     go_wp2
     case roundEnd=>exact⟨⟨k+1,by omega,by go_num,by rw[HS.out],HO2.out⟩,by simp[intOf];omega⟩
    case true=>
     have hb:isV z=false:=by
      cases hb:isV z with
      |false=>rfl
      |true=>have h1:=(Er z).1 hb;rw[decide_eq_true_iff]at q2;omega
     have hs:=fD HZ.out hb
     have e1:x=0:=by rw[←HV.out,gE,hs];rfl
     have e2:E=1:=by rw[←HE.out,gF,hs];rfl
     subst e1 e2
     clear hb hs
     go_wp2
     go_ret2
     exact⟨rfl,rfl⟩
   case true=>
    have hb:isV z=false:=by
     cases hb:isV z with
     |false=>rfl
     |true=>have h1:=(Er z).1 hb;rw[decide_eq_true_iff]at q1;omega
    have hs:=fD HZ.out hb
    have e1:x=0:=by rw[←HV.out,gE,hs];rfl
    have e2:E=1:=by rw[←HE.out,gF,hs];rfl
    subst e1 e2
    clear hb hs
    go_wp2
    go_ret2
    exact⟨rfl,rfl⟩
  ·have e:k=n:=by omega
   have ht:l.take k=l:=by rw[e,HN.out];exact List.take_length
   have hs:Hj l=true:=by have:=HO.out;rwa[ht]at this
   have e1:((sumX l:Nat):Int)=x:=by rw[←HV.out,gE,if_pos hs]
   have e2:E=0:=by rw[←HE.out,gF,if_pos hs]
   subst e2
   have hnb: ¬((k:Int)<(n:Int)):=by omega
   rw[ht,e1]
   clear ht hs e1 hlt e
   go_wp2
   go_ret2
   exact⟨rfl,rfl⟩
def NZ (vs:List Nat):List Int:=vs.map fun x:Nat=>(x:Int)
theorem Pr (vs:List Nat):(NZ vs).length=vs.length:=by simp[NZ]
theorem sM {vs:List Nat} {k v:Nat} (h:vs[k]?=some v):(NZ vs)[k]?=some ((v:Int)):=by simp[NZ,h]
theorem Ad4 (vs:List Nat):sumX (NZ vs)=xorL vs:=by
 unfold sumX NZ xorL
 rw[List.foldl_map]
 rfl
theorem kN {vs:List Nat} (h: ∀v∈vs,v<16):Hj (NZ vs)=true:=by
 rw[Hj,List.all_eq_true]
 intro z hz
 simp only[NZ,List.mem_map]at hz
 obtain⟨x,hx,rfl⟩:=hz
 exact(Er _).2 ⟨by omega,by have:=h x hx;omega⟩
theorem fE {vs:List Nat} (h: ∀v∈vs,v<16):gE (NZ vs)=((xorL vs:Nat):Int)∧gF (NZ vs)=0:=by
 rw[gE,gF,if_pos (kN h),if_pos (kN h),Ad4]
 exact⟨rfl,rfl⟩
def B5L (b:B5):List Bool:=[b.b0,b.b1,b.b2,b.b3,b.b4]
theorem Ps: ∀v:Nat,v<16→Yh (v:Int)=((charN v:Nat):Int)∧Yi (v:Int)=0∧Mi ((charN v:Nat):Int)=0∧B5L (Ky ((charN v:Nat):Int))=Oo v:=by decide
theorem Afg (b:B5) (q:Nat) (h:q<5):(B5L b)[q]?=some (Tc b q):=by
 rcases(show q=0∨q=1∨q=2∨q=3∨q=4 by omega)with rfl|rfl|rfl|rfl|rfl<;>rfl
theorem AaY (b:B5) (q:Nat) (h:q<5):(B5L b).take (q+1)=(B5L b).take q++ [Tc b q]:=by
 rw[List.take_add_one,Afg b q h];rfl
theorem Ui {vs:List Nat} {k v:Nat} (h:vs[k]?=some v):Ap (vs.take (k+1))=Ap (vs.take k)++Oo v:=by
 rw[List.take_add_one,h,Hu];simp[Ap]
theorem Bc.grown {w w':World} {base n X:Nat} {v:Value} {xs:List Value} {d:B5} (h:Bc w X d) (hown:w.ownsRow base 4 1 v n xs) (hg:w.grownBy w' v.ownBlock):Bc w' X d:=by
 refine(hg.block X h.lt ?_).trans h
 intro e
 rcases hown.2 with⟨rfl,_⟩|⟨g,cap,cur,rfl,_,hgg,_⟩
 ·cases e
 ·have e2:X=g:=by simpa[Value.ownBlock]using e
  subst e2
  rw[Bc,hgg]at h
  simp at h
theorem Ad5 {w:World} {X:Nat} {d:B5} (h:Bc w X d): ∀j u,(BL (B5L d))[j]?=some u→w.cell? ((⟨X,0,none⟩:Addr).add j)=some u:=by
 obtain⟨h0,h1,h2,h3,h4⟩:=h.cells
 intro j u hu
 rw[Bu]
 match j,hu with
 |0,hu=>cases hu;exact h0
 |1,hu=>cases hu;exact h1
 |2,hu=>cases hu;exact h2
 |3,hu=>cases hu;exact h3
 |4,hu=>cases hu;exact h4
 |j+5,hu=>simp[BL,B5L]at hu
theorem Uj {d:List Nat} {k x:Nat} (h:d[k]?=some x):Aw (d.take (k+1))=(Aw (d.take k)&&decide (x≤9)):=by
 rw[List.take_add_one,h,Aw,Aw,List.all_append];simp
theorem Xd {d:List Nat} {k x:Nat} (h:d[k]?=some x) (hx: ¬x≤9):Aw d=false:=by
 cases hs:Aw d with
 |false=>rfl
 |true=>
  have:=(List.all_eq_true.1 hs) x (List.mem_of_getElem? h)
  simp at this
  omega
theorem Uk {d:List Nat} (h:Aw d=true): ∀v∈putVals d,v<16:=by
 intro v hv
 simp only[putVals,List.mem_cons,List.mem_append,List.not_mem_nil,or_false]at hv
 rcases hv with rfl|hv|rfl
 ·omega
 ·have:=(List.all_eq_true.1 h) v hv
  simp at this
  omega
 ·omega
theorem Aew {d:List Nat} (h:Aw d=true): ∀v∈trackV d,v<16:=by
 intro v hv
 simp only[trackV,List.mem_append,List.mem_singleton]at hv
 rcases hv with hv|rfl
 ·exact Uk h v hv
 ·exact dS _ (Uk h)
theorem sN {d:List Nat} {k x:Nat} (h:d[k]?=some x):NZ (11::d.take (k+1))=NZ (11::d.take k)++ [(x:Int)]:=by
 rw[List.take_add_one,h];simp[NZ]
theorem sO (d:List Nat):NZ (putVals d)=NZ (11::d)++ [15]:=by simp[NZ,putVals]
theorem Aex (d:List Nat):NZ (trackV d)=NZ (putVals d)++ [((xorL (putVals d):Nat):Int)]:=by simp[NZ,trackV]
theorem Gq (w:World) (x:Int): ∀j u,(I64 [x])[j]?=some u→(w.alloc (.cells #[.int .i64 x] 3)).cell? ((⟨w.heap.size,0,none⟩:Addr).add j)=some u:=by
 intro j u hu
 rw[Bu,cell_of_row _ _ j _ 3 (0,0) (heap_alloc_new w _)]
 simpa[I64]using hu
open Go.ChangeShapes Go.WideShapes Go.ChangeAt Go.RowKit
def exE:Except Int (List Nat)→Int
 | .error e=>e
 | .ok _=>0
def exL:Except Int (List Nat)→List Nat
 | .error _=>[]
 | .ok d=>d
theorem Pu (b:List Nat):Du b=exE (Hy b):=by
 unfold Du exE;cases Hy b<;>rfl
theorem Pv (b:List Nat):Hk b=exL (Hy b):=by
 unfold Hk exL;cases Hy b<;>rfl
theorem Vf {b:List Nat} (h:b.length<2∨50<b.length):Du b=14∧Hk b=[]:=by
 rw[Pu,Pv,Hy,if_pos h];exact⟨rfl,rfl⟩
theorem vZ {b:List Nat} (h: ¬(b.length<2∨50<b.length)) (h2:chAt (Ag b) 0≠11):Du b=4∧Hk b=[]:=by
 rw[Pu,Pv,Hy,if_neg h,if_pos h2];exact⟨rfl,rfl⟩
theorem AaZ {b:List Nat} (h: ¬(b.length<2∨50<b.length)) (h2:chAt (Ag b) 0=11) {R:Except Int (List Nat × Nat)} (hR:Dw (Ag b) (Ag b).length 5 []=R):
  (∀e,R= .error e→Du b=e∧Hk b=[])∧(∀out i,R= .ok (out,i)→Du b=exE (Ey b (Ag b) out i)∧Hk b=exL (Ey b (Ag b) out i)):=by
 rw[Pu,Pv,Hy,if_neg h,if_neg (by rw[h2];decide),hR]
 constructor
 ·intro e he;subst he;exact⟨rfl,rfl⟩
 ·intro out i he;subst he;exact⟨rfl,rfl⟩
section
variable {l:List Bool} {f i:Nat} {out:List Nat}
theorem kO (h:l.length<i+5):Dw l f i out= .error 5:=by
 cases f with
 |zero=>rfl
 |succ f=>rw[Dw,if_pos h]
theorem kP (hf:l.length+5≤f+i) (h:i+5≤l.length) (h1:Bb (chAt l i) % 2=0):Dw l f i out= .error 3:=by
 obtain⟨g,rfl⟩: ∃g,f=g+1:=⟨f - 1,by omega⟩
 rw[Dw,if_neg (by omega),if_pos h1]
theorem kQ (hf:l.length+5≤f+i) (h:i+5≤l.length) (h1: ¬Bb (chAt l i) % 2=0) (h2:9<chAt l i % 16) (h3:chAt l i % 16≠15):Dw l f i out= .error 7:=by
 obtain⟨g,rfl⟩: ∃g,f=g+1:=⟨f - 1,by omega⟩
 rw[Dw,if_neg (by omega),if_neg h1,if_pos ⟨h2,h3⟩]
theorem sP (hf:l.length+5≤f+i) (h:i+5≤l.length) (h1: ¬Bb (chAt l i) % 2=0) (h3:chAt l i % 16=15):Dw l f i out= .ok (out,i+5):=by
 obtain⟨g,rfl⟩: ∃g,f=g+1:=⟨f - 1,by omega⟩
 rw[Dw,if_neg (by omega),if_neg h1,if_neg (by omega),if_pos h3]
theorem bH (hf:l.length+5≤f+i) (h:i+5≤l.length) (h1: ¬Bb (chAt l i) % 2=0) (h2: ¬9<chAt l i % 16): ∃g,l.length+5≤g+(i+5)∧Dw l f i out=Dw l g (i+5) (out++ [chAt l i % 16]):=by
 obtain⟨g,rfl⟩: ∃g,f=g+1:=⟨f - 1,by omega⟩
 refine⟨g,by omega, ?_⟩
 rw[Dw,if_neg (by omega),if_neg h1,if_neg (by omega),if_neg (by omega)]
variable {b:List Nat}
theorem Aba (h:l.length<i+5):Ey b l out i= .error 5:=by rw[Ey,if_pos h]
theorem Abb (h:i+5≤l.length) (h1:Bb (chAt l i) % 2=0):Ey b l out i= .error 3:=by rw[Ey,if_neg (by omega),if_pos h1]
theorem Abc (h:i+5≤l.length) (h1: ¬Bb (chAt l i) % 2=0) (h2:chAt l i % 16≠xorL (putVals out)):Ey b l out i= .error 6:=by rw[Ey,if_neg (by omega),if_neg h1,if_pos h2]
theorem Abd (h:i+5≤l.length) (h1: ¬Bb (chAt l i) % 2=0) (h2:chAt l i % 16=xorL (putVals out)) (h3:77<out.length):Ey b l out i= .error 21:=by rw[Ey,if_neg (by omega),if_neg h1,if_neg (by rw[h2];exact fun h=>h rfl),if_pos h3]
theorem Abe (h:i+5≤l.length) (h1: ¬Bb (chAt l i) % 2=0) (h2:chAt l i % 16=xorL (putVals out)) (h3: ¬77<out.length) (h4:packL (l.take (i+5))≠b):Ey b l out i= .error 14:=by rw[Ey,if_neg (by omega),if_neg h1,if_neg (by rw[h2];exact fun h=>h rfl),if_neg h3,if_pos h4]
theorem Ad6 (h:i+5≤l.length) (h1: ¬Bb (chAt l i) % 2=0) (h2:chAt l i % 16=xorL (putVals out)) (h3: ¬77<out.length) (h4:packL (l.take (i+5))=b):Ey b l out i= .ok out:=by rw[Ey,if_neg (by omega),if_neg h1,if_neg (by rw[h2];exact fun h=>h rfl),if_neg h3,if_neg (by rw[h4];exact fun h=>h rfl)]
end
theorem fF (c:Nat) (hc:c<32) (h: ¬Bb c % 2=0):Zq (c:Int)=((c % 16:Nat):Int)∧Zr (c:Int)=0:=by
 have hi:isC (c:Int)=true:=(Hw _).2 ⟨by omega,by omega⟩
 rw[Zq,Zr,if_pos hi,if_pos hi,Int.toNat_natCast,if_neg h,if_neg h]
 exact⟨by omega,rfl⟩
theorem Xe (c:Nat) (hc:c<32) (h:Bb c % 2=0):Zq (c:Int)=0∧Zr (c:Int)=3:=by
 have hi:isC (c:Int)=true:=(Hw _).2 ⟨by omega,by omega⟩
 rw[Zq,Zr,if_pos hi,if_pos hi,Int.toNat_natCast,if_pos h,if_pos h]
 exact⟨rfl,rfl⟩
theorem wA {w:World} {base base' n m:Nat} {e e':TypeId} {v u:Value} {xs ys:List Value} (h:w.ownsRow base e 1 v n xs) (h':w.ownsRow base' e' 1 u m ys) (hne:e≠e'):v.ownBlock=none∨v.ownBlock≠u.ownBlock:=by
 rcases h.2 with⟨rfl,_⟩|⟨g,cap,cur,rfl,_,hg,_⟩
 ·exact .inl rfl
 ·right
  rcases h'.2 with⟨rfl,_⟩|⟨g',cap',cur',rfl,_,hg',_⟩
  ·simp[Value.ownBlock]
  ·intro e2
   have e3:g=g':=by simpa[Value.ownBlock]using e2
   subst e3
   rw[hg]at hg'
   simp at hg'
   exact hne hg'.2
theorem Jf {w w':World} {base base' n m:Nat} {e e':TypeId} {v u:Value} {xs ys:List Value} (hg:w.grownBy w' u.ownBlock) (h:w.ownsRow base e 1 v n xs) (h':w.ownsRow base' e' 1 u m ys) (hne:e≠e'):w'.ownsRow base e 1 v n xs:=h.kept hg (wA h h' hne)
theorem fG (out:List Nat) (d:Nat):NZ (11::(out++ [d]))=NZ (11::out)++ [(d:Int)]:=by simp[NZ]
theorem Ad7 {out:List Nat} (h:Aw out=true): ∃z:Nat,(NZ (11::out))[out.length]?=some ((z:Int))∧z<15:=by
 obtain⟨x,hx⟩: ∃x,(11::out)[out.length]?=some x:=⟨_,List.getElem?_eq_getElem (by simp)⟩
 refine⟨x,sM hx, ?_⟩
 have:=List.mem_of_getElem? hx
 rcases List.mem_cons.1 this with rfl|hm
 ·omega
 ·have:=(List.all_eq_true.1 h) x hm
  simp at this
  omega
theorem Ad8 (out:List Nat):(NZ (putVals out))[out.length+1]?=some 15:=by
 have:(putVals out)[out.length+1]?=some 15:=by simp[putVals]
 exact sM this
theorem Abf (w:World) (x:Nat): ∀j u,(U8 [x])[j]?=some u→(w.alloc (.cells #[.int .u8 (x:Int)] 5)).cell? ((⟨w.heap.size,0,none⟩:Addr).add j)=some u:=by
 intro j u hu
 rw[Bu,cell_of_row _ _ j _ 5 (0,0) (heap_alloc_new w _)]
 simpa[U8]using hu
end Go.Proofs.YtmdbfogjfbbpjaaGreatDoor
end
section
namespace Go.Proofs.YtmdbfogjfbbpjaaGreatDoor
def cntUp (b:B5):Nat→Nat
 |0=>0
 |k+1=>cntUp b k+(Tc b k).toNat
def orUp (b:B5):Nat→Nat
 |0=>0
 |k+1=>if Tc b k=true then orUp b k|||2^k else orUp b k
def gB (n:Nat):B5:=fB (upB n 5) (cntUp (upB n 5) 5 % 2==0) 4
theorem kR (b:B5) (k:Nat):cntUp b k≤k:=by
 induction k with
 |zero=>exact Nat.le_refl 0
 |succ k ih=>
  show cntUp b k+(Tc b k).toNat≤k+1
  cases Tc b k
  ·show cntUp b k+0≤k+1;omega
  ·show cntUp b k+1≤k+1;omega
theorem Ad9 (b:B5) {k:Nat} (hk:k≤5):orUp b k<32:=by
 obtain⟨b0,b1,b2,b3,b4⟩:=b
 rcases(show k=0∨k=1∨k=2∨k=3∨k=4∨k=5 by omega)with rfl|rfl|rfl|rfl|rfl|rfl<;>cases b0<;>cases b1<;>cases b2<;>cases b3<;>cases b4<;>decide
theorem Abg (b:B5):((orUp b 5:Nat):Int)=ofB b:=by
 obtain⟨b0,b1,b2,b3,b4⟩:=b
 cases b0<;>cases b1<;>cases b2<;>cases b3<;>cases b4<;>decide
theorem AdA: ∀n:Nat,n<16→ofB (gB n)=Yh (n:Int):=by decide
theorem Abh: ∀n:Nat,n<32→(upB n 5=gB (n % 16))=(Bb n % 2=1):=by
 intro n hn
 have: ∀n:Nat,n<32→(decide (upB n 5=gB (n % 16))=decide (Bb n % 2=1)):=by decide
 simpa using this n hn
theorem Abi: ∀a:Nat,a<32→ ∀k:Nat,k<5→bits BinOp.or IntKind.i64 (a:Int) (2^k)=((a|||2^k:Nat):Int):=by decide
theorem wB: ∀n:Nat,n<32→ ∀k:Nat,k<5→(bits BinOp.and IntKind.i64 ((n:Int) / 2^k) 1==1)=Ry n k:=by decide
theorem bI: ∀k:Nat,k<5→IntKind.i64.wrap ((1:Int)*2^k)=2^k:=by decide
end Go.Proofs.YtmdbfogjfbbpjaaGreatDoor
end
section
namespace Go.Proofs.YtmdbfogjfbbpjaaGreatDoor
open Go.ChangeShapes Go.WideShapes Go.ChangeAt Go.RowKit
theorem In (v:Int) (b:Bool) (hb:isV v=b) (w:World):Calls Tryz.prog 218 #[.int .i64 v] w fun e w'=>e= .returned (.bool b)∧w'=w:=by
 have hb2:(decide (0≤v)&&decide (v<16))=b:=by
  rw[←hb]
  cases h:isV v
  ·rcases Int.lt_or_le v 0 with h1|h1
   ·simp;intro h2;omega
   ·rcases Int.lt_or_le v 16 with h2|h2
    ·rw[(Er v).2 ⟨h1,by omega⟩]at h;cases h
    ·simp;intro h3;omega
  ·have:=(Er v).1 h
   simp;omega
 have HB:=Lib.hid hb2
 clear hb hb2
 cases h0:decide (0≤v)<;>cases h1:decide (v<16)
 all_goals
  have H0:=Lib.hid h0
  have H1:=Lib.hid h1
  go_enter Tryz.func218, Tryz.ntmps218
  go_wp2
  go_ret
  refine⟨congrArg Ending.returned (congrArg Value.bool ?_),rfl⟩
  rw[←HB.out,H0.out,H1.out]
  rfl
theorem Pw (n:Nat) (b:B5) (hn:n<32) (hb:upB n 5=b) (w:World):Calls Tryz.prog 216 #[.int .i64 (n:Int)] w fun e w'=>e= .returned (.agg #[.bool b.b0, .bool b.b1, .bool b.b2, .bool b.b3, .bool b.b4])∧Below w.heap.size w w':=by
 obtain⟨w1,hw1⟩: ∃w1,w1=w.alloc (.cells #[.bool false, .bool false, .bool false, .bool false, .bool false] 182):=⟨_,rfl⟩
 obtain⟨w2,hw2⟩: ∃w2,w2=w1.alloc (.cells #[.bool false, .bool false, .bool false, .bool false, .bool false] 182):=⟨_,rfl⟩
 have hsz:w1.heap.size=w.heap.size+1:=by rw[hw1];exact Array.size_push ..
 have HB:Hid (Below w.heap.size w w2):=Lib.hid (by rw[hw2,hw1];exact(Aa w _ _).trans ((Aa _ _ _).mono (Aa w _ _).size))
 have HR:Hid (Bc w2 w.heap.size noB):=Lib.hid (by rw[hw2];exact Bc.next (by rw[hw1];exact Bc.new w noB) (Aa w1 _ _))
 have HX:Hid (Bc w2 (w.heap.size+1) noB):=Lib.hid (by rw[hw2, ←hsz];exact Bc.new w1 noB)
 have HW:Hid ((w.alloc (.cells #[.bool false, .bool false, .bool false, .bool false, .bool false] 182)).alloc (.cells #[.bool false, .bool false, .bool false, .bool false, .bool false] 182)=w2):=Lib.hid (by rw[hw2,hw1])
 have HBB:=Lib.hid hb
 have HN:=Lib.hid hn
 clear hw1 hw2 hsz w1 hb hn
 go_enter Tryz.func216, Tryz.ntmps216
 go_wp2
 rw[HW.out]
 go_loopw [6] (fun i wr=> ∃k:Nat,k≤5∧i= .int .i64 k∧Bc wr (w.heap.size+1) (upB n k)∧Bc wr w.heap.size noB∧Below w.heap.size w wr) (fun i _=>5 - (intOf i).toNat)
 case atStart=>exact⟨0,by omega,rfl,HX.out,HR.out,HB.out⟩
 case round=>
  obtain⟨k,hk,rfl,hx,hr,hbel⟩:=hrel
  replace HX:=Lib.hid hx
  replace HR:=Lib.hid hr
  replace HB:=Lib.hid hbel
  clear hx hr hbel
  by_cases hlt:k<5
  ·have hbit:=wB n HN.out k hlt
   have HBIT:=Lib.hid hbit
   have b1:(k:Int)<5:=by omega
   have b0:(0:Int)≤(k:Int):=by omega
   have b2:(k:Int)≤64:=by omega
   clear hbit
   have fz:=HX.out.frozen k
   have hsm:=HX.out.get k hlt
   go_wp2
   case roundEnd=>exact⟨⟨k+1,by omega,by go_num,by rw[HBIT.out, ←kM n k hlt];exact HX.out.set _ k hlt,HR.out.setAt _ (by omega),HB.out.setCell (p:=⟨w.heap.size+1,k,none⟩) (by simp) _⟩,by simp[intOf];omega⟩
  ·have e:k=5:=by omega
   subst e
   have hb1: ¬(((5:Nat):Int)<5):=by omega
   rw[HBB.out]at HX
   obtain⟨c0,c1,c2,c3,c4⟩:=HX.out.cells
   clear hlt hk
   go_wp2_with ((with_reducible refine Ac 2 ?_);refine Ad (o:=⟨none, .store 182 (.tmp 2) (.tmp 17),_,_,_,_⟩) rfl 182 (.tmp 2) (.tmp 17) rfl w.heap.size #[.bool b.b0, .bool b.b1, .bool b.b2, .bool b.b3, .bool b.b4] rfl rfl 182 #[.bool false, .bool false, .bool false, .bool false, .bool false] HR.out Fo rfl (Pq _ _ _ _ _) ?_;intro w5 hw5)
   have hr5:=setRow_heap wr w.heap.size #[.bool false, .bool false, .bool false, .bool false, .bool false] #[.bool b.b0, .bool b.b1, .bool b.b2, .bool b.b3, .bool b.b4] 182 (0,0) HR.out
   rw[←hw5.out]at hr5
   have hb5:=An hw5.out (Nat.le_refl w.heap.size)
   refine bodyPost_ret (Ic Tryz.results216 _ w5 w.heap.size 182 #[.bool b.b0, .bool b.b1, .bool b.b2, .bool b.b3, .bool b.b4] (0,0) _ rfl hr5 Tryz.underlying182 rfl Fo) rfl ⟨rfl,HB.out.trans hb5⟩
end Go.Proofs.YtmdbfogjfbbpjaaGreatDoor
end
