import Derived.Test.YtmdbfogjfbbpjaaGreatDoorFieldsPGet
import Derived.Test.YtmdbfogjfbbpjaaGreatDoorAcrossCrossed
import Derived.Test.YtmdbfogjfbbpjaaGreatDoorTrackPGet
import Derived.Test.YtmdbfogjfbbpjaaGreatDoorRingPFind
import Derived.Test.YtmdbfogjfbbpjaaGreatDoorLayPFields
import Derived.BigRegion
import Derived.Laws.EntriesVeiled
namespace Go.Proofs.YtmdbfogjfbbpjaaGreatDoor
set_option linter.unusedVariables false
open Go.ChangeShapes Go.WideShapes Go.ChangeAt Go.RowKit
def AwBox (w:World) (b fd fs fe:Nat) (x y:Value):Prop:=w.heap[b]?=some (.cells #[.func (.func fd) #[] #[], .func (.func fs) #[] #[x,y], .func (.func fe) #[] #[]] 52 (0,0))
theorem AwBox.lt {w:World} {b fd fs fe:Nat} {x y:Value} (h:AwBox w b fd fs fe x y):b<w.heap.size:=(Array.getElem?_eq_some_iff.1 h).1
theorem AwBox.next {w w':World} {b fd fs fe:Nat} {x y:Value} (h:AwBox w b fd fs fe x y) (hb:Below w.heap.size w w'):AwBox w' b fd fs fe x y:=(hb.block _ h.lt).trans h
theorem AwBox.cells {w:World} {b fd fs fe:Nat} {x y:Value} (h:AwBox w b fd fs fe x y):w.cell? ⟨b,0,none⟩=some (.func (.func fd) #[] #[])∧w.cell? ⟨b,1,none⟩=some (.func (.func fs) #[] #[x,y])∧w.cell? ⟨b,2,none⟩=some (.func (.func fe) #[] #[]):=
 ⟨by rw[cell_of_row w b 0 _ _ (0,0) h];rfl,by rw[cell_of_row w b 1 _ _ (0,0) h];rfl,by rw[cell_of_row w b 2 _ _ (0,0) h];rfl⟩
set_option maxRecDepth 100000 in
set_option maxHeartbeats 1600000 in
theorem take_any (fd fs fe:Nat) (he1: ∀(a:Array Value) (w:World),(callFunc fd a).run Tryz.prog w= .ok (.enter fd a) w) (he2: ∀(a:Array Value) (w:World),(callFunc fs a).run Tryz.prog w= .ok (.enter fs a) w) (he3: ∀(a:Array Value) (w:World),(callFunc fe a).run Tryz.prog w= .ok (.enter fe a) w) (x y:Value) (n:Nat) (A:Option Addr) (c:Nat) (m:Nat) (B:Option Addr) (d:Nat) (q r:Rg) (G F:Int) (p:List Nat) (w:World) (hD: ∀w',Below w.heap.size w w'→Calls Tryz.prog fd #[.slice A n c, .slice B m d] w' fun e w''=>e= .returned (.tuple #[.agg #[.int .i64 r.t.ser, .int .i64 r.t.kind, .int .i64 r.t.frm, .int .i64 r.t.till, .int .i64 r.t.cls, .int .i64 r.t.card, .int .i64 r.t.seat, .int .i64 r.t.day, .int .i64 r.t.days, .int .i64 r.t.uses, .int .i64 r.t.epoch, .int .i64 r.key, .int .i64 r.left, .int .i64 r.inn, .int .i64 r.ver], .int .i64 G])∧Below w'.heap.size w' w'') (hS: ∀w',Below w.heap.size w w'→Calls Tryz.prog fs #[.agg #[.int .i64 r.t.ser, .int .i64 r.t.kind, .int .i64 r.t.frm, .int .i64 r.t.till, .int .i64 r.t.cls, .int .i64 r.t.card, .int .i64 r.t.seat, .int .i64 r.t.day, .int .i64 r.t.days, .int .i64 r.t.uses, .int .i64 r.t.epoch],x,y] w' fun e w''=>e= .returned (.agg #[.int .i64 q.t.ser, .int .i64 q.t.kind, .int .i64 q.t.frm, .int .i64 q.t.till, .int .i64 q.t.cls, .int .i64 q.t.card, .int .i64 q.t.seat, .int .i64 q.t.day, .int .i64 q.t.days, .int .i64 q.t.uses, .int .i64 q.t.epoch, .int .i64 q.key, .int .i64 q.left, .int .i64 q.inn, .int .i64 q.ver])∧Below w'.heap.size w' w'') (hF:G=0→ ∀w',Below w.heap.size w w'→Calls Tryz.prog fe #[.slice A n c, .agg #[.int .i64 q.t.ser, .int .i64 q.t.kind, .int .i64 q.t.frm, .int .i64 q.t.till, .int .i64 q.t.cls, .int .i64 q.t.card, .int .i64 q.t.seat, .int .i64 q.t.day, .int .i64 q.t.days, .int .i64 q.t.uses, .int .i64 q.t.epoch, .int .i64 q.key, .int .i64 q.left, .int .i64 q.inn, .int .i64 q.ver]] w' fun e w''=> ∃A' c',e= .returned (.tuple #[.slice A' (p.length:Nat) c', .int .i64 F])∧Bs w'' w''.heap.size p A' c'∧Below w'.heap.size w' w'') (E:Int) (p':List Nat) (i j:Int) (hE:(if G≠0 then(G,[],0,0)else if F≠0 then(F,[],0,0)else(0,p,r.left,r.inn))=(E,p',i,j)):Calls Tryz.prog 23 #[.agg #[.func (.func fd) #[] #[], .func (.func fs) #[] #[x,y], .func (.func fe) #[] #[]], .slice A n c, .slice B m d] w fun e w'=> ∃A' c',e= .returned (.tuple #[.slice A' (p'.length:Nat) c', .agg #[.int .i64 i, .int .i64 j], .int .i64 E])∧Bs w' w'.heap.size p' A' c'∧Below w.heap.size w w':=by
 have HD:=Lib.hid hD
 have HS:=Lib.hid hS
 have HF:=Lib.hid hF
 have HE:=Lib.hid hE
 clear hD hS hF hE
 have HBL:=Lib.hid (Below.refl w.heap.size w)
 go_enter Tryz.func23, Tryz.ntmps23
 go_wp2_with fail
 obtain⟨w0,hw0⟩: ∃w0,w0=w.alloc (.cells #[.func (.func fd) #[] #[], .func (.func fs) #[] #[x,y], .func (.func fe) #[] #[]] 52):=⟨_,rfl⟩
 have e1:w.heap.size+1=w0.heap.size:=by rw[hw0];simp
 rw[←hw0,e1]
 obtain⟨w1,hw1⟩: ∃w1,w1=w0.alloc (.cells #[.int .i64 0, .int .i64 0] 26):=⟨_,rfl⟩
 rw[←hw1]
 have b0:Below w.heap.size w w0:=by rw[hw0];exact Aa w _ _
 have b1:Below w0.heap.size w0 w1:=by rw[hw1];exact Aa w0 _ _
 have X0:=Lib.hid (show AwBox w1 w.heap.size fd fs fe x y from AwBox.next (show AwBox w0 w.heap.size fd fs fe x y by rw[hw0];exact heap_alloc_new w _) b1)
 have JX:=Lib.hid (show Cd w1 w0.heap.size 0 0 by rw[hw1];exact Cd.new w0 0 0)
 have HGB:=Lib.hid (show w.heap.size≤w0.heap.size by omega)
 replace HBL:=Lib.hid (b0.trans (b1.mono b0.size))
 clear b0 b1 hw0 hw1 e1
 obtain⟨BJ,hB⟩: ∃B,B=w0.heap.size:=⟨_,rfl⟩
 rw[←hB]at JX HGB⊢
 clear hB
 obtain⟨BW,hB⟩: ∃B,B=w.heap.size:=⟨_,rfl⟩
 rw[←hB]at X0⊢
 clear hB
 refine(HD.out w1 HBL.out).mono ?_
 rintro e w2 ⟨rfl,hb⟩
 replace X0:=Lib.hid (X0.out.next hb)
 replace JX:=Lib.hid (JX.out.next hb)
 replace HBL:=Lib.hid (HBL.out.trans (hb.mono HBL.out.size))
 clear hb
 have hE:=HE.out
 clear HE
 by_cases h0:G≠0
 focus
  rw[if_pos h0]at hE
  have s1:(G==0)=false:=by rw[beq_eq_false_iff_ne];exact h0
  have s2:(G !=0)=true:=by rw[bne_iff_ne];exact h0
  obtain⟨rfl,h1⟩:=Prod.mk.inj hE
  obtain⟨rfl,h2⟩:=Prod.mk.inj h1
  obtain⟨rfl,rfl⟩:=Prod.mk.inj h2
  clear h0
  have JXa:=Lib.hid (JX.out.alloc (.cells #[.int .i64 r.t.ser, .int .i64 r.t.kind, .int .i64 r.t.frm, .int .i64 r.t.till, .int .i64 r.t.cls, .int .i64 r.t.card, .int .i64 r.t.seat, .int .i64 r.t.day, .int .i64 r.t.days, .int .i64 r.t.uses, .int .i64 r.t.epoch, .int .i64 r.key, .int .i64 r.left, .int .i64 r.inn, .int .i64 r.ver] 39))
  obtain⟨d0,d1⟩:=JXa.out.cells
  have jf:=JXa.out.frozen
  go_wp2
  obtain⟨w3,hw⟩: ∃w3,w3=w2.alloc (.cells #[.int .i64 r.t.ser, .int .i64 r.t.kind, .int .i64 r.t.frm, .int .i64 r.t.till, .int .i64 r.t.cls, .int .i64 r.t.card, .int .i64 r.t.seat, .int .i64 r.t.day, .int .i64 r.t.days, .int .i64 r.t.uses, .int .i64 r.t.epoch, .int .i64 r.key, .int .i64 r.left, .int .i64 r.inn, .int .i64 r.ver] 39):=⟨_,rfl⟩
  rw[←hw]
  have hx:Am w3 w2.heap.size r:=by rw[hw];exact Am.new w2 r
  have hb:Below w2.heap.size w2 w3:=by rw[hw];exact Aa w2 _ _
  clear d0 d1
  replace X0:=Lib.hid (X0.out.next hb)
  replace JX:=Lib.hid (JX.out.next hb)
  replace HBL:=Lib.hid (HBL.out.trans (hb.mono HBL.out.size))
  have X1:=Lib.hid hx
  clear hx hb hw
  obtain⟨B1,hB⟩: ∃B,B=w2.heap.size:=⟨_,rfl⟩
  rw[←hB]at X1⊢
  clear hB
  exact bodyPost_ret (Vk Tryz.results23 _ _ BJ _ _ rfl (fM JX.out 0 0)) rfl ⟨none,0,rfl,Bs.empty _ _,Rt HBL.out HGB.out _ _⟩
 rotate_left
 focus
  obtain rfl:=Decidable.not_not.1 h0
  rw[if_neg h0]at hE
  have HE:=Lib.hid hE
  clear hE h0
  go_wp2_with fail
  obtain⟨w3,hw⟩: ∃w3,w3=w2.alloc (.cells #[.int .i64 r.t.ser, .int .i64 r.t.kind, .int .i64 r.t.frm, .int .i64 r.t.till, .int .i64 r.t.cls, .int .i64 r.t.card, .int .i64 r.t.seat, .int .i64 r.t.day, .int .i64 r.t.days, .int .i64 r.t.uses, .int .i64 r.t.epoch, .int .i64 r.key, .int .i64 r.left, .int .i64 r.inn, .int .i64 r.ver] 39):=⟨_,rfl⟩
  rw[←hw]
  have hx:Am w3 w2.heap.size r:=by rw[hw];exact Am.new w2 r
  have hb:Below w2.heap.size w2 w3:=by rw[hw];exact Aa w2 _ _
  replace X0:=Lib.hid (X0.out.next hb)
  replace JX:=Lib.hid (JX.out.next hb)
  replace HBL:=Lib.hid (HBL.out.trans (hb.mono HBL.out.size))
  have X1:=Lib.hid hx
  clear hx hb hw
  obtain⟨B1,hB⟩: ∃B,B=w2.heap.size:=⟨_,rfl⟩
  rw[←hB]at X1⊢
  clear hB
  have hb:Below w3.heap.size w3 w3.drew:=Ae (Below.refl _ _) 1
  replace X0:=Lib.hid (X0.out.next hb)
  replace JX:=Lib.hid (JX.out.next hb)
  replace X1:=Lib.hid (X1.out.next hb)
  replace HBL:=Lib.hid (HBL.out.trans (hb.mono HBL.out.size))
  clear hb
  go_wp2
  refine wp_region_held_drew (S:=fun w'=>AwBox w' BW fd fs fe x y∧Am w' B1 r) (by kernel_rfl) ⟨X0.out,X1.out⟩ (fun hHeld=> ?_)
  refine pl 0 25 hHeld ?_
  refine pl 1 26 hHeld ?_ (hy:=by intro w hSw;obtain⟨f0,f1,f2⟩:=hSw.1.cells;go_simp;(first|done|with_reducible rfl))
  refine pl 2 27 hHeld ?_
  refine pl 3 28 hHeld ?_
  refine pl 4 29 hHeld ?_ (hy:=by intro w hSw;obtain⟨f0,f1,f2⟩:=hSw.1.cells;go_simp;(first|done|with_reducible rfl))
  refine pl 5 30 hHeld ?_
  refine pl 6 31 hHeld ?_ (hy:=by intro w hSw;obtain⟨c0,c1,c2,c3,c4,c5,c6,c7,c8,c9,c10,c11,c12,c13,c14⟩:=hSw.2.cells;go_simp;(first|done|with_reducible rfl))
  refine wpAnyH_ready (rs:=[7]) (by kernel_rfl) (by simp) ?_
  refine AllReadyH.cons (o:=⟨some 32, .call _,_,_,_,_⟩) rfl (fun K hK=> ?_) AllReadyH.nil
  go_simp
  refine(HS.out _ HBL.out).mono ?_
  rintro e wv ⟨rfl,hb⟩
  go_wp2_with fail
  replace X0:=Lib.hid (X0.out.next hb)
  replace X1:=Lib.hid (X1.out.next hb)
  replace JX:=Lib.hid (JX.out.next hb)
  replace HBL:=Lib.hid (HBL.out.trans (hb.mono HBL.out.size))
  clear hb
  refine hK.out _ _ ⟨X0.out,X1.out⟩ (fun hHeld=> ?_)
  clear hK K
  refine wpAnyH_ready (rs:=[8]) (by kernel_rfl) (by simp) ?_
  refine AllReadyH.cons (o:=⟨some 33, .call _,_,_,_,_⟩) rfl (fun K hK=> ?_) AllReadyH.nil
  go_simp
  refine(HF.out (by trivial) _ HBL.out).mono ?_
  rintro e wv ⟨A9,c9,rfl,hs,hb⟩
  go_wp2_with fail
  replace X0:=Lib.hid (X0.out.next hb)
  replace X1:=Lib.hid (X1.out.next hb)
  replace JX:=Lib.hid (JX.out.next hb)
  replace HBL:=Lib.hid (HBL.out.trans (hb.mono HBL.out.size))
  have P1:=Lib.hid hs
  clear hb
  refine hK.out _ _ ⟨X0.out,X1.out⟩ (fun hHeld=> ?_)
  clear hK K
  refine pl 9 24 hHeld ?_
  refine pl 10 34 hHeld ?_
  refine pl 11 35 hHeld ?_
  refine pl 12 11 hHeld ?_
  refine pl 13 10 hHeld ?_
  refine wpAnyH_done (by kernel_rfl) ?_ _
  have hE:=HE.out
  clear HE
  by_cases h0:F≠0
  focus
   rw[if_pos h0]at hE
   have s1:(F==0)=false:=by rw[beq_eq_false_iff_ne];exact h0
   have s2:(F !=0)=true:=by rw[bne_iff_ne];exact h0
   obtain⟨rfl,h1⟩:=Prod.mk.inj hE
   obtain⟨rfl,h2⟩:=Prod.mk.inj h1
   obtain⟨rfl,rfl⟩:=Prod.mk.inj h2
   clear h0
   obtain⟨d0,d1⟩:=JX.out.cells
   have jf:=JX.out.frozen
   go_wp2
   exact bodyPost_ret (Vk Tryz.results23 _ _ BJ _ _ rfl (fM JX.out 0 0)) rfl ⟨none,0,rfl,Bs.empty _ _,Rt HBL.out HGB.out _ _⟩
  rotate_left
  focus
   obtain rfl:=Decidable.not_not.1 h0
   rw[if_neg h0]at hE
   obtain⟨rfl,h1⟩:=Prod.mk.inj hE
   obtain⟨rfl,h2⟩:=Prod.mk.inj h1
   obtain⟨rfl,rfl⟩:=Prod.mk.inj h2
   clear h0
   obtain⟨c0,c1,c2,c3,c4,c5,c6,c7,c8,c9,c10,c11,c12,c13,c14⟩:=X1.out.cells
   obtain⟨d0,d1⟩:=JX.out.cells
   have jf:=JX.out.frozen
   go_wp2
   go_region
   go_wp2
   exact bodyPost_ret (Vk Tryz.results23 _ _ BJ _ _ rfl (fM JX.out r.left r.inn)) rfl ⟨_,_,rfl,Bs.more (Bs.below (Ae0 P1.out JX.out _ _) (Ae (Below.refl _ _) 1)) (by simp),Ae (Rt HBL.out HGB.out _ _) 1⟩
set_option maxRecDepth 100000 in
set_option maxHeartbeats 1600000 in
theorem saysb_any (t:Tk) (k v:Int) (C1 C2:Nat) (w:World) (h1:w.cell? ⟨C1,0,none⟩=some (.int .i64 k)) (h2:w.cell? ⟨C2,0,none⟩=some (.int .i64 v)):Calls Tryz.prog 21 #[.agg #[.int .i64 t.ser, .int .i64 t.kind, .int .i64 t.frm, .int .i64 t.till, .int .i64 t.cls, .int .i64 t.card, .int .i64 t.seat, .int .i64 t.day, .int .i64 t.days, .int .i64 t.uses, .int .i64 t.epoch], .pointer (some ⟨C1,0,none⟩), .pointer (some ⟨C2,0,none⟩)] w fun e w'=>e= .returned (.agg #[.int .i64 t.ser, .int .i64 t.kind, .int .i64 t.frm, .int .i64 t.till, .int .i64 t.cls, .int .i64 t.card, .int .i64 t.seat, .int .i64 t.day, .int .i64 t.days, .int .i64 t.uses, .int .i64 t.epoch, .int .i64 k, .int .i64 0, .int .i64 0, .int .i64 v])∧Below w.heap.size w w':=by
 have hb:Below w.heap.size w ((w.alloc (.cells #[.int .i64 t.ser, .int .i64 t.kind, .int .i64 t.frm, .int .i64 t.till, .int .i64 t.cls, .int .i64 t.card, .int .i64 t.seat, .int .i64 t.day, .int .i64 t.days, .int .i64 t.uses, .int .i64 t.epoch] 37)).alloc (.cells #[.int .i64 0, .int .i64 0, .int .i64 0, .int .i64 0, .int .i64 0, .int .i64 0, .int .i64 0, .int .i64 0, .int .i64 0, .int .i64 0, .int .i64 0, .int .i64 0, .int .i64 0, .int .i64 0, .int .i64 0] 39)):=((Below.refl _ _).alloc (Nat.le_refl _) _).alloc (by simp) _
 have h1':=(hb.cell (Ll h1)).trans h1
 have h2':=(hb.cell (Ll h2)).trans h2
 go_enter Tryz.func21, Tryz.ntmps21
 go_wp2
 exact bodyPost_ret (Ic Tryz.results21 _ _ (w.heap.size+1) _ _ (0,0) _ rfl (heap_alloc2_new w _ _) Tryz.underlying39 rfl Ai) rfl ⟨rfl,((Below.refl _ _).alloc (Nat.le_refl _) _).alloc (by simp) _⟩
set_option maxRecDepth 100000 in
set_option maxHeartbeats 1600000 in
theorem sayss_any (t:Tk) (k i j:Int) (C1 C2:Nat) (w:World) (h1:w.cell? ⟨C1,0,none⟩=some (.int .i64 k)) (hX:Cd w C2 i j):Calls Tryz.prog 28 #[.agg #[.int .i64 t.ser, .int .i64 t.kind, .int .i64 t.frm, .int .i64 t.till, .int .i64 t.cls, .int .i64 t.card, .int .i64 t.seat, .int .i64 t.day, .int .i64 t.days, .int .i64 t.uses, .int .i64 t.epoch], .pointer (some ⟨C1,0,none⟩), .pointer (some ⟨C2,0,none⟩)] w fun e w'=>e= .returned (.agg #[.int .i64 t.ser, .int .i64 t.kind, .int .i64 t.frm, .int .i64 t.till, .int .i64 t.cls, .int .i64 t.card, .int .i64 t.seat, .int .i64 t.day, .int .i64 t.days, .int .i64 t.uses, .int .i64 t.epoch, .int .i64 k, .int .i64 i, .int .i64 j, .int .i64 0])∧Below w.heap.size w w':=by
 obtain⟨h2,h3⟩:=hX.cells
 have hb:Below w.heap.size w ((w.alloc (.cells #[.int .i64 t.ser, .int .i64 t.kind, .int .i64 t.frm, .int .i64 t.till, .int .i64 t.cls, .int .i64 t.card, .int .i64 t.seat, .int .i64 t.day, .int .i64 t.days, .int .i64 t.uses, .int .i64 t.epoch] 37)).alloc (.cells #[.int .i64 0, .int .i64 0, .int .i64 0, .int .i64 0, .int .i64 0, .int .i64 0, .int .i64 0, .int .i64 0, .int .i64 0, .int .i64 0, .int .i64 0, .int .i64 0, .int .i64 0, .int .i64 0, .int .i64 0] 39)):=((Below.refl _ _).alloc (Nat.le_refl _) _).alloc (by simp) _
 have h1':=(hb.cell (Ll h1)).trans h1
 have h2':=(hb.cell (Ll h2)).trans h2
 have h3':=(hb.cell (Ll h3)).trans h3
 go_enter Tryz.func28, Tryz.ntmps28
 go_wp2
 exact bodyPost_ret (Ic Tryz.results28 _ _ (w.heap.size+1) _ _ (0,0) _ rfl (heap_alloc2_new w _ _) Tryz.underlying39 rfl Ai) rfl ⟨rfl,((Below.refl _ _).alloc (Nat.le_refl _) _).alloc (by simp) _⟩
set_option maxRecDepth 100000 in
set_option maxHeartbeats 1600000 in
theorem ptob_any (n:Nat) (A:Option Addr) (c:Nat) (m:Nat) (B:Option Addr) (d:Nat) (v k:Int) (r:Rg) (G F:Int) (p:List Nat) (w:World) (hD: ∀w',Below w.heap.size w w'→Calls Tryz.prog 15 #[.slice A n c, .slice B m d] w' fun e w''=>e= .returned (.tuple #[.agg #[.int .i64 r.t.ser, .int .i64 r.t.kind, .int .i64 r.t.frm, .int .i64 r.t.till, .int .i64 r.t.cls, .int .i64 r.t.card, .int .i64 r.t.seat, .int .i64 r.t.day, .int .i64 r.t.days, .int .i64 r.t.uses, .int .i64 r.t.epoch, .int .i64 r.key, .int .i64 r.left, .int .i64 r.inn, .int .i64 r.ver], .int .i64 G])∧Below w'.heap.size w' w'') (hF:G=0→ ∀w',Below w.heap.size w w'→Calls Tryz.prog 22 #[.slice A n c, .agg #[.int .i64 r.t.ser, .int .i64 r.t.kind, .int .i64 r.t.frm, .int .i64 r.t.till, .int .i64 r.t.cls, .int .i64 r.t.card, .int .i64 r.t.seat, .int .i64 r.t.day, .int .i64 r.t.days, .int .i64 r.t.uses, .int .i64 r.t.epoch, .int .i64 k, .int .i64 0, .int .i64 0, .int .i64 v]] w' fun e w''=> ∃A' c',e= .returned (.tuple #[.slice A' (p.length:Nat) c', .int .i64 F])∧Bs w'' w''.heap.size p A' c'∧Below w'.heap.size w' w'') (E:Int) (p':List Nat) (i j:Int) (hE:(if G≠0 then(G,[],0,0)else if F≠0 then(F,[],0,0)else(0,p,r.left,r.inn))=(E,p',i,j)):Calls Tryz.prog 9 #[.slice A n c, .slice B m d, .int .i64 v, .int .i64 k] w fun e w'=> ∃A' c',e= .returned (.tuple #[.slice A' (p'.length:Nat) c', .agg #[.int .i64 i, .int .i64 j], .int .i64 E])∧Bs w' w'.heap.size p' A' c'∧Below w.heap.size w w':=by
 have HD:=Lib.hid hD
 have HF:=Lib.hid hF
 have HE:=Lib.hid hE
 clear hD hF hE
 have HBL:=Lib.hid (Below.refl w.heap.size w)
 go_enter Tryz.func9, Tryz.ntmps9
 go_wp2_with fail
 obtain⟨w1,hw⟩: ∃w1,w1=((((w.alloc (.cells #[.int .i64 v] 3)).alloc (.cells #[.int .i64 k] 3)).alloc (.cells #[.int .i64 0, .int .i64 0] 26)).alloc (.cells #[.func (.func 15) #[] #[], .func (.func 21) #[] #[.pointer (some ⟨w.heap.size+1,0,none⟩), .pointer (some ⟨w.heap.size,0,none⟩)], .func (.func 22) #[] #[]] 52)):=⟨_,rfl⟩
 rw[←hw]
 have g1:w1.heap[w.heap.size+1]?=some (.cells #[.int .i64 k] 3 (0,0)):=by rw[hw];exact(heap_alloc_old _ _ (by simp<;>omega)).trans ((heap_alloc_old _ _ (by simp)).trans (heap_alloc2_new w _ _))
 have g2:w1.heap[w.heap.size]?=some (.cells #[.int .i64 v] 3 (0,0)):=by rw[hw];exact(heap_alloc_old _ _ (by simp<;>omega)).trans ((heap_alloc_old _ _ (by simp<;>omega)).trans ((heap_alloc_old _ _ (by simp)).trans (heap_alloc_new w _)))
 have JX:=Lib.hid (show Cd w1 (w.heap.size+1+1) 0 0 by rw[hw];refine(heap_alloc_old _ _ (by simp)).trans ?_;have h:=heap_alloc_new ((w.alloc (.cells #[.int .i64 v] 3)).alloc (.cells #[.int .i64 k] 3)) (.cells #[.int .i64 0, .int .i64 0] 26);simpa only[World.size_alloc]using h)
 have hb:Below w.heap.size w w1:=by rw[hw];exact((((Below.refl _ w).alloc (Nat.le_refl _) _).alloc (by simp) _).alloc (by simp<;>omega) _).alloc (by simp<;>omega) _
 replace HBL:=Lib.hid hb
 have c1:=cell_of_one g1
 have c2:=cell_of_one g2
 obtain⟨BJ,hB⟩: ∃B,B=w.heap.size+1+1:=⟨_,rfl⟩
 rw[←hB]at JX⊢
 have HGB:=Lib.hid (show w.heap.size≤BJ by omega)
 clear hB g1 g2 hw hb
 refine(take_any 15 21 22 (fun a w=>by kernel_rfl) (fun a w=>by kernel_rfl) (fun a w=>by kernel_rfl) _ _ n A c m B d ⟨r.t,k,0,0,v⟩ r G F p w1 (fun w' h=>HD.out w' (HBL.out.trans (h.mono HBL.out.size))) (fun w' h=>saysb_any r.t k v _ _ w' ((h.cell (Ll c1)).trans c1) ((h.cell (Ll c2)).trans c2)) (fun g w' h=>HF.out g w' (HBL.out.trans (h.mono HBL.out.size))) E p' _ _ HE.out).mono ?_
 rintro e w2 ⟨A2,k2,rfl,hs,hb⟩
 replace JX:=Lib.hid (JX.out.next hb)
 replace HBL:=Lib.hid (HBL.out.trans (hb.mono HBL.out.size))
 have P1:=Lib.hid hs
 clear hb hs c1 c2
 obtain⟨d0,d1⟩:=JX.out.cells
 have jf:=JX.out.frozen
 go_wp2
 exact bodyPost_ret (Vk Tryz.results9 _ _ BJ _ _ rfl (fM JX.out i j)) rfl ⟨_,_,rfl,Bs.more (Ae0 P1.out JX.out _ _) (by simp),Rt HBL.out HGB.out _ _⟩
set_option maxRecDepth 100000 in
set_option maxHeartbeats 1600000 in
theorem ptos_any (n:Nat) (A:Option Addr) (c:Nat) (m:Nat) (B:Option Addr) (d:Nat) (i j k:Int) (r:Rg) (G F:Int) (p:List Nat) (w:World) (hD: ∀w',Below w.heap.size w w'→Calls Tryz.prog 17 #[.slice A n c, .slice B m d] w' fun e w''=>e= .returned (.tuple #[.agg #[.int .i64 r.t.ser, .int .i64 r.t.kind, .int .i64 r.t.frm, .int .i64 r.t.till, .int .i64 r.t.cls, .int .i64 r.t.card, .int .i64 r.t.seat, .int .i64 r.t.day, .int .i64 r.t.days, .int .i64 r.t.uses, .int .i64 r.t.epoch, .int .i64 r.key, .int .i64 r.left, .int .i64 r.inn, .int .i64 r.ver], .int .i64 G])∧Below w'.heap.size w' w'') (hF:G=0→ ∀w',Below w.heap.size w w'→Calls Tryz.prog 27 #[.slice A n c, .agg #[.int .i64 r.t.ser, .int .i64 r.t.kind, .int .i64 r.t.frm, .int .i64 r.t.till, .int .i64 r.t.cls, .int .i64 r.t.card, .int .i64 r.t.seat, .int .i64 r.t.day, .int .i64 r.t.days, .int .i64 r.t.uses, .int .i64 r.t.epoch, .int .i64 k, .int .i64 i, .int .i64 j, .int .i64 0]] w' fun e w''=> ∃A' c',e= .returned (.tuple #[.slice A' (p.length:Nat) c', .int .i64 F])∧Bs w'' w''.heap.size p A' c'∧Below w'.heap.size w' w'') (E:Int) (p':List Nat) (i' j':Int) (hE:(if G≠0 then(G,[],0,0)else if F≠0 then(F,[],0,0)else(0,p,r.left,r.inn))=(E,p',i',j')):Calls Tryz.prog 13 #[.slice A n c, .slice B m d, .agg #[.int .i64 i, .int .i64 j], .int .i64 k] w fun e w'=> ∃A' c',e= .returned (.tuple #[.slice A' (p'.length:Nat) c', .int .i64 E])∧Bs w' w'.heap.size p' A' c'∧Below w.heap.size w w':=by
 have HD:=Lib.hid hD
 have HF:=Lib.hid hF
 have HE:=Lib.hid hE
 clear hD hF hE
 have HBL:=Lib.hid (Below.refl w.heap.size w)
 go_enter Tryz.func13, Tryz.ntmps13
 go_wp2_with fail
 obtain⟨w1,hw⟩: ∃w1,w1=(((w.alloc (.cells #[.int .i64 i, .int .i64 j] 26)).alloc (.cells #[.int .i64 k] 3)).alloc (.cells #[.func (.func 17) #[] #[], .func (.func 28) #[] #[.pointer (some ⟨w.heap.size+1,0,none⟩), .pointer (some ⟨w.heap.size,0,none⟩)], .func (.func 27) #[] #[]] 52)):=⟨_,rfl⟩
 rw[←hw]
 have g1:w1.heap[w.heap.size+1]?=some (.cells #[.int .i64 k] 3 (0,0)):=by rw[hw];exact(heap_alloc_old _ _ (by simp)).trans (heap_alloc2_new w _ _)
 have g2:Cd w1 w.heap.size i j:=by rw[hw];exact(heap_alloc_old _ _ (by simp<;>omega)).trans ((heap_alloc_old _ _ (by simp)).trans (heap_alloc_new w _))
 have hb:Below w.heap.size w w1:=by rw[hw];exact(((Below.refl _ w).alloc (Nat.le_refl _) _).alloc (by simp) _).alloc (by simp<;>omega) _
 replace HBL:=Lib.hid hb
 have c1:=cell_of_one g1
 clear g1 hw hb
 refine(take_any 17 28 27 (fun a w=>by kernel_rfl) (fun a w=>by kernel_rfl) (fun a w=>by kernel_rfl) _ _ n A c m B d ⟨r.t,k,i,j,0⟩ r G F p w1 (fun w' h=>HD.out w' (HBL.out.trans (h.mono HBL.out.size))) (fun w' h=>sayss_any r.t k i j _ _ w' ((h.cell (Ll c1)).trans c1) (g2.next h)) (fun g w' h=>HF.out g w' (HBL.out.trans (h.mono HBL.out.size))) E p' _ _ HE.out).mono ?_
 rintro e w2 ⟨A2,k2,rfl,hs,hb⟩
 replace HBL:=Lib.hid (HBL.out.trans (hb.mono HBL.out.size))
 have P1:=Lib.hid hs
 clear hb hs c1 g2
 go_wp2_with fail
 obtain⟨w3,hw⟩: ∃w3,w3=w2.alloc (.cells #[.int .i64 i', .int .i64 j'] 26):=⟨_,rfl⟩
 rw[←hw]
 have hx:Cd w3 w2.heap.size i' j':=by rw[hw];exact Cd.new w2 i' j'
 have hb:Below w2.heap.size w2 w3:=by rw[hw];exact Aa w2 _ _
 replace P1:=Lib.hid (P1.out.next hb)
 replace HBL:=Lib.hid (HBL.out.trans (hb.mono HBL.out.size))
 have J2:=Lib.hid hx
 clear hx hb hw
 obtain⟨B2,hB⟩: ∃B,B=w2.heap.size:=⟨_,rfl⟩
 rw[←hB]at J2⊢
 clear hB
 go_wp2
 go_ret2
 exact⟨_,_,rfl,P1.out,HBL.out⟩
theorem Nf:XC:=by
 refine⟨?_, ?_⟩
 ·intro l n b m A c B d v k E p i j w hn hn3 hm hm2 hv hk hE hT hA hB
  obtain⟨G,r,hD⟩: ∃G r,Hn l b=(G,r):=⟨_,_,rfl⟩
  obtain⟨F,q,hF⟩: ∃F q,ecB l ⟨r.t,k,0,0,v⟩=(F,q):=⟨_,_,rfl⟩
  refine ptob_any n A c m B d v k r G (F:Int) q w (fun w' hb=>mO l n hn hn3 b m hm hm2 A c B d G r hD w' (hT.next hb) (hA.next hb) (hB.next hb)) (fun _ w' hb=>Aca l n hn hn3 A c ⟨r.t,k,0,0,v⟩ F q hF w' (hT.next hb) (hA.next hb)) E p i j ?_
  rw[←hE,toB,hD]
  simp only
  rw[hF]
  simp only
  by_cases h0:G≠0
  ·rw[if_pos h0,if_pos h0]
  ·rw[if_neg h0,if_neg h0]
   by_cases h1:F≠0
   ·rw[if_pos h1,if_pos (by omega)]
   ·rw[if_neg h1,if_neg (by omega)]
 ·intro l n b m A c B d i j k E p w hn hn3 hm hm2 hi hj hk hE hT hA hB
  obtain⟨G,r,hD⟩: ∃G r,Gs l b=(G,r):=⟨_,_,rfl⟩
  obtain⟨F,q,hF⟩: ∃F q,Im l ⟨r.t,k,i,j,0⟩=(F,q):=⟨_,_,rfl⟩
  have hX: ∃x y,(if(G:Int)≠0 then((G:Int),([]:List Nat),(0:Int),(0:Int))else if F≠0 then(F,[],0,0)else(0,q,r.left,r.inn))=(E,p,x,y):=by
   rw[toS,hD]at hE
   simp only at hE
   by_cases h0:G≠0
   ·rw[if_pos h0]at hE
    obtain⟨rfl,rfl⟩:=Prod.mk.inj hE
    exact⟨0,0,by rw[if_pos (by omega)]⟩
   ·rw[if_neg h0,hF]at hE
    obtain⟨rfl,rfl⟩:=Prod.mk.inj hE
    rw[if_neg (by omega)]
    by_cases h1:F≠0
    ·have:=zE hF h1
     subst this
     exact⟨0,0,by rw[if_pos h1]⟩
    ·obtain rfl:=Decidable.not_not.1 h1
     exact⟨_,_,by rw[if_neg h1]⟩
  obtain⟨x,y,hX⟩:=hX
  exact ptos_any n A c m B d i j k r (G:Int) F q w (fun w' hb=>Rq l n hn hn3 b m hm hm2 A c B d G r hD w' (hT.next hb) (hA.next hb) (hB.next hb)) (fun g w' hb=>iA l n hn hn3 A c ⟨r.t,k,i,j,0⟩ (Aez (by rw[hD,show G=0 by omega]) hi hj hk) F q hF w' (hT.next hb) (hA.next hb)) E p x y hX
end Go.Proofs.YtmdbfogjfbbpjaaGreatDoor
