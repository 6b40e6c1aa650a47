import Derived.Test.YtmdbfogjfbbpjaaGreatDoorTrackPGet
import Derived.Test.YtmdbfogjfbbpjaaGreatDoorFieldsPSmall
import Derived.Test.YtmdbfogjfbbpjaaGreatDoorTicketPRightK
import Derived.Test.YtmdbfogjfbbpjaaGreatDoorFortyPGet
import Derived.Laws.EntriesVeiled
import Derived.OwnWalk
import Derived.BigRegion
import Derived.RegionTactic
import Derived.Deep.RegionWith
import Derived.BigQuiet
import Derived.Deep.QuietTactic
import Derived.Test.YtmdbfogjfbbpjaaGreatDoorFortyPPut
import Derived.Test.YtmdbfogjfbbpjaaGreatDoorTlvPPut
import Derived.Test.YtmdbfogjfbbpjaaGreatDoorRingPFind
import Derived.Test.YtmdbfogjfbbpjaaGreatDoorMem
import Derived.Test.YtmdbfogjfbbpjaaGreatDoorLayPFields
import Derived.Test.YtmdbfogjfbbpjaaGreatDoorShaPad
import Derived.Lib.AppendZeros
import Derived.Test.YtmdbfogjfbbpjaaGreatDoorStripePDec
import Derived.Test.YtmdbfogjfbbpjaaGreatDoorLineMath
set_option maxHeartbeats 1600000
set_option maxRecDepth 100000
set_option linter.unusedVariables false
section
namespace Go.Proofs.YtmdbfogjfbbpjaaGreatDoor
open Go.ChangeShapes Go.WideShapes Go.ChangeAt Go.RowKit
theorem Abz (l:List Tf) (n:Nat) (hn:n=l.length) (E:Nat) (r:Rg) (hE:Br l=(E,r)) (A:Option Addr) (c:Nat) (w:World) (hA:Ts w w.heap.size l A c):Calls Tryz.prog 43 #[.slice A n c] w fun e w'=>e= .returned (.tuple #[.agg #[.int .i64 r.t.ser, .int .i64 r.t.kind, .int .i64 r.t.frm, .int .i64 r.t.till, .int .i64 r.t.cls, .int .i64 r.t.card, .int .i64 r.t.seat, .int .i64 r.t.day, .int .i64 r.t.days, .int .i64 r.t.uses, .int .i64 r.t.epoch, .int .i64 r.key, .int .i64 r.left, .int .i64 r.inn, .int .i64 r.ver], .int .i64 (E:Int)])∧Below w.heap.size w w':=by
 have hmf: ∀(fn:Fn) (first cap:Array Value) (w:World),(Instr.makeFunc fn first cap).run Tryz.prog w= .ok (.func fn first cap) w:=fun _ _ _ _=>rfl
 obtain⟨bi,hi⟩: ∃bi,isT 0 l=bi:=⟨_,rfl⟩
 have HE:=Lib.hid hE
 clear hE
 have HN:=Lib.hid hn
 have HA:=Lib.hid hA
 have HI:=Lib.hid hi
 clear hn hA hi
 have HR0:=Lib.hid (Am.new w Ah)
 have hl0:=Aa w #[.int .i64 0, .int .i64 0, .int .i64 0, .int .i64 0, .int .i64 0, .int .i64 0, .int .i64 0, .int .i64 0, .int .i64 0, .int .i64 0, .int .i64 0, .int .i64 0, .int .i64 0, .int .i64 0, .int .i64 0] 39
 have HB0:=Lib.hid hl0
 have HA0:=Lib.hid (HA.out.next hl0)
 clear hl0
 go_enter Tryz.func43, Tryz.ntmps43
 go_wp2_with fail
 refine(gM l n HN.out bi HI.out A c _ HA0.out).mono ?_
 rintro e w1 ⟨rfl,hb⟩
 have HR1:=Lib.hid (HR0.out.next hb)
 have HB1:=Lib.hid (HB0.out.trans (hb.mono HB0.out.size))
 have HA1:=Lib.hid (HA0.out.next hb)
 clear hb HR0 HB0 HA0
 have hE:=HE.out
 clear HE
 cases bi
 focus
  rw[Br,if_pos HI.out]at hE
  obtain⟨rfl,rfl⟩:=Prod.mk.inj hE
  have XD:=HR1
  have HBL:=HB1
 rotate_left
 focus
  rw[Br,if_neg (by rw[HI.out];decide)]at hE
  obtain⟨F,a,hf⟩: ∃F a,fdFill z13 l=(F,a):=⟨_,_,rfl⟩
  obtain⟨q,hq⟩: ∃q,q=rdL a:=⟨_,rfl⟩
  have ha:a=numL q:=by
   have:=Pf l z13
   rw[hf]at this
   rw[hq];exact eD this
  subst ha
  rw[hf]at hE
  simp only at hE
  have HFILL:=Lib.hid hf
  have HQ:=Lib.hid hq.symm
  have HE:=Lib.hid hE
  clear hf hq hE
  go_wp2_with fail
  have HZ0:=Lib.hid (Vy w1 (rgL (rdL z13)) #[.int .i64 0, .int .i64 0, .int .i64 0, .int .i64 0, .int .i64 0, .int .i64 0, .int .i64 0, .int .i64 0, .int .i64 0, .int .i64 0, .int .i64 0, .int .i64 0, .int .i64 0, .int .i64 0, .int .i64 0] rfl)
  have hl1:=Aa w1 #[.int .i64 0, .int .i64 0, .int .i64 0, .int .i64 0, .int .i64 0, .int .i64 0, .int .i64 0, .int .i64 0, .int .i64 0, .int .i64 0, .int .i64 0, .int .i64 0, .int .i64 0, .int .i64 0, .int .i64 0] 100
  obtain⟨X,hX⟩: ∃X,X=w1.heap.size:=⟨_,rfl⟩
  have HXW:=Lib.hid (show w.heap.size<X by rw[hX];exact HR1.out.lt)
  have HR2:=Lib.hid (HR1.out.next hl1)
  have HB2:=Lib.hid (HB1.out.trans (hl1.mono HB1.out.size))
  have HA2:=Lib.hid (HA1.out.below hl1)
  rw[←hX]at HZ0 HA2
  rw[←hX]
  clear hX hl1 HR1 HB1 HA1
  refine(uK l n HN.out HI.out z13 rfl _ _ HFILL.out X A c _ HZ0.out HA2.out).mono ?_
  rintro e w3 ⟨rfl,hbx,hg⟩
  have HF:=Lib.hid hbx
  have HR3:=Lib.hid (show Am w3 w.heap.size Ah from(hg.block _ HR2.out.lt (by have:=HXW.out;simp;omega)).trans HR2.out)
  have HB3:=Lib.hid (HB2.out.trans (Aq hg (Nat.le_of_lt HXW.out) HB2.out.size))
  clear hbx hg HZ0 HR2 HB2 HA2
  rw[HQ.out]at HF
  have hE:=HE.out
  clear HE
  by_cases h0:F≠0
  focus
   rw[if_pos h0]at hE
   have s1:((F:Int)==0)=false:=by rw[beq_eq_false_iff_ne];omega
   have s2:((F:Int) !=0)=true:=by rw[bne_iff_ne];omega
   have s3:(F==0)=false:=by rw[beq_eq_false_iff_ne];exact h0
   have s4:(F !=0)=true:=by rw[bne_iff_ne];exact h0
   obtain⟨rfl,rfl⟩:=Prod.mk.inj hE
   clear h0
   have XD:=HR3
   have HBL:=HB3
  rotate_left
  focus
   obtain rfl:=Decidable.not_not.1 h0
   rw[if_neg h0,Pm]at hE
   clear h0
   cases hv:(decide (1≤q.ver)&&decide (q.ver≤3))
   focus
    rw[if_pos (AcP (by rw[HQ.out];exact hv))]at hE
    obtain⟨rfl,rfl⟩:=Prod.mk.inj hE
    have HV:=Lib.hid hv
    clear hv
    obtain⟨d0,d1,d2,d3,d4,d5,d6,d7,d8,d9,d10,d11,d12,d13,d14⟩:=HF.out.cells
    go_wp2_with fail
    go_quiet (first|(go_at_call 84;refine Calls.quiet_of_same ((La q.ver _ HV.out _).mono fun _ _ h=>⟨h.1,h.2.symm⟩)))
    have XD:=HR3
    have HBL:=HB3
   rotate_left
   focus
    obtain⟨f,hft⟩: ∃f,He q.ver (tagsF 1 (numL q))=f:=⟨_,rfl⟩
    obtain⟨m,hm⟩: ∃m,m=(tagsF 1 (numL q)).length:=⟨_,rfl⟩
    have HM:=Lib.hid hm
    have HTS:=Lib.hid (show∀t∈tagsF 1 (numL q),1≤t∧t≤13 from fun t ht=>by have:=Su _ _ _ ht;rw[Dq]at this;omega)
    have HV:=Lib.hid hv
    have HFT:=Lib.hid hft
    have HE:=Lib.hid hE
    clear hm hv hft hE
    focus
     have HFD:Gu w3.drew X (rgL q):=HF.out
     obtain⟨d0,d1,d2,d3,d4,d5,d6,d7,d8,d9,d10,d11,d12,d13,d14⟩:=HFD.cells
     have HBD:Below w.heap.size w w3.drew:=HB3.out.drew
     have HRD:Am w3.drew w.heap.size Ah:=HR3.out
     go_wp2_with fail
     go_region_with (first|(go_at_call 84;refine(La q.ver _ HV.out _).mono ?_;rintro e w5 ⟨rfl,rfl⟩)|(go_at_call 86;refine(aD q X m HM.out _ HFD).mono ?_;rintro e w6 ⟨A6,k6,rfl,hz,hb⟩;have HZ6:=Lib.hid hz;have HF6:=HFD.next hb;have HB6:=Lib.hid (HBD.trans (hb.mono HBD.size));have HR6:=Lib.hid (HRD.next hb);obtain⟨f0,f1,f2,f3,f4,f5,f6,f7,f8,f9,f10,f11,f12,f13,f14⟩:=HF6.cells;clear hz hb)|(go_at_call 85;refine(Vw q.ver _ m HM.out HTS.out _ HFT.out A6 k6 _ HZ6.out).mono ?_;rintro e w7 ⟨rfl,rfl⟩))
     all_goals
      have hE:=HE.out
      cases f<;>(try simp only[Bool.not_false,Bool.not_true])
      focus
       rw[if_pos (zW (by rw[HQ.out];exact HFT.out))]at hE
       obtain⟨rfl,rfl⟩:=Prod.mk.inj hE
       have XD:=HR6
       have HBL:=HB6
      rotate_left
      focus
       rw[if_neg (by rw[AcQ (by rw[HQ.out];exact HV.out) (by rw[HQ.out];exact HFT.out)];decide),HQ.out]at hE
       obtain⟨bs,t,hse⟩: ∃bs t,Jp q=(bs,t):=⟨_,_,rfl⟩
       have HSE:=Lib.hid hse
       replace HE:=Lib.hid hE
       clear hse hE
       go_wp2_with fail
       refine(iJ q X bs t HSE.out _ HF6).mono ?_
       rintro e w8 ⟨rfl,hbx,hg⟩
       have HF8:=Lib.hid hbx
       have XD:=Lib.hid (show Am w8 w.heap.size Ah from(hg.block _ HR6.out.lt (by have:=HXW.out;simp;omega)).trans HR6.out)
       have HBL:=Lib.hid (HB6.out.trans (Aq hg (Nat.le_of_lt HXW.out) HB6.out.size))
       clear hbx hg HR6
       obtain⟨g0,g1,g2,g3,g4,g5,g6,g7,g8,g9,g10,g11,g12,g13,g14⟩:=HF8.out.cells
       have hE:=HE.out
       clear HE
       by_cases hu: ¬(q.t.kind=4∨q.t.uses=0)
       focus
        obtain⟨rfl,rfl⟩:=Prod.mk.inj ((uJ hu).symm.trans HSE.out)
        rw[if_pos (iK hu)]at hE
        obtain⟨rfl,rfl⟩:=Prod.mk.inj hE
        clear hu
       rotate_left
       focus
        replace hu:=Decidable.not_not.1 hu
        obtain⟨rfl,ht⟩:=Prod.mk.inj ((uI hu).symm.trans HSE.out)
        have hk0:0≤q.key:=by have:=Hx l z13 (by decide) q.key;rw[HFILL.out]at this;exact this (List.mem_of_getElem? (i:=1) rfl)
        have hk1:t.key=q.key:=by rw[←ht,zY]
        obtain⟨bk,hk⟩: ∃bk,(decide (0≤t.key)&&decide (t.key≤99))=bk:=⟨_,rfl⟩
        have HK:=Lib.hid hk
        have HU:=Lib.hid hu
        have HT:=Lib.hid ht
        have HK1:=Lib.hid (And.intro hk0 hk1)
        have HE:=Lib.hid hE
        clear hu ht hk0 hk1 hk hE
        go_wp2_with fail
        refine(iG t.key bk HK.out _).mono ?_
        rintro e w9 ⟨rfl,rfl⟩
        have hE:=HE.out
        clear HE
        cases bk
        focus
         rw[if_pos (Ns (by have h:=HK.out;rw[HK1.out.2,decide_eq_true HK1.out.1,Bool.true_and]at h;have:=of_decide_eq_false h;omega))]at hE
         obtain⟨rfl,rfl⟩:=Prod.mk.inj hE
        rotate_left
        focus
         have hk9:q.key≤99:=by have h:=HK.out;rw[HK1.out.2,decide_eq_true HK1.out.1,Bool.true_and]at h;exact of_decide_eq_true h
         obtain⟨bo,ho⟩: ∃bo,okT t.t=bo:=⟨_,rfl⟩
         have HO:=Lib.hid ho
         have HK9:=Lib.hid hk9
         have HE:=Lib.hid hE
         clear ho hk9 hE
         go_wp2_with fail
         refine(Kr t.t bo HO.out _).mono ?_
         rintro e w9 ⟨rfl,hb⟩
         replace XD:=Lib.hid (XD.out.next hb)
         replace HBL:=Lib.hid (HBL.out.trans (hb.mono HBL.out.size))
         have HF9:=HF8.out.next hb
         clear g0 g1 g2 g3 g4 g5 g6 g7 g8 g9 g10 g11 g12 g13 g14 hb
         obtain⟨i0,i1,i2,i3,i4,i5,i6,i7,i8,i9,i10,i11,i12,i13,i14⟩:=HF9.cells
         have hE:=HE.out
         clear HE
         cases bo
         rotate_left
         focus
          have ho:=HO.out
          rw[←HT.out]at ho
          rw[if_neg (by rw[aF HU.out HK9.out ho];decide), ←zZ ho,HT.out]at hE
          obtain⟨rfl,rfl⟩:=Prod.mk.inj hE
          clear ho
          go_wp2_with ((with_reducible refine Ac 2 ?_);refine Qk XD.out ?_)
          intro w9 hw9
          go_wp2
          refine bodyPost_ret (Ab Tryz.results43 _ w9 w.heap.size 39 #[.int .i64 t.t.ser, .int .i64 t.t.kind, .int .i64 t.t.frm, .int .i64 t.t.till, .int .i64 t.t.cls, .int .i64 t.t.card, .int .i64 t.t.seat, .int .i64 t.t.day, .int .i64 t.t.days, .int .i64 t.t.uses, .int .i64 t.t.epoch, .int .i64 t.key, .int .i64 t.left, .int .i64 t.inn, .int .i64 t.ver] (0,0) _ rfl (by rw[hw9.out];exact setRow_heap _ _ _ _ _ _ XD.out) Tryz.underlying39 rfl Ai) rfl ⟨rfl, ?_⟩
          rw[hw9.out]
          first|exact below_setRow HBL.out (Nat.le_refl _) _|exact below_setRow (Ae HBL.out _) (Nat.le_refl _) _
         have ho:=HO.out
         rw[←HT.out]at ho
         rw[if_pos (iL ho)]at hE
         obtain⟨rfl,rfl⟩:=Prod.mk.inj hE
         clear ho
 all_goals
  go_wp2_with ((with_reducible refine Ac 2 ?_);refine Qk XD.out ?_)
  intro w9 hw9
  go_wp2
  refine bodyPost_ret (Ab Tryz.results43 _ w9 w.heap.size 39 #[.int .i64 0, .int .i64 0, .int .i64 0, .int .i64 0, .int .i64 0, .int .i64 0, .int .i64 0, .int .i64 0, .int .i64 0, .int .i64 0, .int .i64 0, .int .i64 0, .int .i64 0, .int .i64 0, .int .i64 0] (0,0) _ rfl (by rw[hw9.out];exact setRow_heap _ _ _ _ _ _ XD.out) Tryz.underlying39 rfl Ai) rfl ⟨rfl, ?_⟩
  rw[hw9.out]
  first|exact below_setRow HBL.out (Nat.le_refl _) _|exact below_setRow (Ae HBL.out _) (Nat.le_refl _) _
theorem AfO (l:List K) (n:Nat) (hn:n=l.length) (hn3:n≤9223372036854775807) (b:Bool) (hb:isR l=b) (A:Option Addr) (c GB:Nat) (w:World) (hA:Ks w w.heap.size A l) (hG:Blk w GB #[.slice A n c] 22):Calls Tryz.prog 40 #[.pointer (some ⟨GB,0,none⟩)] w fun e w'=>e= .returned (.int .i64 (if b=true then 0 else 1))∧Below w.heap.size w w':=by
 obtain⟨V,hV⟩: ∃V:Int,(if b=true then 0 else 1)=V:=⟨_,rfl⟩
 rw[hV]
 have HV:=Lib.hid hV
 have HN:=Lib.hid hn
 have HB:=Lib.hid hb
 have HA:=Lib.hid hA
 have cG:=hG.cell 0 rfl
 clear hV hn hb hA hG
 go_enter Tryz.func40, Tryz.ntmps40
 go_wp2_with fail
 refine(Ho l n HN.out b HB.out A c w HA.out hn3).mono ?_
 rintro e w1 ⟨rfl,hb⟩
 have HBL:=Lib.hid hb
 clear cG hb
 go_wp2_with fail
 refine(Ni b 1 V HV.out w1).mono ?_
 rintro e w2 ⟨rfl,rfl⟩
 go_wp2
 go_ret
 exact⟨rfl,HBL.out⟩
theorem AfP (L:List Tf) (n:Nat) (hn:n=L.length) (E:Nat) (r:Rg) (hE:Br L=(E,r)) (A:Option Addr) (c:Nat) (v1 v2:Value) (XB RB:Nat) (w:World) (hL:Ts w w.heap.size L A c) (hX:Blk w XB #[v1,v2, .slice A n c] 66) (hR:Am w RB Ah):
  Calls Tryz.prog 42 #[.pointer (some ⟨XB,0,none⟩), .pointer (some ⟨RB,0,none⟩)] w fun e w'=>e= .returned (.int .i64 (E:Int))∧w.grownBy w' (some RB)∧Am w' RB r:=by
 have HN:=Lib.hid hn
 have HE:=Lib.hid hE
 have HL:=Lib.hid hL
 have HR:=Lib.hid hR
 have cX:w.cell? ⟨XB,2,none⟩=some (.slice A n c):=hX.cell 2 rfl
 clear hn hE hL hX hR
 go_enter Tryz.func42, Tryz.ntmps42
 go_wp2_with fail
 refine(Abz L n HN.out E r HE.out A c w HL.out).mono ?_
 rintro e w1 ⟨rfl,hb⟩
 have HR1:=Lib.hid (HR.out.next hb)
 have HG:=Lib.hid (Dy (some RB) hb)
 clear cX hb
 go_wp2_with ((with_reducible refine Ac 1 ?_);refine Al HR1.out Ai (Bh _ _ _ _ _ _ _ _ _ _ _ _ _ _ _) ?_;intro w2 hw2)
 go_ret
 refine⟨rfl, ?_, ?_⟩
 ·rw[hw2.out];exact At HG.out (aY w1 RB _)
 ·rw[hw2.out];exact setRow_heap _ _ _ _ _ _ HR1.out
theorem Ab0 (l:List K) (n:Nat) (hn:n=l.length) (hn3:n≤9223372036854775807) (A:Option Addr) (c:Nat) (s t:List Nat) (j:Nat) (hj:j=s.length) (h117:j≤3999) (ht:t.length=32) (A1 A2:Option Addr) (c1 c2:Nat) (v3:Value) (XB GB RB:Nat) (r:Rg) (w:World) (hT:Cx w) (hA:Ks w w.heap.size A l) (h1:Bs w w.heap.size s A1 c1) (h2:Bs w w.heap.size t A2 c2) (hX:Blk w XB #[.slice A1 j c1, .slice A2 32 c2,v3] 66) (hG:Blk w GB #[.slice A n c] 22) (hR:Am w RB r) (h0:As l r.key=10):Calls Tryz.prog 44 #[.pointer (some ⟨XB,0,none⟩), .pointer (some ⟨GB,0,none⟩), .pointer (some ⟨RB,0,none⟩)] w fun e w'=>e= .returned (.int .i64 10)∧Below w.heap.size w w':=by
 have HN:=Lib.hid hn
 have HJ:=Lib.hid hj
 have HT2:=Lib.hid ht
 have HT:=Lib.hid hT
 have HA:=Lib.hid hA
 have H1:=Lib.hid h1
 have H2:=Lib.hid h2
 have HX:=Lib.hid hX
 have H0:=Lib.hid h0
 clear hn hj ht hT hA h1 h2 hX h0
 have cG:=hG.cell 0 rfl
 have cR:=hR.cells.2.2.2.2.2.2.2.2.2.2.2.1
 clear hG hR
 go_enter Tryz.func44, Tryz.ntmps44
 go_wp2_with fail
 refine(Acb l n HN.out hn3 r.key A c s t j HJ.out h117 HT2.out A1 A2 c1 c2 v3 XB w HT.out HA.out H1.out H2.out HX.out H0.out).mono ?_
 rintro e w1 ⟨rfl,hb⟩
 clear cG cR
 go_wp2
 go_ret
 exact⟨rfl,hb⟩
theorem wQ (l:List K) (n:Nat) (hn:n=l.length) (hn3:n≤9223372036854775807) (id:Int) (A:Option Addr) (c:Nat) (s t:List Nat) (j:Nat) (hj:j=s.length) (h117:j≤3999) (ht:t.length=32) (A1 A2:Option Addr) (c1 c2:Nat) (v3:Value) (XB:Nat) (w:World) (hT:Cx w) (hA:Ks w w.heap.size A l) (h1:Bs w w.heap.size s A1 c1) (h2:Bs w w.heap.size t A2 c2) (hX:Blk w XB #[.slice A1 j c1, .slice A2 32 c2,v3] 66) (h0:As l id=0) (b:Bool) (hb:(t==tagB (Bn l id).sec s)=b) (V:Int) (hV:(if b=true then 0 else 11)=V):Calls Tryz.prog 45 #[.pointer (some ⟨XB,0,none⟩), .slice A n c, .int .i64 id] w fun e w'=>e= .returned (.int .i64 V)∧Below w.heap.size w w':=by
 subst hV
 exact Acc l n hn hn3 id A c s t j hj h117 ht A1 A2 c1 c2 v3 XB w hT hA h1 h2 hX h0 b hb
theorem Ab1 (l:List K) (n:Nat) (hn:n=l.length) (hn3:n≤9223372036854775807) (A:Option Addr) (c:Nat) (s t:List Nat) (j:Nat) (hj:j=s.length) (h117:j≤3999) (ht:t.length=32) (A1 A2:Option Addr) (c1 c2:Nat) (v3:Value) (XB GB RB:Nat) (r:Rg) (w:World) (hT:Cx w) (hA:Ks w w.heap.size A l) (h1:Bs w w.heap.size s A1 c1) (h2:Bs w w.heap.size t A2 c2) (hX:Blk w XB #[.slice A1 j c1, .slice A2 32 c2,v3] 66) (hG:Blk w GB #[.slice A n c] 22) (hR:Am w RB r) (h0:As l r.key=0) (b:Bool) (hb:(t==tagB (Bn l r.key).sec s)=b) (V:Int) (hV:(if b=true then 0 else 11)=V):Calls Tryz.prog 44 #[.pointer (some ⟨XB,0,none⟩), .pointer (some ⟨GB,0,none⟩), .pointer (some ⟨RB,0,none⟩)] w fun e w'=>e= .returned (.int .i64 V)∧Below w.heap.size w w':=by
 have HN:=Lib.hid hn
 have HJ:=Lib.hid hj
 have HT2:=Lib.hid ht
 have HT:=Lib.hid hT
 have HA:=Lib.hid hA
 have H1:=Lib.hid h1
 have H2:=Lib.hid h2
 have HX:=Lib.hid hX
 have H0:=Lib.hid h0
 clear hn hj ht hT hA h1 h2 hX h0
 have HB:=Lib.hid hb
 have HV:=Lib.hid hV
 clear hb hV
 have cG:=hG.cell 0 rfl
 have cR:=hR.cells.2.2.2.2.2.2.2.2.2.2.2.1
 clear hG hR
 go_enter Tryz.func44, Tryz.ntmps44
 go_wp2_with fail
 refine(wQ l n HN.out hn3 r.key A c s t j HJ.out h117 HT2.out A1 A2 c1 c2 v3 XB w HT.out HA.out H1.out H2.out HX.out H0.out b HB.out V HV.out).mono ?_
 rintro e w1 ⟨rfl,hb⟩
 clear cG cR
 go_wp2
 go_ret
 exact⟨rfl,hb⟩
structure DB0 (w0:World) (A:Option Addr) (n c:Nat) (B:Option Addr) (m d:Nat) (FA:Option Addr) (vs:List Value) (GB D XB PB SB:Nat) (w:World):Prop where
 below:Below w0.heap.size w0 w
 rd:Rd w w.heap.size FA vs
 g:Blk w GB #[.slice A n c] 22
 s:Blk w SB #[.slice B m d] 23
 p:Blk w PB #[.pointer (some ⟨XB,0,none⟩)] 107
 d:Am w D Ah
theorem DB0.next {w0:World} {A:Option Addr} {n c:Nat} {B:Option Addr} {m d:Nat} {FA:Option Addr} {vs:List Value} {GB D XB PB SB:Nat} {w w':World} (h:DB0 w0 A n c B m d FA vs GB D XB PB SB w) (hb:Below w.heap.size w w'):DB0 w0 A n c B m d FA vs GB D XB PB SB w':=
 ⟨h.below.trans (hb.mono h.below.size),h.rd.next hb,h.g.next hb,h.s.next hb,h.p.next hb,h.d.next hb⟩
theorem DB0.grown {w0:World} {A:Option Addr} {n c:Nat} {B:Option Addr} {m d:Nat} {FA:Option Addr} {vs:List Value} {GB D XB PB SB:Nat} {w w':World} (h:DB0 w0 A n c B m d FA vs GB D XB PB SB w) (hv: ∀u∈vs, ∃f a k,u=Value.func f a k) {X:Nat} {cs:Array Value} {t:TypeId} (hX:Blk w X cs t) (hnf: ∀f a k,Value.func f a k∉cs.toList) (hg:w.grownBy w' (some X)) (h1:w0.heap.size≤X) (h2:GB≠X) (h3:SB≠X) (h4:PB≠X) (h5:D≠X):DB0 w0 A n c B m d FA vs GB D XB PB SB w':=
 ⟨h.below.trans (Aq hg h1 h.below.size),dD h.rd hX hg (fun u hu=>by obtain⟨f,a,k,rfl⟩:=hv u hu;exact hnf f a k),h.g.grown hg h2,h.s.grown hg h3,h.p.grown hg h4,h.d.grown hg h5⟩
def decV (GB XB RB PB SB AB:Nat):List Value:=[.func (.func 40) #[] #[.pointer (some ⟨GB,0,none⟩)]]++Kt PB SB AB++ [.func (.func 42) #[] #[.pointer (some ⟨XB,0,none⟩), .pointer (some ⟨RB,0,none⟩)], .func (.func 44) #[] #[.pointer (some ⟨XB,0,none⟩), .pointer (some ⟨GB,0,none⟩), .pointer (some ⟨RB,0,none⟩)]]
theorem wR (GB XB RB PB SB AB:Nat): ∀u∈decV GB XB RB PB SB AB, ∃f a k,u=Value.func f a k:=by
 intro u hu
 simp only[decV,Kt,List.cons_append,List.nil_append,List.mem_cons,List.not_mem_nil,or_false]at hu
 rcases hu with rfl|rfl|rfl|rfl|rfl|rfl<;>exact⟨_,_,_,rfl⟩
def DQ (B0:World→Prop) (l:List K) (b:List Nat) (XB AB RB:Nat):Nat→World→Prop
 |0,w=>Xi (fun w=>B0 w∧Am w RB Ah) b XB AB 0 w
 |1,w=>Xi (fun w=>isR l=true∧B0 w∧Am w RB Ah) b XB AB 0 w
 |2,w=>Xi (fun w=>isR l=true∧B0 w∧Am w RB Ah) b XB AB 1 w
 |3,w=>Xi (fun w=>isR l=true∧B0 w∧Am w RB Ah) b XB AB 2 w
 |4,w=>Xi (fun w=>isR l=true∧B0 w∧Am w RB Ah) b XB AB 3 w
 |5,w=>isR l=true∧B0 w∧ ∃P L j r A1 c1 A2 c2 v3,fgetX b=(0,P)∧P.length=j+32∧gotT (restB P)=(0,L)∧Br L=(0,r)∧Bs w w.heap.size (restB P) A1 c1∧Bs w w.heap.size (Eg P) A2 c2∧Blk w XB #[.slice A1 j c1, .slice A2 32 c2,v3] 66 ∧Am w RB r
 |_,w=> ∃r,Gs l b=(0,r)∧B0 w∧Am w RB r
def DR (w0:World) (l:List K) (b:List Nat) (D:Nat) (E:Int) (w:World):Prop:= ∃e:Nat,E=(e:Int)∧Gs l b=(e,Ah)∧Below w0.heap.size w0 w∧Am w D Ah
theorem lB {l:List K} {b P:List Nat} {L:List Tf} (hr:isR l=true) (h1:fgetX b=(0,P)) (h2:32≤P.length) (h3:gotT (restB P)=(0,L)):
  Gs l b=(if(Br L).1≠0 then((Br L).1,Ah)else if As l (Br L).2.key≠0 then(10,Ah)else if Eg P≠tagB (Bn l (Br L).2.key).sec (restB P)then(11,Ah)else(0,(Br L).2)):=by
 rw[Gs,if_neg (by rw[hr];decide),h1]
 simp only
 rw[if_neg (by simp),Rh,if_neg (by omega),h3]
 simp only
 rw[if_neg (by simp)]
section
variable {w0:World} {A:Option Addr} {n c:Nat} {B:Option Addr} {m d:Nat} {FA:Option Addr} {GB D XB RB PB SB AB:Nat} {l:List K} {b:List Nat}
theorem Afo (hn:n=l.length) (hn3:n≤9223372036854775807) (hA:Ks w0 w0.heap.size A l) {vs:List Value} (v:Value) (hv:(decV GB XB RB PB SB AB)[0]?=some v):Nj (DQ (DB0 w0 A n c B m d FA vs GB D XB PB SB) l b XB AB RB 0) (DQ (DB0 w0 A n c B m d FA vs GB D XB PB SB) l b XB AB RB 1) (DR w0 l b D) v:=by
 cases hv
 refine⟨_,_,rfl,enters_of Tryz.func40 (by kernel_rfl) rfl,fun w hq=> ?_⟩
 obtain⟨⟨hb,hR⟩,hX,hAB⟩:=hq
 refine(AfO l n hn hn3 (isR l) rfl A c GB w (hA.next hb.below) hb.g).mono ?_
 rintro e w' ⟨rfl,hbw⟩
 cases hr:isR l
 ·refine .inr ⟨1,by decide,rfl,1,rfl,by rw[Gs,if_pos hr],(hb.next hbw).below,(hb.next hbw).d⟩
 ·exact .inl ⟨rfl,⟨hr,hb.next hbw,hR.next hbw⟩,hX.next hbw,hAB.next hbw⟩
theorem Afp (hGD:GB≠RB) (hSB:SB≠RB) (hPB:PB≠RB) (hD:D≠RB) (hX:XB≠RB) (h0:w0.heap.size≤RB) {vs:List Value} (hvs: ∀u∈vs, ∃f a k,u=Value.func f a k) (v:Value) (hv:(decV GB XB RB PB SB AB)[4]?=some v):Nj (DQ (DB0 w0 A n c B m d FA vs GB D XB PB SB) l b XB AB RB 4) (DQ (DB0 w0 A n c B m d FA vs GB D XB PB SB) l b XB AB RB 5) (DR w0 l b D) v:=by
 cases hv
 refine⟨_,_,rfl,enters_of Tryz.func42 (by kernel_rfl) rfl,fun w hq=> ?_⟩
 obtain⟨⟨hr,hb,hR⟩,P,L,j,A1,c1,A2,c2,A3,c3,h1,h2,h3,hs1,hs2,hL,hXb⟩:=hq
 have hsaid:=lB hr h1 (by omega) h3
 cases hG:Br L with
 |mk E r=>
  rw[hG]at hsaid
  refine(AfP L L.length rfl E r hG A3 c3 _ _ XB RB w hL hXb hR).mono ?_
  rintro e w' ⟨rfl,hg,hR'⟩
  have hb':=hb.grown hvs hR.blk (by simp) hg h0 hGD hSB hPB hD
  by_cases hE:E=0
  ·subst hE
   exact .inl ⟨rfl,hr,hb',P,L,j,r,A1,c1,A2,c2,_,h1,h2,h3,hG,Ek hs1 hR.blk hg (by simp),Ek hs2 hR.blk hg (by simp),hXb.grown hg hX,hR'⟩
  ·exact .inr ⟨E,by omega,rfl,E,rfl,by rw[hsaid,if_pos hE],hb'.below,hb'.d⟩
theorem Afq (hn:n=l.length) (hn3:n≤9223372036854775807) (hT:Cx w0) (hA:Ks w0 w0.heap.size A l) {vs:List Value} (v:Value) (hv:(decV GB XB RB PB SB AB)[5]?=some v):Nj (DQ (DB0 w0 A n c B m d FA vs GB D XB PB SB) l b XB AB RB 5) (DQ (DB0 w0 A n c B m d FA vs GB D XB PB SB) l b XB AB RB 6) (DR w0 l b D) v:=by
 cases hv
 refine⟨_,_,rfl,enters_of Tryz.func44 (by kernel_rfl) rfl,fun w hq=> ?_⟩
 obtain⟨hr,hb,P,L,j,r,A1,c1,A2,c2,v3,h1,h2,h3,hG,hs1,hs2,hXb,hR⟩:=hq
 have hsaid:=lB hr h1 (by omega) h3
 rw[hG]at hsaid
 simp only at hsaid
 rw[if_neg (by simp)]at hsaid
 have hrl: ∀x∈restB P,x<256:=hs1.lt
 have hbl:(restB P).length≤117:=by
  obtain⟨q1,q2⟩:=jF hrl h3
  have hfv: ∀f∈L, ∀x∈f.val,x<256:=fun f hf x hx=>hrl x (by rw[←q2];exact Xf hf hx)
  have h9:=Ri (rZ hfv hG).1
  rwa[q2]at h9
 have hj:j=(restB P).length:=by rw[restB,List.length_take];omega
 have ht:(Eg P).length=32:=by rw[Eg,List.length_drop];omega
 by_cases hF:As l r.key=0
 ·rw[if_neg (by omega)]at hsaid
  obtain⟨V,hV⟩: ∃V:Int,(if(Eg P==tagB (Bn l r.key).sec (restB P))=true then 0 else 11)=V:=⟨_,rfl⟩
  refine(Ab1 l n hn hn3 A c (restB P) (Eg P) j hj (by omega) ht A1 A2 c1 c2 v3 XB GB RB r w (hT.next hb.below) (hA.next hb.below) hs1 hs2 hXb hb.g hR hF _ rfl V hV).mono ?_
  rintro e w' ⟨rfl,hbw⟩
  by_cases hq:Eg P=tagB (Bn l r.key).sec (restB P)
  ·rw[if_neg (by simpa using hq)]at hsaid
   rw[if_pos (by simpa using hq)]at hV
   subst hV
   exact .inl ⟨rfl,r,hsaid,hb.next hbw,hR.next hbw⟩
  ·rw[if_pos hq]at hsaid
   rw[if_neg (by simpa using hq)]at hV
   subst hV
   exact .inr ⟨11,by decide,rfl,11,rfl,hsaid,(hb.next hbw).below,(hb.next hbw).d⟩
 ·rw[if_pos hF]at hsaid
  refine(Ab0 l n hn hn3 A c (restB P) (Eg P) j hj (by omega) ht A1 A2 c1 c2 v3 XB GB RB r w (hT.next hb.below) (hA.next hb.below) hs1 hs2 hXb hb.g hR (Rz hr hF)).mono ?_
  rintro e w' ⟨rfl,hbw⟩
  exact .inr ⟨10,by decide,rfl,10,rfl,hsaid,(hb.next hbw).below,(hb.next hbw).d⟩
theorem AfQ (hB:Bs w0 w0.heap.size b B d) (h0:w0.heap.size≤GB) (h1:GB<D) (h2:D<XB) (h3:XB<RB) (h4:RB<PB) (h5:PB<SB) (h6:SB<AB) {vs:List Value} (hvs: ∀u∈vs, ∃f a k,u=Value.func f a k):BaseOK (fun w=>isR l=true∧DB0 w0 A n c B m d FA vs GB D XB PB SB w∧Am w RB Ah) b m B d XB PB SB AB:=
 ⟨fun h hb=>⟨h.1,h.2.1.next hb,h.2.2.next hb⟩,fun {w w' X cs t} h hX ho hnf hg=>⟨h.1,h.2.1.grown hvs hX hnf hg (by omega) (by omega) (by omega) (by omega) (by omega),h.2.2.grown hg (by omega)⟩,fun h=>⟨h.2.1.s,hB.next h.2.1.below,h.2.1.p⟩⟩
theorem wS (hn:n=l.length) (hn3:n≤9223372036854775807) (hm:m=b.length) (h47:m≤140737488355328) (hT:Cx w0) (hA:Ks w0 w0.heap.size A l) (hB:Bs w0 w0.heap.size b B d) (h0:w0.heap.size≤GB) (h1:GB<D) (h2:D<XB) (h3:XB<RB) (h4:RB<PB) (h5:PB<SB) (h6:SB<AB) (vs:List Value) (hvs:vs=decV GB XB RB PB SB AB) (k:Nat) (v:Value) (hv:vs[k]?=some v):Nj (DQ (DB0 w0 A n c B m d FA vs GB D XB PB SB) l b XB AB RB k) (DQ (DB0 w0 A n c B m d FA vs GB D XB PB SB) l b XB AB RB (k+1)) (DR w0 l b D) v:=by
 have hf: ∀u∈vs, ∃f a k,u=Value.func f a k:=by rw[hvs];exact wR _ _ _ _ _ _
 have hBO:=AfQ (l:=l) (A:=A) (n:=n) (c:=c) (m:=m) (FA:=FA) hB h0 h1 h2 h3 h4 h5 h6 hf
 have hR: ∀(E:Nat) (w:World),E≠0→apE b=E→(isR l=true∧DB0 w0 A n c B m d FA vs GB D XB PB SB w∧Am w RB Ah)→DR w0 l b D E w:=fun E w hE ha h=>⟨E,rfl,AdH h.1 ha hE,h.2.1.below,h.2.1.d⟩
 rw[hvs]at hv
 match k,hv with
 |0,hv=>exact Afo hn hn3 hA v hv
 |1,hv=>exact AfL hBO hm h47 (by omega) hR v hv
 |2,hv=>exact AfM hBO hR v hv
 |3,hv=>exact AfN hBO hm h47 (by omega) (by omega) hR v hv
 |4,hv=>exact Afp (by omega) (by omega) (by omega) (by omega) (by omega) (by omega) hf v hv
 |5,hv=>exact Afq hn hn3 hT hA v hv
 |k+6,hv=>simp[decV,Kt]at hv
end
end Go.Proofs.YtmdbfogjfbbpjaaGreatDoor
end
section
namespace Go.Proofs.YtmdbfogjfbbpjaaGreatDoor
set_option maxRecDepth 100000
open Go.ChangeShapes Go.WideShapes Go.ChangeAt Go.RowKit
theorem lC:(Tryz.prog.info? 74).map (fun i=>(i.zero,i.size,i.bytes))=some (some .nilFunc,1,8):=by kernel_rfl
theorem Zj (n:Nat) (w:World) (h0:0<n) (hn:n≤1000):
  Calls Tryz.prog 89 #[.slice none 0 0, .int .i64 n] w fun e w'=> ∃v,e= .returned v∧w'.ownsRow w.heap.size 74 1 v 0 []∧Below w.heap.size w w':=by
 obtain⟨i0,hi,hz0,hz1,hz2⟩:=info_parts lC
 have hrun:=Lib.run_append_nil_zeros (P:= Tryz.prog) w 72 3 72 74 i0 .nilFunc .i64 .i64 Tryz.underlying72 Tryz.underlying3 hi hz0 n h0 (by rw[hz1];omega) (by omega) (by rw[hz2];omega)
 have HRUN:=Lib.hid hrun
 clear hrun
 go_enter Tryz.func89, Tryz.ntmps89
 go_wp2_with (at_builtin;refine Lib.wpList_append_run _ rfl (.tmp 20) (.tmp 21) 72 3 rfl (.slice none 0 0) (.int .i64 n) rfl rfl _ _ HRUN.out ?_)
 go_ret
 have hc1:=grownCap_ge w n 0 74
 have hc2:=grownCap_le_maxLen w n 0 74 (by unfold maxLen;omega)
 refine⟨_,rfl,⟨rfl, .inr ⟨w.heap.size,grownCap w n 0 74,Builtin.zeroCells #[Value.nilFunc] n++Builtin.zeroCells #[Value.nilFunc] (grownCap w n 0 74 - n),rfl,Nat.le_refl _, ?_,Nat.zero_le _,hc2, ?_, ?_⟩⟩, ?_⟩
 ·exact heap_alloc_new w _
 ·simp[size_zeroCells];omega
 ·simp
 ·exact((Below.refl _ _).alloc (Nat.le_refl _) _).drew
structure SPart where
 A:Option Addr
 l:List Value
 c:Nat
def SPart.val (p:SPart):Value:= .slice p.A p.l.length p.c
def SPart.ok (w:World) (p:SPart):Prop:=Rd w w.heap.size p.A p.l∧(p.A=none→p.c=0)∧ ∀u∈p.l,u.oneCell'=true
def Dk (ps:List SPart):List Value:=(ps.map (·.l)).flatten
theorem Rp (a b:List SPart):Dk (a++b)=Dk a++Dk b:=by simp[Dk]
theorem wT (p:SPart):Dk [p]=p.l:=by simp[Dk]
theorem Xl (ps:List SPart) (k:Nat) (h:k<ps.length):Dk (ps.take (k+1))=Dk (ps.take k)++ps[k].l:=by
 rw[List.take_succ_eq_append_getElem h,Rp,wT]
theorem Xm (ps:List SPart) (k:Nat):(Dk (ps.take k)).length≤(Dk ps).length:=by
 have h:Dk ps=Dk (ps.take k)++Dk (ps.drop k):=by rw[←Rp,List.take_append_drop]
 rw[h,List.length_append];omega
theorem pT {w:World} {ps:List SPart} {cs:Array Value} {t:TypeId} (h:cs=(ps.map SPart.val).toArray): ∀i p,ps[i]?=some p→(w.alloc (.cells cs t)).cell? ⟨w.heap.size,i,none⟩=some p.val:=by
 intro i p hp
 rw[h,cell_of_row _ _ i _ t (0,0) (heap_alloc_new w _),List.getElem?_toArray,List.getElem?_map,hp];rfl
theorem fJ (ps:List SPart) (g m c:Nat) (w:World) (hm:ps.length=m) (hg:g<w.heap.size) (hcell: ∀i p,ps[i]?=some p→w.cell? ⟨g,i,none⟩=some p.val) (hok: ∀p∈ps,p.ok w) (hm2:m≤1000)
  (h0:0<(Dk ps).length) (hn:(Dk ps).length≤1000):
  Calls Tryz.prog 47 #[.slice (some ⟨g,0,none⟩) m c] w fun e w'=> ∃v,e= .returned v∧w'.ownsRow w.heap.size 74 1 v (Dk ps).length (Dk ps)∧Below w.heap.size w w':=by
 obtain⟨i0,hi,hz0,hz1,hz2⟩:=info_parts lC
 have HM:=Lib.hid hm
 have HCELL:=Lib.hid hcell
 have HOK:=Lib.hid hok
 obtain⟨N,hN⟩: ∃N,N=(Dk ps).length:=⟨_,rfl⟩
 rw[←hN]at h0 hn⊢
 have HN:=Lib.hid hN
 clear hm hcell hok hN
 go_enter Tryz.func47, Tryz.ntmps47
 go_wp2_with fail
 go_loop [3,11] (fun s i=> ∃k:Nat,k≤m∧i= .int .i64 k∧s= .int .i64 ((Dk (ps.take k)).length:Nat)) (fun _ i=>m - (intOf i).toNat)
 case atStart=>exact⟨0,Nat.zero_le _,rfl,rfl⟩
 case round=>
  obtain⟨k,hk,rfl,rfl⟩:=hrel
  have hle:=Xm ps k
  rw[←HN.out]at hle
  by_cases hlt:k<m
  ·have hkp:k<ps.length:=by rw[HM.out];exact hlt
   have hck:=HCELL.out k ps[k] (List.getElem?_eq_getElem hkp)
   unfold SPart.val at hck
   have hfs:(Dk (ps.take (k+1))).length=(Dk (ps.take k)).length+ps[k].l.length:=by rw[Xl ps k hkp,List.length_append]
   have hle2:=Xm ps (k+1)
   rw[←HN.out]at hle2
   have HFS:=Lib.hid hfs
   have hb:(Dk (ps.take k)).length+ps[k].l.length≤1000:=by omega
   clear hfs hle2
   generalize (Dk (ps.take k)).length=S at*
   generalize ps[k].l.length=n1 at*
   generalize ps[k].A=A1 at*
   generalize ps[k].c=c1 at*
   go_wp2
   go_round
   case rel=>exact⟨k+1,by omega,by go_num,by rw[HFS.out];go_num⟩
   case measure=>simp[intOf];omega
  ·have ek:k=m:=by omega
   subst ek
   have hS:(Dk (ps.take k)).length=N:=by rw[List.take_of_length_le (by rw[HM.out];omega),HN.out]
   rw[hS]
   clear hle hS
   go_wp2_with fail
   refine(Zj N w h0 hn).mono ?_
   rintro e w1 ⟨v1,rfl,hown1,hb1⟩
   have HOWN1:=Lib.hid hown1
   clear hown1
   go_wp2_with fail
   go_loopw [6,27] (fun v i wr=> ∃j:Nat,j≤k∧i= .int .i64 j∧wr.ownsRow w.heap.size 74 1 v (Dk (ps.take j)).length (Dk (ps.take j))∧Below w.heap.size w wr) (fun _ i _=>k - (intOf i).toNat)
   case atStart=>exact⟨0,Nat.zero_le _,rfl,HOWN1.out,hb1⟩
   case round=>
    clear hb1
    obtain⟨j,hj,rfl,hown,hbel⟩:=hrel
    have hbs:=hbel.size
    by_cases hlt:j<k
    ·have hjp:j<ps.length:=by rw[HM.out];exact hlt
     have hcj:wr.cell? ⟨g,j,none⟩=some ps[j].val:=(hbel.cell (p:=⟨g,j,none⟩) hg).trans (HCELL.out j ps[j] (List.getElem?_eq_getElem hjp))
     unfold SPart.val at hcj
     obtain⟨hrd,hnil,hone9⟩:=HOK.out ps[j] (List.getElem_mem hjp)
     have hrd':=hrd.below hbel
     have hfs:=Xl ps j hjp
     have hle2:=Xm ps (j+1)
     rw[←HN.out,hfs,List.length_append]at hle2
     have HFS:=Lib.hid hfs
     have HR:=Lib.hid hrd'
     have HNL:=Lib.hid hnil
     have HO:=Lib.hid hown
     have hlen:ps[j].l.length=ps[j].l.length:=rfl
     have HL:=Lib.hid hlen
     have hone:=Lib.hid hone9
     clear hrd hrd' hnil hfs hown hlen hone9
     generalize Dk (ps.take j)=F at*
     generalize ps[j].l=l1 at*
     generalize ps[j].A=A1 at*
     generalize ps[j].c=c1 at*
     go_wp2_with (at_builtin;refine Af _ rfl (.tmp 31) (.tmp 32) 72 rfl w.heap.size 74 i0 .nilFunc 8 Tryz.underlying72 hi hz0 hz1 hz2 rfl _ F.length F rfl HO.out w.heap.size A1 l1.length c1 l1 rfl HR.out HL.out HNL.out hone.out (by unfold maxLen;omega) (by omega) hbs ?_;intro v2 w2 hown2 hg2)
     have hb2:Below w.heap.size w w2:=hbel.grown hg2 hbs (fun g hg=>Ak HO.out hg)
     have HO2:=Lib.hid hown2
     clear hown2 hg2
     go_wp2
     go_roundw
     case rel=>
      refine⟨j+1,by omega,by go_num, ?_,hb2⟩
      rw[HFS.out,List.length_append]
      exact HO2.out
     case measure=>simp[intOf];omega
    ·have ej:j=k:=by omega
     subst ej
     rw[List.take_of_length_le (by rw[HM.out];omega), ←HN.out]at hown
     have HO:=Lib.hid hown
     clear hown
     go_wp2
     go_ret
     exact⟨_,rfl,HO.out,hbel⟩
end Go.Proofs.YtmdbfogjfbbpjaaGreatDoor
end
section
namespace Go.Proofs.YtmdbfogjfbbpjaaGreatDoor
open Go.ChangeShapes Go.WideShapes Go.ChangeAt Go.RowKit
theorem Xn {w:World} {a:Addr} {l:List Value} {c:Nat} (h:Rd w w.heap.size (some a) l) (hf: ∀u∈l, ∃f x k,u=Value.func f x k):SPart.ok w ⟨some a,l,c⟩:=
 show Rd w w.heap.size (some a) l∧(some a=none→c=0)∧ ∀u∈l,u.oneCell'=true from⟨h,fun e=>(by cases e),fun u hu=>by obtain⟨f,x,k,rfl⟩:=hf u hu;rfl⟩
theorem Rq (l:List K) (n:Nat) (hn:n=l.length) (hn3:n≤9223372036854775807) (b:List Nat) (m:Nat) (hm:m=b.length) (h47:m≤140737488355328) (A:Option Addr) (c:Nat) (B:Option Addr) (d:Nat) (E:Nat) (r:Rg) (hE:Gs l b=(E,r)) (w:World) (hT:Cx w) (hA:Ks w w.heap.size A l) (hB:Bs w w.heap.size b B d):Calls Tryz.prog 17 #[.slice A n c, .slice B m d] w fun e w'=>e= .returned (.tuple #[.agg #[.int .i64 r.t.ser, .int .i64 r.t.kind, .int .i64 r.t.frm, .int .i64 r.t.till, .int .i64 r.t.cls, .int .i64 r.t.card, .int .i64 r.t.seat, .int .i64 r.t.day, .int .i64 r.t.days, .int .i64 r.t.uses, .int .i64 r.t.epoch, .int .i64 r.key, .int .i64 r.left, .int .i64 r.inn, .int .i64 r.ver], .int .i64 (E:Int)])∧Below w.heap.size w w':=by
  have hmf: ∀(fn:Fn) (first cap:Array Value) (w:World),(Instr.makeFunc fn first cap).run Tryz.prog w= .ok (.func fn first cap) w:=fun _ _ _ _=>rfl
  have HN:=Lib.hid hn
  have HM:=Lib.hid hm
  have HT:=Lib.hid hT
  have HA:=Lib.hid hA
  have HB:=Lib.hid hB
  have HE:=Lib.hid hE
  clear hn hm hT hA hB hE
  go_enter Tryz.func17, Tryz.ntmps17
  go_wp2_with fail
  obtain⟨a1,ha1⟩: ∃a1,a1=w.alloc (.cells #[.slice A n c] 22):=⟨_,rfl⟩
  obtain⟨a2,ha2⟩: ∃a2,a2=a1.alloc (.cells #[.int .i64 0, .int .i64 0, .int .i64 0, .int .i64 0, .int .i64 0, .int .i64 0, .int .i64 0, .int .i64 0, .int .i64 0, .int .i64 0, .int .i64 0, .int .i64 0, .int .i64 0, .int .i64 0, .int .i64 0] 39):=⟨_,rfl⟩
  obtain⟨a3,ha3⟩: ∃a3,a3=a2.alloc (.cells #[.slice none 0 0, .slice none 0 0, .slice none 0 0] 66):=⟨_,rfl⟩
  obtain⟨a4,ha4⟩: ∃a4,a4=a3.alloc (.cells #[.int .i64 0, .int .i64 0, .int .i64 0, .int .i64 0, .int .i64 0, .int .i64 0, .int .i64 0, .int .i64 0, .int .i64 0, .int .i64 0, .int .i64 0, .int .i64 0, .int .i64 0, .int .i64 0, .int .i64 0] 39):=⟨_,rfl⟩
  obtain⟨a5,ha5⟩: ∃a5,a5=a4.alloc (.cells #[.func (.func 40) #[] #[.pointer (some ⟨w.heap.size,0,none⟩)]] 74):=⟨_,rfl⟩
  have s1:a1.heap.size=w.heap.size+1:=by rw[ha1,World.size_alloc]
  have s2:a2.heap.size=w.heap.size+1+1:=by rw[ha2,World.size_alloc,s1]
  have s3:a3.heap.size=w.heap.size+1+1+1:=by rw[ha3,World.size_alloc,s2]
  have s4:a4.heap.size=w.heap.size+1+1+1+1:=by rw[ha4,World.size_alloc,s3]
  have s5:a5.heap.size=w.heap.size+1+1+1+1+1:=by rw[ha5,World.size_alloc,s4]
  have b1:Below w.heap.size w a1:=by rw[ha1];exact Aa w _ _
  have b2:Below a1.heap.size a1 a2:=by rw[ha2];exact Aa a1 _ _
  have b3:Below a2.heap.size a2 a3:=by rw[ha3];exact Aa a2 _ _
  have b4:Below a3.heap.size a3 a4:=by rw[ha4];exact Aa a3 _ _
  have b5:Below a4.heap.size a4 a5:=by rw[ha5];exact Aa a4 _ _
  have XG:=Lib.hid (show Blk a5 w.heap.size #[.slice A n c] 22 from((((show Blk a1 w.heap.size _ _ by rw[ha1];exact Blk.new w _ _).next b2).next b3).next b4).next b5)
  have XD:=Lib.hid (show Am a5 (w.heap.size+1) Ah from(((show Am a2 (w.heap.size+1) Ah by rw[←s1,ha2];exact Am.new a1 Ah).next b3).next b4).next b5)
  have XX:=Lib.hid (show Blk a5 (w.heap.size+1+1) #[.slice none 0 0, .slice none 0 0, .slice none 0 0] 66 from((show Blk a3 (w.heap.size+1+1) _ _ by rw[←s2,ha3];exact Blk.new a2 _ _).next b4).next b5)
  have XR:=Lib.hid (show Am a5 (w.heap.size+1+1+1) Ah from((show Am a4 (w.heap.size+1+1+1) Ah by rw[←s3,ha4];exact Am.new a3 Ah)).next b5)
  have R1:=Lib.hid (show Rd a5 a5.heap.size (some ⟨w.heap.size+1+1+1+1,0,none⟩) [.func (.func 40) #[] #[.pointer (some ⟨w.heap.size,0,none⟩)]] by rw[←s4,ha5];exact Cm a4 _ _)
  have HBL:=Lib.hid (show Below w.heap.size w a5 from b1.trans ((b2.trans ((b3.trans ((b4.trans (b5.mono b4.size)).mono b3.size)).mono b2.size)).mono b1.size))
  have e5:((((w.alloc (.cells #[.slice A n c] 22)).alloc (.cells #[.int .i64 0, .int .i64 0, .int .i64 0, .int .i64 0, .int .i64 0, .int .i64 0, .int .i64 0, .int .i64 0, .int .i64 0, .int .i64 0, .int .i64 0, .int .i64 0, .int .i64 0, .int .i64 0, .int .i64 0] 39)).alloc (.cells #[.slice none 0 0, .slice none 0 0, .slice none 0 0] 66)).alloc (.cells #[.int .i64 0, .int .i64 0, .int .i64 0, .int .i64 0, .int .i64 0, .int .i64 0, .int .i64 0, .int .i64 0, .int .i64 0, .int .i64 0, .int .i64 0, .int .i64 0, .int .i64 0, .int .i64 0, .int .i64 0] 39)).alloc (.cells #[.func (.func 40) #[] #[.pointer (some ⟨w.heap.size,0,none⟩)]] 74)=a5:=by rw[ha5,ha4,ha3,ha2,ha1]
  have HS5:=Lib.hid s5
  rw[e5]
  clear s1 s2 s3 s4 s5 b1 b2 b3 b4 b5 e5 ha1 ha2 ha3 ha4 ha5
  refine(pQ (w.heap.size+1+1) B m d a5).mono ?_
  rintro e w1 ⟨PB,SB,AB,LB,rfl,hb,hP,hS,hAB,hLB,o1,o2,o3,o4⟩
  have O1:=Lib.hid (show w.heap.size+1+1+1+1+1≤PB by rw[←HS5.out];exact o1)
  have O2:=Lib.hid o2
  have O3:=Lib.hid o3
  replace XG:=Lib.hid (XG.out.next hb)
  replace XD:=Lib.hid (XD.out.next hb)
  replace XX:=Lib.hid (XX.out.next hb)
  replace XR:=Lib.hid (XR.out.next hb)
  replace R1:=Lib.hid (R1.out.next hb)
  replace HBL:=Lib.hid (HBL.out.trans (hb.mono HBL.out.size))
  have XP:=Lib.hid hP
  have XS:=Lib.hid hS
  have XA:=Lib.hid hAB
  have R2:=Lib.hid (show Rd w1 w1.heap.size (some ⟨LB,0,none⟩) (Kt PB SB AB)from Af5 hLB)
  clear hb hP hS hAB hLB o1 o2 o3 o4 HS5
  go_wp2_with fail
  obtain⟨c1,hc1⟩: ∃c1,c1=w1.alloc (.cells #[.func (.func 42) #[] #[.pointer (some ⟨w.heap.size+1+1,0,none⟩), .pointer (some ⟨w.heap.size+1+1+1,0,none⟩)], .func (.func 44) #[] #[.pointer (some ⟨w.heap.size+1+1,0,none⟩), .pointer (some ⟨w.heap.size,0,none⟩), .pointer (some ⟨w.heap.size+1+1+1,0,none⟩)]] 74):=⟨_,rfl⟩
  have t1:c1.heap.size=w1.heap.size+1:=by rw[hc1,World.size_alloc]
  rw[←hc1, ←t1]
  have hb:Below w1.heap.size w1 c1:=by rw[hc1];exact Aa w1 _ _
  have hr3:Rd c1 c1.heap.size (some ⟨w1.heap.size,0,none⟩) [.func (.func 42) #[] #[.pointer (some ⟨w.heap.size+1+1,0,none⟩), .pointer (some ⟨w.heap.size+1+1+1,0,none⟩)], .func (.func 44) #[] #[.pointer (some ⟨w.heap.size+1+1,0,none⟩), .pointer (some ⟨w.heap.size,0,none⟩), .pointer (some ⟨w.heap.size+1+1+1,0,none⟩)]]:=by rw[hc1];exact Cm w1 _ _
  replace XG:=Lib.hid (XG.out.next hb)
  replace XD:=Lib.hid (XD.out.next hb)
  replace XX:=Lib.hid (XX.out.next hb)
  replace XR:=Lib.hid (XR.out.next hb)
  replace R1:=Lib.hid (R1.out.next hb)
  replace XP:=Lib.hid (XP.out.next hb)
  replace XS:=Lib.hid (XS.out.next hb)
  replace XA:=Lib.hid (XA.out.next hb)
  replace R2:=Lib.hid (R2.out.next hb)
  replace HBL:=Lib.hid (HBL.out.trans (hb.mono HBL.out.size))
  have R3:=Lib.hid hr3
  obtain⟨LC,hLC⟩: ∃LC,LC=w1.heap.size:=⟨_,rfl⟩
  rw[←hLC]at R3⊢
  clear hc1 t1 hb hr3 hLC
  have hps: ∀(Z:World),Below c1.heap.size c1 Z→ ∀p∈([⟨some ⟨w.heap.size+1+1+1+1,0,none⟩,[.func (.func 40) #[] #[.pointer (some ⟨w.heap.size,0,none⟩)]],1⟩,⟨some ⟨LB,0,none⟩,Kt PB SB AB,3⟩,⟨some ⟨LC,0,none⟩,[.func (.func 42) #[] #[.pointer (some ⟨w.heap.size+1+1,0,none⟩), .pointer (some ⟨w.heap.size+1+1+1,0,none⟩)], .func (.func 44) #[] #[.pointer (some ⟨w.heap.size+1+1,0,none⟩), .pointer (some ⟨w.heap.size,0,none⟩), .pointer (some ⟨w.heap.size+1+1+1,0,none⟩)]],2⟩]:List SPart),p.ok Z:=by
    intro Z hZ p hp
    simp only[List.mem_cons,List.not_mem_nil,or_false]at hp
    rcases hp with rfl|rfl|rfl
    · exact Xn (R1.out.next hZ) (by intro u hu;rw[List.mem_singleton]at hu;subst hu;exact⟨_,_,_,rfl⟩)
    · exact Xn (R2.out.next hZ) (by intro u hu;simp only[Kt,List.mem_cons,List.not_mem_nil,or_false]at hu;rcases hu with rfl|rfl|rfl<;>exact⟨_,_,_,rfl⟩)
    · exact Xn (R3.out.next hZ) (by intro u hu;simp only[List.mem_cons,List.not_mem_nil,or_false]at hu;rcases hu with rfl|rfl<;>exact⟨_,_,_,rfl⟩)
  have hb:Below c1.heap.size c1 (c1.alloc (.cells #[.slice (some ⟨w.heap.size+1+1+1+1,0,none⟩) 1 1, .slice (some ⟨LB,0,none⟩) 3 3, .slice (some ⟨LC,0,none⟩) 2 2] 72)):=Aa c1 _ _
  refine(fJ [⟨some ⟨w.heap.size+1+1+1+1,0,none⟩,[.func (.func 40) #[] #[.pointer (some ⟨w.heap.size,0,none⟩)]],1⟩,⟨some ⟨LB,0,none⟩,Kt PB SB AB,3⟩,⟨some ⟨LC,0,none⟩,[.func (.func 42) #[] #[.pointer (some ⟨w.heap.size+1+1,0,none⟩), .pointer (some ⟨w.heap.size+1+1+1,0,none⟩)], .func (.func 44) #[] #[.pointer (some ⟨w.heap.size+1+1,0,none⟩), .pointer (some ⟨w.heap.size,0,none⟩), .pointer (some ⟨w.heap.size+1+1+1,0,none⟩)]],2⟩] c1.heap.size 3 3 _ rfl (by simp) (pT rfl) (hps _ hb) (by omega) (by show 0<6;omega) (by show 6≤1000;omega)).mono ?_
  rintro e w2 ⟨v,rfl,hown,hb2⟩
  clear hps
  replace hb2:=hb.trans (hb2.mono hb.size)
  obtain⟨FA,cF,rfl,hF⟩:=Iq hown
  replace XG:=Lib.hid (XG.out.next hb2)
  replace XD:=Lib.hid (XD.out.next hb2)
  replace XX:=Lib.hid (XX.out.next hb2)
  replace XR:=Lib.hid (XR.out.next hb2)
  replace XP:=Lib.hid (XP.out.next hb2)
  replace XS:=Lib.hid (XS.out.next hb2)
  replace XA:=Lib.hid (XA.out.next hb2)
  replace HBL:=Lib.hid (HBL.out.trans (hb2.mono HBL.out.size))
  have R4:=Lib.hid (show Rd w2 w2.heap.size FA (decV w.heap.size (w.heap.size+1+1) (w.heap.size+1+1+1) PB SB AB)from hF)
  rw[show(Dk [⟨some ⟨w.heap.size+1+1+1+1,0,none⟩,[.func (.func 40) #[] #[.pointer (some ⟨w.heap.size,0,none⟩)]],1⟩,⟨some ⟨LB,0,none⟩,Kt PB SB AB,3⟩,⟨some ⟨LC,0,none⟩,[.func (.func 42) #[] #[.pointer (some ⟨w.heap.size+1+1,0,none⟩), .pointer (some ⟨w.heap.size+1+1+1,0,none⟩)], .func (.func 44) #[] #[.pointer (some ⟨w.heap.size+1+1,0,none⟩), .pointer (some ⟨w.heap.size,0,none⟩), .pointer (some ⟨w.heap.size+1+1+1,0,none⟩)]],2⟩]).length=6 from rfl]
  clear hb hb2 hown hF R1 R2 R3
  go_wp2_with fail
  have hin:=mP (DQ (DB0 w A n c B m d FA (decV w.heap.size (w.heap.size+1+1) (w.heap.size+1+1+1) PB SB AB) w.heap.size (w.heap.size+1) (w.heap.size+1+1) PB SB) l b (w.heap.size+1+1) AB (w.heap.size+1+1+1)) (DR w l b (w.heap.size+1)) (decV w.heap.size (w.heap.size+1+1) (w.heap.size+1+1+1) PB SB AB) 6 rfl FA cF (by omega)
    (fun k w' hk hq=>by
      match k,hk,hq with
      | 0,_,hq=>exact⟨_,hq.1.1.rd⟩
      | 1,_,hq=>exact⟨_,hq.1.2.1.rd⟩
      | 2,_,hq=>exact⟨_,hq.1.2.1.rd⟩
      | 3,_,hq=>exact⟨_,hq.1.2.1.rd⟩
      | 4,_,hq=>exact⟨_,hq.1.2.1.rd⟩
      | 5,_,hq=>exact⟨_,hq.2.1.rd⟩
      | k+6,hk,_=>omega)
    (fun k v hv=>wS HN.out hn3 HM.out h47 HT.out HA.out HB.out (Nat.le_refl _) (by omega) (by omega) (by omega) (by have:=O1.out;omega) O2.out O3.out _ rfl k v hv)
    w2 ⟨⟨⟨HBL.out,R4.out,XG.out,XS.out,XP.out,XD.out⟩,XR.out⟩,XX.out,XA.out⟩
  have HIN:=Lib.hid hin
  clear hin
  refine HIN.out.mono ?_
  rintro e w4 (⟨rfl,r2,hdec,hb0,hR⟩|⟨E2,hne,rfl,e2,rfl,hdec,hbl,hD⟩)
  · obtain⟨rfl,rfl⟩:E=0∧r=r2:=by
      have:=HE.out.symm.trans hdec
      exact⟨(Prod.mk.inj this).1,(Prod.mk.inj this).2⟩
    have YR:=Lib.hid hR
    have YD:=Lib.hid hb0.d
    have YB:=Lib.hid hb0.below
    clear hdec hb0 hR HIN XG XD XX XR XP XS XA R4 HBL
    obtain⟨c0,c1,c2,c3,c4,c5,c6,c7,c8,c9,c10,c11,c12,c13,c14⟩:=YR.out.cells
    go_wp2_with ((with_reducible refine Ac 4 ?_);refine Al YD.out Ai (Bh _ _ _ _ _ _ _ _ _ _ _ _ _ _ _) ?_;intro w9 hw9)
    refine bodyPost_ret (Ab Tryz.results17 _ w9 (w.heap.size+1) 39 #[.int .i64 r.t.ser, .int .i64 r.t.kind, .int .i64 r.t.frm, .int .i64 r.t.till, .int .i64 r.t.cls, .int .i64 r.t.card, .int .i64 r.t.seat, .int .i64 r.t.day, .int .i64 r.t.days, .int .i64 r.t.uses, .int .i64 r.t.epoch, .int .i64 r.key, .int .i64 r.left, .int .i64 r.inn, .int .i64 r.ver] (0,0) _ rfl (by rw[hw9.out];exact setRow_heap _ _ _ _ _ _ YD.out) Tryz.underlying39 rfl Ai) rfl ⟨rfl, ?_⟩
    rw[hw9.out]
    exact below_setRow YB.out (by omega) _
  · obtain⟨rfl,rfl⟩:E=e2∧r=Ah:=by
      have:=HE.out.symm.trans hdec
      exact⟨(Prod.mk.inj this).1,(Prod.mk.inj this).2⟩
    have q1:((E:Int)==0)=false:=by rw[beq_eq_false_iff_ne];exact hne
    have q2:((E:Int) !=0)=true:=by rw[bne_iff_ne];exact hne
    have q3:(E==0)=false:=by rw[beq_eq_false_iff_ne];omega
    have q4:(E !=0)=true:=by rw[bne_iff_ne];omega
    have YD:=Lib.hid hD
    have YB:=Lib.hid hbl
    clear hdec hD hbl hne HIN XG XD XX XR XP XS XA R4 HBL
    go_wp2_with ((with_reducible refine Ac 4 ?_);refine Al YD.out Ai (Bh _ _ _ _ _ _ _ _ _ _ _ _ _ _ _) ?_;intro w9 hw9)
    refine bodyPost_ret (Ab Tryz.results17 _ w9 (w.heap.size+1) 39 #[.int .i64 0, .int .i64 0, .int .i64 0, .int .i64 0, .int .i64 0, .int .i64 0, .int .i64 0, .int .i64 0, .int .i64 0, .int .i64 0, .int .i64 0, .int .i64 0, .int .i64 0, .int .i64 0, .int .i64 0] (0,0) _ rfl (by rw[hw9.out];exact setRow_heap _ _ _ _ _ _ YD.out) Tryz.underlying39 rfl Ai) rfl ⟨rfl, ?_⟩
    rw[hw9.out]
    exact below_setRow YB.out (by omega) _
structure XC:Prop where
 tob: ∀(l:List K) (n:Nat) (b:List Nat) (m:Nat) (A:Option Addr) (c:Nat) (B:Option Addr) (d:Nat) (v k E:Int) (p:List Nat) (i j:Int) (w:World),n=l.length→n≤9223372036854775807→m=b.length→m≤1048576→Cl v→Cl k→toB l b v k=(E,p,i,j)→Cx w→Ks w w.heap.size A l→Bs w w.heap.size b B d→
  Calls Tryz.prog 9 #[.slice A n c, .slice B m d, .int .i64 v, .int .i64 k] w fun e w'=> ∃A' c',e= .returned (.tuple #[.slice A' (p.length:Nat) c', .agg #[.int .i64 i, .int .i64 j], .int .i64 E])∧Bs w' w'.heap.size p A' c'∧Below w.heap.size w w'
 tos: ∀(l:List K) (n:Nat) (b:List Nat) (m:Nat) (A:Option Addr) (c:Nat) (B:Option Addr) (d:Nat) (i j k E:Int) (p:List Nat) (w:World),n=l.length→n≤9223372036854775807→m=b.length→m≤140737488355328→Cl i→Cl j→Cl k→toS l b i j k=(E,p)→Cx w→Ks w w.heap.size A l→Bs w w.heap.size b B d→
  Calls Tryz.prog 13 #[.slice A n c, .slice B m d, .agg #[.int .i64 i, .int .i64 j], .int .i64 k] w fun e w'=> ∃A' c',e= .returned (.tuple #[.slice A' (p.length:Nat) c', .int .i64 E])∧Bs w' w'.heap.size p A' c'∧Below w.heap.size w w'
theorem sU (a b:Int) (w:World):(Op.equalIn 10000 26 (.agg #[.int .i64 a, .int .i64 b]) (.agg #[.int .i64 a, .int .i64 b])).run Tryz.prog w= .ok true w:=by
 go_simp
theorem Ct {n:Int} (h: -1000≤n) (h2:n≤1000):Cl n:=by unfold Cl;omega
theorem Aez {r:Rg} {l:List K} {s:List Nat} (h:Gs l s=(0,r)) {i j k:Int} (hi:Cl i) (hj:Cl j) (hk:Cl k):InR ⟨r.t,k,i,j,0⟩:=by
 have ha:=(Ez r).1 (Ql h)
 obtain⟨hn,hd,hp,hu⟩:=(Dm r.t).1 ha.1
 obtain⟨n1,n2,n3,n4,n5,n6,n7,n8,n9,n10⟩:=(Dc r.t).1 hn
 obtain⟨d1,d2,d3,d4,d5,d6,d7⟩:=(Ir r.t).1 hd
 have hus: -1000≤r.t.uses∧r.t.uses≤1000:=by
  rw[Fr]at hu
  split at hu
  ·simp at hu;omega
  ·have:r.t.uses=r.t.kind.tmod 3:=by simpa using hu
   rw[this]
   rcases(show r.t.kind=1∨r.t.kind=2∨r.t.kind=3∨r.t.kind=4 by omega)with e|e|e|e<;>rw[e]<;>decide
 have hpl: -1000≤r.t.frm∧r.t.frm≤1000∧ -1000≤r.t.till∧r.t.till≤1000:=by
  rw[Dt]at hp
  split at hp
  ·simp at hp;omega
  ·simp[isN]at hp;omega
 have hz:Cl 0:=by unfold Cl;omega
 unfold Cl at hi hj hk hz
 intro x hx
 simp only[rgL,List.mem_cons,List.not_mem_nil,or_false]at hx
 unfold Cl
 rcases hx with rfl|rfl|rfl|rfl|rfl|rfl|rfl|rfl|rfl|rfl|rfl|rfl|rfl|rfl|rfl<;>omega
end Go.Proofs.YtmdbfogjfbbpjaaGreatDoor
end
