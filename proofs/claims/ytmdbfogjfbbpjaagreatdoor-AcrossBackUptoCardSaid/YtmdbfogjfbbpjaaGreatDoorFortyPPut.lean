import Derived.Test.YtmdbfogjfbbpjaaGreatDoorStripePDec
import Derived.Test.YtmdbfogjfbbpjaaGreatDoorFortyPMap
import Derived.Test.YtmdbfogjfbbpjaaGreatDoorTlvPPut
import Derived.Test.YtmdbfogjfbbpjaaGreatDoorRingPFind
import Derived.Test.YtmdbfogjfbbpjaaGreatDoorRingAddMath
import Derived.Test.YtmdbfogjfbbpjaaGreatDoorFieldsPSmall
import Derived.Test.YtmdbfogjfbbpjaaGreatDoorLayPFields
import Derived.Test.YtmdbfogjfbbpjaaGreatDoorMem
import Derived.Test.YtmdbfogjfbbpjaaGreatDoorShaPSum
import Derived.Test.YtmdbfogjfbbpjaaGreatDoorShaRefSum
import Derived.RegionTactic
import Derived.BigRegion
import Derived.Deep.RegionWith
set_option maxHeartbeats 2000000
set_option maxRecDepth 100000
set_option linter.unusedVariables false
section
namespace Go.Proofs.YtmdbfogjfbbpjaaGreatDoor
open Go.ChangeShapes Go.WideShapes Go.ChangeAt Go.RowKit Go.Shelf
attribute [local go_sem] Oper.semAt_some
def Hb (l:List Nat) (ks:List Nat):List Nat:=(ks.map (fun k=>Lk (grp l 2 k))).flatten
theorem qM (l:List Nat) (ks:List Nat) (k:Nat):Hb l (ks++ [k])=Hb l ks++Lk (grp l 2 k):=by simp[Hb]
theorem AbY (l:List Nat) (sz:Nat):grp l sz 0=l.take sz:=by simp[grp]
theorem xW (a b:Nat) (r:List Nat) (k:Nat):grp (a::b::r) 2 (k+1)=grp r 2 k:=by
 rw[grp,grp,show 2*(k+1)=2*k+1+1 by omega,List.drop_succ_cons,List.drop_succ_cons]
theorem cM: ∀(l:List Nat) (m:Nat),(∀k,k<m↔2*k<l.length)→Hb l (List.range m)=putF l
 |[],m,h=>by
  have:=h 0
  obtain rfl:m=0:=by simp at this;omega
  rfl
 |[a],m,h=>by
  have h0:=h 0
  have h1:=h 1
  obtain rfl:m=1:=by simp at h0 h1;omega
  simp[Hb,grp,Lk,putF]
 |a::b::r,m,h=>by
  have h0:=h 0
  obtain⟨m,rfl⟩: ∃j,m=j+1:=⟨m - 1,by simp at h0;omega⟩
  have ih:=cM r m (fun k=>by have:=h (k+1);simp only[List.length_cons]at this;omega)
  rw[List.range_succ_eq_map,Hb,List.map_cons,List.flatten_cons,List.map_map]
  have e:(fun k=>Lk (grp (a::b::r) 2 k)) ∘ Nat.succ=fun k=>Lk (grp r 2 k):=by
   funext k
   show Lk (grp (a::b::r) 2 (k+1))=_
   rw[xW]
  rw[e]
  rw[Hb]at ih
  rw[ih,putF,AbY]
  rfl
theorem cN (l:List Nat) (hl: ∀k,(Lk (grp l 2 k)).length≤3): ∀(ks:List Nat),(Hb l ks).length≤3*ks.length
 |[]=>Nat.le_refl _
 |k::ks=>by
  have:=cN l hl ks
  have h2:=hl k
  rw[Hb]at this⊢
  rw[List.map_cons,List.flatten_cons,List.length_append,List.length_cons]
  omega
theorem AbZ (l:List Nat):(Lk l).length≤3:=by
 unfold Lk
 split
 ·simp[put3]
 ·simp[put2]
 ·simp
theorem AdW (N:Nat) (hN:4≤N) (l:List Nat) (n:Nat) (hn:n=l.length) (hn4:n≤4000) (p:List Nat) (hp:putF l=p) (m:Nat) (hm: ∀k,k<m↔2*k<n) (A:Option Addr) (c:Nat) (w:World) (hA:Bs w w.heap.size l A c):
    CallsIn Fence.wide N Tryz.prog 57 #[.slice A n c] w fun e w'=> ∃A' c',e= .returned (.slice A' (p.length:Nat) c')∧Bs w' w'.heap.size p A' c'∧Below w.heap.size w w':=by
  have h1:1≤N:=by omega
  obtain⟨i0,hi,hz0,hz1,hz2⟩:=info_parts Be
  have HN:=Lib.hid hn
  have HP:=Lib.hid hp
  have HM:=Lib.hid hm
  have HA:=Lib.hid hA
  clear hn hp hA
  refine callsIn_of_wp_marks Tryz.func57 rfl trivial ?_ rfl
  simp only[Tryz.ntmps57,List.size_toArray,List.length_cons,List.length_nil,Nat.reduceAdd,Nat.reduceSub,Array.replicate_succ,Array.replicate_zero,List.push_toArray,List.append_toArray,List.nil_append,List.cons_append]
  gi_wp2
  refine⟨trivial,(dA Fence.wide (N - 1) trivial rfl _ _ _ _ _).mono ?_⟩
  rintro e w' ⟨rfl,rfl⟩
  -- W0
  gi_wp2
  obtain⟨W0,hW0⟩: ∃W0,((((w.alloc (.cells #[] 5)).alloc (.cells #[.slice (some ⟨w.heap.size,0,none⟩) 0 0] 23)).alloc (.cells #[.slice A n c] 23)).alloc (.cells #[.int .i64 2] 3))=W0:=⟨_,rfl⟩
  have b7:Boxed W0 (w.heap.size+1) 23 (.slice (some ⟨w.heap.size,0,none⟩) 0 0):=by
    rw[←hW0]
    have:=Boxed.new (w.alloc (.cells #[] 5)) 23 (.slice (some ⟨w.heap.size,0,none⟩) 0 0)
    rw[World.size_alloc]at this
    exact(this.alloc _).alloc _
  have ba:Boxed W0 (w.heap.size+1+1) 23 (.slice A n c):=by
    rw[←hW0]
    have:=Boxed.new ((w.alloc (.cells #[] 5)).alloc (.cells #[.slice (some ⟨w.heap.size,0,none⟩) 0 0] 23)) 23 (.slice A n c)
    rw[World.size_alloc,World.size_alloc]at this
    exact this.alloc _
  have bb:Boxed W0 (w.heap.size+1+1+1) 3 (.int .i64 2):=by
    rw[←hW0]
    have:=Boxed.new (((w.alloc (.cells #[] 5)).alloc (.cells #[.slice (some ⟨w.heap.size,0,none⟩) 0 0] 23)).alloc (.cells #[.slice A n c] 23)) 3 (.int .i64 2)
    rw[World.size_alloc,World.size_alloc,World.size_alloc]at this
    exact this
  have hr0:W0.ownsRow w.heap.size 5 1 (.slice (some ⟨w.heap.size,0,none⟩) 0 0) 0 []:=by
    rw[←hW0]
    exact(((World.ownsRow_lit (base:=w.heap.size) (e:= 5) (size:=1) w #[] 0 (Nat.le_refl _) (by decide) rfl).alloc _).alloc _).alloc _
  have hb0:Below w.heap.size w W0:=by
    rw[←hW0]
    exact((((Below.refl _ w).alloc (Nat.le_refl _) _).alloc (by simp) _).alloc (by simp;omega) _).alloc (by simp;omega) _
  have hs0:W0.heap.size=w.heap.size+1+1+1+1:=by rw[←hW0];simp
  rw[hW0]
  clear hW0
  refine wpIn_rangeFunc_ownG rfl h1 (gf:= 158) (lb:= #[.pointer (some ⟨w.heap.size+1+1,0,none⟩), .pointer (some ⟨w.heap.size+1+1+1,0,none⟩)]) rfl trivial (enters_of Tryz.func158 (by kernel_rfl) rfl)
    (Sb Fence.wide (N - 1) trivial rfl (by omega) (w.heap.size+1+1) (w.heap.size+1+1+1) A n c 2 m HM.out (by omega) (by omega) (by rw[HN.out];exact HA.out.len) HA.out.cap W0 (by omega) (by omega) ba.cell bb.cell) KpG.trans (fun W l o o' _ hl ho _=>KpG.put W l o o' hl ho) (Below.refl _ _) (fun _=>rfl)
    (fun pre W=>(∃v,Boxed W (w.heap.size+1) 23 v∧W.ownsRow w.heap.size 5 1 v (Hb l (idx pre)).length (U8 (Hb l (idx pre)))∧True)∧(Boxed W (w.heap.size+1+1) 23 (.slice A n c)∧Boxed W (w.heap.size+1+1+1) 3 (.int .i64 2)∧W0.heap.size≤W.heap.size)∧Below w.heap.size w W)
    (fun _ _ _=>False)
    (OwnFrom.and (Own.from (holdsRow_own w.heap.size (w.heap.size+1) 23 5 1 (fun pre=>(Hb l (idx pre)).length) (fun pre=>U8 (Hb l (idx pre))) (fun _ _=>True)) _)
      (OwnFrom.and (fun s A B row hs hg hr=>⟨hs.1.kept hg (fun e=>by have:=(hr _ e.symm).1;omega),hs.2.1.kept hg (fun e=>by have:=(hr _ e.symm).1;omega),Nat.le_trans hs.2.2 hg.size⟩) (ownFrom_below (Nat.le_refl _) (by omega))))
    (fun _ _ _ _ _ hs _ _=>hs)
    ⟨⟨_,b7,hr0,trivial⟩,⟨ba,bb,Nat.le_refl _⟩,hb0⟩
    (fun x=> { tmps:= #[.slice A n c,undef, .slice none 0 0, .pointer (some ⟨w.heap.size+1,0,none⟩), .slice (A.map (fun a=>a.add (2*x.val))) (eOf n 2 (2*x.val) - 2*x.val) (c - 2*x.val), .slice (some ⟨w.heap.size,0,none⟩) 0 0, .slice A n c, .func (.func 158) #[] #[.pointer (some ⟨w.heap.size+1+1,0,none⟩), .pointer (some ⟨w.heap.size+1+1+1,0,none⟩)], .slice (A.map (fun a=>a.add (2*x.val))) (eOf n 2 (2*x.val) - 2*x.val) (c - 2*x.val),undef,undef,undef,undef,undef,undef,undef,undef,undef],defers:=[] }) ?assign ?body ?done ?stop
  case assign=>
    intro lp x W K hK
    dsimp only[Ach]
    gi_wp2
    exact hK
  case body=>
    rintro lp pre x W ⟨⟨v,h7,hrow, -⟩,⟨hba,hbb,hX3⟩,hB⟩ hlt
    have hx:2*x.val<l.length:=by rw[←HN.out];exact(HM.out _).1 x.isLt
    have hgl:=gH l 2 x.val hx
    have hbs0:=(Acg (HA.out.below hB) 2 x.val hx).more hB.size
    have hsn:Hb l (idx (pre++ [x]))=Hb l (idx pre)++Lk (grp l 2 x.val):=by rw[Ng,qM]
    have hpf:=cN l (fun k=>AbZ _) (idx pre)
    have hmn:2*m≤n+1:=by
      rcases Nat.eq_zero_or_pos m with h|h
      · omega
      · have:=(HM.out (m - 1)).1 (by omega);omega
    rw[tM]at hpf
    have hg1:1≤(grp l 2 x.val).length:=by rw[grp,List.length_take,List.length_drop];omega
    have hg2:(grp l 2 x.val).length≤2:=by rw[grp,List.length_take];omega
    rw[←HN.out]at hgl
    rw[←hgl]
    obtain⟨g,hgg⟩: ∃g,g=grp l 2 x.val:=⟨_,rfl⟩
    rw[←hgg]at hg1 hg2 hbs0 hsn⊢
    have hglt: ∀y∈g,y<256:=hbs0.lt
    have hnof:=Aco g hg2 hglt
    have hput:=Aeb g hg1 hg2 hglt
    obtain⟨k,hk⟩: ∃k,k=g.length:=⟨_,rfl⟩
    rw[←hk]at hput hg1 hg2⊢
    have hgpl:(U8 (Lk g)).length=k+1:=by rw[U8,List.length_map, ←hput,Mf]
    have hgpl2:(Lk g).length=k+1:=by rw[←hput,Mf]
    obtain⟨ap,hap⟩: ∃ap,ap=A.map (fun a=>a.add (2*x.val)):=⟨_,rfl⟩
    obtain⟨cp,hcp⟩: ∃cp,cp=c - 2*x.val:=⟨_,rfl⟩
    rw[←hap, ←hcp]at hbs0⊢
    have hdr:Below W.heap.size W W.drew:=(Below.refl _ W).drew
    have hof:=gP g k hk hg2 ap cp W.drew (hbs0.next hdr)
    obtain⟨q,hq⟩: ∃q,q=nOf g:=⟨_,rfl⟩
    rw[←hq]at hof hnof hput
    have has:=gQ q (k+1) (Lk g) hput W.drew hnof (by omega)
    obtain⟨j,hj⟩: ∃j,j=(Hb l (idx pre)).length:=⟨_,rfl⟩
    rw[←hj]at hrow hpf
    have hm1:j+(k+1)≤maxLen:=by unfold maxLen;omega
    have hm2:(j+(k+1))*1≤140737488355328:=by omega
    have wk:IntKind.i64.wrap ((k:Int)+1)=((k+1:Nat):Int):=by rw[IntWalk.i64_in _ (by omega)];push_cast;rfl
    have hc7:=h7.cell
    have hsz:=hB.size
    have H7:=Lib.hid h7
    have HRW:=Lib.hid hrow
    have HBA:=Lib.hid hba
    have HBBX:=Lib.hid hbb
    have HBB:=Lib.hid hB
    have HPS:=Lib.hid hsn
    have HOF:=Lib.hid hof
    have HAS:=Lib.hid has
    have HDR:=Lib.hid hdr
    have HJ:=Lib.hid hj
    have HGL:=Lib.hid hgpl
    have HGL2:=Lib.hid hgpl2
    clear h7 hrow hba hbb hB hsn hof has hdr hj hgpl hgpl2 hap hcp hgg hk hq hput hglt hbs0 b7 ba bb hr0 hb0 hgl hx
    -- the region that draws its order
    gi_wp2_with fail
    refine wpIn_region_any (by kernel_rfl) ?_
    change wpAnyIn _ _ _ _ _ _ _ _ _ (World.drew _)
    refine Uo lp rfl (gJ (by kernel_rfl)) _ _ _ _ ?_
    refine wpAnyIn_take (i:=1) (oi:=⟨some 10,_,_,_,_,_⟩) (v:= ?_) rfl rfl (by kernel_rfl) (by kernel_rfl) (by kernel_rfl) (fun _ _ _ h=>h) ⟨Or.inl ⟨by rfl, ?_⟩,fun _=>rfl⟩ ?_
    rotate_left
    · intro w
      go_simp
      first | done|with_reducible rfl
    try simp only[Act.put,List.setIfInBounds_toArray,List.set_cons_zero,List.set_cons_succ]
    refine wpAnyIn_take (i:=3) (oi:=⟨some 12,_,_,_,_,_⟩) (v:= ?_) rfl rfl (by kernel_rfl) (by kernel_rfl) (by kernel_rfl) (fun _ _ _ h=>h) ⟨Or.inl ⟨by rfl, ?_⟩,fun _=>rfl⟩ ?_
    rotate_left
    · intro w
      go_simp
      first | done|with_reducible rfl
    try simp only[Act.put,List.setIfInBounds_toArray,List.set_cons_zero,List.set_cons_succ]
    refine wpAnyIn_take (i:=4) (oi:=⟨some 13,_,_,_,_,_⟩) (v:= ?_) rfl rfl (by kernel_rfl) (by kernel_rfl) (by kernel_rfl) (fun _ _ _ h=>h) ⟨Or.inl ⟨by rfl, ?_⟩,fun _=>rfl⟩ ?_
    rotate_left
    · intro w
      go_simp
      first | done|with_reducible rfl
    try simp only[Act.put,List.setIfInBounds_toArray,List.set_cons_zero,List.set_cons_succ]
    refine wpAnyIn_take (i:=5) (oi:=⟨some 14,_,_,_,_,_⟩) (v:= ?_) rfl rfl (by kernel_rfl) (by kernel_rfl) (by kernel_rfl) (fun _ _ _ h=>h) ⟨Or.inl ⟨by rfl, ?_⟩,fun _=>rfl⟩ ?_
    rotate_left
    · intro w
      go_simp
      first | done|with_reducible rfl
    try simp only[Act.put,List.setIfInBounds_toArray,List.set_cons_zero,List.set_cons_succ]
    refine wpAnyIn_ready (rs:=[0,2]) (by kernel_rfl) (by simp) ?_
    refine AllReadyIn.cons (o:=⟨some 9,_,_,_,_,_⟩) rfl (fun K hK=> ?_) (AllReadyIn.cons (o:=⟨some 11, .call _,_,_,_,_⟩) rfl (fun K hK=> ?_) AllReadyIn.nil)
    ·
      go_simp
      refine hK _ _ ?_
      clear hK K
      try simp only[Act.put,List.setIfInBounds_toArray,List.set_cons_zero,List.set_cons_succ]
      refine wpAnyIn_ready (rs:=[2]) (by kernel_rfl) (by simp) ?_
      refine AllReadyIn.cons (o:=⟨some 11, .call _,_,_,_,_⟩) rfl (fun K hK=> ?_) AllReadyIn.nil
      go_simp
      refine⟨trivial,fun _=>by omega, ?_⟩
      gi_at_call 102
      refine(callsIn_wide.2 HOF.out).mono ?_
      rintro e w' ⟨rfl,rfl⟩
      gi_wp2_with fail
      try simp only[Act.put,List.setIfInBounds_toArray,List.set_cons_zero,List.set_cons_succ]
      refine wpAnyIn_ready (rs:=[6]) (by kernel_rfl) (by simp) ?_
      refine AllReadyIn.cons (o:=⟨some 15, .call _,_,_,_,_⟩) rfl (fun K hK=> ?_) AllReadyIn.nil
      go_simp
      refine⟨trivial,fun _=>by omega, ?_⟩
      gi_at_call 101
      refine(callsIn_wide.2 HAS.out).mono ?_
      rintro e w1 ⟨rfl,hs,hb⟩
      have HS:=Lib.hid hs
      have HB1:=Lib.hid (HDR.out.trans (hb.mono HDR.out.size))
      have hc71:=(Dg H7.out HB1.out).cell
      clear hs hb
      gi_wp2_with fail
      try simp only[Act.put,List.setIfInBounds_toArray,List.set_cons_zero,List.set_cons_succ]
      refine wpAnyIn_ready (rs:=[7]) (by kernel_rfl) (by simp) ?_
      refine AllReadyIn.cons (o:=⟨some 16, .call _,_,_,_,_⟩) rfl (fun K hK=> ?_) AllReadyIn.nil
      refine Jj _ (by rfl) (.tmp 9) (.tmp 15) 23 rfl w.heap.size 5 i0 (.int .u8 0) 1 Tryz.underlying23 hi hz0 hz1 hz2 rfl v j (U8 (Hb l (idx pre))) rfl (Aj HRW.out HB1.out) _ (k+1) (k+1) (U8 (Lk g)) rfl HGL.out (fun i u hu=>by obtain⟨ad,e,_,hcc⟩:=HS.out.rd i u hu;cases e;exact hcc) (Bd _) hm1 hm2 (Nat.le_trans hsz HB1.out.size) ?_
      intro v' w2 hown' hgrow
      obtain⟨g',cap',rfl⟩:=ownsRow_succ hown'
      obtain⟨hv1,hv2,hr2,hk2,hb2⟩:=Jy W0.heap.size H7.out (by decide) HRW.out hsz (by omega) HB1.out hown' hgrow
      have hba2:=Bw (B:=w.heap.size+1) (v':= .slice (some ⟨g',0,none⟩) (j+k+1) cap') HBA.out (by decide) HRW.out HB1.out hgrow (by omega)
      have hbb2:=Bw (B:=w.heap.size+1) (v':= .slice (some ⟨g',0,none⟩) (j+k+1) cap') HBBX.out (by decide) HRW.out HB1.out hgrow (by omega)
      have hc1:=hv1.cell
      have hf1:=hv1.frozen
      refine hK _ _ ?_
      clear hK K
      try simp only[Act.put,List.setIfInBounds_toArray,List.set_cons_zero,List.set_cons_succ]
      refine wpAnyIn_ready (rs:=[8]) (by kernel_rfl) (by simp) ?_
      refine AllReadyIn.cons rfl (fun K hK=> ?_) AllReadyIn.nil
      go_simp
      refine hK _ _ ?_
      clear hK K
      refine wpAnyIn_done (by kernel_rfl) ?_ _
      exact⟨hk2,KpG.boxed HBA.out HBBX.out hba2 hbb2,⟨⟨_,hv2,by rw[HPS.out,Nh,List.length_append, ←HJ.out,HGL2.out];exact hr2,trivial⟩,⟨hba2,hbb2,Nat.le_trans hX3 hk2.size⟩,HBB.out.trans hb2⟩⟩
    ·
      go_simp
      refine⟨trivial,fun _=>by omega, ?_⟩
      gi_at_call 102
      refine(callsIn_wide.2 HOF.out).mono ?_
      rintro e w' ⟨rfl,rfl⟩
      gi_wp2_with fail
      try simp only[Act.put,List.setIfInBounds_toArray,List.set_cons_zero,List.set_cons_succ]
      refine wpAnyIn_ready (rs:=[0,6]) (by kernel_rfl) (by simp) ?_
      refine AllReadyIn.cons (o:=⟨some 9,_,_,_,_,_⟩) rfl (fun K hK=> ?_) (AllReadyIn.cons (o:=⟨some 15, .call _,_,_,_,_⟩) rfl (fun K hK=> ?_) AllReadyIn.nil)
      ·
        go_simp
        refine hK _ _ ?_
        clear hK K
        try simp only[Act.put,List.setIfInBounds_toArray,List.set_cons_zero,List.set_cons_succ]
        refine wpAnyIn_ready (rs:=[6]) (by kernel_rfl) (by simp) ?_
        refine AllReadyIn.cons (o:=⟨some 15, .call _,_,_,_,_⟩) rfl (fun K hK=> ?_) AllReadyIn.nil
        go_simp
        refine⟨trivial,fun _=>by omega, ?_⟩
        gi_at_call 101
        refine(callsIn_wide.2 HAS.out).mono ?_
        rintro e w1 ⟨rfl,hs,hb⟩
        have HS:=Lib.hid hs
        have HB1:=Lib.hid (HDR.out.trans (hb.mono HDR.out.size))
        have hc71:=(Dg H7.out HB1.out).cell
        clear hs hb
        gi_wp2_with fail
        try simp only[Act.put,List.setIfInBounds_toArray,List.set_cons_zero,List.set_cons_succ]
        refine wpAnyIn_ready (rs:=[7]) (by kernel_rfl) (by simp) ?_
        refine AllReadyIn.cons (o:=⟨some 16, .call _,_,_,_,_⟩) rfl (fun K hK=> ?_) AllReadyIn.nil
        refine Jj _ (by rfl) (.tmp 9) (.tmp 15) 23 rfl w.heap.size 5 i0 (.int .u8 0) 1 Tryz.underlying23 hi hz0 hz1 hz2 rfl v j (U8 (Hb l (idx pre))) rfl (Aj HRW.out HB1.out) _ (k+1) (k+1) (U8 (Lk g)) rfl HGL.out (fun i u hu=>by obtain⟨ad,e,_,hcc⟩:=HS.out.rd i u hu;cases e;exact hcc) (Bd _) hm1 hm2 (Nat.le_trans hsz HB1.out.size) ?_
        intro v' w2 hown' hgrow
        obtain⟨g',cap',rfl⟩:=ownsRow_succ hown'
        obtain⟨hv1,hv2,hr2,hk2,hb2⟩:=Jy W0.heap.size H7.out (by decide) HRW.out hsz (by omega) HB1.out hown' hgrow
        have hba2:=Bw (B:=w.heap.size+1) (v':= .slice (some ⟨g',0,none⟩) (j+k+1) cap') HBA.out (by decide) HRW.out HB1.out hgrow (by omega)
        have hbb2:=Bw (B:=w.heap.size+1) (v':= .slice (some ⟨g',0,none⟩) (j+k+1) cap') HBBX.out (by decide) HRW.out HB1.out hgrow (by omega)
        have hc1:=hv1.cell
        have hf1:=hv1.frozen
        refine hK _ _ ?_
        clear hK K
        try simp only[Act.put,List.setIfInBounds_toArray,List.set_cons_zero,List.set_cons_succ]
        refine wpAnyIn_ready (rs:=[8]) (by kernel_rfl) (by simp) ?_
        refine AllReadyIn.cons rfl (fun K hK=> ?_) AllReadyIn.nil
        go_simp
        refine hK _ _ ?_
        clear hK K
        refine wpAnyIn_done (by kernel_rfl) ?_ _
        exact⟨hk2,KpG.boxed HBA.out HBBX.out hba2 hbb2,⟨⟨_,hv2,by rw[HPS.out,Nh,List.length_append, ←HJ.out,HGL2.out];exact hr2,trivial⟩,⟨hba2,hbb2,Nat.le_trans hX3 hk2.size⟩,HBB.out.trans hb2⟩⟩
      ·
        go_simp
        refine⟨trivial,fun _=>by omega, ?_⟩
        gi_at_call 101
        refine(callsIn_wide.2 HAS.out).mono ?_
        rintro e w1 ⟨rfl,hs,hb⟩
        have HS:=Lib.hid hs
        have HB1:=Lib.hid (HDR.out.trans (hb.mono HDR.out.size))
        have hc71:=(Dg H7.out HB1.out).cell
        clear hs hb
        gi_wp2_with fail
        try simp only[Act.put,List.setIfInBounds_toArray,List.set_cons_zero,List.set_cons_succ]
        refine wpAnyIn_ready (rs:=[0]) (by kernel_rfl) (by simp) ?_
        refine AllReadyIn.cons (o:=⟨some 9,_,_,_,_,_⟩) rfl (fun K hK=> ?_) AllReadyIn.nil
        go_simp
        refine hK _ _ ?_
        clear hK K
        try simp only[Act.put,List.setIfInBounds_toArray,List.set_cons_zero,List.set_cons_succ]
        refine wpAnyIn_ready (rs:=[7]) (by kernel_rfl) (by simp) ?_
        refine AllReadyIn.cons (o:=⟨some 16, .call _,_,_,_,_⟩) rfl (fun K hK=> ?_) AllReadyIn.nil
        refine Jj _ (by rfl) (.tmp 9) (.tmp 15) 23 rfl w.heap.size 5 i0 (.int .u8 0) 1 Tryz.underlying23 hi hz0 hz1 hz2 rfl v j (U8 (Hb l (idx pre))) rfl (Aj HRW.out HB1.out) _ (k+1) (k+1) (U8 (Lk g)) rfl HGL.out (fun i u hu=>by obtain⟨ad,e,_,hcc⟩:=HS.out.rd i u hu;cases e;exact hcc) (Bd _) hm1 hm2 (Nat.le_trans hsz HB1.out.size) ?_
        intro v' w2 hown' hgrow
        obtain⟨g',cap',rfl⟩:=ownsRow_succ hown'
        obtain⟨hv1,hv2,hr2,hk2,hb2⟩:=Jy W0.heap.size H7.out (by decide) HRW.out hsz (by omega) HB1.out hown' hgrow
        have hba2:=Bw (B:=w.heap.size+1) (v':= .slice (some ⟨g',0,none⟩) (j+k+1) cap') HBA.out (by decide) HRW.out HB1.out hgrow (by omega)
        have hbb2:=Bw (B:=w.heap.size+1) (v':= .slice (some ⟨g',0,none⟩) (j+k+1) cap') HBBX.out (by decide) HRW.out HB1.out hgrow (by omega)
        have hc1:=hv1.cell
        have hf1:=hv1.frozen
        refine hK _ _ ?_
        clear hK K
        try simp only[Act.put,List.setIfInBounds_toArray,List.set_cons_zero,List.set_cons_succ]
        refine wpAnyIn_ready (rs:=[8]) (by kernel_rfl) (by simp) ?_
        refine AllReadyIn.cons rfl (fun K hK=> ?_) AllReadyIn.nil
        go_simp
        refine hK _ _ ?_
        clear hK K
        refine wpAnyIn_done (by kernel_rfl) ?_ _
        exact⟨hk2,KpG.boxed HBA.out HBBX.out hba2 hbb2,⟨⟨_,hv2,by rw[HPS.out,Nh,List.length_append, ←HJ.out,HGL2.out];exact hr2,trivial⟩,⟨hba2,hbb2,Nat.le_trans hX3 hk2.size⟩,HBB.out.trans hb2⟩⟩
  case done=>
    rintro D ys W hD hys ⟨⟨v,h7,hrow, -⟩,⟨hba,hbb,hX3⟩,hB⟩ hK
    rw[hys,cM l m (by rw[←HN.out];exact HM.out),HP.out]at hrow
    have hplt: ∀x∈p,x<256:=by rw[←HP.out];exact Vb l
    obtain⟨A2,c2,rfl, -⟩:=Av hrow hplt
    have hrow':=ownsRow_putObj hrow (.deferred none) hK rfl
    obtain⟨A',c',e',hbs⟩:=Av hrow' hplt
    obtain⟨rfl,rfl⟩:A2=A'∧c2=c':=by injection e' with e1 _ e2;exact⟨e1,e2⟩
    have hc7:=h7.cell
    have HBS:=Lib.hid hbs
    have HK:=Lib.hid hK
    have HBL:=Lib.hid hB
    clear hrow hrow' e' hbs h7 hba hbb hB hK hys b7 ba bb hr0 hb0
    gi_wp2
    refine⟨by simp, .inl ⟨_,_,rfl,run_takeDeferred HK.out, ?_⟩⟩
    exact⟨_,results_tmp rfl _ _ _,A2,c2,rfl,HBS.out,HBL.out.trans (belowK_b (w:=w) (Nat.le_refl _) W D _ _ (by omega) HK.out rfl rfl)⟩
  case stop=>
    rintro D c pre W _ _ h _
    exact h.elim
theorem qN (l:List Nat) (n:Nat) (hn:n=l.length) (hn4:n≤4000) (p:List Nat) (hp:putF l=p) (A:Option Addr) (c:Nat) (w:World) (hA:Bs w w.heap.size l A c):
  Calls Tryz.prog 57 #[.slice A n c] w fun e w'=> ∃A' c',e= .returned (.slice A' (p.length:Nat) c')∧Bs w' w'.heap.size p A' c'∧Below w.heap.size w w':=
 (callsIn_wide (n:=4)).1 (AdW 4 (by omega) l n hn hn4 p hp ((n+1) / 2) (fun k=>by omega) A c w hA)
end Go.Proofs.YtmdbfogjfbbpjaaGreatDoor
end
section
namespace Go.Proofs.YtmdbfogjfbbpjaaGreatDoor
open Go.ChangeShapes Go.WideShapes Go.ChangeAt Go.RowKit
theorem Rz {l:List K} {id:Int} (h1:isR l=true) (h3:As l id≠0):As l id=10:=by
 rw[As,if_pos h1]at h3⊢
 split at h3
 ·exact absurd rfl h3
 ·rename_i h;rw[if_neg h]
theorem Aca (l:List K) (n:Nat) (hn:n=l.length) (hn3:n≤9223372036854775807) (A:Option Addr) (c:Nat) (r:Rg) (E:Nat) (p:List Nat) (hE:ecB l r=(E,p)) (w:World) (hT:Cx w) (hA:Ks w w.heap.size A l):Calls Tryz.prog 22 #[.slice A n c, .agg #[.int .i64 r.t.ser, .int .i64 r.t.kind, .int .i64 r.t.frm, .int .i64 r.t.till, .int .i64 r.t.cls, .int .i64 r.t.card, .int .i64 r.t.seat, .int .i64 r.t.day, .int .i64 r.t.days, .int .i64 r.t.uses, .int .i64 r.t.epoch, .int .i64 r.key, .int .i64 r.left, .int .i64 r.inn, .int .i64 r.ver]] w fun e w'=> ∃A' c',e= .returned (.tuple #[.slice A' (p.length:Nat) c', .int .i64 (E:Int)])∧Bs w' w'.heap.size p A' c'∧Below w.heap.size w w':=by
 obtain⟨b0,h1⟩: ∃b0,isR l=b0:=⟨_,rfl⟩
 have HN:=Lib.hid hn
 have HT:=Lib.hid hT
 have HA:=Lib.hid hA
 have HE:=Lib.hid hE
 have H1:=Lib.hid h1
 clear hn hT hA hE h1
 have HBL:=Lib.hid (Below.refl w.heap.size w)
 go_enter Tryz.func22, Tryz.ntmps22
 go_wp2_with fail
 obtain⟨w1,hw,hx,hb⟩:=El w r
 rw[←hw]
 replace HT:=Lib.hid (HT.out.next hb)
 replace HA:=Lib.hid (HA.out.next hb)
 replace HBL:=Lib.hid (HBL.out.trans (hb.mono HBL.out.size))
 have X1:=Lib.hid hx
 clear hx hb hw
 obtain⟨B1,hB⟩: ∃B,B=w.heap.size:=⟨_,rfl⟩
 rw[←hB]at X1⊢
 clear hB
 refine(Ho l n HN.out b0 H1.out A c w1 HA.out hn3).mono ?_
 rintro e w2 ⟨rfl,hb⟩
 replace HT:=Lib.hid (HT.out.next hb)
 replace HA:=Lib.hid (HA.out.next hb)
 replace X1:=Lib.hid (X1.out.next hb)
 replace HBL:=Lib.hid (HBL.out.trans (hb.mono HBL.out.size))
 clear hb
 have hE:=HE.out
 clear HE
 cases b0
 focus
  rw[ecB,if_pos H1.out]at hE
  obtain⟨rfl,rfl⟩:=Prod.mk.inj hE
 rotate_left
 focus
  rw[ecB,if_neg (by rw[H1.out];decide)]at hE
  obtain⟨G,P,hP⟩: ∃G P,Ci r=(G,P):=⟨_,_,rfl⟩
  rw[hP]at hE
  simp only at hE
  have HP:=Lib.hid hP
  have HE:=Lib.hid hE
  clear hE hP
  obtain⟨c0,c1,c2,c3,c4,c5,c6,c7,c8,c9,c10,c11,c12,c13,c14⟩:=X1.out.cells
  go_wp2_with fail
  refine(Aaa r G P HP.out w2).mono ?_
  rintro e w3 ⟨AP1,cP1,rfl,hs,hb⟩
  clear c0 c1 c2 c3 c4 c5 c6 c7 c8 c9 c10 c11 c12 c13 c14
  replace HT:=Lib.hid (HT.out.next hb)
  replace HA:=Lib.hid (HA.out.next hb)
  replace X1:=Lib.hid (X1.out.next hb)
  replace HBL:=Lib.hid (HBL.out.trans (hb.mono HBL.out.size))
  have P1:=Lib.hid hs
  clear hb hs
  have hE:=HE.out
  clear HE
  by_cases h2:G≠0
  focus
   rw[if_pos h2]at hE
   have s1:((G:Int)==0)=false:=by rw[beq_eq_false_iff_ne];omega
   have s2:((G:Int) !=0)=true:=by rw[bne_iff_ne];omega
   have s3:(G==0)=false:=by rw[beq_eq_false_iff_ne];exact h2
   have s4:(G !=0)=true:=by rw[bne_iff_ne];exact h2
   obtain⟨rfl,rfl⟩:=Prod.mk.inj hE
   clear h2
  rotate_left
  focus
   obtain rfl:=Decidable.not_not.1 h2
   rw[if_neg h2]at hE
   clear h2
   obtain⟨q,hq⟩: ∃q,q=Bn l r.key:=⟨_,rfl⟩
   obtain⟨F0,hF0⟩: ∃F0,F0=As l r.key:=⟨_,rfl⟩
   rw[←hF0]at hE
   have HQ:=Lib.hid hq
   have HF0:=Lib.hid hF0
   have HE:=Lib.hid hE
   clear hE hq hF0
   obtain⟨c0,c1,c2,c3,c4,c5,c6,c7,c8,c9,c10,c11,c12,c13,c14⟩:=X1.out.cells
   go_wp2_with fail
   refine(Ip l n HN.out r.key A c w3 HA.out hn3 q F0 HQ.out HF0.out).mono ?_
   rintro e w4 ⟨S,cc,rfl,hs,hb⟩
   clear c0 c1 c2 c3 c4 c5 c6 c7 c8 c9 c10 c11 c12 c13 c14
   replace HT:=Lib.hid (HT.out.next hb)
   replace HA:=Lib.hid (HA.out.next hb)
   replace X1:=Lib.hid (X1.out.next hb)
   replace P1:=Lib.hid (P1.out.next hb)
   replace HBL:=Lib.hid (HBL.out.trans (hb.mono HBL.out.size))
   have FS:=Lib.hid hs
   clear hb hs
   have hE:=HE.out
   clear HE
   by_cases h3:F0≠0
   focus
    rw[if_pos h3]at hE
    obtain rfl:F0=10:=by rw[HF0.out];exact Rz H1.out (by rw[←HF0.out];exact h3)
    obtain⟨rfl,rfl⟩:=Prod.mk.inj hE
    clear h3
   rotate_left
   focus
    obtain rfl:=Decidable.not_not.1 h3
    rw[if_neg h3]at hE
    obtain⟨rfl,hX⟩:=Prod.mk.inj hE
    rw[wholeB,Mh,HP.out, ←HQ.out]at hX
    simp only at hX
    obtain⟨b,hb⟩: ∃b,putT P=b:=⟨_,rfl⟩
    obtain⟨T,hTg⟩: ∃T,tagB q.sec b=T:=⟨_,rfl⟩
    obtain⟨L,hL⟩: ∃L,b++T=L:=⟨_,rfl⟩
    obtain⟨F,hF⟩: ∃F:Array Value,F=(U8 T).toArray:=⟨_,rfl⟩
    rw[hb,hTg,hL]at hX
    have hbl:b.length≤117:=by rw[←hb];exact Ri HP.out
    have hTL:T.length=32:=by rw[←hTg];exact Gr _ _
    have hTT: ∀x∈T,x<256:=by rw[←hTg];exact Rf _ _
    obtain⟨k,hk⟩: ∃k,k=L.length:=⟨_,rfl⟩
    have hk2:0<k∧k≤149:=by rw[hk, ←hL,List.length_append];omega
    obtain⟨m,hm⟩: ∃m,b.length=m:=⟨_,rfl⟩
    have HS64:=Lib.hid (show q.sec.length≤64 by rw[HQ.out];exact Iw HF0.out.symm)
    have HOUT:=Lib.hid (show iY P=(0,b) by rw[←hb];exact Ux (Va HP.out).1)
    have HL:=Lib.hid hL
    have HX0:=Lib.hid hX
    have HFB:=Lib.hid (show F=(U8 (tagB q.sec b)).toArray by rw[hTg];exact hF)
    have HIS:=Lib.hid (Fx hF hTL)
    have HFT:=Lib.hid hF
    have HTL:=Lib.hid hTL
    have HTT:=Lib.hid hTT
    have HK:=Lib.hid hk
    have HK2:=Lib.hid hk2
    rw[hm]at hbl
    have HM:=Lib.hid hm
    clear hE h3 hb hTg hL hF hX hTL hTT hk hk2 hm
    go_wp2_with fail
    obtain⟨w5,hw,hx,hb⟩:=Ik w4 ⟨q,S,cc⟩ FS.out
    rw[←hw]
    replace HT:=Lib.hid (HT.out.next hb)
    replace HA:=Lib.hid (HA.out.next hb)
    replace X1:=Lib.hid (X1.out.next hb)
    replace P1:=Lib.hid (P1.out.next hb)
    replace FS:=Lib.hid (FS.out.next hb)
    replace HBL:=Lib.hid (HBL.out.trans (hb.mono HBL.out.size))
    have HX:=Lib.hid hx
    clear hx hb hw
    obtain⟨X,hB⟩: ∃B,B=w4.heap.size:=⟨_,rfl⟩
    rw[←hB]at HX⊢
    clear hB
    refine(Abv P P.length rfl 0 b HOUT.out AP1 cP1 w5 P1.out).mono ?_
    rintro e w6 ⟨AY1,cY1,rfl,hs,hb⟩
    replace HT:=Lib.hid (HT.out.next hb)
    replace HA:=Lib.hid (HA.out.next hb)
    replace X1:=Lib.hid (X1.out.next hb)
    replace P1:=Lib.hid (P1.out.next hb)
    replace FS:=Lib.hid (FS.out.next hb)
    replace HX:=Lib.hid (HX.out.next hb)
    replace HBL:=Lib.hid (HBL.out.trans (hb.mono HBL.out.size))
    have Y1:=Lib.hid hs
    clear hb hs
    rw[HM.out]
    have k1:=cell_of_row _ _ 1 _ _ _ HX.out.1
    go_wp2_with fail
    refine(Xk q.sec b q.sec.length m rfl HM.out.symm S AY1 cc cY1 w6 HT.out FS.out Y1.out (by have:=HS64.out;omega) (by omega) F HFB.out).mono ?_
    rintro e w7 ⟨rfl,hb⟩
    clear k1
    replace HT:=Lib.hid (HT.out.next hb)
    replace HA:=Lib.hid (HA.out.next hb)
    replace X1:=Lib.hid (X1.out.next hb)
    replace P1:=Lib.hid (P1.out.next hb)
    replace FS:=Lib.hid (FS.out.next hb)
    replace HX:=Lib.hid (HX.out.next hb)
    replace Y1:=Lib.hid (Y1.out.next hb)
    replace HBL:=Lib.hid (HBL.out.trans (hb.mono HBL.out.size))
    clear hb
    go_wp2_with ((with_reducible refine Ac 10 ?_);refine Al (heap_alloc_new w7 _) HIS.out.1 HIS.out.2.2 ?_ (hold:=HIS.out.2.1);intro w20 hw20;have HR4:=Lib.hid (Bg hw20.out))
    have hb:=HR4.out.2.2
    replace HT:=Lib.hid (HT.out.next hb)
    replace HA:=Lib.hid (HA.out.next hb)
    replace X1:=Lib.hid (X1.out.next hb)
    replace P1:=Lib.hid (P1.out.next hb)
    replace FS:=Lib.hid (FS.out.next hb)
    replace HX:=Lib.hid (HX.out.next hb)
    replace Y1:=Lib.hid (Y1.out.next hb)
    replace HBL:=Lib.hid (HBL.out.trans (hb.mono HBL.out.size))
    clear hb
    have HRT:=Lib.hid (Qg HR4.out.2.1 HFT.out)
    refine(Uu b T L HL.out m 32 k HM.out.symm HTL.out.symm HK.out AY1 _ cY1 32 w20 Y1.out.rd HRT.out Y1.out.nil (fun h=>by cases h) Y1.out.lt HTT.out HK2.out.1 (by have:=HK2.out;omega)).mono ?_
    rintro e w8 ⟨ALL,cLL,rfl,hs,hb⟩
    replace HT:=Lib.hid (HT.out.next hb)
    replace HA:=Lib.hid (HA.out.next hb)
    replace X1:=Lib.hid (X1.out.next hb)
    replace P1:=Lib.hid (P1.out.next hb)
    replace FS:=Lib.hid (FS.out.next hb)
    replace HX:=Lib.hid (HX.out.next hb)
    replace Y1:=Lib.hid (Y1.out.next hb)
    replace HBL:=Lib.hid (HBL.out.trans (hb.mono HBL.out.size))
    have LL:=Lib.hid hs
    clear hb hs
    go_wp2_with fail
    refine(qN L k HK.out (by have:=HK2.out;omega) p HX0.out ALL cLL w8 LL.out).mono ?_
    rintro e w9 ⟨AO,cO,rfl,hs,hb⟩
    replace HT:=Lib.hid (HT.out.next hb)
    replace HA:=Lib.hid (HA.out.next hb)
    replace X1:=Lib.hid (X1.out.next hb)
    replace P1:=Lib.hid (P1.out.next hb)
    replace FS:=Lib.hid (FS.out.next hb)
    replace HX:=Lib.hid (HX.out.next hb)
    replace Y1:=Lib.hid (Y1.out.next hb)
    replace LL:=Lib.hid (LL.out.next hb)
    replace HBL:=Lib.hid (HBL.out.trans (hb.mono HBL.out.size))
    have O:=Lib.hid hs
    clear hb hs
    go_wp2
    go_ret2
    exact⟨_,_,rfl,O.out,HBL.out⟩
 all_goals
  go_wp2
  go_ret2
  first|exact⟨none,0,rfl,Bs.empty _ _,HBL.out⟩|exact⟨none,0,rfl,Bs.empty _ _,HBL.out.trans ((Aa _ _ _).mono HBL.out.size)⟩
theorem Acb (l:List K) (n:Nat) (hn:n=l.length) (hn3:n≤9223372036854775807) (id:Int) (A:Option Addr) (c:Nat) (s t:List Nat) (j:Nat) (hj:j=s.length) (h117:j≤3999) (ht:t.length=32) (A1 A2:Option Addr) (c1 c2:Nat) (v3:Value) (XB:Nat) (w:World) (hT:Cx w) (hA:Ks w w.heap.size A l) (h1:Bs w w.heap.size s A1 c1) (h2:Bs w w.heap.size t A2 c2) (hX:Blk w XB #[.slice A1 j c1, .slice A2 32 c2,v3] 66) (h0:As l id=10):Calls Tryz.prog 45 #[.pointer (some ⟨XB,0,none⟩), .slice A n c, .int .i64 id] w fun e w'=>e= .returned (.int .i64 10)∧Below w.heap.size w w':=by
 obtain⟨q,hq⟩: ∃q,q=Bn l id:=⟨_,rfl⟩
 have HQ:=Lib.hid hq
 have H0:=Lib.hid h0.symm
 have HN:=Lib.hid hn
 have HA:=Lib.hid hA
 clear hn hA
 clear hT h1 h2 hX hq h0
 have HBL:=Lib.hid (Below.refl w.heap.size w)
 go_enter Tryz.func45, Tryz.ntmps45
 go_wp2_with fail
 refine(Ip l n HN.out id A c w HA.out hn3 q 10 HQ.out H0.out).mono ?_
 rintro e w1 ⟨S,cc,rfl,hs,hb⟩
 replace HA:=Lib.hid (HA.out.next hb)
 replace HBL:=Lib.hid (HBL.out.trans (hb.mono HBL.out.size))
 have FS:=Lib.hid hs
 clear hb hs
 go_wp2_with fail
 obtain⟨w2,hw,hx,hb⟩:=Ik w1 ⟨q,S,cc⟩ FS.out
 rw[←hw]
 replace HA:=Lib.hid (HA.out.next hb)
 replace FS:=Lib.hid (FS.out.next hb)
 replace HBL:=Lib.hid (HBL.out.trans (hb.mono HBL.out.size))
 have HX:=Lib.hid hx
 clear hx hb hw
 obtain⟨X,hB⟩: ∃B,B=w1.heap.size:=⟨_,rfl⟩
 rw[←hB]at HX⊢
 clear hB
 go_wp2
 go_ret
 exact⟨rfl,HBL.out⟩
theorem Nd {P:Program} {o:Oper} {a:Act} {w:World} {K:Act→World→Prop} {Q:Exit→Act→World→Prop} (hgd:o.guard=none) (ty:TypeId) (x y:Operand) (ho:o.op= .store ty x y) (g:Nat) (cells:Array Value) (hx:a.eval x= .pointer (some ⟨g,0,none⟩)) (hy:a.eval y= .agg cells)
  (t:TypeId) (old:Array Value) (hg:w.heap[g]?=some (.cells old t (0,0))) (hi:(P.info? ty).map (·.size)=some cells.size) (hold:old.size=cells.size) (h1:cells.all (·.oneCell')=true) (h:K (a.put o.dst undef) (w.setRow g cells)):Oper.wp P o a w K Q:=by
 unfold Oper.wp execOp
 simp only[ho,hx,hy,Instr.storeAt,Instr.sureAddr,Sem.run_bind,Sem.run_pure,Result.andThen_ok,run_storeVar_row w g t ty old cells hg hi hold h1]
 exact h
theorem Acc (l:List K) (n:Nat) (hn:n=l.length) (hn3:n≤9223372036854775807) (id:Int) (A:Option Addr) (c:Nat) (s t:List Nat) (j:Nat) (hj:j=s.length) (h117:j≤3999) (ht:t.length=32) (A1 A2:Option Addr) (c1 c2:Nat) (v3:Value) (XB:Nat) (w:World) (hT:Cx w) (hA:Ks w w.heap.size A l) (h1:Bs w w.heap.size s A1 c1) (h2:Bs w w.heap.size t A2 c2) (hX:Blk w XB #[.slice A1 j c1, .slice A2 32 c2,v3] 66) (h0:As l id=0) (b:Bool) (hb:(t==tagB (Bn l id).sec s)=b):Calls Tryz.prog 45 #[.pointer (some ⟨XB,0,none⟩), .slice A n c, .int .i64 id] w fun e w'=>e= .returned (.int .i64 (if b=true then 0 else 11))∧Below w.heap.size w w':=by
 have h64:=Iw h0
 obtain⟨V,hV⟩: ∃V:Int,(if b=true then 0 else 11)=V:=⟨_,rfl⟩
 rw[hV]
 have HV:=Lib.hid hV
 clear hV
 obtain⟨q,hq⟩: ∃q,q=Bn l id:=⟨_,rfl⟩
 rw[←hq]at h64 hb
 obtain⟨T,hTg⟩: ∃T,tagB q.sec s=T:=⟨_,rfl⟩
 obtain⟨F,hF⟩: ∃F:Array Value,F=(U8 T).toArray:=⟨_,rfl⟩
 rw[hTg]at hb
 have hTL:T.length=32:=by rw[←hTg];exact Gr _ _
 have HTL:=Lib.hid hTL
 have HTT:=Lib.hid (show∀x∈T,x<256 by rw[←hTg];exact Rf _ _)
 have HFB:=Lib.hid (show F=(U8 (tagB q.sec s)).toArray by rw[hTg];exact hF)
 have HIS:=Lib.hid (Fx hF hTL)
 have HF:=Lib.hid hF
 have H6:=Lib.hid hb
 have HT2:=Lib.hid ht
 have HQ:=Lib.hid hq
 have H0:=Lib.hid h0.symm
 have HS:=Lib.hid h64
 clear hq h0 h64 hTg hF hTL hb ht
 have HN:=Lib.hid hn
 have HJ:=Lib.hid hj
 have HT:=Lib.hid hT
 have HA:=Lib.hid hA
 have H1:=Lib.hid h1
 have H2:=Lib.hid h2
 have HP:=Lib.hid hX
 clear hn hj hT hA h1 h2 hX
 have HBL:=Lib.hid (Below.refl w.heap.size w)
 go_enter Tryz.func45, Tryz.ntmps45
 go_wp2_with fail
 refine(Ip l n HN.out id A c w HA.out hn3 q 0 HQ.out H0.out).mono ?_
 rintro e w1 ⟨S,cc,rfl,hs,hb⟩
 replace HT:=Lib.hid (HT.out.next hb)
 replace HA:=Lib.hid (HA.out.next hb)
 replace H1:=Lib.hid (H1.out.next hb)
 replace H2:=Lib.hid (H2.out.next hb)
 replace HP:=Lib.hid (HP.out.next hb)
 replace HBL:=Lib.hid (HBL.out.trans (hb.mono HBL.out.size))
 have FS:=Lib.hid hs
 clear hb hs
 go_wp2_with fail
 obtain⟨w2,hw,hx,hb⟩:=Ik w1 ⟨q,S,cc⟩ FS.out
 rw[←hw]
 replace HT:=Lib.hid (HT.out.next hb)
 replace HA:=Lib.hid (HA.out.next hb)
 replace H1:=Lib.hid (H1.out.next hb)
 replace H2:=Lib.hid (H2.out.next hb)
 replace HP:=Lib.hid (HP.out.next hb)
 replace FS:=Lib.hid (FS.out.next hb)
 replace HBL:=Lib.hid (HBL.out.trans (hb.mono HBL.out.size))
 have HX:=Lib.hid hx
 clear hx hb hw
 obtain⟨X,hB⟩: ∃B,B=w1.heap.size:=⟨_,rfl⟩
 rw[←hB]at HX⊢
 clear hB
 go_wp2_with fail
 obtain⟨wd,hwd⟩: ∃wd,wd=w2.drew:=⟨_,rfl⟩
 have hb:Below w2.heap.size w2 wd:=by rw[hwd];exact Ae (Below.refl _ _) 1
 replace HT:=Lib.hid (HT.out.next hb)
 replace HA:=Lib.hid (HA.out.next hb)
 replace H1:=Lib.hid (H1.out.next hb)
 replace H2:=Lib.hid (H2.out.next hb)
 replace HP:=Lib.hid (HP.out.next hb)
 replace FS:=Lib.hid (FS.out.next hb)
 replace HX:=Lib.hid (HX.out.next hb)
 replace HBL:=Lib.hid (HBL.out.trans (hb.mono HBL.out.size))
 clear hb
 refine wp_region_held_drew (S:=fun w'=>Box w' X ⟨q,S,cc⟩∧Blk w' XB #[.slice A1 j c1, .slice A2 32 c2,v3] 66) (by kernel_rfl) (show Box w2.drew X ⟨q,S,cc⟩∧Blk w2.drew XB #[.slice A1 j c1, .slice A2 32 c2,v3] 66 by rw[←hwd];exact⟨HX.out,HP.out⟩) (fun hHeld=> ?_)
 rw[←hwd]at hHeld⊢
 clear hwd
 refine pl 0 19 hHeld ?_
 refine pl 1 20 hHeld ?_ (hy:=by intro w hSw;obtain⟨hX9,hP9⟩:=hSw;have k1:=cell_of_row _ _ 1 _ _ _ hX9.1;go_simp;(first|done|with_reducible rfl))
 refine pl 2 21 hHeld ?_
 refine pl 3 22 hHeld ?_
 refine pl 4 23 hHeld ?_
 refine pl 5 24 hHeld ?_ (hy:=by intro w hSw;obtain⟨hX9,hP9⟩:=hSw;have x0:=hP9.cell 0 rfl;go_simp;(first|done|with_reducible rfl))
 refine wpAnyH_ready (rs:=[6,7]) (by kernel_rfl) (by simp) ?_
 refine AllReadyH.cons (o:=⟨some 25, .call _,_,_,_,_⟩) rfl (fun K hK=> ?_) (AllReadyH.cons (o:=⟨some 9, .alloc _,_,_,_,_⟩) rfl (fun K hK=> ?_) AllReadyH.nil)
 ·go_simp
  go_at_call 56
  refine(Xk q.sec s q.sec.length j rfl HJ.out S A1 cc c1 _ HT.out FS.out H1.out (by have:=HS.out;omega) h117 F HFB.out).mono ?_
  rintro e w20 ⟨rfl,hb⟩
  go_wp2_with fail
  replace HT:=Lib.hid (HT.out.next hb)
  replace HA:=Lib.hid (HA.out.next hb)
  replace H1:=Lib.hid (H1.out.next hb)
  replace H2:=Lib.hid (H2.out.next hb)
  replace HP:=Lib.hid (HP.out.next hb)
  replace FS:=Lib.hid (FS.out.next hb)
  replace HX:=Lib.hid (HX.out.next hb)
  replace HBL:=Lib.hid (HBL.out.trans (hb.mono HBL.out.size))
  refine hK.out _ _ ⟨HX.out,HP.out⟩ (fun hHeld=> ?_)
  clear hK K
  refine wpAnyH_ready (rs:=[7]) (by kernel_rfl) (by simp) ?_
  refine AllReadyH.cons (o:=⟨some 9, .alloc _,_,_,_,_⟩) rfl (fun K hK=> ?_) AllReadyH.nil
  go_simp
  obtain⟨w21,hy⟩: ∃w21,w21=w20.alloc (.cells #[.int .u8 0, .int .u8 0, .int .u8 0, .int .u8 0, .int .u8 0, .int .u8 0, .int .u8 0, .int .u8 0, .int .u8 0, .int .u8 0, .int .u8 0, .int .u8 0, .int .u8 0, .int .u8 0, .int .u8 0, .int .u8 0, .int .u8 0, .int .u8 0, .int .u8 0, .int .u8 0, .int .u8 0, .int .u8 0, .int .u8 0, .int .u8 0, .int .u8 0, .int .u8 0, .int .u8 0, .int .u8 0, .int .u8 0, .int .u8 0, .int .u8 0, .int .u8 0] 83):=⟨_,rfl⟩
  rw[←hy]
  have hb:Below w20.heap.size w20 w21:=by rw[hy];exact Aa w20 _ _
  have hZ:Blk w21 w20.heap.size #[.int .u8 0, .int .u8 0, .int .u8 0, .int .u8 0, .int .u8 0, .int .u8 0, .int .u8 0, .int .u8 0, .int .u8 0, .int .u8 0, .int .u8 0, .int .u8 0, .int .u8 0, .int .u8 0, .int .u8 0, .int .u8 0, .int .u8 0, .int .u8 0, .int .u8 0, .int .u8 0, .int .u8 0, .int .u8 0, .int .u8 0, .int .u8 0, .int .u8 0, .int .u8 0, .int .u8 0, .int .u8 0, .int .u8 0, .int .u8 0, .int .u8 0, .int .u8 0] 83 :=by rw[hy];exact Blk.new w20 _ _
  have H2x:=H2
  have HPx:=HP
  have HXx:=HX
  have HBLx:=HBL
  have HB0:=Lib.hid hb
  replace HT:=Lib.hid (HT.out.next hb)
  replace HA:=Lib.hid (HA.out.next hb)
  replace H1:=Lib.hid (H1.out.next hb)
  replace H2:=Lib.hid (H2.out.next hb)
  replace HP:=Lib.hid (HP.out.next hb)
  replace FS:=Lib.hid (FS.out.next hb)
  replace HX:=Lib.hid (HX.out.next hb)
  replace HBL:=Lib.hid (HBL.out.trans (hb.mono HBL.out.size))
  obtain⟨Y,hYe⟩: ∃Y,Y=w20.heap.size:=⟨_,rfl⟩
  rw[←hYe]at hZ⊢
  have HZ:=Lib.hid hZ
  have HYL:=Lib.hid (Nat.le_of_eq hYe.symm)
  clear hZ hb hy hYe
  refine hK.out _ _ ⟨HX.out,HP.out⟩ (fun hHeld=> ?_)
  clear hK K
  refine wpAnyH_ready (rs:=[8]) (by kernel_rfl) (by simp) ?_
  refine AllReadyH.cons (o:=⟨none, .store 83 (.tmp 9) (.tmp 25),_,_,_,_⟩) rfl (fun K hK=> ?_) AllReadyH.nil
  rw[if_pos (by rfl)]
  refine Nd rfl 83 (.tmp 9) (.tmp 25) rfl Y F rfl rfl 83 _ HZ.out HIS.out.1 HIS.out.2.1 HIS.out.2.2 ?_
  obtain⟨w30,hw30⟩: ∃w30,w30=w21.setRow Y F:=⟨_,rfl⟩
  rw[←hw30]
  have hb:Below w20.heap.size w20 w30:=by rw[hw30];exact below_setRow HB0.out HYL.out F
  have hY9:Blk w30 Y F 83 :=by rw[hw30];exact HZ.out.row F
  replace HX:=Lib.hid (HXx.out.next hb)
  replace HP:=Lib.hid (HPx.out.next hb)
  replace H2:=Lib.hid (H2x.out.next hb)
  replace HBL:=Lib.hid (HBLx.out.trans (hb.mono HBLx.out.size))
  have HRT:=Lib.hid (Qg hY9 HF.out)
  clear hb hw30 hY9 HZ HB0 HYL HXx HPx H2x HBLx HT HA H1 FS
  refine hK.out _ _ ⟨HX.out,HP.out⟩ (fun hHeld=> ?_)
  clear hK K
  try simp only[Act.put]
  refine wpAnyH_done (by kernel_rfl) ?_ _
  go_wp2_with fail
  have hdr:Below w30.heap.size w30 w30.drew:=Ae (Below.refl _ _) 1
  have T2d:=H2.out.next hdr
  have RTd:=HRT.out.next hdr
  have xt:w30.drew.cell? ⟨XB,1,none⟩=some (.slice A2 32 c2):=(HP.out.next hdr).cell 1 rfl
  go_region_with (first|(go_at_call 36;refine(Lq t T 32 32 HT2.out.symm HTL.out.symm A2 (some ⟨Y,0,none⟩) c2 32 _ T2d.rd RTd T2d.lt HTT.out (by omega) (by omega)).mono ?_;rintro e w31 ⟨rfl,hb31⟩;rw[H6.out])|(go_at_call 41;refine(Ni b 11 V HV.out _).mono ?_;rintro e w32 ⟨rfl,rfl⟩))
  all_goals
   go_wp2
   go_ret
   exact⟨rfl,HBL.out.trans ((hdr.trans (hb31.mono hdr.size)).mono HBL.out.size)⟩
 ·go_simp
  obtain⟨w20,hy⟩: ∃w20,w20=wd.alloc (.cells #[.int .u8 0, .int .u8 0, .int .u8 0, .int .u8 0, .int .u8 0, .int .u8 0, .int .u8 0, .int .u8 0, .int .u8 0, .int .u8 0, .int .u8 0, .int .u8 0, .int .u8 0, .int .u8 0, .int .u8 0, .int .u8 0, .int .u8 0, .int .u8 0, .int .u8 0, .int .u8 0, .int .u8 0, .int .u8 0, .int .u8 0, .int .u8 0, .int .u8 0, .int .u8 0, .int .u8 0, .int .u8 0, .int .u8 0, .int .u8 0, .int .u8 0, .int .u8 0] 83):=⟨_,rfl⟩
  rw[←hy]
  have hb:Below wd.heap.size wd w20:=by rw[hy];exact Aa wd _ _
  have hZ:Blk w20 wd.heap.size #[.int .u8 0, .int .u8 0, .int .u8 0, .int .u8 0, .int .u8 0, .int .u8 0, .int .u8 0, .int .u8 0, .int .u8 0, .int .u8 0, .int .u8 0, .int .u8 0, .int .u8 0, .int .u8 0, .int .u8 0, .int .u8 0, .int .u8 0, .int .u8 0, .int .u8 0, .int .u8 0, .int .u8 0, .int .u8 0, .int .u8 0, .int .u8 0, .int .u8 0, .int .u8 0, .int .u8 0, .int .u8 0, .int .u8 0, .int .u8 0, .int .u8 0, .int .u8 0] 83 :=by rw[hy];exact Blk.new wd _ _
  have H2x:=H2
  have HPx:=HP
  have HXx:=HX
  have HBLx:=HBL
  have HB0:=Lib.hid hb
  replace HT:=Lib.hid (HT.out.next hb)
  replace HA:=Lib.hid (HA.out.next hb)
  replace H1:=Lib.hid (H1.out.next hb)
  replace H2:=Lib.hid (H2.out.next hb)
  replace HP:=Lib.hid (HP.out.next hb)
  replace FS:=Lib.hid (FS.out.next hb)
  replace HX:=Lib.hid (HX.out.next hb)
  replace HBL:=Lib.hid (HBL.out.trans (hb.mono HBL.out.size))
  obtain⟨Y,hYe⟩: ∃Y,Y=wd.heap.size:=⟨_,rfl⟩
  rw[←hYe]at hZ⊢
  have HZ:=Lib.hid hZ
  have HYL:=Lib.hid (Nat.le_of_eq hYe.symm)
  clear hZ hb hy hYe
  refine hK.out _ _ ⟨HX.out,HP.out⟩ (fun hHeld=> ?_)
  clear hK K
  refine wpAnyH_ready (rs:=[6]) (by kernel_rfl) (by simp) ?_
  refine AllReadyH.cons (o:=⟨some 25, .call _,_,_,_,_⟩) rfl (fun K hK=> ?_) AllReadyH.nil
  go_simp
  go_at_call 56
  refine(Xk q.sec s q.sec.length j rfl HJ.out S A1 cc c1 _ HT.out FS.out H1.out (by have:=HS.out;omega) h117 F HFB.out).mono ?_
  rintro e w21 ⟨rfl,hb⟩
  go_wp2_with fail
  replace HT:=Lib.hid (HT.out.next hb)
  replace HA:=Lib.hid (HA.out.next hb)
  replace H1:=Lib.hid (H1.out.next hb)
  replace H2:=Lib.hid (H2.out.next hb)
  replace HP:=Lib.hid (HP.out.next hb)
  replace FS:=Lib.hid (FS.out.next hb)
  replace HX:=Lib.hid (HX.out.next hb)
  replace HBL:=Lib.hid (HBL.out.trans (hb.mono HBL.out.size))
  replace HZ:=Lib.hid (HZ.out.next hb)
  replace HB0:=Lib.hid (HB0.out.trans (hb.mono HB0.out.size))
  clear hb
  refine hK.out _ _ ⟨HX.out,HP.out⟩ (fun hHeld=> ?_)
  clear hK K
  refine wpAnyH_ready (rs:=[8]) (by kernel_rfl) (by simp) ?_
  refine AllReadyH.cons (o:=⟨none, .store 83 (.tmp 9) (.tmp 25),_,_,_,_⟩) rfl (fun K hK=> ?_) AllReadyH.nil
  rw[if_pos (by rfl)]
  refine Nd rfl 83 (.tmp 9) (.tmp 25) rfl Y F rfl rfl 83 _ HZ.out HIS.out.1 HIS.out.2.1 HIS.out.2.2 ?_
  obtain⟨w30,hw30⟩: ∃w30,w30=w21.setRow Y F:=⟨_,rfl⟩
  rw[←hw30]
  have hb:Below wd.heap.size wd w30:=by rw[hw30];exact below_setRow HB0.out HYL.out F
  have hY9:Blk w30 Y F 83 :=by rw[hw30];exact HZ.out.row F
  replace HX:=Lib.hid (HXx.out.next hb)
  replace HP:=Lib.hid (HPx.out.next hb)
  replace H2:=Lib.hid (H2x.out.next hb)
  replace HBL:=Lib.hid (HBLx.out.trans (hb.mono HBLx.out.size))
  have HRT:=Lib.hid (Qg hY9 HF.out)
  clear hb hw30 hY9 HZ HB0 HYL HXx HPx H2x HBLx HT HA H1 FS
  refine hK.out _ _ ⟨HX.out,HP.out⟩ (fun hHeld=> ?_)
  clear hK K
  try simp only[Act.put]
  refine wpAnyH_done (by kernel_rfl) ?_ _
  go_wp2_with fail
  have hdr:Below w30.heap.size w30 w30.drew:=Ae (Below.refl _ _) 1
  have T2d:=H2.out.next hdr
  have RTd:=HRT.out.next hdr
  have xt:w30.drew.cell? ⟨XB,1,none⟩=some (.slice A2 32 c2):=(HP.out.next hdr).cell 1 rfl
  go_region_with (first|(go_at_call 36;refine(Lq t T 32 32 HT2.out.symm HTL.out.symm A2 (some ⟨Y,0,none⟩) c2 32 _ T2d.rd RTd T2d.lt HTT.out (by omega) (by omega)).mono ?_;rintro e w31 ⟨rfl,hb31⟩;rw[H6.out])|(go_at_call 41;refine(Ni b 11 V HV.out _).mono ?_;rintro e w32 ⟨rfl,rfl⟩))
  all_goals
   go_wp2
   go_ret
   exact⟨rfl,HBL.out.trans ((hdr.trans (hb31.mono hdr.size)).mono HBL.out.size)⟩
def ar:Rg:=⟨⟨42,1,3,20,2,1,0,10,1,1,0⟩,5,1,0,0⟩
def ax:Rg:=⟨⟨42,1,3,20,2,1,0,10,1,1,0⟩,6,0,0,2⟩
def ak5:K:=⟨5,[1,2,3],0,99⟩
def ak6:K:=⟨6,[9],0,99⟩
def aK:List K:=[ak5,ak6]
def aB:List Nat:=(Im aK ar).2
def aS:List Nat:=(ecB aK ax).2
theorem Tn:isR aK=true:=by kernel_rfl
theorem AfY:As aK 5=0:=by kernel_rfl
theorem AfZ:As aK 6=0:=by kernel_rfl
theorem AfS:As aK 7=10:=by kernel_rfl
theorem tH {α:Type} {z:α} {p:α × List Nat} (h:p.1=z):p=(z,p.2):=Prod.ext h rfl
theorem tI:Im aK ar=(0,aB):=tH (aA Tn (by kernel_rfl) AfY)
theorem Ae2:Hn aK aB=(0,ar):=(Re tI).1
theorem Acd:ecB aK ax=(0,aS):=by
 refine tH ?_
 rw[ecB,if_neg (by rw[Tn];decide),if_neg (by rw[show(Ci ax).1=0 by kernel_rfl];decide),if_neg (by rw[show As aK ax.key=0 from AfZ];decide)]
theorem tJ:Gs aK aS=(0,ax):=(Kq Acd).1
theorem AfT:toB aK aB 2 6=(0,aS,1,0):=nH Ae2 Acd
theorem AfU:toS aK aS 1 0 5=(0,aB):=by rw[Pa tJ];exact tI
theorem Afz:toB aK aB 1 6=(18,[],0,0):=by
 rw[toB,Ae2,if_neg (by simp)]
 simp only
 rw[show ecB aK ⟨ar.t,6,0,0,1⟩=(18,[]) by
  rw[ecB,if_neg (by rw[Tn];decide),if_pos (by rw[show(Ci ⟨ar.t,6,0,0,1⟩).1=18 by kernel_rfl];decide),show(Ci ⟨ar.t,6,0,0,1⟩).1=18 by kernel_rfl],if_pos (by decide)]
 rfl
theorem Af0:toS aK aS 2 0 5=(1,[]):=by
 rw[Pa tJ,Im,if_neg (by rw[Tn];decide),if_pos (by rw[show(lputX ⟨ax.t,5,2,0,0⟩).1=1 by kernel_rfl];decide),show(lputX ⟨ax.t,5,2,0,0⟩).1=1 by kernel_rfl]
theorem Af1:toS aK aS 1 0 7=(10,[]):=by
 rw[Pa tJ,Im,if_neg (by rw[Tn];decide),if_neg (by rw[show(lputX ⟨ax.t,7,1,0,0⟩).1=0 by kernel_rfl];decide),show(⟨ax.t,7,1,0,0⟩:Rg).key=7 from rfl,if_pos (by rw[AfS];decide),AfS]
theorem Af2:toB aK [] 2 6=(14,[],0,0):=by
 have h:Hn aK []=(14,Ah):=by
  rw[Hn,if_neg (by rw[Tn];decide),if_pos (by rw[show Gm []=14 by kernel_rfl];decide),show Gm []=14 by kernel_rfl]
 rw[toB,h,if_pos (by decide)]
theorem cY:aB.length≤1048576∧aS.length≤140737488355328:=⟨by have:=(Re tI).2.2.2;omega,by have:=(Kq Acd).2.2.2.2;omega⟩
theorem AfV:InR ar:=by
 intro x hx
 have: ∀y∈rgL ar, -9223372036854775808≤y∧y≤9223372036854775807:=by decide
 exact this x hx
theorem mG {fn:Func} {p q:Tmp} (h:fn.results= #[.tmp p, .cell q 39]) (tmps:Array Value) (w:World) (g:Nat) (cs:Array Value) (t:TypeId)
  (hq:tmps.getD q undef= .pointer (some ⟨g,0,none⟩)) (hg:w.heap[g]?=some (.cells cs t (0,0))) (hi:(Tryz.prog.info? 39).map (·.size)=some cs.size):
  (results fn tmps).run Tryz.prog w= .ok (.tuple #[tmps.getD p undef, .agg cs]) w:=by
 have hq':tmps[q]?.getD undef= .pointer (some ⟨g,0,none⟩):=by simpa using hq
 have h1:=run_loadVar_row (P:= Tryz.prog) w g t 39 cs (0,0) _ hg Tryz.underlying39 rfl hi
 simp[results,h,hq',asAddr,h1]
end Go.Proofs.YtmdbfogjfbbpjaaGreatDoor
end
