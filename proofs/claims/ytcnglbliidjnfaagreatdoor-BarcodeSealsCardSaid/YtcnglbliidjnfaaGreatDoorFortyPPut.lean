import Derived.Test.YtcnglbliidjnfaaGreatDoorTlvPPut
import Derived.Test.YtcnglbliidjnfaaGreatDoorTicketPSmall
import Derived.Test.YtcnglbliidjnfaaGreatDoorRgBox
import Derived.Test.YtcnglbliidjnfaaGreatDoorShaMix
import Derived.Test.YtcnglbliidjnfaaGreatDoorTlvNum
section
namespace Go.Proofs.YtcnglbliidjnfaaGreatDoor
set_option linter.unusedVariables false
open Go.ChangeShapes Go.WideShapes Go.ChangeAt Go.RowKit Go.Shelf
attribute [local go_sem] Oper.semAt_some
def putFs (l:List Nat) (ks:List Nat):List Nat:=(ks.map (fun k=>putG (grp l 2 k))).flatten
theorem putFs_snoc (l:List Nat) (ks:List Nat) (k:Nat):putFs l (ks++ [k])=putFs l ks++putG (grp l 2 k):=by simp[putFs]
theorem grp_zero (l:List Nat) (sz:Nat):grp l sz 0=l.take sz:=by simp[grp]
theorem grp_succ2 (a b:Nat) (r:List Nat) (k:Nat):grp (a::b::r) 2 (k+1)=grp r 2 k:=by
 rw[grp,grp,show 2*(k+1)=2*k+1+1 by omega,List.drop_succ_cons,List.drop_succ_cons]
theorem putFs_all: ∀(l:List Nat) (m:Nat),(∀k,k<m↔2*k<l.length)→putFs l (List.range m)=putF l
 |[],m,h=>by
  have:=h 0
  obtain rfl:m=0:=by simp at this;omega
  rfl
 |[a],m,h=>by
  have h0:=h 0
  have h1:=h 1
  obtain rfl:m=1:=by simp at h0 h1;omega
  simp[putFs,grp,putG,putF]
 |a::b::r,m,h=>by
  have h0:=h 0
  obtain⟨m,rfl⟩: ∃j,m=j+1:=⟨m - 1,by simp at h0;omega⟩
  have ih:=putFs_all r m (fun k=>by have:=h (k+1);simp only[List.length_cons]at this;omega)
  rw[List.range_succ_eq_map,putFs,List.map_cons,List.flatten_cons,List.map_map]
  have e:(fun k=>putG (grp (a::b::r) 2 k)) ∘ Nat.succ=fun k=>putG (grp r 2 k):=by
   funext k
   show putG (grp (a::b::r) 2 (k+1))=_
   rw[grp_succ2]
  rw[e]
  rw[putFs]at ih
  rw[ih,putF,grp_zero]
  rfl
theorem putFs_len (l:List Nat) (hl: ∀k,(putG (grp l 2 k)).length≤3): ∀(ks:List Nat),(putFs l ks).length≤3*ks.length
 |[]=>Nat.le_refl _
 |k::ks=>by
  have:=putFs_len l hl ks
  have h2:=hl k
  rw[putFs]at this⊢
  rw[List.map_cons,List.flatten_cons,List.length_append,List.length_cons]
  omega
theorem putG_len (l:List Nat):(putG l).length≤3:=by
 unfold putG
 split
 ·simp[put3]
 ·simp[put2]
 ·simp
set_option maxRecDepth 100000 in
set_option maxHeartbeats 2000000 in
theorem fput_in (N : Nat) (hN : 4 ≤ N) (l : List Nat) (n : Nat) (hn : n = l.length) (hn4 : n ≤ 4000) (p : List Nat) (hp : putF l = p) (m : Nat) (hm : ∀ k, k < m ↔ 2 * k < n) (A : Option Addr) (c : Nat) (w : World) (hA : Bs w w.heap.size l A c) :
    CallsIn Fence.wide N Tryz.prog 22 #[.slice A n c] w fun e w' => ∃ A' c', e = .returned (.slice A' (p.length : Nat) c') ∧ Bs w' w'.heap.size p A' c' ∧ Below w.heap.size w w' := by
  have h1 : 1 ≤ N := by omega
  obtain ⟨i0, hi, hz0, hz1, hz2⟩ := info_parts infoU8
  have HN := Lib.hid hn
  have HP := Lib.hid hp
  have HM := Lib.hid hm
  have HA := Lib.hid hA
  clear hn hp hA
  refine callsIn_of_wp_marks Tryz.func22 rfl trivial ?_ rfl
  simp only [Tryz.ntmps22, List.size_toArray, List.length_cons, List.length_nil, Nat.reduceAdd, Nat.reduceSub, Array.replicate_succ, Array.replicate_zero, List.push_toArray, List.append_toArray, List.nil_append, List.cons_append]
  gi_wp2
  refine ⟨trivial, (groups_in Fence.wide (N - 1) trivial rfl _ _ _ _ _).mono ?_⟩
  rintro e w' ⟨rfl, rfl⟩
  -- W0
  gi_wp2
  obtain ⟨W0, hW0⟩ : ∃ W0, ((((w.alloc (.cells #[] 5)).alloc (.cells #[.slice (some ⟨w.heap.size, 0, none⟩) 0 0] 30)).alloc (.cells #[.slice A n c] 30)).alloc (.cells #[.int .i64 2] 3)) = W0 := ⟨_, rfl⟩
  have b7 : Boxed W0 (w.heap.size + 1) 30 (.slice (some ⟨w.heap.size, 0, none⟩) 0 0) := by
    rw [← hW0]
    have := Boxed.new (w.alloc (.cells #[] 5)) 30 (.slice (some ⟨w.heap.size, 0, none⟩) 0 0)
    rw [World.size_alloc] at this
    exact (this.alloc _).alloc _
  have ba : Boxed W0 (w.heap.size + 1 + 1) 30 (.slice A n c) := by
    rw [← hW0]
    have := Boxed.new ((w.alloc (.cells #[] 5)).alloc (.cells #[.slice (some ⟨w.heap.size, 0, none⟩) 0 0] 30)) 30 (.slice A n c)
    rw [World.size_alloc, World.size_alloc] at this
    exact this.alloc _
  have bb : Boxed W0 (w.heap.size + 1 + 1 + 1) 3 (.int .i64 2) := by
    rw [← hW0]
    have := Boxed.new (((w.alloc (.cells #[] 5)).alloc (.cells #[.slice (some ⟨w.heap.size, 0, none⟩) 0 0] 30)).alloc (.cells #[.slice A n c] 30)) 3 (.int .i64 2)
    rw [World.size_alloc, World.size_alloc, World.size_alloc] at this
    exact this
  have hr0 : W0.ownsRow w.heap.size 5 1 (.slice (some ⟨w.heap.size, 0, none⟩) 0 0) 0 [] := by
    rw [← hW0]
    exact (((World.ownsRow_lit (base := w.heap.size) (e := 5) (size := 1) w #[] 0 (Nat.le_refl _) (by decide) rfl).alloc _).alloc _).alloc _
  have hb0 : Below w.heap.size w W0 := by
    rw [← hW0]
    exact ((((Below.refl _ w).alloc (Nat.le_refl _) _).alloc (by simp) _).alloc (by simp; omega) _).alloc (by simp; omega) _
  have hs0 : W0.heap.size = w.heap.size + 1 + 1 + 1 + 1 := by rw [← hW0]; simp
  rw [hW0]
  clear hW0
  refine wpIn_rangeFunc_ownG rfl h1 (gf := 96) (lb := #[.pointer (some ⟨w.heap.size + 1 + 1, 0, none⟩), .pointer (some ⟨w.heap.size + 1 + 1 + 1, 0, none⟩)]) rfl trivial (enters_of Tryz.func96 (by kernel_rfl) rfl)
    (groups_stops Fence.wide (N - 1) trivial rfl (by omega) (w.heap.size + 1 + 1) (w.heap.size + 1 + 1 + 1) A n c 2 m HM.out (by omega) (by omega) (by rw [HN.out]; exact HA.out.len) HA.out.cap W0 (by omega) (by omega) ba.cell bb.cell) KpG.trans (fun W l o o' _ hl ho _ => KpG.put W l o o' hl ho) (Below.refl _ _) (fun _ => rfl)
    (fun pre W => (∃ v, Boxed W (w.heap.size + 1) 30 v ∧ W.ownsRow w.heap.size 5 1 v (putFs l (idx pre)).length (U8 (putFs l (idx pre))) ∧ True) ∧ (Boxed W (w.heap.size + 1 + 1) 30 (.slice A n c) ∧ Boxed W (w.heap.size + 1 + 1 + 1) 3 (.int .i64 2) ∧ W0.heap.size ≤ W.heap.size) ∧ Below w.heap.size w W)
    (fun _ _ _ => False)
    (OwnFrom.and (Own.from (holdsRow_own w.heap.size (w.heap.size + 1) 30 5 1 (fun pre => (putFs l (idx pre)).length) (fun pre => U8 (putFs l (idx pre))) (fun _ _ => True)) _)
      (OwnFrom.and (fun s A B row hs hg hr => ⟨hs.1.kept hg (fun e => by have := (hr _ e.symm).1; omega), hs.2.1.kept hg (fun e => by have := (hr _ e.symm).1; omega), Nat.le_trans hs.2.2 hg.size⟩) (ownFrom_below (Nat.le_refl _) (by omega))))
    (fun _ _ _ _ _ hs _ _ => hs)
    ⟨⟨_, b7, hr0, trivial⟩, ⟨ba, bb, Nat.le_refl _⟩, hb0⟩
    (fun x => { tmps := #[.slice A n c, undef, .slice none 0 0, .pointer (some ⟨w.heap.size + 1, 0, none⟩), .slice (A.map (fun a => a.add (2 * x.val))) (eOf n 2 (2 * x.val) - 2 * x.val) (c - 2 * x.val), .slice (some ⟨w.heap.size, 0, none⟩) 0 0, .slice A n c, .func (.func 96) #[] #[.pointer (some ⟨w.heap.size + 1 + 1, 0, none⟩), .pointer (some ⟨w.heap.size + 1 + 1 + 1, 0, none⟩)], .slice (A.map (fun a => a.add (2 * x.val))) (eOf n 2 (2 * x.val) - 2 * x.val) (c - 2 * x.val), undef, undef, undef, undef, undef, undef, undef, undef, undef], defers := [] }) ?assign ?body ?done ?stop
  case assign =>
    intro lp x W K hK
    dsimp only [encG]
    gi_wp2
    exact hK
  case body =>
    rintro lp pre x W ⟨⟨v, h7, hrow, -⟩, ⟨hba, hbb, hX3⟩, hB⟩ hlt
    have hx : 2 * x.val < l.length := by rw [← HN.out]; exact (HM.out _).1 x.isLt
    have hgl := grp_len l 2 x.val hx
    have hbs0 := (grp_bs (HA.out.below hB) 2 x.val hx).more hB.size
    have hsn : putFs l (idx (pre ++ [x])) = putFs l (idx pre) ++ putG (grp l 2 x.val) := by rw [idx_snoc, putFs_snoc]
    have hpf := putFs_len l (fun k => putG_len _) (idx pre)
    have hmn : 2 * m ≤ n + 1 := by
      rcases Nat.eq_zero_or_pos m with h | h
      · omega
      · have := (HM.out (m - 1)).1 (by omega); omega
    rw [idx_len] at hpf
    have hg1 : 1 ≤ (grp l 2 x.val).length := by rw [grp, List.length_take, List.length_drop]; omega
    have hg2 : (grp l 2 x.val).length ≤ 2 := by rw [grp, List.length_take]; omega
    rw [← HN.out] at hgl
    rw [← hgl]
    obtain ⟨g, hgg⟩ : ∃ g, g = grp l 2 x.val := ⟨_, rfl⟩
    rw [← hgg] at hg1 hg2 hbs0 hsn ⊢
    have hglt : ∀ y ∈ g, y < 256 := hbs0.lt
    have hnof := nOf_lt g hg2 hglt
    have hput := sgs_put g hg1 hg2 hglt
    obtain ⟨k, hk⟩ : ∃ k, k = g.length := ⟨_, rfl⟩
    rw [← hk] at hput hg1 hg2 ⊢
    have hgpl : (U8 (putG g)).length = k + 1 := by rw [U8, List.length_map, ← hput, sgs_len]
    have hgpl2 : (putG g).length = k + 1 := by rw [← hput, sgs_len]
    obtain ⟨ap, hap⟩ : ∃ ap, ap = A.map (fun a => a.add (2 * x.val)) := ⟨_, rfl⟩
    obtain ⟨cp, hcp⟩ : ∃ cp, cp = c - 2 * x.val := ⟨_, rfl⟩
    rw [← hap, ← hcp] at hbs0 ⊢
    have hdr : Below W.heap.size W W.drew := (Below.refl _ W).drew
    have hof := pofBytes_any g k hk hg2 ap cp W.drew (hbs0.next hdr)
    obtain ⟨q, hq⟩ : ∃ q, q = nOf g := ⟨_, rfl⟩
    rw [← hq] at hof hnof hput
    have has := pasSigns_any q (k + 1) (putG g) hput W.drew hnof (by omega)
    obtain ⟨j, hj⟩ : ∃ j, j = (putFs l (idx pre)).length := ⟨_, rfl⟩
    rw [← hj] at hrow hpf
    have hm1 : j + (k + 1) ≤ maxLen := by unfold maxLen; omega
    have hm2 : (j + (k + 1)) * 1 ≤ 140737488355328 := by omega
    have wk : IntKind.i64.wrap ((k : Int) + 1) = ((k + 1 : Nat) : Int) := by rw [IntWalk.i64_in _ (by omega)]; push_cast; rfl
    have hc7 := h7.cell
    have hsz := hB.size
    have H7 := Lib.hid h7
    have HRW := Lib.hid hrow
    have HBA := Lib.hid hba
    have HBBX := Lib.hid hbb
    have HBB := Lib.hid hB
    have HPS := Lib.hid hsn
    have HOF := Lib.hid hof
    have HAS := Lib.hid has
    have HDR := Lib.hid hdr
    have HJ := Lib.hid hj
    have HGL := Lib.hid hgpl
    have HGL2 := Lib.hid hgpl2
    clear h7 hrow hba hbb hB hsn hof has hdr hj hgpl hgpl2 hap hcp hgg hk hq hput hglt hbs0 b7 ba bb hr0 hb0 hgl hx
    -- the region that draws its order
    gi_wp2_with fail
    refine wpIn_region_any (by kernel_rfl) ?_
    change wpAnyIn _ _ _ _ _ _ _ _ _ (World.drew _)
    refine any_inRound lp rfl (noDefer_spec (by kernel_rfl)) _ _ _ _ ?_
    refine wpAnyIn_take (i := 1) (oi := ⟨some 10, _, _, _, _, _⟩) (v := ?_) rfl rfl (by kernel_rfl) (by kernel_rfl) (by kernel_rfl) (fun _ _ _ h => h) ⟨Or.inl ⟨by rfl, ?_⟩, fun _ => rfl⟩ ?_
    rotate_left
    · intro w
      go_simp
      first | done | with_reducible rfl
    try simp only [Act.put, List.setIfInBounds_toArray, List.set_cons_zero, List.set_cons_succ]
    refine wpAnyIn_take (i := 3) (oi := ⟨some 12, _, _, _, _, _⟩) (v := ?_) rfl rfl (by kernel_rfl) (by kernel_rfl) (by kernel_rfl) (fun _ _ _ h => h) ⟨Or.inl ⟨by rfl, ?_⟩, fun _ => rfl⟩ ?_
    rotate_left
    · intro w
      go_simp
      first | done | with_reducible rfl
    try simp only [Act.put, List.setIfInBounds_toArray, List.set_cons_zero, List.set_cons_succ]
    refine wpAnyIn_take (i := 4) (oi := ⟨some 13, _, _, _, _, _⟩) (v := ?_) rfl rfl (by kernel_rfl) (by kernel_rfl) (by kernel_rfl) (fun _ _ _ h => h) ⟨Or.inl ⟨by rfl, ?_⟩, fun _ => rfl⟩ ?_
    rotate_left
    · intro w
      go_simp
      first | done | with_reducible rfl
    try simp only [Act.put, List.setIfInBounds_toArray, List.set_cons_zero, List.set_cons_succ]
    refine wpAnyIn_take (i := 5) (oi := ⟨some 14, _, _, _, _, _⟩) (v := ?_) rfl rfl (by kernel_rfl) (by kernel_rfl) (by kernel_rfl) (fun _ _ _ h => h) ⟨Or.inl ⟨by rfl, ?_⟩, fun _ => rfl⟩ ?_
    rotate_left
    · intro w
      go_simp
      first | done | with_reducible rfl
    try simp only [Act.put, List.setIfInBounds_toArray, List.set_cons_zero, List.set_cons_succ]
    refine wpAnyIn_ready (rs := [0,2]) (by kernel_rfl) (by simp) ?_
    refine AllReadyIn.cons (o := ⟨some 9, _, _, _, _, _⟩) rfl (fun K hK => ?_) (AllReadyIn.cons (o := ⟨some 11, .call _, _, _, _, _⟩) rfl (fun K hK => ?_) AllReadyIn.nil)
    ·
      go_simp
      refine hK _ _ ?_
      clear hK K
      try simp only [Act.put, List.setIfInBounds_toArray, List.set_cons_zero, List.set_cons_succ]
      refine wpAnyIn_ready (rs := [2]) (by kernel_rfl) (by simp) ?_
      refine AllReadyIn.cons (o := ⟨some 11, .call _, _, _, _, _⟩) rfl (fun K hK => ?_) AllReadyIn.nil
      go_simp
      refine ⟨trivial, fun _ => by omega, ?_⟩
      gi_at_call 56
      refine (callsIn_wide.2 HOF.out).mono ?_
      rintro e w' ⟨rfl, rfl⟩
      gi_wp2_with fail
      try simp only [Act.put, List.setIfInBounds_toArray, List.set_cons_zero, List.set_cons_succ]
      refine wpAnyIn_ready (rs := [6]) (by kernel_rfl) (by simp) ?_
      refine AllReadyIn.cons (o := ⟨some 15, .call _, _, _, _, _⟩) rfl (fun K hK => ?_) AllReadyIn.nil
      go_simp
      refine ⟨trivial, fun _ => by omega, ?_⟩
      gi_at_call 55
      refine (callsIn_wide.2 HAS.out).mono ?_
      rintro e w1 ⟨rfl, hs, hb⟩
      have HS := Lib.hid hs
      have HB1 := Lib.hid (HDR.out.trans (hb.mono HDR.out.size))
      have hc71 := (boxed_belowD H7.out HB1.out).cell
      clear hs hb
      gi_wp2_with fail
      try simp only [Act.put, List.setIfInBounds_toArray, List.set_cons_zero, List.set_cons_succ]
      refine wpAnyIn_ready (rs := [7]) (by kernel_rfl) (by simp) ?_
      refine AllReadyIn.cons (o := ⟨some 16, .call _, _, _, _, _⟩) rfl (fun K hK => ?_) AllReadyIn.nil
      refine step_append_in _ (by rfl) (.tmp 9) (.tmp 15) 30 rfl w.heap.size 5 i0 (.int .u8 0) 1 Tryz.underlying30 hi hz0 hz1 hz2 rfl v j (U8 (putFs l (idx pre))) rfl (own_below HRW.out HB1.out) _ (k + 1) (k + 1) (U8 (putG g)) rfl HGL.out (fun i u hu => by obtain ⟨ad, e, _, hcc⟩ := HS.out.rd i u hu; cases e; exact hcc) (U8_one _) hm1 hm2 (Nat.le_trans hsz HB1.out.size) ?_
      intro v' w2 hown' hgrow
      obtain ⟨g', cap', rfl⟩ := ownsRow_succ hown'
      obtain ⟨hv1, hv2, hr2, hk2, hb2⟩ := boxed_grown W0.heap.size H7.out (by decide) HRW.out hsz (by omega) HB1.out hown' hgrow
      have hba2 := boxed_beside (B := w.heap.size + 1) (v' := .slice (some ⟨g', 0, none⟩) (j + k + 1) cap') HBA.out (by decide) HRW.out HB1.out hgrow (by omega)
      have hbb2 := boxed_beside (B := w.heap.size + 1) (v' := .slice (some ⟨g', 0, none⟩) (j + k + 1) cap') HBBX.out (by decide) HRW.out HB1.out hgrow (by omega)
      have hc1 := hv1.cell
      have hf1 := hv1.frozen
      refine hK _ _ ?_
      clear hK K
      try simp only [Act.put, List.setIfInBounds_toArray, List.set_cons_zero, List.set_cons_succ]
      refine wpAnyIn_ready (rs := [8]) (by kernel_rfl) (by simp) ?_
      refine AllReadyIn.cons rfl (fun K hK => ?_) AllReadyIn.nil
      go_simp
      refine hK _ _ ?_
      clear hK K
      refine wpAnyIn_done (by kernel_rfl) ?_ _
      exact ⟨hk2, KpG.boxed HBA.out HBBX.out hba2 hbb2, ⟨⟨_, hv2, by rw [HPS.out, u8_app, List.length_append, ← HJ.out, HGL2.out]; exact hr2, trivial⟩, ⟨hba2, hbb2, Nat.le_trans hX3 hk2.size⟩, HBB.out.trans hb2⟩⟩
    ·
      go_simp
      refine ⟨trivial, fun _ => by omega, ?_⟩
      gi_at_call 56
      refine (callsIn_wide.2 HOF.out).mono ?_
      rintro e w' ⟨rfl, rfl⟩
      gi_wp2_with fail
      try simp only [Act.put, List.setIfInBounds_toArray, List.set_cons_zero, List.set_cons_succ]
      refine wpAnyIn_ready (rs := [0,6]) (by kernel_rfl) (by simp) ?_
      refine AllReadyIn.cons (o := ⟨some 9, _, _, _, _, _⟩) rfl (fun K hK => ?_) (AllReadyIn.cons (o := ⟨some 15, .call _, _, _, _, _⟩) rfl (fun K hK => ?_) AllReadyIn.nil)
      ·
        go_simp
        refine hK _ _ ?_
        clear hK K
        try simp only [Act.put, List.setIfInBounds_toArray, List.set_cons_zero, List.set_cons_succ]
        refine wpAnyIn_ready (rs := [6]) (by kernel_rfl) (by simp) ?_
        refine AllReadyIn.cons (o := ⟨some 15, .call _, _, _, _, _⟩) rfl (fun K hK => ?_) AllReadyIn.nil
        go_simp
        refine ⟨trivial, fun _ => by omega, ?_⟩
        gi_at_call 55
        refine (callsIn_wide.2 HAS.out).mono ?_
        rintro e w1 ⟨rfl, hs, hb⟩
        have HS := Lib.hid hs
        have HB1 := Lib.hid (HDR.out.trans (hb.mono HDR.out.size))
        have hc71 := (boxed_belowD H7.out HB1.out).cell
        clear hs hb
        gi_wp2_with fail
        try simp only [Act.put, List.setIfInBounds_toArray, List.set_cons_zero, List.set_cons_succ]
        refine wpAnyIn_ready (rs := [7]) (by kernel_rfl) (by simp) ?_
        refine AllReadyIn.cons (o := ⟨some 16, .call _, _, _, _, _⟩) rfl (fun K hK => ?_) AllReadyIn.nil
        refine step_append_in _ (by rfl) (.tmp 9) (.tmp 15) 30 rfl w.heap.size 5 i0 (.int .u8 0) 1 Tryz.underlying30 hi hz0 hz1 hz2 rfl v j (U8 (putFs l (idx pre))) rfl (own_below HRW.out HB1.out) _ (k + 1) (k + 1) (U8 (putG g)) rfl HGL.out (fun i u hu => by obtain ⟨ad, e, _, hcc⟩ := HS.out.rd i u hu; cases e; exact hcc) (U8_one _) hm1 hm2 (Nat.le_trans hsz HB1.out.size) ?_
        intro v' w2 hown' hgrow
        obtain ⟨g', cap', rfl⟩ := ownsRow_succ hown'
        obtain ⟨hv1, hv2, hr2, hk2, hb2⟩ := boxed_grown W0.heap.size H7.out (by decide) HRW.out hsz (by omega) HB1.out hown' hgrow
        have hba2 := boxed_beside (B := w.heap.size + 1) (v' := .slice (some ⟨g', 0, none⟩) (j + k + 1) cap') HBA.out (by decide) HRW.out HB1.out hgrow (by omega)
        have hbb2 := boxed_beside (B := w.heap.size + 1) (v' := .slice (some ⟨g', 0, none⟩) (j + k + 1) cap') HBBX.out (by decide) HRW.out HB1.out hgrow (by omega)
        have hc1 := hv1.cell
        have hf1 := hv1.frozen
        refine hK _ _ ?_
        clear hK K
        try simp only [Act.put, List.setIfInBounds_toArray, List.set_cons_zero, List.set_cons_succ]
        refine wpAnyIn_ready (rs := [8]) (by kernel_rfl) (by simp) ?_
        refine AllReadyIn.cons rfl (fun K hK => ?_) AllReadyIn.nil
        go_simp
        refine hK _ _ ?_
        clear hK K
        refine wpAnyIn_done (by kernel_rfl) ?_ _
        exact ⟨hk2, KpG.boxed HBA.out HBBX.out hba2 hbb2, ⟨⟨_, hv2, by rw [HPS.out, u8_app, List.length_append, ← HJ.out, HGL2.out]; exact hr2, trivial⟩, ⟨hba2, hbb2, Nat.le_trans hX3 hk2.size⟩, HBB.out.trans hb2⟩⟩
      ·
        go_simp
        refine ⟨trivial, fun _ => by omega, ?_⟩
        gi_at_call 55
        refine (callsIn_wide.2 HAS.out).mono ?_
        rintro e w1 ⟨rfl, hs, hb⟩
        have HS := Lib.hid hs
        have HB1 := Lib.hid (HDR.out.trans (hb.mono HDR.out.size))
        have hc71 := (boxed_belowD H7.out HB1.out).cell
        clear hs hb
        gi_wp2_with fail
        try simp only [Act.put, List.setIfInBounds_toArray, List.set_cons_zero, List.set_cons_succ]
        refine wpAnyIn_ready (rs := [0]) (by kernel_rfl) (by simp) ?_
        refine AllReadyIn.cons (o := ⟨some 9, _, _, _, _, _⟩) rfl (fun K hK => ?_) AllReadyIn.nil
        go_simp
        refine hK _ _ ?_
        clear hK K
        try simp only [Act.put, List.setIfInBounds_toArray, List.set_cons_zero, List.set_cons_succ]
        refine wpAnyIn_ready (rs := [7]) (by kernel_rfl) (by simp) ?_
        refine AllReadyIn.cons (o := ⟨some 16, .call _, _, _, _, _⟩) rfl (fun K hK => ?_) AllReadyIn.nil
        refine step_append_in _ (by rfl) (.tmp 9) (.tmp 15) 30 rfl w.heap.size 5 i0 (.int .u8 0) 1 Tryz.underlying30 hi hz0 hz1 hz2 rfl v j (U8 (putFs l (idx pre))) rfl (own_below HRW.out HB1.out) _ (k + 1) (k + 1) (U8 (putG g)) rfl HGL.out (fun i u hu => by obtain ⟨ad, e, _, hcc⟩ := HS.out.rd i u hu; cases e; exact hcc) (U8_one _) hm1 hm2 (Nat.le_trans hsz HB1.out.size) ?_
        intro v' w2 hown' hgrow
        obtain ⟨g', cap', rfl⟩ := ownsRow_succ hown'
        obtain ⟨hv1, hv2, hr2, hk2, hb2⟩ := boxed_grown W0.heap.size H7.out (by decide) HRW.out hsz (by omega) HB1.out hown' hgrow
        have hba2 := boxed_beside (B := w.heap.size + 1) (v' := .slice (some ⟨g', 0, none⟩) (j + k + 1) cap') HBA.out (by decide) HRW.out HB1.out hgrow (by omega)
        have hbb2 := boxed_beside (B := w.heap.size + 1) (v' := .slice (some ⟨g', 0, none⟩) (j + k + 1) cap') HBBX.out (by decide) HRW.out HB1.out hgrow (by omega)
        have hc1 := hv1.cell
        have hf1 := hv1.frozen
        refine hK _ _ ?_
        clear hK K
        try simp only [Act.put, List.setIfInBounds_toArray, List.set_cons_zero, List.set_cons_succ]
        refine wpAnyIn_ready (rs := [8]) (by kernel_rfl) (by simp) ?_
        refine AllReadyIn.cons rfl (fun K hK => ?_) AllReadyIn.nil
        go_simp
        refine hK _ _ ?_
        clear hK K
        refine wpAnyIn_done (by kernel_rfl) ?_ _
        exact ⟨hk2, KpG.boxed HBA.out HBBX.out hba2 hbb2, ⟨⟨_, hv2, by rw [HPS.out, u8_app, List.length_append, ← HJ.out, HGL2.out]; exact hr2, trivial⟩, ⟨hba2, hbb2, Nat.le_trans hX3 hk2.size⟩, HBB.out.trans hb2⟩⟩
  case done =>
    rintro D ys W hD hys ⟨⟨v, h7, hrow, -⟩, ⟨hba, hbb, hX3⟩, hB⟩ hK
    rw [hys, putFs_all l m (by rw [← HN.out]; exact HM.out), HP.out] at hrow
    have hplt : ∀ x ∈ p, x < 256 := by rw [← HP.out]; exact putF_lt l
    obtain ⟨A2, c2, rfl, -⟩ := bs_of_own hrow hplt
    have hrow' := ownsRow_putObj hrow (.deferred none) hK rfl
    obtain ⟨A', c', e', hbs⟩ := bs_of_own hrow' hplt
    obtain ⟨rfl, rfl⟩ : A2 = A' ∧ c2 = c' := by injection e' with e1 _ e2; exact ⟨e1, e2⟩
    have hc7 := h7.cell
    have HBS := Lib.hid hbs
    have HK := Lib.hid hK
    have HBL := Lib.hid hB
    clear hrow hrow' e' hbs h7 hba hbb hB hK hys b7 ba bb hr0 hb0
    gi_wp2
    refine ⟨by simp, .inl ⟨_, _, rfl, run_takeDeferred HK.out, ?_⟩⟩
    exact ⟨_, results_tmp rfl _ _ _, A2, c2, rfl, HBS.out, HBL.out.trans (belowK_b (w := w) (Nat.le_refl _) W D _ _ (by omega) HK.out rfl rfl)⟩
  case stop =>
    rintro D c pre W _ _ h _
    exact h.elim
theorem pput_forty (l:List Nat) (n:Nat) (hn:n=l.length) (hn4:n≤4000) (p:List Nat) (hp:putF l=p) (A:Option Addr) (c:Nat) (w:World) (hA:Bs w w.heap.size l A c):
  Calls Tryz.prog 22 #[.slice A n c] w fun e w'=> ∃A' c',e= .returned (.slice A' (p.length:Nat) c')∧Bs w' w'.heap.size p A' c'∧Below w.heap.size w w':=
 (callsIn_wide (n:=4)).1 (fput_in 4 (by omega) l n hn hn4 p hp ((n+1) / 2) (fun k=>by omega) A c w hA)
end Go.Proofs.YtcnglbliidjnfaaGreatDoor
end
section
namespace Go.Proofs.YtcnglbliidjnfaaGreatDoor
set_option linter.unusedVariables false
open Go.ChangeShapes Go.WideShapes Go.ChangeAt Go.RowKit
def Blk (w:World) (X:Nat) (cs:Array Value) (t:TypeId):Prop:=w.heap[X]?=some (.cells cs t (0,0))
theorem Blk.lt {w:World} {X:Nat} {cs:Array Value} {t:TypeId} (h:Blk w X cs t):X<w.heap.size:=(Array.getElem?_eq_some_iff.1 h).1
theorem Blk.next {w w':World} {X:Nat} {cs:Array Value} {t:TypeId} (h:Blk w X cs t) (hb:Below w.heap.size w w'):Blk w' X cs t:=(hb.block _ h.lt).trans h
theorem Blk.below {w w':World} {X B:Nat} {cs:Array Value} {t:TypeId} (h:Blk w X cs t) (hX:X<B) (hb:Below B w w'):Blk w' X cs t:=(hb.block _ hX).trans h
theorem Blk.new (w:World) (cs:Array Value) (t:TypeId):Blk (w.alloc (.cells cs t)) w.heap.size cs t:=heap_alloc_new w _
theorem Blk.alloc {w:World} {X:Nat} {cs:Array Value} {t:TypeId} (h:Blk w X cs t) (o:Obj):Blk (w.alloc o) X cs t:=(heap_alloc_old w o h.lt).trans h
theorem Blk.cell {w:World} {X:Nat} {cs:Array Value} {t:TypeId} (h:Blk w X cs t) (i:Nat) {v:Value} (hi:cs[i]?=some v):w.cell? ⟨X,i,none⟩=some v:=by rw[cell_of_row w X i _ _ (0,0) h];exact hi
theorem Blk.frozen {w:World} {X:Nat} {cs:Array Value} {t:TypeId} (h:Blk w X cs t) (i:Nat):w.frozen? ⟨X,i,none⟩=false:=frozen_of_row w X i _ _ h
theorem Blk.put {w:World} {X:Nat} {cs:Array Value} {t:TypeId} (h:Blk w X cs t) (i:Nat) (v:Value):Blk (w.setCell ⟨X,i,none⟩ v) X (cs.setIfInBounds i v) t:=heap_setCell_same w X i _ _ v h
theorem Blk.far {w:World} {X Y:Nat} {cs:Array Value} {t:TypeId} (h:Blk w X cs t) (hne:X≠Y) (i:Nat) (v:Value):Blk (w.setCell ⟨Y,i,none⟩ v) X cs t:=(heap_setCell_other w ⟨Y,i,none⟩ X v hne).trans h
theorem Blk.row {w:World} {X:Nat} {cs:Array Value} {t:TypeId} (h:Blk w X cs t) (ds:Array Value):Blk (w.setRow X ds) X ds t:=setRow_heap _ _ _ _ _ _ h
theorem Blk.mem {w:World} {X:Nat} {cs:Array Value} {t:TypeId} (h:Blk w X cs t) {a:Addr} (ha:a.block=X) {u:Value} (hc:w.cell? a=some u):u∈cs.toList:=by
 unfold World.cell? at hc
 rw[ha,h]at hc
 simp only at hc
 simp at hc
 have hm:=List.mem_of_getElem? (l:=cs.toList) (i:=a.off) (a:=u) (by first|simpa using hc.2|simpa using hc)
 exact hm
theorem rd_blk {w:World} {X:Nat} {l:List Value} {t:TypeId} (h:Blk w X l.toArray t):Rd w w.heap.size (some ⟨X,0,none⟩) l:=by
 intro k u hu
 refine⟨_,rfl,h.lt, ?_⟩
 rw[at_add]
 exact h.cell k (by rw[List.getElem?_toArray];exact hu)
theorem kcell_grown {w w':World} {X:Nat} (hg:w.grownBy w' (some X)) {a:Addr} (hlt:a.block<w.heap.size) (hne:a.block≠X):w'.cell? a=w.cell? a:=by
 unfold World.cell?
 rw[hg.block _ hlt (by simp;omega)]
theorem Blk.grown {w w':World} {X Y:Nat} {cs:Array Value} {t:TypeId} (h:Blk w Y cs t) (hg:w.grownBy w' (some X)) (hne:Y≠X):Blk w' Y cs t:=(hg.block _ h.lt (by simp;omega)).trans h
theorem RBox.grown {w w':World} {X Y:Nat} {r:Rg} (h:RBox w Y r) (hg:w.grownBy w' (some X)) (hne:Y≠X):RBox w' Y r:=(hg.block _ h.lt (by simp;omega)).trans h
theorem krd_grown {w w':World} {X:Nat} {A:Option Addr} {l:List Value} {cs:Array Value} {t:TypeId} (h:Rd w w.heap.size A l) (hX:Blk w X cs t) (hg:w.grownBy w' (some X)) (hne: ∀u∈l,u∉cs.toList):Rd w' w'.heap.size A l:=by
 intro k u hu
 obtain⟨ad,e,hlt,hc⟩:=h k u hu
 refine⟨ad,e,Nat.lt_of_lt_of_le hlt hg.size, ?_⟩
 rw[kcell_grown hg (by rw[add_block];exact hlt) (fun hq=>hne u (List.mem_of_getElem? hu) (hX.mem hq hc))]
 exact hc
theorem kbs_grown {w w':World} {X:Nat} {s:List Nat} {A:Option Addr} {c:Nat} {cs:Array Value} {t:TypeId} (h:Bs w w.heap.size s A c) (hX:Blk w X cs t) (hg:w.grownBy w' (some X)) (hne: ∀x:Int,Value.int .u8 x∉cs.toList):Bs w' w'.heap.size s A c:=by
 refine⟨krd_grown h.rd hX hg (fun u hu=> ?_),h.nil,h.len,h.cap,h.lt⟩
 simp only[U8,List.mem_map]at hu
 obtain⟨x,_,rfl⟩:=hu
 exact hne _
theorem kts_grown {w w':World} {X:Nat} {l:List Tf} {A:Option Addr} {c:Nat} {cs:Array Value} {t:TypeId} (h:Ts w w.heap.size l A c) (hX:Blk w X cs t) (hg:w.grownBy w' (some X)) (hne: ∀x:Int,Value.int .u8 x∉cs.toList)
  (hno:(∀x:Int,Value.int .i64 x∉cs.toList)∨ ∀(S:Option Addr) (n k:Nat),Value.slice S n k∉cs.toList):Ts w' w'.heap.size l A c:=by
 refine⟨fun i hi=> ?_,h.nil,h.len,h.cap⟩
 obtain⟨ad,S,cc,e,hlt,hk⟩:=h.rd i hi
 have hl2:(ad.add (i*2)).block<w.heap.size:=by rw[add_block];exact hlt
 have hq:(ad.add (i*2)).block≠X:=by
  intro hb
  rcases hno with hn|hn
  ·exact hn _ (hX.mem hb hk.c0)
  ·exact hn _ _ _ (hX.mem (a:=⟨(ad.add (i*2)).block,(ad.add (i*2)).off+1,none⟩) hb hk.c1)
 refine⟨ad,S,cc,e,Nat.lt_of_lt_of_le hlt hg.size, ?_, ?_,kbs_grown hk.bs hX hg hne⟩
 ·rw[kcell_grown hg hl2 hq];exact hk.c0
 ·rw[kcell_grown hg (a:=⟨(ad.add (i*2)).block,(ad.add (i*2)).off+1,none⟩) hl2 hq];exact hk.c1
theorem RBox.blk {w:World} {X:Nat} {r:Rg} (h:RBox w X r):Blk w X #[.int .i64 r.t.ser, .int .i64 r.t.kind, .int .i64 r.t.frm, .int .i64 r.t.till, .int .i64 r.t.cls, .int .i64 r.t.card, .int .i64 r.t.seat, .int .i64 r.t.day, .int .i64 r.t.days, .int .i64 r.t.uses, .int .i64 r.t.epoch, .int .i64 r.key, .int .i64 r.left, .int .i64 r.inn, .int .i64 r.ver] 28 :=h
end Go.Proofs.YtcnglbliidjnfaaGreatDoor
end
section
namespace Go.Proofs.YtcnglbliidjnfaaGreatDoor
set_option linter.unusedVariables false
open Go.ChangeShapes Go.WideShapes Go.ChangeAt Go.RowKit
theorem fdFill_must {a:List Int} {l:List Tf} {k:Nat} (h:k<l.length) (q:128≤(l.getD k TF0).tag):fdFill a (l.drop k)=(16,a):=by
 have e:l.drop k=l.getD k TF0::l.drop (k+1):=by rw[List.getD_eq_getElem?_getD,List.getElem?_eq_getElem h,Option.getD_some,List.getElem_cons_drop]
 rw[e,fdFill,if_pos q]
theorem fdFill_unknown {a:List Int} {l:List Tf} {k:Nat} (h:k<l.length) (q: ¬128≤(l.getD k TF0).tag) (q2:13<(l.getD k TF0).tag):fdFill a (l.drop k)=(15,a):=by
 have e:l.drop k=l.getD k TF0::l.drop (k+1):=by rw[List.getD_eq_getElem?_getD,List.getElem?_eq_getElem h,Option.getD_some,List.getElem_cons_drop]
 rw[e,fdFill,if_neg q,if_pos q2]
theorem fdFill_value {a:List Int} {l:List Tf} {k:Nat} (h:k<l.length) (q2: ¬13<(l.getD k TF0).tag) {v E:Nat} (hv:valT (l.getD k TF0).val=(v,E)) (hE:E≠0):fdFill a (l.drop k)=(E,a):=by
 have e:l.drop k=l.getD k TF0::l.drop (k+1):=by rw[List.getD_eq_getElem?_getD,List.getElem?_eq_getElem h,Option.getD_some,List.getElem_cons_drop]
 rw[e,fdFill,if_neg (by omega),if_neg q2,hv,if_pos hE]
theorem fdFill_step {a:List Int} {l:List Tf} {k:Nat} (h:k<l.length) (q2: ¬13<(l.getD k TF0).tag) {v:Nat} (hv:valT (l.getD k TF0).val=(v,0)):fdFill a (l.drop k)=fdFill (a.set ((l.getD k TF0).tag.toNat - 1) (v:Nat)) (l.drop (k+1)):=by
 have e:l.drop k=l.getD k TF0::l.drop (k+1):=by rw[List.getD_eq_getElem?_getD,List.getElem?_eq_getElem h,Option.getD_some,List.getElem_cons_drop]
 rw[e,fdFill,if_neg (by omega),if_neg q2,hv,if_neg (by simp)]
theorem fdFill_len: ∀(l:List Tf) (a:List Int),(fdFill a l).2.length=a.length
 |[],a=>rfl
 |f::l,a=>by
  rw[fdFill]
  split
  ·rfl
  ·split
   ·rfl
   ·split
    ·rfl
    ·rw[fdFill_len l,List.length_set]
theorem isT_pos {l:List Tf} (h:isT 0 l=true) {k:Nat} (hk:k<l.length):0<(l.getD k TF0).tag:=by
 have hm:l.getD k TF0∈l:=by
  rw[List.getD_eq_getElem?_getD,List.getElem?_eq_getElem hk]
  exact List.getElem_mem _
 exact((isT_short h (by omega) (by omega)).2 _ hm).2.1
set_option maxRecDepth 100000 in
set_option maxHeartbeats 1600000 in
theorem pfill_any (l:List Tf) (n:Nat) (hn:n=l.length) (hi:isT 0 l=true) (a:List Int) (ha:a.length=13) (E:Nat) (a':List Int) (hE:fdFill a l=(E,a')) (X:Nat) (A:Option Addr) (c:Nat) (w:World) (hX:FBox w X (rgL (rdL a))) (hA:Ts w X l A c):
  Calls Tryz.prog 80 #[.func (.func 66) #[.pointer (some ⟨X,0,none⟩)] #[], .slice A n c] w fun e w'=>e= .returned (.int .i64 (E:Int))∧FBox w' X (rgL (rdL a'))∧w.grownBy w' (some X):=by
 have h1:n≤9223372036854775807:=by have h1:=hA.len;have h2:=hA.cap;omega
 have hXw:=hX.lt
 have HX:=Lib.hid hX
 have HN:=Lib.hid hn
 have HI:=Lib.hid hi
 have HA:=Lib.hid hA
 have HE:=Lib.hid hE
 clear hX hn hi hA hE
 go_enter Tryz.func80, Tryz.ntmps80
 go_wp2
 go_loopw [12] (fun i wr=> ∃(k:Nat) (b:List Int),k≤n∧i= .int .i64 k∧b.length=13∧fdFill b (l.drop k)=(E,a')∧FBox wr X (rgL (rdL b))∧w.grownBy wr (some X)) (fun i _=>n - (intOf i).toNat)
 case atStart=>exact⟨0,a,Nat.zero_le _,rfl,ha,HE.out,HX.out,World.grownBy.refl _ _⟩
 case round=>
  obtain⟨k,b,hk,rfl,hbl,hfill,hbox,hg⟩:=hrel
  have HF:=Lib.hid hfill
  have HB:=Lib.hid hbox
  have HG:=Lib.hid hg
  have HL:=Lib.hid hbl
  have hsz:=hg.size
  have hXr:=hbox.lt
  clear hfill hbox hg hbl
  by_cases hlt:k<n
  ·obtain⟨ad,S,cc,rfl,had,hk4⟩:=(HA.out.below (below_grownR HG.out (Nat.le_refl _) (Nat.le_of_lt hXw))).rd k (by rw[←HN.out];exact hlt)
   have hc0:=hk4.c0
   have hc1:=hk4.c1
   have hcap:=hk4.bs.len
   have hcap2:=hk4.bs.cap
   have HKL:=Lib.hid (show k<l.length by rw[←HN.out];exact hlt)
   have h0:=isT_pos HI.out HKL.out
   have b1:(0:Int)≤(k:Int):=by omega
   have b2:(k:Int)<(n:Int):=by omega
   have F1:=Lib.hid (fun q=>fdFill_must (a:=b) HKL.out q)
   have F2:=Lib.hid (fun q q2=>fdFill_unknown (a:=b) HKL.out q q2)
   have F3:=Lib.hid (fun q2 (v E:Nat) hv hE=>fdFill_value (a:=b) HKL.out q2 (v:=v) (E:=E) hv hE)
   have F4:=Lib.hid (fun q2 (v:Nat) hv=>fdFill_step (a:=b) HKL.out q2 (v:=v) hv)
   obtain⟨x,hx⟩: ∃x,x=l.getD k TF0:=⟨_,rfl⟩
   rw[←hx]at hc0 hc1 hcap h0 F1 F2 F3 F4
   have HBS:=Lib.hid (show Bs wr X x.val S cc by rw[hx];exact hk4.bs)
   obtain⟨wb,hwb⟩: ∃wb,wb=wr.alloc (.cells #[.int .i64 x.tag, .slice S x.val.length cc] 77):=⟨_,rfl⟩
   have hlit:Below wr.heap.size wr wb:=by rw[hwb];exact below_lit wr _ _
   have HGB:=Lib.hid (show w.grownBy wb (some X)from grownR_trans HG.out (grownR_below _ hlit))
   have HBB:=Lib.hid (show FBox wb X (rgL (rdL b))from HB.out.next hlit)
   have HBS2:=Lib.hid ((HBS.out.below (hlit.mono (Nat.le_of_lt hXr))).more (Nat.le_of_lt HBB.out.lt))
   clear hx hk4 HBS hlit
   by_cases q1:128≤x.tag
   ·have e:=F1.out q1
    rw[HF.out]at e
    obtain⟨e1,e2⟩:=Prod.mk.inj e
    have HE1:=Lib.hid e1
    have HE2:=Lib.hid e2
    clear e e1 e2
    rw[hwb]at HGB HBB
    clear hwb HBS2
    go_wp2
    go_ret
    exact⟨by rw[HE1.out];rfl,by rw[HE2.out];exact HBB.out,HGB.out⟩
   by_cases q2:13<x.tag
   ·have e:=F2.out q1 q2
    rw[HF.out]at e
    obtain⟨e1,e2⟩:=Prod.mk.inj e
    have HE1:=Lib.hid e1
    have HE2:=Lib.hid e2
    clear e e1 e2
    rw[hwb]at HGB HBB
    clear hwb HBS2
    go_wp2_with fail
    refine(pnum_none X x.tag q2 _).mono ?_
    rintro e w1 ⟨rfl,rfl⟩
    go_wp2
    go_ret
    exact⟨by rw[HE1.out];rfl,by rw[HE2.out];exact HBB.out,HGB.out⟩
   obtain⟨t,ht⟩: ∃t:Nat,x.tag=(t:Int):=⟨x.tag.toNat,by omega⟩
   obtain⟨m,hm⟩: ∃m:Nat,x.val.length=m:=⟨_,rfl⟩
   obtain⟨v,Ev,hv⟩: ∃v Ev,valT x.val=(v,Ev):=⟨_,_,rfl⟩
   have HV:=Lib.hid hv
   have HM:=Lib.hid hm
   have HT:=Lib.hid (show 1≤t∧t≤13 by omega)
   rw[hm]at hc1 hcap hwb
   rw[ht]at hc0 hwb
   have G3:=F3.out q2 v Ev hv
   have G4:=F4.out q2 v
   rw[ht,Int.toNat_natCast]at G4
   have HG3:=Lib.hid G3
   have HG4:=Lib.hid G4
   have b3: ¬((128:Int)≤(t:Int)):=by omega
   rw[hwb]at HGB HBB HBS2
   clear hv hm G3 G4 F1 F2 F3 F4 hwb q1 q2 ht h0
   obtain⟨o,ho⟩: ∃o,o=posN t:=⟨_,rfl⟩
   obtain⟨y,hy⟩: ∃y,(rgL (rdL b))[o]?=some y:=⟨_,by rw[ho];exact pos_at (rdL b) HT.out.1 HT.out.2⟩
   have hcy:=HBB.out.cell hy
   have hfy:=HBB.out.frozen o
   have HPO:=Lib.hid ho.symm
   have HST:=Lib.hid (show(rgL (rdL b)).set o (v:Int)=rgL (rdL (b.set (t - 1) (v:Int))) by rw[ho];exact pos_set HL.out HT.out.1 HT.out.2 _)
   clear hy ho
   go_wp2_with fail
   refine(pnum_any X t HT.out.1 HT.out.2 _).mono ?_
   rintro e w1 ⟨rfl,rfl⟩
   rw[HPO.out]
   go_wp2_with fail
   refine(tpvalue_any x.val m HM.out.symm v Ev HV.out S cc _ HBS2.out).mono ?_
   rintro e w1 ⟨rfl,rfl⟩
   by_cases hE0:Ev=0
   ·subst hE0
    have e:=HG4.out HV.out
    rw[HF.out]at e
    have HE4:=Lib.hid e.symm
    clear e
    go_wp2
    go_roundw
    case rel=>
     refine⟨k+1,b.set (t - 1) (v:Int),by omega,by go_num,by rw[List.length_set];exact HL.out,HE4.out, ?_, ?_⟩
     ·rw[←HST.out]
      exact(HB.out.set o (v:Int)).alloc _
     ·exact grownR_trans (grownR_trans HG.out (grown_cell wr X o (.int .i64 (v:Int)))) (grownR_below (some X) (below_lit _ _ _))
    case measure=>simp[intOf];omega
   ·have e:=HG3.out hE0
    rw[HF.out]at e
    obtain⟨e1,e2⟩:=Prod.mk.inj e
    have HE1:=Lib.hid e1
    have HE2:=Lib.hid e2
    have s1:((Ev:Int)==0)=false:=by rw[beq_eq_false_iff_ne];omega
    have s2:((Ev:Int) !=0)=true:=by rw[bne_iff_ne];omega
    have s3:(Ev==0)=false:=by rw[beq_eq_false_iff_ne];exact hE0
    have s4:(Ev !=0)=true:=by rw[bne_iff_ne];exact hE0
    clear e e1 e2 hE0
    go_wp2
    go_ret
    exact⟨by rw[HE1.out];rfl,by rw[HE2.out];exact HBB.out,HGB.out⟩
  ·have e:k=n:=by omega
   have e2:l.drop k=[]:=List.drop_eq_nil_of_le (by rw[←HN.out];omega)
   have e3:=HF.out
   rw[e2,fdFill]at e3
   obtain⟨rfl,e4⟩:=Prod.mk.inj e3
   have HE4:=Lib.hid e4
   clear e2 e3 e4
   go_wp2
   go_ret
   exact⟨rfl,by rw[←HE4.out];exact HB.out,HG.out⟩
end Go.Proofs.YtcnglbliidjnfaaGreatDoor
end
