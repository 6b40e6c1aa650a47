import Derived.Test.YtcnglbliidjnfaaGreatDoorLineRefIs
import Derived.Test.YtcnglbliidjnfaaGreatDoorTlvPPut
import Derived.StillTailTactics
import Derived.Test.YtcnglbliidjnfaaGreatDoorMacRefBlock
import Derived.Test.YtcnglbliidjnfaaGreatDoorBarPEnc
import Derived.Test.YtcnglbliidjnfaaGreatDoorFieldsRefPut
import Derived.Test.YtcnglbliidjnfaaGreatDoorFortyRefPut
import Derived.Test.YtcnglbliidjnfaaGreatDoorRingFind
import Derived.Test.YtcnglbliidjnfaaGreatDoorBarCoded
import Derived.Test.YtcnglbliidjnfaaGreatDoorRingLast
import Derived.Test.YtcnglbliidjnfaaGreatDoorBarPVer0
section
namespace Go.Proofs.YtcnglbliidjnfaaGreatDoor
set_option linter.unusedVariables false
open Go.ChangeShapes Go.WideShapes Go.ChangeAt Go.RowKit
set_option maxRecDepth 100000 in
set_option maxHeartbeats 1600000 in
theorem refput_tlv (l : List Tf) (n : Nat) (hn : n = l.length) (E : Nat) (p : List Nat) (hp : outT l = (E, p)) (A : Option Addr) (c : Nat) (w : World) (hA : Ts w w.heap.size l A c) :
    Calls Tryz.prog 32 #[.slice A n c] w fun e w' => ∃ A' c', e = .returned (.tuple #[.slice A' (p.length : Nat) c', .int .i64 (E : Int)]) ∧ Bs w' w'.heap.size p A' c' ∧ Below w.heap.size w w' := by
  obtain ⟨i0, hi, hz0, hz1, hz2⟩ := info_parts infoU8
  have h1 : n ≤ 9223372036854775807 := by have h1 := hA.len; have h2 := hA.cap; omega
  have HN := Lib.hid hn
  have HP := Lib.hid hp
  have HA := Lib.hid hA
  clear hn hp hA
  cases hb : isT 0 l with
  | false =>
    have hp := HP.out
    rw [outT_bad hb] at hp
    cases hp
    have HB := Lib.hid hb
    clear hb
    go_enter Tryz.func32, Tryz.ntmps32
    go_wp2_with fail
    refine (refis_tlv l n HN.out false HB.out A c w HA.out).mono ?_
    rintro e w1 ⟨rfl, hb1⟩
    have HB1 := Lib.hid hb1
    clear hb1
    go_wp2
    go_ret2
    exact ⟨none, 0, rfl, Bs.empty _ _, HB1.out⟩
  | true =>
    have hp := HP.out
    rw [outT_ok hb] at hp
    obtain ⟨rfl, hp2⟩ := Prod.mk.inj hp
    obtain ⟨hl, hall⟩ := isT_short hb (by omega) (by omega)
    have hn255 : n ≤ 255 := by rw [HN.out]; omega
    have HALL := Lib.hid hall
    have HB := Lib.hid hb
    have HPP := Lib.hid hp2
    clear hb hp hp2 hl hall
    go_enter Tryz.func32, Tryz.ntmps32
    go_wp2_with fail
    refine (refis_tlv l n HN.out true HB.out A c w HA.out).mono ?_
    rintro e w1 ⟨rfl, hb1⟩
    have HB1 := Lib.hid hb1
    clear hb1
    go_wp2
    go_loopw [4, 5] (fun v i wr => ∃ (k : Nat) (q : List Nat), k ≤ n ∧ i = .int .i64 k ∧ q = putT (l.take k) ∧ q.length ≤ 257 * k ∧ wr.ownsRow w1.heap.size 5 1 v q.length (U8 q) ∧ Below w1.heap.size w1 wr) (fun _ i _ => n - (intOf i).toNat)
    case atStart => exact ⟨0, [], Nat.zero_le _, rfl, rfl, by simp, World.ownsRow_lit w1 #[] 0 (Nat.le_refl _) (by decide) rfl, (Below.refl _ _).alloc (Nat.le_refl _) _⟩
    case round =>
      obtain ⟨k, q, hk, rfl, hq, hql, hown, hbel⟩ := hrel
      have HQ := Lib.hid hq
      have HOW := Lib.hid hown
      have HBL := Lib.hid (HB1.out.trans (hbel.mono HB1.out.size))
      have HBW := Lib.hid hbel
      have hsz := hbel.size
      clear hq hown hbel
      by_cases hlt : k < n
      · obtain ⟨ad, S, cc, rfl, had, hk4⟩ := (HA.out.below HBL.out).rd k (by rw [← HN.out]; exact hlt)
        have HKL := Lib.hid (show k < l.length by rw [← HN.out]; exact hlt)
        have hmem : l.getD k TF0 ∈ l := by
          rw [List.getD_eq_getElem?_getD, List.getElem?_eq_getElem HKL.out]
          exact List.getElem_mem _
        obtain ⟨h3, h4, h5⟩ := HALL.out _ hmem
        have hsn := putT_snoc l k HKL.out
        obtain ⟨x, hx⟩ : ∃ x, x = l.getD k TF0 := ⟨_, rfl⟩
        rw [← hx] at hk4 h3 h4 h5 hsn
        obtain ⟨t, ht⟩ : ∃ t : Nat, t = x.tag.toNat := ⟨_, rfl⟩
        obtain ⟨s, hs⟩ : ∃ s : List Nat, s = x.val := ⟨_, rfl⟩
        obtain ⟨m, hm⟩ : ∃ m : Nat, m = s.length := ⟨_, rfl⟩
        have hc0 : wr.cell? (ad.add (k * 2)) = some (.int .i64 (t : Int)) := by rw [hk4.c0]; congr 2; omega
        have hc1 : wr.cell? ⟨(ad.add (k * 2)).block, (ad.add (k * 2)).off + 1, none⟩ = some (.slice S m cc) := by rw [hk4.c1, hm, hs]
        have HS := Lib.hid (show Bs wr w.heap.size s S cc by rw [hs]; exact hk4.bs)
        rw [← HQ.out, ← ht, ← hs, ← hm] at hsn
        have ht2 : t < 256 := by omega
        have hm2 : m < 256 := by rw [hm, hs]; omega
        have HSN := Lib.hid hsn
        have HM := Lib.hid hm
        obtain ⟨j, hj⟩ : ∃ j, j = q.length := ⟨_, rfl⟩
        rw [← hj] at HOW hql
        have HJ := Lib.hid hj
        have b1 : (0 : Int) ≤ (k : Int) := by omega
        have b2 : (k : Int) < (n : Int) := by omega
        have w1' : IntKind.u8.wrap (t : Int) = (t : Int) := u8_byte t ht2
        have w2' : IntKind.u8.wrap (m : Int) = (m : Int) := u8_byte m hm2
        clear hx hk4 h3 h4 h5 hsn ht hs hm hj hmem
        have hge : ∀ g, u4.ownBlock = some g → w1.heap.size ≤ g := fun g hg => own_ge HOW.out hg
        have hne : u4.ownBlock ≠ some (ad.add (k * 2)).block := by
          intro e
          have := hge _ e
          rw [add_block] at this
          have := HB1.out.size
          omega
        have lk := World.block_lt_of_cell? wr _ hc0
        have HGE := Lib.hid hge
        have hown := HOW.out
        have lkw : (ad.add (k * 2)).block < w1.heap.size := by rw [add_block]; exact Nat.lt_of_lt_of_le had HB1.out.size
        have KB : ∀ x, ((wr.alloc (.cells #[.int .u8 (IntKind.u8.wrap (t : Int)), .int .u8 (IntKind.u8.wrap (m : Int))] 5)).drew).grownBy x u4.ownBlock → Below w1.heap.size wr x := fun x hg => (((Below.refl _ wr).alloc hsz _).drew).grown hg (by simp; omega) HGE.out
        clear hge w1' w2'
        go_wp2
        go_region_held3 (fun w' => w'.cell? (ad.add (k * 2)) = some (.int .i64 (t : Int)) ∧ w'.cell? ⟨(ad.add (k * 2)).block, (ad.add (k * 2)).off + 1, none⟩ = some (.slice S m cc))
          (first | exact ⟨hc0, hc1⟩ | go_keep | exact ⟨((KB _ hgrow).cell (p := ad.add (k * 2)) lkw).trans hc0, ((KB _ hgrow).cell (p := ⟨(ad.add (k * 2)).block, (ad.add (k * 2)).off + 1, none⟩) lkw).trans hc1⟩)
          ((refine step_append_lies _ (by rfl) _ _ _ (by rfl) w1.heap.size 5 i0 _ 1 1 Tryz.underlying30 hi hz0 hz1 hz2 rfl (by omega) u4 j (U8 q) (by rfl) ((hown.alloc _).drew)
              ⟨wr.heap.size, 0, none⟩ 2 2 [.int .u8 (IntKind.u8.wrap (t : Int)), .int .u8 (IntKind.u8.wrap (m : Int))] (by rfl) (by rfl)
              (World.news_of_block (cs := #[.int .u8 (IntKind.u8.wrap (t : Int)), .int .u8 (IntKind.u8.wrap (m : Int))]) (t := 5) (fr := (0, 0)) (heap_alloc_new wr _)) (by simp [Value.oneCell'])
              (by omega) (by unfold maxLen; omega) (by omega) (by simp; omega) (wr.heap.size + 1) (by simp) ?_; intro gg cap x2 hown2 hgrow hat hlt1))
        have hw1 : IntKind.u8.wrap (t : Int) = (t : Int) := u8_byte t ht2
        have hw2 : IntKind.u8.wrap (m : Int) = (m : Int) := u8_byte m hm2
        have HBO := Lib.hid (KB _ hgrow)
        have hown3 : x2.ownsRow w1.heap.size 5 1 (.slice (some ⟨gg, 0, none⟩) (j + 2) cap) (j + 2) (U8 (q ++ [t, m])) := by
          rw [tu8_app, U8, U8, List.map_cons, List.map_cons, List.map_nil, ← U8]
          rw [hw1, hw2] at hown2
          exact hown2
        have HO2 := Lib.hid hown3
        have HB2 := Lib.hid (HBW.out.trans HBO.out)
        have HS2 := Lib.hid (HS.out.rd.below (HBO.out.mono HB1.out.size))
        have hd1 : x2.cell? ⟨(ad.add (k * 2)).block, (ad.add (k * 2)).off + 1, none⟩ = some (.slice S m cc) := (HBO.out.cell (p := ⟨(ad.add (k * 2)).block, (ad.add (k * 2)).off + 1, none⟩) lkw).trans hc1
        have hsz2 := HB2.out.size
        have hx2 : j + 2 + m ≤ maxLen := by unfold maxLen; omega
        have HML := Lib.hid (show (U8 s).length = m by rw [tu8_len, HM.out])
        clear hown2 hown3 hgrow hat hlt1 hne lk hown KB hw1 hw2 hc0 hc1
        go_wp2_with (at_builtin; refine wpList_append_rd _ rfl (.tmp 32) (.tmp 37) 30 rfl w1.heap.size 5 i0 (.int .u8 0) 1 Tryz.underlying30 hi hz0 hz1 hz2 rfl _ (j + 2) (U8 (q ++ [t, m])) rfl HO2.out _ S m cc (U8 s) rfl HS2.out HML.out HS.out.nil (U8_one _) hx2 (by omega) hsz2 ?_)
        intro v3 x3 hown3 hg3
        have HB3 := Lib.hid (show Below w1.heap.size w1 x3 from HB2.out.grown hg3 hsz2 (fun g hg => own_ge HO2.out hg))
        rw [← tu8_app] at hown3
        obtain ⟨q', hq'⟩ : ∃ q', q' = q ++ [t, m] ++ s := ⟨_, rfl⟩
        have hql' : q'.length = j + 2 + m := by rw [hq', List.length_append, List.length_append, ← HJ.out, ← HM.out]; rfl
        rw [← hq', ← hql'] at hown3
        have HO3 := Lib.hid hown3
        have HQ' := Lib.hid (hq'.trans HSN.out.symm)
        have hqb : q'.length ≤ 257 * (k + 1) := by omega
        have HQB := Lib.hid hqb
        clear hown3 hg3 hq' hql' hqb hx2 hsz2 hd1
        go_wp2
        go_roundw
        case rel => exact ⟨k + 1, q', by omega, by go_num, HQ'.out, HQB.out, HO3.out, HB3.out⟩
        case measure => simp [intOf]; omega
      · have e : k = n := by omega
        have e2 : l.take k = l := List.take_of_length_le (by rw [← HN.out]; omega)
        have hqp : q = p := by rw [HQ.out, e2, HPP.out]
        have hown := HOW.out
        rw [hqp] at hown
        obtain ⟨AQ, cQ, e3, hbs⟩ := bs_of_own hown (by rw [← HPP.out]; exact putT_lt l HALL.out HA.out.vals)
        have HBS := Lib.hid hbs
        clear e2 hqp hown hbs
        subst e3
        go_wp2
        go_ret2
        exact ⟨_, _, rfl, HBS.out, HBL.out⟩
end Go.Proofs.YtcnglbliidjnfaaGreatDoor
end
section
namespace Go.Proofs.YtcnglbliidjnfaaGreatDoor
set_option linter.unusedVariables false
open Go.ChangeShapes Go.WideShapes Go.ChangeAt Go.RowKit
set_option maxRecDepth 100000 in
set_option maxHeartbeats 1600000 in
theorem rbenc_a (l:List K) (n:Nat) (hn:n=l.length) (hn3:n≤9223372036854775807) (A:Option Addr) (c:Nat) (r:Rg) (E:Nat) (p:List Nat) (hE:ecB l r=(E,p)) (w:World) (hA:Ks w w.heap.size A l) (h1:isR l=false):Calls Tryz.prog 12 #[.slice A n c, .agg #[.int .i64 r.t.ser, .int .i64 r.t.kind, .int .i64 r.t.frm, .int .i64 r.t.till, .int .i64 r.t.cls, .int .i64 r.t.card, .int .i64 r.t.seat, .int .i64 r.t.day, .int .i64 r.t.days, .int .i64 r.t.uses, .int .i64 r.t.epoch, .int .i64 r.key, .int .i64 r.left, .int .i64 r.inn, .int .i64 r.ver]] w fun e w'=> ∃A' c',e= .returned (.tuple #[.slice A' (p.length:Nat) c', .int .i64 (E:Int)])∧Bs w' w'.heap.size p A' c'∧Below w.heap.size w w':=by
 obtain⟨rfl,rfl⟩:E=1∧p=[]:=by rw[ecB,if_pos h1]at hE;exact⟨(Prod.mk.inj hE).1.symm,(Prod.mk.inj hE).2.symm⟩
 have H1:=Lib.hid h1
 clear hE h1
 have HN:=Lib.hid hn
 have HA:=Lib.hid hA
 clear hn hA
 have HBL:=Lib.hid (Below.refl w.heap.size w)
 go_enter Tryz.func12, Tryz.ntmps12
 go_wp2_with fail
 obtain⟨w1,hw⟩: ∃w1,w1=w.alloc (.cells #[.int .i64 r.t.ser, .int .i64 r.t.kind, .int .i64 r.t.frm, .int .i64 r.t.till, .int .i64 r.t.cls, .int .i64 r.t.card, .int .i64 r.t.seat, .int .i64 r.t.day, .int .i64 r.t.days, .int .i64 r.t.uses, .int .i64 r.t.epoch, .int .i64 r.key, .int .i64 r.left, .int .i64 r.inn, .int .i64 r.ver] 28):=⟨_,rfl⟩
 rw[←hw]
 have hx:RBox w1 w.heap.size r:=by rw[hw];exact RBox.new w r
 have hb:Below w.heap.size w w1:=by rw[hw];exact below_lit w _ _
 replace HA:=Lib.hid (HA.out.next hb)
 replace HBL:=Lib.hid (HBL.out.trans (hb.mono HBL.out.size))
 have X1:=Lib.hid hx
 clear hx hb hw
 obtain⟨B1,hB⟩: ∃B,B=w.heap.size:=⟨_,rfl⟩
 rw[←hB]at X1⊢
 clear hB
 refine(refis_named l n HN.out false H1.out A c w1 HA.out hn3).mono ?_
 rintro e w2 ⟨rfl,hb⟩
 replace HA:=Lib.hid (HA.out.next hb)
 replace X1:=Lib.hid (X1.out.next hb)
 replace HBL:=Lib.hid (HBL.out.trans (hb.mono HBL.out.size))
 clear hb
 go_wp2
 go_ret2
 exact⟨none,0,rfl,Bs.empty _ _,HBL.out⟩
set_option maxRecDepth 100000 in
set_option maxHeartbeats 1600000 in
theorem rbenc_b (l:List K) (n:Nat) (hn:n=l.length) (hn3:n≤9223372036854775807) (A:Option Addr) (c:Nat) (r:Rg) (E:Nat) (p:List Nat) (hE:ecB l r=(E,p)) (w:World) (hA:Ks w w.heap.size A l) (h1:isR l=true) (h2:(fdPut r).1≠0):Calls Tryz.prog 12 #[.slice A n c, .agg #[.int .i64 r.t.ser, .int .i64 r.t.kind, .int .i64 r.t.frm, .int .i64 r.t.till, .int .i64 r.t.cls, .int .i64 r.t.card, .int .i64 r.t.seat, .int .i64 r.t.day, .int .i64 r.t.days, .int .i64 r.t.uses, .int .i64 r.t.epoch, .int .i64 r.key, .int .i64 r.left, .int .i64 r.inn, .int .i64 r.ver]] w fun e w'=> ∃A' c',e= .returned (.tuple #[.slice A' (p.length:Nat) c', .int .i64 (E:Int)])∧Bs w' w'.heap.size p A' c'∧Below w.heap.size w w':=by
 have h1': ¬isR l=false:=by rw[h1];decide
 obtain⟨G,P,hP⟩: ∃G P,fdPut r=(G,P):=⟨_,_,rfl⟩
 have hG:G≠0:=by rw[hP]at h2;exact h2
 obtain⟨rfl,rfl⟩:E=G∧p=[]:=by rw[ecB,if_neg h1',if_pos h2,hP]at hE;exact⟨(Prod.mk.inj hE).1.symm,(Prod.mk.inj hE).2.symm⟩
 have s1:((E:Int)==0)=false:=by rw[beq_eq_false_iff_ne];omega
 have s2:((E:Int) !=0)=true:=by rw[bne_iff_ne];omega
 have s3:(E==0)=false:=by rw[beq_eq_false_iff_ne];exact hG
 have s4:(E !=0)=true:=by rw[bne_iff_ne];exact hG
 have H1:=Lib.hid h1
 have HP:=Lib.hid hP
 clear hE h1 h2 h1' hG hP
 have HN:=Lib.hid hn
 have HA:=Lib.hid hA
 clear hn hA
 have HBL:=Lib.hid (Below.refl w.heap.size w)
 go_enter Tryz.func12, Tryz.ntmps12
 go_wp2_with fail
 obtain⟨w1,hw⟩: ∃w1,w1=w.alloc (.cells #[.int .i64 r.t.ser, .int .i64 r.t.kind, .int .i64 r.t.frm, .int .i64 r.t.till, .int .i64 r.t.cls, .int .i64 r.t.card, .int .i64 r.t.seat, .int .i64 r.t.day, .int .i64 r.t.days, .int .i64 r.t.uses, .int .i64 r.t.epoch, .int .i64 r.key, .int .i64 r.left, .int .i64 r.inn, .int .i64 r.ver] 28):=⟨_,rfl⟩
 rw[←hw]
 have hx:RBox w1 w.heap.size r:=by rw[hw];exact RBox.new w r
 have hb:Below w.heap.size w w1:=by rw[hw];exact below_lit w _ _
 replace HA:=Lib.hid (HA.out.next hb)
 replace HBL:=Lib.hid (HBL.out.trans (hb.mono HBL.out.size))
 have X1:=Lib.hid hx
 clear hx hb hw
 obtain⟨B1,hB⟩: ∃B,B=w.heap.size:=⟨_,rfl⟩
 rw[←hB]at X1⊢
 clear hB
 refine(refis_named l n HN.out true H1.out A c w1 HA.out hn3).mono ?_
 rintro e w2 ⟨rfl,hb⟩
 replace HA:=Lib.hid (HA.out.next hb)
 replace X1:=Lib.hid (X1.out.next hb)
 replace HBL:=Lib.hid (HBL.out.trans (hb.mono HBL.out.size))
 clear hb
 obtain⟨c0,c1,c2,c3,c4,c5,c6,c7,c8,c9,c10,c11,c12,c13,c14⟩:=X1.out.cells
 go_wp2_with fail
 refine(rfput_any r E P HP.out w2).mono ?_
 rintro e w3 ⟨AP1,cP1,rfl,hs,hb⟩
 clear c0 c1 c2 c3 c4 c5 c6 c7 c8 c9 c10 c11 c12 c13 c14
 replace HA:=Lib.hid (HA.out.next hb)
 replace X1:=Lib.hid (X1.out.next hb)
 replace HBL:=Lib.hid (HBL.out.trans (hb.mono HBL.out.size))
 have P1:=Lib.hid hs
 clear hb hs
 go_wp2
 go_ret2
 exact⟨none,0,rfl,Bs.empty _ _,HBL.out⟩
set_option maxRecDepth 100000 in
set_option maxHeartbeats 1600000 in
theorem rbenc_c (l:List K) (n:Nat) (hn:n=l.length) (hn3:n≤9223372036854775807) (A:Option Addr) (c:Nat) (r:Rg) (E:Nat) (p:List Nat) (hE:ecB l r=(E,p)) (w:World) (hA:Ks w w.heap.size A l) (h1:isR l=true) (h2:(fdPut r).1=0) (h3:findE l r.key≠0):Calls Tryz.prog 12 #[.slice A n c, .agg #[.int .i64 r.t.ser, .int .i64 r.t.kind, .int .i64 r.t.frm, .int .i64 r.t.till, .int .i64 r.t.cls, .int .i64 r.t.card, .int .i64 r.t.seat, .int .i64 r.t.day, .int .i64 r.t.days, .int .i64 r.t.uses, .int .i64 r.t.epoch, .int .i64 r.key, .int .i64 r.left, .int .i64 r.inn, .int .i64 r.ver]] w fun e w'=> ∃A' c',e= .returned (.tuple #[.slice A' (p.length:Nat) c', .int .i64 (E:Int)])∧Bs w' w'.heap.size p A' c'∧Below w.heap.size w w':=by
 have h1': ¬isR l=false:=by rw[h1];decide
 obtain⟨P,hP⟩: ∃P,fdPut r=(0,P):=⟨(fdPut r).2,by rw[←h2]⟩
 obtain⟨rfl,rfl⟩:E=10∧p=[]:=by rw[ecB,if_neg h1',if_neg (by omega),if_pos h3]at hE;exact⟨(Prod.mk.inj hE).1.symm,(Prod.mk.inj hE).2.symm⟩
 have hF:findE l r.key=10:=find_ten h1 h3
 obtain⟨q,hq⟩: ∃q,q=findK l r.key:=⟨_,rfl⟩
 have H1:=Lib.hid h1
 have HP:=Lib.hid hP
 have HF:=Lib.hid hF.symm
 have HQ:=Lib.hid hq
 clear hE h1 h2 h1' h3 hP hF hq
 have HN:=Lib.hid hn
 have HA:=Lib.hid hA
 clear hn hA
 have HBL:=Lib.hid (Below.refl w.heap.size w)
 go_enter Tryz.func12, Tryz.ntmps12
 go_wp2_with fail
 obtain⟨w1,hw⟩: ∃w1,w1=w.alloc (.cells #[.int .i64 r.t.ser, .int .i64 r.t.kind, .int .i64 r.t.frm, .int .i64 r.t.till, .int .i64 r.t.cls, .int .i64 r.t.card, .int .i64 r.t.seat, .int .i64 r.t.day, .int .i64 r.t.days, .int .i64 r.t.uses, .int .i64 r.t.epoch, .int .i64 r.key, .int .i64 r.left, .int .i64 r.inn, .int .i64 r.ver] 28):=⟨_,rfl⟩
 rw[←hw]
 have hx:RBox w1 w.heap.size r:=by rw[hw];exact RBox.new w r
 have hb:Below w.heap.size w w1:=by rw[hw];exact below_lit w _ _
 replace HA:=Lib.hid (HA.out.next hb)
 replace HBL:=Lib.hid (HBL.out.trans (hb.mono HBL.out.size))
 have X1:=Lib.hid hx
 clear hx hb hw
 obtain⟨B1,hB⟩: ∃B,B=w.heap.size:=⟨_,rfl⟩
 rw[←hB]at X1⊢
 clear hB
 refine(refis_named l n HN.out true H1.out A c w1 HA.out hn3).mono ?_
 rintro e w2 ⟨rfl,hb⟩
 replace HA:=Lib.hid (HA.out.next hb)
 replace X1:=Lib.hid (X1.out.next hb)
 replace HBL:=Lib.hid (HBL.out.trans (hb.mono HBL.out.size))
 clear hb
 obtain⟨c0,c1,c2,c3,c4,c5,c6,c7,c8,c9,c10,c11,c12,c13,c14⟩:=X1.out.cells
 go_wp2_with fail
 refine(rfput_any r 0 P HP.out w2).mono ?_
 rintro e w3 ⟨AP1,cP1,rfl,hs,hb⟩
 clear c0 c1 c2 c3 c4 c5 c6 c7 c8 c9 c10 c11 c12 c13 c14
 replace HA:=Lib.hid (HA.out.next hb)
 replace X1:=Lib.hid (X1.out.next hb)
 replace HBL:=Lib.hid (HBL.out.trans (hb.mono HBL.out.size))
 have P1:=Lib.hid hs
 clear hb hs
 obtain⟨c0,c1,c2,c3,c4,c5,c6,c7,c8,c9,c10,c11,c12,c13,c14⟩:=X1.out.cells
 go_wp2_with fail
 refine(reffind_any l n HN.out r.key A c w3 HA.out hn3 q 10 HQ.out HF.out).mono ?_
 rintro e w4 ⟨S,cc,rfl,hs,hb⟩
 clear c0 c1 c2 c3 c4 c5 c6 c7 c8 c9 c10 c11 c12 c13 c14
 replace HA:=Lib.hid (HA.out.next hb)
 replace X1:=Lib.hid (X1.out.next hb)
 replace P1:=Lib.hid (P1.out.next hb)
 replace HBL:=Lib.hid (HBL.out.trans (hb.mono HBL.out.size))
 have FS:=Lib.hid hs
 clear hb hs
 go_wp2_with fail
 obtain⟨w5,hw⟩: ∃w5,w5=w4.alloc (.cells #[.int .i64 q.id, .slice S q.sec.length cc, .int .i64 q.frm, .int .i64 q.til] 48):=⟨_,rfl⟩
 rw[←hw]
 have hx:Box w5 w4.heap.size ⟨q,S,cc⟩:=by rw[hw];exact(box_lit w4 ⟨q,S,cc⟩ FS.out).1
 have hb:Below w4.heap.size w4 w5:=by rw[hw];exact below_lit w4 _ _
 replace HA:=Lib.hid (HA.out.next hb)
 replace X1:=Lib.hid (X1.out.next hb)
 replace P1:=Lib.hid (P1.out.next hb)
 replace FS:=Lib.hid (FS.out.next hb)
 replace HBL:=Lib.hid (HBL.out.trans (hb.mono HBL.out.size))
 have HX:=Lib.hid hx
 clear hx hb hw
 obtain⟨X,hB⟩: ∃B,B=w4.heap.size:=⟨_,rfl⟩
 rw[←hB]at HX⊢
 clear hB
 go_wp2
 go_ret2
 exact⟨none,0,rfl,Bs.empty _ _,HBL.out⟩
set_option maxRecDepth 100000 in
set_option maxHeartbeats 1600000 in
theorem rbenc_d (l:List K) (n:Nat) (hn:n=l.length) (hn3:n≤9223372036854775807) (A:Option Addr) (c:Nat) (r:Rg) (E:Nat) (p:List Nat) (hE:ecB l r=(E,p)) (w:World) (hA:Ks w w.heap.size A l) (h1:isR l=true) (h2:(fdPut r).1=0) (h3:findE l r.key=0):Calls Tryz.prog 12 #[.slice A n c, .agg #[.int .i64 r.t.ser, .int .i64 r.t.kind, .int .i64 r.t.frm, .int .i64 r.t.till, .int .i64 r.t.cls, .int .i64 r.t.card, .int .i64 r.t.seat, .int .i64 r.t.day, .int .i64 r.t.days, .int .i64 r.t.uses, .int .i64 r.t.epoch, .int .i64 r.key, .int .i64 r.left, .int .i64 r.inn, .int .i64 r.ver]] w fun e w'=> ∃A' c',e= .returned (.tuple #[.slice A' (p.length:Nat) c', .int .i64 (E:Int)])∧Bs w' w'.heap.size p A' c'∧Below w.heap.size w w':=by
 have h1': ¬isR l=false:=by rw[h1];decide
 obtain⟨P,hP⟩: ∃P,fdPut r=(0,P):=⟨(fdPut r).2,by rw[←h2]⟩
 obtain⟨q,hq⟩: ∃q,q=findK l r.key:=⟨_,rfl⟩
 obtain⟨b,hb⟩: ∃b,putT P=b:=⟨_,rfl⟩
 obtain⟨T,hTg⟩: ∃T,tagB q.sec b=T:=⟨_,rfl⟩
 obtain⟨L,hL⟩: ∃L,b++T=L:=⟨_,rfl⟩
 obtain⟨F,hF⟩: ∃F:Array Value,F=(U8 T).toArray:=⟨_,rfl⟩
 obtain⟨rfl,hX⟩:E=0∧putF L=p:=by
  rw[ecB,if_neg h1',if_neg (by omega),if_neg (by omega),wholeB,bodyB,hP, ←hq]at hE
  simp only at hE
  rw[hb,hTg,hL]at hE
  exact⟨(Prod.mk.inj hE).1.symm,(Prod.mk.inj hE).2⟩
 have hbl:b.length≤117:=by rw[←hb];exact body_len hP
 have hTL:T.length=32:=by rw[←hTg];exact tagB_len _ _
 have hTT: ∀x∈T,x<256:=by rw[←hTg];exact tagB_lt _ _
 obtain⟨k,hk⟩: ∃k,k=L.length:=⟨_,rfl⟩
 have hk2:0<k∧k≤149:=by rw[hk, ←hL,List.length_append];omega
 have H1:=Lib.hid h1
 have HP:=Lib.hid hP
 have HQ:=Lib.hid hq
 have HF3:=Lib.hid h3.symm
 have HS64:=Lib.hid (show q.sec.length≤64 by rw[hq];exact find_sec h3)
 have HOUT:=Lib.hid (show outT P=(0,b) by rw[←hb];exact outT_ok (get_put hP).1)
 have HL:=Lib.hid hL
 have HX0:=Lib.hid hX
 have HFB:=Lib.hid (show F=(U8 (tagB q.sec b)).toArray by rw[hTg];exact hF)
 have HIS:=Lib.hid (isArr32 hF hTL)
 have HFT:=Lib.hid hF
 have HTL:=Lib.hid hTL
 have HTT:=Lib.hid hTT
 have HK:=Lib.hid hk
 have HK2:=Lib.hid hk2
 have HBL9:=Lib.hid hbl
 obtain⟨m,hm⟩: ∃m,b.length=m:=⟨_,rfl⟩
 rw[hm]at hbl
 have HM:=Lib.hid hm
 have hPT: ∀x∈b,x<256:=by rw[←hb];exact body_lt hP
 have HLT:=Lib.hid (show∀x∈L,x<256 by
  rw[←hL]
  intro x hx
  rcases List.mem_append.1 hx with h|h
  ·exact hPT x h
  ·exact hTT x h)
 obtain⟨i0,hi,hz0,hz1,hz2⟩:=info_parts infoU8
 have h64:0+m≤maxLen:=by unfold maxLen;omega
 have h68:0+m+32≤maxLen:=by unfold maxLen;omega
 clear hPT hE h1 h2 h1' h3 hP hq hb hTg hL hF hX hTL hTT hk hk2 hm
 have HN:=Lib.hid hn
 have HA:=Lib.hid hA
 clear hn hA
 have HBL:=Lib.hid (Below.refl w.heap.size w)
 go_enter Tryz.func12, Tryz.ntmps12
 go_wp2_with fail
 obtain⟨w1,hw⟩: ∃w1,w1=w.alloc (.cells #[.int .i64 r.t.ser, .int .i64 r.t.kind, .int .i64 r.t.frm, .int .i64 r.t.till, .int .i64 r.t.cls, .int .i64 r.t.card, .int .i64 r.t.seat, .int .i64 r.t.day, .int .i64 r.t.days, .int .i64 r.t.uses, .int .i64 r.t.epoch, .int .i64 r.key, .int .i64 r.left, .int .i64 r.inn, .int .i64 r.ver] 28):=⟨_,rfl⟩
 rw[←hw]
 have hx:RBox w1 w.heap.size r:=by rw[hw];exact RBox.new w r
 have hb:Below w.heap.size w w1:=by rw[hw];exact below_lit w _ _
 replace HA:=Lib.hid (HA.out.next hb)
 replace HBL:=Lib.hid (HBL.out.trans (hb.mono HBL.out.size))
 have X1:=Lib.hid hx
 clear hx hb hw
 obtain⟨B1,hB⟩: ∃B,B=w.heap.size:=⟨_,rfl⟩
 rw[←hB]at X1⊢
 clear hB
 refine(refis_named l n HN.out true H1.out A c w1 HA.out hn3).mono ?_
 rintro e w2 ⟨rfl,hb⟩
 replace HA:=Lib.hid (HA.out.next hb)
 replace X1:=Lib.hid (X1.out.next hb)
 replace HBL:=Lib.hid (HBL.out.trans (hb.mono HBL.out.size))
 clear hb
 obtain⟨c0,c1,c2,c3,c4,c5,c6,c7,c8,c9,c10,c11,c12,c13,c14⟩:=X1.out.cells
 go_wp2_with fail
 refine(rfput_any r 0 P HP.out w2).mono ?_
 rintro e w3 ⟨AP1,cP1,rfl,hs,hb⟩
 clear c0 c1 c2 c3 c4 c5 c6 c7 c8 c9 c10 c11 c12 c13 c14
 replace HA:=Lib.hid (HA.out.next hb)
 replace X1:=Lib.hid (X1.out.next hb)
 replace HBL:=Lib.hid (HBL.out.trans (hb.mono HBL.out.size))
 have P1:=Lib.hid hs
 clear hb hs
 obtain⟨c0,c1,c2,c3,c4,c5,c6,c7,c8,c9,c10,c11,c12,c13,c14⟩:=X1.out.cells
 go_wp2_with fail
 refine(reffind_any l n HN.out r.key A c w3 HA.out hn3 q 0 HQ.out HF3.out).mono ?_
 rintro e w4 ⟨S,cc,rfl,hs,hb⟩
 clear c0 c1 c2 c3 c4 c5 c6 c7 c8 c9 c10 c11 c12 c13 c14
 replace HA:=Lib.hid (HA.out.next hb)
 replace X1:=Lib.hid (X1.out.next hb)
 replace P1:=Lib.hid (P1.out.next hb)
 replace HBL:=Lib.hid (HBL.out.trans (hb.mono HBL.out.size))
 have FS:=Lib.hid hs
 clear hb hs
 go_wp2_with fail
 obtain⟨w5,hw⟩: ∃w5,w5=w4.alloc (.cells #[.int .i64 q.id, .slice S q.sec.length cc, .int .i64 q.frm, .int .i64 q.til] 48):=⟨_,rfl⟩
 rw[←hw]
 have hx:Box w5 w4.heap.size ⟨q,S,cc⟩:=by rw[hw];exact(box_lit w4 ⟨q,S,cc⟩ FS.out).1
 have hb:Below w4.heap.size w4 w5:=by rw[hw];exact below_lit w4 _ _
 replace HA:=Lib.hid (HA.out.next hb)
 replace X1:=Lib.hid (X1.out.next hb)
 replace P1:=Lib.hid (P1.out.next hb)
 replace FS:=Lib.hid (FS.out.next hb)
 replace HBL:=Lib.hid (HBL.out.trans (hb.mono HBL.out.size))
 have HX:=Lib.hid hx
 clear hx hb hw
 obtain⟨X,hB⟩: ∃B,B=w4.heap.size:=⟨_,rfl⟩
 rw[←hB]at HX⊢
 clear hB
 refine(refput_tlv P P.length rfl 0 b HOUT.out AP1 cP1 w5 P1.out).mono ?_
 rintro e w6 ⟨AY1,cY1,rfl,hs,hb⟩
 replace HA:=Lib.hid (HA.out.next hb)
 replace X1:=Lib.hid (X1.out.next hb)
 replace P1:=Lib.hid (P1.out.next hb)
 replace FS:=Lib.hid (FS.out.next hb)
 replace HX:=Lib.hid (HX.out.next hb)
 replace HBL:=Lib.hid (HBL.out.trans (hb.mono HBL.out.size))
 have Y1:=Lib.hid hs
 clear hb hs
 rw[HM.out]
 have k1:=cell_of_row _ _ 1 _ _ _ HX.out.1
 go_wp2_with fail
 refine(rbtag_any q.sec b q.sec.length m rfl HM.out.symm S AY1 cc cY1 w6 FS.out Y1.out (by have:=HS64.out;omega) (by omega) F HFB.out).mono ?_
 rintro e w7 ⟨rfl,hb⟩
 clear k1
 replace HA:=Lib.hid (HA.out.next hb)
 replace X1:=Lib.hid (X1.out.next hb)
 replace P1:=Lib.hid (P1.out.next hb)
 replace FS:=Lib.hid (FS.out.next hb)
 replace HX:=Lib.hid (HX.out.next hb)
 replace Y1:=Lib.hid (Y1.out.next hb)
 replace HBL:=Lib.hid (HBL.out.trans (hb.mono HBL.out.size))
 clear hb
 go_wp2_with (first|((with_reducible refine at_store 12 ?_);refine wpList_store_named (o:=⟨none, .store 42 (.tmp 12) (.tmp 43),_,_,_,_⟩) rfl 42 (.tmp 12) (.tmp 43) rfl w7.heap.size F rfl rfl 42 b32 (heap_alloc_new w7 _) HIS.out.1 HIS.out.2.1 HIS.out.2.2 ?_;intro w20 hw20;have HR4:=Lib.hid (row_made hw20.out);have hb:=HR4.out.2.2;replace HA:=Lib.hid (HA.out.next hb);replace X1:=Lib.hid (X1.out.next hb);replace P1:=Lib.hid (P1.out.next hb);replace FS:=Lib.hid (FS.out.next hb);replace HX:=Lib.hid (HX.out.next hb);replace Y1:=Lib.hid (Y1.out.next hb);replace HBL:=Lib.hid (HBL.out.trans (hb.mono HBL.out.size));clear hb;have HRT:=Lib.hid (rd_row HR4.out.2.1 HFT.out);have HB0:=Lib.hid (below_lit w20 #[] 5);have HOWN:=Lib.hid (show(w20.alloc (.cells #[] 5)).ownsRow w20.heap.size 5 1 (.slice (some ⟨w20.heap.size,0,none⟩) 0 0) 0 []from World.ownsRow_lit w20 #[] 0 (Nat.le_refl _) (by decide) rfl);have HPW:=Lib.hid (Y1.out.next HB0.out);have HRW:=Lib.hid (HRT.out.next HB0.out);have hbs:=HB0.out.size)|(at_builtin;go_loud (refine wpList_append_rd _ rfl (.tmp 45) (.tmp 46) 30 rfl w20.heap.size 5 i0 (.int .u8 0) 1 Tryz.underlying30 hi hz0 hz1 hz2 rfl (.slice (some ⟨w20.heap.size,0,none⟩) 0 0) 0 [] rfl HOWN.out _ AY1 m cY1 (U8 b) rfl HPW.out.rd (by simp[U8,HM.out]) HPW.out.nil (U8_one b) h64 (by omega) hbs ?_;intro v6 w60 hown6 hg6;have hb:=HB0.out.grown hg6 HB0.out.size (fun p hp=>by cases hp;exact Nat.le_refl _);have HR6:=Lib.hid (HRT.out.next hb);have HBK:=Lib.hid (show w.heap.size≤w20.heap.size∧w20.heap.size≤w60.heap.size from⟨HBL.out.size,hb.size⟩);have HBL6:=Lib.hid (HBL.out.trans (hb.mono HBL.out.size));have HO6:=Lib.hid hown6;have H66:=Lib.hid (fun p (hp:v6.ownBlock=some p)=>own_ge hown6 hp);clear hown6 hg6 hb))|(at_builtin;go_loud (refine wpList_append_rd _ rfl (.tmp 48) (.tmp 49) 30 rfl w20.heap.size 5 i0 (.int .u8 0) 1 Tryz.underlying30 hi hz0 hz1 hz2 rfl v6 (0+m) ([]++U8 b) rfl HO6.out _ (some ⟨w7.heap.size,0,none⟩) 32 32 (U8 T) rfl HR6.out (by simp[U8,HTL.out]) (fun h=>by cases h) (U8_one T) h68 (by omega) HBK.out.2 ?_;intro v8 w80 hown8 hg8;have HB8:=Lib.hid (HBL6.out.grown hg8 HBL6.out.size (fun p hp=>Nat.le_trans HBK.out.1 (H66.out p hp)));rw[List.nil_append, ←U8_append,HL.out]at hown8;obtain⟨AL,cL,rfl,hs8⟩:=bs_of_own hown8 HLT.out;have HS8:=Lib.hid hs8;clear hown8 hg8 hs8)))
 refine(refput_forty L (m+32) (by rw[←HL.out,List.length_append,HTL.out,HM.out]) (by omega) p HX0.out AL cL w80 HS8.out).mono ?_
 rintro e w90 ⟨AO,cO,rfl,hs,hb⟩
 have HS9:=Lib.hid hs
 have HB9:=Lib.hid (HB8.out.trans (hb.mono HB8.out.size))
 clear hs hb
 go_wp2
 go_ret2
 exact⟨_,_,rfl,HS9.out,HB9.out⟩
theorem rbenc_any (l:List K) (n:Nat) (hn:n=l.length) (hn3:n≤9223372036854775807) (A:Option Addr) (c:Nat) (r:Rg) (E:Nat) (p:List Nat) (hE:ecB l r=(E,p)) (w:World) (hA:Ks w w.heap.size A l):Calls Tryz.prog 12 #[.slice A n c, .agg #[.int .i64 r.t.ser, .int .i64 r.t.kind, .int .i64 r.t.frm, .int .i64 r.t.till, .int .i64 r.t.cls, .int .i64 r.t.card, .int .i64 r.t.seat, .int .i64 r.t.day, .int .i64 r.t.days, .int .i64 r.t.uses, .int .i64 r.t.epoch, .int .i64 r.key, .int .i64 r.left, .int .i64 r.inn, .int .i64 r.ver]] w fun e w'=> ∃A' c',e= .returned (.tuple #[.slice A' (p.length:Nat) c', .int .i64 (E:Int)])∧Bs w' w'.heap.size p A' c'∧Below w.heap.size w w':=by
 cases h1:isR l
 ·exact rbenc_a l n hn hn3 A c r E p hE w hA h1
 ·by_cases h2:(fdPut r).1=0
  ·by_cases h3:findE l r.key=0
   ·exact rbenc_d l n hn hn3 A c r E p hE w hA h1 h2 h3
   ·exact rbenc_c l n hn hn3 A c r E p hE w hA h1 h2 h3
  ·exact rbenc_b l n hn hn3 A c r E p hE w hA h1 h2
end Go.Proofs.YtcnglbliidjnfaaGreatDoor
end
section
namespace Go.Proofs.YtcnglbliidjnfaaGreatDoor
set_option linter.unusedVariables false
open Go.ChangeShapes Go.WideShapes Go.ChangeAt Go.RowKit
set_option maxRecDepth 100000 in
set_option maxHeartbeats 1600000 in
theorem encodes19_any (l:List K) (n:Nat) (hn:n=l.length) (hn3:n≤9223372036854775807) (A:Option Addr) (c:Nat) (r:Rg) (w:World) (hT:Tabs w) (hA:Ks w w.heap.size A l):Calls Tryz.prog 3 #[.slice A n c, .agg #[.int .i64 r.t.ser, .int .i64 r.t.kind, .int .i64 r.t.frm, .int .i64 r.t.till, .int .i64 r.t.cls, .int .i64 r.t.card, .int .i64 r.t.seat, .int .i64 r.t.day, .int .i64 r.t.days, .int .i64 r.t.uses, .int .i64 r.t.epoch, .int .i64 r.key, .int .i64 r.left, .int .i64 r.inn, .int .i64 r.ver]] w fun e w'=>e= .returned (.bool true)∧Below w.heap.size w w':=by
 obtain⟨E,p,hE⟩: ∃E p,ecB l r=(E,p):=⟨_,_,rfl⟩
 have HN:=Lib.hid hn
 have HT:=Lib.hid hT
 have HA:=Lib.hid hA
 have HE:=Lib.hid hE
 clear hn hT hA hE
 have HBL:=Lib.hid (Below.refl w.heap.size w)
 cases hbig:bigR l
 ·have HBIG:=Lib.hid hbig
  clear hbig
  go_enter Tryz.func3, Tryz.ntmps3
  go_wp2_with fail
  obtain⟨w1,hw⟩: ∃w1,w1=w.alloc (.cells #[.int .i64 r.t.ser, .int .i64 r.t.kind, .int .i64 r.t.frm, .int .i64 r.t.till, .int .i64 r.t.cls, .int .i64 r.t.card, .int .i64 r.t.seat, .int .i64 r.t.day, .int .i64 r.t.days, .int .i64 r.t.uses, .int .i64 r.t.epoch, .int .i64 r.key, .int .i64 r.left, .int .i64 r.inn, .int .i64 r.ver] 28):=⟨_,rfl⟩
  rw[←hw]
  have hx:RBox w1 w.heap.size r:=by rw[hw];exact RBox.new w r
  have hb:Below w.heap.size w w1:=by rw[hw];exact below_lit w _ _
  replace HT:=Lib.hid (HT.out.next hb)
  replace HA:=Lib.hid (HA.out.next hb)
  replace HBL:=Lib.hid (HBL.out.trans (hb.mono HBL.out.size))
  have X1:=Lib.hid hx
  clear hx hb hw
  obtain⟨B1,hB⟩: ∃B,B=w.heap.size:=⟨_,rfl⟩
  rw[←hB]at X1⊢
  clear hB
  refine(refbig_named l n HN.out false HBIG.out A c w1 HA.out hn3).mono ?_
  rintro e w2 ⟨rfl,hb⟩
  replace HT:=Lib.hid (HT.out.next hb)
  replace HA:=Lib.hid (HA.out.next hb)
  replace X1:=Lib.hid (X1.out.next hb)
  replace HBL:=Lib.hid (HBL.out.trans (hb.mono HBL.out.size))
  clear hb
  obtain⟨c0,c1,c2,c3,c4,c5,c6,c7,c8,c9,c10,c11,c12,c13,c14⟩:=X1.out.cells
  go_wp2_with fail
  refine(benc_any l n HN.out hn3 A c r E p HE.out w2 HT.out HA.out).mono ?_
  rintro e w3 ⟨AP1,cP1,rfl,hs,hb⟩
  clear c0 c1 c2 c3 c4 c5 c6 c7 c8 c9 c10 c11 c12 c13 c14
  replace HT:=Lib.hid (HT.out.next hb)
  replace HA:=Lib.hid (HA.out.next hb)
  replace X1:=Lib.hid (X1.out.next hb)
  replace HBL:=Lib.hid (HBL.out.trans (hb.mono HBL.out.size))
  have P1:=Lib.hid hs
  clear hb hs
  obtain⟨c0,c1,c2,c3,c4,c5,c6,c7,c8,c9,c10,c11,c12,c13,c14⟩:=X1.out.cells
  go_wp2_with fail
  refine(rbenc_any l n HN.out hn3 A c r E p HE.out w3 HA.out).mono ?_
  rintro e w4 ⟨AP2,cP2,rfl,hs,hb⟩
  clear c0 c1 c2 c3 c4 c5 c6 c7 c8 c9 c10 c11 c12 c13 c14
  replace HT:=Lib.hid (HT.out.next hb)
  replace HA:=Lib.hid (HA.out.next hb)
  replace X1:=Lib.hid (X1.out.next hb)
  replace P1:=Lib.hid (P1.out.next hb)
  replace HBL:=Lib.hid (HBL.out.trans (hb.mono HBL.out.size))
  have P2:=Lib.hid hs
  clear hb hs
  go_wp2_with fail
  refine(coded19_any w4 HT.out).mono ?_
  rintro e w5 ⟨rfl,hb⟩
  replace HT:=Lib.hid (HT.out.next hb)
  replace HA:=Lib.hid (HA.out.next hb)
  replace X1:=Lib.hid (X1.out.next hb)
  replace P1:=Lib.hid (P1.out.next hb)
  replace P2:=Lib.hid (P2.out.next hb)
  replace HBL:=Lib.hid (HBL.out.trans (hb.mono HBL.out.size))
  clear hb
  go_wp2_with fail
  refine(same_true p p.length p.length rfl rfl AP1 AP2 cP1 cP2 w5 P1.out P2.out).mono ?_
  rintro e w6 ⟨rfl,hb⟩
  replace HT:=Lib.hid (HT.out.next hb)
  replace HA:=Lib.hid (HA.out.next hb)
  replace X1:=Lib.hid (X1.out.next hb)
  replace P1:=Lib.hid (P1.out.next hb)
  replace P2:=Lib.hid (P2.out.next hb)
  replace HBL:=Lib.hid (HBL.out.trans (hb.mono HBL.out.size))
  clear hb
  go_wp2
  go_ret
  exact⟨rfl,HBL.out⟩
 ·have HBIG:=Lib.hid hbig
  clear hbig
  go_enter Tryz.func3, Tryz.ntmps3
  go_wp2_with fail
  obtain⟨w1,hw⟩: ∃w1,w1=w.alloc (.cells #[.int .i64 r.t.ser, .int .i64 r.t.kind, .int .i64 r.t.frm, .int .i64 r.t.till, .int .i64 r.t.cls, .int .i64 r.t.card, .int .i64 r.t.seat, .int .i64 r.t.day, .int .i64 r.t.days, .int .i64 r.t.uses, .int .i64 r.t.epoch, .int .i64 r.key, .int .i64 r.left, .int .i64 r.inn, .int .i64 r.ver] 28):=⟨_,rfl⟩
  rw[←hw]
  have hx:RBox w1 w.heap.size r:=by rw[hw];exact RBox.new w r
  have hb:Below w.heap.size w w1:=by rw[hw];exact below_lit w _ _
  replace HT:=Lib.hid (HT.out.next hb)
  replace HA:=Lib.hid (HA.out.next hb)
  replace HBL:=Lib.hid (HBL.out.trans (hb.mono HBL.out.size))
  have X1:=Lib.hid hx
  clear hx hb hw
  obtain⟨B1,hB⟩: ∃B,B=w.heap.size:=⟨_,rfl⟩
  rw[←hB]at X1⊢
  clear hB
  refine(refbig_named l n HN.out true HBIG.out A c w1 HA.out hn3).mono ?_
  rintro e w2 ⟨rfl,hb⟩
  replace HT:=Lib.hid (HT.out.next hb)
  replace HA:=Lib.hid (HA.out.next hb)
  replace X1:=Lib.hid (X1.out.next hb)
  replace HBL:=Lib.hid (HBL.out.trans (hb.mono HBL.out.size))
  clear hb
  go_wp2
  go_ret
  exact⟨rfl,HBL.out⟩
end Go.Proofs.YtcnglbliidjnfaaGreatDoor
end
