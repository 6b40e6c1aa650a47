import Derived.Test.YtcnglbliidjnfaaGreatDoorTlvPPut
import Derived.Test.YtcnglbliidjnfaaGreatDoorTicketPSmall
import Derived.BigQuiet
namespace Go.Proofs.YtcnglbliidjnfaaGreatDoor
set_option linter.unusedVariables false
open Go.ChangeShapes Go.WideShapes Go.ChangeAt Go.RowKit
def sgI (c:Nat):Int:=if fokS c then(vl c:Int)else -1
theorem len_sS:((⟨#[48,49,50,51,52,53,54,55,56,57,65,66,67,68,69,70,71,72,73,74,75,76,77,78,79,80,81,82,83,84,85,86,87,88,89,90,32,36,37,42,43,45,46,47,58]⟩:ByteArray)).size=45:=rfl
set_option maxRecDepth 100000 in
set_option maxHeartbeats 1600000 in
theorem refsign_any (c:Nat) (hc:c<256) (r:Int) (hr:sgI c=r) (w:World):Calls Tryz.prog 110 #[.int .u8 (c:Int)] w fun e w'=>e= .returned (.int .i64 r)∧w=w':=by
 have HR:=Lib.hid hr
 have hlen:=len_sS
 have hv:=vl_le c
 clear hr
 go_enter Tryz.func110, Tryz.ntmps110
 go_wp2
 go_loop [4] (fun i=> ∃k:Nat,k≤45∧k≤vl c∧i= .int .i64 k) (fun i=>45 - (intOf i).toNat)
 case atStart=>exact⟨0,by omega,by omega,rfl⟩
 case round=>
  obtain⟨k,hk,hkv,rfl⟩:=hrel
  by_cases hlt:k<45
  ·have hix:=run_index_sg k hlt
   have b1:(k:Int)<45:=by omega
   by_cases he:sg k=c
   ·have hvl:=vl_found hlt hkv he
    have e1:((sg k:Nat):Int)=(c:Int):=by rw[he]
    obtain rfl:r=(k:Int):=by rw[←HR.out,sgI,if_pos (by unfold fokS;rw[hvl];simpa using hlt),hvl]
    rw[e1]at hix
    clear HR hvl e1 he hkv hv
    go_wp2
    go_ret
    exact⟨rfl,rfl⟩
   ·have hnx:=vl_next hlt hkv he
    have HNX:=Lib.hid hnx
    have hne:(((sg k:Nat):Int)==(c:Int))=false:=by rw[beq_eq_false_iff_ne];omega
    have hne2:((sg k:Nat)==c)=false:=by rw[beq_eq_false_iff_ne];exact he
    have hne3: ¬((sg k:Nat)=c):=he
    clear hnx hkv hv
    generalize sg k=y at*
    go_wp2
    go_round
    case rel=>exact⟨k+1,by omega,HNX.out,by go_num⟩
    case measure=>simp[intOf];omega
  ·obtain rfl:k=45:=by omega
   obtain rfl:r= -1:=by rw[←HR.out,sgI,if_neg (by unfold fokS;simp;omega)]
   clear HR hkv hv
   go_wp2
   go_ret
   exact⟨rfl,rfl⟩
theorem refsigns_any (w:World):Calls Tryz.prog 79 #[] w fun e w'=>e= .returned (.string { data:= #[48,49,50,51,52,53,54,55,56,57,65,66,67,68,69,70,71,72,73,74,75,76,77,78,79,80,81,82,83,84,85,86,87,88,89,90,32,36,37,42,43,45,46,47,58] })∧w=w':=by
 go_enter Tryz.func79, Tryz.ntmps79
 go_wp2
 go_ret
 exact⟨rfl,rfl⟩
theorem take_two {l:List Nat} {i a b:Nat} (ha:l[i]?=some a) (hb:l[i+1]?=some b):l.take (i+2)=l.take i++ [a,b]:=by
 rw[show i+2=(i+1)+1 from rfl,take_snoc' hb,take_snoc' ha,List.append_assoc];rfl
theorem putF_step3 {l:List Nat} {i a b:Nat} (ha:l[i]?=some a) (hb:l[i+1]?=some b) (h2:i % 2=0) (hl:i≤l.length):putF (l.take (i+2))=putF (l.take i)++put3 (a*256+b):=by
 rw[take_two ha hb,putF_append _ _ (by rw[List.length_take,Nat.min_eq_left hl];exact h2)]
 rw[putF,putF,List.append_nil]
theorem putF_step2 {l:List Nat} {i a:Nat} (ha:l[i]?=some a) (hn:l.length=i+1) (h2:i % 2=0):putF (l.take (i+2))=putF (l.take i)++put2 a:=by
 have e:=take_snoc' ha
 rw[List.take_of_length_le (by omega)]at e
 rw[List.take_of_length_le (show l.length≤i+2 by omega),show putF l=putF (l.take i++ [a])from congrArg putF e,putF_append _ _ (by rw[List.length_take];omega)]
 rfl
set_option maxRecDepth 100000 in
set_option maxHeartbeats 2000000 in
theorem refput_forty (l : List Nat) (n : Nat) (hn : n = l.length) (hn4 : n ≤ 4000) (p : List Nat) (hp : putF l = p) (A : Option Addr) (c : Nat) (w : World) (hA : Bs w w.heap.size l A c) :
    Calls Tryz.prog 33 #[.slice A n c] w fun e w' => ∃ A' c', e = .returned (.slice A' (p.length : Nat) c') ∧ Bs w' w'.heap.size p A' c' ∧ Below w.heap.size w w' := by
  obtain ⟨i0, hi, hz0, hz1, hz2⟩ := info_parts infoU8
  have HN := Lib.hid hn
  have HP := Lib.hid hp
  have HA := Lib.hid hA
  clear hn hp hA
  go_enter Tryz.func33, Tryz.ntmps33
  go_wp2_with (go_at_call 79; refine (refsigns_any _).mono ?_; rintro e w1 ⟨rfl, rfl⟩)
  go_loopw [4, 5, 6, 7] (fun v i _ _ wr => ∃ (k : Nat) (o : List Nat), 2 * k ≤ n + 1 ∧ i = .int .i64 ((2 * k : Nat) : Int) ∧ o = putF (l.take (2 * k)) ∧ o.length ≤ 3 * k ∧ wr.ownsRow w.heap.size 5 1 v o.length (U8 o) ∧ Below w.heap.size w wr) (fun _ i _ _ _ => n + 2 - (intOf i).toNat)
  case atStart => exact ⟨0, [], by omega, rfl, rfl, by simp, World.ownsRow_lit w #[] 0 (Nat.le_refl _) (by decide) rfl, (Below.refl _ _).alloc (Nat.le_refl _) _⟩
  case round =>
    obtain ⟨k, o, hk, rfl, ho, hol, hown, hbel⟩ := hrel
    obtain ⟨f, hf⟩ : ∃ f, f = 2 * k := ⟨_, rfl⟩
    rw [← hf] at ho ⊢
    have HO := Lib.hid ho
    have HOW := Lib.hid hown
    have HBL := Lib.hid hbel
    have HF := Lib.hid hf
    clear ho hown hbel
    have hge : ∀ g, u4.ownBlock = some g → w.heap.size ≤ g := fun g hg => own_ge HOW.out hg
    obtain ⟨j, hj⟩ : ∃ j, j = o.length := ⟨_, rfl⟩
    rw [← hj] at HOW hol
    have HJ := Lib.hid hj
    have hbs := HBL.out.size
    clear hj
    by_cases hlt : f < n
    · have hfl : f < l.length := by rw [← HN.out]; exact hlt
      obtain ⟨a, ha⟩ : ∃ a, l[f]? = some a := ⟨_, List.getElem?_eq_getElem hfl⟩
      have ha2 : a < 256 := HA.out.lt a (List.mem_of_getElem? ha)
      obtain ⟨ad, rfl, hb0, hc⟩ := (HA.out.below HBL.out).rd f (.int .u8 (a : Int)) (by rw [U8, List.getElem?_map, ha]; rfl)
      have b0 : (0 : Int) ≤ (f : Int) := by omega
      have b1 : (f : Int) < (n : Int) := by omega
      have wf2 : IntKind.i64.wrap ((f : Int) + 2) = (f : Int) + 2 := IntWalk.i64_in _ (by omega)
      by_cases hlt2 : f + 1 < n
      · have hfl2 : f + 1 < l.length := by rw [← HN.out]; exact hlt2
        obtain ⟨b, hb⟩ : ∃ b, l[f + 1]? = some b := ⟨_, List.getElem?_eq_getElem hfl2⟩
        have hb2 : b < 256 := HA.out.lt b (List.mem_of_getElem? hb)
        obtain ⟨ad', e', hb0', hc'⟩ := (HA.out.below HBL.out).rd (f + 1) (.int .u8 (b : Int)) (by rw [U8, List.getElem?_map, hb]; rfl)
        cases e'
        have hst := putF_step3 ha hb (by omega) (by omega)
        rw [← HO.out] at hst
        have HST := Lib.hid hst
        obtain ⟨y, hy⟩ : ∃ y, y = a * 256 + b := ⟨_, rfl⟩
        rw [← hy] at HST
        obtain ⟨f1, hf1⟩ : ∃ f1, f1 = f + 1 := ⟨_, rfl⟩
        rw [← hf1] at hc'
        have b2 : (f1 : Int) < (n : Int) := by omega
        have b3 : (0 : Int) ≤ (f1 : Int) := by omega
        have wf : IntKind.i64.wrap ((f : Int) + 1) = (f1 : Int) := by rw [IntWalk.i64_in _ (by omega)]; omega
        have ya : IntKind.i64.wrap (a : Int) = (a : Int) := IntWalk.i64_in _ (by omega)
        have yb : IntKind.i64.wrap (b : Int) = (b : Int) := IntWalk.i64_in _ (by omega)
        have y1 : IntKind.i64.wrap (256 * (a : Int)) = 256 * (a : Int) := IntWalk.i64_in _ (by omega)
        have y2 : IntKind.i64.wrap (256 * (a : Int) + (b : Int)) = (y : Int) := by rw [IntWalk.i64_in _ (by omega)]; omega
        obtain ⟨r1, hr1⟩ : ∃ r1, r1 = y % 45 := ⟨_, rfl⟩
        obtain ⟨q1, hq1⟩ : ∃ q1, q1 = y / 45 := ⟨_, rfl⟩
        obtain ⟨r2, hr2⟩ : ∃ r2, r2 = q1 % 45 := ⟨_, rfl⟩
        obtain ⟨q2, hq2⟩ : ∃ q2, q2 = y / 2025 := ⟨_, rfl⟩
        have hput : put3 y = [sg r1, sg r2, sg q2] := by rw [put3, hr1, hr2, hq1, hq2]
        rw [hput] at HST
        have i1 := run_index_sg r1 (by omega)
        have i2 := run_index_sg r2 (by omega)
        have i3 := run_index_sg q2 (by omega)
        have t1 : (y : Int).tmod 45 = (r1 : Int) := by rw [Int.tmod_eq_emod_of_nonneg (by omega)]; omega
        have t2 : (y : Int).tdiv 45 = (q1 : Int) := by rw [Int.tdiv_eq_ediv_of_nonneg (by omega)]; omega
        have t3 : (q1 : Int).tmod 45 = (r2 : Int) := by rw [Int.tmod_eq_emod_of_nonneg (by omega)]; omega
        have t4 : (y : Int).tdiv 2025 = (q2 : Int) := by rw [Int.tdiv_eq_ediv_of_nonneg (by omega)]; omega
        have v1 : IntKind.i64.wrap (r1 : Int) = (r1 : Int) := IntWalk.i64_in _ (by omega)
        have v2 : IntKind.i64.wrap (q1 : Int) = (q1 : Int) := IntWalk.i64_in _ (by omega)
        have v3 : IntKind.i64.wrap (r2 : Int) = (r2 : Int) := IntWalk.i64_in _ (by omega)
        have v4 : IntKind.i64.wrap (q2 : Int) = (q2 : Int) := IntWalk.i64_in _ (by omega)
        have hmx : j + 3 ≤ maxLen := by unfold maxLen; omega
        have hFl : f + 2 ≤ n + 1 := by omega
        clear hst hput ha hb hr1 hq1 hr2 hq2 hy hf hfl hfl2 hb0 hb0' hf1
        generalize sg r1 = s1 at *
        generalize sg r2 = s2 at *
        generalize sg q2 = s3 at *
        go_wp2
        go_quiet (fail)
        go_wp2
        go_region_held3 (fun _ => True) (trivial)
        ((refine step_append_lies _ (by rfl) _ _ _ (by rfl) w.heap.size 5 i0 _ 1 1 Tryz.underlying30 hi hz0 hz1 hz2 rfl (by omega) u4 j (U8 o) (by rfl) ((HOW.out.alloc _).drew)
            ⟨wr.heap.size, 0, none⟩ 3 3 [.int .u8 (s1 : Int), .int .u8 (s2 : Int), .int .u8 (s3 : Int)] (by rfl) (by rfl)
            (World.news_of_block (cs := #[.int .u8 (s1 : Int), .int .u8 (s2 : Int), .int .u8 (s3 : Int)]) (t := 5) (fr := (0, 0)) (heap_alloc_new wr _)) (by simp [Value.oneCell'])
            (by omega) hmx (by omega) (by simp; omega) (wr.heap.size + 1) (by simp) ?_; intro gg cap w1 hown1 hgrow hat hlt1))
        all_goals
          have hbel1 : Below w.heap.size w w1 := by first | exact ((HBL.out.alloc hbs _).drew).grown hgrow (by simp; omega) hge | exact ((below_drewN HBL.out _).alloc (by exact hbs) _).grown hgrow (by simp; omega) hge
          have hown2 : w1.ownsRow w.heap.size 5 1 (.slice (some ⟨gg, 0, none⟩) (j + 3) cap) (o ++ [s1, s2, s3]).length (U8 (o ++ [s1, s2, s3])) := by
            rw [u8_app, List.length_append, ← HJ.out]
            exact hown1
          have HOW2 := Lib.hid hown2
          have HBL2 := Lib.hid hbel1
          clear hown1 hgrow hat hlt1 hown2 hbel1 hc hc'
          go_wp2
          go_roundw
          case rel => exact ⟨k + 1, o ++ [s1, s2, s3], by have := HF.out; omega, by have := HF.out; exact congrArg (Value.int .i64) (by omega), by rw [show 2 * (k + 1) = f + 2 by have := HF.out; omega]; exact HST.out.symm, by rw [List.length_append, ← HJ.out]; simp only [List.length_cons, List.length_nil]; omega, HOW2.out, HBL2.out⟩
          case measure => simp [intOf]; omega
      · have hst := putF_step2 ha (by rw [← HN.out]; omega) (show f % 2 = 0 by omega)
        rw [← HO.out] at hst
        have HST := Lib.hid hst
        have wf : IntKind.i64.wrap ((f : Int) + 1) = (n : Int) := by rw [IntWalk.i64_in _ (by omega)]; omega
        have ya : IntKind.i64.wrap (a : Int) = (a : Int) := IntWalk.i64_in _ (by omega)
        obtain ⟨r1, hr1⟩ : ∃ r1, r1 = a % 45 := ⟨_, rfl⟩
        obtain ⟨q1, hq1⟩ : ∃ q1, q1 = a / 45 := ⟨_, rfl⟩
        have hput : put2 a = [sg r1, sg q1] := by rw [put2, hr1, hq1]
        rw [hput] at HST
        have i1 := run_index_sg r1 (by omega)
        have i2 := run_index_sg q1 (by omega)
        have t1 : (a : Int).tmod 45 = (r1 : Int) := by rw [Int.tmod_eq_emod_of_nonneg (by omega)]; omega
        have t2 : (a : Int).tdiv 45 = (q1 : Int) := by rw [Int.tdiv_eq_ediv_of_nonneg (by omega)]; omega
        have v1 : IntKind.i64.wrap (r1 : Int) = (r1 : Int) := IntWalk.i64_in _ (by omega)
        have v2 : IntKind.i64.wrap (q1 : Int) = (q1 : Int) := IntWalk.i64_in _ (by omega)
        have hmx : j + 2 ≤ maxLen := by unfold maxLen; omega
        have b2 : ¬ ((n : Int) < (n : Int)) := by omega
        have hFl : f + 2 = n + 1 := by omega
        clear hst hput ha hr1 hq1 hf hfl hb0
        generalize sg r1 = s1 at *
        generalize sg q1 = s2 at *
        go_wp2
        go_region_held3 (fun _ => True) (trivial)
        ((refine step_append_lies _ (by rfl) _ _ _ (by rfl) w.heap.size 5 i0 _ 1 1 Tryz.underlying30 hi hz0 hz1 hz2 rfl (by omega) u4 j (U8 o) (by rfl) ((HOW.out.alloc _).drew)
            ⟨wr.heap.size, 0, none⟩ 2 2 [.int .u8 (s1 : Int), .int .u8 (s2 : Int)] (by rfl) (by rfl)
            (World.news_of_block (cs := #[.int .u8 (s1 : Int), .int .u8 (s2 : Int)]) (t := 5) (fr := (0, 0)) (heap_alloc_new wr _)) (by simp [Value.oneCell'])
            (by omega) hmx (by omega) (by simp; omega) (wr.heap.size + 1) (by simp) ?_; intro gg cap w1 hown1 hgrow hat hlt1))
        all_goals
          have hbel1 : Below w.heap.size w w1 := by first | exact ((HBL.out.alloc hbs _).drew).grown hgrow (by simp; omega) hge | exact ((below_drewN HBL.out _).alloc (by exact hbs) _).grown hgrow (by simp; omega) hge
          have hown2 : w1.ownsRow w.heap.size 5 1 (.slice (some ⟨gg, 0, none⟩) (j + 2) cap) (o ++ [s1, s2]).length (U8 (o ++ [s1, s2])) := by
            rw [u8_app, List.length_append, ← HJ.out]
            exact hown1
          have HOW2 := Lib.hid hown2
          have HBL2 := Lib.hid hbel1
          clear hown1 hgrow hat hlt1 hown2 hbel1 hc
          go_wp2
          go_roundw
          case rel => exact ⟨k + 1, o ++ [s1, s2], by have := HF.out; omega, by have := HF.out; exact congrArg (Value.int .i64) (by omega), by rw [show 2 * (k + 1) = f + 2 by have := HF.out; omega]; exact HST.out.symm, by rw [List.length_append, ← HJ.out]; simp only [List.length_cons, List.length_nil]; omega, HOW2.out, HBL2.out⟩
          case measure => simp [intOf]; omega
    · have b1 : ¬ ((f : Int) < (n : Int)) := by omega
      have e : o = p := by rw [HO.out, List.take_of_length_le (by rw [← HN.out]; omega), HP.out]
      subst e
      have hplt : ∀ x ∈ o, x < 256 := by rw [← HP.out]; exact putF_lt l
      obtain ⟨A2, c2, rfl, hbs2⟩ := bs_of_own HOW.out hplt
      have HBS := Lib.hid hbs2
      clear hbs2 hge hplt
      go_wp2
      go_ret
      exact ⟨A2, c2, by rw [HJ.out]; rfl, HBS.out, HBL.out⟩
end Go.Proofs.YtcnglbliidjnfaaGreatDoor
