import Derived.Test.YtmdbfogjfbbpjaaGreatDoorFieldsMath
namespace Go.Proofs.YtmdbfogjfbbpjaaGreatDoor
theorem Acj (v x:Int) (k:Nat) (s:List Int):He v (tagsF k (x::s))=(((x==0)||decide (Bj (k:Int)≤v))&&He v (tagsF (k+1) s)):=by
 rw[tagsF]
 by_cases h:x=0
 ·rw[if_pos h,List.nil_append,h];simp
 ·rw[if_neg h,List.singleton_append,He,List.all_cons, ←He,show(x==0)=false by rw[beq_eq_false_iff_ne];exact h,Bool.false_or]
theorem Sc (q:Rg):Jm (numL q)=true↔(1≤q.ver∧q.ver≤3)∧(q.t.card=0∨2≤q.ver)∧(q.t.seat=0∨3≤q.ver):=by
 have e:(numL q).getD 0 0=q.ver:=rfl
 rw[Jm,e,numL]
 by_cases h1:1≤q.ver
 rotate_left
 ·rw[decide_eq_false h1];simp;omega
 simp only[Acj]
 simp only[show Bj ((1:Nat):Int)=1 from rfl,show Bj ((1+1:Nat):Int)=1 from rfl,show Bj ((1+1+1:Nat):Int)=1 from rfl,show Bj ((1+1+1+1:Nat):Int)=1 from rfl,show Bj ((1+1+1+1+1:Nat):Int)=1 from rfl,show Bj ((1+1+1+1+1+1:Nat):Int)=1 from rfl,show Bj ((1+1+1+1+1+1+1:Nat):Int)=1 from rfl,show Bj ((1+1+1+1+1+1+1+1:Nat):Int)=2 from rfl,show Bj ((1+1+1+1+1+1+1+1+1:Nat):Int)=3 from rfl,show Bj ((1+1+1+1+1+1+1+1+1+1:Nat):Int)=1 from rfl,show Bj ((1+1+1+1+1+1+1+1+1+1+1:Nat):Int)=1 from rfl,show Bj ((1+1+1+1+1+1+1+1+1+1+1+1:Nat):Int)=1 from rfl,show Bj ((1+1+1+1+1+1+1+1+1+1+1+1+1:Nat):Int)=1 from rfl,decide_eq_true h1,Bool.or_true,Bool.true_and]
 simp[He,tagsF]
 omega
end Go.Proofs.YtmdbfogjfbbpjaaGreatDoor
