import Derived.Test.YtcnglbliidjnfaaGreatDoorFieldsMath
namespace Go.Proofs.YtcnglbliidjnfaaGreatDoor
theorem fit_cons (v x:Int) (k:Nat) (s:List Int):fitX v (tagsF k (x::s))=(((x==0)||decide (leastN (k:Int)≤v))&&fitX v (tagsF (k+1) s)):=by
 rw[tagsF]
 by_cases h:x=0
 ·rw[if_pos h,List.nil_append,h];simp
 ·rw[if_neg h,List.singleton_append,fitX,List.all_cons, ←fitX,show(x==0)=false by rw[beq_eq_false_iff_ne];exact h,Bool.false_or]
theorem ver_iff (q:Rg):verX (numL q)=true↔(1≤q.ver∧q.ver≤3)∧(q.t.card=0∨2≤q.ver)∧(q.t.seat=0∨3≤q.ver):=by
 have e:(numL q).getD 0 0=q.ver:=rfl
 rw[verX,e,numL]
 by_cases h1:1≤q.ver
 rotate_left
 ·rw[decide_eq_false h1];simp;omega
 simp only[fit_cons]
 simp only[show leastN ((1:Nat):Int)=1 from rfl,show leastN ((1+1:Nat):Int)=1 from rfl,show leastN ((1+1+1:Nat):Int)=1 from rfl,show leastN ((1+1+1+1:Nat):Int)=1 from rfl,show leastN ((1+1+1+1+1:Nat):Int)=1 from rfl,show leastN ((1+1+1+1+1+1:Nat):Int)=1 from rfl,show leastN ((1+1+1+1+1+1+1:Nat):Int)=1 from rfl,show leastN ((1+1+1+1+1+1+1+1:Nat):Int)=2 from rfl,show leastN ((1+1+1+1+1+1+1+1+1:Nat):Int)=3 from rfl,show leastN ((1+1+1+1+1+1+1+1+1+1:Nat):Int)=1 from rfl,show leastN ((1+1+1+1+1+1+1+1+1+1+1:Nat):Int)=1 from rfl,show leastN ((1+1+1+1+1+1+1+1+1+1+1+1:Nat):Int)=1 from rfl,show leastN ((1+1+1+1+1+1+1+1+1+1+1+1+1:Nat):Int)=1 from rfl,decide_eq_true h1,Bool.or_true,Bool.true_and]
 simp[fitX,tagsF]
 omega
end Go.Proofs.YtcnglbliidjnfaaGreatDoor
