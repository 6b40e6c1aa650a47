import Derived.KernelRfl
section
namespace Go.Proofs.YtcnglbliidjnfaaGreatDoor
def stp (x:Nat):Nat:=x / 2+x % 2*2147483648
def itr:Nat→Nat→Nat
 |0,x=>x
 |k+1,x=>stp (itr k x)
def rotF (x k:Nat):Nat:=x / 2^k+x % 2^k*2^(32 - k)
theorem stp_lt {x:Nat} (h:x<4294967296):stp x<4294967296:=by unfold stp;omega
theorem itr_lt (k:Nat) {x:Nat} (h:x<4294967296):itr k x<4294967296:=by
 induction k with
 |zero=>exact h
 |succ k ih=>exact stp_lt ih
theorem rotF_succ (x k:Nat) (hk:k<32):rotF x (k+1)=stp (rotF x k):=by
 have e1:2^(32 - k)=2*2^(32 - (k+1)):=by rw[show 32 - k=(32 - (k+1))+1 by omega,Nat.pow_succ];omega
 have e2:x / 2^(k+1)=x / 2^k / 2:=by rw[Nat.pow_succ,Nat.div_div_eq_div_mul]
 have e3:x % 2^(k+1)=x % 2^k+2^k*(x / 2^k % 2):=by rw[Nat.pow_succ,Nat.mod_mul]
 have e4:2^k*2^(32 - (k+1))=2147483648:=by rw[←Nat.pow_add,show k+(32 - (k+1))=31 by omega]
 unfold rotF stp
 rw[e1,e2,e3,Nat.add_mul,Nat.mul_assoc,Nat.mul_comm (x / 2^k % 2), ←Nat.mul_assoc,e4]
 have e5:x % 2^k*(2*2^(32 - (k+1)))=2*(x % 2^k*2^(32 - (k+1))):=by rw[Nat.mul_left_comm]
 rw[e5]
 generalize x % 2^k*2^(32 - (k+1))=p
 generalize x / 2^k=q
 omega
theorem rotF_zero (x:Nat):rotF x 0=x:=by unfold rotF;simp[Nat.mod_one]
theorem itr_eq (x k:Nat) (hk:k≤32):itr k x=rotF x k:=by
 induction k with
 |zero=>exact(rotF_zero x).symm
 |succ k ih=>rw[rotF_succ x k (by omega), ←ih (by omega)];rfl
theorem or_rot (x k:Nat) (hx:x<4294967296) (hk:k<32):x / 2^k|||x*2^(32 - k) % 4294967296=itr k x:=by
 have e:(4294967296:Nat)=2^k*2^(32 - k):=by rw[←Nat.pow_add,show k+(32 - k)=32 by omega]
 have hlt:x / 2^k<2^(32 - k):=by
  rw[Nat.div_lt_iff_lt_mul (Nat.two_pow_pos k),Nat.mul_comm, ←e];exact hx
 rw[itr_eq x k (by omega),e,Nat.mul_mod_mul_right,Nat.or_comm,Nat.mul_comm, ←Nat.two_pow_add_eq_or_of_lt hlt]
 unfold rotF
 rw[Nat.mul_comm (x % 2^k),Nat.add_comm]
def valB (l:List Nat):Nat:=l.foldl (fun a b=>a*256+b) 0
theorem valB_snoc (l:List Nat) (x:Nat):valB (l++ [x])=valB l*256+x:=by simp[valB]
theorem foldl_shift (l:List Nat) (a:Nat):l.foldl (fun a b=>a*256+b) a=a*256^l.length+valB l:=by
 induction l generalizing a with
 |nil=>simp[valB]
 |cons x l ih=>
  rw[List.foldl_cons,ih]
  have e:valB (x::l)=x*256^l.length+valB l:=by
   show List.foldl _ _ _=_
   rw[List.foldl_cons,ih];simp
  rw[e,List.length_cons,Nat.pow_succ,Nat.add_mul,Nat.mul_assoc,Nat.mul_comm 256,Nat.add_assoc]
theorem valB_cons (x:Nat) (l:List Nat):valB (x::l)=x*256^l.length+valB l:=by
 show List.foldl _ _ _=_
 rw[List.foldl_cons,foldl_shift];simp
theorem valB_lt (l:List Nat) (h: ∀x∈l,x<256):valB l<256^l.length:=by
 induction l with
 |nil=>simp[valB]
 |cons x l ih=>
  have h1:=ih (fun y hy=>h y (by simp[hy]))
  have h2:=h x (by simp)
  rw[valB_cons,List.length_cons,Nat.pow_succ]
  have h3:x*256^l.length≤255*256^l.length:=Nat.mul_le_mul_right _ (by omega)
  omega
def wordAt (l:List Nat) (i j:Nat):Nat:=valB (((l.take i).drop (4*j)).take 4)
def wordsUpto (l:List Nat) (m i:Nat):List Nat:=(List.range m).map (wordAt l i)
theorem wordAt_next (l:List Nat) (i:Nat) (hi:i<l.length):wordAt l (i+1) (i / 4)=wordAt l i (i / 4)*256+l[i]:=by
 unfold wordAt
 rw[List.take_succ_eq_append_getElem hi,List.drop_append_of_le_length (by simp;omega),List.take_of_length_le (by simp;omega),List.take_of_length_le (l:=(l.take i).drop (4*(i / 4))) (by simp;omega),valB_snoc]
theorem wordAt_other (l:List Nat) (i j:Nat) (hi:i<l.length) (hj:j≠i / 4):wordAt l (i+1) j=wordAt l i j:=by
 unfold wordAt
 rw[List.take_succ_eq_append_getElem hi]
 by_cases h:j<i / 4
 ·rw[List.drop_append_of_le_length (by simp;omega),List.take_append_of_le_length (by simp;omega)]
 ·rw[List.drop_eq_nil_of_le (by simp;omega),List.drop_eq_nil_of_le (by simp;omega)]
theorem wordsUpto_set (l:List Nat) (m i:Nat) (hi:i<l.length):(wordsUpto l m i).set (i / 4) (wordAt l i (i / 4)*256+l[i])=wordsUpto l m (i+1):=by
 apply List.ext_getElem
 ·simp[wordsUpto]
 ·intro j h1 h2
  rw[List.getElem_set]
  simp only[wordsUpto,List.getElem_map,List.getElem_range]
  split
  ·next h=>subst h;rw[wordAt_next l i hi]
  ·next h=>rw[wordAt_other l i j hi (by omega)]
theorem mem_part {l:List Nat} {i a b x:Nat} (h:x∈((l.take i).drop a).take b):x∈l:=List.mem_of_mem_take (List.mem_of_mem_drop (List.mem_of_mem_take h))
theorem wordAt_lt (l:List Nat) (hl: ∀x∈l,x<256) (i j:Nat):wordAt l i j<4294967296:=by
 have h:=valB_lt (((l.take i).drop (4*j)).take 4) (fun x hx=>hl x (mem_part hx))
 have h2:256^(((l.take i).drop (4*j)).take 4).length≤256^4:=Nat.pow_le_pow_right (by omega) (by simp;omega)
 unfold wordAt
 omega
theorem wordAt_room (l:List Nat) (hl: ∀x∈l,x<256) (i:Nat):wordAt l i (i / 4)<16777216:=by
 have h:=valB_lt (((l.take i).drop (4*(i / 4))).take 4) (fun x hx=>hl x (mem_part hx))
 have h2:256^(((l.take i).drop (4*(i / 4))).take 4).length≤256^3:=Nat.pow_le_pow_right (by omega) (by simp;omega)
 unfold wordAt
 omega
theorem wordAt_none (l:List Nat) (j:Nat):wordAt l 0 j=0:=by simp[wordAt,valB]
theorem wordsUpto_zero (l:List Nat) (m:Nat):wordsUpto l m 0=List.replicate m 0:=by
 apply List.ext_getElem
 ·simp[wordsUpto]
 ·intro j h1 h2
  simp[wordsUpto,wordAt_none]
theorem wordsUpto_get (l:List Nat) (m i j:Nat) (h:j<m):(wordsUpto l m i)[j]?=some (wordAt l i j):=by simp[wordsUpto,h]
def wordsOf (l:List Nat):List Nat:=wordsUpto l (l.length / 4) l.length
theorem length_wordsOf (l:List Nat):(wordsOf l).length=l.length / 4:=by simp[wordsOf,wordsUpto]
theorem wordsOf_lt (l:List Nat) (hl: ∀x∈l,x<256): ∀x∈wordsOf l,x<4294967296:=by
 intro x hx
 simp only[wordsOf,wordsUpto,List.mem_map]at hx
 obtain⟨j,_,rfl⟩:=hx
 exact wordAt_lt l hl _ _
theorem wordsUpto_succ (l:List Nat) (k i:Nat):wordsUpto l (k+1) i=wordsUpto l k i++ [wordAt l i k]:=by simp[wordsUpto,List.range_succ]
def byteAt (ws:List Nat) (i:Nat):Nat:=ws.getD (i / 4) 0 / 2^(8*(3 - i % 4)) % 256
def bytesUpto (ws:List Nat) (m i:Nat):List Nat:=(List.range m).map fun t=>if t<i then byteAt ws t else 0
def bytesOf (ws:List Nat):List Nat:=(List.range (4*ws.length)).map (byteAt ws)
theorem length_bytesOf (ws:List Nat):(bytesOf ws).length=4*ws.length:=by simp[bytesOf]
theorem byteAt_lt (ws:List Nat) (i:Nat):byteAt ws i<256:=Nat.mod_lt _ (by omega)
theorem bytesOf_lt (ws:List Nat): ∀x∈bytesOf ws,x<256:=by
 intro x hx
 simp only[bytesOf,List.mem_map]at hx
 obtain⟨j,_,rfl⟩:=hx
 exact byteAt_lt ws j
theorem bytesUpto_zero (ws:List Nat) (m:Nat):bytesUpto ws m 0=List.replicate m 0:=by
 apply List.ext_getElem<;>simp[bytesUpto]
theorem bytesUpto_set (ws:List Nat) (m i:Nat):(bytesUpto ws m i).set i (byteAt ws i)=bytesUpto ws m (i+1):=by
 apply List.ext_getElem
 ·simp[bytesUpto]
 ·intro j h1 h2
  rw[List.getElem_set]
  simp only[bytesUpto,List.getElem_map,List.getElem_range]
  split
  ·next h=>subst h;simp
  ·next h=>
   by_cases h3:j<i
   ·rw[if_pos h3,if_pos (by omega)]
   ·rw[if_neg h3,if_neg (by omega)]
theorem bytesUpto_all (ws:List Nat):bytesUpto ws (4*ws.length) (4*ws.length)=bytesOf ws:=by
 apply List.ext_getElem
 ·simp[bytesUpto,bytesOf]
 ·intro j h1 h2
  rw[length_bytesOf]at h2
  simp[bytesUpto,bytesOf,h2]
def bytesTo (ws:List Nat) (k:Nat):List Nat:=(List.range (4*k)).map (byteAt ws)
theorem bytesTo_succ (ws:List Nat) (k:Nat) (hk:k<ws.length) (hw: ∀x∈ws,x<4294967296):
  bytesTo ws (k+1)=bytesTo ws k++ [ws[k] / 16777216,ws[k] / 65536 % 256,ws[k] / 256 % 256,ws[k] % 256]:=by
 have hx:=hw ws[k] (List.getElem_mem hk)
 unfold bytesTo
 rw[show 4*(k+1)=4*k+1+1+1+1 by omega]
 simp only[List.range_succ,List.map_append,List.map_cons,List.map_nil,List.append_assoc,List.cons_append,List.nil_append]
 have d0:4*k / 4=k:=by omega
 have d1:(4*k+1) / 4=k:=by omega
 have d2:(4*k+1+1) / 4=k:=by omega
 have d3:(4*k+1+1+1) / 4=k:=by omega
 have m0:4*k % 4=0:=by omega
 have m1:(4*k+1) % 4=1:=by omega
 have m2:(4*k+1+1) % 4=2:=by omega
 have m3:(4*k+1+1+1) % 4=3:=by omega
 have g:ws.getD k 0=ws[k]:=by simp[hk]
 simp only[byteAt,d0,d1,d2,d3,m0,m1,m2,m3,g]
 congr 1
 simp only[Nat.reduceSub,Nat.reduceMul,Nat.reducePow,Nat.div_one,List.cons.injEq,and_true]
 omega
def putB (n:Nat):Nat→List Nat
 |0=>[]
 |k+1=>n / 256^k % 256::putB n k
theorem length_putB (n k:Nat):(putB n k).length=k:=by
 induction k with
 |zero=>rfl
 |succ k ih=>simp[putB,ih]
theorem putB_lt (n k:Nat): ∀x∈putB n k,x<256:=by
 induction k with
 |zero=>intro x hx;simp[putB]at hx
 |succ k ih=>
  intro x hx
  rcases List.mem_cons.1 hx with rfl|hx
  ·exact Nat.mod_lt _ (by omega)
  ·exact ih x hx
theorem putB_get (n k i:Nat) (h:i<k):(putB n k)[i]?=some (n / 256^(k - 1 - i) % 256):=by
 induction k generalizing i with
 |zero=>omega
 |succ k ih=>
  match i with
  |0=>simp[putB]
  |i+1=>
   rw[putB,List.getElem?_cons_succ,ih i (by omega),show k+1 - 1 - (i+1)=k - 1 - i by omega]
def putUpto (n m i:Nat):List Nat:=(List.range m).map fun t=>if t<i then n / 256^(m - 1 - t) % 256 else 0
theorem putUpto_zero (n m:Nat):putUpto n m 0=List.replicate m 0:=by
 apply List.ext_getElem<;>simp[putUpto]
theorem putUpto_set (n m i:Nat):(putUpto n m i).set i (n / 256^(m - 1 - i) % 256)=putUpto n m (i+1):=by
 apply List.ext_getElem
 ·simp[putUpto]
 ·intro j h1 h2
  rw[List.getElem_set]
  simp only[putUpto,List.getElem_map,List.getElem_range]
  split
  ·next h=>subst h;simp
  ·next h=>
   by_cases h3:j<i
   ·rw[if_pos h3,if_pos (by omega)]
   ·rw[if_neg h3,if_neg (by omega)]
theorem putUpto_all (n m:Nat):putUpto n m m=putB n m:=by
 apply List.ext_getElem?
 intro j
 by_cases h:j<m
 ·rw[putB_get n m j h];simp[putUpto,h]
 ·rw[List.getElem?_eq_none (by simp[putUpto];omega),List.getElem?_eq_none (by rw[length_putB];omega)]
theorem valB_putB (n k:Nat):valB (putB n k)=n % 256^k:=by
 induction k with
 |zero=>simp[putB,valB,Nat.mod_one]
 |succ k ih=>rw[putB,valB_cons,length_putB,ih,Nat.pow_succ,Nat.mod_mul,Nat.mul_comm,Nat.add_comm]
end Go.Proofs.YtcnglbliidjnfaaGreatDoor
end
section
namespace Go.Proofs.YtcnglbliidjnfaaGreatDoor
structure Tf where
 tag:Int
 val:List Nat
def TF0:Tf:=⟨0,[]⟩
def okTf (a t:Int) (n:Nat):Bool:=decide (a<t)&&(decide (t≤255)&&decide (n≤255))
theorem okTf_iff (a t:Int) (n:Nat):okTf a t n=true↔a<t∧t≤255∧n≤255:=by simp[okTf]
def isT:Int→List Tf→Bool
 |_,[]=>true
 |a,f::l=>okTf a f.tag f.val.length&&isT f.tag l
def putT:List Tf→List Nat
 |[]=>[]
 |f::l=>f.tag.toNat::f.val.length::(f.val++putT l)
def lastT:Int→List Tf→Int
 |a,[]=>a
 |_,f::l=>lastT f.tag l
theorem putT_append (l m:List Tf):putT (l++m)=putT l++putT m:=by
 induction l with
 |nil=>rfl
 |cons f l ih=>simp[putT,ih]
theorem isT_append (a:Int) (l m:List Tf):isT a (l++m)=(isT a l&&isT (lastT a l) m):=by
 induction l generalizing a with
 |nil=>simp[isT,lastT]
 |cons f l ih=>simp[isT,lastT,ih,Bool.and_assoc]
theorem lastT_append (a:Int) (l m:List Tf):lastT a (l++m)=lastT (lastT a l) m:=by
 induction l generalizing a with
 |nil=>rfl
 |cons f l ih=>simp[lastT,ih]
theorem isT_last {a:Int} {l:List Tf} (h:isT a l=true):a≤lastT a l∧(l≠ []→a<lastT a l)∧(a≤255→lastT a l≤255):=by
 induction l generalizing a with
 |nil=>exact⟨Int.le_refl _,fun h=>absurd rfl h,fun h=>h⟩
 |cons f l ih=>
  simp only[isT,Bool.and_eq_true]at h
  obtain⟨h1,h2,h3⟩:=(okTf_iff _ _ _).1 h.1
  obtain⟨i1,_,i3⟩:=ih h.2
  have e:lastT a (f::l)=lastT f.tag l:=rfl
  rw[e]
  exact⟨by omega,fun _=>by omega,fun _=>i3 h2⟩
theorem isT_weak {a b:Int} {l:List Tf} (hab:b≤a) (h:isT a l=true):isT b l=true:=by
 cases l with
 |nil=>rfl
 |cons f l=>
  simp only[isT,Bool.and_eq_true]at h⊢
  obtain⟨h1,h2,h3⟩:=(okTf_iff _ _ _).1 h.1
  exact⟨(okTf_iff _ _ _).2 ⟨by omega,h2,h3⟩,h.2⟩
theorem getD_split (l:List Tf) (k:Nat) (h:k<l.length):l=l.take k++(l.getD k TF0::l.drop (k+1)):=by
 rw[List.getD_eq_getElem?_getD,List.getElem?_eq_getElem h,Option.getD_some,List.getElem_cons_drop,List.take_append_drop]
theorem take_snocT (l:List Tf) (k:Nat) (h:k<l.length):l.take (k+1)=l.take k++ [l.getD k TF0]:=by
 rw[List.take_succ_eq_append_getElem h,List.getD_eq_getElem?_getD,List.getElem?_eq_getElem h];rfl
theorem isT_bad (l:List Tf) (k:Nat) (h:k<l.length) (hk:okTf (lastT 0 (l.take k)) (l.getD k TF0).tag (l.getD k TF0).val.length=false):isT 0 l=false:=by
 rw[getD_split l k h,isT_append]
 rw[isT,hk]
 simp
theorem isT_step (l:List Tf) (k:Nat) (h:k<l.length) (h0:isT 0 (l.take k)=true) (hk:okTf (lastT 0 (l.take k)) (l.getD k TF0).tag (l.getD k TF0).val.length=true):isT 0 (l.take (k+1))=true∧lastT 0 (l.take (k+1))=(l.getD k TF0).tag:=by
 rw[take_snocT l k h,isT_append,lastT_append]
 exact⟨by rw[h0,isT,hk];rfl,rfl⟩
theorem lastT_at (l:List Tf) (k:Nat) (h:k<l.length):lastT 0 (l.take (k+1))=(l.getD k TF0).tag:=by rw[take_snocT l k h,lastT_append];rfl
theorem isT_short {a:Int} {l:List Tf} (h:isT a l=true) (ha:0≤a) (ha2:a≤255):(l.length:Int)≤255 - a∧ ∀f∈l,f.val.length≤255∧0<f.tag∧f.tag≤255:=by
 induction l generalizing a with
 |nil=>exact⟨by simp;omega,by simp⟩
 |cons f l ih=>
  simp only[isT,Bool.and_eq_true]at h
  obtain⟨h1,h2,h3⟩:=(okTf_iff _ _ _).1 h.1
  obtain⟨i1,i2⟩:=ih h.2 (by omega) h2
  refine⟨by rw[List.length_cons];omega, ?_⟩
  intro g hg
  rcases List.mem_cons.1 hg with rfl|hg
  ·exact⟨h3,by omega,h2⟩
  ·exact i2 g hg
theorem putT_lt (l:List Tf) (h: ∀f∈l,f.val.length≤255∧0<f.tag∧f.tag≤255) (hv: ∀f∈l, ∀x∈f.val,x<256): ∀x∈putT l,x<256:=by
 induction l with
 |nil=>simp[putT]
 |cons f l ih=>
  obtain⟨h1,h2,h3⟩:=h f (by simp)
  have hi:=ih (fun g hg=>h g (by simp[hg])) (fun g hg=>hv g (by simp[hg]))
  intro x hx
  simp only[putT,List.mem_cons,List.mem_append]at hx
  rcases hx with rfl|rfl|hx|hx
  ·omega
  ·omega
  ·exact hv f (by simp) x hx
  ·exact hi x hx
theorem putT_snoc (l:List Tf) (k:Nat) (h:k<l.length):putT (l.take (k+1))=putT (l.take k)++ [(l.getD k TF0).tag.toNat,(l.getD k TF0).val.length]++(l.getD k TF0).val:=by
 rw[take_snocT l k h,putT_append]
 simp[putT]
def outT (l:List Tf):Nat × List Nat:=if isT 0 l=true then(0,putT l)else(1,[])
theorem outT_ok {l:List Tf} (h:isT 0 l=true):outT l=(0,putT l):=by rw[outT,if_pos h]
theorem outT_bad {l:List Tf} (h:isT 0 l=false):outT l=(1,[]):=by rw[outT,if_neg (by rw[h];decide)]
def getT:Nat→Nat→List Nat→Nat × List Tf
 |0,_,_=>(0,[])
 |_+1,_,[]=>(0,[])
 |_+1,_,[_]=>(14,[])
 |k+1,a,t::n::r=>
  if t≤a then(13,[])
  else if r.length<n then(14,[])
  else((getT k t (r.drop n)).1,if(getT k t (r.drop n)).1=0 then⟨t,r.take n⟩::(getT k t (r.drop n)).2 else [])
def gotT (b:List Nat):Nat × List Tf:=getT b.length 0 b
def preT (l:List Tf) (q:Nat × List Tf):Nat × List Tf:=(q.1,if q.1=0 then l++q.2 else [])
theorem preT_nil {k a:Nat} {b:List Nat} :preT [] (getT k a b)=getT k a b:=by
 have h:(getT k a b).1≠0→(getT k a b).2=[]:=by
  match k,b with
  |0,_=>intro h;exact absurd rfl h
  |_+1,[]=>intro h;exact absurd rfl h
  |_+1,[_]=>intro _;rfl
  |k+1,t::n::r=>
   unfold getT
   split
   ·intro _;rfl
   ·split
    ·intro _;rfl
    ·intro h;simp only at h⊢;rw[if_neg h]
 rw[preT]
 by_cases e:(getT k a b).1=0
 ·rw[if_pos e,List.nil_append]
 ·rw[if_neg e, ←h e]
theorem getT_end (k a:Nat):getT k a []=(0,[]):=by cases k<;>rfl
theorem getT_one {k a x:Nat} (h:1≤k):getT k a [x]=(14,[]):=by
 obtain⟨j,rfl⟩: ∃j,k=j+1:=⟨k - 1,by omega⟩
 rfl
theorem getT_order {k a t n:Nat} {r:List Nat} (h:1≤k) (ht:t≤a):getT k a (t::n::r)=(13,[]):=by
 obtain⟨j,rfl⟩: ∃j,k=j+1:=⟨k - 1,by omega⟩
 rw[getT,if_pos ht]
theorem getT_over {k a t n:Nat} {r:List Nat} (h:1≤k) (ht:a<t) (hn:r.length<n):getT k a (t::n::r)=(14,[]):=by
 obtain⟨j,rfl⟩: ∃j,k=j+1:=⟨k - 1,by omega⟩
 rw[getT,if_neg (by omega),if_pos hn]
theorem getT_step {k a t n:Nat} {r:List Nat} (ht:a<t) (hn:n≤r.length) (acc:List Tf):preT acc (getT (k+1) a (t::n::r))=preT (acc++ [⟨t,r.take n⟩]) (getT k t (r.drop n)):=by
 rw[getT,if_neg (by omega),if_neg (by omega)]
 simp only[preT]
 by_cases e:(getT k t (r.drop n)).1=0
 ·simp[e]
 ·simp[e]
theorem preT_bad (acc:List Tf) {e:Nat} (h:e≠0):preT acc (e,[])=(e,[]):=by simp[preT,h]
theorem preT_end (acc:List Tf):preT acc (0,[])=(0,acc):=by simp[preT]
theorem getT_put: ∀(l:List Tf) (k a:Nat),isT (a:Int) l=true→(putT l).length≤k→getT k a (putT l)=(0,l)
 |[],k,a,_,_=>getT_end k a
 |f::l,k,a,h,hk=>by
  simp only[isT,Bool.and_eq_true]at h
  obtain⟨h1,h2,h3⟩:=(okTf_iff _ _ _).1 h.1
  have ht:((f.tag.toNat:Nat):Int)=f.tag:=by omega
  simp only[putT,List.length_cons,List.length_append]at hk
  obtain⟨j,rfl⟩: ∃j,k=j+1:=⟨k - 1,by omega⟩
  have hi:=getT_put l j f.tag.toNat (by rw[ht];exact h.2) (by omega)
  rw[putT,getT,if_neg (by omega),if_neg (by rw[List.length_append];omega),List.drop_left,List.take_left,hi,ht]
  simp
theorem gotT_put {l:List Tf} (h:isT 0 l=true):gotT (putT l)=(0,l):=getT_put l _ 0 (by simpa using h) (Nat.le_refl _)
theorem putT_get: ∀(k a:Nat) (b:List Nat) (l:List Tf),b.length≤k→(∀x∈b,x<256)→getT k a b=(0,l)→isT (a:Int) l=true∧putT l=b
 |0,a,b,l,hb,_,h=>by
  obtain rfl:b=[]:=List.eq_nil_of_length_eq_zero (by omega)
  rw[getT]at h
  cases h
  exact⟨rfl,rfl⟩
 |k+1,a,[],l,_,_,h=>by
  rw[getT]at h
  cases h
  exact⟨rfl,rfl⟩
 |k+1,a,[x],l,_,_,h=>by
  rw[getT]at h
  cases h
 |k+1,a,t::n::r,l,hb,hx,h=>by
  rw[getT]at h
  by_cases h1:t≤a
  ·rw[if_pos h1]at h;cases h
  ·rw[if_neg h1]at h
   by_cases h2:r.length<n
   ·rw[if_pos h2]at h;cases h
   ·rw[if_neg h2]at h
    obtain⟨e1,e2⟩:=Prod.mk.inj h
    rw[if_pos e1]at e2
    have hr: ∀x∈r.drop n,x<256:=fun x hm=>hx x (by simp[List.mem_of_mem_drop hm])
    simp only[List.length_cons]at hb
    obtain⟨i1,i2⟩:=putT_get k t (r.drop n) (getT k t (r.drop n)).2 (by rw[List.length_drop];omega) hr (by rw[←e1])
    have ht:=hx t (by simp)
    have hn:=hx n (by simp)
    subst e2
    have hl:(r.take n).length=n:=by rw[List.length_take];omega
    refine⟨?_, ?_⟩
    ·simp only[isT,Bool.and_eq_true]
     exact⟨(okTf_iff _ _ _).2 ⟨by omega,by omega,by rw[hl];omega⟩,i1⟩
    ·simp only[putT]
     rw[i2,hl,List.take_append_drop]
     simp
theorem putT_got {b:List Nat} {l:List Tf} (hb: ∀x∈b,x<256) (h:gotT b=(0,l)):isT 0 l=true∧putT l=b:=by simpa using putT_get _ 0 b l (Nat.le_refl _) hb h
def sizeK:Nat→Nat→Nat
 |0,_=>0
 |k+1,n=>if n=0 then 0 else sizeK k (n / 256)+1
def sizeN (n:Nat):Nat:=sizeK 8 n
theorem sizeK_spec: ∀(k n:Nat),n<256^k→sizeK k n≤k∧n<256^sizeK k n∧(n≠0→256^(sizeK k n - 1)≤n∧1≤sizeK k n)
 |0,n,h=>by
  have:n=0:=by simpa using h
  subst this
  exact⟨Nat.le_refl _,by simp[sizeK],fun h=>absurd rfl h⟩
 |k+1,n,h=>by
  by_cases e:n=0
  ·subst e
   simp[sizeK]
  ·have hd:n / 256<256^k:=by
    rw[Nat.div_lt_iff_lt_mul (by omega), ←Nat.pow_succ];exact h
   obtain⟨h1,h2,h3⟩:=sizeK_spec k (n / 256) hd
   have es:sizeK (k+1) n=sizeK k (n / 256)+1:=by rw[sizeK,if_neg e]
   rw[es]
   refine⟨by omega, ?_,fun _=>⟨?_,by omega⟩⟩
   ·rw[Nat.pow_succ]
    rwa[Nat.div_lt_iff_lt_mul (by omega)]at h2
   ·rw[Nat.add_sub_cancel]
    by_cases e2:n / 256=0
    ·have es2:sizeK k (n / 256)=0:=by rw[e2];cases k<;>simp[sizeK]
     rw[es2];omega
    ·obtain⟨g1,g2⟩:=h3 e2
     obtain⟨j,hj⟩: ∃j,sizeK k (n / 256)=j+1:=⟨sizeK k (n / 256) - 1,by omega⟩
     rw[hj,Nat.add_sub_cancel]at g1
     rw[hj,Nat.pow_succ]
     calc 256^j*256≤n / 256*256:=Nat.mul_le_mul_right _ g1
      _≤n:=Nat.div_mul_le_self _ _
theorem sizeN_spec {n:Nat} (h:n<9223372036854775808):sizeN n≤8∧n<256^sizeN n∧(n≠0→256^(sizeN n - 1)≤n∧1≤sizeN n):=sizeK_spec 8 n (by omega)
theorem sizeN_eq {n k:Nat} (h:n<9223372036854775808) (h1:n<256^k) (h2: ∀j,j<k→256^j≤n):sizeN n=k:=by
 obtain⟨_,s2,s3⟩:=sizeN_spec h
 rcases Nat.lt_trichotomy (sizeN n) k with h4|h4|h4
 ·have:=h2 _ h4
  omega
 ·exact h4
 ·have hn:n≠0:=by
   intro e
   subst e
   simp[sizeN,sizeK]at h4
  have h5:=(s3 hn).1
  have h6:256^k≤256^(sizeN n - 1):=Nat.pow_le_pow_right (by omega) (by omega)
  omega
def numB (n:Nat):List Nat:=putB n (sizeN n)
theorem numB_len (n:Nat):(numB n).length=sizeN n:=length_putB _ _
theorem numB_lt (n:Nat): ∀x∈numB n,x<256:=putB_lt _ _
def valT (b:List Nat):Nat × Nat:=if b.length=0∨7<b.length∨b.getD 0 0=0 then(0,14)else(valB b,0)
theorem valT_ok {b:List Nat} (h1:1≤b.length) (h2:b.length≤7) (h3:b.getD 0 0≠0):valT b=(valB b,0):=by rw[valT,if_neg];omega
theorem valT_bad {b:List Nat} (h:b.length=0∨7<b.length∨b.getD 0 0=0):valT b=(0,14):=by rw[valT,if_pos h]
theorem putB_head (n k:Nat) (h:1≤k):(putB n k).getD 0 0=n / 256^(k - 1) % 256:=by
 obtain⟨j,rfl⟩: ∃j,k=j+1:=⟨k - 1,by omega⟩
 rfl
theorem valT_num {n:Nat} (h:n<9223372036854775808) (h0:n≠0) (h7:sizeN n≤7):valT (numB n)=(n,0):=by
 obtain⟨_,s2,s3⟩:=sizeN_spec h
 obtain⟨s4,s5⟩:=s3 h0
 have hh:(numB n).getD 0 0≠0:=by
  rw[numB,putB_head n _ s5]
  have hd:1≤n / 256^(sizeN n - 1):=(Nat.le_div_iff_mul_le (Nat.pow_pos (by omega))).2 (by omega)
  have hl:n / 256^(sizeN n - 1)<256:=by
   rw[Nat.div_lt_iff_lt_mul (Nat.pow_pos (by omega)),Nat.mul_comm, ←Nat.pow_succ,show(sizeN n - 1).succ=sizeN n by omega]
   exact s2
  omega
 rw[valT_ok (by rw[numB_len];exact s5) (by rw[numB_len];exact h7) hh,numB,valB_putB,Nat.mod_eq_of_lt s2]
theorem putB_valB: ∀(b:List Nat),(∀x∈b,x<256)→ ∀m,putB (m*256^b.length+valB b) b.length=b
 |[],_,_=>rfl
 |x::b,h,m=>by
  have hx:=h x (by simp)
  have hb:=valB_lt b (fun y hy=>h y (by simp[hy]))
  have hi:=putB_valB b (fun y hy=>h y (by simp[hy])) (m*256+x)
  have hp:0<256^b.length:=Nat.pow_pos (by omega)
  have e:m*256^(b.length+1)+(x*256^b.length+valB b)=(m*256+x)*256^b.length+valB b:=by
   rw[Nat.pow_succ,Nat.add_mul,Nat.mul_assoc,Nat.mul_comm 256,Nat.add_assoc]
  rw[List.length_cons,putB,valB_cons,e,hi]
  congr 1
  rw[Nat.add_comm,Nat.add_mul_div_right _ _ hp,Nat.div_eq_of_lt hb,Nat.zero_add]
  omega
theorem num_valT {b:List Nat} {v:Nat} (hb: ∀x∈b,x<256) (h:valT b=(v,0)):0<v∧v<72057594037927936∧numB v=b:=by
 by_cases hc:b.length=0∨7<b.length∨b.getD 0 0=0
 ·rw[valT_bad hc]at h;cases h
 ·rw[valT,if_neg hc]at h
  obtain⟨rfl,_⟩:=Prod.mk.inj h
  have h7:b.length≤7:=by omega
  have hlt:=valB_lt b hb
  have h2:256^b.length≤256^7:=Nat.pow_le_pow_right (by omega) h7
  cases b with
  |nil=>simp at hc
  |cons x b=>
   have hx:1≤x:=by simp at hc;omega
   have hge:256^b.length≤valB (x::b):=by
    rw[valB_cons]
    have:=Nat.mul_le_mul_right (256^b.length) hx
    omega
   have hpos:0<256^b.length:=Nat.pow_pos (by omega)
   have hs:sizeN (valB (x::b))=(x::b).length:=by
    refine sizeN_eq (by omega) hlt fun j hj=> ?_
    rw[List.length_cons]at hj
    exact Nat.le_trans (Nat.pow_le_pow_right (by omega) (by omega)) hge
   refine⟨by omega,by omega, ?_⟩
   have:=putB_valB (x::b) hb 0
   rw[Nat.zero_mul,Nat.zero_add]at this
   rw[numB,hs,this]
end Go.Proofs.YtcnglbliidjnfaaGreatDoor
end
section
namespace Go.Proofs.YtcnglbliidjnfaaGreatDoor
def isN (s:Int):Bool:=decide (0≤s)&&decide (s≤39)
end Go.Proofs.YtcnglbliidjnfaaGreatDoor
end
section
namespace Go.Proofs.YtcnglbliidjnfaaGreatDoor
end Go.Proofs.YtcnglbliidjnfaaGreatDoor
end
section
namespace Go.Proofs.YtcnglbliidjnfaaGreatDoor
structure Tk where
 ser:Int
 kind:Int
 frm:Int
 till:Int
 cls:Int
 card:Int
 seat:Int
 day:Int
 days:Int
 uses:Int
 epoch:Int
def placeB (t:Tk):Bool:=if t.kind=3 then decide (1≤t.frm)&&(decide (t.frm≤t.till)&&decide (t.till≤6))else isN t.frm&&(isN t.till&&(t.frm !=t.till))
def usesB (t:Tk):Bool:=if t.kind=4 then decide (2≤t.uses)&&decide (t.uses≤20)else t.uses==t.kind.tmod 3
def numsB (t:Tk):Bool:=decide (1≤t.ser)&&(decide (t.ser≤1099511627776)&&(decide (1≤t.kind)&&(decide (t.kind≤4)&&(decide (1≤t.cls)&&(decide (t.cls≤2)&&(decide (0≤t.card)&&(decide (t.card≤3)&&(decide (0≤t.seat)&&decide (t.seat≤999)))))))))
def daysB (t:Tk):Bool:=decide (0≤t.day)&&(decide (t.day≤99999)&&(decide (1≤t.days)&&(decide (t.days≤999)&&(decide (t.day+t.days≤100000)&&(decide (0≤t.epoch)&&decide (t.epoch≤9))))))
def okT (t:Tk):Bool:=numsB t&&(daysB t&&(placeB t&&usesB t))
theorem numsB_iff (t:Tk):numsB t=true↔1≤t.ser∧t.ser≤1099511627776∧1≤t.kind∧t.kind≤4∧1≤t.cls∧t.cls≤2∧0≤t.card∧t.card≤3∧0≤t.seat∧t.seat≤999:=by simp[numsB]
theorem daysB_iff (t:Tk):daysB t=true↔0≤t.day∧t.day≤99999∧1≤t.days∧t.days≤999∧t.day+t.days≤100000∧0≤t.epoch∧t.epoch≤9:=by simp[daysB]
theorem okT_iff (t:Tk):okT t=true↔numsB t=true∧daysB t=true∧placeB t=true∧usesB t=true:=by simp[okT]
theorem way_of {t:Tk} (h:okT t=true) (hk:t.kind≠3):isN t.frm=true∧isN t.till=true∧t.frm≠t.till:=by
 have hp:=((okT_iff t).1 h).2.2.1
 rw[placeB,if_neg hk]at hp
 simpa using hp
theorem zones_of {t:Tk} (h:okT t=true) (hk:t.kind=3):1≤t.frm∧t.frm≤t.till∧t.till≤6:=by
 have hp:=((okT_iff t).1 h).2.2.1
 rw[placeB,if_pos hk]at hp
 simpa using hp
theorem uses_of {t:Tk} (h:okT t=true):(t.kind=4→2≤t.uses∧t.uses≤20)∧(t.kind≠4→t.uses=t.kind.tmod 3):=by
 have hu:=((okT_iff t).1 h).2.2.2
 constructor
 ·intro hk
  rw[usesB,if_pos hk]at hu
  simpa using hu
 ·intro hk
  rw[usesB,if_neg hk]at hu
  simpa using hu
end Go.Proofs.YtcnglbliidjnfaaGreatDoor
end
section
namespace Go.Proofs.YtcnglbliidjnfaaGreatDoor
set_option linter.unusedVariables false
structure Rg where
 t:Tk
 key:Int
 left:Int
 inn:Int
 ver:Int
def zeroR:Rg:=⟨⟨0,0,0,0,0,0,0,0,0,0,0⟩,0,0,0,0⟩
end Go.Proofs.YtcnglbliidjnfaaGreatDoor
end
section
namespace Go.Proofs.YtcnglbliidjnfaaGreatDoor
def dn (a b:List Nat):Nat→Nat
 |0=>0
 |k+1=>dn a b k|||(a.getD k 0^^^b.getD k 0)
theorem seal_getD_lt {l:List Nat} (h: ∀x∈l,x<256) (k:Nat):l.getD k 0<256:=by
 rw[List.getD_eq_getElem?_getD]
 rcases Nat.lt_or_ge k l.length with hk|hk
 ·rw[List.getElem?_eq_getElem hk];exact h _ (List.getElem_mem hk)
 ·rw[List.getElem?_eq_none hk];decide
theorem dn_lt {a b:List Nat} (ha: ∀x∈a,x<256) (hb: ∀x∈b,x<256) (k:Nat):dn a b k<256:=by
 induction k with
 |zero=>exact(by decide:0<256)
 |succ k ih=>exact Nat.or_lt_two_pow (n:=8) ih (Nat.xor_lt_two_pow (n:=8) (seal_getD_lt ha k) (seal_getD_lt hb k))
theorem or_zero_iff (a b:Nat):a|||b=0↔a=0∧b=0:=by
 constructor
 ·intro h
  constructor
  ·apply Nat.eq_of_testBit_eq;intro i
   have:=congrArg (fun z=>z.testBit i) h
   simp at this⊢;exact this.1
  ·apply Nat.eq_of_testBit_eq;intro i
   have:=congrArg (fun z=>z.testBit i) h
   simp at this⊢;exact this.2
 ·rintro⟨rfl,rfl⟩;rfl
theorem xor_zero_iff (a b:Nat):a^^^b=0↔a=b:=by
 constructor
 ·intro h
  apply Nat.eq_of_testBit_eq;intro i
  have:=congrArg (fun z=>z.testBit i) h
  simpa using this
 ·rintro rfl;exact Nat.xor_self a
theorem dn_zero_iff (a b:List Nat) (k:Nat):dn a b k=0↔ ∀i,i<k→a.getD i 0=b.getD i 0:=by
 induction k with
 |zero=>simp[dn]
 |succ k ih=>
  rw[dn,or_zero_iff,xor_zero_iff,ih]
  constructor
  ·rintro⟨h1,h2⟩ i hi
   rcases Nat.lt_or_ge i k with h|h
   ·exact h1 i h
   ·have:i=k:=by omega
    subst this;exact h2
  ·intro h
   exact⟨fun i hi=>h i (by omega),h k (by omega)⟩
theorem dn_same (a b:List Nat):((a.length==b.length)&&(dn a b (min a.length b.length)==0))=(a==b):=by
 by_cases hl:a.length=b.length
 ·by_cases h:a=b
  ·subst h
   have h0:dn a a (min a.length a.length)=0:=(dn_zero_iff _ _ _).2 fun _ _=>rfl
   rw[h0]
   simp
  ·have h2:dn a b (min a.length b.length)≠0:=by
    intro h0
    apply h
    have:=(dn_zero_iff _ _ _).1 h0
    apply List.ext_getElem hl
    intro i h1 h2
    have h3:=this i (by omega)
    rwa[List.getD_eq_getElem?_getD,List.getD_eq_getElem?_getD,List.getElem?_eq_getElem h1,List.getElem?_eq_getElem h2]at h3
   have e1:(a==b)=false:=by simpa using h
   have e2:(dn a b (min a.length b.length)==0)=false:=by simpa using h2
   rw[e1,e2,Bool.and_false]
 ·have e1:(a==b)=false:=by simp;rintro rfl;exact hl rfl
  have e2:(a.length==b.length)=false:=by simpa using hl
  rw[e1,e2,Bool.false_and]
end Go.Proofs.YtcnglbliidjnfaaGreatDoor
end
