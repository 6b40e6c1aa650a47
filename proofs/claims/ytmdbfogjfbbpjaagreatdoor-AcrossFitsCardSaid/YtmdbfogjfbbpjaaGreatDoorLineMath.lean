import Derived.KernelRfl
set_option linter.unusedVariables false
namespace Go.Proofs.YtmdbfogjfbbpjaaGreatDoor
def isN (s:Int):Bool:=decide (0≤s)&&decide (s≤39)
def zn (s:Int):Int:=if s<20 then 1+(20 - s) / 4 else 1+(s - 20) / 4

structure Tk where
 ser:Int
 kind:Int
 frm:Int
 till:Int
 cls:Int
 card:Int
 seat:Int
 day:Int
 days:Int
 uses:Int
 epoch:Int
def Dt (t:Tk):Bool:=if t.kind=3 then decide (1≤t.frm)&&(decide (t.frm≤t.till)&&decide (t.till≤6))else isN t.frm&&(isN t.till&&(t.frm !=t.till))
def Fr (t:Tk):Bool:=if t.kind=4 then decide (2≤t.uses)&&decide (t.uses≤20)else t.uses==t.kind.tmod 3
def lQ (t:Tk):Bool:=decide (1≤t.ser)&&(decide (t.ser≤1099511627776)&&(decide (1≤t.kind)&&(decide (t.kind≤4)&&(decide (1≤t.cls)&&(decide (t.cls≤2)&&(decide (0≤t.card)&&(decide (t.card≤3)&&(decide (0≤t.seat)&&decide (t.seat≤999)))))))))
def lR (t:Tk):Bool:=decide (0≤t.day)&&(decide (t.day≤99999)&&(decide (1≤t.days)&&(decide (t.days≤999)&&(decide (t.day+t.days≤100000)&&(decide (0≤t.epoch)&&decide (t.epoch≤9))))))
def okT (t:Tk):Bool:=lQ t&&(lR t&&(Dt t&&Fr t))
theorem Dc (t:Tk):lQ t=true↔1≤t.ser∧t.ser≤1099511627776∧1≤t.kind∧t.kind≤4∧1≤t.cls∧t.cls≤2∧0≤t.card∧t.card≤3∧0≤t.seat∧t.seat≤999:=by simp[lQ]
theorem Ir (t:Tk):lR t=true↔0≤t.day∧t.day≤99999∧1≤t.days∧t.days≤999∧t.day+t.days≤100000∧0≤t.epoch∧t.epoch≤9:=by simp[lR]
theorem Dm (t:Tk):okT t=true↔lQ t=true∧lR t=true∧Dt t=true∧Fr t=true:=by simp[okT]
theorem Afu {t:Tk} (h:okT t=true) (hk:t.kind≠3):isN t.frm=true∧isN t.till=true∧t.frm≠t.till:=by
 have hp:=((Dm t).1 h).2.2.1
 rw[Dt,if_neg hk]at hp
 simpa using hp
theorem AbJ {t:Tk} (h:okT t=true) (hk:t.kind=3):1≤t.frm∧t.frm≤t.till∧t.till≤6:=by
 have hp:=((Dm t).1 h).2.2.1
 rw[Dt,if_pos hk]at hp
 simpa using hp
theorem fT {t:Tk} (h:okT t=true):(t.kind=4→2≤t.uses∧t.uses≤20)∧(t.kind≠4→t.uses=t.kind.tmod 3):=by
 have hu:=((Dm t).1 h).2.2.2
 constructor
 ·intro hk
  rw[Fr,if_pos hk]at hu
  simpa using hu
 ·intro hk
  rw[Fr,if_neg hk]at hu
  simpa using hu
structure Rg where
 t:Tk
 key:Int
 left:Int
 inn:Int
 ver:Int
def Ah:Rg:=⟨⟨0,0,0,0,0,0,0,0,0,0,0⟩,0,0,0,0⟩
def stp (x:Nat):Nat:=x / 2+x % 2*2147483648
def itr:Nat→Nat→Nat
 |0,x=>x
 |k+1,x=>stp (itr k x)
def qC (x k:Nat):Nat:=x / 2^k+x % 2^k*2^(32 - k)
theorem Afv {x:Nat} (h:x<4294967296):stp x<4294967296:=by unfold stp;omega
theorem Fc (k:Nat) {x:Nat} (h:x<4294967296):itr k x<4294967296:=by
 induction k with
 |zero=>exact h
 |succ k ih=>exact Afv ih
theorem xL (x k:Nat) (hk:k<32):qC x (k+1)=stp (qC x k):=by
 have e1:2^(32 - k)=2*2^(32 - (k+1)):=by rw[show 32 - k=(32 - (k+1))+1 by omega,Nat.pow_succ];omega
 have e2:x / 2^(k+1)=x / 2^k / 2:=by rw[Nat.pow_succ,Nat.div_div_eq_div_mul]
 have e3:x % 2^(k+1)=x % 2^k+2^k*(x / 2^k % 2):=by rw[Nat.pow_succ,Nat.mod_mul]
 have e4:2^k*2^(32 - (k+1))=2147483648:=by rw[←Nat.pow_add,show k+(32 - (k+1))=31 by omega]
 unfold qC stp
 rw[e1,e2,e3,Nat.add_mul,Nat.mul_assoc,Nat.mul_comm (x / 2^k % 2), ←Nat.mul_assoc,e4]
 have e5:x % 2^k*(2*2^(32 - (k+1)))=2*(x % 2^k*2^(32 - (k+1))):=by rw[Nat.mul_left_comm]
 rw[e5]
 generalize x % 2^k*2^(32 - (k+1))=p
 generalize x / 2^k=q
 omega
theorem xM (x:Nat):qC x 0=x:=by unfold qC;simp[Nat.mod_one]
theorem Afw (x k:Nat) (hk:k≤32):itr k x=qC x k:=by
 induction k with
 |zero=>exact(xM x).symm
 |succ k ih=>rw[xL x k (by omega), ←ih (by omega)];rfl
theorem Afx (x k:Nat) (hx:x<4294967296) (hk:k<32):x / 2^k|||x*2^(32 - k) % 4294967296=itr k x:=by
 have e:(4294967296:Nat)=2^k*2^(32 - k):=by rw[←Nat.pow_add,show k+(32 - k)=32 by omega]
 have hlt:x / 2^k<2^(32 - k):=by
  rw[Nat.div_lt_iff_lt_mul (Nat.two_pow_pos k),Nat.mul_comm, ←e];exact hx
 rw[Afw x k (by omega),e,Nat.mul_mod_mul_right,Nat.or_comm,Nat.mul_comm, ←Nat.two_pow_add_eq_or_of_lt hlt]
 unfold qC
 rw[Nat.mul_comm (x % 2^k),Nat.add_comm]
def valB (l:List Nat):Nat:=l.foldl (fun a b=>a*256+b) 0
theorem Ob (l:List Nat) (x:Nat):valB (l++ [x])=valB l*256+x:=by simp[valB]
theorem lS (l:List Nat) (a:Nat):l.foldl (fun a b=>a*256+b) a=a*256^l.length+valB l:=by
 induction l generalizing a with
 |nil=>simp[valB]
 |cons x l ih=>
  rw[List.foldl_cons,ih]
  have e:valB (x::l)=x*256^l.length+valB l:=by
   show List.foldl _ _ _=_
   rw[List.foldl_cons,ih];simp
  rw[e,List.length_cons,Nat.pow_succ,Nat.add_mul,Nat.mul_assoc,Nat.mul_comm 256,Nat.add_assoc]
theorem Kv (x:Nat) (l:List Nat):valB (x::l)=x*256^l.length+valB l:=by
 show List.foldl _ _ _=_
 rw[List.foldl_cons,lS];simp
theorem Gx (l:List Nat) (h: ∀x∈l,x<256):valB l<256^l.length:=by
 induction l with
 |nil=>simp[valB]
 |cons x l ih=>
  have h1:=ih (fun y hy=>h y (by simp[hy]))
  have h2:=h x (by simp)
  rw[Kv,List.length_cons,Nat.pow_succ]
  have h3:x*256^l.length≤255*256^l.length:=Nat.mul_le_mul_right _ (by omega)
  omega
def Cz (l:List Nat) (i j:Nat):Nat:=valB (((l.take i).drop (4*j)).take 4)
def Ax (l:List Nat) (m i:Nat):List Nat:=(List.range m).map (Cz l i)
theorem lT (l:List Nat) (i:Nat) (hi:i<l.length):Cz l (i+1) (i / 4)=Cz l i (i / 4)*256+l[i]:=by
 unfold Cz
 rw[List.take_succ_eq_append_getElem hi,List.drop_append_of_le_length (by simp;omega),List.take_of_length_le (by simp;omega),List.take_of_length_le (l:=(l.take i).drop (4*(i / 4))) (by simp;omega),Ob]
theorem fU (l:List Nat) (i j:Nat) (hi:i<l.length) (hj:j≠i / 4):Cz l (i+1) j=Cz l i j:=by
 unfold Cz
 rw[List.take_succ_eq_append_getElem hi]
 by_cases h:j<i / 4
 ·rw[List.drop_append_of_le_length (by simp;omega),List.take_append_of_le_length (by simp;omega)]
 ·rw[List.drop_eq_nil_of_le (by simp;omega),List.drop_eq_nil_of_le (by simp;omega)]
theorem Zm (l:List Nat) (m i:Nat) (hi:i<l.length):(Ax l m i).set (i / 4) (Cz l i (i / 4)*256+l[i])=Ax l m (i+1):=by
 apply List.ext_getElem
 ·simp[Ax]
 ·intro j h1 h2
  rw[List.getElem_set]
  simp only[Ax,List.getElem_map,List.getElem_range]
  split
  ·next h=>subst h;rw[lT l i hi]
  ·next h=>rw[fU l i j hi (by omega)]
theorem lU {l:List Nat} {i a b x:Nat} (h:x∈((l.take i).drop a).take b):x∈l:=List.mem_of_mem_take (List.mem_of_mem_drop (List.mem_of_mem_take h))
theorem xN (l:List Nat) (hl: ∀x∈l,x<256) (i j:Nat):Cz l i j<4294967296:=by
 have h:=Gx (((l.take i).drop (4*j)).take 4) (fun x hx=>hl x (lU hx))
 have h2:256^(((l.take i).drop (4*j)).take 4).length≤256^4:=Nat.pow_le_pow_right (by omega) (by simp;omega)
 unfold Cz
 omega
theorem lV (l:List Nat) (hl: ∀x∈l,x<256) (i:Nat):Cz l i (i / 4)<16777216:=by
 have h:=Gx (((l.take i).drop (4*(i / 4))).take 4) (fun x hx=>hl x (lU hx))
 have h2:256^(((l.take i).drop (4*(i / 4))).take 4).length≤256^3:=Nat.pow_le_pow_right (by omega) (by simp;omega)
 unfold Cz
 omega
theorem lW (l:List Nat) (j:Nat):Cz l 0 j=0:=by simp[Cz,valB]
theorem Xw (l:List Nat) (m:Nat):Ax l m 0=List.replicate m 0:=by
 apply List.ext_getElem
 ·simp[Ax]
 ·intro j h1 h2
  simp[Ax,lW]
theorem Zn (l:List Nat) (m i j:Nat) (h:j<m):(Ax l m i)[j]?=some (Cz l i j):=by simp[Ax,h]
def wordsOf (l:List Nat):List Nat:=Ax l (l.length / 4) l.length
theorem Ji (l:List Nat):(wordsOf l).length=l.length / 4:=by simp[wordsOf,Ax]
theorem Xx (l:List Nat) (hl: ∀x∈l,x<256): ∀x∈wordsOf l,x<4294967296:=by
 intro x hx
 simp only[wordsOf,Ax,List.mem_map]at hx
 obtain⟨j,_,rfl⟩:=hx
 exact xN l hl _ _
theorem Xy (l:List Nat) (k i:Nat):Ax l (k+1) i=Ax l k i++ [Cz l i k]:=by simp[Ax,List.range_succ]
def byteAt (ws:List Nat) (i:Nat):Nat:=ws.getD (i / 4) 0 / 2^(8*(3 - i % 4)) % 256
def Ce (ws:List Nat) (m i:Nat):List Nat:=(List.range m).map fun t=>if t<i then byteAt ws t else 0
def bytesOf (ws:List Nat):List Nat:=(List.range (4*ws.length)).map (byteAt ws)
theorem Fd (ws:List Nat):(bytesOf ws).length=4*ws.length:=by simp[bytesOf]
theorem xO (ws:List Nat) (i:Nat):byteAt ws i<256:=Nat.mod_lt _ (by omega)
theorem qE (ws:List Nat): ∀x∈bytesOf ws,x<256:=by
 intro x hx
 simp only[bytesOf,List.mem_map]at hx
 obtain⟨j,_,rfl⟩:=hx
 exact xO ws j
theorem Xz (ws:List Nat) (m:Nat):Ce ws m 0=List.replicate m 0:=by
 apply List.ext_getElem<;>simp[Ce]
theorem Zo (ws:List Nat) (m i:Nat):(Ce ws m i).set i (byteAt ws i)=Ce ws m (i+1):=by
 apply List.ext_getElem
 ·simp[Ce]
 ·intro j h1 h2
  rw[List.getElem_set]
  simp only[Ce,List.getElem_map,List.getElem_range]
  split
  ·next h=>subst h;simp
  ·next h=>
   by_cases h3:j<i
   ·rw[if_pos h3,if_pos (by omega)]
   ·rw[if_neg h3,if_neg (by omega)]
theorem Zp (ws:List Nat):Ce ws (4*ws.length) (4*ws.length)=bytesOf ws:=by
 apply List.ext_getElem
 ·simp[Ce,bytesOf]
 ·intro j h1 h2
  rw[Fd]at h2
  simp[Ce,bytesOf,h2]
def Io (ws:List Nat) (k:Nat):List Nat:=(List.range (4*k)).map (byteAt ws)
theorem fV (ws:List Nat) (k:Nat) (hk:k<ws.length) (hw: ∀x∈ws,x<4294967296):
  Io ws (k+1)=Io ws k++ [ws[k] / 16777216,ws[k] / 65536 % 256,ws[k] / 256 % 256,ws[k] % 256]:=by
 have hx:=hw ws[k] (List.getElem_mem hk)
 unfold Io
 rw[show 4*(k+1)=4*k+1+1+1+1 by omega]
 simp only[List.range_succ,List.map_append,List.map_cons,List.map_nil,List.append_assoc,List.cons_append,List.nil_append]
 have d0:4*k / 4=k:=by omega
 have d1:(4*k+1) / 4=k:=by omega
 have d2:(4*k+1+1) / 4=k:=by omega
 have d3:(4*k+1+1+1) / 4=k:=by omega
 have m0:4*k % 4=0:=by omega
 have m1:(4*k+1) % 4=1:=by omega
 have m2:(4*k+1+1) % 4=2:=by omega
 have m3:(4*k+1+1+1) % 4=3:=by omega
 have g:ws.getD k 0=ws[k]:=by simp[hk]
 simp only[byteAt,d0,d1,d2,d3,m0,m1,m2,m3,g]
 congr 1
 simp only[Nat.reduceSub,Nat.reduceMul,Nat.reducePow,Nat.div_one,List.cons.injEq,and_true]
 omega
def putB (n:Nat):Nat→List Nat
 |0=>[]
 |k+1=>n / 256^k % 256::putB n k
theorem De (n k:Nat):(putB n k).length=k:=by
 induction k with
 |zero=>rfl
 |succ k ih=>simp[putB,ih]
theorem sW (n k:Nat): ∀x∈putB n k,x<256:=by
 induction k with
 |zero=>intro x hx;simp[putB]at hx
 |succ k ih=>
  intro x hx
  rcases List.mem_cons.1 hx with rfl|hx
  ·exact Nat.mod_lt _ (by omega)
  ·exact ih x hx
theorem AbK (n k i:Nat) (h:i<k):(putB n k)[i]?=some (n / 256^(k - 1 - i) % 256):=by
 induction k generalizing i with
 |zero=>omega
 |succ k ih=>
  match i with
  |0=>simp[putB]
  |i+1=>
   rw[putB,List.getElem?_cons_succ,ih i (by omega),show k+1 - 1 - (i+1)=k - 1 - i by omega]
def Eb (n m i:Nat):List Nat:=(List.range m).map fun t=>if t<i then n / 256^(m - 1 - t) % 256 else 0
theorem fW (n m:Nat):Eb n m 0=List.replicate m 0:=by
 apply List.ext_getElem<;>simp[Eb]
theorem lX (n m i:Nat):(Eb n m i).set i (n / 256^(m - 1 - i) % 256)=Eb n m (i+1):=by
 apply List.ext_getElem
 ·simp[Eb]
 ·intro j h1 h2
  rw[List.getElem_set]
  simp only[Eb,List.getElem_map,List.getElem_range]
  split
  ·next h=>subst h;simp
  ·next h=>
   by_cases h3:j<i
   ·rw[if_pos h3,if_pos (by omega)]
   ·rw[if_neg h3,if_neg (by omega)]
theorem lY (n m:Nat):Eb n m m=putB n m:=by
 apply List.ext_getElem?
 intro j
 by_cases h:j<m
 ·rw[AbK n m j h];simp[Eb,h]
 ·rw[List.getElem?_eq_none (by simp[Eb];omega),List.getElem?_eq_none (by rw[De];omega)]
theorem xP (n k:Nat):valB (putB n k)=n % 256^k:=by
 induction k with
 |zero=>simp[putB,valB,Nat.mod_one]
 |succ k ih=>rw[putB,Kv,De,ih,Nat.pow_succ,Nat.mod_mul,Nat.mul_comm,Nat.add_comm]
def dg (n:Nat):Nat→List Nat
 |0=>[]
 |k+1=>n / 10^k % 10::dg n k
theorem Lz (n:Nat): ∀k,(dg n k).length=k
 |0=>rfl
 |k+1=>by rw[dg,List.length_cons,Lz n k]
theorem bV (n:Nat): ∀k, ∀x∈dg n k,x≤9
 |0,x,h=>by simp[dg]at h
 |k+1,x,h=>by
  rw[dg,List.mem_cons]at h
  rcases h with rfl|h
  ·have:=Nat.mod_lt (n / 10^k) (show 0<10 by omega);omega
  ·exact bV n k x h
theorem fX (n:Nat): ∀k,dg n (k+1)=dg (n / 10) k++ [n % 10]
 |0=>by simp[dg]
 |k+1=>by
  rw[dg,fX n k,dg,List.cons_append]
  congr 2
  rw[Nat.pow_succ,Nat.mul_comm,Nat.div_div_eq_div_mul]
def Rv (n w k:Nat):List Nat:=List.replicate (w - k) 0++dg n k
theorem AbL (n w k:Nat) (h:k≤w):(Rv n w k).length=w:=by rw[Rv,List.length_append,List.length_replicate,Lz];omega
theorem xQ (n w:Nat):Rv n w 0=List.replicate w 0:=by simp[Rv,dg]
theorem AbM (n w:Nat):Rv n w w=dg n w:=by simp[Rv]
theorem AbN (n w k:Nat) (h:k<w):(Rv n w k).set (w - 1 - k) (n / 10^k % 10)=Rv n w (k+1):=by
 obtain⟨m,hm⟩: ∃m,m=w - 1 - k:=⟨_,rfl⟩
 rw[Rv,Rv,show w - k=m+1 by omega,show w - (k+1)=m by omega, ←hm,dg,List.replicate_succ',List.append_assoc,List.set_append_right _ _ (by simp)]
 simp
def Ti (l:List Nat):Nat:=l.foldl (fun a x=>10*a+x) 0
theorem Tj (l:List Nat) (x:Nat):Ti (l++ [x])=10*Ti l+x:=by simp[Ti]
theorem sX: ∀(n:Nat) (l:List Nat),l.length=n→(∀x∈l,x≤9)→Ti l<10^n
 |0,l,h,_=>by
  obtain rfl:=List.eq_nil_of_length_eq_zero h
  decide
 |n+1,l,h,h9=>by
  rcases List.eq_nil_or_concat l with rfl|⟨c,x,rfl⟩
  ·simp at h
  ·rw[List.concat_eq_append]at h9⊢
   have:=sX n c (by simpa using h) (fun y hy=>h9 y (by simp[hy]))
   have:=h9 x (by simp)
   rw[Tj,Nat.pow_succ];omega
theorem sY: ∀(k n:Nat),Ti (dg n k)=n % 10^k
 |0,n=>by simp[dg,Ti,Nat.mod_one]
 |k+1,n=>by
  rw[fX,Tj,sY k (n / 10),Nat.pow_succ,Nat.mul_comm (10^k) 10,Nat.mod_mul];omega
theorem sZ: ∀(k:Nat) (l:List Nat),l.length=k→(∀x∈l,x≤9)→dg (Ti l) k=l
 |0,l,h,_=>by rw[List.eq_nil_of_length_eq_zero h];rfl
 |k+1,l,h,h9=>by
  rcases List.eq_nil_or_concat l with rfl|⟨c,x,rfl⟩
  ·simp at h
  ·rw[List.concat_eq_append]at h9⊢
   have hx:=h9 x (by simp)
   have e1:(10*Ti c+x) / 10=Ti c:=by omega
   have e2:(10*Ti c+x) % 10=x:=by omega
   rw[fX,Tj,e1,e2,sZ k c (by simpa using h) (fun y hy=>h9 y (by simp[hy]))]
theorem bW (k:Nat):0<10^k:=Nat.pow_pos (by omega)
def Ch (n w:Int):Int:=if n<0∨w<0∨18<w then 1 else if 10^w.toNat≤n.toNat then 23 else 0
def bputL (n w:Int):List Nat:=if Ch n w=0 then dg n.toNat w.toNat else []
theorem Ya {n w:Int} (h:n<0∨w<0∨18<w):Ch n w=1∧bputL n w=[]:=by
 have h1:Ch n w=1:=by rw[Ch,if_pos h]
 exact⟨h1,by rw[bputL,h1,if_neg (by decide)]⟩
theorem bX {n w:Nat} (h:w≤18) (h2:10^w≤n):Ch n w=23∧bputL n w=[]:=by
 have h1:Ch n w=23:=by rw[Ch,if_neg (by omega),if_pos (by simpa using h2)]
 exact⟨h1,by rw[bputL,h1,if_neg (by decide)]⟩
theorem fY {n w:Nat} (h:w≤18) (h2:n<10^w):Ch n w=0∧bputL n w=dg n w:=by
 have h1:Ch n w=0:=by rw[Ch,if_neg (by omega),if_neg (by simpa using h2)]
 exact⟨h1,by rw[bputL,h1,if_pos rfl];simp⟩
theorem Kw {n w:Int} (h:Ch n w=0): ∃N W:Nat,n=N∧w=W∧W≤18∧N<10^W∧bputL n w=dg N W:=by
 by_cases h1:n<0∨w<0∨18<w
 ·rw[(Ya h1).1]at h;cases h
 ·by_cases h2:10^w.toNat≤n.toNat
  ·rw[Ch,if_neg h1,if_pos h2]at h;cases h
  ·exact⟨n.toNat,w.toNat,by omega,by omega,by omega,by omega,by rw[bputL,h,if_pos rfl]⟩
theorem qG (n w:Int): ∀x∈bputL n w,x≤9:=by
 intro x hx
 rw[bputL]at hx
 split at hx
 ·exact bV _ _ x hx
 ·simp at hx
theorem AbO {n w:Int} (h:Ch n w=0):((bputL n w).length:Int)=w:=by
 obtain⟨N,W,rfl,rfl,_,_,h1⟩:=Kw h
 rw[h1,Lz]
theorem qH (n w:Int):(bputL n w).length≤18:=by
 by_cases h:Ch n w=0
 ·obtain⟨N,W,rfl,rfl,hW,_,h1⟩:=Kw h
  rw[h1,Lz];exact hW
 ·rw[bputL,if_neg h];simp
def Kx:List Nat→Nat→Int × Nat
 |[],a=>(0,a)
 |x::l,a=>if 9<x then(7,0)else Kx l (10*a+x)
def Bt (l:List Nat):Int × Nat:=if 18<l.length then(1,0)else Kx l 0
theorem tA: ∀(l:List Nat) (a:Nat),(∀x∈l,x≤9)→Kx l a=(0,l.foldl (fun a x=>10*a+x) a)
 |[],a,_=>rfl
 |x::l,a,h=>by
  have:=h x (by simp)
  rw[Kx,if_neg (by omega),tA l _ (fun y hy=>h y (by simp[hy]))];rfl
theorem lZ: ∀(l:List Nat) (a x:Nat),x∈l→9<x→Kx l a=(7,0)
 |[],a,x,h,_=>by simp at h
 |y::l,a,x,h,hx=>by
  rw[Kx]
  by_cases hy:9<y
  ·rw[if_pos hy]
  ·rw[if_neg hy]
   rw[List.mem_cons]at h
   rcases h with rfl|h
   ·exact(hy hx).elim
   ·exact lZ l _ x h hx
theorem tB {l:List Nat} (h:l.length≤18) (h9: ∀x∈l,x≤9):Bt l=(0,Ti l):=by rw[Bt,if_neg (by omega),tA l 0 h9];rfl
theorem xR {l:List Nat} (h:(Bt l).1=0):l.length≤18∧(∀x∈l,x≤9)∧(Bt l).2=Ti l:=by
 by_cases h18:18<l.length
 ·rw[Bt,if_pos h18]at h;cases h
 ·by_cases h9: ∃x∈l,9<x
  ·obtain⟨x,hx,hx9⟩:=h9
   rw[Bt,if_neg h18,lZ l 0 x hx hx9]at h;cases h
  ·have h9': ∀x∈l,x≤9:=fun x hx=>Nat.le_of_not_lt (fun hh=>h9 ⟨x,hx,hh⟩)
   exact⟨by omega,h9',by rw[tB (by omega) h9']⟩
theorem AbP {n w:Int} (h:Ch n w=0):Bt (bputL n w)=(0,n.toNat):=by
 obtain⟨N,W,rfl,rfl,hW,hN,h1⟩:=Kw h
 rw[h1,tB (by rw[Lz];exact hW) (bV _ _),sY,Nat.mod_eq_of_lt hN];simp
theorem AbQ {l:List Nat} (h:(Bt l).1=0):Ch ((Bt l).2:Nat) (l.length:Nat)=0∧bputL ((Bt l).2:Nat) (l.length:Nat)=l:=by
 obtain⟨h1,h2,h3⟩:=xR h
 have h4:=fY (n:=Ti l) (w:=l.length) h1 (sX _ l rfl h2)
 rw[h3]
 exact⟨h4.1,by rw[h4.2,sZ _ l rfl h2]⟩
def joinR:List Int→List Int→List Nat→Int × List Nat
 |[],_,out=>(0,out)
 |v::vs,ws,out=>if Ch v (ws.headD 0)=0 then joinR vs ws.tail (out++bputL v (ws.headD 0))else(Ch v (ws.headD 0),[])
def joinX (vs ws:List Int):Int × List Nat:=if vs.length≠ws.length∨20<vs.length then(1,[])else joinR vs ws []
def Nb:List Int→Int→Int × Int
 |[],s=>(s,0)
 |w::ws,s=>if 0≤w∧w≤18 then Nb ws (s+w)else(0,1)
def Hp (ws:List Int):Int × Int:=if 20<ws.length then(0,1)else Nb ws 0
def Fe:List Nat→List Int→List (List Nat)
 |_,[]=>[]
 |l,w::ws=>l.take w.toNat::Fe (l.drop w.toNat) ws
def Df:List (List Nat)→List Int→Int × List Int
 |[],out=>(0,out)
 |p::ps,out=>if(Bt p).1=0 then Df ps (out++ [(((Bt p).2:Nat):Int)])else((Bt p).1,[])
def Bq (l:List Nat) (ws:List Int):Int × List Int:=if(Hp ws).2≠0 then((Hp ws).2,[])else if(l.length:Int)≠(Hp ws).1 then(14,[])else Df (Fe l ws) []
theorem tC: ∀(ws:List Int) (s:Int),(Nb ws s).2=0→(∀w∈ws,0≤w∧w≤18)∧(Nb ws s).1=s+ws.sum
 |[],s,_=>⟨by simp,by simp[Nb]⟩
 |w::ws,s,h=>by
  rw[Nb]at h⊢
  split at h
  ·rename_i hw
   rw[if_pos hw]
   obtain⟨h1,h2⟩:=tC ws (s+w) h
   refine⟨fun x hx=> ?_,by rw[h2,List.sum_cons];omega⟩
   rw[List.mem_cons]at hx
   rcases hx with rfl|hx
   ·exact hw
   ·exact h1 x hx
  ·cases h
theorem mA: ∀(ws:List Int) (s:Int),(∀w∈ws,0≤w∧w≤18)→Nb ws s=(s+ws.sum,0)
 |[],s,_=>by simp[Nb]
 |w::ws,s,h=>by
  rw[Nb,if_pos (h w (by simp)),mA ws _ (fun x hx=>h x (by simp[hx])),List.sum_cons]
  congr 1;omega
theorem Vl {ws:List Int} (h:(Hp ws).2=0):ws.length≤20∧(∀w∈ws,0≤w∧w≤18)∧(Hp ws).1=ws.sum:=by
 rw[Hp]at h⊢
 split
 ·rename_i h20;rw[if_pos h20]at h;cases h
 ·rename_i h20
  rw[if_neg h20]at h
  obtain⟨h1,h2⟩:=tC ws 0 h
  exact⟨by omega,h1,by rw[h2];omega⟩
theorem Oc: ∀(ws:List Int),(∀w∈ws,0≤w∧w≤18)→0≤ws.sum∧ws.sum≤18*ws.length
 |[],_=>by simp
 |w::ws,h=>by
  have:=Oc ws (fun x hx=>h x (by simp[hx]))
  have:=h w (by simp)
  rw[List.sum_cons,List.length_cons];omega
theorem Yb: ∀(vs ws:List Int) (out:List Nat),vs.length=ws.length→(joinR vs ws out).1=0→
  (∀w∈ws,0≤w∧w≤18)∧ ∃t,(joinR vs ws out).2=out++t∧(t.length:Int)=ws.sum∧ ∀o,Df (Fe t ws) o=(0,o++vs)
 |[],ws,out,hl,_=>by
  obtain rfl:=List.eq_nil_of_length_eq_zero hl.symm
  exact⟨by simp,[],by simp[joinR],by simp,by simp[Fe,Df]⟩
 |v::vs,[],out,hl,_=>by simp at hl
 |v::vs,w::ws,out,hl,h=>by
  rw[joinR,List.headD_cons,List.tail_cons]at h⊢
  split at h
  ·rename_i h0
   rw[if_pos h0]
   obtain⟨h1,t,h2,h3,h4⟩:=Yb vs ws _ (by simpa using hl) h
   have hlen:=AbO h0
   obtain⟨N,W,rfl,rfl,hW,hN,_⟩:=Kw h0
   refine⟨fun x hx=> ?_,bputL N W++t,by rw[h2,List.append_assoc],by rw[List.length_append,List.sum_cons];omega,fun o=> ?_⟩
   ·rw[List.mem_cons]at hx
    rcases hx with rfl|hx
    ·omega
    ·exact h1 x hx
   ·have hl2:(bputL N W).length=W:=by omega
    have e1:(bputL N W++t).take (W:Int).toNat=bputL N W:=by rw[Int.toNat_natCast];exact List.take_left' hl2
    have e2:(bputL N W++t).drop (W:Int).toNat=t:=by rw[Int.toNat_natCast];exact List.drop_left' hl2
    rw[Fe,e1,e2,Df,AbP h0,if_pos rfl,h4]
    simp
  ·rename_i h0;exact(h0 h).elim
theorem qI {vs ws:List Int} (h:(joinX vs ws).1=0):Bq (joinX vs ws).2 ws=(0,vs):=by
 rw[joinX]at h⊢
 split
 ·rename_i h1;rw[if_pos h1]at h;cases h
 ·rename_i h1
  rw[if_neg h1]at h
  have hl:vs.length=ws.length:=by omega
  obtain⟨h2,t,h3,h4,h5⟩:=Yb vs ws [] hl h
  have ht:Hp ws=(ws.sum,0):=by rw[Hp,if_neg (by omega),mA ws 0 h2];congr 1;omega
  rw[Bq,ht,if_neg (by simp),h3,List.nil_append,if_neg (by simpa using h4),h5 []];rfl
theorem Yc: ∀(ws:List Int) (l:List Nat) (o:List Int) (out:List Nat),(∀w∈ws,0≤w∧w≤18)→(l.length:Int)=ws.sum→(Df (Fe l ws) o).1=0→
  ∃vs,(Df (Fe l ws) o).2=o++vs∧vs.length=ws.length∧joinR vs ws out=(0,out++l)
 |[],l,o,out,_,hl,_=>by
  have:l=[]:=List.eq_nil_of_length_eq_zero (by simpa using hl)
  subst this
  exact⟨[],by simp[Fe,Df],rfl,by simp[joinR]⟩
 |w::ws,l,o,out,hw,hl,h=>by
  rw[Fe,Df]at h⊢
  split at h
  ·rename_i h0
   rw[if_pos h0]
   have hw0:=hw w (by simp)
   have hs:=Oc ws (fun x hx=>hw x (by simp[hx]))
   rw[List.sum_cons]at hl
   have hlt:(l.take w.toNat).length=w.toNat:=by rw[List.length_take];omega
   obtain⟨vs,h1,h2,h3⟩:=Yc ws (l.drop w.toNat) _ (out++l.take w.toNat) (fun x hx=>hw x (by simp[hx])) (by rw[List.length_drop];omega) h
   obtain⟨h4,h5⟩:=AbQ h0
   have e:((l.take w.toNat).length:Int)=w:=by omega
   rw[e]at h4 h5
   refine⟨((Bt (l.take w.toNat)).2:Nat)::vs,by rw[h1,List.append_assoc];rfl,by rw[List.length_cons,List.length_cons,h2], ?_⟩
   rw[joinR,List.headD_cons,List.tail_cons,if_pos h4,h5,h3,List.append_assoc,List.take_append_drop]
  ·rename_i h0;exact(h0 h).elim
theorem qJ {l:List Nat} {ws:List Int} (h:(Bq l ws).1=0):joinX (Bq l ws).2 ws=(0,l):=by
 rw[Bq]at h⊢
 split
 ·rename_i h1;rw[if_pos h1]at h;exact(h1 h).elim
 ·rename_i h1
  rw[if_neg h1]at h
  split
  ·rename_i h2;rw[if_pos h2]at h;cases h
  ·rename_i h2
   rw[if_neg h2]at h
   obtain⟨h3,h4,h5⟩:=Vl (ws:=ws) (by simpa using h1)
   obtain⟨vs,h6,h7,h8⟩:=Yc ws l [] [] h4 (by rw[←h5];omega) h
   rw[h6,List.nil_append,joinX,if_neg (by omega),h8];rfl
theorem bY: ∀(ps:List (List Nat)) (o:List Int),(Df ps o).1≠0→(Df ps o).2=[]
 |[],o,h=>(h rfl).elim
 |p::ps,o,h=>by
  rw[Df]at h⊢
  split
  ·rename_i h0;rw[if_pos h0]at h;exact bY ps _ h
  ·rfl
theorem xS {l:List Nat} {ws:List Int} (h:(Bq l ws).1≠0):(Bq l ws).2=[]:=by
 rw[Bq]at h⊢
 split
 ·rfl
 ·rename_i h1
  rw[if_neg h1]at h
  split
  ·rfl
  ·rename_i h2;rw[if_neg h2]at h;exact bY _ _ h
theorem bZ: ∀(vs ws:List Int) (o:List Nat),(joinR vs ws o).2.length≤o.length+18*vs.length∧((∀x∈o,x≤9)→ ∀x∈(joinR vs ws o).2,x≤9)
 |[],ws,o=>by simp[joinR]
 |v::vs,ws,o=>by
  rw[joinR]
  split
  ·obtain⟨h1,h2⟩:=bZ vs ws.tail (o++bputL v (ws.headD 0))
   have:=qH v (ws.headD 0)
   refine⟨Nat.le_trans h1 (by rw[List.length_append,List.length_cons];omega),fun ho=>h2 (fun x hx=> ?_)⟩
   rw[List.mem_append]at hx
   rcases hx with hx|hx
   ·exact ho x hx
   ·exact qG _ _ x hx
  ·simp
theorem AbR (vs ws:List Int):(joinX vs ws).2.length≤360∧ ∀x∈(joinX vs ws).2,x≤9:=by
 rw[joinX]
 split
 ·simp
 ·rename_i h
  obtain⟨h1,h2⟩:=bZ vs ws []
  exact⟨Nat.le_trans h1 (by simp;omega),h2 (by simp)⟩
theorem cB {k:Nat} (h:k≤18):10^k≤1000000000000000000:=by
 have:=Nat.pow_le_pow_right (show 0<10 by omega) h
 simpa using this
theorem Hv {α:Type} {l:List α} {k:Nat} (h:k<l.length):l.drop k=l[k]::l.drop (k+1):=List.drop_eq_getElem_cons h
def Ft (u left inn:Int):Bool:=decide (0≤left)&&(decide (left≤u)&&(decide (0≤inn)&&decide (inn≤40)))
theorem cE (u left inn:Int):Ft u left inn=true↔0≤left∧left≤u∧0≤inn∧inn≤40:=by simp[Ft]
def Qb (k:Int):List Int:=if k=3 then [1,7,1,1,5,3,1,1,1]else if k=4 then [1,7,1,1,5,3,1,2,2,2]else [1,7,1,1,5,3,1,2,2]
def Gy (k:Int):Int:=if 1≤k∧k≤4 then 0 else 8
def Au (k:Int):List Int:=if 1≤k∧k≤4 then Qb k++ [2,2,2]else []
def Nc (t:Tk):List Int:=if t.kind=4 then [t.kind,t.ser,t.cls,t.card,t.day,t.days,t.epoch,t.frm,t.till,t.uses]else [t.kind,t.ser,t.cls,t.card,t.day,t.days,t.epoch,t.frm,t.till]
def valL (r:Rg):List Int:=Nc r.t++ [r.left,r.inn,r.key]
def Hf (r:Rg):Bool:=okT r.t&&(Ft r.t.uses r.left r.inn&&(decide (0≤r.key)&&(decide (r.key≤99)&&(r.ver==0))))
theorem Cc (r:Rg):Hf r=true↔okT r.t=true∧Ft r.t.uses r.left r.inn=true∧0≤r.key∧r.key≤99∧r.ver=0:=by simp[Hf]
def Jn (r:Rg):Bool:=(r.t.seat==0)&&decide (r.t.ser≤9999999)
theorem Gz (r:Rg):Jn r=true↔r.t.seat=0∧r.t.ser≤9999999:=by simp[Jn]
def lputX (r:Rg):Int × List Nat:=if Hf r=false then(1,[])else if Jn r=false then(18,[])else joinX (valL r) (Au r.t.kind)
def Eh (k:Int) (v:List Int):Rg:=
 if k=4 then⟨⟨v.getD 1 0,v.getD 0 0,v.getD 7 0,v.getD 8 0,v.getD 2 0,v.getD 3 0,0,v.getD 4 0,v.getD 5 0,v.getD 9 0,v.getD 6 0⟩,v.getD 12 0,v.getD 10 0,v.getD 11 0,0⟩
 else⟨⟨v.getD 1 0,v.getD 0 0,v.getD 7 0,v.getD 8 0,v.getD 2 0,v.getD 3 0,0,v.getD 4 0,v.getD 5 0,k.tmod 3,v.getD 6 0⟩,v.getD 11 0,v.getD 9 0,v.getD 10 0,0⟩
def Ga (r:Rg):Bool:=okT r.t&&Ft r.t.uses r.left r.inn
theorem Ec (r:Rg):Ga r=true↔okT r.t=true∧Ft r.t.uses r.left r.inn=true:=by simp[Ga]
def Yd (k:Int) (s:Int × List Int):Int × Rg:=if s.1≠0 then(s.1,Ah)else if Ga (Eh k s.2)=true then(0,Eh k s.2)else(9,Ah)
def By:List Nat→Int × Rg
 |[]=>(14,Ah)
 |x::l=>if 9<x then(7,Ah)else if Gy (x:Int)≠0 then(8,Ah)else Yd x (Bq (x::l) (Au x))
theorem Qc (k:Int) (h:1≤k∧k≤4): ∃ws,Au k=1::ws:=by
 rw[Au,if_pos h,Qb]
 split
 ·exact⟨_,rfl⟩
 ·split<;>exact⟨_,rfl⟩
theorem AbS {ws:List Int} (h:(Hp (1::ws)).2=0):1≤(Hp (1::ws)).1:=by
 obtain⟨_,h2,h3⟩:=Vl h
 rw[h3,List.sum_cons]
 have:=Oc ws (fun w hw=>h2 w (by simp[hw]))
 omega
theorem Ye (x:Nat):Bt [x]=if 9<x then(7,0)else(0,x):=by
 rw[Bt,if_neg (by simp),Kx]
 by_cases h:9<x
 ·rw[if_pos h,if_pos h]
 ·rw[if_neg h,if_neg h,Kx];simp
theorem Tl: ∀(ps:List (List Nat)) (o:List Int),(Df ps o).1=0→ ∃vs,(Df ps o).2=o++vs∧vs.length=ps.length
 |[],o,_=>⟨[],by simp[Df],rfl⟩
 |p::ps,o,h=>by
  rw[Df]at h⊢
  by_cases h0:(Bt p).1=0
  ·rw[if_pos h0]at h⊢
   obtain⟨vs,h1,h2⟩:=Tl ps _ h
   exact⟨((Bt p).2:Nat)::vs,by rw[h1,List.append_assoc];rfl,by simp[h2]⟩
  ·rw[if_neg h0]at h;exact(h0 h).elim
theorem Tm: ∀(ws:List Int) (l:List Nat),(Fe l ws).length=ws.length
 |[],_=>rfl
 |w::ws,l=>by rw[Fe,List.length_cons,List.length_cons,Tm ws]
theorem Qd {l:List Nat} {ws v:List Int} (h:Bq l (1::ws)=(0,v)): ∃x q vs,l=x::q∧x≤9∧v=(x:Int)::vs∧vs.length=ws.length:=by
 rw[Bq]at h
 by_cases h1:(Hp (1::ws)).2≠0
 ·rw[if_pos h1]at h;exact(h1 (Prod.mk.inj h).1).elim
 ·rw[if_neg h1]at h
  by_cases h2:(l.length:Int)≠(Hp (1::ws)).1
  ·rw[if_pos h2]at h;exact absurd (Prod.mk.inj h).1 (by decide)
  ·rw[if_neg h2]at h
   have h3:=AbS (ws:=ws) (by omega)
   match l,h with
   |[],_=>simp at h2;omega
   |x::q,h=>
    rw[Fe,Df,show(x::q).take (1:Int).toNat=[x]from rfl,Ye]at h
    by_cases hx:9<x
    ·rw[if_pos hx,if_neg (by decide)]at h;exact absurd (Prod.mk.inj h).1 (by decide)
    ·rw[if_neg hx,if_pos rfl]at h
     obtain⟨vs,h4,h5⟩:=Tl _ [(x:Int)] (by have:=congrArg Prod.fst h;simpa using this)
     refine⟨x,q,vs,rfl,by omega, ?_,by rw[h5,Tm]⟩
     have:=congrArg Prod.snd h
     simp only[List.nil_append]at this
     rw[←this]
     exact h4
theorem Qe {l:List Nat} {ws v:List Int} (h:Bq l ws=(0,v)):v.length=ws.length:=by
 rw[Bq]at h
 by_cases h1:(Hp ws).2≠0
 ·rw[if_pos h1]at h;exact(h1 (Prod.mk.inj h).1).elim
 ·rw[if_neg h1]at h
  by_cases h2:(l.length:Int)≠(Hp ws).1
  ·rw[if_pos h2]at h;exact absurd (Prod.mk.inj h).1 (by decide)
  ·rw[if_neg h2]at h
   obtain⟨vs,h4,h5⟩:=Tl (Fe l ws) [] (by rw[h])
   rw[h,List.nil_append]at h4
   rw[show v=vs from h4,h5,Tm]
def AbT (vs ws:List Int):List Nat:=(List.zipWith (fun v w=>dg v.toNat w.toNat) vs ws).flatten
theorem Yf: ∀(vs ws:List Int) (out:List Nat),vs.length=ws.length→(joinR vs ws out).1=0→(joinR vs ws out).2=out++AbT vs ws∧ ∀p∈vs.zip ws,Ch p.1 p.2=0
 |[],ws,out,hl,_=>by simp[joinR,AbT]
 |v::vs,[],out,hl,_=>by simp at hl
 |v::vs,w::ws,out,hl,h=>by
  rw[joinR,List.headD_cons,List.tail_cons]at h⊢
  by_cases h0:Ch v w=0
  ·rw[if_pos h0]at h⊢
   obtain⟨h1,h2⟩:=Yf vs ws _ (by simpa using hl) h
   obtain⟨N,W,rfl,rfl,_,_,h3⟩:=Kw h0
   refine⟨?_, ?_⟩
   ·rw[h1,h3,List.append_assoc]
    simp[AbT]
   ·intro p hp
    rw[List.zip_cons_cons,List.mem_cons]at hp
    rcases hp with rfl|hp
    ·exact h0
    ·exact h2 p hp
  ·rw[if_neg h0]at h;exact(h0 h).elim
theorem cI {vs ws:List Int} {p:List Nat} (h:joinX vs ws=(0,p)):vs.length=ws.length∧p=AbT vs ws∧ ∀q∈vs.zip ws,Ch q.1 q.2=0:=by
 rw[joinX]at h
 split at h
 ·exact absurd (Prod.mk.inj h).1 (by decide)
 ·rename_i h1
  have hl:vs.length=ws.length:=by omega
  obtain⟨h2,h3⟩:=Yf vs ws [] hl (by rw[h])
  rw[h,List.nil_append]at h2
  exact⟨hl,h2,h3⟩
theorem Vm {n w:Int} (h:Ch n w=0):0≤n∧n<10^w.toNat:=by
 obtain⟨N,W,rfl,rfl,_,h1,_⟩:=Kw h
 refine⟨by omega, ?_⟩
 rw[Int.toNat_natCast]
 exact_mod_cast h1
theorem Rw {r:Rg} {p:List Nat} (h:lputX r=(0,p)):Hf r=true∧Jn r=true∧joinX (valL r) (Au r.t.kind)=(0,p):=by
 rw[lputX]at h
 cases ha:Hf r with
 |false=>rw[ha,if_pos rfl]at h;exact absurd (Prod.mk.inj h).1 (by decide)
 |true=>
  cases hf:Jn r with
  |false=>rw[ha,hf,if_neg (by decide),if_pos rfl]at h;exact absurd (Prod.mk.inj h).1 (by decide)
  |true=>rw[ha,hf,if_neg (by decide),if_neg (by decide)]at h;exact⟨rfl,rfl,h⟩
theorem mB {r:Rg} {E:Int} {p:List Nat} (h:lputX r=(E,p)) (hE:E≠0):p=[]:=by
 rw[lputX]at h
 split at h
 ·exact(Prod.mk.inj h).2.symm
 ·split at h
  ·exact(Prod.mk.inj h).2.symm
  ·rw[joinX]at h
   split at h
   ·exact(Prod.mk.inj h).2.symm
   ·have: ∀(vs ws:List Int) (o:List Nat),(joinR vs ws o).1≠0→(joinR vs ws o).2=[]:=by
     intro vs
     induction vs with
     |nil=>intro ws o h;exact(h rfl).elim
     |cons v vs ih=>
      intro ws o h
      rw[joinR]at h⊢
      by_cases h0:Ch v (ws.headD 0)=0
      ·rw[if_pos h0]at h⊢;exact ih _ _ h
      ·rw[if_neg h0]
    have:=this _ _ _ (by rw[h];exact hE)
    rw[h]at this
    exact this
theorem Od {t:Tk} (h:okT t=true):1≤t.kind∧t.kind≤4:=by
 have:=(Dc t).1 ((Dm t).1 h).1
 omega
theorem AbU {r:Rg} (ha:Hf r=true) (hf:Jn r=true):Eh r.t.kind (valL r)=r:=by
 obtain⟨ho,_,_,_,hv⟩:=(Cc r).1 ha
 obtain⟨hs,_⟩:=(Gz r).1 hf
 have hu:=fT ho
 obtain⟨⟨ser,kind,frm,till,cls,card,seat,day,days,uses,epoch⟩,key,left,inn,ver⟩:=r
 simp only at hv hs hu
 subst hv hs
 by_cases h4:kind=4
 ·subst h4;simp[Eh,valL,Nc]
 ·obtain rfl:=hu.2 h4
  simp[Eh,valL,Nc,if_neg h4]
theorem mC {r:Rg} {p:List Nat} (h:lputX r=(0,p)):By p=(0,r):=by
 obtain⟨ha,hf,hj⟩:=Rw h
 obtain⟨ho,hs,_,_,_⟩:=(Cc r).1 ha
 have hk:=Od ho
 have hsp:=qI (vs:=valL r) (ws:=Au r.t.kind) (by rw[hj])
 rw[hj]at hsp
 obtain⟨ws,hw⟩:=Qc _ hk
 have hsp2:=hsp
 simp only at hsp2
 rw[hw]at hsp2
 obtain⟨x,q,vs,rfl,hx,hv,_⟩:=Qd hsp2
 have hkx:r.t.kind=(x:Int):=by
  have:valL r=r.t.kind::(valL r).tail:=by unfold valL Nc;split<;>rfl
  rw[this]at hv
  exact(List.cons.inj hv).1
 rw[By,if_neg (by omega), ←hkx,Gy,if_pos hk,if_neg (by decide)]
 simp only at hsp
 rw[hsp,Yd,if_neg (by simp),AbU ha hf,if_pos ((Ec r).2 ⟨ho,hs⟩)]
theorem fZ {α:Type} {v:List α} (h:v.length=12): ∃a b c d e f g i j k l m,v=[a,b,c,d,e,f,g,i,j,k,l,m]:=by
 match v,h with
 |[a,b,c,d,e,f,g,i,j,k,l,m],_=>exact⟨a,b,c,d,e,f,g,i,j,k,l,m,rfl⟩
theorem gA {α:Type} {v:List α} (h:v.length=13): ∃a b c d e f g i j k l m n,v=[a,b,c,d,e,f,g,i,j,k,l,m,n]:=by
 match v,h with
 |[a,b,c,d,e,f,g,i,j,k,l,m,n],_=>exact⟨a,b,c,d,e,f,g,i,j,k,l,m,n,rfl⟩
theorem If {k:Int} (h:1≤k∧k≤4):(Au k).length=if k=4 then 13 else 12:=by
 rw[Au,if_pos h,Qb]
 by_cases h3:k=3
 ·rw[if_pos h3,if_neg (by omega)];rfl
 ·rw[if_neg h3]
  by_cases h4:k=4
  ·rw[if_pos h4,if_pos h4];rfl
  ·rw[if_neg h4,if_neg h4];rfl
theorem AbV {k:Int} {v:List Int} (hk:1≤k∧k≤4) (hl:v.length=(Au k).length) (h0:v.head?=some k):valL (Eh k v)=v∧(Eh k v).t.kind=k∧(Eh k v).t.seat=0∧(Eh k v).ver=0:=by
 rw[If hk]at hl
 by_cases h4:k=4
 ·rw[if_pos h4]at hl
  obtain⟨a,b,c,d,e,f,g,i,j,x,l,m,n,rfl⟩:=gA hl
  obtain rfl:a=k:=by simpa using h0
  subst h4
  simp[Eh,valL,Nc]
 ·rw[if_neg h4]at hl
  obtain⟨a,b,c,d,e,f,g,i,j,x,l,m,rfl⟩:=fZ hl
  obtain rfl:a=k:=by simpa using h0
  simp[Eh,valL,Nc,if_neg h4]
theorem AdU {k:Int} {v:List Int} {p:List Nat} (hk:1≤k∧k≤4) (hj:joinX v (Au k)=(0,p)):(Eh k v).t.ser≤9999999∧0≤(Eh k v).key∧(Eh k v).key≤99:=by
 obtain⟨hl,_,hz⟩:=cI hj
 rw[If hk]at hl
 by_cases h4:k=4
 ·rw[if_pos h4]at hl
  obtain⟨a,b,c,d,e,f,g,i,j,x,l,m,n,rfl⟩:=gA hl
  subst h4
  have h1:=Vm (hz (b,7) (by simp[Au,Qb]))
  have h2:=Vm (hz (n,2) (by simp[Au,Qb]))
  simp[Eh]at h1 h2⊢
  omega
 ·rw[if_neg h4]at hl
  obtain⟨a,b,c,d,e,f,g,i,j,x,l,m,rfl⟩:=fZ hl
  have h1:=Vm (hz (b,7) (by by_cases h3:k=3<;>simp[Au,Qb,if_pos hk,h3,h4]))
  have h2:=Vm (hz (m,2) (by by_cases h3:k=3<;>simp[Au,Qb,if_pos hk,h3,h4]))
  simp[Eh,if_neg h4]at h1 h2⊢
  omega
theorem tE {l:List Nat} {r:Rg} (h:By l=(0,r)): ∃x q v,l=x::q∧x≤9∧(1≤(x:Int)∧(x:Int)≤4)∧Bq l (Au x)=(0,v)∧r=Eh x v∧Ga r=true:=by
 match l,h with
 |[],h=>exact absurd (Prod.mk.inj h).1 (by decide)
 |x::q,h=>
  rw[By]at h
  by_cases hx:9<x
  ·rw[if_pos hx]at h;exact absurd (Prod.mk.inj h).1 (by decide)
  ·rw[if_neg hx]at h
   by_cases hw:1≤(x:Int)∧(x:Int)≤4
   ·rw[Gy,if_pos hw,if_neg (by decide),Yd]at h
    by_cases hs:(Bq (x::q) (Au x)).1≠0
    ·rw[if_pos hs]at h;exact(hs (Prod.mk.inj h).1).elim
    ·rw[if_neg hs]at h
     by_cases hr:Ga (Eh x (Bq (x::q) (Au x)).2)=true
     ·rw[if_pos hr]at h
      obtain rfl:=(Prod.mk.inj h).2
      exact⟨x,q,_,rfl,by omega,hw,by rw[show(0:Int)=(Bq (x::q) (Au x)).1 by omega],rfl,hr⟩
     ·rw[if_neg hr]at h;exact absurd (Prod.mk.inj h).1 (by decide)
   ·rw[Gy,if_neg hw,if_pos (by decide)]at h;exact absurd (Prod.mk.inj h).1 (by decide)
theorem AbW {l:List Nat} {r:Rg} (h:By l=(0,r)):lputX r=(0,l)∧Ga r=true:=by
 obtain⟨x,q,v,rfl,hx,hw,hs,rfl,hr⟩:=tE h
 refine⟨?_,hr⟩
 obtain⟨ws,hws⟩:=Qc _ hw
 have hs2:=hs
 rw[hws]at hs2
 obtain⟨x',q',vs,e1,_,hv,_⟩:=Qd hs2
 obtain rfl:x=x':=(List.cons.inj e1).1
 have hj:=qJ (l:=x::q) (ws:=Au x) (by rw[hs])
 rw[hs]at hj
 simp only at hj
 obtain⟨h1,h2,h3,h4⟩:=AbV hw (Qe hs) (by rw[hv];rfl)
 obtain⟨h5,h6,h7⟩:=AdU hw hj
 obtain⟨h8,h9⟩:=(Ec _).1 hr
 rw[lputX,(Cc _).2 ⟨h8,h9,h6,h7,h4⟩,if_neg (by decide),(Gz _).2 ⟨h3,h5⟩,if_neg (by decide),h1,h2,hj]
theorem mD {t:Tk} (h:1≤t.kind∧t.kind≤4):(Nc t).length=(Qb t.kind).length:=by
 rw[Nc,Qb]
 by_cases h4:t.kind=4
 ·rw[if_pos h4,if_neg (by omega),if_pos h4];rfl
 ·rw[if_neg h4]
  by_cases h3:t.kind=3
  ·rw[if_pos h3];rfl
  ·rw[if_neg h3,if_neg h4];rfl
theorem AdV {r:Rg} {E:Int} {p:List Nat} (h:lputX r=(E,p)): ∀x∈p,x<256:=by
 by_cases hE:E=0
 ·subst hE
  intro x hx
  obtain⟨ha,hf,hj⟩:=Rw h
  obtain⟨hl,rfl,_⟩:=cI hj
  rw[AbT,List.mem_flatten]at hx
  obtain⟨l,hl1,hl2⟩:=hx
  obtain⟨i,hi⟩:=List.mem_iff_getElem?.1 hl1
  rw[List.getElem?_zipWith]at hi
  split at hi
  ·cases hi;have:=bV _ _ x hl2;omega
  ·cases hi
 ·rw[mB h hE];simp
def Cl (x:Int):Prop:= -9223372036854775808≤x∧x≤9223372036854775807
def bit (b:Bool):Nat:=if b=true then 1 else 0
theorem Ha (b:Bool):bit b≤1:=by unfold bit;split<;>omega
def accB (l:List Bool) (i:Nat):Nat→Nat
 |0=>0
 |k+1=>2*accB l i k+bit (l.getD (i+k) false)
theorem Rx (l:List Bool) (i:Nat): ∀k,accB l i k<2^k
 |0=>by simp[accB]
 |k+1=>by
  have h:=Rx l i k
  have hb:=Ha (l.getD (i+k) false)
  rw[accB,Nat.pow_succ]
  omega
def Cw (l:List Bool) (m:Nat):List Nat:=(List.range m).map fun j=>accB l (8*j) 8
theorem It (l:List Bool) (m:Nat):(Cw l m).length=m:=by simp[Cw]
theorem qK (l:List Bool) (m:Nat):Cw l (m+1)=Cw l m++ [accB l (8*m) 8]:=by simp[Cw,List.range_succ]
def packL (l:List Bool):List Nat:=Cw l ((l.length+7) / 8)
theorem Hq (l:List Bool):(packL l).length=(l.length+7) / 8:=It _ _
theorem Yg (l:List Bool): ∀x∈packL l,x<256:=by
 intro x hx
 simp only[packL,Cw,List.mem_map]at hx
 obtain⟨j,_,rfl⟩:=hx
 exact Rx l (8*j) 8
def Ff (x k:Nat):List Bool:=(List.range k).map fun j=>x / 2^(7 - j) % 2==1
theorem Ma (x k:Nat):(Ff x k).length=k:=by simp[Ff]
theorem mE (x k:Nat):Ff x (k+1)=Ff x k++ [x / 2^(7 - k) % 2==1]:=by simp[Ff,List.range_succ]
def Ag (b:List Nat):List Bool:=b.flatMap fun x=>Ff x 8
theorem Mb (x:Nat) (b:List Nat):Ag (x::b)=Ff x 8++Ag b:=by simp[Ag]
theorem Bz: ∀b:List Nat,(Ag b).length=8*b.length
 |[]=>rfl
 |x::b=>by rw[Mb,List.length_append,Ma,Bz b,List.length_cons];omega
theorem gC (b:List Nat) (x:Nat):Ag (b++ [x])=Ag b++Ff x 8:=by simp[Ag]
theorem gD {b:List Nat} {k x:Nat} (h:b[k]?=some x):Ag (b.take (k+1))=Ag (b.take k)++Ff x 8:=by
 rw[List.take_add_one,h];exact gC _ _
theorem Afy (x:Nat):bit (x % 2==1)=x % 2:=by
 unfold bit
 by_cases h:x % 2=1
 ·rw[if_pos (by rw[beq_iff_eq];exact h),h]
 ·rw[if_neg (by rw[beq_iff_eq];exact h)];omega
def Bb (n:Nat):Nat:=n % 2+n / 2 % 2+n / 4 % 2+n / 8 % 2+n / 16 % 2
theorem qL {n:Nat} (h:n<32):Bb n=n % 2+Bb (n / 2):=by unfold Bb;omega
theorem mF (n:Nat):Bb n≤5:=by unfold Bb;omega
def isV (v:Int):Bool:=decide (0≤v)&&decide (v≤15)
def isC (c:Int):Bool:=decide (0≤c)&&decide (c≤31)
theorem Er (v:Int):isV v=true↔0≤v∧v≤15:=by simp[isV]
theorem Hw (c:Int):isC c=true↔0≤c∧c≤31:=by simp[isC]
def Yh (v:Int):Int:=if isV v=true then(if Bb v.toNat % 2=0 then v+16 else v)else 0
def Yi (v:Int):Int:=if isV v=true then 0 else 1
def Zq (c:Int):Int:=if isC c=true then(if Bb c.toNat % 2=0 then 0 else c % 16)else 0
def Zr (c:Int):Int:=if isC c=true then(if Bb c.toNat % 2=0 then 3 else 0)else 1
structure B5 where
 b0:Bool
 b1:Bool
 b2:Bool
 b3:Bool
 b4:Bool
deriving DecidableEq
def Ry (n i:Nat):Bool:=n / 2^i % 2==1
def noB:B5:=⟨false,false,false,false,false⟩
def Ky (c:Int):B5:=if isC c=true then⟨Ry c.toNat 0,Ry c.toNat 1,Ry c.toNat 2,Ry c.toNat 3,Ry c.toNat 4⟩else noB
def Mi (c:Int):Int:=if isC c=true then 0 else 1
def ofB (b:B5):Int:=((b.b0.toNat+2*b.b1.toNat+4*b.b2.toNat+8*b.b3.toNat+16*b.b4.toNat:Nat):Int)
theorem AbX (b:B5):isC (ofB b)=true∧Ky (ofB b)=b∧Mi (ofB b)=0:=by
 obtain⟨b0,b1,b2,b3,b4⟩:=b
 cases b0<;>cases b1<;>cases b2<;>cases b3<;>cases b4<;>decide
def Hj (l:List Int):Bool:=l.all isV
def sumX (l:List Int):Nat:=l.foldl (fun n x=>n^^^x.toNat) 0
def gE (l:List Int):Int:=if Hj l=true then(sumX l:Int)else 0
def gF (l:List Int):Int:=if Hj l=true then 0 else 1
theorem xT (l:List Int) (x:Int):sumX (l++ [x])=sumX l^^^x.toNat:=by simp[sumX,List.foldl_append]
theorem cJ {l:List Int} {k:Nat} {x:Int} (h:l[k]?=some x):l.take (k+1)=l.take k++ [x]:=by
 rw[List.take_add_one,h];rfl
theorem cK {l:List Int} {k:Nat} {x:Int} (h:l[k]?=some x):sumX (l.take (k+1))=sumX (l.take k)^^^x.toNat:=by rw[cJ h,xT]
theorem xU (l:List Int): ∀a:Nat,l.foldl (fun n x=>n^^^x.toNat) a=a^^^sumX l:=by
 induction l with
 |nil=>intro a;simp[sumX]
 |cons y l ih=>
  intro a
  show l.foldl _ (a^^^y.toNat)=a^^^l.foldl _ (0^^^y.toNat)
  rw[ih,ih,Nat.zero_xor,Nat.xor_assoc]
theorem xV (y:Int) (l:List Int):sumX (y::l)=y.toNat^^^sumX l:=by
 show l.foldl _ (0^^^y.toNat)=_
 rw[xU,Nat.zero_xor]
theorem tG (l:List Int) (h:Hj l=true):sumX l<16:=by
 induction l with
 |nil=>decide
 |cons y l ih=>
  rw[Hj,List.all_cons,Bool.and_eq_true]at h
  rw[xV]
  have:=(Er y).1 h.1
  exact Nat.xor_lt_two_pow (n:=4) (by omega) (ih h.2)
theorem Yj {l:List Int} {k:Nat} {x:Int} (hx:l[k]?=some x):Hj (l.take (k+1))=(Hj (l.take k)&&isV x):=by
 rw[cJ hx,Hj,Hj,List.all_append];simp
end Go.Proofs.YtmdbfogjfbbpjaaGreatDoor
