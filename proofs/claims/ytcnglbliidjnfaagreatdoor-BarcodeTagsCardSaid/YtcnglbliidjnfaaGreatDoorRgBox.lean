import Derived.Test.YtcnglbliidjnfaaGreatDoorRingLast
import Derived.Test.YtcnglbliidjnfaaGreatDoorMath
import Derived.Test.YtcnglbliidjnfaaGreatDoorMacTag
import Derived.Test.YtcnglbliidjnfaaGreatDoorMem
import Derived.Test.YtcnglbliidjnfaaGreatDoorFieldsMath
import Derived.Test.YtcnglbliidjnfaaGreatDoorBarConst
section
namespace Go.Proofs.YtcnglbliidjnfaaGreatDoor
set_option linter.unusedVariables false
open Go.ChangeShapes Go.WideShapes Go.ChangeAt Go.RowKit
theorem infoRd:(Tryz.prog.info? 28).map (·.size)=some 15:=by kernel_rfl
theorem rg_one (a0 a1 a2 a3 a4 a5 a6 a7 a8 a9 a10 a11 a12 a13 a14:Int):(#[.int .i64 a0, .int .i64 a1, .int .i64 a2, .int .i64 a3, .int .i64 a4, .int .i64 a5, .int .i64 a6, .int .i64 a7, .int .i64 a8, .int .i64 a9, .int .i64 a10, .int .i64 a11, .int .i64 a12, .int .i64 a13, .int .i64 a14]:Array Value).all (·.oneCell')=true:=by
 rw[Array.all_eq_true_iff_forall_mem]
 intro u hu
 simp at hu
 rcases hu with rfl|rfl|rfl|rfl|rfl|rfl|rfl|rfl|rfl|rfl|rfl|rfl|rfl|rfl|rfl<;>rfl
def RBox (w:World) (b:Nat) (r:Rg):Prop:=w.heap[b]?=some (.cells #[.int .i64 r.t.ser, .int .i64 r.t.kind, .int .i64 r.t.frm, .int .i64 r.t.till, .int .i64 r.t.cls, .int .i64 r.t.card, .int .i64 r.t.seat, .int .i64 r.t.day, .int .i64 r.t.days, .int .i64 r.t.uses, .int .i64 r.t.epoch, .int .i64 r.key, .int .i64 r.left, .int .i64 r.inn, .int .i64 r.ver] 28 (0,0))
theorem RBox.lt {w:World} {b:Nat} {r:Rg} (h:RBox w b r):b<w.heap.size:=(Array.getElem?_eq_some_iff.1 h).1
theorem RBox.next {w w':World} {b:Nat} {r:Rg} (h:RBox w b r) (hb:Below w.heap.size w w'):RBox w' b r:=(hb.block _ h.lt).trans h
theorem RBox.below {w w':World} {b B:Nat} {r:Rg} (h:RBox w b r) (hlt:b<B) (hb:Below B w w'):RBox w' b r:=(hb.block _ hlt).trans h
theorem RBox.cells {w:World} {b:Nat} {r:Rg} (h:RBox w b r):w.cell? ⟨b,0,none⟩=some (.int .i64 r.t.ser)∧w.cell? ⟨b,1,none⟩=some (.int .i64 r.t.kind)∧w.cell? ⟨b,2,none⟩=some (.int .i64 r.t.frm)∧w.cell? ⟨b,3,none⟩=some (.int .i64 r.t.till)∧w.cell? ⟨b,4,none⟩=some (.int .i64 r.t.cls)∧w.cell? ⟨b,5,none⟩=some (.int .i64 r.t.card)∧w.cell? ⟨b,6,none⟩=some (.int .i64 r.t.seat)∧w.cell? ⟨b,7,none⟩=some (.int .i64 r.t.day)∧w.cell? ⟨b,8,none⟩=some (.int .i64 r.t.days)∧w.cell? ⟨b,9,none⟩=some (.int .i64 r.t.uses)∧w.cell? ⟨b,10,none⟩=some (.int .i64 r.t.epoch)∧w.cell? ⟨b,11,none⟩=some (.int .i64 r.key)∧w.cell? ⟨b,12,none⟩=some (.int .i64 r.left)∧w.cell? ⟨b,13,none⟩=some (.int .i64 r.inn)∧w.cell? ⟨b,14,none⟩=some (.int .i64 r.ver):=
 ⟨by rw[cell_of_row w b 0 _ _ (0,0) h];rfl,by rw[cell_of_row w b 1 _ _ (0,0) h];rfl,by rw[cell_of_row w b 2 _ _ (0,0) h];rfl,by rw[cell_of_row w b 3 _ _ (0,0) h];rfl,by rw[cell_of_row w b 4 _ _ (0,0) h];rfl,by rw[cell_of_row w b 5 _ _ (0,0) h];rfl,by rw[cell_of_row w b 6 _ _ (0,0) h];rfl,by rw[cell_of_row w b 7 _ _ (0,0) h];rfl,by rw[cell_of_row w b 8 _ _ (0,0) h];rfl,by rw[cell_of_row w b 9 _ _ (0,0) h];rfl,by rw[cell_of_row w b 10 _ _ (0,0) h];rfl,by rw[cell_of_row w b 11 _ _ (0,0) h];rfl,by rw[cell_of_row w b 12 _ _ (0,0) h];rfl,by rw[cell_of_row w b 13 _ _ (0,0) h];rfl,by rw[cell_of_row w b 14 _ _ (0,0) h];rfl⟩
theorem RBox.frozen {w:World} {b:Nat} {r:Rg} (h:RBox w b r) (j:Nat):w.frozen? ⟨b,j,none⟩=false:=frozen_of_row w b j _ _ h
theorem RBox.new (w:World) (r:Rg):RBox (w.alloc (.cells #[.int .i64 r.t.ser, .int .i64 r.t.kind, .int .i64 r.t.frm, .int .i64 r.t.till, .int .i64 r.t.cls, .int .i64 r.t.card, .int .i64 r.t.seat, .int .i64 r.t.day, .int .i64 r.t.days, .int .i64 r.t.uses, .int .i64 r.t.epoch, .int .i64 r.key, .int .i64 r.left, .int .i64 r.inn, .int .i64 r.ver] 28)) w.heap.size r:=heap_alloc_new w _
theorem RBox.alloc {w:World} {b:Nat} {r:Rg} (h:RBox w b r) (o:Obj):RBox (w.alloc o) b r:=(heap_alloc_old w o h.lt).trans h
theorem RBox.made {w1 w2:World} {cc:Array Value} {r:Rg} (h:w2=(w1.alloc (.cells cc 28)).setRow w1.heap.size #[.int .i64 r.t.ser, .int .i64 r.t.kind, .int .i64 r.t.frm, .int .i64 r.t.till, .int .i64 r.t.cls, .int .i64 r.t.card, .int .i64 r.t.seat, .int .i64 r.t.day, .int .i64 r.t.days, .int .i64 r.t.uses, .int .i64 r.t.epoch, .int .i64 r.key, .int .i64 r.left, .int .i64 r.inn, .int .i64 r.ver]):RBox w2 w1.heap.size r∧Below w1.heap.size w1 w2:=by
 subst h
 exact⟨setRow_heap _ _ _ _ _ _ (heap_alloc_new w1 _),below_setRow ((Below.refl _ _).alloc (Nat.le_refl _) _) (Nat.le_refl _) _⟩
def JBox (w:World) (b:Nat) (l i:Int):Prop:=w.heap[b]?=some (.cells #[.int .i64 l, .int .i64 i] 26 (0,0))
theorem JBox.lt {w:World} {b:Nat} {l i:Int} (h:JBox w b l i):b<w.heap.size:=(Array.getElem?_eq_some_iff.1 h).1
theorem JBox.next {w w':World} {b:Nat} {l i:Int} (h:JBox w b l i) (hb:Below w.heap.size w w'):JBox w' b l i:=(hb.block _ h.lt).trans h
theorem JBox.below {w w':World} {b B:Nat} {l i:Int} (h:JBox w b l i) (hlt:b<B) (hb:Below B w w'):JBox w' b l i:=(hb.block _ hlt).trans h
theorem JBox.cells {w:World} {b:Nat} {l i:Int} (h:JBox w b l i):w.cell? ⟨b,0,none⟩=some (.int .i64 l)∧w.cell? ⟨b,1,none⟩=some (.int .i64 i):=
 ⟨by rw[cell_of_row w b 0 _ _ (0,0) h];rfl,by rw[cell_of_row w b 1 _ _ (0,0) h];rfl⟩
theorem JBox.frozen {w:World} {b:Nat} {l i:Int} (h:JBox w b l i) (j:Nat):w.frozen? ⟨b,j,none⟩=false:=frozen_of_row w b j _ _ h
theorem JBox.new (w:World) (l i:Int):JBox (w.alloc (.cells #[.int .i64 l, .int .i64 i] 26)) w.heap.size l i:=heap_alloc_new w _
theorem JBox.alloc {w:World} {b:Nat} {l i:Int} (h:JBox w b l i) (o:Obj):JBox (w.alloc o) b l i:=(heap_alloc_old w o h.lt).trans h
theorem JBox.made {w1 w2:World} {cc:Array Value} {l i:Int} (h:w2=(w1.alloc (.cells cc 26)).setRow w1.heap.size #[.int .i64 l, .int .i64 i]):JBox w2 w1.heap.size l i∧Below w1.heap.size w1 w2:=by
 subst h
 exact⟨setRow_heap _ _ _ _ _ _ (heap_alloc_new w1 _),below_setRow ((Below.refl _ _).alloc (Nat.le_refl _) _) (Nat.le_refl _) _⟩
end Go.Proofs.YtcnglbliidjnfaaGreatDoor
end
section
namespace Go.Proofs.YtcnglbliidjnfaaGreatDoor
set_option linter.unusedVariables false
open Go.ChangeShapes Go.WideShapes Go.ChangeAt Go.RowKit
def rgL (r:Rg):List Int:=[r.t.ser,r.t.kind,r.t.frm,r.t.till,r.t.cls,r.t.card,r.t.seat,r.t.day,r.t.days,r.t.uses,r.t.epoch,r.key,r.left,r.inn,r.ver]
def InR (r:Rg):Prop:= ∀x∈rgL r,In64 x
end Go.Proofs.YtcnglbliidjnfaaGreatDoor
end
section
namespace Go.Proofs.YtcnglbliidjnfaaGreatDoor
set_option linter.unusedVariables false
open Go.ChangeShapes Go.WideShapes Go.ChangeAt Go.RowKit
theorem grownR_trans {w w' w'':World} {row:Option Nat} (h:w.grownBy w' row) (h':w'.grownBy w'' row):w.grownBy w'' row:=⟨h'.os.trans h.os,h'.tape.trans h.tape,h'.output.trans h.output,Nat.le_trans h.size h'.size,fun k hk hne=>(h'.block k (Nat.lt_of_lt_of_le hk h.size) hne).trans (h.block k hk hne)⟩
theorem grownR_below {w w':World} (row:Option Nat) (h:Below w.heap.size w w'):w.grownBy w' row:=⟨h.os,h.tape,h.output,h.size,fun k hk _=>h.block k hk⟩
theorem below_grownR {w w':World} {B X:Nat} (h:w.grownBy w' (some X)) (hB:B≤X) (hs:B≤w.heap.size):Below B w w':=⟨h.os,h.tape,h.output,h.size,fun k hk=>h.block k (by omega) (by simp;omega)⟩
end Go.Proofs.YtcnglbliidjnfaaGreatDoor
end
section
namespace Go.Proofs.YtcnglbliidjnfaaGreatDoor
set_option linter.unusedVariables false
open Go.ChangeShapes Go.WideShapes Go.ChangeAt Go.RowKit
def FBox (w:World) (X:Nat) (l:List Int):Prop:=w.heap[X]?=some (.cells ((l.map fun x=>Value.int .i64 x).toArray) 94 (0,0))
theorem FBox.lt {w:World} {X:Nat} {l:List Int} (h:FBox w X l):X<w.heap.size:=(Array.getElem?_eq_some_iff.1 h).1
theorem FBox.alloc {w:World} {X:Nat} {l:List Int} (h:FBox w X l) (o:Obj):FBox (w.alloc o) X l:=(heap_alloc_old w o h.lt).trans h
theorem FBox.next {w w':World} {X:Nat} {l:List Int} (h:FBox w X l) (hb:Below w.heap.size w w'):FBox w' X l:=(hb.block _ h.lt).trans h
theorem FBox.set {w:World} {X:Nat} {l:List Int} (h:FBox w X l) (o:Nat) (x:Int):FBox (w.setCell ⟨X,o,none⟩ (.int .i64 x)) X (l.set o x):=by
 have:=heap_setCell_same w X o _ _ (.int .i64 x) h
 rw[FBox,this]
 simp[List.map_set]
theorem FBox.cell {w:World} {X o:Nat} {l:List Int} {x:Int} (h:FBox w X l) (ho:l[o]?=some x):w.cell? ⟨X,o,none⟩=some (.int .i64 x):=by
 rw[cell_of_row w X o _ _ (0,0) h]
 simp[ho]
theorem FBox.frozen {w:World} {X:Nat} {l:List Int} (h:FBox w X l) (o:Nat):w.frozen? ⟨X,o,none⟩=false:=frozen_of_row w X o _ _ h
theorem FBox.cells {w:World} {b:Nat} {r:Rg} (h:FBox w b (rgL r)):w.cell? ⟨b,0,none⟩=some (.int .i64 r.t.ser)∧w.cell? ⟨b,1,none⟩=some (.int .i64 r.t.kind)∧w.cell? ⟨b,2,none⟩=some (.int .i64 r.t.frm)∧w.cell? ⟨b,3,none⟩=some (.int .i64 r.t.till)∧w.cell? ⟨b,4,none⟩=some (.int .i64 r.t.cls)∧w.cell? ⟨b,5,none⟩=some (.int .i64 r.t.card)∧w.cell? ⟨b,6,none⟩=some (.int .i64 r.t.seat)∧w.cell? ⟨b,7,none⟩=some (.int .i64 r.t.day)∧w.cell? ⟨b,8,none⟩=some (.int .i64 r.t.days)∧w.cell? ⟨b,9,none⟩=some (.int .i64 r.t.uses)∧w.cell? ⟨b,10,none⟩=some (.int .i64 r.t.epoch)∧w.cell? ⟨b,11,none⟩=some (.int .i64 r.key)∧w.cell? ⟨b,12,none⟩=some (.int .i64 r.left)∧w.cell? ⟨b,13,none⟩=some (.int .i64 r.inn)∧w.cell? ⟨b,14,none⟩=some (.int .i64 r.ver):=
 ⟨h.cell rfl,h.cell rfl,h.cell rfl,h.cell rfl,h.cell rfl,h.cell rfl,h.cell rfl,h.cell rfl,h.cell rfl,h.cell rfl,h.cell rfl,h.cell rfl,h.cell rfl,h.cell rfl,h.cell rfl⟩
def posN (t:Nat):Nat:=if t=1 then 14 else if t=2 then 11 else if t=3 then 1 else if t=4 then 0 else t - 3
theorem tag_cases {t:Nat} (h1:1≤t) (h2:t≤13):t=1∨t=2∨t=3∨t=4∨t=5∨t=6∨t=7∨t=8∨t=9∨t=10∨t=11∨t=12∨t=13:=by omega
theorem pos_at (r:Rg) {t:Nat} (h1:1≤t) (h2:t≤13):(rgL r)[posN t]?=some ((numL r).getD (t - 1) 0):=by
 rcases tag_cases h1 h2 with rfl|rfl|rfl|rfl|rfl|rfl|rfl|rfl|rfl|rfl|rfl|rfl|rfl<;>rfl
theorem pos_set {a:List Int} (ha:a.length=13) {t:Nat} (h1:1≤t) (h2:t≤13) (v:Int):(rgL (rdL a)).set (posN t) v=rgL (rdL (a.set (t - 1) v)):=by
 match a,ha with
 |[a0,a1,a2,a3,a4,a5,a6,a7,a8,a9,a10,a11,a12],_=>
  rcases tag_cases h1 h2 with rfl|rfl|rfl|rfl|rfl|rfl|rfl|rfl|rfl|rfl|rfl|rfl|rfl<;>rfl
end Go.Proofs.YtcnglbliidjnfaaGreatDoor
end
section
namespace Go.Proofs.YtcnglbliidjnfaaGreatDoor
set_option linter.unusedVariables false
open Go.ChangeShapes Go.WideShapes Go.ChangeAt Go.RowKit
theorem fwithin_any (n a b:Int) (v:Bool) (hv:(decide (a≤n)&&decide (n≤b))=v) (w:World):Calls Tryz.prog 99 #[.int .i64 n, .int .i64 a, .int .i64 b] w fun e w'=>e= .returned (.bool v)∧w=w':=by
 have HB:=Lib.hid hv
 clear hv
 cases h0:decide (a≤n)<;>cases h1:decide (n≤b)
 all_goals
  have H0:=Lib.hid h0
  have H1:=Lib.hid h1
  go_enter Tryz.func99, Tryz.ntmps99
  go_wp2
  go_ret
  refine⟨congrArg Ending.returned (congrArg Value.bool ?_),rfl⟩
  rw[←HB.out,H0.out,H1.out]
  rfl
theorem pkey_any (n:Int) (v:Bool) (hv:(decide (0≤n)&&decide (n≤99))=v) (w:World):Calls Tryz.prog 62 #[.int .i64 n] w fun e w'=>e= .returned (.bool v)∧w=w':=by
 have HB:=Lib.hid hv
 clear hv
 go_enter Tryz.func62, Tryz.ntmps62
 go_wp2_with fail
 refine(fwithin_any n 0 99 v HB.out w).mono ?_
 rintro e w1 ⟨rfl,rfl⟩
 go_wp2
 go_ret
 exact⟨rfl,rfl⟩
theorem pversion_any (n:Int) (v:Bool) (hv:(decide (1≤n)&&decide (n≤3))=v) (w:World):Calls Tryz.prog 63 #[.int .i64 n] w fun e w'=>e= .returned (.bool v)∧w=w':=by
 have HB:=Lib.hid hv
 clear hv
 go_enter Tryz.func63, Tryz.ntmps63
 go_wp2_with fail
 refine(fwithin_any n 1 3 v HB.out w).mono ?_
 rintro e w1 ⟨rfl,rfl⟩
 go_wp2
 go_ret
 exact⟨rfl,rfl⟩
theorem leastN_out {t:Int} (h:(decide (1≤t)&&decide (t≤13))=false):leastN t=0:=by
 rw[leastN,if_pos]
 simp at h
 omega
theorem leastN_in {t:Int} (h:(decide (1≤t)&&decide (t≤13))=true): ¬(t<1∨13<t):=by
 simp at h
 omega
theorem pname_any (t v:Int) (b:Bool) (hv:leastN t=v) (hb:okN t=b) (w:World):Calls Tryz.prog 100 #[.int .i64 t] w fun e w'=>e= .returned (.tuple #[.int .i64 v, .bool b])∧w=w':=by
 have HB:=Lib.hid hb
 have h0:(decide (1≤t)&&decide (t≤13))=b:=hb
 clear hb
 cases b with
 |false=>
  rw[leastN_out h0]at hv
  subst hv
  have H0:=Lib.hid h0
  clear h0
  go_enter Tryz.func100, Tryz.ntmps100
  go_wp2_with fail
  refine(fwithin_any t 1 13 false H0.out w).mono ?_
  rintro e w1 ⟨rfl,rfl⟩
  go_wp2
  go_ret2
  exact⟨rfl,rfl⟩
 |true=>
  have hin:=leastN_in h0
  have H0:=Lib.hid h0
  clear h0
  rw[leastN,if_neg hin]at hv
  clear hin
  by_cases h8:t=8
  ·rw[if_pos h8]at hv
   subst hv h8
   go_enter Tryz.func100, Tryz.ntmps100
   go_wp2_with fail
   refine(fwithin_any 8 1 13 true H0.out w).mono ?_
   rintro e w1 ⟨rfl,rfl⟩
   go_wp2
   go_ret2
   exact⟨rfl,rfl⟩
  ·rw[if_neg h8]at hv
   have q8:(t==8)=false:=by rw[beq_eq_false_iff_ne];exact h8
   by_cases h9:t=9
   ·rw[if_pos h9]at hv
    subst hv h9
    clear h8 q8
    go_enter Tryz.func100, Tryz.ntmps100
    go_wp2_with fail
    refine(fwithin_any 9 1 13 true H0.out w).mono ?_
    rintro e w1 ⟨rfl,rfl⟩
    go_wp2
    go_ret2
    exact⟨rfl,rfl⟩
   ·rw[if_neg h9]at hv
    have q9:(t==9)=false:=by rw[beq_eq_false_iff_ne];exact h9
    subst hv
    clear h8 h9
    go_enter Tryz.func100, Tryz.ntmps100
    go_wp2_with fail
    refine(fwithin_any t 1 13 true H0.out w).mono ?_
    rintro e w1 ⟨rfl,rfl⟩
    go_wp2
    go_ret2
    exact⟨rfl,rfl⟩
theorem refname_any (t v:Int) (b:Bool) (hv:leastN t=v) (hb:okN t=b) (w:World):Calls Tryz.prog 76 #[.int .i64 t] w fun e w'=>e= .returned (.tuple #[.int .i64 v, .bool b])∧w=w':=by
 by_cases h1:t<1
 ·rw[leastN,if_pos (.inl h1)]at hv
  obtain rfl:b=false:=by rw[←hb,okN];simp;omega
  subst hv
  clear hb
  go_enter Tryz.func76, Tryz.ntmps76
  go_wp2
  go_ret2
  exact⟨rfl,rfl⟩
 ·by_cases h2:13<t
  ·rw[leastN,if_pos (.inr h2)]at hv
   obtain rfl:b=false:=by rw[←hb,okN];simp;omega
   subst hv
   clear hb
   go_enter Tryz.func76, Tryz.ntmps76
   go_wp2
   go_ret2
   exact⟨rfl,rfl⟩
  ·rw[leastN,if_neg (by omega)]at hv
   obtain rfl:b=true:=by rw[←hb,okN];simp;omega
   clear hb
   by_cases h8:t=8
   ·rw[if_pos h8]at hv
    subst hv h8
    clear h1 h2
    go_enter Tryz.func76, Tryz.ntmps76
    go_wp2
    go_ret2
    exact⟨rfl,rfl⟩
   ·rw[if_neg h8]at hv
    have q8:(t==8)=false:=by rw[beq_eq_false_iff_ne];exact h8
    by_cases h9:t=9
    ·rw[if_pos h9]at hv
     subst hv h9
     clear h1 h2 h8 q8
     go_enter Tryz.func76, Tryz.ntmps76
     go_wp2
     go_ret2
     exact⟨rfl,rfl⟩
    ·rw[if_neg h9]at hv
     have q9:(t==9)=false:=by rw[beq_eq_false_iff_ne];exact h9
     subst hv
     clear h8 h9
     go_enter Tryz.func76, Tryz.ntmps76
     go_wp2
     go_ret2
     exact⟨rfl,rfl⟩
theorem pnum_any (X t:Nat) (h1:1≤t) (h2:t≤13) (w:World):Calls Tryz.prog 66 #[.pointer (some ⟨X,0,none⟩), .int .i64 (t:Int)] w fun e w'=>e= .returned (.pointer (some ⟨X,posN t,none⟩))∧w=w':=by
 rcases tag_cases h1 h2 with rfl|rfl|rfl|rfl|rfl|rfl|rfl|rfl|rfl|rfl|rfl|rfl|rfl
 all_goals
  clear h1 h2
  go_enter Tryz.func66, Tryz.ntmps66
  go_wp2
  go_ret
  exact⟨rfl,rfl⟩
theorem pnum_none (X:Nat) (t:Int) (h:13<t) (w:World):Calls Tryz.prog 66 #[.pointer (some ⟨X,0,none⟩), .int .i64 t] w fun e w'=>e= .returned (.pointer none)∧w=w':=by
 have q1:(t==1)=false:=by rw[beq_eq_false_iff_ne];omega
 have q2:(t==2)=false:=by rw[beq_eq_false_iff_ne];omega
 have q3:(t==3)=false:=by rw[beq_eq_false_iff_ne];omega
 have q4:(t==4)=false:=by rw[beq_eq_false_iff_ne];omega
 have q5:(t==5)=false:=by rw[beq_eq_false_iff_ne];omega
 have q6:(t==6)=false:=by rw[beq_eq_false_iff_ne];omega
 have q7:(t==7)=false:=by rw[beq_eq_false_iff_ne];omega
 have q8:(t==8)=false:=by rw[beq_eq_false_iff_ne];omega
 have q9:(t==9)=false:=by rw[beq_eq_false_iff_ne];omega
 have q10:(t==10)=false:=by rw[beq_eq_false_iff_ne];omega
 have q11:(t==11)=false:=by rw[beq_eq_false_iff_ne];omega
 have q12:(t==12)=false:=by rw[beq_eq_false_iff_ne];omega
 have q13:(t==13)=false:=by rw[beq_eq_false_iff_ne];omega
 clear h
 go_enter Tryz.func66, Tryz.ntmps66
 go_wp2
 go_ret
 exact⟨rfl,rfl⟩
def ownF (k:Int):Int:=if k=1 then 1 else if k=2 then 2 else 0
theorem pownf_any (k u:Int) (hu:ownF k=u) (w:World):Calls Tryz.prog 105 #[.int .i64 k] w fun e w'=>e= .returned (.int .i64 u)∧w=w':=by
 by_cases h1:k=1
 ·obtain rfl:u=1:=by rw[←hu,ownF,if_pos h1]
  have q1:(k==1)=true:=by rw[beq_iff_eq];exact h1
  clear hu h1
  go_enter Tryz.func105, Tryz.ntmps105
  go_wp2
  go_ret
  exact⟨rfl,rfl⟩
 have q1:(k==1)=false:=by rw[beq_eq_false_iff_ne];exact h1
 by_cases h2:k=2
 ·obtain rfl:u=2:=by rw[←hu,ownF,if_neg h1,if_pos h2]
  have q2:(k==2)=true:=by rw[beq_iff_eq];exact h2
  clear hu h1 h2
  go_enter Tryz.func105, Tryz.ntmps105
  go_wp2
  go_ret
  exact⟨rfl,rfl⟩
 have q2:(k==2)=false:=by rw[beq_eq_false_iff_ne];exact h2
 obtain rfl:u=0:=by rw[←hu,ownF,if_neg h1,if_neg h2]
 clear hu h1 h2
 go_enter Tryz.func105, Tryz.ntmps105
 go_wp2
 go_ret
 exact⟨rfl,rfl⟩
end Go.Proofs.YtcnglbliidjnfaaGreatDoor
end
section
namespace Go.Proofs.YtcnglbliidjnfaaGreatDoor
set_option linter.unusedVariables false
open Go.ChangeShapes Go.WideShapes Go.ChangeAt Go.RowKit
def zI (ts:List Nat):List Int:=ts.map fun t:Nat=>(t:Int)
theorem zI_len (ts:List Nat):(zI ts).length=ts.length:=by simp[zI]
theorem zI_at {ts:List Nat} {k t:Nat} (h:ts[k]?=some t):(zI ts)[k]?=some (t:Int):=by simp[zI,h]
theorem zI_snoc (ts:List Nat) (t:Nat):zI (ts++ [t])=zI ts++ [(t:Int)]:=by simp[zI]
theorem fone_int (x:Int): ∀u∈([.int .i64 x]:List Value),u.oneCell'=true:=by
 intro u hu
 simp only[List.mem_singleton]at hu
 subst hu;rfl
theorem fint_lit (w:World) (x:Int): ∀j u,([.int .i64 x]:List Value)[j]?=some u→(w.alloc (.cells #[.int .i64 x] 3)).cell? ((⟨w.heap.size,0,none⟩:Addr).add j)=some u:=by
 intro j u hu
 rw[at_add,cell_of_row (w.alloc (.cells #[.int .i64 x] 3)) w.heap.size j _ _ (0,0) (heap_alloc_new w _)]
 simpa using hu
set_option maxRecDepth 100000 in
set_option maxHeartbeats 1600000 in
theorem ptags_any (r:Rg) (X:Nat) (n:Nat) (hn:n=(tagsF 1 (numL r)).length) (w:World) (hX:FBox w X (rgL r)):Calls Tryz.prog 65 #[.func (.func 66) #[.pointer (some ⟨X,0,none⟩)] #[]] w fun e w'=> ∃A c,e= .returned (.slice A n c)∧Zs w' w'.heap.size (zI (tagsF 1 (numL r))) A c∧Below w.heap.size w w':=by
 obtain⟨i0,hi,hz0,hz1,hz2⟩:=info_parts infoInt
 have HX:=Lib.hid hX
 have HN:=Lib.hid hn
 clear hX hn
 go_enter Tryz.func65, Tryz.ntmps65
 go_wp2
 go_loopw [3,4] (fun v i wr=> ∃(t m:Nat),1≤t∧t≤14∧i= .int .i64 (t:Int)∧m=(tagsF 1 ((numL r).take (t - 1))).length∧m≤13∧wr.ownsRow w.heap.size 3 1 v m (I64 (zI (tagsF 1 ((numL r).take (t - 1)))))∧Below w.heap.size w wr) (fun _ i _=>14 - (intOf i).toNat)
 case atStart=>exact⟨1,0,by omega,by omega,rfl,rfl,by omega,⟨rfl, .inl ⟨rfl,rfl⟩⟩,Below.refl _ _⟩
 case round=>
  obtain⟨t,m,h1,h2,rfl,hm,hm13,hown,hbel⟩:=hrel
  have HM:=Lib.hid hm
  have HO:=Lib.hid hown
  have HBL:=Lib.hid hbel
  have hsz:=hbel.size
  clear hm hown hbel
  by_cases hlt:t≤13
  ·have hc:=(HX.out.next HBL.out).cell (pos_at r h1 hlt)
   have HS:=Lib.hid (tagsF_take (numL r) (t - 1) (by rw[numL_len];omega))
   rw[show t - 1+1=t by omega]at HS
   obtain⟨x,hx⟩: ∃x,x=(numL r).getD (t - 1) 0:=⟨_,rfl⟩
   rw[←hx]at hc HS
   obtain⟨p,hp⟩: ∃p,p=posN t:=⟨_,rfl⟩
   have b1:(t:Int)≤13:=by omega
   by_cases h0:x=0
   ·have HS2:=HS.out
    rw[if_pos h0,List.append_nil]at HS2
    have HST:=Lib.hid HS2
    have q0:(x !=0)=false:=by rw[h0];rfl
    clear HS HS2 hx h0
    rw[←hp]at hc
    go_wp2_with fail
    refine(pnum_any X t h1 hlt wr).mono ?_
    rintro e w1 ⟨rfl,rfl⟩
    rw[←hp]
    clear hp
    go_wp2
    go_roundw
    case rel=>exact⟨t+1,m,by omega,by omega,by go_num,by rw[HM.out,Nat.add_sub_cancel,HST.out],hm13,by rw[Nat.add_sub_cancel,HST.out];exact HO.out,HBL.out⟩
    case measure=>simp[intOf];omega
   ·have HS2:=HS.out
    rw[if_neg h0]at HS2
    have HST:=Lib.hid HS2
    have q0:(x !=0)=true:=by rw[bne_iff_ne];exact h0
    have hml:=tagsF_len ((numL r).take (t - 1)) 1
    rw[List.length_take,numL_len]at hml
    have hm12:m≤12:=by have:=HM.out;omega
    clear HS HS2 hx h0 hml
    rw[←hp]at hc
    go_wp2_with fail
    refine(pnum_any X t h1 hlt wr).mono ?_
    rintro e w1 ⟨rfl,rfl⟩
    rw[←hp]
    clear hp
    go_wp2_with (at_builtin;refine wpList_append_own _ rfl (.tmp 15) (.tmp 17) 95 rfl w.heap.size 3 i0 (.int .i64 0) 1 8 Tryz.underlying95 hi hz0 hz1 hz2 rfl (by decide) _ m _ rfl (HO.out.alloc _) ⟨wr.heap.size,0,none⟩ 1 1 [.int .i64 (t:Int)] rfl rfl (fint_lit wr _) (fone_int _) (by unfold maxLen;omega) (by omega) (by simp;omega) ?_;intro v' w3 hown' hgrow _)
    have hbel2:Below w.heap.size w w3:=(HBL.out.alloc HBL.out.size _).grown hgrow (by simp;omega) (fun j hj=>own_ge HO.out hj)
    have HO2:Hid (w3.ownsRow w.heap.size 3 1 v' (m+1) (I64 (zI (tagsF 1 ((numL r).take t))))):=Lib.hid (by rw[HST.out,zI_snoc,I64_append];exact hown')
    clear hown' hgrow
    go_wp2
    go_roundw
    case rel=>exact⟨t+1,m+1,by omega,by omega,by go_num,by rw[Nat.add_sub_cancel,HST.out,List.length_append, ←HM.out];rfl,by omega,by rw[Nat.add_sub_cancel];exact HO2.out,hbel2⟩
    case measure=>simp[intOf];omega
  ·have e1:t=14:=by omega
   subst e1
   have hmn:m=n:=by rw[HM.out,HN.out];rfl
   have ho:=HO.out
   rw[show(numL r).take (14 - 1)=numL r from rfl]at ho
   obtain⟨A2,c2,rfl,_,hzs⟩:=zs_of_own ho
   have HZ:=Lib.hid hzs
   subst hmn
   clear ho hzs hlt
   go_wp2
   go_ret
   exact⟨A2,c2,rfl,HZ.out,HBL.out⟩
theorem fitX_at {v:Int} {ts:List Nat} {k t:Nat} (h:ts[k]?=some t) (ht:v<leastN t):fitX v ts=false:=by
 rw[fitX,List.all_eq_false]
 exact⟨t,List.mem_of_getElem? h,by simp;omega⟩
theorem fitX_all {v:Int} {ts:List Nat} (h: ∀j t:Nat,ts[j]?=some t→leastN (t:Int)≤v):fitX v ts=true:=by
 rw[fitX,List.all_eq_true]
 intro t ht
 obtain⟨j,hj⟩:=List.mem_iff_getElem?.1 ht
 exact decide_eq_true (h j t hj)
set_option maxRecDepth 100000 in
set_option maxHeartbeats 1600000 in
theorem ptells_any (v:Int) (ts:List Nat) (n:Nat) (hn:n=ts.length) (hts: ∀t∈ts,1≤t∧t≤13) (b:Bool) (hb:fitX v ts=b) (A:Option Addr) (c:Nat) (w:World) (hA:Zs w w.heap.size (zI ts) A c):Calls Tryz.prog 67 #[.int .i64 v, .slice A n c] w fun e w'=>e= .returned (.bool b)∧w=w':=by
 have h63:n≤9223372036854775807:=by have h1:=hA.len;have h2:=hA.cap;rw[zI_len]at h1;omega
 have HN:=Lib.hid hn
 have HT:=Lib.hid hts
 have HB:=Lib.hid hb
 have HA:=Lib.hid hA
 clear hn hts hb hA
 go_enter Tryz.func67, Tryz.ntmps67
 go_wp2
 go_loop [11] (fun i=> ∃k:Nat,k≤n∧i= .int .i64 k∧ ∀j t:Nat,j<k→ts[j]?=some t→leastN (t:Int)≤v) (fun i=>n - (intOf i).toNat)
 case atStart=>exact⟨0,Nat.zero_le _,rfl,by omega⟩
 case round=>
  obtain⟨k,hk,rfl,hall⟩:=hrel
  have HH:=Lib.hid hall
  clear hall
  by_cases hlt:k<n
  ·obtain⟨t,ht⟩: ∃t,ts[k]?=some t:=⟨_,List.getElem?_eq_getElem (by rw[←HN.out];exact hlt)⟩
   obtain⟨ad,rfl,had,hc⟩:=HA.out.at (zI_at ht)
   obtain⟨t1,t2⟩:=HT.out t (List.mem_of_getElem? ht)
   have HK:=Lib.hid (show okN (t:Int)=true by rw[okN,decide_eq_true (by omega:(1:Int)≤t),decide_eq_true (by omega:(t:Int)≤13)];rfl)
   obtain⟨m,hm⟩: ∃m,leastN (t:Int)=m:=⟨_,rfl⟩
   have HM:=Lib.hid hm
   have HTT:=Lib.hid ht
   have b1:(0:Int)≤(k:Int):=by omega
   have b2:(k:Int)<(n:Int):=by omega
   clear ht hm t1 t2
   by_cases hv:v<m
   ·have HBR:=Lib.hid (HB.out.symm.trans (fitX_at HTT.out (by rw[HM.out];exact hv)))
    go_wp2_with fail
    refine(pname_any t m true HM.out HK.out w).mono ?_
    rintro e w1 ⟨rfl,rfl⟩
    go_wp2
    go_ret
    exact⟨by rw[HBR.out];rfl,rfl⟩
   ·have HST:=Lib.hid (show∀j t:Nat,j<k+1→ts[j]?=some t→leastN (t:Int)≤v from by
     intro j t hj ht
     rcases Nat.lt_or_ge j k with h|h
     ·exact HH.out j t h ht
     ·have e:j=k:=by omega
      subst e
      rw[HTT.out]at ht
      cases ht
      have:=HM.out
      omega)
    go_wp2_with fail
    refine(pname_any t m true HM.out HK.out w).mono ?_
    rintro e w1 ⟨rfl,rfl⟩
    go_wp2
    go_round
    case rel=>exact⟨k+1,by omega,by go_num,HST.out⟩
    case measure=>simp[intOf];omega
  ·have e:k=n:=by omega
   subst e
   have HBR:=Lib.hid (HB.out.symm.trans (fitX_all (fun j t ht=>HH.out j t (by rw[HN.out];exact(List.getElem?_eq_some_iff.1 ht).1) ht)))
   clear hlt
   go_wp2
   go_ret
   exact⟨by rw[HBR.out];rfl,rfl⟩
end Go.Proofs.YtcnglbliidjnfaaGreatDoor
end
section
namespace Go.Proofs.YtcnglbliidjnfaaGreatDoor
set_option linter.unusedVariables false
open Go.ChangeShapes Go.WideShapes Go.ChangeAt Go.RowKit
structure TAt (w:World) (B:Nat) (p:Addr) (f:Tf) (S:Option Addr) (c:Nat):Prop where
 c0:w.cell? p=some (.int .i64 f.tag)
 c1:w.cell? ⟨p.block,p.off+1,none⟩=some (.slice S f.val.length c)
 bs:Bs w B f.val S c
theorem TAt.below {w w':World} {B B':Nat} {p:Addr} {f:Tf} {S:Option Addr} {c:Nat} (h:TAt w B p f S c) (hp:p.block<B') (hB:B≤B') (hb:Below B' w w'):TAt w' B p f S c:=
 ⟨(hb.cell hp).trans h.c0,(hb.cell (p:=⟨p.block,p.off+1,none⟩) hp).trans h.c1,h.bs.below (hb.mono hB)⟩
theorem TAt.more {w:World} {B B':Nat} {p:Addr} {f:Tf} {S:Option Addr} {c:Nat} (h:TAt w B p f S c) (hB:B≤B'):TAt w B' p f S c:=⟨h.c0,h.c1,h.bs.more hB⟩
structure Ts (w:World) (B:Nat) (l:List Tf) (A:Option Addr) (c:Nat):Prop where
 rd: ∀i,i<l.length→ ∃ad S cc,A=some ad∧ad.block<B∧TAt w B (ad.add (i*2)) (l.getD i TF0) S cc
 nil:A=none→c=0
 len:l.length≤c
 cap:c≤9223372036854775807
theorem Ts.below {w w':World} {B:Nat} {l:List Tf} {A:Option Addr} {c:Nat} (h:Ts w B l A c) (hb:Below B w w'):Ts w' B l A c:=by
 refine⟨fun i hi=> ?_,h.nil,h.len,h.cap⟩
 obtain⟨ad,S,cc,e,hlt,hk⟩:=h.rd i hi
 exact⟨ad,S,cc,e,hlt,hk.below (by rw[add_block];exact hlt) (Nat.le_refl _) hb⟩
theorem Ts.more {w:World} {B B':Nat} {l:List Tf} {A:Option Addr} {c:Nat} (h:Ts w B l A c) (hB:B≤B'):Ts w B' l A c:=by
 refine⟨fun i hi=> ?_,h.nil,h.len,h.cap⟩
 obtain⟨ad,S,cc,e,hlt,hk⟩:=h.rd i hi
 exact⟨ad,S,cc,e,by omega,hk.more hB⟩
theorem Ts.next {w w':World} {l:List Tf} {A:Option Addr} {c:Nat} (h:Ts w w.heap.size l A c) (hb:Below w.heap.size w w'):Ts w' w'.heap.size l A c:=(h.below hb).more hb.size
theorem Ts.vals {w:World} {B:Nat} {l:List Tf} {A:Option Addr} {c:Nat} (h:Ts w B l A c): ∀f∈l, ∀x∈f.val,x<256:=by
 intro f hf
 obtain⟨i,hi,rfl⟩:=List.mem_iff_getElem.1 hf
 obtain⟨ad,S,cc,_,_,hk⟩:=h.rd i hi
 have e:l.getD i TF0=l[i]:=by rw[List.getD_eq_getElem?_getD,List.getElem?_eq_getElem hi];rfl
 rw[←e]
 exact hk.bs.lt
theorem Ts.empty (w:World) (B:Nat):Ts w B [] none 0:=⟨by intro i hi;simp at hi,fun _=>rfl,by simp,by omega⟩
theorem bs_none (w:World) (B:Nat) (ad:Addr):Bs w B [] (some ad) 0:=⟨by intro k u hu;simp[U8]at hu,by simp,by simp,by omega,by simp⟩
structure TV where
 f:Tf
 S:Option Addr
 c:Nat
def TV.cells (q:TV):List Value:=[.int .i64 q.f.tag, .slice q.S q.f.val.length q.c]
def flatV (L:List TV):List Value:=L.flatMap TV.cells
theorem flatV_append (L M:List TV):flatV (L++M)=flatV L++flatV M:=by simp[flatV]
theorem flatV_one (q:TV):flatV [q]=q.cells:=by simp[flatV]
theorem length_flatV (L:List TV):(flatV L).length=L.length*2:=by
 induction L with
 |nil=>rfl
 |cons q L ih=>rw[show flatV (q::L)=q.cells++flatV L from rfl,List.length_append,ih,List.length_cons];simp[TV.cells];omega
theorem flatV_at (L:List TV) (i j:Nat) (q:TV) (hq:L[i]?=some q) (hj:j<2):(flatV L)[i*2+j]?=q.cells[j]?:=by
 induction L generalizing i with
 |nil=>simp at hq
 |cons x L ih=>
  rw[show flatV (x::L)=x.cells++flatV L from rfl]
  cases i with
  |zero=>
   simp at hq
   subst hq
   rw[Nat.zero_mul,Nat.zero_add,List.getElem?_append_left (by simp[TV.cells];omega)]
  |succ i=>
   rw[List.getElem?_append_right (by simp[TV.cells];omega)]
   have:(i+1)*2+j - x.cells.length=i*2+j:=by simp[TV.cells];omega
   rw[this]
   exact ih i (by simpa using hq)
theorem vcells_one (q:TV): ∀u∈q.cells,u.oneCell'=true:=by
 intro u hu
 simp[TV.cells]at hu
 rcases hu with rfl|rfl<;>rfl
theorem infoField3:(Tryz.prog.info? 77).map (fun i=>(i.zero,i.size,i.bytes))=some (some (.agg #[.int .i64 0, .slice none 0 0]),2,32):=by kernel_rfl
theorem ts_of_own {w:World} {base n:Nat} {v:Value} {L:List TV} (h:w.ownsRow base 77 2 v n (flatV L)) (hs: ∀q∈L,Bs w w.heap.size q.f.val q.S q.c): ∃A c,v= .slice A n c∧Ts w w.heap.size (L.map (·.f)) A c:=by
 have hn:L.length=n:=by
  have:=h.1
  rw[length_flatV]at this
  omega
 rcases h.2 with⟨rfl,h0⟩|⟨g,cap,cur,rfl,_,hg,h2,h3,_⟩
 ·subst h0
  obtain rfl:L=[]:=List.eq_nil_of_length_eq_zero hn
  exact⟨none,0,rfl,Ts.empty w _⟩
 ·unfold maxLen at h3
  refine⟨_,cap,rfl, ?_,by simp,by rw[List.length_map,hn];omega,by omega⟩
  have hg:g<w.heap.size:=(Array.getElem?_eq_some_iff.1 hg).1
  intro i hi
  have hi':i<L.length:=by simpa using hi
  have hq:L[i]?=some L[i]:=List.getElem?_eq_getElem hi'
  have hk:(L.map (·.f)).getD i TF0=L[i].f:=by
   rw[List.getD_eq_getElem?_getD,List.getElem?_map,hq];rfl
  have hc: ∀j,j<2→w.cell? ⟨g,i*2+j,none⟩=(L[i]).cells[j]?:=by
   intro j hj
   rw[h.cellAt _ (by omega),flatV_at L i j _ hq hj]
  rw[hk]
  refine⟨_,(L[i]).S,(L[i]).c,rfl,hg, ?_⟩
  rw[at_add]
  exact⟨hc 0 (by omega),hc 1 (by omega),hs _ (List.getElem_mem hi')⟩
theorem own_field_lit (w:World) (q:TV): ∀j u,q.cells[j]?=some u→(w.alloc (.cells q.cells.toArray 77)).cell? ((⟨w.heap.size,0,none⟩:Addr).add j)=some u:=by
 intro j u hu
 rw[at_add,cell_of_row (w.alloc (.cells q.cells.toArray 77)) w.heap.size j _ _ (0,0) (heap_alloc_new w _)]
 simpa using hu
theorem wpList_append_field {ops : Array Oper} {rest : List Oper} {o : Oper} {a : Act} {Q : Exit → Act → World → Prop} (hgd : o.guard = none) (s x : Operand)
    (ho : o.op = .call { callee := .builtin .append, args := #[s, x], argTypes := #[52, 52] })
    (w0 : World) (base m : Nat) (v : Value) (M : List TV) (q : TV) (hs : a.eval s = v) (hown : w0.ownsRow base 77 2 v m (flatV M))
    (H : Nat) (hH : w0.heap.size = H) (hx : a.eval x = .slice (some ⟨H, 0, none⟩) 1 1) (hM : m ≤ 1000000) (hbase : base ≤ w0.heap.size)
    (h : ∀ v' w', w'.ownsRow base 77 2 v' (m + 1) (flatV (M ++ [q])) → w0.grownBy w' v.ownBlock →
      wpList Tryz.prog ops Q rest (a.put o.dst v') w') :
    wpList Tryz.prog ops Q (o :: rest) a (w0.alloc (.cells q.cells.toArray 77)) := by
  subst hH
  obtain ⟨i0, hif, hz0, hz1, hz2⟩ := info_parts infoField3
  have hb0 := below_lit w0 q.cells.toArray 77
  have hown1 := own_below hown hb0
  refine wpList_append_own _ hgd s x 52 ho base 77 i0 _ 2 32 Tryz.underlying52 hif hz0 hz1 hz2 rfl (by decide) v m (flatV M) hs hown1 ⟨w0.heap.size, 0, none⟩ 1 1 q.cells hx rfl (own_field_lit w0 q) (vcells_one q) (by unfold maxLen; omega) (by omega) (Nat.le_trans hbase hb0.size) ?_
  intro v' w' hown' hg' _
  have hf : flatV (M ++ [q]) = flatV M ++ q.cells := by rw [flatV_append, flatV_one]
  rw [← hf] at hown'
  exact h v' w' hown' ⟨hg'.os.trans hb0.os, hg'.tape.trans hb0.tape, hg'.output.trans hb0.output, Nat.le_trans hb0.size hg'.size, fun k hk hne => (hg'.block k (Nat.lt_of_lt_of_le hk hb0.size) hne).trans (hb0.block k hk)⟩
theorem wpList_append_field_by {ops : Array Oper} {rest : List Oper} {o : Oper} {a : Act} {Q : Exit → Act → World → Prop} (hgd : o.guard = none) (s x : Operand)
    (ho : o.op = .call { callee := .builtin .append, args := #[s, x], argTypes := #[52, 52] })
    (w0 : World) (base m : Nat) (v : Value) (M : List TV) (q : TV) (cs : Array Value) (hcs : cs = q.cells.toArray) (hs : a.eval s = v) (hown : w0.ownsRow base 77 2 v m (flatV M))
    (H : Nat) (hH : w0.heap.size = H) (hx : a.eval x = .slice (some ⟨H, 0, none⟩) 1 1) (hM : m ≤ 1000000) (hbase : base ≤ w0.heap.size)
    (h : ∀ v' w', w'.ownsRow base 77 2 v' (m + 1) (flatV (M ++ [q])) → w0.grownBy w' v.ownBlock →
      wpList Tryz.prog ops Q rest (a.put o.dst v') w') :
    wpList Tryz.prog ops Q (o :: rest) a (w0.alloc (.cells cs 77)) := by
  subst hcs
  exact wpList_append_field hgd s x ho w0 base m v M q hs hown H hH hx hM hbase h
end Go.Proofs.YtcnglbliidjnfaaGreatDoor
end
section
namespace Go.Proofs.YtcnglbliidjnfaaGreatDoor
set_option linter.unusedVariables false
open Go.ChangeShapes Go.WideShapes Go.ChangeAt Go.RowKit
def TyB (w:World) (S:Option Addr):Prop:= ∀ad,S=some ad→ ∃cs fz,w.heap[ad.block]?=some (.cells cs 5 fz)
theorem TyB.next {w w':World} {S:Option Addr} (h:TyB w S) (hb:Below w.heap.size w w'):TyB w' S:=fun ad e=>by
 obtain⟨cs,fz,h1⟩:=h ad e
 exact⟨cs,fz,(hb.block _ (Array.getElem?_eq_some_iff.1 h1).1).trans h1⟩
theorem tyb_of_own {w:World} {base n m:Nat} {xs:List Value} {A:Option Addr} {c:Nat} (h:w.ownsRow base 5 1 (.slice A m c) n xs):TyB w A:=by
 intro ad e
 subst e
 rcases h.2 with⟨h1,_⟩|⟨g,cap,cur,h1,_,hg,_⟩
 ·cases h1
 ·cases h1
  exact⟨cur,_,hg⟩
theorem tyb_ne {w:World} {S:Option Addr} {base n:Nat} {v:Value} {xs:List Value} (h:TyB w S) (hown:w.ownsRow base 77 2 v n xs) {ad:Addr} (e:S=some ad):some ad.block≠v.ownBlock:=by
 intro hb
 obtain⟨cs,fz,h1⟩:=h ad e
 rcases hown.2 with⟨rfl,_⟩|⟨g,cap,cur,rfl,_,hg,_⟩
 ·cases hb
 ·simp only[Value.ownBlock,Option.some.injEq]at hb
  rw[hb,hg]at h1
  cases h1
theorem bs_grown {w w':World} {s:List Nat} {S:Option Addr} {c base n:Nat} {v:Value} {xs:List Value} (h:TyB w S) (hbs:Bs w w.heap.size s S c) (hown:w.ownsRow base 77 2 v n xs) (hg:w.grownBy w' v.ownBlock):TyB w' S∧Bs w' w'.heap.size s S c:=by
 refine⟨fun ad e=> ?_,fun k u hu=> ?_,hbs.nil,hbs.len,hbs.cap,hbs.lt⟩
 ·obtain⟨cs,fz,h1⟩:=h ad e
  exact⟨cs,fz,(hg.block _ (Array.getElem?_eq_some_iff.1 h1).1 (tyb_ne h hown e)).trans h1⟩
 ·obtain⟨ad,e,hlt,hc⟩:=hbs.rd k u hu
  exact⟨ad,e,Nat.lt_of_lt_of_le hlt hg.size,hg.cell hc (by rw[add_block];exact tyb_ne h hown e)⟩
end Go.Proofs.YtcnglbliidjnfaaGreatDoor
end
section
namespace Go.Proofs.YtcnglbliidjnfaaGreatDoor
set_option linter.unusedVariables false
open Go.ChangeShapes Go.WideShapes Go.ChangeAt Go.RowKit
set_option maxRecDepth 20000 in
theorem get_ok (l:List Nat) (A:Option Addr) (c B:Nat) (w:World) (hA:Rd w B A (U8 l)) (hb: ∀x∈l,x<256) (h8:l.length≤8) (h0:l.length=8→l.getD 0 0<128):
  Calls Tryz.prog 128 #[.slice A l.length c] w fun e w'=>e= .returned (.tuple #[.int .i64 (valB l:Nat), .int .i64 0])∧w=w':=by
 have h63:=valB_lt63 l hb h8 h0
 obtain⟨n,hn⟩: ∃n,n=l.length:=⟨_,rfl⟩
 have hn8:n≤8:=by omega
 have HB:=Lib.hid hb
 have hcase:n<8∨8≤n∧ ∃(ad:Addr) (x:Nat),A=some ad∧w.cell? ad=some (.int .u8 (x:Int))∧(x:Int)<128:=by
  by_cases e8:n<8
  ·exact .inl e8
  ·obtain⟨ad,rfl,_,hc⟩:=hA 0 _ (U8_at l 0 (by omega))
   have e0:l.getD 0 0=l[0]:=by rw[List.getD_eq_getElem?_getD,List.getElem?_eq_getElem (by omega)];rfl
   have:=h0 (by omega)
   rw[add_zero']at hc
   exact .inr ⟨by omega,ad,_,rfl,hc,by omega⟩
 rw[←hn]
 have HN:=Lib.hid hn
 have H63:=Lib.hid h63
 clear hn h0 hb h8 h63
 rcases hcase with h|⟨h,ad0,x0,rfl,hc0,hx0⟩
 all_goals
  go_enter Tryz.func128, Tryz.ntmps128
  go_wp2
  go_loop [4,20] (fun t i=> ∃k:Nat,k≤n∧i= .int .i64 k∧t= .int .u64 (valB (l.take k):Nat)) (fun _ i=>n - (intOf i).toNat)
  case atStart=>exact⟨0,Nat.zero_le _,rfl,rfl⟩
  case round=>
   obtain⟨k,hk,rfl,rfl⟩:=hrel
   by_cases hlt:k<n
   ·have hkl:k<l.length:=by rw[←HN.out];exact hlt
    obtain⟨ad,hsome,_,hc⟩:=hA k _ (U8_at l k hkl)
    cases hsome
    have hv:=valB_take_lt l HB.out k (by omega)
    have hs:=valB_take l k hkl
    have hx:=HB.out _ (List.getElem_mem hkl)
    generalize l[k]=x at*
    generalize valB (l.take k)=y at*
    have HS:=Lib.hid hs
    clear hA hkl hs
    go_wp2
    go_round
    case rel=>exact⟨k+1,by omega,by go_num,by rw[HS.out, ←or_byte64 y x hv hx]⟩
    case measure=>simp[intOf];omega
   ·have e:l.take k=l:=List.take_of_length_le (by rw[←HN.out];omega)
    rw[e]
    clear e
    have h63:=H63.out
    go_wp2
    go_ret2
    exact⟨rfl,rfl⟩
end Go.Proofs.YtcnglbliidjnfaaGreatDoor
end
