/- PROVED here: parts VaA VaB of the claim. No condition but those in each theorem's own head. -/
import Derived.Test.YtignojhijmamhaaGreatProg
import Derived.Tactics
import Derived.Tactics2
import Derived.WalkKit
import Derived.IntWalk
import Derived.KernelRfl
import Derived.Lib.Hide
import Derived.Below
import Derived.Deep.Draws
import Derived.Deep.QuietTactic
import Derived.BigQuiet
import Derived.StillTailTactics
import Derived.Deep.DeepCutAuto
import Derived.Laws.OwnMore
import Derived.Laws.Rows
import Derived.OrdersHeld
import Derived.Deep.RegionWith
import Derived.Maps.AppendAt
import Derived.Laws.MakeOwn
import Derived.Lib.QuietBelow
namespace Go.Proofs.YtignojhijmamhaaGreat.Va
open Go Go.RowKit
theorem gen_world {P:Program}{c:Code}{Q:Exit→Act→World→Prop}{a:Act}{w:World}(R:World→Prop)(h:R w)(k:∀w',R w'→Code.wp P c Q a w'):Code.wp P c Q a w:=k w h
theorem heap1 (w:World)(A:Obj):Below w.heap.size w (w.alloc A):=(Below.refl _ _).alloc (Nat.le_refl _) _
theorem bt {a b c:World}(h:Below a.heap.size a b)(k:Below b.heap.size b c):Below a.heap.size a c:=h.trans (k.mono h.size)
def VP (k n:Int)(w:World)(e:Ending)(w':World):Prop:=e = .returned (.agg #[.int .i64 k,.int .i64 n])∧Below w.heap.size w w'
def V2 (k n:Int)(b:Bool)(w:World)(e:Ending)(w':World):Prop:=e = .returned (.tuple #[.agg #[.int .i64 k,.int .i64 n],.bool b])∧Below w.heap.size w w'
def V3 (k n x:Int)(b:Bool)(w:World)(e:Ending)(w':World):Prop:=e = .returned (.tuple #[.agg #[.int .i64 k,.int .i64 n],.int .i64 x,.bool b])∧Below w.heap.size w w'
def VI (k n x:Int)(w:World)(e:Ending)(w':World):Prop:=e = .returned (.tuple #[.agg #[.int .i64 k,.int .i64 n],.int .i64 x])∧Below w.heap.size w w'
def BP (b:Bool)(w:World)(e:Ending)(w':World):Prop:=e = .returned (.bool b)∧Below w.heap.size w w'
def IP (n:Int)(w:World)(e:Ending)(w':World):Prop:=e = .returned (.int .i64 n)∧Below w.heap.size w w'
theorem str_ne {s t:ByteArray}(h:s≠t):(s.toList==t.toList)=false:=beq_eq_false_iff_ne.2 fun e=>h (by
 rw[ByteArray.toList_eq,ByteArray.toList_eq]at e
 cases s;cases t;simp_all)
theorem str_eq (s:ByteArray):(s.toList==s.toList)=true:=by simp
def Bx (w:World)(b:Nat)(t:TypeId)(l:List Value):Prop:=w.heap[b]?=some (.cells l.toArray t (0,0))
theorem Bx.new (w:World)(t:TypeId)(l:List Value):Bx (w.alloc (.cells l.toArray t)) w.heap.size t l:=heap_alloc_new w _
theorem Bx.lt {w:World}{b:Nat}{t:TypeId}{l:List Value}(h:Bx w b t l):b<w.heap.size:=(Array.getElem?_eq_some_iff.1 h).1
theorem Bx.cell {w:World}{b:Nat}{t:TypeId}{l:List Value}(h:Bx w b t l)(i:Nat):w.cell? ⟨b,i,none⟩=l[i]?:=by
 rw[cell_of_row w b i l.toArray t (0,0) h];simp
theorem Bx.frozen {w:World}{b:Nat}{t:TypeId}{l:List Value}(h:Bx w b t l)(i:Nat):w.frozen? ⟨b,i,none⟩=false:=frozen_of_row w b i l.toArray t h
theorem Bx.alloc {w:World}{b:Nat}{t:TypeId}{l:List Value}(h:Bx w b t l)(o:Obj):Bx (w.alloc o) b t l:=(heap_alloc_old w o h.lt).trans h
theorem Bx.below {w w':World}{b:Nat}{t:TypeId}{l:List Value}(h:Bx w b t l){B:Nat}(hb:Below B w w')(hg:b<B):Bx w' b t l:=(hb.block b hg).trans h
theorem Bx.set_ {w:World}{b:Nat}{t:TypeId}{l:List Value}(h:Bx w b t l)(i:Nat)(u:Value):Bx (w.setCell ⟨b,i,none⟩ u) b t (l.set i u):=by
 have:=heap_setCell_same w b i l.toArray t u h
 unfold Bx
 rw[this]
 simp
theorem Bx.far {w:World}{b:Nat}{t:TypeId}{l:List Value}(h:Bx w b t l){p:Addr}(hp:b≠p.block)(u:Value):Bx (w.setCell p u) b t l:=(Below.heap_setCell w p u b hp).trans h
theorem below2 {w w1:World}{g:Nat}{u v:Value}(h:Below w.heap.size w w1)(hg:w.heap.size≤g):Below w.heap.size w ((w1.setCell ⟨g,0,none⟩ u).setCell ⟨g,1,none⟩ v):=(h.setCell hg _).setCell hg _
theorem bcell3 {W w1:World}(hb:Below W.heap.size W w1):(∀b o,b<W.heap.size→w1.cell? ⟨b,o,none⟩=W.cell? ⟨b,o,none⟩)∧(∀b o,b<W.heap.size→w1.frozen? ⟨b,o,none⟩=W.frozen? ⟨b,o,none⟩)∧(∀n,n<W.heap.size→n<w1.heap.size):=
 ⟨fun b o h=>hb.cell (p:=⟨b,o,none⟩) h,fun b o h=>hb.frozen (p:=⟨b,o,none⟩) h,fun _ h=>Nat.lt_of_lt_of_le h hb.size⟩
theorem realloc {a w:World}{B:Nat}{o o':Obj}(h:Below B a (w.alloc o))(hz:B≤w.heap.size):Below B a (w.alloc o'):=
 ⟨h.os,h.tape,h.output,by have:=h.size;simpa using this,fun k hk=>by
  have:=h.block k hk
  rw[Below.heap_alloc w o k (Nat.lt_of_lt_of_le hk hz)]at this
  rw[Below.heap_alloc w o' k (Nat.lt_of_lt_of_le hk hz)]
  exact this⟩
def tB (b:Bool):Int:=if b then 1 else 0
def calR (s:ByteArray)(a b:Int):Option Int:=if s=⟨#[43]⟩ then some (wrap64 (a+b)) else if s=⟨#[45]⟩ then some (wrap64 (a-b)) else if s=⟨#[42]⟩ then some (wrap64 (a*b)) else none
def cmpR (s:ByteArray)(a b:Int):Option Bool:=
 if s=⟨#[61,61]⟩ then some (a==b) else if s=⟨#[33,61]⟩ then some (a != b) else if s=⟨#[60]⟩ then some (decide (a<b)) else if s=⟨#[60,61]⟩ then some (decide (a≤b)) else if s=⟨#[62]⟩ then some (decide (b<a)) else if s=⟨#[62,61]⟩ then some (decide (b≤a)) else none
def truR (s:ByteArray)(x y:Bool):Option Bool:=
 if s=⟨#[38,38]⟩ then some (x&&y) else if s=⟨#[124,124]⟩ then some (x || y) else if s=⟨#[61,61]⟩ then some (x==y) else if s=⟨#[33,61]⟩ then some (x != y) else none
def optT:Option Bool→(Int × Int) × Int × Bool
 |none=>((0,0),0,false)
 |some t=>((2,tB t),0,true)
def divR (q:Int)(b:Int):(Int × Int) × Int × Bool:=if b=0 then ((0,0),1,true) else ((1,q),0,true)
def numR (s:ByteArray)(a b:Int):(Int × Int) × Int × Bool:=
 if s=⟨#[43]⟩ then ((1,wrap64 (a+b)),0,true) else if s=⟨#[45]⟩ then ((1,wrap64 (a-b)),0,true) else if s=⟨#[42]⟩ then ((1,wrap64 (a*b)),0,true)
 else if s=⟨#[47]⟩ then divR (wrap64 (a.tdiv b)) b else if s=⟨#[37]⟩ then divR (a.tmod b) b else optT (cmpR s a b)
def binR (s:ByteArray)(ka na kb nb:Int):(Int × Int) × Int × Bool:=
 if ka=1∧kb=1 then numR s na nb else if ka=2∧kb=2 then optT (truR s (na != 0) (nb != 0)) else ((0,0),0,false)
def unR (s:ByteArray)(k n:Int):(Int × Int) × Bool:=
 if s=⟨#[45]⟩∧k=1 then ((1,wrap64 (-n)),true) else if s=⟨#[33]⟩∧k=2 then ((2,tB (n==0)),true) else ((0,0),false)
set_option maxRecDepth 100000 in
theorem number_any (n:Int)(w:World):Calls Tryz.prog 31 #[.int .i64 n] w fun e w'=>e = .returned (.agg #[.int .i64 1,.int .i64 n])∧w'=w.alloc (.cells #[.int .i64 1,.int .i64 n] 43):=by
 go_enter Tryz.func31,Tryz.ntmps31
 go_wp2
 exact bodyPost_ret (v :=.agg #[.int .i64 1,.int .i64 n]) (by simp[results,Tryz.results31,go_sem]) rfl ⟨rfl,rfl⟩
set_option maxRecDepth 100000 in
theorem num_any (n:Int)(w:World):Calls Tryz.prog 11 #[.int .i64 n] w fun e w'=>e = .returned (.agg #[.int .i64 1,.int .i64 n])∧w'=w.alloc (.cells #[.int .i64 1,.int .i64 n] 43):=by
 go_enter Tryz.func11,Tryz.ntmps11
 go_wp2
 exact bodyPost_ret (v :=.agg #[.int .i64 1,.int .i64 n]) (by simp[results,Tryz.results11,go_sem]) rfl ⟨rfl,rfl⟩
set_option maxRecDepth 100000 in
theorem zero_any (k:Int)(w:World):Calls Tryz.prog 15 #[.int .i64 k] w fun e w'=>e = .returned (.agg #[.int .i64 k,.int .i64 0])∧w'=w.alloc (.cells #[.int .i64 k,.int .i64 0] 43):=by
 go_enter Tryz.func15,Tryz.ntmps15
 go_wp2
 exact bodyPost_ret (v :=.agg #[.int .i64 k,.int .i64 0]) (by simp[results,Tryz.results15,go_sem]) rfl ⟨rfl,rfl⟩
set_option maxRecDepth 100000 in
theorem truth_any (b:Bool)(w:World):Calls Tryz.prog 52 #[.bool b] w fun e w'=>e = .returned (.agg #[.int .i64 2,.int .i64 (tB b)])∧w'=w.alloc (.cells #[.int .i64 2,.int .i64 (tB b)] 43):=by
 cases b with
 |false=>
  show Calls _ _ _ _ fun e w'=>e = .returned (.agg #[.int .i64 2,.int .i64 0])∧w'=w.alloc (.cells #[.int .i64 2,.int .i64 0] 43)
  go_enter Tryz.func52,Tryz.ntmps52
  go_wp2
  exact bodyPost_ret (v :=.agg #[.int .i64 2,.int .i64 0]) (by simp[results,Tryz.results52,go_sem]) rfl ⟨rfl,rfl⟩
 |true=>
  show Calls _ _ _ _ fun e w'=>e = .returned (.agg #[.int .i64 2,.int .i64 1])∧w'=w.alloc (.cells #[.int .i64 2,.int .i64 1] 43)
  go_enter Tryz.func52,Tryz.ntmps52
  go_wp2
  exact bodyPost_ret (v :=.agg #[.int .i64 2,.int .i64 1]) (by simp[results,Tryz.results52,go_sem]) rfl ⟨rfl,rfl⟩
set_option maxRecDepth 100000 in
theorem of_any (b:Bool)(w:World):Calls Tryz.prog 81 #[.bool b] w fun e w'=>e = .returned (.agg #[.int .i64 2,.int .i64 (tB b)])∧w'=w.alloc (.cells #[.int .i64 2,.int .i64 (tB b)] 49):=by
 cases b with
 |false=>
  show Calls _ _ _ _ fun e w'=>e = .returned (.agg #[.int .i64 2,.int .i64 0])∧w'=w.alloc (.cells #[.int .i64 2,.int .i64 0] 49)
  go_enter Tryz.func81,Tryz.ntmps81
  go_wp2
  exact bodyPost_ret (v :=.agg #[.int .i64 2,.int .i64 0]) (by simp[results,Tryz.results81,go_sem]) rfl ⟨rfl,rfl⟩
 |true=>
  show Calls _ _ _ _ fun e w'=>e = .returned (.agg #[.int .i64 2,.int .i64 1])∧w'=w.alloc (.cells #[.int .i64 2,.int .i64 1] 49)
  go_enter Tryz.func81,Tryz.ntmps81
  go_wp2
  exact bodyPost_ret (v :=.agg #[.int .i64 2,.int .i64 1]) (by simp[results,Tryz.results81,go_sem]) rfl ⟨rfl,rfl⟩
set_option maxRecDepth 100000 in
theorem as_any (k n:Int)(w:World):Calls Tryz.prog 7 #[.agg #[.int .i64 k,.int .i64 n]] w (VP k n w):=by
 go_enter Tryz.func7,Tryz.ntmps7
 go_wp2
 exact bodyPost_ret (v :=.agg #[.int .i64 k,.int .i64 n]) (by simp[results,Tryz.results7,go_sem]) rfl ⟨rfl,(heap1 _ _).alloc (by simp) _⟩
set_option maxRecDepth 100000 in
theorem isTrue_any (k n:Int)(w:World):Calls Tryz.prog 27 #[.agg #[.int .i64 k,.int .i64 n]] w (BP (n != 0) w):=by
 go_enter Tryz.func27,Tryz.ntmps27
 go_wp2
 go_ret
 exact⟨rfl,heap1 _ _⟩
end Go.Proofs.YtignojhijmamhaaGreat.Va
namespace Go.Proofs.YtignojhijmamhaaGreat.Va
open Go Go.RowKit
theorem str_nl {s:ByteArray}{l:List UInt8}(h:s≠⟨l.toArray⟩):(s.toList==l)=false:=beq_eq_false_iff_ne.2 fun e=>h (by
 rw[ByteArray.toList_eq]at e
 cases s;subst e;simp_all)
def optZ2:Option Int→Int × Bool
 |none=>(0,false)
 |some n=>(n,true)
def optB2:Option Bool→Bool × Bool
 |none=>(false,false)
 |some n=>(n,true)
set_option maxRecDepth 100000 in
theorem calculated_any (s:ByteArray)(a b:Int)(w:World):Calls Tryz.prog 50 #[.string s,.int .i64 a,.int .i64 b] w fun e w'=>e = .returned (.tuple #[.int .i64 (optZ2 (calR s a b)).1,.bool (optZ2 (calR s a b)).2])∧w=w':=by
 by_cases h0:s=⟨#[43]⟩
 ·subst h0
  have e0:=str_eq ⟨#[43]⟩
  have d1:=str_ne (show(⟨#[43]⟩:ByteArray)≠⟨#[45]⟩by decide)
  have d2:=str_ne (show(⟨#[43]⟩:ByteArray)≠⟨#[42]⟩by decide)
  rw[show calR ⟨#[43]⟩ a b=some (wrap64 (a+b))by unfold calR;rw[if_pos rfl]]
  show Calls _ _ _ _ fun e w'=>e = .returned (.tuple #[.int .i64 (wrap64 (a+b)),.bool true])∧w=w'
  go_enter Tryz.func50,Tryz.ntmps50
  go_wp2
  go_ret2
  exact⟨rfl,rfl⟩
 ·have n0:=str_nl (l:=[43]) h0
  by_cases h1:s=⟨#[45]⟩
  ·subst h1
   have e1:=str_eq ⟨#[45]⟩
   have d0:=str_ne (show(⟨#[45]⟩:ByteArray)≠⟨#[43]⟩by decide)
   have d2:=str_ne (show(⟨#[45]⟩:ByteArray)≠⟨#[42]⟩by decide)
   clear n0 h0
   rw[show calR ⟨#[45]⟩ a b=some (wrap64 (a-b))by unfold calR;rw[if_neg (by decide),if_pos rfl]]
   show Calls _ _ _ _ fun e w'=>e = .returned (.tuple #[.int .i64 (wrap64 (a-b)),.bool true])∧w=w'
   go_enter Tryz.func50,Tryz.ntmps50
   go_wp2
   go_ret2
   exact⟨rfl,rfl⟩
  ·have n1:=str_nl (l:=[45]) h1
   by_cases h2:s=⟨#[42]⟩
   ·subst h2
    have e2:=str_eq ⟨#[42]⟩
    have d0:=str_ne (show(⟨#[42]⟩:ByteArray)≠⟨#[43]⟩by decide)
    have d1:=str_ne (show(⟨#[42]⟩:ByteArray)≠⟨#[45]⟩by decide)
    clear n0 h0
    clear n1 h1
    rw[show calR ⟨#[42]⟩ a b=some (wrap64 (a*b))by unfold calR;rw[if_neg (by decide),if_neg (by decide),if_pos rfl]]
    show Calls _ _ _ _ fun e w'=>e = .returned (.tuple #[.int .i64 (wrap64 (a*b)),.bool true])∧w=w'
    go_enter Tryz.func50,Tryz.ntmps50
    go_wp2
    go_ret2
    exact⟨rfl,rfl⟩
   ·have n2:=str_nl (l:=[42]) h2
    rw[show calR s a b=none by unfold calR;rw[if_neg h0,if_neg h1,if_neg h2]]
    show Calls _ _ _ _ fun e w'=>e = .returned (.tuple #[.int .i64 0,.bool false])∧w=w'
    clear h0 h1 h2
    go_enter Tryz.func50,Tryz.ntmps50
    go_wp2
    go_ret2
    exact⟨rfl,rfl⟩
set_option maxRecDepth 100000 in
theorem compared_any (s:ByteArray)(a b:Int)(w:World):Calls Tryz.prog 51 #[.string s,.int .i64 a,.int .i64 b] w fun e w'=>e = .returned (.tuple #[.bool (optB2 (cmpR s a b)).1,.bool (optB2 (cmpR s a b)).2])∧w=w':=by
 by_cases h0:s=⟨#[61,61]⟩
 ·subst h0
  have e0:=str_eq ⟨#[61,61]⟩
  have d1:=str_ne (show(⟨#[61,61]⟩:ByteArray)≠⟨#[33,61]⟩by decide)
  have d2:=str_ne (show(⟨#[61,61]⟩:ByteArray)≠⟨#[60]⟩by decide)
  have d3:=str_ne (show(⟨#[61,61]⟩:ByteArray)≠⟨#[60,61]⟩by decide)
  have d4:=str_ne (show(⟨#[61,61]⟩:ByteArray)≠⟨#[62]⟩by decide)
  have d5:=str_ne (show(⟨#[61,61]⟩:ByteArray)≠⟨#[62,61]⟩by decide)
  rw[show cmpR ⟨#[61,61]⟩ a b=some (a==b)by unfold cmpR;rw[if_pos rfl]]
  show Calls _ _ _ _ fun e w'=>e = .returned (.tuple #[.bool (a==b),.bool true])∧w=w'
  go_enter Tryz.func51,Tryz.ntmps51
  go_wp2
  go_ret2
  exact⟨rfl,rfl⟩
 ·have n0:=str_nl (l:=[61,61]) h0
  by_cases h1:s=⟨#[33,61]⟩
  ·subst h1
   have e1:=str_eq ⟨#[33,61]⟩
   have d0:=str_ne (show(⟨#[33,61]⟩:ByteArray)≠⟨#[61,61]⟩by decide)
   have d2:=str_ne (show(⟨#[33,61]⟩:ByteArray)≠⟨#[60]⟩by decide)
   have d3:=str_ne (show(⟨#[33,61]⟩:ByteArray)≠⟨#[60,61]⟩by decide)
   have d4:=str_ne (show(⟨#[33,61]⟩:ByteArray)≠⟨#[62]⟩by decide)
   have d5:=str_ne (show(⟨#[33,61]⟩:ByteArray)≠⟨#[62,61]⟩by decide)
   clear n0 h0
   rw[show cmpR ⟨#[33,61]⟩ a b=some (a != b)by unfold cmpR;rw[if_neg (by decide),if_pos rfl]]
   show Calls _ _ _ _ fun e w'=>e = .returned (.tuple #[.bool (a != b),.bool true])∧w=w'
   go_enter Tryz.func51,Tryz.ntmps51
   go_wp2
   go_ret2
   exact⟨rfl,rfl⟩
  ·have n1:=str_nl (l:=[33,61]) h1
   by_cases h2:s=⟨#[60]⟩
   ·subst h2
    have e2:=str_eq ⟨#[60]⟩
    have d0:=str_ne (show(⟨#[60]⟩:ByteArray)≠⟨#[61,61]⟩by decide)
    have d1:=str_ne (show(⟨#[60]⟩:ByteArray)≠⟨#[33,61]⟩by decide)
    have d3:=str_ne (show(⟨#[60]⟩:ByteArray)≠⟨#[60,61]⟩by decide)
    have d4:=str_ne (show(⟨#[60]⟩:ByteArray)≠⟨#[62]⟩by decide)
    have d5:=str_ne (show(⟨#[60]⟩:ByteArray)≠⟨#[62,61]⟩by decide)
    clear n0 h0
    clear n1 h1
    rw[show cmpR ⟨#[60]⟩ a b=some (decide (a<b))by unfold cmpR;rw[if_neg (by decide),if_neg (by decide),if_pos rfl]]
    show Calls _ _ _ _ fun e w'=>e = .returned (.tuple #[.bool (decide (a<b)),.bool true])∧w=w'
    go_enter Tryz.func51,Tryz.ntmps51
    go_wp2
    go_ret2
    exact⟨rfl,rfl⟩
   ·have n2:=str_nl (l:=[60]) h2
    by_cases h3:s=⟨#[60,61]⟩
    ·subst h3
     have e3:=str_eq ⟨#[60,61]⟩
     have d0:=str_ne (show(⟨#[60,61]⟩:ByteArray)≠⟨#[61,61]⟩by decide)
     have d1:=str_ne (show(⟨#[60,61]⟩:ByteArray)≠⟨#[33,61]⟩by decide)
     have d2:=str_ne (show(⟨#[60,61]⟩:ByteArray)≠⟨#[60]⟩by decide)
     have d4:=str_ne (show(⟨#[60,61]⟩:ByteArray)≠⟨#[62]⟩by decide)
     have d5:=str_ne (show(⟨#[60,61]⟩:ByteArray)≠⟨#[62,61]⟩by decide)
     clear n0 h0
     clear n1 h1
     clear n2 h2
     rw[show cmpR ⟨#[60,61]⟩ a b=some (decide (a≤b))by unfold cmpR;rw[if_neg (by decide),if_neg (by decide),if_neg (by decide),if_pos rfl]]
     show Calls _ _ _ _ fun e w'=>e = .returned (.tuple #[.bool (decide (a≤b)),.bool true])∧w=w'
     go_enter Tryz.func51,Tryz.ntmps51
     go_wp2
     go_ret2
     exact⟨rfl,rfl⟩
    ·have n3:=str_nl (l:=[60,61]) h3
     by_cases h4:s=⟨#[62]⟩
     ·subst h4
      have e4:=str_eq ⟨#[62]⟩
      have d0:=str_ne (show(⟨#[62]⟩:ByteArray)≠⟨#[61,61]⟩by decide)
      have d1:=str_ne (show(⟨#[62]⟩:ByteArray)≠⟨#[33,61]⟩by decide)
      have d2:=str_ne (show(⟨#[62]⟩:ByteArray)≠⟨#[60]⟩by decide)
      have d3:=str_ne (show(⟨#[62]⟩:ByteArray)≠⟨#[60,61]⟩by decide)
      have d5:=str_ne (show(⟨#[62]⟩:ByteArray)≠⟨#[62,61]⟩by decide)
      clear n0 h0
      clear n1 h1
      clear n2 h2
      clear n3 h3
      rw[show cmpR ⟨#[62]⟩ a b=some (decide (b<a))by unfold cmpR;rw[if_neg (by decide),if_neg (by decide),if_neg (by decide),if_neg (by decide),if_pos rfl]]
      show Calls _ _ _ _ fun e w'=>e = .returned (.tuple #[.bool (decide (b<a)),.bool true])∧w=w'
      go_enter Tryz.func51,Tryz.ntmps51
      go_wp2
      go_ret2
      exact⟨rfl,rfl⟩
     ·have n4:=str_nl (l:=[62]) h4
      by_cases h5:s=⟨#[62,61]⟩
      ·subst h5
       have e5:=str_eq ⟨#[62,61]⟩
       have d0:=str_ne (show(⟨#[62,61]⟩:ByteArray)≠⟨#[61,61]⟩by decide)
       have d1:=str_ne (show(⟨#[62,61]⟩:ByteArray)≠⟨#[33,61]⟩by decide)
       have d2:=str_ne (show(⟨#[62,61]⟩:ByteArray)≠⟨#[60]⟩by decide)
       have d3:=str_ne (show(⟨#[62,61]⟩:ByteArray)≠⟨#[60,61]⟩by decide)
       have d4:=str_ne (show(⟨#[62,61]⟩:ByteArray)≠⟨#[62]⟩by decide)
       clear n0 h0
       clear n1 h1
       clear n2 h2
       clear n3 h3
       clear n4 h4
       rw[show cmpR ⟨#[62,61]⟩ a b=some (decide (b≤a))by unfold cmpR;rw[if_neg (by decide),if_neg (by decide),if_neg (by decide),if_neg (by decide),if_neg (by decide),if_pos rfl]]
       show Calls _ _ _ _ fun e w'=>e = .returned (.tuple #[.bool (decide (b≤a)),.bool true])∧w=w'
       go_enter Tryz.func51,Tryz.ntmps51
       go_wp2
       go_ret2
       exact⟨rfl,rfl⟩
      ·have n5:=str_nl (l:=[62,61]) h5
       rw[show cmpR s a b=none by unfold cmpR;rw[if_neg h0,if_neg h1,if_neg h2,if_neg h3,if_neg h4,if_neg h5]]
       show Calls _ _ _ _ fun e w'=>e = .returned (.tuple #[.bool false,.bool false])∧w=w'
       clear h0 h1 h2 h3 h4 h5
       go_enter Tryz.func51,Tryz.ntmps51
       go_wp2
       go_ret2
       exact⟨rfl,rfl⟩
def optP:Option Bool→(Int × Int) × Bool
 |none=>((0,0),false)
 |some t=>((2,tB t),true)
set_option maxRecDepth 100000 in
theorem held_any (s:ByteArray)(a b:Int)(w:World):Calls Tryz.prog 107 #[.string s,.int .i64 a,.int .i64 b] w (V2 (optP (cmpR s a b)).1.1 (optP (cmpR s a b)).1.2 (optP (cmpR s a b)).2 w):=by
 by_cases h0:s=⟨#[61,61]⟩
 ·subst h0
  have e0:=str_eq ⟨#[61,61]⟩
  have d1:=str_ne (show(⟨#[61,61]⟩:ByteArray)≠⟨#[33,61]⟩by decide)
  have d2:=str_ne (show(⟨#[61,61]⟩:ByteArray)≠⟨#[60]⟩by decide)
  have d3:=str_ne (show(⟨#[61,61]⟩:ByteArray)≠⟨#[60,61]⟩by decide)
  have d4:=str_ne (show(⟨#[61,61]⟩:ByteArray)≠⟨#[62]⟩by decide)
  have d5:=str_ne (show(⟨#[61,61]⟩:ByteArray)≠⟨#[62,61]⟩by decide)
  rw[show cmpR ⟨#[61,61]⟩ a b=some (a==b)by unfold cmpR;rw[if_pos rfl]]
  show Calls _ _ _ _ (V2 2 (tB (a==b)) true w)
  have HO:=Lib.hid (fun W=>of_any (a==b) W)
  go_enter Tryz.func107,Tryz.ntmps107
  go_wp2_with (go_at_call 81;refine(HO.out _).mono ?_;rintro e w' ⟨rfl,rfl⟩)
  exact bodyPost_ret (v :=.tuple #[.agg #[.int .i64 2,.int .i64 (tB (a==b))],.bool true]) (by simp[results,Tryz.results107,go_sem]) rfl ⟨rfl,(heap1 _ _).alloc (by simp) _⟩
 ·have n0:=str_nl (l:=[61,61]) h0
  by_cases h1:s=⟨#[33,61]⟩
  ·subst h1
   have e1:=str_eq ⟨#[33,61]⟩
   have d0:=str_ne (show(⟨#[33,61]⟩:ByteArray)≠⟨#[61,61]⟩by decide)
   have d2:=str_ne (show(⟨#[33,61]⟩:ByteArray)≠⟨#[60]⟩by decide)
   have d3:=str_ne (show(⟨#[33,61]⟩:ByteArray)≠⟨#[60,61]⟩by decide)
   have d4:=str_ne (show(⟨#[33,61]⟩:ByteArray)≠⟨#[62]⟩by decide)
   have d5:=str_ne (show(⟨#[33,61]⟩:ByteArray)≠⟨#[62,61]⟩by decide)
   clear n0 h0
   rw[show cmpR ⟨#[33,61]⟩ a b=some (a != b)by unfold cmpR;rw[if_neg (by decide),if_pos rfl]]
   show Calls _ _ _ _ (V2 2 (tB (a != b)) true w)
   have HO:=Lib.hid (fun W=>of_any (a != b) W)
   go_enter Tryz.func107,Tryz.ntmps107
   go_wp2_with (go_at_call 81;refine(HO.out _).mono ?_;rintro e w' ⟨rfl,rfl⟩)
   exact bodyPost_ret (v :=.tuple #[.agg #[.int .i64 2,.int .i64 (tB (a != b))],.bool true]) (by simp[results,Tryz.results107,go_sem]) rfl ⟨rfl,(heap1 _ _).alloc (by simp) _⟩
  ·have n1:=str_nl (l:=[33,61]) h1
   by_cases h2:s=⟨#[60]⟩
   ·subst h2
    have e2:=str_eq ⟨#[60]⟩
    have d0:=str_ne (show(⟨#[60]⟩:ByteArray)≠⟨#[61,61]⟩by decide)
    have d1:=str_ne (show(⟨#[60]⟩:ByteArray)≠⟨#[33,61]⟩by decide)
    have d3:=str_ne (show(⟨#[60]⟩:ByteArray)≠⟨#[60,61]⟩by decide)
    have d4:=str_ne (show(⟨#[60]⟩:ByteArray)≠⟨#[62]⟩by decide)
    have d5:=str_ne (show(⟨#[60]⟩:ByteArray)≠⟨#[62,61]⟩by decide)
    clear n0 h0
    clear n1 h1
    rw[show cmpR ⟨#[60]⟩ a b=some (decide (a<b))by unfold cmpR;rw[if_neg (by decide),if_neg (by decide),if_pos rfl]]
    show Calls _ _ _ _ (V2 2 (tB (decide (a<b))) true w)
    have HO:=Lib.hid (fun W=>of_any (decide (a<b)) W)
    go_enter Tryz.func107,Tryz.ntmps107
    go_wp2_with (go_at_call 81;refine(HO.out _).mono ?_;rintro e w' ⟨rfl,rfl⟩)
    exact bodyPost_ret (v :=.tuple #[.agg #[.int .i64 2,.int .i64 (tB (decide (a<b)))],.bool true]) (by simp[results,Tryz.results107,go_sem]) rfl ⟨rfl,(heap1 _ _).alloc (by simp) _⟩
   ·have n2:=str_nl (l:=[60]) h2
    by_cases h3:s=⟨#[60,61]⟩
    ·subst h3
     have e3:=str_eq ⟨#[60,61]⟩
     have d0:=str_ne (show(⟨#[60,61]⟩:ByteArray)≠⟨#[61,61]⟩by decide)
     have d1:=str_ne (show(⟨#[60,61]⟩:ByteArray)≠⟨#[33,61]⟩by decide)
     have d2:=str_ne (show(⟨#[60,61]⟩:ByteArray)≠⟨#[60]⟩by decide)
     have d4:=str_ne (show(⟨#[60,61]⟩:ByteArray)≠⟨#[62]⟩by decide)
     have d5:=str_ne (show(⟨#[60,61]⟩:ByteArray)≠⟨#[62,61]⟩by decide)
     clear n0 h0
     clear n1 h1
     clear n2 h2
     rw[show cmpR ⟨#[60,61]⟩ a b=some (decide (a≤b))by unfold cmpR;rw[if_neg (by decide),if_neg (by decide),if_neg (by decide),if_pos rfl]]
     show Calls _ _ _ _ (V2 2 (tB (decide (a≤b))) true w)
     have HO:=Lib.hid (fun W=>of_any (decide (a≤b)) W)
     go_enter Tryz.func107,Tryz.ntmps107
     go_wp2_with (go_at_call 81;refine(HO.out _).mono ?_;rintro e w' ⟨rfl,rfl⟩)
     exact bodyPost_ret (v :=.tuple #[.agg #[.int .i64 2,.int .i64 (tB (decide (a≤b)))],.bool true]) (by simp[results,Tryz.results107,go_sem]) rfl ⟨rfl,(heap1 _ _).alloc (by simp) _⟩
    ·have n3:=str_nl (l:=[60,61]) h3
     by_cases h4:s=⟨#[62]⟩
     ·subst h4
      have e4:=str_eq ⟨#[62]⟩
      have d0:=str_ne (show(⟨#[62]⟩:ByteArray)≠⟨#[61,61]⟩by decide)
      have d1:=str_ne (show(⟨#[62]⟩:ByteArray)≠⟨#[33,61]⟩by decide)
      have d2:=str_ne (show(⟨#[62]⟩:ByteArray)≠⟨#[60]⟩by decide)
      have d3:=str_ne (show(⟨#[62]⟩:ByteArray)≠⟨#[60,61]⟩by decide)
      have d5:=str_ne (show(⟨#[62]⟩:ByteArray)≠⟨#[62,61]⟩by decide)
      clear n0 h0
      clear n1 h1
      clear n2 h2
      clear n3 h3
      rw[show cmpR ⟨#[62]⟩ a b=some (decide (b<a))by unfold cmpR;rw[if_neg (by decide),if_neg (by decide),if_neg (by decide),if_neg (by decide),if_pos rfl]]
      show Calls _ _ _ _ (V2 2 (tB (decide (b<a))) true w)
      have HO:=Lib.hid (fun W=>of_any (decide (b<a)) W)
      go_enter Tryz.func107,Tryz.ntmps107
      go_wp2_with (go_at_call 81;refine(HO.out _).mono ?_;rintro e w' ⟨rfl,rfl⟩)
      exact bodyPost_ret (v :=.tuple #[.agg #[.int .i64 2,.int .i64 (tB (decide (b<a)))],.bool true]) (by simp[results,Tryz.results107,go_sem]) rfl ⟨rfl,(heap1 _ _).alloc (by simp) _⟩
     ·have n4:=str_nl (l:=[62]) h4
      by_cases h5:s=⟨#[62,61]⟩
      ·subst h5
       have e5:=str_eq ⟨#[62,61]⟩
       have d0:=str_ne (show(⟨#[62,61]⟩:ByteArray)≠⟨#[61,61]⟩by decide)
       have d1:=str_ne (show(⟨#[62,61]⟩:ByteArray)≠⟨#[33,61]⟩by decide)
       have d2:=str_ne (show(⟨#[62,61]⟩:ByteArray)≠⟨#[60]⟩by decide)
       have d3:=str_ne (show(⟨#[62,61]⟩:ByteArray)≠⟨#[60,61]⟩by decide)
       have d4:=str_ne (show(⟨#[62,61]⟩:ByteArray)≠⟨#[62]⟩by decide)
       clear n0 h0
       clear n1 h1
       clear n2 h2
       clear n3 h3
       clear n4 h4
       rw[show cmpR ⟨#[62,61]⟩ a b=some (decide (b≤a))by unfold cmpR;rw[if_neg (by decide),if_neg (by decide),if_neg (by decide),if_neg (by decide),if_neg (by decide),if_pos rfl]]
       show Calls _ _ _ _ (V2 2 (tB (decide (b≤a))) true w)
       have HO:=Lib.hid (fun W=>of_any (decide (b≤a)) W)
       go_enter Tryz.func107,Tryz.ntmps107
       go_wp2_with (go_at_call 81;refine(HO.out _).mono ?_;rintro e w' ⟨rfl,rfl⟩)
       exact bodyPost_ret (v :=.tuple #[.agg #[.int .i64 2,.int .i64 (tB (decide (b≤a)))],.bool true]) (by simp[results,Tryz.results107,go_sem]) rfl ⟨rfl,(heap1 _ _).alloc (by simp) _⟩
      ·have n5:=str_nl (l:=[62,61]) h5
       rw[show cmpR s a b=none by unfold cmpR;rw[if_neg h0,if_neg h1,if_neg h2,if_neg h3,if_neg h4,if_neg h5]]
       show Calls _ _ _ _ (V2 0 0 false w)
       clear h0 h1 h2 h3 h4 h5
       go_enter Tryz.func107,Tryz.ntmps107
       go_wp2
       exact bodyPost_ret (v :=.tuple #[.agg #[.int .i64 0,.int .i64 0],.bool false]) (by simp[results,Tryz.results107,go_sem]) rfl ⟨rfl,heap1 _ _⟩
set_option maxRecDepth 100000 in
theorem ofTruths_any (s:ByteArray)(x y:Bool)(w:World):Calls Tryz.prog 26 #[.string s,.bool x,.bool y] w (V2 (optP (truR s x y)).1.1 (optP (truR s x y)).1.2 (optP (truR s x y)).2 w):=by
 by_cases h0:s=⟨#[38,38]⟩
 ·subst h0
  have e0:=str_eq ⟨#[38,38]⟩
  have d1:=str_ne (show(⟨#[38,38]⟩:ByteArray)≠⟨#[124,124]⟩by decide)
  have d2:=str_ne (show(⟨#[38,38]⟩:ByteArray)≠⟨#[61,61]⟩by decide)
  have d3:=str_ne (show(⟨#[38,38]⟩:ByteArray)≠⟨#[33,61]⟩by decide)
  rw[show truR ⟨#[38,38]⟩ x y=some (x&&y)by unfold truR;rw[if_pos rfl]]
  show Calls _ _ _ _ (V2 2 (tB (x&&y)) true w)
  cases x
  ·have HO:=Lib.hid (fun W=>truth_any (false&&y) W)
   go_enter Tryz.func26,Tryz.ntmps26
   go_wp2_with (go_at_call 52;refine(HO.out _).mono ?_;rintro e w' ⟨rfl,rfl⟩)
   exact bodyPost_ret (v :=.tuple #[.agg #[.int .i64 2,.int .i64 (tB (false&&y))],.bool true]) (by simp[results,Tryz.results26,go_sem]) rfl ⟨rfl,(heap1 _ _).alloc (by simp) _⟩
  ·have HO:=Lib.hid (fun W=>truth_any (true&&y) W)
   go_enter Tryz.func26,Tryz.ntmps26
   go_wp2_with (go_at_call 52;refine(HO.out _).mono ?_;rintro e w' ⟨rfl,rfl⟩)
   exact bodyPost_ret (v :=.tuple #[.agg #[.int .i64 2,.int .i64 (tB (true&&y))],.bool true]) (by simp[results,Tryz.results26,go_sem]) rfl ⟨rfl,(heap1 _ _).alloc (by simp) _⟩
 ·have n0:=str_nl (l:=[38,38]) h0
  by_cases h1:s=⟨#[124,124]⟩
  ·subst h1
   have e1:=str_eq ⟨#[124,124]⟩
   have d0:=str_ne (show(⟨#[124,124]⟩:ByteArray)≠⟨#[38,38]⟩by decide)
   have d2:=str_ne (show(⟨#[124,124]⟩:ByteArray)≠⟨#[61,61]⟩by decide)
   have d3:=str_ne (show(⟨#[124,124]⟩:ByteArray)≠⟨#[33,61]⟩by decide)
   clear n0 h0
   rw[show truR ⟨#[124,124]⟩ x y=some (x || y)by unfold truR;rw[if_neg (by decide),if_pos rfl]]
   show Calls _ _ _ _ (V2 2 (tB (x || y)) true w)
   cases x
   ·have HO:=Lib.hid (fun W=>truth_any (false || y) W)
    go_enter Tryz.func26,Tryz.ntmps26
    go_wp2_with (go_at_call 52;refine(HO.out _).mono ?_;rintro e w' ⟨rfl,rfl⟩)
    exact bodyPost_ret (v :=.tuple #[.agg #[.int .i64 2,.int .i64 (tB (false || y))],.bool true]) (by simp[results,Tryz.results26,go_sem]) rfl ⟨rfl,(heap1 _ _).alloc (by simp) _⟩
   ·have HO:=Lib.hid (fun W=>truth_any (true || y) W)
    go_enter Tryz.func26,Tryz.ntmps26
    go_wp2_with (go_at_call 52;refine(HO.out _).mono ?_;rintro e w' ⟨rfl,rfl⟩)
    exact bodyPost_ret (v :=.tuple #[.agg #[.int .i64 2,.int .i64 (tB (true || y))],.bool true]) (by simp[results,Tryz.results26,go_sem]) rfl ⟨rfl,(heap1 _ _).alloc (by simp) _⟩
  ·have n1:=str_nl (l:=[124,124]) h1
   by_cases h2:s=⟨#[61,61]⟩
   ·subst h2
    have e2:=str_eq ⟨#[61,61]⟩
    have d0:=str_ne (show(⟨#[61,61]⟩:ByteArray)≠⟨#[38,38]⟩by decide)
    have d1:=str_ne (show(⟨#[61,61]⟩:ByteArray)≠⟨#[124,124]⟩by decide)
    have d3:=str_ne (show(⟨#[61,61]⟩:ByteArray)≠⟨#[33,61]⟩by decide)
    clear n0 h0
    clear n1 h1
    rw[show truR ⟨#[61,61]⟩ x y=some (x==y)by unfold truR;rw[if_neg (by decide),if_neg (by decide),if_pos rfl]]
    show Calls _ _ _ _ (V2 2 (tB (x==y)) true w)
    have HO:=Lib.hid (fun W=>truth_any (x==y) W)
    go_enter Tryz.func26,Tryz.ntmps26
    go_wp2_with (go_at_call 52;refine(HO.out _).mono ?_;rintro e w' ⟨rfl,rfl⟩)
    exact bodyPost_ret (v :=.tuple #[.agg #[.int .i64 2,.int .i64 (tB (x==y))],.bool true]) (by simp[results,Tryz.results26,go_sem]) rfl ⟨rfl,(heap1 _ _).alloc (by simp) _⟩
   ·have n2:=str_nl (l:=[61,61]) h2
    by_cases h3:s=⟨#[33,61]⟩
    ·subst h3
     have e3:=str_eq ⟨#[33,61]⟩
     have d0:=str_ne (show(⟨#[33,61]⟩:ByteArray)≠⟨#[38,38]⟩by decide)
     have d1:=str_ne (show(⟨#[33,61]⟩:ByteArray)≠⟨#[124,124]⟩by decide)
     have d2:=str_ne (show(⟨#[33,61]⟩:ByteArray)≠⟨#[61,61]⟩by decide)
     clear n0 h0
     clear n1 h1
     clear n2 h2
     rw[show truR ⟨#[33,61]⟩ x y=some (x != y)by unfold truR;rw[if_neg (by decide),if_neg (by decide),if_neg (by decide),if_pos rfl]]
     show Calls _ _ _ _ (V2 2 (tB (x != y)) true w)
     have HO:=Lib.hid (fun W=>truth_any (x != y) W)
     go_enter Tryz.func26,Tryz.ntmps26
     go_wp2_with (go_at_call 52;refine(HO.out _).mono ?_;rintro e w' ⟨rfl,rfl⟩)
     exact bodyPost_ret (v :=.tuple #[.agg #[.int .i64 2,.int .i64 (tB (x != y))],.bool true]) (by simp[results,Tryz.results26,go_sem]) rfl ⟨rfl,(heap1 _ _).alloc (by simp) _⟩
    ·have n3:=str_nl (l:=[33,61]) h3
     rw[show truR s x y=none by unfold truR;rw[if_neg h0,if_neg h1,if_neg h2,if_neg h3]]
     show Calls _ _ _ _ (V2 0 0 false w)
     clear h0 h1 h2 h3
     go_enter Tryz.func26,Tryz.ntmps26
     go_wp2
     exact bodyPost_ret (v :=.tuple #[.agg #[.int .i64 0,.int .i64 0],.bool false]) (by simp[results,Tryz.results26,go_sem]) rfl ⟨rfl,heap1 _ _⟩
end Go.Proofs.YtignojhijmamhaaGreat.Va
