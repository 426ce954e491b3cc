/- PROVED: TrP TrA TrB TrC TrD. No more condition. -/
import Derived.Lib.Hide
import Derived.Test.YteecfjhjllajlaaGreatDoorProg
import Derived.Tactics
import Derived.Tactics2
import Derived.WalkKit
import Derived.IntWalk
import Derived.KernelRfl
import Derived.Below
import Derived.Deep.Draws
import Derived.Deep.QuietTactic
import Derived.BigQuiet
import Derived.StillTailTactics
import Derived.Deep.DeepCutAuto
import Derived.Laws.OwnMore
import Derived.Laws.Rows
import Derived.OrdersHeld
import Derived.Deep.RegionWith
import Derived.Maps.AppendAt
import Derived.Laws.MakeOwn
import Derived.RangeFuncNested
import Derived.RangeFuncLeaves
import Derived.RangeFuncBound
import Derived.RangeFuncCalls
import Derived.RangeFuncBox
import Derived.Shelf.Abstract
import Derived.Shelf.RegionOpen
import Derived.OwnWalkIn
import Derived.TacticsInMore
import Derived.LoopNIn
import Derived.LoopIn
set_option maxHeartbeats 1500000
set_option maxRecDepth 100000
namespace Go.Proofs.YteecfjhjllajlaaGreatDoor
open Go.Lib (hid)
open Go Go.RowKit
namespace Tr
section
open Go
structure Nd where
 kd:Int
 n:Int
 pl:Int
 tx:ByteArray
 ks:List Int
def ig (b:Nat->Nat):List Int->Nat->Option Nat
 | [],s=>some s
 |k :: ks,s=>if s=0 then none else if k=(s:Int)-1 then ig b ks (b (s-1)) else none
def aA (l:List Nd)(p:Nat):List Int:=(l.map Nd.ks).getD p []
def iY (l:List Nd)(b:Nat->Nat)(n:Nat):Prop:=∀p,p<n->ig b (aA l p).reverse p=some (b p)
theorem gU {b c:Nat->Nat}:∀(ks:List Int) (s:Nat),(∀q,q<s->b q=c q)->(∀q,q<s->b q<=q)->ig b ks s=ig c ks s
 | [],_,_,_=>rfl
 |k :: ks,s,h,hb=>by
  unfold ig;by_cases h0:s=0
  ·rw[if_pos h0,if_pos h0]
  ·rw[if_neg h0,if_neg h0];by_cases h1:k=(s:Int)-1
   ·rw[if_pos h1,if_pos h1,<- h (s-1) (by omega)];have:=hb (s-1) (by omega);exact gU ks _ (λq hq=>h q (by omega)) (λq hq=>hb q (by omega))
   ·rw[if_neg h1,if_neg h1]
theorem uy {b:Nat->Nat}:∀(ks:List Int) (s e:Nat),(∀q,q<s->b q<=q)->ig b ks s=some e->e<=s
 | [],s,e,_,h=>by unfold ig at h;cases h;omega
 |k :: ks,s,e,hb,h=>by
  unfold ig at h;split at h
  ·cases h
  split at h
  ·have:=hb (s-1) (by omega);have:=uy ks _ e (λq hq=>hb q (by omega)) h;omega
  ·cases h
theorem iK {b:Nat->Nat}:∀(ks:List Int) (s e:Nat),(∀q,q<s->b q<=q)->ig b ks s=some e->∀k ∈ ks,∃m:Nat,k=m/\m<s/\e<=b m
 | [],_,_,_,_,_,hk=>by cases hk
 |k :: ks,s,e,hb,h,x,hx=>by
  unfold ig at h;split at h
  ·cases h
  split at h
  case isFalse=>cases h
  case isTrue h0 h1=>
   have h2:=hb (s-1) (by omega);have hb':∀q,q<b (s-1)->b q<=q:=λq hq=>hb q (by omega)
   rcases List.mem_cons.1 hx with rfl |hx
   ·exact⟨s-1,by omega,by omega,uy ks _ e hb' h⟩
   ·obtain⟨m,e1,e2,e3⟩:=iK ks _ e hb' h x hx;exact⟨m,e1,by omega,e3⟩
theorem qM {b:Nat->Nat}:∀(ks:List Int) (s e q:Nat),(∀q,q<s->b q<=q)->ig b ks s=some e->e<=q->q<s->∃m:Nat,(m:Int) ∈ ks/\b m<=q/\q<=m/\m<s
 | [],s,e,q,_,h,h1,h2=>by unfold ig at h;cases h;omega
 |k :: ks,s,e,q,hb,h,h1,h2=>by
  unfold ig at h;split at h
  ·cases h
  split at h
  case isFalse=>cases h
  case isTrue h3 h4=>
   have h5:=hb (s-1) (by omega);by_cases hq:b (s-1)<=q
   ·exact⟨s-1,by rw[show((s-1:Nat):Int)=k by omega];exact List.mem_cons_self,hq,by omega,by omega⟩
   ·obtain⟨m,e1,e2,e3,e4⟩:=qM ks _ e q (λq hq=>hb q (by omega)) h h1 (by omega);exact⟨m,List.mem_cons_of_mem _ e1,e2,e3,by omega⟩
theorem BH {b c:Nat->Nat}{d:Nat}:∀(ks:List Int) (s e:Nat),(∀q,q<s->b q<=q)->ig b ks s=some e->(∀q,q<s->c (q+d)=b q+d)->ig c (ks.map λk=>k+d) (s+d)=some (e+d)
 | [],s,e,_,h,_=>by unfold ig at h;cases h;rfl
 |k :: ks,s,e,hb,h,hc=>by
  unfold ig at h;split at h
  ·cases h
  split at h
  case isFalse=>cases h
  case isTrue h0 h1=>
   have h2:=hb (s-1) (by omega);have hb':∀q,q<b (s-1)->b q<=q:=λq hq=>hb q (by omega)
   have ih:=BH ks _ e hb' h (λq hq=>hc q (by omega));rw[List.map_cons];unfold ig;rw[if_neg (by omega),if_pos (by omega),show s+d-1=s-1+d by omega,hc (s-1) (by omega)];exact ih
theorem iY.le {l:List Nd}{b:Nat->Nat}{n:Nat}(h:iY l b n):∀q,q<n->b q<=q:=by
 intro q;induction q using Nat.strongRecOn with
 |_ q ih=>intro hq;exact uy _ q _ (λr hr=>ih r hr (by omega)) (h q hq)
theorem iY.kid {l:List Nd}{b:Nat->Nat}{n p:Nat}(h:iY l b n)(hp:p<n){k:Int}(hk:k ∈ aA l p):∃m:Nat,k=m/\m<p/\b p<=b m:=
 iK _ p _ (λq hq=>h.le q (by omega)) (h p hp) k (List.mem_reverse.2 hk)
theorem iY.inKid {l:List Nd}{b:Nat->Nat}{n p q:Nat}(h:iY l b n)(hp:p<n)(h1:b p<=q)(h2:q<p):∃m:Nat,(m:Int) ∈ aA l p/\b m<=q/\q<=m/\m<p:=by
 obtain⟨m,e1,e2,e3,e4⟩:=qM _ p _ q (λq hq=>h.le q (by omega)) (h p hp) h1 h2;exact⟨m,List.mem_reverse.1 e1,e2,e3,e4⟩
theorem iY.uniq {l:List Nd}{b c:Nat->Nat}{n:Nat}(h:iY l b n)(k:iY l c n):∀q,q<n->b q=c q:=by
 intro q;induction q using Nat.strongRecOn with
 |_ q ih=>
  intro hq;have h1:=h q hq;rw[gU _ q (λr hr=>ih r hr (by omega)) (λr hr=>h.le r (by omega)),k q hq]at h1;exact(Option.some.inj h1).symm
def sH (d:Nat->Nat)(ks:List Int):Nat:=ks.foldl (λa k=>max a (d k.toNat)) 0+1
def EX (l:List Nd)(d:Nat->Nat)(n:Nat):Prop:=∀p,p<n->d p=sH d (aA l p)
theorem jA {f g:Int->Nat}:∀(ks:List Int) (a:Nat),(∀k ∈ ks,f k=g k)->ks.foldl (λa k=>max a (f k)) a=ks.foldl (λa k=>max a (g k)) a
 | [],_,_=>rfl
 |k :: ks,a,h=>by
  rw[List.foldl_cons,List.foldl_cons,h k (by simp)];exact jA ks _ (λx hx=>h x (by simp[hx]))
theorem jR {d e:Nat->Nat}{ks:List Int}(h:∀k ∈ ks,d k.toNat=e k.toNat):sH d ks=sH e ks:=by
 unfold sH;rw[jA (f:=λk=>d k.toNat) (g:=λk=>e k.toNat) ks 0 h]
theorem E5 {d e:Nat->Nat}{ks:List Int}{f:Int->Int}(h:∀k ∈ ks,e (f k).toNat=d k.toNat):sH e (ks.map f)=sH d ks:=by
 unfold sH;rw[List.foldl_map,jA (f:=λk=>e (f k).toNat) (g:=λk=>d k.toNat) ks 0 h]
theorem EX.pos {l:List Nd}{d:Nat->Nat}{n p:Nat}(h:EX l d n)(hp:p<n):0<d p:=by rw[h p hp];unfold sH;omega
theorem EX.uniq {l:List Nd}{b d e:Nat->Nat}{n:Nat}(hs:iY l b n)(h:EX l d n)(k:EX l e n):∀q,q<n->d q=e q:=by
 intro q;induction q using Nat.strongRecOn with
 |_ q ih=>
  intro hq;rw[h q hq,k q hq];refine jR λx hx =>?_
  obtain⟨m,rfl,hm,_⟩:=hs.kid hq hx;exact ih m hm (by omega)
end
end Tr
section
open Go
theorem ap:(∀(a:Act) (t:Tmp) (v:Value),a.put (some t) v = {a with tmps:=a.tmps.setIfInBounds t v})/\(∀ {α:Type} (l:List α) (i:Nat) (v:α),l.toArray.setIfInBounds i v=(l.set i v).toArray)/\(∀ {α:Type} (x:α) (l:List α) (v:α),(x :: l).set 0 v=v :: l)/\∀ {α:Type} (x:α) (l:List α) (i:Nat) (v:α),(x :: l).set (i+1) v=x :: l.set i v:=
 ⟨λ_ _ _=>rfl,λl i v=>List.setIfInBounds_toArray l i v,λ_ _ _=>rfl,λ_ _ _ _=>rfl⟩
namespace Tr
theorem aB {k:IntKind}{a b:Int}(h:a=b):Ending.returned (.int k a)=.returned (.int k b):=by rw[h]
theorem aa {a b:Bool}(h:a=b):Ending.returned (.bool a)=.returned (.bool b):=by rw[h]
theorem ak {P:Program}{c:Code}{Q:Exit->Act->World->Prop}{a:Act}{w:World}(R:World->Prop)(h:R w)(k:∀w',R w'->Code.wp P c Q a w'):Code.wp P c Q a w:=k w h
theorem ag (w:World)(A:Obj):Below w.heap.size w (w.alloc A):=(Below.refl _ _).alloc (Nat.le_refl _) _
theorem bt {a b c:World}(h:Below a.heap.size a b)(k:Below b.heap.size b c):Below a.heap.size a c:=h.trans (k.mono h.size)
theorem below_drewN {B:Nat}{a w:World}(h:Below B a w)(n:Nat):Below B a (w.drewN n):=⟨h.os,h.tape,h.output,h.size,h.block⟩
theorem av {w w':World}{b:Nat}(h:w'.heap[b]?=w.heap[b]?)(off:Nat):w'.cell? ⟨b,off,none⟩=w.cell? ⟨b,off,none⟩:=by
 unfold World.cell?;rw[h]
def Ints (w:World)(A:Option Addr)(l:List Int):Prop:=
 0<l.length->∃b off,A=some ⟨b,off,none⟩/\b<w.heap.size/\∀j (hj:j<l.length),w.cell? ⟨b,off+j,none⟩=some (.int .i64 l[j])
theorem Ints.below {w w':World}{A:Option Addr}{l:List Int}(h:Ints w A l)(hb:Below w.heap.size w w'):Ints w' A l:=λh0=>by
 obtain⟨b,off,e,hl,hc⟩:=h h0;exact⟨b,off,e,Nat.lt_of_lt_of_le hl hb.size,λj hj=>(hb.cell (p:=⟨b,off+j,none⟩) hl).trans (hc j hj)⟩
theorem Ints.keep {w w':World}{A:Option Addr}{l:List Int}(h:Ints w A l)(hs:w.heap.size<=w'.heap.size)(hk:∀b off,A=some ⟨b,off,none⟩->0<l.length->w'.heap[b]?=w.heap[b]?):Ints w' A l:=λh0=>by
 obtain⟨b,off,e,hl,hc⟩:=h h0;exact⟨b,off,e,Nat.lt_of_lt_of_le hl hs,λj hj=>(av (hk b off e h0) _).trans (hc j hj)⟩
def bu (w:World)(A:Option Addr)(l:List Nd):Prop:=
 0<l.length->∃b off,A=some ⟨b,off,none⟩/\b<w.heap.size/\∀j (hj:j<l.length),∃K c,w.cell? ⟨b,off+j*5,none⟩=some (.int .i64 l[j].kd)/\w.cell? ⟨b,off+j*5+1,none⟩=some (.int .i64 l[j].n) /\
  w.cell? ⟨b,off+j*5+2,none⟩=some (.int .i64 l[j].pl)/\w.cell? ⟨b,off+j*5+3,none⟩=some (.string l[j].tx)/\w.cell? ⟨b,off+j*5+4,none⟩=some (.slice K l[j].ks.length c)/\Ints w K l[j].ks
theorem bu.below {w w':World}{A:Option Addr}{l:List Nd}(h:bu w A l)(hb:Below w.heap.size w w'):bu w' A l:=λh0=>by
 obtain⟨b,off,e,hl,hc⟩:=h h0;refine⟨b,off,e,Nat.lt_of_lt_of_le hl hb.size,λj hj =>?_⟩;obtain⟨K,c,c0,c1,c2,c3,c4,hK⟩:=hc j hj;exact⟨K,c,(hb.cell (p:=⟨b,off+j*5,none⟩) hl).trans c0,(hb.cell (p:=⟨b,off+j*5+1,none⟩) hl).trans c1,(hb.cell (p:=⟨b,off+j*5+2,none⟩) hl).trans c2,
  (hb.cell (p:=⟨b,off+j*5+3,none⟩) hl).trans c3,(hb.cell (p:=⟨b,off+j*5+4,none⟩) hl).trans c4,hK.below hb⟩
theorem bu.sub {w:World}{b off:Nat}{l:List Nd}(h:bu w (some ⟨b,off,none⟩) l)(i k:Nat)(hk:k<=l.length):bu w (some ⟨b,off+i*5,none⟩) ((l.take k).drop i):=λh0=>by
 have h1:((l.take k).drop i).length=k-i:=by rw[List.length_drop,List.length_take,Nat.min_eq_left hk]
 rw[h1]at h0;obtain⟨b',off',e,hl,hc⟩:=h (by omega);cases e;refine⟨b,off+i*5,rfl,hl,λj hj =>?_⟩;have hj':j<k-i:=by rw[<- h1];exact hj
 have e1:((l.take k).drop i)[j]=l[i+j]:=by rw[List.getElem_drop,List.getElem_take]
 rw[e1,show off+i*5+j*5=off+(i+j)*5 by omega];exact hc (i+j) (by omega)
def p_ (n:Nat)(m:Nat->Int):Array Value:=Array.ofFn (n:=n) λi =>.int .i64 (m i)
theorem qN (n:Nat)(m:Nat->Int):(p_ n m).size=n:=by simp[p_]
theorem qw {n:Nat}{m:Nat->Int}{i:Nat}(h:i<n):(p_ n m)[i]?=some (.int .i64 (m i)):=by simp[p_,h]
theorem zh {n:Nat}{m:Nat->Int}{i:Nat}{x:Int}:(p_ n m).setIfInBounds i (.int .i64 x)=p_ n (λj=>if j=i then x else m j):=by
 apply Array.ext_getElem?;intro j;rw[Array.getElem?_setIfInBounds];by_cases h:i=j
 ·subst h;by_cases hk:i<n<;>simp[p_,hk]
 ·have h':¬j=i:=λe=>h e.symm
  rw[if_neg h];by_cases hi:j<n
  ·rw[qw hi,qw hi,if_neg h']
  ·rw[Array.getElem?_eq_none (by rw[qN];omega),Array.getElem?_eq_none (by rw[qN];omega)]
theorem Ah {n:Nat}{m m':Nat->Int}(h:∀i,i<n->m i=m' i):p_ n m=p_ n m':=by
 unfold p_;congr 1;funext i;rw[h i i.2]
def Ib (w:World)(g n:Nat)(m:Nat->Int):Prop:=w.heap[g]?=some (.cells (p_ n m) 3 (0,0))
section
variable {w w':World} {g n:Nat} {m:Nat->Int}
theorem Ib.lt (h:Ib w g n m):g<w.heap.size:=(Array.getElem?_eq_some_iff.1 h).1
theorem Ib.cell (h:Ib w g n m){i:Nat}(hi:i<n):w.cell? ⟨g,i,none⟩=some (.int .i64 (m i)):=(cell_of_row w g i _ 3 (0,0) h).trans (qw hi)
theorem Ib.frozen (h:Ib w g n m)(i:Nat):w.frozen? ⟨g,i,none⟩=false:=frozen_of_row w g i _ 3 h
theorem Ib.set_ (h:Ib w g n m)(i:Nat)(x:Int):Ib (w.setCell ⟨g,i,none⟩ (.int .i64 x)) g n (λj=>if j=i then x else m j):=(heap_setCell_same w g i _ 3 _ h).trans (by rw[zh])
theorem Ib.far (h:Ib w g n m){p:Addr}(hp:g≠p.block)(u:Value):Ib (w.setCell p u) g n m:=(heap_setCell_other w p g u hp).trans h
theorem Ib.same (h:Ib w g n m)(hg:w'.heap[g]?=w.heap[g]?):Ib w' g n m:=hg.trans h
theorem Ib.below {B:Nat}(h:Ib w g n m)(hb:Below B w w')(hg:g<B):Ib w' g n m:=(hb.block g hg).trans h
theorem Ib.grown {row:Option Nat}(h:Ib w g n m)(hb:w.grownBy w' row)(hg:some g≠row):Ib w' g n m:=(hb.block g h.lt hg).trans h
theorem Ib.alloc (h:Ib w g n m)(o:Obj):Ib (w.alloc o) g n m:=h.grown (World.grownBy_alloc w o none) (by simp)
theorem Ib.congr {m':Nat->Int}(h:Ib w g n m)(e:∀i,i<n->m i=m' i):Ib w g n m':=by unfold Ib at *;rw[h,Ah e]
theorem Ib.ints (h:Ib w g n m):Ints w (some ⟨g,0,none⟩) ((List.range n).map m):=λ_=>by
 refine⟨g,0,rfl,h.lt,λj hj =>?_⟩;have:j<n:=by simpa using hj
 rw[Nat.zero_add,h.cell this];simp
end
def Bx (w:World)(B:Nat)(t:TypeId)(l:List Value):Prop:=w.heap[B]?=some (.cells l.toArray t (0,0))
section
variable {w w':World} {B:Nat} {t:TypeId} {l:List Value}
theorem Bx.lt (h:Bx w B t l):B<w.heap.size:=(Array.getElem?_eq_some_iff.1 h).1
theorem Bx.cell (h:Bx w B t l)(i:Nat):w.cell? ⟨B,i,none⟩=l[i]?:=(cell_of_row w B i _ t (0,0) h).trans (by simp)
theorem Bx.frozen (h:Bx w B t l)(i:Nat):w.frozen? ⟨B,i,none⟩=false:=frozen_of_row w B i _ t h
theorem Bx.set_ (h:Bx w B t l)(i:Nat)(u:Value):Bx (w.setCell ⟨B,i,none⟩ u) B t (l.set i u):=(heap_setCell_same w B i _ t _ h).trans (by simp)
theorem Bx.far (h:Bx w B t l){p:Addr}(hp:B≠p.block)(u:Value):Bx (w.setCell p u) B t l:=(heap_setCell_other w p B u hp).trans h
theorem Bx.same (h:Bx w B t l)(hg:w'.heap[B]?=w.heap[B]?):Bx w' B t l:=hg.trans h
theorem Bx.below {C:Nat}(h:Bx w B t l)(hb:Below C w w')(hg:B<C):Bx w' B t l:=(hb.block B hg).trans h
theorem Bx.grown {row:Option Nat}(h:Bx w B t l)(hb:w.grownBy w' row)(hg:some B≠row):Bx w' B t l:=(hb.block B h.lt hg).trans h
theorem Bx.alloc (h:Bx w B t l)(o:Obj):Bx (w.alloc o) B t l:=h.grown (World.grownBy_alloc w o none) (by simp)
theorem Bx.new (w:World)(t:TypeId)(l:List Value):Bx (w.alloc (.cells l.toArray t)) w.heap.size t l:=World.alloc_heap_new w _
end
theorem info3:(Tryz.prog.info? 3).map (λi=>(i.zero,i.size,i.bytes))=some (some (.int .i64 0),1,8):=by kernel_rfl
theorem Km (n:Nat):madeCells #[.int .i64 0] n=p_ n (λ_=>0):=by
 apply Array.ext_getElem?;intro j;by_cases h:j<n
 ·rw[qw h];simp[madeCells,h,Nat.mod_one]
 ·rw[Array.getElem?_eq_none (by simp[madeCells];omega),Array.getElem?_eq_none (by rw[qN];omega)]
theorem ku (n:Nat)(hn:n<=4000000000)(w:World):(Instr.makeSlice 35 (.int .i64 (n:Int)) (.int .i64 (n:Int))).run Tryz.prog w=.ok (.slice (some ⟨w.heap.size,0,none⟩) n n) (w.alloc (.cells (p_ n (λ_=>0)) 3)):=by
 have h:=info3;cases hq:Tryz.prog.info? 3 with
 |none=>rw[hq]at h;cases h
 |some i=>
  rw[hq]at h;simp only[Option.map_some,Option.some.injEq,Prod.mk.injEq]at h;obtain⟨h1,h2,h3⟩:=h;have:=run_make (P:=Tryz.prog) w 35 3 i (.int .i64 0) Tryz.underlying35 hq h1 .i64 .i64 (n:Int) (n:Int) (by omega) (Int.le_refl _) (by rw[h3];omega) (by omega);rw[this,h2];simp only[Int.toNat_natCast,Nat.mul_one];rw[show(Value.int .i64 0).cells = #[.int .i64 0]from rfl,Km]
theorem xY:(Tryz.prog.info? 37).map (λi=>(i.zero,i.size,i.bytes))=some (some (.agg #[.int .i64 0,.int .i64 0,.int .i64 0,.string ⟨#[]⟩,.slice none 0 0]),5,64):=by kernel_rfl
def zN:Array Value := #[.int .i64 0,.int .i64 0,.int .i64 0,.string ⟨#[]⟩,.slice none 0 0]
theorem aQ {l:List Nd}{p:Nat}(h:p<l.length):aA l p=l[p].ks:=by
 unfold aA;simp[List.getD,h]
end Tr
end
namespace Tr
section
open Go Go.RowKit Go.Shelf
attribute [local go_sem] Oper.semAt_some
def upto {α:Type}(f:Nat->α)(k:Nat):List α:=(List.range k).map f
theorem Ai {α:Type}(f:Nat->α)(k:Nat):upto f (k+1)=upto f k++[f k]:=by simp[upto,List.range_succ]
theorem vV {α:Type}(f:Nat->α)(k:Nat):(upto f k).length=k:=by simp[upto]
def kZ (zs:List Int)(k:Nat):Int × Int:=(((zs.length-1-k:Nat):Int),zs[zs.length-1-k]?.getD 0)
theorem tC (zs:List Int){k:Nat}(hk:k<=zs.length):(upto (kZ zs) k).map (·.2)=zs.reverse.take k:=by
 apply List.ext_getElem
 ·simp[upto,hk]
 ·intro i h1 h2;have h3:i<k:=by simpa [upto]using h1
  simp only[upto,List.map_map,List.getElem_map,List.getElem_range,Function.comp,kZ,List.getElem_take,List.getElem_reverse];rw[List.getElem?_eq_getElem (by omega)];rfl
def Aj (n₀ Bs:Nat)(W W':World):Prop:=Below n₀ W W'/\W'.heap[Bs]?=W.heap[Bs]?
theorem BI (l Bs n₀:Nat)(A:Option Addr)(cap:Nat)(zs:List Int)(hreach:zs.length<=4000000)(J Jx:List (Int × Int)->World->Prop)
  (hY:∀pre x W,J pre W->pre.length<zs.length->YieldAt Fence.wide 0 Tryz.prog l #[.int .i64 x.1,.int .i64 x.2] W λe W'=>
   (e=.returned (.bool true)/\J (pre++[x]) W'/\Aj n₀ Bs W W')\/(e=.returned (.bool false)/\Jx (pre++[x]) W'))
  (W:World) (hBs:W.cell? ⟨Bs,0,none⟩=some (.slice A zs.length cap)) (hA:∀j,j<zs.length->∃b off,A=some ⟨b,off,none⟩/\b<n₀/\W.cell? ⟨b,off+j,none⟩=some (.int .i64 (zs[j]?.getD 0))) (h0:J [] W) :
  CallsIn Fence.wide 1 Tryz.prog 255 #[.func (.yield l) #[] #[],.pointer (some ⟨Bs,0,none⟩)] W λe W'=>(∃v,e=.returned v) /\
   ((∃ys,ys=upto (kZ zs) zs.length/\J ys W')\/(∃pre,(∃k,k<=zs.length/\pre=upto (kZ zs) k)/\Jx pre W')):=by
 obtain⟨len,hlen⟩:∃len,len=zs.length:=⟨_,rfl⟩;have HL:=hid hlen;rw[<- hlen]at hY hBs hA hreach |-;clear hlen;refine callsIn_of_wp Tryz.func255 rfl trivial ?_ rfl
 simp only[Tryz.ntmps255,List.size_toArray,List.length_cons,List.length_nil,Nat.reduceAdd,Nat.reduceSub,Array.replicate_succ,Array.replicate_zero,List.push_toArray,List.append_toArray,List.nil_append,List.cons_append]
 gi_wp2
 gi_loopw [3] (λi wr=>∃m:Nat,m<=len/\i=.int .i64 ((m:Int)-1)/\J (upto (kZ zs) (len-m)) wr/\Below n₀ W wr/\wr.cell? ⟨Bs,0,none⟩=W.cell? ⟨Bs,0,none⟩)
  (λi _=>(intOf i+1).toNat)
 case atStart=>exact⟨len,Nat.le_refl _,by go_num,by rw[Nat.sub_self];exact h0,Below.refl _ _,rfl⟩
 case round=>
  obtain⟨m,hm,rfl,hJs,hnx,hcB⟩:=hrel;rw[hBs]at hcB;cases m with
  |zero=>
   gi_wp2
   go_end0
   exact⟨⟨_,rfl⟩,.inl ⟨_,rfl,by simpa using hJs⟩⟩
  |succ m=>
   rw[show(((m+1:Nat):Int)-1)=(m:Int)by omega];obtain⟨b,off,rfl,hb,hc⟩:=hA m (by omega);have hcx:wr.cell? ⟨b,off+m,none⟩=some (.int .i64 (zs[m]?.getD 0)):=(hnx.cell (p:=⟨b,off+m,none⟩) hb).trans hc;have hf:kZ zs (len-(m+1))=((m:Int),zs[m]?.getD 0):=by
    unfold kZ;rw[<- HL.out,show len-1-(len-(m+1))=m by omega]
   have HU:=hid (show upto (kZ zs) (len-m)=upto (kZ zs) (len-(m+1))++[((m:Int),zs[m]?.getD 0)] by
    rw[show len-m=len-(m+1)+1 by omega,Ai,hf])
   clear hf;obtain⟨fn,tmps,assign,body,hy,hR⟩:=hY _ ((m:Int),zs[m]?.getD 0) wr hJs (by rw[vV];omega);dsimp only at hy;generalize zs[m]?.getD 0=z at *
   have hm0:(0:Int)<=(m:Int):=by omega
   gi_wp2
   refine hR.mono ?_;rintro e W3 (⟨rfl,hJ3,hk3⟩ |⟨rfl,hJx3⟩)
   ·have hcB3:W3.cell? ⟨Bs,0,none⟩=some (.slice (some ⟨b,off,none⟩) len cap):=(av hk3.2 0).trans hcB
    gi_wp2
    go_roundw
    case rel=>exact⟨m,by omega,by go_num,by rw[HU.out];exact hJ3,hnx.trans hk3.1,hcB3.trans hBs.symm⟩
    case measure=>simp[intOf]
   ·gi_wp2
    refine bodyPost_ret (results_none rfl _ _ _) rfl ?_;exact⟨⟨_,rfl⟩,.inr ⟨_,⟨len-m,by omega,HU.out.symm⟩,hJx3⟩⟩
theorem E8 (A:Option Addr)(len cap:Nat)(w:World) :
  CallsIn Fence.wide 1 Tryz.prog 216 #[.slice A len cap] w λe w'=>e=.returned (.func (.func 255) #[] #[.pointer (some ⟨w.heap.size,0,none⟩)])/\w'=w.alloc (.cells #[.slice A len cap] 35):=by
 refine callsIn_of_wp Tryz.func216 rfl trivial ?_ rfl
 simp only[Tryz.ntmps216,List.size_toArray,List.length_cons,List.length_nil,Nat.reduceAdd,Nat.reduceSub,Array.replicate_succ,Array.replicate_zero,List.push_toArray,List.append_toArray,List.nil_append,List.cons_append]
 gi_wp2
 go_ret
 exact⟨rfl,rfl⟩
theorem xZ (Bs n₀:Nat)(A:Option Addr)(cap:Nat)(zs:List Int)(hreach:zs.length<=4000000)(w:World)(hBs:Bs<w.heap.size)(hn₀:n₀<=w.heap.size)
  (hc:w.cell? ⟨Bs,0,none⟩=some (.slice A zs.length cap)) (hA:∀j,j<zs.length->∃b off,A=some ⟨b,off,none⟩/\b<n₀/\w.cell? ⟨b,off+j,none⟩=some (.int .i64 (zs[j]?.getD 0))) :
  SeqStopsK Fence.wide 1 Tryz.prog 255 #[.pointer (some ⟨Bs,0,none⟩)] (λx:Int × Int => #[Value.int .i64 x.1,Value.int .i64 x.2]) (Aj n₀ Bs) (λys=>ys=upto (kZ zs) zs.length)
   (λpre=>∃k,k<=zs.length/\pre=upto (kZ zs) k) zs.length w:=λl J Jx W hW _ _ hY h0=>by
 have hc':=(hW.cell (p:=⟨Bs,0,none⟩) hBs).trans hc;refine BI l Bs n₀ A cap zs hreach J Jx hY W hc' (λj hj =>?_) h0;obtain⟨b,off,e,hb,h⟩:=hA j hj;exact⟨b,off,e,hb,(hW.cell (p:=⟨b,off+j,none⟩) (show b<w.heap.size by omega)).trans h⟩
end
section
open Go Go.RowKit Go.Shelf
attribute [local go_sem] Oper.semAt_some
def Sd (l:List Nd)(r:Int)(b:Nat->Nat):Prop:=1<=l.length/\l.length<=4000/\r=(l.length:Int)-1/\iY l b l.length/\b (l.length-1)=0
def uA (l:List Nd)(r:Int)(w:World)(e:Ending)(w':World):Prop:=Below w.heap.size w w' /\
 ((∃b g,Sd l r b/\e=.returned (.slice (some ⟨g,0,none⟩) l.length l.length)/\Ib w' g l.length (λj=>(b j:Int))/\w.heap.size<=g)\/((∀b,¬Sd l r b)/\e=.returned (.slice none 0 0)))
theorem uB {b:Nat->Nat}:∀(p r:List Int) (s:Nat),ig b (p++r) s=(ig b p s).bind (ig b r)
 | [],_,_=>rfl
 |k :: p,r,s=>by
  rw[List.cons_append];unfold ig;split
  ·rfl
  split
  ·exact uB p r _
  ·rfl
theorem BJ {b:Nat->Nat}{p:List Int}{s e:Nat}{k:Int}(h:ig b p s=some e):ig b (p++[k]) s=if e=0 then none else if k=(e:Int)-1 then some (b (e-1)) else none:=by
 rw[uB,h];rfl
theorem iY.fail {l:List Nd}{b:Nat->Nat}{p:Nat}(h:iY l b p)(hf:ig b (aA l p).reverse p=none)(c:Nat->Nat){n:Nat}(hp:p<n):¬iY l c n:=λk=>by
 have h1:∀q,q<p->b q=c q:=h.uniq (λq hq=>k q (by omega));rw[gU _ p h1 h.le,k p hp]at hf;cases hf
theorem iY.step {l:List Nd}{b:Nat->Nat}{p s:Nat}(h:iY l b p)(hs:ig b (aA l p).reverse p=some s):iY l (λj=>if j=p then s else b j) (p+1):=λq hq=>by
 have hc:ig b (aA l q).reverse q=ig (λj=>if j=p then s else b j) (aA l q).reverse q:=
  gU _ q (λr hr=>by show b r=if r=p then s else b r;rw[if_neg (by omega)]) (λr hr=>h.le r (by omega))
 rw[<- hc];by_cases e:q=p
 ·subst e;show _=some (if q=q then s else b q);rw[if_pos rfl];exact hs
 ·show _=some (if q=p then s else b q);rw[if_neg e];exact h q (by omega)
def Marks (lo:Nat)(w:World):List Deferred->Nat->Prop
 | [],_=>True
 |d :: ds,hi=>∃D,d = {target :=.collected D,args := #[]}/\lo<=D/\D<hi/\w.heap[D]?=some (.deferred (some []))/\Marks lo w ds D
theorem Marks.mono {lo:Nat}{w:World}:∀ {ds:List Deferred} {h k:Nat},Marks lo w ds h->h<=k->Marks lo w ds k
 | [],_,_,_,_=>trivial
 |_ :: _,_,_,⟨D,e,h1,h2,h3,h4⟩,hk=>⟨D,e,h1,Nat.lt_of_lt_of_le h2 hk,h3,h4⟩
theorem Marks.keep {lo:Nat}{w w':World}:∀ {ds:List Deferred} {h:Nat},Marks lo w ds h->(∀D,D<h->w.heap[D]?=some (.deferred (some []))->w'.heap[D]?=some (.deferred (some [])))->Marks lo w' ds h
 | [],_,_,_=>trivial
 |_ :: _,_,⟨D,e,h1,h2,h3,h4⟩,hk=>⟨D,e,h1,h2,hk D h2 h3,h4.keep λD' hD'=>hk D' (by omega)⟩
def Ak (w w':World):Prop:=∀(k:Nat) (o:Obj),w.heap[k]?=some o->o.isCells=true->w'.heap[k]?=some o
theorem gq {F:Fence}{n:Nat}{P:Program}{fn:Func}{tmps:Array Value}{R:Ending->World->Prop}{lo:Nat}:∀(ds:List Deferred) (hi:Nat) (w:World),Marks lo w ds hi ->
  (∀w',Below lo w w'->Ak w w'->LeavesIn F n P fn tmps R [] .returning w')->LeavesInM F n P fn tmps R ds .returning w
 | [],_,w,_,k=>k w (Below.refl _ _) (λ_ _ h _=>h)
 |_ :: ds,hi,w,⟨D,e,h1,h2,h3,h4⟩,k=>by
  subst e;refine⟨by simp,.inl ⟨D,_,rfl,run_takeDeferred h3,?_⟩⟩;refine gq ds D _ (h4.keep λD' hD' h=>(World.putObj_heap_other (by omega)).trans h) λw' hb hc=>k w' ?_ ?_
  ·have h5:Below lo w (w.putObj D (.deferred none)):=⟨rfl,rfl,rfl,by simp[World.putObj],λj hj=>World.putObj_heap_other (by omega)⟩;exact h5.trans hb
  ·intro j o hj ho;refine hc j o ((World.putObj_heap_other ?_).trans hj) ho;rintro rfl;rw[h3]at hj;cases hj;cases ho
structure uC (A:Option Addr) (c n:Nat) (w:World) (b:Nat->Nat) (ds:List Deferred) (hi:Nat) (W:World):Prop where
 t:Bx W w.heap.size 25 [.slice A n c,.int .i64 ((n:Int)-1)]
 r:Bx W (w.heap.size+1) 35 [.slice none 0 0]
 g:Ib W (w.heap.size+1+1) n (λj=>(b j:Int))
 s:Bx W (w.heap.size+1+1+1) 35 [.slice (some ⟨w.heap.size+1+1,0,none⟩) n n]
 b:Below w.heap.size w W
 m:Marks w.heap.size W ds hi
theorem o8 {W:World}{k:Nat}{row:Option Nat}{B:Nat}{cs:Array Value}{t:TypeId}{fr:Nat × Nat}(h:W.heap[k]?=some (.cells cs t fr))(hr:∀r,row=some r->B<=r/\∃o:Obj,W.heap[r]?=some o/\o.isCells=false):some k≠row:=by
 rintro rfl;obtain⟨_,o,ho,hc⟩:=hr k rfl;rw[h]at ho;cases ho;cases hc
section
variable {A:Option Addr} {c n:Nat} {w W W':World} {b:Nat->Nat} {ds:List Deferred} {hi:Nat}
theorem uC.own {row:Option Nat}{B:Nat}(h:uC A c n w b ds hi W)(hg:W.grownBy W' row)(hr:∀r,row=some r->B<=r/\∃o:Obj,W.heap[r]?=some o/\o.isCells=false)(h1:hi<=B)(h2:w.heap.size<=B)(h3:hi<=W.heap.size):uC A c n w b ds hi W':=
 ⟨h.t.grown hg (o8 h.t hr),h.r.grown hg (o8 h.r hr),h.g.grown hg (o8 h.g hr),h.s.grown hg (o8 h.s hr),h.b.grown hg h.b.size (λk e=>Nat.le_trans h2 (hr k e).1),
  h.m.keep λD hD hd=>(hg.block D (by omega) (λe=>by have:=(hr D e.symm).1;omega)).trans hd⟩
theorem uC.alloc (h:uC A c n w b ds hi W)(h3:hi<=W.heap.size)(o:Obj):uC A c n w b ds hi (W.alloc o):=
 h.own (World.grownBy_alloc W o none) (B:=W.heap.size) (by simp) h3 h.b.size h3
theorem uC.far (h:uC A c n w b ds hi W){k i:Nat}{u:Value}(hk:w.heap.size+1+1+1<k)(hc:∀D,D<hi->W.heap[D]?=some (.deferred (some []))->D≠k):uC A c n w b ds hi (W.setCell ⟨k,i,none⟩ u):=
 ⟨h.t.far (by show _≠k;omega) _,h.r.far (by show _≠k;omega) _,h.g.far (by show _≠k;omega) _,h.s.far (by show _≠k;omega) _,h.b.setCell (p:=⟨k,i,none⟩) (by show _<=k;omega) _,
  h.m.keep λD hD hd=>(heap_setCell_other W _ D _ (hc D hD hd)).trans hd⟩
theorem uC.res (h:uC A c n w b ds hi W):uC A c n w b ds hi (W.setCell ⟨w.heap.size+1,0,none⟩ (.slice none 0 0)):=
 ⟨h.t.far (by show _≠w.heap.size+1;omega) _,h.r.set_ 0 _,h.g.far (by show _≠w.heap.size+1;omega) _,h.s.far (by show _≠w.heap.size+1;omega) _,h.b.setCell (p:=⟨w.heap.size+1,0,none⟩) (by show _<=w.heap.size+1;omega) _,
  h.m.keep λD hD hd=>(heap_setCell_other W _ D _ (λe=>by have e':D=w.heap.size+1:=e;subst e';have:=h.r;unfold Bx at this;rw[this]at hd;cases hd)).trans hd⟩
theorem uC.put (h:uC A c n w b ds hi W)(p s:Nat):uC A c n w (λj=>if j=p then s else b j) ds hi (W.setCell ⟨w.heap.size+1+1,p,none⟩ (.int .i64 (s:Int))):=
 ⟨h.t.far (by show _≠w.heap.size+1+1;omega) _,h.r.far (by show _≠w.heap.size+1+1;omega) _,(h.g.set_ p _).congr (λi _=>by split<;>rfl),h.s.far (by show _≠w.heap.size+1+1;omega) _,h.b.setCell (p:=⟨w.heap.size+1+1,p,none⟩) (by show _<=w.heap.size+1+1;omega) _,
  h.m.keep λD hD hd=>(heap_setCell_other W _ D _ (λe=>by have e':D=w.heap.size+1+1:=e;subst e';have:=h.g;unfold Ib at this;rw[this]at hd;cases hd)).trans hd⟩
end
theorem Am (A:Option Addr)(c:Nat)(l:List Nd)(r:Int)(w:World)(hN:bu w A l)(h0:1<=l.length)(h1:l.length<=4000)(h2:r=(l.length:Int)-1)(hk:∀x ∈ l,x.ks.length<=4000):CallsIn Fence.wide 2 Tryz.prog 139 #[.agg #[.slice A l.length c,.int .i64 r]] w (uA l r w):=by
 have HN:=hid hN;have HK:=hid hk;clear hN hk;obtain⟨n,hn⟩:∃n,n=l.length:=⟨_,rfl⟩;have HL:=hid hn;rw[<- hn]at h0 h1 h2 |-;clear hn;have q1:((n:Int)==0)=false:=by simp;omega
 have q2:¬(4000:Int)<(n:Int):=by omega
 have q3:(r != (n:Int)-1)=false:=by simp[h2]
 refine callsIn_of_wp_marks Tryz.func139 rfl trivial ?_ rfl
 simp only[Tryz.ntmps139,List.size_toArray,List.length_cons,List.length_nil,Nat.reduceAdd,Nat.reduceSub,Array.replicate_succ,Array.replicate_zero,List.push_toArray,List.append_toArray,List.nil_append,List.cons_append];have hmk:=λw'=>ku n (by omega) w'
 gi_wp2
 clear hmk;refine wpIn_loop (λa' W=>∃(p:Nat) (b:Nat->Nat) (ds:List Deferred) (u5 u6 u7 u8 u9 u32 u33 u34 u35 u36 u37 u38 u39 u40 u41 u42 u43 u44 u45 u46 u47 u48 u49 u50 u51 u52 u53 u54 u55 u56 u57 u58:Value),(p<=n/\iY l b p/\uC A c n w b ds W.heap.size W)/\a' = {tmps := #[.agg #[.slice A n c,.int .i64 ((n:Int)-1)],.pointer (some ⟨w.heap.size,0,none⟩),.pointer (some ⟨w.heap.size+1,0,none⟩),.int .i64 (n:Int),.pointer (some ⟨w.heap.size+1+1+1,0,none⟩),u5,u6,u7,u8,u9,.pointer (some ⟨w.heap.size,0,none⟩),.slice A n c,.int .i64 (n:Int),.int .i64 (n:Int),.bool false,.bool false,.int .i64 (n:Int),.bool false,.bool false,.bool false,.pointer (some ⟨w.heap.size,1,none⟩),.int .i64 ((n:Int)-1),.int .i64 (n:Int),.int .i64 ((n:Int)-1),.bool false,.bool false,.int .i64 (n:Int),.slice (some ⟨w.heap.size+1+1,0,none⟩) n n,.pointer (some ⟨w.heap.size,0,none⟩),.slice A n c,.int .i64 (n:Int),.int .i64 (p:Int),u32,u33,u34,u35,u36,u37,u38,u39,u40,u41,u42,u43,u44,u45,u46,u47,u48,u49,u50,u51,u52,u53,u54,u55,u56,u57,u58,undef,undef,undef,undef,undef,undef,undef],defers:=ds}) (λa' _=>n-(intOf (a'.tmps.getD 31 undef)).toNat) ?_ ?_
 ·refine⟨0,λ_=>0,[],_,_,_,_,_,_,_,_,_,_,_,_,_,_,_,_,_,_,_,_,_,_,_,_,_,_,_,_,_,_,_,_,⟨Nat.zero_le _,λq hq=>absurd hq (Nat.not_lt_zero q),?_⟩,rfl⟩;have e0:∀(w':World) (o:Obj),(w'.alloc o).heap.size=w'.heap.size+1:=λw' o=>World.size_alloc w' o
  refine⟨(((Bx.new w 25 _).alloc _).alloc _).alloc _,?_,?_,?_,?_,trivial⟩
  ·have:=((Bx.new (w.alloc (.cells #[.slice A n c,.int .i64 ((n:Int)-1)] 25)) 35 [.slice none 0 0]).alloc (.cells (p_ n λ_=>0) 3)).alloc (.cells #[.slice (some ⟨w.heap.size+1+1,0,none⟩) n n] 35);rw[e0]at this;exact this
  ·have:=World.alloc_heap_new ((w.alloc (.cells #[.slice A n c,.int .i64 ((n:Int)-1)] 25)).alloc (.cells #[.slice none 0 0] 35)) (.cells (p_ n λ_=>0) 3);rw[e0,e0]at this;exact Ib.alloc (show Ib _ _ n (λ_=>0)from this) _
  ·have:=Bx.new (((w.alloc (.cells #[.slice A n c,.int .i64 ((n:Int)-1)] 25)).alloc (.cells #[.slice none 0 0] 35)).alloc (.cells (p_ n λ_=>0) 3)) 35 [.slice (some ⟨w.heap.size+1+1,0,none⟩) n n];rw[e0,e0,e0]at this;exact this
  ·exact((((Below.refl _ w).alloc (Nat.le_refl _) _).alloc (by simp) _).alloc (by simp;omega) _).alloc (by simp;omega) _
 ·rintro a1 W ⟨p,b,ds,u5,u6,u7,u8,u9,u32,u33,u34,u35,u36,u37,u38,u39,u40,u41,u42,u43,u44,u45,u46,u47,u48,u49,u50,u51,u52,u53,u54,u55,u56,u57,u58,⟨hp,hS,hM⟩,rfl⟩;by_cases hlt:p<n
  ·have hlz:(p:Int)<(n:Int):=by omega
   have hpl:p<l.length:=by rw[<- HL.out];exact hlt
   obtain⟨bA,off,rfl,hbl,hc⟩:=(HN.out.below hM.b) (by omega);obtain⟨K,ck,c0,c1,c2,c3,c4,hI⟩:=hc p hpl;have hks:l[p].ks.length<=4000:=HK.out _ (List.getElem_mem _);have HKA:=hid (aQ hpl);clear hc;generalize l[p]=x at *
   obtain⟨kd,nn,pl,tx,ks⟩:=x;dsimp only at c0 c1 c2 c3 c4 hI hks HKA
   gi_wp2_with (refine⟨trivial,?_⟩;gi_at_call 216;refine(E8 _ _ _ _).mono ?_;rintro e w' ⟨rfl,rfl⟩)
   obtain⟨W1,hW1⟩:∃W1,(((W.alloc (.cells #[.int .i64 kd,.int .i64 nn,.int .i64 pl,.string tx,.slice K ks.length ck] 37)).alloc (.cells #[.int .i64 (p:Int)] 3)).alloc (.cells #[.slice K ks.length ck] 35))=W1:=⟨_,rfl⟩;have e0:∀(w':World) (o:Obj),(w'.alloc o).heap.size=w'.heap.size+1:=λw' o=>World.size_alloc w' o
   have hsz:W1.heap.size=W.heap.size+1+1+1:=by rw[<- hW1,e0,e0,e0]
   have hz3:=hM.s.lt;have hM1:uC (some ⟨bA,off,none⟩) c n w b ds W.heap.size W1:=by
    rw[<- hW1];exact((hM.alloc (Nat.le_refl _) _).alloc (by rw[e0];omega) _).alloc (by rw[e0,e0];omega) _
   have hs1:Bx W1 (W.heap.size+1) 3 [.int .i64 (p:Int)]:=by
    rw[<- hW1];have:=(Bx.new (W.alloc (.cells #[.int .i64 kd,.int .i64 nn,.int .i64 pl,.string tx,.slice K ks.length ck] 37)) 3 [.int .i64 (p:Int)]).alloc (.cells #[.slice K ks.length ck] 35);rw[e0]at this;exact this
   have hs2:Bx W1 (W.heap.size+1+1) 35 [.slice K ks.length ck]:=by
    rw[<- hW1];have:=Bx.new ((W.alloc (.cells #[.int .i64 kd,.int .i64 nn,.int .i64 pl,.string tx,.slice K ks.length ck] 37)).alloc (.cells #[.int .i64 (p:Int)] 3)) 35 [.slice K ks.length ck];rw[e0,e0]at this;exact this
   have hb1:Below W.heap.size W W1:=by
    rw[<- hW1];exact(((Below.refl _ W).alloc (Nat.le_refl _) _).alloc (by simp) _).alloc (by simp;omega) _
   rw[hW1];have hI1:=hI.below hb1;have hA1:∀j,j<ks.length->∃b off,K=some ⟨b,off,none⟩/\b<W.heap.size/\W1.cell? ⟨b,off+j,none⟩=some (.int .i64 (ks[j]?.getD 0)):=λj hj=>by
    obtain⟨b1,off1,e1,hl1,_⟩:=hI (by omega);obtain⟨b2,off2,e2,hl2,hc2⟩:=hI1 (by omega);obtain⟨rfl,rfl⟩:b1=b2/\off1=off2:=by rw[e1]at e2;simpa using e2
    exact⟨b1,off1,e1,hl1,by rw[hc2 j hj];simp[hj]⟩
   clear hb1 hI hI1 c0 c1 c2 c3 c4 hM hW1;refine wpIn_rangeFunc_ownG rfl (by omega) (gf:=255) (lb := #[.pointer (some ⟨W.heap.size+1+1,0,none⟩)]) rfl trivial (enters_of Tryz.func255 (by kernel_rfl) rfl)
    (xZ (W.heap.size+1+1) W.heap.size K ck ks (by omega) W1 (by omega) (by omega) (hs2.cell 0) hA1)
    (λh k=>⟨h.1.trans k.1,k.2.trans h.2⟩)
    (λX q o o' hq ho h1 h2=>⟨⟨rfl,rfl,rfl,by simp[World.putObj],λj hj=>World.putObj_heap_other (by omega)⟩,World.putObj_heap_other (by omega)⟩) (Below.refl _ _) (λ_=>rfl)
    (λpre X=>(∃s:Nat,ig b (pre.map (·.2)) p=some s/\Bx X (W.heap.size+1) 3 [.int .i64 (s:Int)])/\W1.heap.size<=X.heap.size/\uC (some ⟨bA,off,none⟩) c n w b ds W.heap.size X)
    (λcd pre X=>(cd=.ret/\ig b (pre.map (·.2)) p=none)/\W1.heap.size<=X.heap.size/\uC (some ⟨bA,off,none⟩) c n w b ds W.heap.size X)
    (λpre X Y row hs hg hr=>by
     obtain⟨⟨s,h1,h2⟩,h3,h4⟩:=hs
     exact⟨⟨s,h1,h2.grown hg (o8 h2 hr)⟩,Nat.le_trans h3 hg.size,h4.own hg hr (by omega) (by omega) (by omega)⟩)
    (λcd pre X Y row hs hg hr=>⟨hs.1,Nat.le_trans hs.2.1 hg.size,hs.2.2.own hg hr (by omega) (by omega) (by omega)⟩)
    ⟨⟨p,rfl,hs1⟩,Nat.le_refl _,hM1⟩
    (λx => {tmps := #[.agg #[.slice (some ⟨bA,off,none⟩) n c,.int .i64 ((n:Int)-1)],.pointer (some ⟨w.heap.size,0,none⟩),.pointer (some ⟨w.heap.size+1,0,none⟩),.int .i64 (n:Int),.pointer (some ⟨w.heap.size+1+1+1,0,none⟩),.int .i64 (p:Int),.pointer (some ⟨W.heap.size,0,none⟩),.pointer (some ⟨W.heap.size+1,0,none⟩),u8,.int .i64 x.2,.pointer (some ⟨w.heap.size,0,none⟩),.slice (some ⟨bA,off,none⟩) n c,.int .i64 (n:Int),.int .i64 (n:Int),.bool false,.bool false,.int .i64 (n:Int),.bool false,.bool false,.bool false,.pointer (some ⟨w.heap.size,1,none⟩),.int .i64 ((n:Int)-1),.int .i64 (n:Int),.int .i64 ((n:Int)-1),.bool false,.bool false,.int .i64 (n:Int),.slice (some ⟨w.heap.size+1+1,0,none⟩) n n,.pointer (some ⟨w.heap.size,0,none⟩),.slice (some ⟨bA,off,none⟩) n c,.int .i64 (n:Int),.int .i64 (p:Int),.bool true,.int .i64 (p:Int),.pointer (some ⟨bA,off+p*5,none⟩),.agg #[.int .i64 kd,.int .i64 nn,.int .i64 pl,.string tx,.slice K ks.length ck],.int .i64 (p:Int),.pointer (some ⟨W.heap.size,4,none⟩),.slice K ks.length ck,.func (.func 255) #[] #[.pointer (some ⟨W.heap.size+1+1,0,none⟩)],.int .i64 x.1,.int .i64 x.2,u42,u43,u44,u45,u46,u47,u48,u49,u50,u51,u52,u53,u54,u55,u56,u57,u58,undef,undef,undef,undef,undef,undef,undef],defers:=[]}) ?assign ?body ?done ?stop
   case assign=>
    intro l' x X K' hK
    gi_wp2
    exact hK
   case body=>
    rintro l' pre ⟨x1,x2⟩ X ⟨⟨s,h3,h4⟩,h5,h6⟩ hpre;have hsp:=uy _ _ _ hS.le h3;have hcs:=h4.cell 0;have hfs:=h4.frozen 0;have hcr:=h6.r.cell 0;have hfr:=h6.r.frozen 0;have hcb:=h6.s.cell 0;simp only[List.getElem?_cons_zero]at hcs hcr hcb;have HSN:=hid (BJ (k:=x2) h3);have H6:=hid h6;have H4:=hid h4;obtain⟨v,hv⟩:∃v:Int,v=(s:Int):=⟨_,rfl⟩;rw[<- hv]at hcs;by_cases e1:s=0
    ·have hv0:v=0:=by omega
     subst hv0;have HR:=hid (show ig b ((pre++[(x1,x2)]).map (·.2)) p=none by rw[List.map_append];show ig b (pre.map (·.2)++[x2]) p=none;rw[HSN.out,if_pos e1]);clear h3 h4 h6 hv HSN hsp e1
     gi_wp2
     exact⟨(KeepsOthers.setCell _ _ _).from _,⟨rfl,HR.out⟩,by rw[World.size_setCell];exact h5,H6.out.res⟩
    ·have hq0:(v==0)=false:=by simp;omega
     by_cases e2:x2=v-1
     ·obtain⟨s',rfl⟩:∃s',s=s'+1:=⟨s-1,by omega⟩;have hx2:x2=(s':Int):=by omega
      have hx3:v=(s':Int)+1:=by omega
      have hq1:((s':Int) != (s':Int))=false:=by simp
      have HR:=hid (show ig b ((pre++[(x1,x2)]).map (·.2)) p=some (b s')by rw[List.map_append];show ig b (pre.map (·.2)++[x2]) p=_;rw[HSN.out,if_neg e1,if_pos (by omega)];rfl);have hcg:=H6.out.g.cell (i:=s') (by omega);clear h3 h4 h6 hv e2 HSN;subst hx2 hx3;have hsn:s'<n:=by omega
      gi_wp2
      refine⟨(KeepsOthers.setCell _ _ _).from _,⟨(Below.refl _ X).setCell (p:=⟨W.heap.size+1,0,none⟩) (by show _<=W.heap.size+1;omega) _,heap_setCell_other X _ _ _ (by show W.heap.size+1+1≠W.heap.size+1;omega)⟩,⟨b s',HR.out,H4.out.set_ 0 _⟩,by rw[World.size_setCell];exact h5,H6.out.far (by omega) (λD hD _=>by omega)⟩
     ·have hq1:(x2 != v-1)=true:=by simp[e2]
      have HR:=hid (show ig b ((pre++[(x1,x2)]).map (·.2)) p=none by rw[List.map_append];show ig b (pre.map (·.2)++[x2]) p=none;rw[HSN.out,if_neg e1,if_neg (by omega)]);have hvl:v<=4000:=by omega
      have hvg:0<v:=by omega
      clear h3 h4 h6 hv HSN
      gi_wp2
      exact⟨(KeepsOthers.setCell _ _ _).from _,⟨rfl,HR.out⟩,by rw[World.size_setCell];exact h5,H6.out.res⟩
   case done=>
    rintro D ys X hD rfl ⟨⟨s,h3,h4⟩,h5,h6⟩ hK;rw[tC ks (Nat.le_refl _),List.take_of_length_le (by simp)]at h3;have hcs:=h4.cell 0;have hcb:=h6.s.cell 0;have hcg:=h6.g.cell hlt;have hfg:=h6.g.frozen p;simp only[List.getElem?_cons_zero]at hcs hcb;have hS2:=hS.step (s:=s) (by rw[HKA.out];exact h3);have H6:=hid h6;have HK2:=hid hK;have HS2:=hid hS2;clear h3 h4 h6 hS2 hS hK
    gi_wp2
    have h7:=H6.out.put p s;refine⟨⟨p+1,λj=>if j=p then s else b j,_,_,_,_,_,_,_,_,_,_,_,_,_,_,_,_,_,_,_,_,_,_,_,_,_,_,_,_,_,_,_,_,_,⟨by omega,HS2.out,?_⟩,rfl⟩,by simp[intOf];omega⟩;refine⟨h7.t,h7.r,h7.g,h7.s,h7.b,D,rfl,by omega,?_,?_,h7.m.mono (by omega)⟩
    ·rw[World.size_setCell];exact(Array.getElem?_eq_some_iff.1 HK2.out).1
    ·refine(heap_setCell_other X _ D _ ?_).trans HK2.out;show D≠w.heap.size+1+1;omega
   case stop=>
    rintro D cd pre X hD ⟨k,hk,rfl⟩ ⟨⟨rfl,h3⟩,h5,h6⟩ hK;have hno:∀b',¬Sd l ((n:Int)-1) b':=λb' h=>by
     refine hS.fail ?_ b' (n:=n) hlt (by rw[HL.out];exact h.2.2.2.1);rw[HKA.out];rw[tC ks hk]at h3;rw[<- List.take_append_drop k ks.reverse,uB,h3];rfl
    have HNO:=hid hno;clear hno h3
    gi_wp2
    have hmk:Marks w.heap.size X ({target :=.collected D,args := #[]} :: ds) (D+1):=⟨D,rfl,by omega,by omega,hK,h6.m.mono (by omega)⟩;refine gq _ _ _ hmk λw' hb hc =>?_
    have hc5:=(show Bx w' _ 35 _ from hc _ _ h6.r rfl).cell 0;refine⟨.slice none 0 0,?_,h6.b.trans hb,.inr ⟨HNO.out,rfl⟩⟩;simp[results,Tryz.f139,go_sem,hc5]
  ·obtain rfl:p=n:=by omega
   have hlz:¬(p:Int)<(p:Int):=by omega
   obtain⟨n',rfl⟩:∃n',p=n'+1:=⟨p-1,by omega⟩;have hct0:=hM.t.cell 0;have hct:=hM.t.cell 1;have hcr:=hM.r.cell 0;have hfr:=hM.r.frozen 0;have hcb:=hM.s.cell 0;have hcg:=hM.g.cell (i:=n') (by omega);simp only[List.getElem?_cons_zero,List.getElem?_cons_succ]at hct hct0 hcr hcb;rw[show((n'+1:Nat):Int)-1=(n':Int)by omega]at *
   have HM:=hid hM;have HS:=hid hS;clear hM hS hlt hp;by_cases hb0:b n'=0
   ·have hq0:((b n':Int) != 0)=false:=by simp[hb0]
    have HSd:=hid (show Sd l (n':Int) b from⟨by rw[<- HL.out];omega,by rw[<- HL.out];omega,by rw[<- HL.out];omega,by rw[<- HL.out];exact HS.out,by rw[<- HL.out];exact hb0⟩);clear hb0
    gi_wp2
    have hm2:=HM.out.m.keep (w':=W.setCell ⟨w.heap.size+1,0,none⟩ (.slice (some ⟨w.heap.size+1+1,0,none⟩) (n'+1) (n'+1))) λD hD hd=>(heap_setCell_other W _ D _ (λe=>by have e':D=w.heap.size+1:=e;subst e';have:=HM.out.r;unfold Bx at this;rw[this]at hd;cases hd)).trans hd
    refine gq _ _ _ hm2 λw' hb hc =>?_
    have hc5:=(show Bx w' _ 35 _ from hc _ _ (HM.out.r.set_ 0 (.slice (some ⟨w.heap.size+1+1,0,none⟩) (n'+1) (n'+1))) rfl).cell 0;have hg5:Ib w' _ _ _:=hc _ _ (HM.out.g.far (p:=⟨w.heap.size+1,0,none⟩) (by show w.heap.size+1+1≠w.heap.size+1;omega) _) rfl;have hb5:=(HM.out.b.setCell (p:=⟨w.heap.size+1,0,none⟩) (by show _<=w.heap.size+1;omega) (.slice (some ⟨w.heap.size+1+1,0,none⟩) (n'+1) (n'+1))).trans hb;refine⟨.slice (some ⟨w.heap.size+1+1,0,none⟩) (n'+1) (n'+1),?_,hb5,.inl ⟨b,w.heap.size+1+1,HSd.out,by rw[<- HL.out],by rw[<- HL.out];exact hg5,by omega⟩⟩;simp[results,Tryz.f139,go_sem,hc5]
   ·have hq0:((b n':Int) != 0)=true:=by simp;omega
    have HNO:=hid (show∀b',¬Sd l (n':Int) b' from λb' h=>by
     have h1:=h.2.2.2.1
     have h2:=h.2.2.2.2
     rw[<- HL.out]at h1 h2
     have:=HS.out.uniq h1 n' (by omega)
     rw[show n'+1-1=n' by omega]at h2
     omega)
    clear hb0
    gi_wp2
    have h6:=HM.out.res;refine gq _ _ _ h6.m λw' hb hc =>?_
    have hc5:=(show Bx w' _ 35 _ from hc _ _ h6.r rfl).cell 0;refine⟨.slice none 0 0,?_,h6.b.trans hb,.inr ⟨HNO.out,rfl⟩⟩;simp[results,Tryz.f139,go_sem,hc5]
theorem Ao (A:Option Addr)(c n:Nat)(l:List Nd)(r:Int)(w:World)(hn:n=l.length)(h:¬(1<=n/\n<=4000/\r=(n:Int)-1)):Calls Tryz.prog 139 #[.agg #[.slice A n c,.int .i64 r]] w (uA l r w):=by
 have HNO:=hid (show∀b,¬Sd l r b from λb k=>h ⟨by rw[hn];exact k.1,by rw[hn];exact k.2.1,by rw[hn];exact k.2.2.1⟩);have fin:∀w',Below w.heap.size w w'->uA l r w (.returned (.slice none 0 0)) w':=λw' hb=>⟨hb,.inr ⟨HNO.out,rfl⟩⟩
 have hb2:∀(o1 o2:Obj),Below w.heap.size w ((w.alloc o1).alloc o2):=λo1 o2=>((Below.refl _ w).alloc (Nat.le_refl _) _).alloc (by simp) _
 have HF:=hid fin;have HB:=hid hb2;clear fin hb2;by_cases h1:n=0
 ·have q1:((n:Int)==0)=true:=by simp[h1]
  clear h h1 hn HNO;go_enter Tryz.func139,Tryz.ntmps139
  go_wp2;refine bodyPost_ret (v :=.slice none 0 0) (by simp[results,Tryz.f139,go_sem]) rfl (HF.out _ (HB.out _ _))
 ·have q1:((n:Int)==0)=false:=by simp;omega
  by_cases h2:(4000:Int)<(n:Int)
  ·clear h h1 hn HNO;go_enter Tryz.func139,Tryz.ntmps139
   go_wp2;refine bodyPost_ret (v :=.slice none 0 0) (by simp[results,Tryz.f139,go_sem]) rfl (HF.out _ (HB.out _ _))
  ·have q3:(r != (n:Int)-1)=true:=by
    rw[bne_iff_ne];intro e;exact h ⟨by omega,by omega,e⟩
   have hn1:1<=n:=by omega
   clear h h1 hn HNO;go_enter Tryz.func139,Tryz.ntmps139
   go_wp2;refine bodyPost_ret (v :=.slice none 0 0) (by simp[results,Tryz.f139,go_sem]) rfl (HF.out _ (HB.out _ _))
theorem x_ (A:Option Addr)(c n:Nat)(l:List Nd)(r:Int)(w:World)(hN:bu w A l)(hn:n=l.length)(hk:∀x ∈ l,x.ks.length<=4000):Calls Tryz.prog 139 #[.agg #[.slice A n c,.int .i64 r]] w (uA l r w):=by
 by_cases h:1<=n/\n<=4000/\r=(n:Int)-1
 ·subst hn;exact callsIn_wide.1 (Am A c l r w hN h.1 h.2.1 h.2.2 hk)
 ·exact Ao A c n l r w hn h
end
def gF (l:List Nd)(r:Int):Prop:=∃b,Sd l r b
open Classical in
noncomputable def qO (l:List Nd)(r:Int):Bool:=decide (gF l r)
open Classical in
theorem dF {l:List Nd}{r:Int}(h:gF l r):qO l r=true:=decide_eq_true h
open Classical in
theorem dK {l:List Nd}{r:Int}(h:¬gF l r):qO l r=false:=decide_eq_false h
def iU (l:List Nd):Nat->Nat->Nat
 |0=>λ_=>0
 |n+1=>λj=>if j=n then sH (iU l n) (aA l n) else iU l n j
theorem BK (l:List Nd):∀(n m j:Nat),j<n->n<=m->iU l m j=iU l n j:=by
 intro n m j hj hm;induction m with
 |zero=>omega
 |succ m ih=>
  by_cases e:n=m+1
  ·rw[e]
  ·show(if j=m then sH (iU l m) (aA l m) else iU l m j)=_;rw[if_neg (by omega)];exact ih (by omega)
theorem zi {l:List Nd}{b:Nat->Nat}{n:Nat}(hs:iY l b n):EX l (iU l n) n:=λp hp=>by
 rw[BK l (p+1) n p (by omega) (by omega)];show(if p=p then sH (iU l p) (aA l p) else iU l p p)=_;rw[if_pos rfl];refine jR λk hk =>?_
 obtain⟨m,rfl,hm,_⟩:=hs.kid hp hk;rw[Int.toNat_natCast];exact(BK l p n m hm (by omega)).symm
theorem nM {f:Int->Nat}{m:Nat}:∀(ks:List Int) (a:Nat),a<=m->(∀k ∈ ks,f k<=m)->ks.foldl (λa k=>max a (f k)) a<=m
 | [],_,h,_=>h
 |k :: ks,a,h,hk=>by
  rw[List.foldl_cons];exact nM ks _ (Nat.max_le.2 ⟨h,hk k (by simp)⟩) (λx hx=>hk x (by simp[hx]))
theorem EX.le {l:List Nd}{b d:Nat->Nat}{n:Nat}(hs:iY l b n)(h:EX l d n):∀p,p<n->d p<=p+1:=by
 intro p;induction p using Nat.strongRecOn with
 |_ p ih=>
  intro hp;rw[h p hp];unfold sH;refine Nat.succ_le_succ (nM (f:=λk=>d k.toNat) _ 0 (Nat.zero_le _) λk hk =>?_);obtain⟨m,rfl,hm,_⟩:=hs.kid hp hk;have:=ih m hm (by omega);simp only[Int.toNat_natCast];omega
open Classical in
noncomputable def jQ (l:List Nd)(r:Int):Nat:=if gF l r then iU l l.length (l.length-1) else 0
open Classical in
theorem iL {l:List Nd}{r:Int}(h:gF l r):jQ l r=iU l l.length (l.length-1):=if_pos h
open Classical in
theorem BL {l:List Nd}{r:Int}(h:¬gF l r):jQ l r=0:=if_neg h
def au (b:Bool)(w:World)(e:Ending)(w':World):Prop:=e=.returned (.bool b)/\Below w.heap.size w w'
def az (i:Int)(w:World)(e:Ending)(w':World):Prop:=e=.returned (.int .i64 i)/\Below w.heap.size w w'
theorem Kn (w:World):(binOp .neq 35 (.slice none 0 0) (.slice none 0 0)).run Tryz.prog w=.ok (.bool false) w:=by kernel_rfl
theorem Ip (a:Addr)(n c:Nat)(w:World):(binOp .neq 35 (.slice (some a) n c) (.slice none 0 0)).run Tryz.prog w=.ok (.bool true) w:=by kernel_rfl
theorem tF (A:Option Addr)(c n:Nat)(l:List Nd)(r:Int)(w:World)(hN:bu w A l)(hn:n=l.length)(hk:∀x ∈ l,x.ks.length<=4000):Calls Tryz.prog 78 #[.agg #[.slice A n c,.int .i64 r]] w (au (qO l r) w):=by
 have hb:Below w.heap.size w (w.alloc (.cells #[.slice A n c,.int .i64 r] 25)):=ag _ _;have h0:=x_ A c n l r _ (hN.below hb) hn hk;clear hN hk;by_cases h:gF l r
 ·rw[dF h];have HS:=hid (show Calls Tryz.prog 139 #[.agg #[.slice A n c,.int .i64 r]] (w.alloc (.cells #[.slice A n c,.int .i64 r] 25)) (λe w'=>(∃g,e=.returned (.slice (some ⟨g,0,none⟩) n n))/\Below (w.alloc (.cells #[.slice A n c,.int .i64 r] 25)).heap.size (w.alloc (.cells #[.slice A n c,.int .i64 r] 25)) w')from h0.mono (by
   rintro e w1 ⟨hb1,⟨b,g,hS,rfl,hI,hg⟩ |⟨hno,rfl⟩⟩
   ·exact⟨⟨g,by rw[hn]⟩,hb1⟩
   ·obtain⟨b,h⟩:=h;exact(hno b h).elim))
  clear h0 h hn;go_enter Tryz.func78,Tryz.ntmps78
  go_wp2_with (go_at_call 139;refine HS.out.mono ?_);rintro e w1 ⟨⟨g,rfl⟩,hb1⟩;have hnil:=Ip ⟨g,0,none⟩ n n;go_wp2
  go_ret
  exact⟨rfl,bt hb hb1⟩
 ·rw[dK h];have HS:=hid (show Calls Tryz.prog 139 #[.agg #[.slice A n c,.int .i64 r]] (w.alloc (.cells #[.slice A n c,.int .i64 r] 25)) (λe w'=>e=.returned (.slice none 0 0)/\Below (w.alloc (.cells #[.slice A n c,.int .i64 r] 25)).heap.size (w.alloc (.cells #[.slice A n c,.int .i64 r] 25)) w')from h0.mono (by
   rintro e w1 ⟨hb1,⟨b,g,hS,rfl,hI,hg⟩ |⟨hno,rfl⟩⟩
   ·exact(h ⟨b,hS⟩).elim
   ·exact⟨rfl,hb1⟩))
  clear h0 h hn;go_enter Tryz.func78,Tryz.ntmps78
  go_wp2_with (go_at_call 139;refine HS.out.mono ?_);rintro e w1 ⟨rfl,hb1⟩;have hnil:=Kn;go_wp2
  go_ret
  exact⟨rfl,bt hb hb1⟩
theorem vW (A:Option Addr)(c n:Nat)(l:List Nd)(r:Int)(w:World)(hN:bu w A l)(hn:n=l.length)(hk:∀x ∈ l,x.ks.length<=4000)(h:¬gF l r):Calls Tryz.prog 31 #[.agg #[.slice A n c,.int .i64 r]] w (az 0 w):=by
 have hb:Below w.heap.size w (w.alloc (.cells #[.slice A n c,.int .i64 r] 25)):=ag _ _;have HS:=hid (tF A c n l r _ (hN.below hb) hn hk);rw[dK h]at HS;clear hN hk h hn;go_enter Tryz.func31,Tryz.ntmps31
 go_wp2_with (go_at_call 78;refine HS.out.mono ?_;rintro e w1 ⟨rfl,hb1⟩)
 go_ret
 exact⟨rfl,bt hb hb1⟩
theorem Aq (A:Option Addr)(c n:Nat)(l:List Nd)(r:Int)(w:World)(hN:bu w A l)(hn:n=l.length)(hk:∀x ∈ l,x.ks.length<=4000)(h:gF l r):Calls Tryz.prog 31 #[.agg #[.slice A n c,.int .i64 r]] w (az (iU l n (n-1):Int) w):=by
 have hb:Below w.heap.size w (w.alloc (.cells #[.slice A n c,.int .i64 r] 25)):=ag _ _;have HS:=hid (tF A c n l r _ (hN.below hb) hn hk);rw[dF h]at HS;have HN:=hid hN;have HL:=hid hn;have HK:=hid hk;obtain⟨b,hS⟩:=h;obtain⟨h1,h2,h3,h4,h5⟩:=hS;rw[<- hn]at h1 h2 h3 h4;obtain⟨n',hn'⟩:∃n',n'=n-1:=⟨_,rfl⟩;have hr:r=(n':Int):=by omega
 have hnn:n'<n:=by omega
 have HNN:=hid (show n=n'+1 by omega);rw[<- hn'];clear hn';subst hr;have HU:=hid h4;clear hN hk hn h4 h3 h5;go_enter Tryz.func31,Tryz.ntmps31
 go_wp2_with (go_at_call 78;refine HS.out.mono ?_);rintro e w1 ⟨rfl,hb1⟩;clear HS;have e0:∀(w':World) (o:Obj),(w'.alloc o).heap.size=w'.heap.size+1:=λw' o=>World.size_alloc w' o
 have hbb:=bt hb hb1;have hz:w.heap.size<w1.heap.size:=by have:=hb1.size;rw[e0]at this;omega
 have hB:Bx w1 w.heap.size 25 [.slice A n c,.int .i64 (n':Int)]:=(Bx.new w 25 _).below hb1 (by rw[e0];omega);clear hb hb1;have hct0:=hB.cell 0;have hct1:=hB.cell 1;simp only[List.getElem?_cons_zero,List.getElem?_cons_succ]at hct0 hct1;have hmk:=λw'=>ku n (by omega) w'
 go_wp2;clear hmk hct0 hct1
 go_loopw [19] (λi wr=>∃p:Nat,p<=n/\i=.int .i64 (p:Int)/\Bx wr w.heap.size 25 [.slice A n c,.int .i64 (n':Int)]/\Ib wr w1.heap.size n (λj=>(iU l p j:Int))/\Below w.heap.size w wr) (λi _=>n-(intOf i).toNat)
 case atStart=>exact⟨0,Nat.zero_le _,rfl,hB.alloc _,World.alloc_heap_new _ _,hbb.alloc hbb.size _⟩
 case round=>
  clear hbb hB;obtain⟨p,hp,rfl,hB,hG,hbw⟩:=hrel;have hct0:=hB.cell 0;have hct1:=hB.cell 1;simp only[List.getElem?_cons_zero,List.getElem?_cons_succ]at hct0 hct1;by_cases hlt:p<n
  ·have hlz:(p:Int)<(n:Int):=by omega
   have hpl:p<l.length:=by rw[<- HL.out];exact hlt
   obtain⟨bA,off,rfl,hbl,hc⟩:=(HN.out.below hbw) (by omega);obtain⟨K,ck,c0,c1,c2,c3,c4,hI⟩:=hc p hpl;have hks:l[p].ks.length<=4000:=HK.out _ (List.getElem_mem _);have hkid:∀j (hj:j<l[p].ks.length),∃m:Nat,l[p].ks[j]=m/\m<p:=λj hj=>by
    obtain⟨m,e,hm,_⟩:=HU.out.kid hlt (k:=l[p].ks[j]) (by rw[aQ hpl];exact List.getElem_mem _);exact⟨m,e,hm⟩
   have HKID:=hid hkid;have HKA:=hid (aQ hpl);clear hc hkid;generalize l[p]=x at *
   obtain⟨kd,nn,pl,tx,ks⟩:=x;dsimp only at c0 c1 c2 c3 c4 hI hks HKA HKID;obtain⟨f,hf⟩:∃f:Nat->Nat,f=λj=>(ks.take j).foldl (λa k=>max a (iU l p k.toNat)) 0:=⟨_,rfl⟩
   have HF:=hid hf;have hf0:f 0=0:=by rw[hf];rfl
   clear hf;go_wp2
   go_loop [6,27] (λu i=>∃j:Nat,j<=ks.length/\i=.int .i64 (j:Int)/\u=.int .i64 (f j:Int)) (λ_ i=>ks.length-(intOf i).toNat)
   case atStart=>exact⟨0,Nat.zero_le _,rfl,by rw[hf0];rfl⟩
   case round=>
    obtain⟨j,hj,rfl,rfl⟩:=hrel;by_cases hjl:j<ks.length
    ·have hjz:(j:Int)<(ks.length:Int):=by omega
     obtain⟨bK,oK,rfl,hbK,hcK⟩:=hI (by omega);obtain⟨m,hm,hmp⟩:=HKID.out j hjl;have hck:=hcK j hjl;rw[hm]at hck;have hck2:=((ag wr (.cells #[.int .i64 kd,.int .i64 nn,.int .i64 pl,.string tx,.slice (some ⟨bK,oK,none⟩) ks.length ck] 37)).cell (p:=⟨bK,oK+j,none⟩) hbK).trans hck;have hcg:=(hG.alloc (.cells #[.int .i64 kd,.int .i64 nn,.int .i64 pl,.string tx,.slice (some ⟨bK,oK,none⟩) ks.length ck] 37)).cell (i:=m) (by omega);have hfs:f (j+1)=max (f j) (iU l p m):=by
      rw[HF.out];show(ks.take (j+1)).foldl _ 0=_;rw[List.take_succ_eq_append_getElem hjl,List.foldl_append,hm];rfl
     have hfz:max (f j:Int) (iU l p m:Int)=(f (j+1):Int):=by omega
     have hmn:m<n:=by omega
     clear hcK hck hm;go_wp2
     go_round
     case rel=>exact⟨j+1,by omega,by go_num,congrArg (Value.int .i64) (by split<;>omega)⟩
     case measure=>simp[intOf];omega
    ·obtain rfl:j=ks.length:=by omega
     have hjz:¬(ks.length:Int)<(ks.length:Int):=by omega
     have hfe:f ks.length+1=iU l (p+1) p:=by
      show _=(if p=p then sH (iU l p) (aA l p) else iU l p p);rw[if_pos rfl,HKA.out,HF.out];show(ks.take ks.length).foldl _ 0+1=_;rw[List.take_length];rfl
     have hfb:f ks.length<=4000:=by
      have h6:=(zi (λq hq=>HU.out q (by omega):iY l b (p+1))).le (λq hq=>HU.out q (by omega)) p (by omega);omega
     have HFE:=hid hfe;have hG2:=hG.alloc (.cells #[.int .i64 kd,.int .i64 nn,.int .i64 pl,.string tx,.slice K ks.length ck] 37);have hcg:=hG2.cell hlt;have hfg:=hG2.frozen p;clear hfe;go_wp2
     go_roundw
     case rel=>
      refine⟨p+1,by omega,by go_num,?_,?_,?_⟩
      ·exact(hB.alloc _).far (by show w.heap.size≠w1.heap.size;omega) _
      ·refine(hG2.set_ p _).congr λi hi =>?_
       show _=((if i=p then sH (iU l p) (aA l p) else iU l p i:Nat):Int);by_cases e:i=p
       ·have h7:=HFE.out;have h8:iU l (p+1) p=sH (iU l p) (aA l p):=if_pos rfl;rw[if_pos e,if_pos e];omega
       ·rw[if_neg e,if_neg e]
      ·exact(hbw.alloc hbw.size _).setCell (p:=⟨w1.heap.size,p,none⟩) (by show _<=w1.heap.size;omega) _
     case measure=>simp[intOf];omega
  ·obtain rfl:p=n:=by omega
   have hlz:¬(p:Int)<(p:Int):=by omega
   have hcg:=hG.cell (i:=n') (by omega);go_wp2
   go_ret
   exact⟨rfl,hbw⟩
theorem tH (A:Option Addr)(c n:Nat)(l:List Nd)(r:Int)(w:World)(hN:bu w A l)(hn:n=l.length)(hk:∀x ∈ l,x.ks.length<=4000):Calls Tryz.prog 31 #[.agg #[.slice A n c,.int .i64 r]] w (az (jQ l r:Int) w):=by
 by_cases h:gF l r
 ·rw[iL h,<- hn];exact Aq A c n l r w hN hn hk h
 ·rw[BL h];exact vW A c n l r w hN hn hk h
end Tr
end Go.Proofs.YteecfjhjllajlaaGreatDoor
