/- PROVED here: parts N02 of the claim. No condition but those in each theorem's own head. -/
import Derived.Lib.Hide
import Derived.Test.YtedkgofehbecmaaGreatDoorProg
import Derived.Tactics
import Derived.Tactics2
import Derived.WalkKit
import Derived.IntWalk
import Derived.KernelRfl
import Derived.Below
import Derived.Deep.Draws
import Derived.Deep.QuietTactic
import Derived.BigQuiet
import Derived.StillTailTactics
import Derived.Deep.DeepCutAuto
import Derived.Laws.OwnMore
import Derived.Laws.Rows
import Derived.OrdersHeld
import Derived.Deep.RegionWith
import Derived.Maps.AppendAt
import Derived.Laws.MakeOwn
import Derived.RangeFuncNested
import Derived.RangeFuncLeaves
import Derived.RangeFuncBound
import Derived.RangeFuncCalls
import Derived.RangeFuncBox
import Derived.Shelf.Abstract
import Derived.Shelf.RegionOpen
import Derived.OwnWalkIn
import Derived.TacticsInMore
import Derived.LoopNIn
import Derived.LoopIn
namespace Go.Proofs.YtedkgofehbecmaaGreatDoor.Tr
open Go.Lib (hid)
open Go
structure Nd where
 kd:Int
 n:Int
 pl:Int
 tx:ByteArray
 ks:List Int
def stK (b:Nat->Nat):List Int->Nat->Option Nat
 | [],s=>some s
 |k :: ks,s=>if s=0 then none else if k=(s:Int)-1 then stK b ks (b (s-1)) else none
def kidsAt (l:List Nd)(p:Nat):List Int:=(l.map Nd.ks).getD p []
def StU (l:List Nd)(b:Nat->Nat)(n:Nat):Prop:=∀p,p<n->stK b (kidsAt l p).reverse p=some (b p)
theorem stK_congr {b c:Nat->Nat}:∀(ks:List Int) (s:Nat),(∀q,q<s->b q=c q)->(∀q,q<s->b q<=q)->stK b ks s=stK c ks s
 | [],_,_,_=>rfl
 |k :: ks,s,h,hb=>by
  unfold stK
  by_cases h0:s=0
  ·rw[if_pos h0,if_pos h0]
  ·rw[if_neg h0,if_neg h0]
   by_cases h1:k=(s:Int)-1
   ·rw[if_pos h1,if_pos h1,<- h (s-1) (by omega)]
    have:=hb (s-1) (by omega)
    exact stK_congr ks _ (λq hq=>h q (by omega)) (λq hq=>hb q (by omega))
   ·rw[if_neg h1,if_neg h1]
theorem stK_le {b:Nat->Nat}:∀(ks:List Int) (s e:Nat),(∀q,q<s->b q<=q)->stK b ks s=some e->e<=s
 | [],s,e,_,h=>by unfold stK at h;cases h;omega
 |k :: ks,s,e,hb,h=>by
  unfold stK at h
  split at h
  ·cases h
  split at h
  ·have:=hb (s-1) (by omega)
   have:=stK_le ks _ e (λq hq=>hb q (by omega)) h
   omega
  ·cases h
theorem stK_mem {b:Nat->Nat}:∀(ks:List Int) (s e:Nat),(∀q,q<s->b q<=q)->stK b ks s=some e->∀k ∈ ks,∃m:Nat,k=m/\m<s/\e<=b m
 | [],_,_,_,_,_,hk=>by cases hk
 |k :: ks,s,e,hb,h,x,hx=>by
  unfold stK at h
  split at h
  ·cases h
  split at h
  case isFalse=>cases h
  case isTrue h0 h1=>
   have h2:=hb (s-1) (by omega)
   have hb':∀q,q<b (s-1)->b q<=q:=λq hq=>hb q (by omega)
   rcases List.mem_cons.1 hx with rfl |hx
   ·exact⟨s-1,by omega,by omega,stK_le ks _ e hb' h⟩
   ·obtain⟨m,e1,e2,e3⟩:=stK_mem ks _ e hb' h x hx
    exact⟨m,e1,by omega,e3⟩
theorem stK_in {b:Nat->Nat}:∀(ks:List Int) (s e q:Nat),(∀q,q<s->b q<=q)->stK b ks s=some e->e<=q->q<s->∃m:Nat,(m:Int) ∈ ks/\b m<=q/\q<=m/\m<s
 | [],s,e,q,_,h,h1,h2=>by unfold stK at h;cases h;omega
 |k :: ks,s,e,q,hb,h,h1,h2=>by
  unfold stK at h
  split at h
  ·cases h
  split at h
  case isFalse=>cases h
  case isTrue h3 h4=>
   have h5:=hb (s-1) (by omega)
   by_cases hq:b (s-1)<=q
   ·exact⟨s-1,by rw[show((s-1:Nat):Int)=k by omega];exact List.mem_cons_self,hq,by omega,by omega⟩
   ·obtain⟨m,e1,e2,e3,e4⟩:=stK_in ks _ e q (λq hq=>hb q (by omega)) h h1 (by omega)
    exact⟨m,List.mem_cons_of_mem _ e1,e2,e3,by omega⟩
theorem StU.le {l:List Nd}{b:Nat->Nat}{n:Nat}(h:StU l b n):∀q,q<n->b q<=q:=by
 intro q
 induction q using Nat.strongRecOn with
 |_ q ih=>intro hq;exact stK_le _ q _ (λr hr=>ih r hr (by omega)) (h q hq)
theorem StU.kid {l:List Nd}{b:Nat->Nat}{n p:Nat}(h:StU l b n)(hp:p<n){k:Int}(hk:k ∈ kidsAt l p):∃m:Nat,k=m/\m<p/\b p<=b m:=
 stK_mem _ p _ (λq hq=>h.le q (by omega)) (h p hp) k (List.mem_reverse.2 hk)
theorem StU.inKid {l:List Nd}{b:Nat->Nat}{n p q:Nat}(h:StU l b n)(hp:p<n)(h1:b p<=q)(h2:q<p):∃m:Nat,(m:Int) ∈ kidsAt l p/\b m<=q/\q<=m/\m<p:=by
 obtain⟨m,e1,e2,e3,e4⟩:=stK_in _ p _ q (λq hq=>h.le q (by omega)) (h p hp) h1 h2
 exact⟨m,List.mem_reverse.1 e1,e2,e3,e4⟩
theorem StU.uniq {l:List Nd}{b c:Nat->Nat}{n:Nat}(h:StU l b n)(k:StU l c n):∀q,q<n->b q=c q:=by
 intro q
 induction q using Nat.strongRecOn with
 |_ q ih=>
  intro hq
  have h1:=h q hq
  rw[stK_congr _ q (λr hr=>ih r hr (by omega)) (λr hr=>h.le r (by omega)),k q hq]at h1
  exact(Option.some.inj h1).symm
def dpK (d:Nat->Nat)(ks:List Int):Nat:=ks.foldl (λa k=>max a (d k.toNat)) 0+1
def DpU (l:List Nd)(d:Nat->Nat)(n:Nat):Prop:=∀p,p<n->d p=dpK d (kidsAt l p)
theorem foldl_congr {f g:Int->Nat}:∀(ks:List Int) (a:Nat),(∀k ∈ ks,f k=g k)->ks.foldl (λa k=>max a (f k)) a=ks.foldl (λa k=>max a (g k)) a
 | [],_,_=>rfl
 |k :: ks,a,h=>by
  rw[List.foldl_cons,List.foldl_cons,h k (by simp)]
  exact foldl_congr ks _ (λx hx=>h x (by simp[hx]))
theorem dpK_congr {d e:Nat->Nat}{ks:List Int}(h:∀k ∈ ks,d k.toNat=e k.toNat):dpK d ks=dpK e ks:=by
 unfold dpK;rw[foldl_congr (f:=λk=>d k.toNat) (g:=λk=>e k.toNat) ks 0 h]
end Go.Proofs.YtedkgofehbecmaaGreatDoor.Tr
namespace Go.Proofs.YtedkgofehbecmaaGreatDoor
open Go.Lib (hid)
open Go
theorem ap:(∀(a:Act) (t:Tmp) (v:Value),a.put (some t) v = { a with tmps:=a.tmps.setIfInBounds t v })/\(∀ {α:Type} (l:List α) (i:Nat) (v:α),l.toArray.setIfInBounds i v=(l.set i v).toArray)/\(∀ {α:Type} (x:α) (l:List α) (v:α),(x :: l).set 0 v=v :: l)/\∀ {α:Type} (x:α) (l:List α) (i:Nat) (v:α),(x :: l).set (i+1) v=x :: l.set i v:=
 ⟨λ_ _ _=>rfl,λl i v=>List.setIfInBounds_toArray l i v,λ_ _ _=>rfl,λ_ _ _ _=>rfl⟩
end Go.Proofs.YtedkgofehbecmaaGreatDoor
namespace Go.Proofs.YtedkgofehbecmaaGreatDoor.Tr
open Go.Lib (hid)
open Go Go.RowKit
theorem ret_int {k:IntKind}{a b:Int}(h:a=b):Ending.returned (.int k a) = .returned (.int k b):=by rw[h]
theorem ret_bool {a b:Bool}(h:a=b):Ending.returned (.bool a) = .returned (.bool b):=by rw[h]
theorem gen_world {P:Program}{c:Code}{Q:Exit->Act->World->Prop}{a:Act}{w:World}(R:World->Prop)(h:R w)(k:∀w',R w'->Code.wp P c Q a w'):Code.wp P c Q a w:=k w h
theorem heap1 (w:World)(A:Obj):Below w.heap.size w (w.alloc A):=(Below.refl _ _).alloc (Nat.le_refl _) _
theorem bt {a b c:World}(h:Below a.heap.size a b)(k:Below b.heap.size b c):Below a.heap.size a c:=h.trans (k.mono h.size)
theorem below_drewN {B:Nat}{a w:World}(h:Below B a w)(n:Nat):Below B a (w.drewN n):=⟨h.os,h.tape,h.output,h.size,h.block⟩
theorem cell_same {w w':World}{b:Nat}(h:w'.heap[b]?=w.heap[b]?)(off:Nat):w'.cell? ⟨b,off,none⟩=w.cell? ⟨b,off,none⟩:=by
 unfold World.cell?;rw[h]
def Ints (w:World)(A:Option Addr)(l:List Int):Prop:=
 0<l.length->∃b off,A=some ⟨b,off,none⟩/\b<w.heap.size/\∀j (hj:j<l.length),w.cell? ⟨b,off+j,none⟩=some (.int .i64 l[j])
theorem Ints.below {w w':World}{A:Option Addr}{l:List Int}(h:Ints w A l)(hb:Below w.heap.size w w'):Ints w' A l:=λh0=>by
 obtain⟨b,off,e,hl,hc⟩:=h h0
 exact⟨b,off,e,Nat.lt_of_lt_of_le hl hb.size,λj hj=>(hb.cell (p:=⟨b,off+j,none⟩) hl).trans (hc j hj)⟩
def Nds (w:World)(A:Option Addr)(l:List Nd):Prop:=
 0<l.length->∃b off,A=some ⟨b,off,none⟩/\b<w.heap.size/\∀j (hj:j<l.length),∃K c,w.cell? ⟨b,off+j*5,none⟩=some (.int .i64 l[j].kd)/\w.cell? ⟨b,off+j*5+1,none⟩=some (.int .i64 l[j].n) /\
  w.cell? ⟨b,off+j*5+2,none⟩=some (.int .i64 l[j].pl)/\w.cell? ⟨b,off+j*5+3,none⟩=some (.string l[j].tx)/\w.cell? ⟨b,off+j*5+4,none⟩=some (.slice K l[j].ks.length c)/\Ints w K l[j].ks
theorem Nds.below {w w':World}{A:Option Addr}{l:List Nd}(h:Nds w A l)(hb:Below w.heap.size w w'):Nds w' A l:=λh0=>by
 obtain⟨b,off,e,hl,hc⟩:=h h0
 refine⟨b,off,e,Nat.lt_of_lt_of_le hl hb.size,λj hj =>?_⟩
 obtain⟨K,c,c0,c1,c2,c3,c4,hK⟩:=hc j hj
 exact⟨K,c,(hb.cell (p:=⟨b,off+j*5,none⟩) hl).trans c0,(hb.cell (p:=⟨b,off+j*5+1,none⟩) hl).trans c1,(hb.cell (p:=⟨b,off+j*5+2,none⟩) hl).trans c2,
  (hb.cell (p:=⟨b,off+j*5+3,none⟩) hl).trans c3,(hb.cell (p:=⟨b,off+j*5+4,none⟩) hl).trans c4,hK.below hb⟩
def mkI (n:Nat)(m:Nat->Int):Array Value:=Array.ofFn (n:=n) λi =>.int .i64 (m i)
theorem mkI_size (n:Nat)(m:Nat->Int):(mkI n m).size=n:=by simp[mkI]
theorem mkI_get {n:Nat}{m:Nat->Int}{i:Nat}(h:i<n):(mkI n m)[i]?=some (.int .i64 (m i)):=by simp[mkI,h]
theorem mkI_set {n:Nat}{m:Nat->Int}{i:Nat}{x:Int}:(mkI n m).setIfInBounds i (.int .i64 x)=mkI n (λj=>if j=i then x else m j):=by
 apply Array.ext_getElem?
 intro j
 rw[Array.getElem?_setIfInBounds]
 by_cases h:i=j
 ·subst h
  by_cases hk:i<n<;>simp[mkI,hk]
 ·have h':¬j=i:=λe=>h e.symm
  rw[if_neg h]
  by_cases hi:j<n
  ·rw[mkI_get hi,mkI_get hi,if_neg h']
  ·rw[Array.getElem?_eq_none (by rw[mkI_size];omega),Array.getElem?_eq_none (by rw[mkI_size];omega)]
theorem mkI_congr {n:Nat}{m m':Nat->Int}(h:∀i,i<n->m i=m' i):mkI n m=mkI n m':=by
 unfold mkI;congr 1;funext i;rw[h i i.2]
def Ib (w:World)(g n:Nat)(m:Nat->Int):Prop:=w.heap[g]?=some (.cells (mkI n m) 3 (0,0))
section
variable {w w':World} {g n:Nat} {m:Nat->Int}
theorem Ib.lt (h:Ib w g n m):g<w.heap.size:=(Array.getElem?_eq_some_iff.1 h).1
theorem Ib.cell (h:Ib w g n m){i:Nat}(hi:i<n):w.cell? ⟨g,i,none⟩=some (.int .i64 (m i)):=(cell_of_row w g i _ 3 (0,0) h).trans (mkI_get hi)
theorem Ib.frozen (h:Ib w g n m)(i:Nat):w.frozen? ⟨g,i,none⟩=false:=frozen_of_row w g i _ 3 h
theorem Ib.set_ (h:Ib w g n m)(i:Nat)(x:Int):Ib (w.setCell ⟨g,i,none⟩ (.int .i64 x)) g n (λj=>if j=i then x else m j):=(heap_setCell_same w g i _ 3 _ h).trans (by rw[mkI_set])
theorem Ib.far (h:Ib w g n m){p:Addr}(hp:g≠p.block)(u:Value):Ib (w.setCell p u) g n m:=(heap_setCell_other w p g u hp).trans h
theorem Ib.same (h:Ib w g n m)(hg:w'.heap[g]?=w.heap[g]?):Ib w' g n m:=hg.trans h
theorem Ib.below {B:Nat}(h:Ib w g n m)(hb:Below B w w')(hg:g<B):Ib w' g n m:=(hb.block g hg).trans h
theorem Ib.grown {row:Option Nat}(h:Ib w g n m)(hb:w.grownBy w' row)(hg:some g≠row):Ib w' g n m:=(hb.block g h.lt hg).trans h
theorem Ib.alloc (h:Ib w g n m)(o:Obj):Ib (w.alloc o) g n m:=h.grown (World.grownBy_alloc w o none) (by simp)
theorem Ib.congr {m':Nat->Int}(h:Ib w g n m)(e:∀i,i<n->m i=m' i):Ib w g n m':=by unfold Ib at *;rw[h,mkI_congr e]
theorem Ib.ints (h:Ib w g n m):Ints w (some ⟨g,0,none⟩) ((List.range n).map m):=λ_=>by
 refine⟨g,0,rfl,h.lt,λj hj =>?_⟩
 have:j<n:=by simpa using hj
 rw[Nat.zero_add,h.cell this];simp
end
def Bx (w:World)(B:Nat)(t:TypeId)(l:List Value):Prop:=w.heap[B]?=some (.cells l.toArray t (0,0))
section
variable {w w':World} {B:Nat} {t:TypeId} {l:List Value}
theorem Bx.lt (h:Bx w B t l):B<w.heap.size:=(Array.getElem?_eq_some_iff.1 h).1
theorem Bx.cell (h:Bx w B t l)(i:Nat):w.cell? ⟨B,i,none⟩=l[i]?:=(cell_of_row w B i _ t (0,0) h).trans (by simp)
theorem Bx.frozen (h:Bx w B t l)(i:Nat):w.frozen? ⟨B,i,none⟩=false:=frozen_of_row w B i _ t h
theorem Bx.set_ (h:Bx w B t l)(i:Nat)(u:Value):Bx (w.setCell ⟨B,i,none⟩ u) B t (l.set i u):=(heap_setCell_same w B i _ t _ h).trans (by simp)
theorem Bx.far (h:Bx w B t l){p:Addr}(hp:B≠p.block)(u:Value):Bx (w.setCell p u) B t l:=(heap_setCell_other w p B u hp).trans h
theorem Bx.same (h:Bx w B t l)(hg:w'.heap[B]?=w.heap[B]?):Bx w' B t l:=hg.trans h
theorem Bx.below {C:Nat}(h:Bx w B t l)(hb:Below C w w')(hg:B<C):Bx w' B t l:=(hb.block B hg).trans h
theorem Bx.grown {row:Option Nat}(h:Bx w B t l)(hb:w.grownBy w' row)(hg:some B≠row):Bx w' B t l:=(hb.block B h.lt hg).trans h
theorem Bx.alloc (h:Bx w B t l)(o:Obj):Bx (w.alloc o) B t l:=h.grown (World.grownBy_alloc w o none) (by simp)
theorem Bx.new (w:World)(t:TypeId)(l:List Value):Bx (w.alloc (.cells l.toArray t)) w.heap.size t l:=World.alloc_heap_new w _
end
theorem info3:(Tryz.prog.info? 3).map (λi=>(i.zero,i.size,i.bytes))=some (some (.int .i64 0),1,8):=by kernel_rfl
theorem made0 (n:Nat):madeCells #[.int .i64 0] n=mkI n (λ_=>0):=by
 apply Array.ext_getElem?
 intro j
 by_cases h:j<n
 ·rw[mkI_get h];simp[madeCells,h,Nat.mod_one]
 ·rw[Array.getElem?_eq_none (by simp[madeCells];omega),Array.getElem?_eq_none (by rw[mkI_size];omega)]
theorem make22 (n:Nat)(hn:n<=4000000000)(w:World):(Instr.makeSlice 28 (.int .i64 (n:Int)) (.int .i64 (n:Int))).run Tryz.prog w = .ok (.slice (some ⟨w.heap.size,0,none⟩) n n) (w.alloc (.cells (mkI n (λ_=>0)) 3)):=by
 have h:=info3
 cases hq:Tryz.prog.info? 3 with
 |none=>rw[hq]at h;cases h
 |some i=>
  rw[hq]at h
  simp only[Option.map_some,Option.some.injEq,Prod.mk.injEq]at h
  obtain⟨h1,h2,h3⟩:=h
  have:=run_make (P:=Tryz.prog) w 28 3 i (.int .i64 0) Tryz.underlying28 hq h1 .i64 .i64 (n:Int) (n:Int) (by omega) (Int.le_refl _) (by rw[h3];omega) (by omega)
  rw[this,h2]
  simp only[Int.toNat_natCast,Nat.mul_one]
  rw[show(Value.int .i64 0).cells = #[.int .i64 0]from rfl,made0]
theorem info24:(Tryz.prog.info? 50).map (λi=>(i.zero,i.size,i.bytes))=some (some (.agg #[.int .i64 0,.int .i64 0,.int .i64 0,.string ⟨#[]⟩,.slice none 0 0]),5,64):=by kernel_rfl
theorem kidsAt_eq {l:List Nd}{p:Nat}(h:p<l.length):kidsAt l p=l[p].ks:=by
 unfold kidsAt;simp[List.getD,h]
end Go.Proofs.YtedkgofehbecmaaGreatDoor.Tr
namespace Go.Proofs.YtedkgofehbecmaaGreatDoor.Tr
open Go.Lib (hid)
open Go Go.RowKit Go.Shelf
attribute [local go_sem] Oper.semAt_some
def upto {α:Type}(f:Nat->α)(k:Nat):List α:=(List.range k).map f
theorem upto_succ {α:Type}(f:Nat->α)(k:Nat):upto f (k+1)=upto f k++[f k]:=by simp[upto,List.range_succ]
theorem upto_length {α:Type}(f:Nat->α)(k:Nat):(upto f k).length=k:=by simp[upto]
def backF (zs:List Int)(k:Nat):Int × Int:=(((zs.length-1-k:Nat):Int),zs[zs.length-1-k]?.getD 0)
theorem upto_back (zs:List Int){k:Nat}(hk:k<=zs.length):(upto (backF zs) k).map (·.2)=zs.reverse.take k:=by
 apply List.ext_getElem
 ·simp[upto,hk]
 ·intro i h1 h2
  have h3:i<k:=by simpa [upto]using h1
  simp only[upto,List.map_map,List.getElem_map,List.getElem_range,Function.comp,backF,List.getElem_take,List.getElem_reverse]
  rw[List.getElem?_eq_getElem (by omega)];rfl
def KpB (n₀ Bs:Nat)(W W':World):Prop:=Below n₀ W W'/\W'.heap[Bs]?=W.heap[Bs]?
set_option maxRecDepth 100000 in
set_option maxHeartbeats 1500000 in
theorem back1_in (l Bs n₀:Nat)(A:Option Addr)(cap:Nat)(zs:List Int)(hreach:zs.length<=4000000)(J Jx:List (Int × Int)->World->Prop)
  (hY:∀pre x W,J pre W->pre.length<zs.length->YieldAt Fence.wide 0 Tryz.prog l #[.int .i64 x.1,.int .i64 x.2] W λe W'=>
   (e = .returned (.bool true)/\J (pre++[x]) W'/\KpB n₀ Bs W W')\/(e = .returned (.bool false)/\Jx (pre++[x]) W'))
  (W:World) (hBs:W.cell? ⟨Bs,0,none⟩=some (.slice A zs.length cap)) (hA:∀j,j<zs.length->∃b off,A=some ⟨b,off,none⟩/\b<n₀/\W.cell? ⟨b,off+j,none⟩=some (.int .i64 (zs[j]?.getD 0))) (h0:J [] W) :
  CallsIn Fence.wide 1 Tryz.prog 162 #[.func (.yield l) #[] #[],.pointer (some ⟨Bs,0,none⟩)] W λe W'=>(∃v,e = .returned v) /\
   ((∃ys,ys=upto (backF zs) zs.length/\J ys W')\/(∃pre,(∃k,k<=zs.length/\pre=upto (backF zs) k)/\Jx pre W')):=by
 obtain⟨len,hlen⟩:∃len,len=zs.length:=⟨_,rfl⟩
 have HL:=hid hlen
 rw[<- hlen]at hY hBs hA hreach |-
 clear hlen
 refine callsIn_of_wp Tryz.func162 rfl trivial ?_ rfl
 simp only[Tryz.ntmps162,List.size_toArray,List.length_cons,List.length_nil,Nat.reduceAdd,Nat.reduceSub,Array.replicate_succ,Array.replicate_zero,List.push_toArray,List.append_toArray,List.nil_append,List.cons_append]
 gi_wp2
 gi_loopw [3] (λi wr=>∃m:Nat,m<=len/\i = .int .i64 ((m:Int)-1)/\J (upto (backF zs) (len-m)) wr/\Below n₀ W wr/\wr.cell? ⟨Bs,0,none⟩=W.cell? ⟨Bs,0,none⟩)
  (λi _=>(intOf i+1).toNat)
 case atStart=>exact⟨len,Nat.le_refl _,by go_num,by rw[Nat.sub_self];exact h0,Below.refl _ _,rfl⟩
 case round=>
  obtain⟨m,hm,rfl,hJs,hnx,hcB⟩:=hrel
  rw[hBs]at hcB
  cases m with
  |zero=>
   gi_wp2
   go_end0
   exact⟨⟨_,rfl⟩,.inl ⟨_,rfl,by simpa using hJs⟩⟩
  |succ m=>
   rw[show(((m+1:Nat):Int)-1)=(m:Int)by omega]
   obtain⟨b,off,rfl,hb,hc⟩:=hA m (by omega)
   have hcx:wr.cell? ⟨b,off+m,none⟩=some (.int .i64 (zs[m]?.getD 0)):=(hnx.cell (p:=⟨b,off+m,none⟩) hb).trans hc
   have hf:backF zs (len-(m+1))=((m:Int),zs[m]?.getD 0):=by
    unfold backF;rw[<- HL.out,show len-1-(len-(m+1))=m by omega]
   have HU:=hid (show upto (backF zs) (len-m)=upto (backF zs) (len-(m+1))++[((m:Int),zs[m]?.getD 0)] by
    rw[show len-m=len-(m+1)+1 by omega,upto_succ,hf])
   clear hf
   obtain⟨fn,tmps,assign,body,hy,hR⟩:=hY _ ((m:Int),zs[m]?.getD 0) wr hJs (by rw[upto_length];omega)
   dsimp only at hy
   generalize zs[m]?.getD 0=z at *
   have hm0:(0:Int)<=(m:Int):=by omega
   gi_wp2
   refine hR.mono ?_
   rintro e W3 (⟨rfl,hJ3,hk3⟩ |⟨rfl,hJx3⟩)
   ·have hcB3:W3.cell? ⟨Bs,0,none⟩=some (.slice (some ⟨b,off,none⟩) len cap):=(cell_same hk3.2 0).trans hcB
    gi_wp2
    go_roundw
    case rel=>exact⟨m,by omega,by go_num,by rw[HU.out];exact hJ3,hnx.trans hk3.1,hcB3.trans hBs.symm⟩
    case measure=>simp[intOf]
   ·gi_wp2
    refine bodyPost_ret (results_none rfl _ _ _) rfl ?_
    exact⟨⟨_,rfl⟩,.inr ⟨_,⟨len-m,by omega,HU.out.symm⟩,hJx3⟩⟩
set_option maxHeartbeats 1000000 in
theorem back_in (A:Option Addr)(len cap:Nat)(w:World) :
  CallsIn Fence.wide 1 Tryz.prog 107 #[.slice A len cap] w λe w'=>e = .returned (.func (.func 162) #[] #[.pointer (some ⟨w.heap.size,0,none⟩)])/\w'=w.alloc (.cells #[.slice A len cap] 28):=by
 refine callsIn_of_wp Tryz.func107 rfl trivial ?_ rfl
 simp only[Tryz.ntmps107,List.size_toArray,List.length_cons,List.length_nil,Nat.reduceAdd,Nat.reduceSub,Array.replicate_succ,Array.replicate_zero,List.push_toArray,List.append_toArray,List.nil_append,List.cons_append]
 gi_wp2
 go_ret
 exact⟨rfl,rfl⟩
theorem back_stops (Bs n₀:Nat)(A:Option Addr)(cap:Nat)(zs:List Int)(hreach:zs.length<=4000000)(w:World)(hBs:Bs<w.heap.size)(hn₀:n₀<=w.heap.size)
  (hc:w.cell? ⟨Bs,0,none⟩=some (.slice A zs.length cap)) (hA:∀j,j<zs.length->∃b off,A=some ⟨b,off,none⟩/\b<n₀/\w.cell? ⟨b,off+j,none⟩=some (.int .i64 (zs[j]?.getD 0))) :
  SeqStopsK Fence.wide 1 Tryz.prog 162 #[.pointer (some ⟨Bs,0,none⟩)] (λx:Int × Int => #[Value.int .i64 x.1,Value.int .i64 x.2]) (KpB n₀ Bs) (λys=>ys=upto (backF zs) zs.length)
   (λpre=>∃k,k<=zs.length/\pre=upto (backF zs) k) zs.length w:=λl J Jx W hW _ _ hY h0=>by
 have hc':=(hW.cell (p:=⟨Bs,0,none⟩) hBs).trans hc
 refine back1_in l Bs n₀ A cap zs hreach J Jx hY W hc' (λj hj =>?_) h0
 obtain⟨b,off,e,hb,h⟩:=hA j hj
 exact⟨b,off,e,hb,(hW.cell (p:=⟨b,off+j,none⟩) (show b<w.heap.size by omega)).trans h⟩
end Go.Proofs.YtedkgofehbecmaaGreatDoor.Tr
