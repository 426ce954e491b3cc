/- PROVED: TrOw Yq Yr Ys Yt Qo Qp Rb Se Yf Rc Yu Yv Yw Yx Ck Cl. No more condition. -/
import Derived.Test.YteecfjhjllajlaaGreatDoorG21
import Derived.Test.YteecfjhjllajlaaGreatDoorG25
set_option maxHeartbeats 1500000
set_option maxRecDepth 100000
namespace Go.Proofs.YteecfjhjllajlaaGreatDoor
open Go.Lib (hid)
open Go Go.RowKit
namespace Tr
def EE (B:Nat)(w:World)(A:Option Addr)(l:List Nd):Prop:=
 0<l.length->∃b off,A=some ⟨b,off,none⟩/\B<=b/\b<w.heap.size/\∀j (hj:j<l.length),∃K c,w.cell? ⟨b,off+j*5,none⟩=some (.int .i64 l[j].kd)/\w.cell? ⟨b,off+j*5+1,none⟩=some (.int .i64 l[j].n) /\
  w.cell? ⟨b,off+j*5+2,none⟩=some (.int .i64 l[j].pl)/\w.cell? ⟨b,off+j*5+3,none⟩=some (.string l[j].tx)/\w.cell? ⟨b,off+j*5+4,none⟩=some (.slice K l[j].ks.length c)/\Ints w K l[j].ks/\∀a,K=some a->B<=a.block
def xw (g:Nat)(w:World)(A:Option Addr)(l:List Nd):Prop:=
 0<l.length->∃b off,A=some ⟨b,off,none⟩/\b≠g/\b<w.heap.size/\∀j (hj:j<l.length),∃K c,w.cell? ⟨b,off+j*5,none⟩=some (.int .i64 l[j].kd)/\w.cell? ⟨b,off+j*5+1,none⟩=some (.int .i64 l[j].n) /\
  w.cell? ⟨b,off+j*5+2,none⟩=some (.int .i64 l[j].pl)/\w.cell? ⟨b,off+j*5+3,none⟩=some (.string l[j].tx)/\w.cell? ⟨b,off+j*5+4,none⟩=some (.slice K l[j].ks.length c)/\Ints w K l[j].ks/\(0<l[j].ks.length->∀a,K=some a->a.block≠g)
theorem EE.ne {B g:Nat}{w:World}{A:Option Addr}{l:List Nd}(h:EE B w A l)(hg:g<B):xw g w A l:=λh0=>by
 obtain⟨b,off,e,hB,hl,hc⟩:=h h0;refine⟨b,off,e,by omega,hl,λj hj =>?_⟩;obtain⟨K,c,c0,c1,c2,c3,c4,hK,hKB⟩:=hc j hj;exact⟨K,c,c0,c1,c2,c3,c4,hK,λ_ a ha=>by have:=hKB a ha;omega⟩
theorem bu.ne {g:Nat}{w:World}{A:Option Addr}{l:List Nd}(h:bu w A l)(hg:w.heap.size<=g):xw g w A l:=λh0=>by
 obtain⟨b,off,e,hl,hc⟩:=h h0;refine⟨b,off,e,by omega,hl,λj hj =>?_⟩;obtain⟨K,c,c0,c1,c2,c3,c4,hK⟩:=hc j hj;refine⟨K,c,c0,c1,c2,c3,c4,hK,λh1 a ha =>?_⟩;obtain⟨b2,o2,e2,hl2,_⟩:=hK h1;rw[e2]at ha;cases ha;show b2≠g;omega
theorem xw.nds {g:Nat}{w:World}{A:Option Addr}{l:List Nd}(h:xw g w A l):bu w A l:=λh0=>by
 obtain⟨b,off,e,_,hl,hc⟩:=h h0;refine⟨b,off,e,hl,λj hj =>?_⟩;obtain⟨K,c,c0,c1,c2,c3,c4,hK,_⟩:=hc j hj;exact⟨K,c,c0,c1,c2,c3,c4,hK⟩
theorem xw.keep {g:Nat}{w w':World}{A:Option Addr}{l:List Nd}(h:xw g w A l)(hs:w.heap.size<=w'.heap.size)(hk:∀b,b<w.heap.size->b≠g->w'.heap[b]?=w.heap[b]?):xw g w' A l:=λh0=>by
 obtain⟨b,off,e,hne,hl,hc⟩:=h h0;have kb:=hk b hl hne;refine⟨b,off,e,hne,Nat.lt_of_lt_of_le hl hs,λj hj =>?_⟩;obtain⟨K,c,c0,c1,c2,c3,c4,hK,hKB⟩:=hc j hj;refine⟨K,c,(av kb _).trans c0,(av kb _).trans c1,(av kb _).trans c2,(av kb _).trans c3,(av kb _).trans c4,λh1 =>?_,hKB⟩;obtain⟨b2,o2,e2,hl2,hc2⟩:=hK h1;have kb2:=hk b2 hl2 (hKB h1 _ e2);exact⟨b2,o2,e2,Nat.lt_of_lt_of_le hl2 hs,λj hj=>(av kb2 _).trans (hc2 j hj)⟩
theorem EE.nds {B:Nat}{w:World}{A:Option Addr}{l:List Nd}(h:EE B w A l):bu w A l:=λh0=>by
 obtain⟨b,off,e,_,hl,hc⟩:=h h0;refine⟨b,off,e,hl,λj hj =>?_⟩;obtain⟨K,c,c0,c1,c2,c3,c4,hK,_⟩:=hc j hj;exact⟨K,c,c0,c1,c2,c3,c4,hK⟩
end Tr
section
open Tr (Bx ag bt bu Ints au az aG gF fT jQ tT Bz KN wH)
def zT:Array Value := #[.slice none 0 0,.int .i64 0]
def EY (n:Nat)(m:Nat->Nat->Value):Array Value:=Array.ofFn (n:=n*2) λi=>m (i / 2) (i % 2)
theorem lW (n:Nat)(m:Nat->Nat->Value):(EY n m).size=n*2:=by simp[EY]
theorem qD {n:Nat}{m:Nat->Nat->Value}{j f:Nat}(hj:j<n)(hf:f<2):(EY n m)[j*2+f]?=some (m j f):=by
 have h:j*2+f<n*2:=by omega
 simp only[EY,Array.getElem?_ofFn,h,dif_pos];rw[show(j*2+f) / 2=j by omega,show(j*2+f) % 2=f by omega]
theorem Bo {n:Nat}{m m':Nat->Nat->Value}(h:∀j f,j<n->f<2->m j f=m' j f):EY n m=EY n m':=by
 unfold EY;congr 1;funext i;exact h _ _ (by have:=i.2;omega) (by omega)
theorem GQ {n:Nat}{m:Nat->Nat->Value}{j f:Nat}{v:Value}(hf:f<2):(EY n m).setIfInBounds (j*2+f) v=EY n (λi g=>if i=j/\g=f then v else m i g):=by
 apply Array.ext_getElem?;intro k;rw[Array.getElem?_setIfInBounds];by_cases hk:k<n*2
 ·have e1:k=k / 2*2+k % 2:=by omega
  have h1:=qD (m:=λi g=>if i=j/\g=f then v else m i g) (j:=k / 2) (f:=k % 2) (n:=n) (by omega) (by omega);have h2:=qD (m:=m) (j:=k / 2) (f:=k % 2) (n:=n) (by omega) (by omega);rw[<- e1]at h1 h2;rw[h1,h2,lW];by_cases e:j*2+f=k
  ·rw[if_pos e,if_pos (by omega),if_pos (by omega)]
  ·rw[if_neg e,if_neg (by omega)]
 ·rw[Array.getElem?_eq_none (by rw[lW];omega),Array.getElem?_eq_none (by rw[lW];omega),lW];split
  ·rw[if_neg (by omega)]
  ·rfl
def Ob (w:World)(g n:Nat)(m:Nat->Nat->Value):Prop:=w.heap[g]?=some (.cells (EY n m) 25 (0,0))
section
variable {w w':World} {g n:Nat} {m:Nat->Nat->Value}
theorem Ob.lt (h:Ob w g n m):g<w.heap.size:=(Array.getElem?_eq_some_iff.1 h).1
theorem Ob.cell (h:Ob w g n m){j f:Nat}(hj:j<n)(hf:f<2):w.cell? ⟨g,j*2+f,none⟩=some (m j f):=(cell_of_row w g _ _ 25 (0,0) h).trans (qD hj hf)
theorem Ob.frozen (h:Ob w g n m)(i:Nat):w.frozen? ⟨g,i,none⟩=false:=frozen_of_row w g i _ 25 h
theorem Ob.set_ (h:Ob w g n m)(j f:Nat)(hf:f<2)(v:Value):Ob (w.setCell ⟨g,j*2+f,none⟩ v) g n (λi k=>if i=j/\k=f then v else m i k):=(heap_setCell_same w g _ _ 25 _ h).trans (by rw[GQ hf])
theorem Ob.far (h:Ob w g n m){p:Addr}(hp:g≠p.block)(u:Value):Ob (w.setCell p u) g n m:=(heap_setCell_other w p g u hp).trans h
theorem Ob.same (h:Ob w g n m)(hg:w'.heap[g]?=w.heap[g]?):Ob w' g n m:=hg.trans h
theorem Ob.grown {row:Option Nat}(h:Ob w g n m)(hb:w.grownBy w' row)(hg:some g≠row):Ob w' g n m:=(hb.block g h.lt hg).trans h
theorem Ob.alloc (h:Ob w g n m)(o:Obj):Ob (w.alloc o) g n m:=h.grown (World.grownBy_alloc w o none) (by simp)
theorem Ob.congr {m':Nat->Nat->Value}(h:Ob w g n m)(e:∀j f,j<n->f<2->m j f=m' j f):Ob w g n m':=by unfold Ob at *;rw[h,Bo e]
end
structure MP (w:World) (m i:Nat) (NB:List Value) (wr:World):Prop where
 bx:Bx wr w.heap.size 37 NB
 ob:∃(A:Nat->Option Addr) (c:Nat->Nat),Ob wr (w.heap.size+1) m (λj f=>if j<i then (if f=0 then .slice (A j) 1 (c j) else .int .i64 0) else zT[f]!)/\∀j,j<i->bu wr (A j) [zG]
 bl:Below w.heap.size w wr
theorem MP.step {w wr w':World}{m i:Nat}{NB:List Value}{A':Option Addr}{c':Nat}(h:MP w m i NB wr)(hb:Below wr.heap.size wr w')(hN:bu w' A' [zG]):MP w m (i+1) NB ((w'.setCell ⟨w.heap.size+1,i*2,none⟩ (.slice A' 1 c')).setCell ⟨w.heap.size+1,i*2+1,none⟩ (.int .i64 0)):=by
 obtain⟨A,c,hO,hNs⟩:=h.ob;have hO2:Ob w' (w.heap.size+1) m _:=hO.same (hb.block _ hO.lt);have hlt:=hO2.lt;have h1:=hO2.set_ i 0 (by decide) (.slice A' 1 c');rw[Nat.add_zero]at h1;have h2:=h1.set_ i 1 (by decide) (.int .i64 0);have hk:∀(b2:Nat),b2≠w.heap.size+1->((w'.setCell ⟨w.heap.size+1,i*2,none⟩ (.slice A' 1 c')).setCell ⟨w.heap.size+1,i*2+1,none⟩ (.int .i64 0)).heap[b2]?=w'.heap[b2]?:=λb2 hb2=>by
  rw[heap_setCell_other _ _ b2 _ hb2,heap_setCell_other _ _ b2 _ hb2]
 have hsz:((w'.setCell ⟨w.heap.size+1,i*2,none⟩ (.slice A' 1 c')).setCell ⟨w.heap.size+1,i*2+1,none⟩ (.int .i64 0)).heap.size=w'.heap.size:=by
  rw[World.size_setCell,World.size_setCell]
 have hnk:∀ {B:Option Addr} {l:List Tr.Nd},bu w' B l->l=[zG]->bu ((w'.setCell ⟨w.heap.size+1,i*2,none⟩ (.slice A' 1 c')).setCell ⟨w.heap.size+1,i*2+1,none⟩ (.int .i64 0)) B l:=λ{B l} hB hl h0=>by
  subst hl;obtain⟨b2,off,e,hl2,hc⟩:=hB h0;have hne:b2≠w.heap.size+1:=λe2=>by
   obtain⟨K,c2,q0,_⟩:=hc 0 (by decide);rw[Nat.zero_mul,Nat.add_zero]at q0;rw[e2]at q0;have q1:=(cell_of_row w' _ off _ 25 (0,0) hO2).symm.trans q0;by_cases ho:off<m*2
   ·have q2:=qD (n:=m) (m:=λj f=>if j<i then (if f=0 then .slice (A j) 1 (c j) else .int .i64 0) else zT[f]!) (j:=off / 2) (f:=off % 2) (by omega) (by omega);rw[show off / 2*2+off % 2=off by omega,q1]at q2;injection q2 with q2
    have h3:off % 2=0\/off % 2=1:=by omega
    rcases h3 with e3 |e3<;>rw[e3]at q2
    ·split at q2
     ·cases q2
     ·cases q2
    ·split at q2
     ·injection q2 with _ q2;exact absurd q2 (by decide)
     ·injection q2 with _ q2;exact absurd q2 (by decide)
   ·rw[Array.getElem?_eq_none (by rw[lW];omega)]at q1;cases q1
  refine⟨b2,off,e,by rw[hsz];exact hl2,λj hj =>?_⟩;obtain⟨K,c2,q0,q1,q2,q3,q4,q5⟩:=hc j hj;have hcell:∀o,((w'.setCell ⟨w.heap.size+1,i*2,none⟩ (.slice A' 1 c')).setCell ⟨w.heap.size+1,i*2+1,none⟩ (.int .i64 0)).cell? ⟨b2,o,none⟩=w'.cell? ⟨b2,o,none⟩:=λo=>Tr.av (hk b2 hne) o
  refine⟨K,c2,(hcell _).trans q0,(hcell _).trans q1,(hcell _).trans q2,(hcell _).trans q3,(hcell _).trans q4,λh1 =>?_⟩;obtain rfl:j=0:=by simp at hj;omega
  exact absurd h1 (by simp[zG])
 refine⟨(hk _ (by omega)).trans ((hb.block _ (Array.getElem?_eq_some_iff.1 h.bx).1).trans h.bx),⟨λj=>if j=i then A' else A j,λj=>if j=i then c' else c j,h2.congr λj f hj hf =>?_,λj hj =>?_⟩,?_⟩
 ·by_cases e:j=i
  ·subst e;have:f=0\/f=1:=by omega
   rcases this with e |e<;>subst e<;>simp
  ·have e2:(j<i+1)↔(j<i):=by omega
   simp[e,e2]
 ·by_cases e:j=i
  ·subst e;simp only[if_true];exact hnk hN rfl
  ·simp only[e,if_false];exact hnk ((hNs j (by omega)).below hb) rfl
 ·have hsz2:=h.bl.size;have hsz3:=hb.size;exact⟨hb.os.trans h.bl.os,hb.tape.trans h.bl.tape,hb.output.trans h.bl.output,by rw[hsz];omega,λb2 hb2=>(hk b2 (by omega)).trans ((hb.block b2 (by omega)).trans (h.bl.block b2 hb2))⟩
end
section
open Tr (Bx ag bt bu Ints au az aG gF fT jQ tT Bz KN wH)
def JN (l:List Tr.Nd)(k:Nat):Nat->List Tr.Nd
 |0=>l
 |1=>tT 15 0 0 ⟨#[]⟩ [(l,(k:Int))]
 |2=>tT 6 0 0 ⟨#[]⟩ [(tT 15 0 0 ⟨#[]⟩ [(l,(k:Int))],((k+1:Nat):Int))]
 |3=>tT 3 0 0 ⟨#[102]⟩ [(tT 6 0 0 ⟨#[]⟩ [(tT 15 0 0 ⟨#[]⟩ [(l,(k:Int))],((k+1:Nat):Int))],((k+2:Nat):Int))]
 |_=>tT 1 0 0 ⟨#[]⟩ [(tT 3 0 0 ⟨#[102]⟩ [(tT 6 0 0 ⟨#[]⟩ [(tT 15 0 0 ⟨#[]⟩ [(l,(k:Int))],((k+1:Nat):Int))],((k+2:Nat):Int))],((k+3:Nat):Int))]
def NA:List Value:=[.int .i64 15,.int .i64 0,.int .i64 0,.string ⟨#[]⟩,.slice none 0 0,.int .i64 6,.int .i64 0,.int .i64 0,.string ⟨#[]⟩,.slice none 0 0,.int .i64 3,.int .i64 0,.int .i64 0,.string ⟨#[102]⟩,.slice none 0 0,.int .i64 1,.int .i64 0,.int .i64 0,.string ⟨#[]⟩,.slice none 0 0]
structure MQ (w:World) (l:List Tr.Nd) (k j gT:Nat) (wr:World):Prop where
 bn:Bx wr (gT+1) 37 NA
 bt:∃A c,Bx wr gT 25 [.slice A (JN l k j).length c,.int .i64 ((k+j:Nat):Int)]/\Tr.xw gT wr A (JN l k j)
 bl:Below w.heap.size w wr
 gt:w.heap.size<=gT
theorem MQ.step {w wr w2 w3:World}{l:List Tr.Nd}{k j gT:Nat}{A':Option Addr}{c':Nat}{x:Int}(h:MQ w l k j gT wr)(hb2:Below wr.heap.size wr w2)(hb3:Below w2.heap.size w2 w3)(hN:Tr.EE w2.heap.size w3 A' (JN l k (j+1)))(hx:x=((k+(j+1):Nat):Int)) :
  MQ w l k (j+1) gT ((w3.setCell ⟨gT,0,none⟩ (.slice A' (JN l k (j+1)).length c')).setCell ⟨gT,1,none⟩ (.int .i64 x)):=by
 obtain⟨A,c,hB,_⟩:=h.bt;have hlt:gT<wr.heap.size:=(Array.getElem?_eq_some_iff.1 hB).1;have hlt2:gT+1<wr.heap.size:=(Array.getElem?_eq_some_iff.1 h.bn).1;have hs2:=hb2.size;have hs3:=hb3.size;have hk:∀(b2:Nat),b2≠gT->((w3.setCell ⟨gT,0,none⟩ (.slice A' (JN l k (j+1)).length c')).setCell ⟨gT,1,none⟩ (.int .i64 x)).heap[b2]?=w3.heap[b2]?:=λb2 hb2=>by
  rw[heap_setCell_other _ _ b2 _ hb2,heap_setCell_other _ _ b2 _ hb2]
 have hsz:((w3.setCell ⟨gT,0,none⟩ (.slice A' (JN l k (j+1)).length c')).setCell ⟨gT,1,none⟩ (.int .i64 x)).heap.size=w3.heap.size:=by
  rw[World.size_setCell,World.size_setCell]
 have hB3:=(hB.below hb2 hlt).below hb3 (by omega);subst hx;refine⟨(hk _ (by omega)).trans ((h.bn.below hb2 hlt2).below hb3 (by omega)),⟨A',c',?_,(hN.ne (by omega)).keep (by rw[hsz];exact Nat.le_refl _) λb _ hne=>hk b hne⟩,?_,h.gt⟩
 ·have h1:=(hB3.set_ 0 (.slice A' (JN l k (j+1)).length c')).set_ 1 (.int .i64 ((k+(j+1):Nat):Int));exact h1
 ·have hsz2:=h.bl.size;have hg:=h.gt;exact⟨hb3.os.trans (hb2.os.trans h.bl.os),hb3.tape.trans (hb2.tape.trans h.bl.tape),hb3.output.trans (hb2.output.trans h.bl.output),by rw[hsz];omega,λb2 hb=>(hk b2 (by omega)).trans ((hb3.block b2 (by omega)).trans ((hb2.block b2 (by omega)).trans (h.bl.block b2 hb)))⟩
end
section
open Tr (Bx ag bt bu Ints au az aG gF fT jQ qO)
end
section
open Tr (Bx ag bt bu Ints au az aG gF fT jQ)
end
section
open Tr (Bx ag bt ak aB aa av)
def lX (a:yI)(B:Nat)(w:World)(A:Option Addr)(n c:Nat)(r m p er:Int):Prop:=match a with
 | .bad p0 e0=>A=none/\n=0/\c=0/\r=0/\m=0/\p=(p0:Int)/\er=(e0:Int)
 | .good nd nest=>n=nd.length/\r=(nd.length:Int)-1/\m=(nest:Int)/\p=0/\er=0/\iQ B w A (nd.map jF)
theorem lX.fr {a:yI}{B:Nat}{E:Nat->Prop}{w w':World}{A:Option Addr}{n c:Nat}{r m p er:Int}(h:lX a B w A n c r m p er)(k:Fr E w w')(hE:∀b,E b->b<B):lX a B w' A n c r m p er:=by
 unfold lX at *
 cases a with
 |bad p0 e0=>exact h
 |good nd nest=>exact⟨h.1,h.2.1,h.2.2.1,h.2.2.2.1,h.2.2.2.2.1,h.2.2.2.2.2.fr k hE⟩
theorem lX.mono {a:yI}{B B':Nat}{w:World}{A:Option Addr}{n c:Nat}{r m p er:Int}(h:lX a B w A n c r m p er)(hB:B'<=B):lX a B' w A n c r m p er:=by
 unfold lX at *
 cases a with
 |bad p0 e0=>exact h
 |good nd nest=>exact⟨h.1,h.2.1,h.2.2.1,h.2.2.2.1,h.2.2.2.2.1,h.2.2.2.2.2.mono hB⟩
def Ll (a:yI)(w:World)(e:Ending)(w':World):Prop:=∃A n c r m p er,e=.returned (.agg #[.slice A n c,.int .i64 r,.int .i64 m,.int .i64 p,.int .i64 er])/\Below w.heap.size w w'/\lX a w.heap.size w' A n c r m p er
theorem j4.g {a:yI}{w w':World}{e:Ending}(h:j4 a w e w'):Ll a w e w':=by
 obtain⟨hb,h⟩:=h;cases a with
 |bad p0 e0=>exact⟨none,0,0,0,0,_,_,h,hb,rfl,rfl,rfl,rfl,rfl,rfl,rfl⟩
 |good nd nest=>
  obtain⟨A,c,he,hN⟩:=h;exact⟨A,_,c,_,_,_,_,he,hb,rfl,rfl,rfl,rfl,rfl,hN⟩
def xx (a:yI)(w:World)(e:Ending)(w':World):Prop:=∃A n c r m p er,e=.returned (.tuple #[.agg #[.slice A n c,.int .i64 r],.int .i64 p,.int .i64 er])/\Below w.heap.size w w'/\lX a w.heap.size w' A n c r m p er
theorem sP (b:Nat)(w:World):(Instr.fieldAt 56 (.pointer (some ⟨b,0,none⟩)) 0).run Tryz.prog w=.ok (.pointer (some ⟨b,0,none⟩)) w:=by kernel_rfl
theorem mW (b:Nat)(w:World):(Instr.fieldAt 56 (.pointer (some ⟨b,0,none⟩)) 2).run Tryz.prog w=.ok (.pointer (some ⟨b,3,none⟩)) w:=by kernel_rfl
theorem sQ (b:Nat)(w:World):(Instr.fieldAt 54 (.pointer (some ⟨b,3,none⟩)) 0).run Tryz.prog w=.ok (.pointer (some ⟨b,3,none⟩)) w:=by kernel_rfl
theorem sS (b:Nat)(w:World):(Instr.fieldAt 54 (.pointer (some ⟨b,3,none⟩)) 1).run Tryz.prog w=.ok (.pointer (some ⟨b,4,none⟩)) w:=by kernel_rfl
theorem yU {w:World}{ad:Addr}{n:Int}(h:w.cell? ad=some (.int .i64 n)):(Instr.loadAt 26 (.pointer (some ad))).run Tryz.prog w=.ok (.int .i64 n) w:=by simp[go_sem,h]
theorem yV {w:World}{b:Nat}{n c:Nat}{A:Option Addr}{r:Int}(h0:w.cell? ⟨b,0,none⟩=some (.slice A n c))(h1:w.cell? ⟨b,1,none⟩=some (.int .i64 r)):(Instr.loadAt 25 (.pointer (some ⟨b,0,none⟩))).run Tryz.prog w=.ok (.agg #[.slice A n c,.int .i64 r]) w:=by simp[go_sem,h0,h1]
theorem lY (s:ByteArray)(w:World)(hE:Tk.nJ w)(hs:s.size<=20000):Calls Tryz.prog 16 #[.string s] w (xx (kW lF s.data.toList) w):=by
 have hb0:Below w.heap.size w (w.alloc (.cells #[.slice none 0 0,.int .i64 0] 25)):=ag _ _;have HC:=hid ((Jz s _ (hE.below hb0) hs).mono λ_ _ q=>q.g);generalize kW lF s.data.toList=a at *
 clear hE hs;go_enter Tryz.func16,Tryz.ntmps16
 go_wp2_with (go_at_call 54;refine HC.out.mono ?_);rintro e w1 ⟨A,n,c,r,m,p,er,rfl,hb1,hA⟩;obtain⟨W4,hW4⟩:∃W4,w1.alloc (.cells #[.slice A n c,.int .i64 r,.int .i64 m,.int .i64 p,.int .i64 er] 56)=W4:=⟨_,rfl⟩;have hb4:Below w1.heap.size w1 W4:=by rw[<- hW4];exact ag _ _
 have hR4:Bx W4 w1.heap.size 56 [.slice A n c,.int .i64 r,.int .i64 m,.int .i64 p,.int .i64 er]:=by rw[<- hW4];exact Bx.new w1 56 _
 have hT1:=(Bx.new w 25 [.slice none 0 0,.int .i64 0]).below hb1 (Bx.new w 25 _).lt;have hT4:=hT1.below hb4 hT1.lt;have hA4:=(hA.mono (B':=w.heap.size+1) (by rw[World.size_alloc];exact Nat.le_refl _)).fr (E:=λ_=>False) (Fr.of hb4) (λ_ q=>q.elim);have HX:=hid (And.intro (bt (bt hb0 hb1) hb4) (And.intro hR4 (And.intro hT4 (And.intro hA4 hT1.lt))));have HW4:=hid hW4;clear hb1 hA hb4 hR4 hT1 hT4 hA4 hW4 hb0
 go_upto_region 2 with(fail)
 rw[HW4.out];obtain⟨hb4,hR4,hT4,hA4,hlt⟩:=HX.out;obtain⟨W5,hW5⟩:∃W5:World,{W4 with drawn:=W4.drawn+1}=W5:=⟨_,rfl⟩;have hT5:Bx W5 w.heap.size 25 [.slice none 0 0,.int .i64 0]:=by rw[<- hW5];exact hT4
 have hS:Bx W5 w1.heap.size 56 [.slice A n c,.int .i64 r,.int .i64 m,.int .i64 p,.int .i64 er]/\∃u0 u1,Bx W5 w.heap.size 25 [u0,u1]:=⟨by rw[<- hW5];exact hR4,_,_,hT5⟩;have hb5:Below w.heap.size w W5:=by rw[<- hW5];exact cO hb4
 have hA5:lX a (w.heap.size+1) W5 A n c r m p er:=by rw[<- hW5];exact hA4.fr (E:=λ_=>False) (Fr.of (cO (Below.refl _ _))) (λ_ q=>q.elim)
 have hne:w1.heap.size≠w.heap.size:=by omega
 refine wp_region_held (S:=λw'=>Bx w' w1.heap.size 56 [.slice A n c,.int .i64 r,.int .i64 m,.int .i64 p,.int .i64 er]/\∃u0 u1,Bx w' w.heap.size 25 [u0,u1]) (by kernel_rfl) ?_;rw[hW5];clear hW5 hb4 hR4 hT4 hA4 HX HW4 HC;refine bf 0 (.pointer (some ⟨w1.heap.size,0,none⟩)) (by kernel_rfl) rfl rfl (λ_ _ _ h=>h) rfl (aV rfl rfl (sP _)) hS ?_;simp only[ap];refine bf 1 (.agg #[.slice A n c,.int .i64 r]) (by kernel_rfl) rfl rfl (λ_ _ _ h=>h) rfl (aO rfl rfl (λw' q=>yV ((q.1.cell 0).trans rfl) ((q.1.cell 1).trans rfl))) hS ?_;simp only[ap];refine bf 2 (.pointer (some ⟨w1.heap.size,3,none⟩)) (by kernel_rfl) rfl rfl (λ_ _ _ h=>h) rfl (aV rfl rfl (mW _)) hS ?_;simp only[ap];refine bf 3 (.pointer (some ⟨w1.heap.size,3,none⟩)) (by kernel_rfl) rfl rfl (λ_ _ _ h=>h) rfl (aV rfl rfl (sQ _)) hS ?_;simp only[ap];refine bf 4 (.int .i64 p) (by kernel_rfl) rfl rfl (λ_ _ _ h=>h) rfl (aO rfl rfl (λw' q=>aT ((q.1.cell 3).trans rfl))) hS ?_;simp only[ap];refine bf 5 (.pointer (some ⟨w1.heap.size,3,none⟩)) (by kernel_rfl) rfl rfl (λ_ _ _ h=>h) rfl (aV rfl rfl (mW _)) hS ?_;simp only[ap];refine bf 6 (.pointer (some ⟨w1.heap.size,4,none⟩)) (by kernel_rfl) rfl rfl (λ_ _ _ h=>h) rfl (aV rfl rfl (sS _)) hS ?_;simp only[ap];refine bf 7 (.int .i64 er) (by kernel_rfl) rfl rfl (λ_ _ _ h=>h) rfl (aO rfl rfl (λw' q=>yU ((q.1.cell 4).trans rfl))) hS ?_
 simp only[ap];have hT6:=(hT5.set_ 0 (.slice A n c)).set_ 1 (.int .i64 r);simp only[List.set_cons_zero,List.set_cons_succ]at hT6;have hS6:=(hS.1.far (p:=⟨w.heap.size,0,none⟩) hne (.slice A n c)).far (p:=⟨w.heap.size,1,none⟩) hne (.int .i64 r);have hF6:Fr (λb=>b=w.heap.size) W5 ((W5.setCell ⟨w.heap.size,0,none⟩ (.slice A n c)).setCell ⟨w.heap.size,1,none⟩ (.int .i64 r)):=(Fr.set (E:=λb=>b=w.heap.size) (Fr.refl _ _) rfl _).set rfl _;have hb6:=(hb5.setCell (p:=⟨w.heap.size,0,none⟩) (Nat.le_refl _) (.slice A n c)).setCell (p:=⟨w.heap.size,1,none⟩) (Nat.le_refl _) (.int .i64 r);refine bR 8 ({dst:=none,op:=Op.store 25 (Operand.tmp 2) (Operand.tmp 9),type:=0,pos := "parse.go:13",after := #[{on:=1,ground:=Ground.data},{on:=0,ground:=Ground.phase},{on:=1,ground:=Ground.phase},{on:=2,ground:=Ground.textOnly Departure.lateStores},{on:=3,ground:=Ground.textOnly Departure.lateStores},{on:=4,ground:=Ground.textOnly Departure.lateStores},{on:=5,ground:=Ground.textOnly Departure.lateStores},{on:=6,ground:=Ground.textOnly Departure.lateStores},{on:=7,ground:=Ground.textOnly Departure.lateStores}],guard:=none}:Oper) rfl (by kernel_rfl) rfl (zP rfl rfl rfl hT5 ⟨⟨hS6,_,_,hT6⟩,?_⟩);simp only[Act.put]
 have hS9:Bx ((W5.setCell ⟨w.heap.size,0,none⟩ (.slice A n c)).setCell ⟨w.heap.size,1,none⟩ (.int .i64 r)) w1.heap.size 56 [.slice A n c,.int .i64 r,.int .i64 m,.int .i64 p,.int .i64 er]/\∃u0 u1,Bx ((W5.setCell ⟨w.heap.size,0,none⟩ (.slice A n c)).setCell ⟨w.heap.size,1,none⟩ (.int .i64 r)) w.heap.size 25 [u0,u1]:=⟨hS6,_,_,hT6⟩;refine bf 9 (.int .i64 p) (by kernel_rfl) rfl rfl (λ_ _ _ h=>h) rfl (cZ rfl rfl) hS9 ?_;simp only[ap];refine bf 10 (.int .i64 er) (by kernel_rfl) rfl rfl (λ_ _ _ h=>h) rfl (cZ rfl rfl) hS9 ?_;simp only[ap];refine wpAnyH_done (by kernel_rfl) ?_ _;have hA6:=(hA5.fr hF6 (λb q=>by omega)).mono (B':=w.heap.size) (by omega);have z0:=(hT6.cell 0).trans rfl;have z1:=(hT6.cell 1).trans rfl;generalize (W5.setCell ⟨w.heap.size,0,none⟩ (.slice A n c)).setCell ⟨w.heap.size,1,none⟩ (.int .i64 r)=W6 at *
 have HE:=hid (And.intro hb6 hA6);clear hb6 hA6 hT6 hS6 hS9 hF6 hS hT5 hA5 hb5 hne hlt;go_wp2;exact bodyPost_ret (v :=.tuple #[.agg #[.slice A n c,.int .i64 r],.int .i64 p,.int .i64 er]) (by simp[results,Tryz.f16,go_sem,z0,z1]) rfl ⟨A,n,c,r,m,p,er,rfl,HE.out.1,HE.out.2⟩
end
section
open Tr (Bx ag bt ak aB aa av)
end
section
open Tr (Bx ag bt ak aB aa av)
def Lm:List UInt8:=[40,49]
theorem EF {R:List Tok->Rs}{l:List UInt8}{ts:List Tk.Tok}{v:List Int}{s:St}(h1:Tk.jl l 0=.ok ts)(h2:R (ts.map zO)=.ok v s):kW R l=if 4000<s.nd.length then .bad 0 8 else if 40<Tr.jQ (s.nd.map jF) ((s.nd.length:Int)-1) then .bad 0 6 else .good s.nd s.mo:=by
 unfold kW;rw[h1];show(match R (ts.map zO) with| .out=>yI.bad 0 0 | .no p e =>.bad p e | .ok _ s=>if 4000<s.nd.length then .bad 0 8 else if 40<Tr.jQ (s.nd.map jF) ((s.nd.length:Int)-1) then .bad 0 6 else .good s.nd s.mo)=_;rw[h2]
end
inductive Wd where
 |nil
 |snoc (f:Wd) (kd n pl:Int) (tx:List UInt8) (ks:Wd)
def Wd.sz:Wd->Nat
 | .nil=>0
 | .snoc f _ _ _ _ ks=>f.sz+ks.sz+1
def Wd.rt (o:Nat):Wd->List Int
 | .nil=>[]
 | .snoc f _ _ _ _ ks=>f.rt o++[((o+f.sz+ks.sz:Nat):Int)]
def Wd.fl (o:Nat):Wd->List Nd
 | .nil=>[]
 | .snoc f kd n pl tx ks=>f.fl o++(ks.fl (o+f.sz)++[⟨kd,n,pl,tx,ks.rt (o+f.sz)⟩])
def Wd.kds:Wd->List Int
 | .nil=>[]
 | .snoc f kd _ _ _ _=>f.kds++[kd]
def Wd.all (P:Int->Int->Int->List UInt8->List Int->Prop):Wd->Prop
 | .nil=>True
 | .snoc f kd n pl tx ks=>f.all P/\ks.all P/\P kd n pl tx ks.kds
theorem Wd.fl_len:∀(f:Wd) (o:Nat),(f.fl o).length=f.sz
 | .nil,_=>rfl
 | .snoc f kd n pl tx ks,o=>by
  simp only[Wd.fl,Wd.sz,List.length_append,List.length_singleton,f.fl_len,ks.fl_len];omega
section
variable (P:Int->Int->Int->List UInt8->List Int->Prop)
def At (n0:List Nd)(s:St)(f:Wd)(v:List Int):Prop:=s.nd=n0++f.fl n0.length/\v=f.rt n0.length/\f.all P
def xy (n0:List Nd)(C:List Int->Prop)(r:Rs):Prop:=∀v s',r=.ok v s'->∃g,At P n0 s' g v/\C g.kds
def Qt (s:St)(r:Rs):Prop:=∀v s',r=.ok v s'->v=[]/\s'.nd=s.nd
end
section
variable {P:Int->Int->Int->List UInt8->List Int->Prop}
theorem At.nil (s:St):At P s.nd s .nil []:=⟨by simp[Wd.fl],rfl,True.intro⟩
theorem At.len {n0:List Nd}{s:St}{f:Wd}{v:List Int}(h:At P n0 s f v):s.nd.length=n0.length+f.sz:=by rw[h.1,List.length_append,f.fl_len]
theorem At.to {n0:List Nd}{s s':St}{f:Wd}{v:List Int}(h:At P n0 s f v)(e:s'.nd=s.nd):At P n0 s' f v:=⟨e.trans h.1,h.2⟩
theorem xy.bind {n0 n1:List Nd}{C D:List Int->Prop}{r:Rs}{k:List Int->St->Rs}(h:xy P n0 C r)(q:∀v s' g,At P n0 s' g v->C g.kds->xy P n1 D (k v s')):xy P n1 D (r.bind k):=by
 intro v s' e;obtain⟨v1,s1,e1,e2⟩:=Rs.bind_ok e;obtain⟨g,a,c⟩:=h v1 s1 e1;exact q v1 s1 g a c v s' e2
theorem Qt.bind {n1:List Nd}{D:List Int->Prop}{s:St}{r:Rs}{k:List Int->St->Rs}(h:Qt s r)(q:∀s',s'.nd=s.nd->xy P n1 D (k [] s')):xy P n1 D (r.bind k):=by
 intro v s' e;obtain⟨v1,s1,e1,e2⟩:=Rs.bind_ok e;obtain⟨rfl,e3⟩:=h v1 s1 e1;exact q s1 e3 v s' e2
theorem xy.no {n0:List Nd}{C:List Int->Prop}(p e:Nat):xy P n0 C (.no p e):=λ_ _ h=>by cases h
theorem xy.ok {n0:List Nd}{C:List Int->Prop}{v:List Int}{s:St}{f:Wd}(h:At P n0 s f v)(c:C f.kds):xy P n0 C (.ok v s):=λv' s' e=>by cases e;exact⟨f,h,c⟩
theorem xy.imp {n0:List Nd}{C D:List Int->Prop}{r:Rs}(h:xy P n0 C r)(q:∀l,C l->D l):xy P n0 D r:=λv s e=>by
 obtain⟨g,a,c⟩:=h v s e;exact⟨g,a,q _ c⟩
theorem xy.at {n0 n1:List Nd}{C:List Int->Prop}{r:Rs}(h:xy P n0 C r)(e:n0=n1):xy P n1 C r:=e▸h
end
section
open Tr (dO dG aX ay aL dA bE sI bi gN vX lh)
def Pk (ts:List Tok)(kd n pl:Int)(tx:List UInt8)(kds:List Int):Prop:=
 1<=kd/\kd<=27/\dG kd tx=true/\(aX kd n=true/\n<=9223372036854775807)/\ay kd kds=true/\∃t ∈ ts,(t.p:Int)=pl
def Na (ts:List Tok):Prop:=∀t ∈ ts,(t.k=1->dO t.s=true)/\(t.k=2->0<=t.n/\t.n<=9223372036854775807)
def E1 (l:List Int):Prop:=∃e,l=[e]/\aL e=true
def S1 (l:List Int):Prop:=∃e,l=[e]/\dA e=true
section
variable {ts:List Tok}
abbrev GR (ts:List Tok):=xy (Pk ts)
variable {n1:List Nd} {D:List Int->Prop} {s:St} {k:List Int->St->Rs}
end
structure MR (ts:List Tok) (rec:oW->St->Rs):Prop where
 una:∀s,GR ts s.nd E1 (rec .una s)
 bin:∀r s,1<=r->GR ts s.nd E1 (rec (.bin r) s)
 loop:∀r s n0 f l,1<=r->At (Pk ts) n0 s f l->E1 f.kds->GR ts n0 E1 (rec (.loop r l) s)
 exprs:∀s n0 f a,At (Pk ts) n0 s f a->GR ts n0 (λl=>∃es,l=f.kds++es/\es.all aL=true) (rec (.exprs a) s)
 stmt:∀s,GR ts s.nd S1 (rec .stmt s)
 stmts:∀s n0 f a pl,At (Pk ts) n0 s f a->f.kds.all dA=true->(∃t ∈ ts,(t.p:Int)=pl)->GR ts n0 (· = [6]) (rec (.stmts pl a) s)
 vars:∀(j:Nat) s n0 f a,j=2\/j=5->At (Pk ts) n0 s f a->GR ts n0 (λl=>∃m,l=f.kds++List.replicate m (j:Int)) (rec (.vars j a) s)
 params:∀s n0 f a,At (Pk ts) n0 s f a->GR ts n0 (λl=>∃m,l=f.kds++List.replicate m 4) (rec (.params a) s)
 procs:∀s n0 f a,At (Pk ts) n0 s f a->GR ts n0 (λl=>∃m,l=f.kds++List.replicate m 3) (rec (.procs a) s)
section
variable {ts:List Tok} {rec:oW->St->Rs} (hr:MR ts rec) (hk:Na ts)
theorem E1.all {l:List Int}(h:E1 l):l.length=1/\bE l=true:=by
 obtain⟨e,rfl,h⟩:=h;exact⟨rfl,by simp[bE,h]⟩
include hr
include hk
end
end
section
open Go
open Tr (dG aX ay nI kw fT nth jK gF qO)
structure NI (ts:List Tok) (nd:List Nd):Prop where
 right:fT (nd.map jF) ((nd.length:Int)-1)=true
 pos:1<=nd.length
 few:nd.length<=4000
 kids:∀x ∈ nd.map jF,x.ks.length<=4000
 text:∀x ∈ nd.map jF,x.tx.size<=281474976710656
 num:∀x ∈ nd.map jF,x.n<=9223372036854775807
 at_:∀i (hi:i<nd.length),i+1<nd.length->∃t ∈ ts,(t.p:Int)=nd[i].pl
end
section
open Go
open Tr (dO dG aX ay aL dA bE nI kw nth gF jQ)
structure NJ (nd:List Nd):Prop where
 ok:MK (nd.map jF) ((nd.length:Int)-1)
 pos:1<=nd.length
 few:nd.length<=4000
 kids:∀x ∈ nd.map jF,x.ks.length<=2
 text:∀x ∈ nd.map jF,x.tx.size<=20
 num:∀x ∈ nd.map jF,x.n<=9223372036854775807
end
section
open Tr (Bx ag bt ak aB aa av)
def Lp (nd:List Nd)(w:World)(e:Ending)(w':World):Prop:=∃A c,e=.returned (.tuple #[.agg #[.slice A nd.length c,.int .i64 ((nd.length:Int)-1)],.int .i64 0,.int .i64 0])/\Below w.heap.size w w'/\iQ w.heap.size w' A (nd.map jF)
theorem pY {a:yI}{nd:List Nd}{k:Nat}{w:World}{en:Ending}{w':World}(h:xx a w en w')(ha:a=.good nd k):Lp nd w en w':=by
 subst ha;obtain⟨A,n,c,r,m,q,er,rfl,hb,rfl,rfl,rfl,rfl,rfl,hN⟩:=h;exact⟨A,c,rfl,hb,hN⟩
end
section
open Tr (Bx ag bt bu aG)
end
section
open Tr (Bx ag bt bu aG gF jQ)
end
section
open Tr (Bx ag bt bu aG az gF jQ)
end
section
open Tr (Bx ag bt bu aG gF jQ tT Bz)
theorem mX (b:Nat)(w:World):(Instr.fieldAt 25 (.pointer (some ⟨b,0,none⟩)) 0).run Tryz.prog w=.ok (.pointer (some ⟨b,0,none⟩)) w:=by kernel_rfl
theorem GU {S:World->Prop}{a:Act}{o:Oper}{c x y:Operand}{v:Value}(ho:o.op=.pick c x y)(hc:a.eval c=.bool false)(hy:a.eval y=v):∀w,S w->(execOp a.eval o).run Tryz.prog w=.ok (.value v) w:=λw _=>by unfold execOp;simp[ho,hc,hy,asBool]
structure NK (x:List UInt8) (la lb:List Tr.Nd) (ra rb:Int) (lc:List Tr.Nd) (rc:Int):Prop where
 eq:lc=tT 27 0 0 (Ns x) [(la,ra),(lb,rb)]
 len:lc.length=la.length+lb.length+1
 root:rc=((la.length+lb.length:Nat):Int)
 kids:∀y ∈ lc,y.ks.length<=2
 text:∀y ∈ lc,y.tx.size<=281474976710656
 num:∀y ∈ lc,y.n<=9223372036854775807
end
section
open Go Go.RowKit Go.Sort
open Tr (Bx ag bt bu Ints aG au)
theorem Ie {S:World->Prop}{a:Act}{o:Oper}{x:Operand}{b:Bool}(ho:o.op=.unOp .not 4 x)(hx:a.eval x=.bool b):∀w,S w->(execOp a.eval o).run Tryz.prog w=.ok (.value (.bool (!b))) w:=λw _=>by unfold execOp;simp only[ho,hx];simp[go_sem]
theorem JO:Own 257:=⟨_,Tryz.func257,by kernel_rfl,by kernel_rfl⟩
theorem JP:Own 137:=⟨_,Tryz.func137,by kernel_rfl,by kernel_rfl⟩
theorem rX (b:Nat)(w:World):(Instr.fieldAt 37 (.pointer (some ⟨b,0,none⟩)) 4).run Tryz.prog w=.ok (.pointer (some ⟨b,4,none⟩)) w:=by kernel_rfl
theorem xA {w:World}{b i n c:Nat}{A:Option Addr}(h:w.cell? ⟨b,i,none⟩=some (.slice A n c)):(Instr.loadAt 35 (.pointer (some ⟨b,i,none⟩))).run Tryz.prog w=.ok (.slice A n c) w:=by simp[go_sem,h]
section
variable {w:World} {l:List Tr.Nd} {A O:Option Addr} {n bd bp:Nat}
theorem vH (h:kX w l A n O bd bp)(hcp:n_ w A l)(c co p k:Nat)(hp:p<n)(hkd:(ae l p).kd=13)(ks:List Int)(hks:(ae l p).ks=(k:Int) :: ks)(hk:k<n)(hun:eO l p (bC l p)≠none\/ic l (bC l p) 0≠none):Calls Tryz.prog 221 #[fJ A n c O co bd bp,.int .i64 (p:Int)] w (au (yP l p) w):=by
 unfold fJ;have xl:p<l.length:=by rw[<- h.len];exact hp
 have xz:(p:Int)<(n:Int):=by omega
 obtain⟨bA,off,K,cK,rfl,xt,x0,x1,x2,x3,x4,xI⟩:=dE h.nds (Below.refl _ w) p xl;rw[<- aH xl]at x0 x1 x2 x3 x4 xI;have hb0:=ag w (.cells #[.slice (some ⟨bA,off,none⟩) n c,.slice O n co,.map (some bd),.map (some bp)] 83);obtain⟨bk,ok,rfl,hbk,hck⟩:=xI (by rw[hks];simp);have hb1:=bt hb0 (ag (w.alloc (.cells #[.slice (some ⟨bA,off,none⟩) n c,.slice O n co,.map (some bd),.map (some bp)] 83)) (.cells #[.int .i64 (ae l p).kd,.int .i64 (ae l p).n,.int .i64 (ae l p).pl,.string (ae l p).tx,.slice (some ⟨bk,ok,none⟩) (ae l p).ks.length cK] 37));have HC:=hid (yT (h.below hb1) c co p k hp ks hks hk hun);have HV:=hid (λW (hb:Below w.heap.size w W)=>kR (h.below hb) c co p hp);have hkr:=h.kr hp;rw[hks]at hkr;have hkm:=h.kl hp;have HT:=hid (λW (hb:Below w.heap.size w W) K m cK (hK:Ints W K ks) (hm:m=ks.length)=>xm (h.below hb) c co K m cK ks hK hm (λx hx=>hkr x (List.mem_cons_of_mem _ hx)) (by rw[hks,List.length_cons]at hkm;omega));have hcc:(ae l p).ks.length=ks.length+1:=by rw[hks];rfl
 have hcx:=hcp p bA off _ _ cK xl rfl x4 hkd;have htl:(ae l p).ks.tail=ks:=by rw[hks];rfl
 have hKI:∀j (hj:j<ks.length),w.cell? ⟨bk,ok+(j+1),none⟩=some (.int .i64 ks[j]):=λj hj=>by
  have:=hck (j+1) (by rw[hks,List.length_cons];omega);rw[this];simp only[hks,List.getElem_cons_succ]
 unfold fJ at HC HV HT;unfold yP;rw[htl];have e0:=(hb0.cell (p:=⟨bA,off+p*5,none⟩) xt).trans x0;have e1:=(hb0.cell (p:=⟨bA,off+p*5+1,none⟩) xt).trans x1;have e2:=(hb0.cell (p:=⟨bA,off+p*5+2,none⟩) xt).trans x2;have e3:=(hb0.cell (p:=⟨bA,off+p*5+3,none⟩) xt).trans x3;have e4:=(hb0.cell (p:=⟨bA,off+p*5+4,none⟩) xt).trans x4;have hB1:Bx ((w.alloc (.cells #[.slice (some ⟨bA,off,none⟩) n c,.slice O n co,.map (some bd),.map (some bp)] 83)).alloc (.cells #[.int .i64 (ae l p).kd,.int .i64 (ae l p).n,.int .i64 (ae l p).pl,.string (ae l p).tx,.slice (some ⟨bk,ok,none⟩) (ae l p).ks.length cK] 37)) w.heap.size 83 [.slice (some ⟨bA,off,none⟩) n c,.slice O n co,.map (some bd),.map (some bp)]/\Bx ((w.alloc (.cells #[.slice (some ⟨bA,off,none⟩) n c,.slice O n co,.map (some bd),.map (some bp)] 83)).alloc (.cells #[.int .i64 (ae l p).kd,.int .i64 (ae l p).n,.int .i64 (ae l p).pl,.string (ae l p).tx,.slice (some ⟨bk,ok,none⟩) (ae l p).ks.length cK] 37)) (w.heap.size+1) 37 [.int .i64 (ae l p).kd,.int .i64 (ae l p).n,.int .i64 (ae l p).pl,.string (ae l p).tx,.slice (some ⟨bk,ok,none⟩) (ae l p).ks.length cK]:=by
  have k2:=Bx.new (w.alloc (.cells #[.slice (some ⟨bA,off,none⟩) n c,.slice O n co,.map (some bd),.map (some bp)] 83)) 37 [.int .i64 (ae l p).kd,.int .i64 (ae l p).n,.int .i64 (ae l p).pl,.string (ae l p).tx,.slice (some ⟨bk,ok,none⟩) (ae l p).ks.length cK];rw[World.size_alloc]at k2;exact⟨(Bx.new w 83 _).alloc _,k2⟩
 have HYL:=hid (show∀my:Nat,my=(ks.map λk=>aC l k.toNat).length->my<=100000 from λmy e=>by rw[e,List.length_map];rw[hks,List.length_cons]at hkm;omega);clear hks hkm;clear h hk hun hkr htl hb0 hck xI x0 x1 x2 x3 x4 hp hcp xl;generalize (ae l (p:Int)).ks.length=m at *
 generalize (ae l (p:Int)).tx=tx at *
 generalize (ae l (p:Int)).kd=kd at *
 generalize (ae l (p:Int)).n=nn at *
 generalize (ae l (p:Int)).pl=pl at *
 generalize (rQ l p).1.1=xs at *
 generalize (rQ l p).1.2=rs at *
 generalize (rQ l p).2=okb at *
 generalize jo l p=vt at *
 generalize (ks.map λk=>aC l k.toNat)=ys at *
 have HB1:=hid (And.intro hb1 hB1);have HM:=hid (And.intro hcc (And.intro (hcx) (And.intro hbk hKI)));clear hb1 hB1 hcc hcx hKI hkd;obtain⟨R,hR⟩:∃R,R=(okb&&(decide (ys=xs)&&(decide (tx=⟨#[]⟩) || decide (vt=rs)))):=⟨_,rfl⟩;rw[<- hR];have HR:=hid hR;clear hR;go_enter Tryz.func221,Tryz.ntmps221
 go_wp2_with (go_at_call 256;refine HC.out.mono ?_);rintro e w2 ⟨VK,vc,rfl,hI2,hb2⟩;obtain⟨mx,hmx⟩:∃mx,mx=xs.length:=⟨_,rfl⟩;rw[<- hmx];have hB3:=((HB1.out.2.1.below hb2 HB1.out.2.1.lt).alloc (.cells #[.slice VK mx vc,.int .i64 rs] 139));have hN3:=((HB1.out.2.2.below hb2 HB1.out.2.2.lt).alloc (.cells #[.slice VK mx vc,.int .i64 rs] 139));have hS3:=Bx.new w2 139 [.slice VK mx vc,.int .i64 rs];have hb3:=bt (bt HB1.out.1 hb2) (ag w2 (.cells #[.slice VK mx vc,.int .i64 rs] 139));have hI3:=hI2.below (ag w2 (.cells #[.slice VK mx vc,.int .i64 rs] 139));have H3:=hid (And.intro hB3 (And.intro hN3 (And.intro hS3 (And.intro hb3 (And.intro hI3 hmx)))));clear hI2 hb2 hmx hB3 hN3 hS3 hb3 hI3;cases okb with
 |false=>
  go_upto_region 3 with(fail)
  go_quiet (fail)
  go_wp2
  go_ret
  exact⟨congrArg (λz=>Ending.returned (Value.bool z)) (show false=R by rw[HR.out];rfl),Tk.below_drewN H3.out.2.2.2.1 _⟩
 |true=>
  obtain⟨yx,hyx⟩:∃yx,yx=decide (ys=xs):=⟨_,rfl⟩;have HYX:=hid hyx;clear hyx
  go_upto_region 3 with(fail)
  refine wp_region_held (S:=λw'=>Below ({w2.alloc (.cells #[.slice VK mx vc,.int .i64 rs] 139)with drawn:=(w2.alloc (.cells #[.slice VK mx vc,.int .i64 rs] 139)).drawn+1}:World).heap.size ({w2.alloc (.cells #[.slice VK mx vc,.int .i64 rs] 139)with drawn:=(w2.alloc (.cells #[.slice VK mx vc,.int .i64 rs] 139)).drawn+1}:World) w') (by kernel_rfl) ?_;have hB5:Bx ({w2.alloc (.cells #[.slice VK mx vc,.int .i64 rs] 139)with drawn:=(w2.alloc (.cells #[.slice VK mx vc,.int .i64 rs] 139)).drawn+1}:World) w.heap.size 83 [.slice (some ⟨bA,off,none⟩) n c,.slice O n co,.map (some bd),.map (some bp)]:=H3.out.1;have hN5:Bx ({w2.alloc (.cells #[.slice VK mx vc,.int .i64 rs] 139)with drawn:=(w2.alloc (.cells #[.slice VK mx vc,.int .i64 rs] 139)).drawn+1}:World) (w.heap.size+1) 37 [.int .i64 kd,.int .i64 nn,.int .i64 pl,.string tx,.slice (some ⟨bk,ok,none⟩) m cK]:=H3.out.2.1;have hS5:Bx ({w2.alloc (.cells #[.slice VK mx vc,.int .i64 rs] 139)with drawn:=(w2.alloc (.cells #[.slice VK mx vc,.int .i64 rs] 139)).drawn+1}:World) w2.heap.size 139 [.slice VK mx vc,.int .i64 rs]:=H3.out.2.2.1;have hb5:Below w.heap.size w ({w2.alloc (.cells #[.slice VK mx vc,.int .i64 rs] 139)with drawn:=(w2.alloc (.cells #[.slice VK mx vc,.int .i64 rs] 139)).drawn+1}:World):=cO H3.out.2.2.2.1;have hI5:Ints ({w2.alloc (.cells #[.slice VK mx vc,.int .i64 rs] 139)with drawn:=(w2.alloc (.cells #[.slice VK mx vc,.int .i64 rs] 139)).drawn+1}:World) VK xs:=H3.out.2.2.2.2.1;have hmx:=H3.out.2.2.2.2.2
  generalize ({w2.alloc (.cells #[.slice VK mx vc,.int .i64 rs] 139)with drawn:=(w2.alloc (.cells #[.slice VK mx vc,.int .i64 rs] 139)).drawn+1}:World)=W5 at *
  have hS:=Below.refl W5.heap.size W5;obtain⟨ok2,hok2⟩:∃ok2,(if cK=1 then ok else ok+1)=ok2:=⟨_,rfl⟩;have hKs:Ints W5 (some ⟨bk,ok2,none⟩) ks:=λh0=>⟨bk,_,rfl,Nat.lt_of_lt_of_le HM.out.2.2.1 hb5.size,λj hj=>by
   have h2:cK≠1:=HM.out.2.1 (by have:=HM.out.1;omega);rw[if_neg h2]at hok2;rw[<- hok2,show ok+1+j=ok+(j+1)by omega];exact(hb5.cell (p:=⟨bk,ok+(j+1),none⟩) HM.out.2.2.1).trans (HM.out.2.2.2 j hj)⟩
  have h1m:1<=m:=by have:=HM.out.1;omega
  have hmk:m-1=ks.length:=by have:=HM.out.1;omega
  refine bf 0 (.bool true) (by kernel_rfl) rfl rfl (λ_ _ _ h=>h) rfl (aP rfl rfl) hS ?_;simp only[ap];refine bf 1 (.bool false) (by kernel_rfl) rfl rfl (λ_ _ _ h=>h) rfl (Ie (b:=true) rfl rfl) hS ?_;simp only[ap];refine bf 2 (.bool false) (by kernel_rfl) rfl rfl (λ_ _ _ h=>h) rfl (aP rfl rfl) hS ?_;simp only[ap];refine bf 3 (.agg #[.slice (some ⟨bA,off,none⟩) n c,.slice O n co,.map (some bd),.map (some bp)]) (by kernel_rfl) rfl rfl (λ_ _ _ h=>h) rfl (aO rfl rfl (λw' q=>nE (hB5.below q hB5.lt))) hS ?_;simp only[ap];refine bf 4 (.pointer (some ⟨w.heap.size+1,4,none⟩)) (by kernel_rfl) rfl rfl (λ_ _ _ h=>h) rfl (aV rfl rfl (rX _)) hS ?_;simp only[ap];refine bf 5 (.slice (some ⟨bk,ok,none⟩) m cK) (by kernel_rfl) rfl rfl (λ_ _ _ h=>h) rfl (aO rfl rfl (λw' q=>xA (((hN5.below q hN5.lt).cell 4).trans rfl))) hS ?_;simp only[ap];refine bf 6 (.slice (some ⟨bk,ok2,none⟩) (m-1) (cK-1)) (by kernel_rfl) rfl rfl (λ_ _ _ h=>h) rfl (CX rfl rfl (λw'=>by have q:=wE bk ok m cK h1m w';rw[hok2]at q;exact q)) hS ?_;simp only[ap];refine bf 8 (.pointer (some ⟨w2.heap.size,0,none⟩)) (by kernel_rfl) rfl rfl (λ_ _ _ h=>h) rfl (aV rfl rfl (gI _)) hS ?_;simp only[ap];refine bf 9 (.slice VK mx vc) (by kernel_rfl) rfl rfl (λ_ _ _ h=>h) rfl (aO rfl rfl (λw' q=>vE (((hS5.below q hS5.lt).cell 0).trans rfl))) hS ?_;simp only[ap]
  refine bv 7 ({dst:=some 26,op:=Op.call {callee:=Callee.value (Operand.func 257),args := #[Operand.tmp 22,Operand.tmp 25],argTypes := #[83,35]},type:=35,pos := "faults.go:121",after := #[{on:=3,ground:=Ground.data},{on:=6,ground:=Ground.data},{on:=2,ground:=Ground.chain},{on:=2,ground:=Ground.guard}],guard:=some (2,false)}:Oper) (args := #[.agg #[.slice (some ⟨bA,off,none⟩) n c,.slice O n co,.map (some bd),.map (some bp)],.slice (some ⟨bk,ok2,none⟩) (m-1) (cK-1)]) JO rfl rfl (by kernel_rfl) rfl rfl (HT.out W5 hb5 _ _ _ hKs hmk) ?_;rintro e w6 ⟨YK,yc,rfl,hI6,hb6⟩;refine .inr ⟨_,rfl,hb6,?_⟩;simp only[Act.put,List.setIfInBounds_toArray,List.set_cons_zero,List.set_cons_succ];obtain⟨my,hmy⟩:∃my,my=ys.length:=⟨_,rfl⟩;rw[<- hmy];refine bv 10 ({dst:=some 29,op:=Op.call {callee:=Callee.value (Operand.func 137),args := #[Operand.tmp 26,Operand.tmp 28],argTypes := #[35,35]},type:=4,pos := "faults.go:121",after := #[{on:=7,ground:=Ground.data},{on:=9,ground:=Ground.data},{on:=7,ground:=Ground.chain},{on:=2,ground:=Ground.guard}],guard:=some (2,false)}:Oper) (args := #[.slice YK my yc,.slice VK mx vc]) JP rfl rfl (by kernel_rfl) rfl rfl (by have q:=zY YK VK my mx yc vc ys xs w6 hI6 (hI5.below hb6) hmy hmx (by rw[hmy];exact HYL.out _ rfl);rw[<- HYX.out]at q;exact q) ?_;rintro e w7 ⟨rfl,hb7⟩;have hS:=bt hb6 hb7;refine .inr ⟨_,rfl,hS,?_⟩;simp only[Act.put,List.setIfInBounds_toArray,List.set_cons_zero,List.set_cons_succ]
  refine bf 11 (.bool (!yx)) (by kernel_rfl) rfl rfl (λ_ _ _ h=>h) rfl (Ie (b:=yx) rfl rfl) hS ?_;simp only[ap];refine bf 12 (.bool (!yx)) (by kernel_rfl) rfl rfl (λ_ _ _ h=>h) rfl (GU rfl rfl rfl) hS ?_;simp only[ap];refine wpAnyH_done (by kernel_rfl) ?_ _;have H7:=hid (And.intro (hB5.below hS hB5.lt) (And.intro (hN5.below hS hN5.lt) (And.intro (hS5.below hS hS5.lt) (bt hb5 hS))));clear hok2 hB5 hN5 hS5 hb5 hI5 hmx hKs hI6 hb6 hb7 hS hmk h1m hmy;cases yx with
  |false=>
   go_wp2
   go_ret
   exact⟨congrArg (λz=>Ending.returned (Value.bool z)) (show false=R by rw[HR.out,<- HYX.out];rfl),H7.out.2.2.2⟩
  |true=>
   have n3:=(H7.out.2.1.cell 3).trans rfl;by_cases htx:tx=⟨#[]⟩
   ·subst htx
    go_upto_region 5 with(fail)
    go_quiet (fail)
    go_wp2
    go_ret
    exact⟨congrArg (λz=>Ending.returned (Value.bool z)) (show true=R by rw[HR.out,<- HYX.out];simp),Tk.below_drewN H7.out.2.2.2 _⟩
   ·have hte:(tx.toList==[])=false:=eU htx;have HVR:=hid (show(vt==rs)=R by rw[HR.out,<- HYX.out,decide_eq_false htx,Bool.eq_iff_iff];simp);have c0:=(H7.out.1.cell 0).trans rfl;have c1:=(H7.out.1.cell 1).trans rfl;have c2:=(H7.out.1.cell 2).trans rfl;have c3:=(H7.out.1.cell 3).trans rfl;have s1:=(H7.out.2.2.1.cell 1).trans rfl;have m3:=cell_regrown n3;have d0:=cell_regrown c0;have d1:=cell_regrown c1;have d2:=cell_regrown c2;have d3:=cell_regrown c3;have t1:=cell_regrown s1;have cq:∀d os,Calls Tryz.prog 154 #[.agg #[.slice (some ⟨bA,off,none⟩) n c,.slice O n co,.map (some bd),.map (some bp)],.int .i64 (p:Int)] (grow (redrawn w7 d) os) λe w''=>e=.returned (.int .i64 vt)/\∃p:Regrown,w''=grow (redrawn w7 p.d) p.os:=λd os=>Calls.regrown_of (HV.out _ (bt H7.out.2.2.2 (below_regrown w7 d os)))
    clear htx n3 c0 c1 c2 c3 s1;go_wp2;refine wp_region_quiet_below (by kernel_rfl) (by kernel_rfl) ?_
    repeat (go_big_quiet_step (first|exact cq _ _))
    refine wpQuiet_nil ?_;intro _ hw';obtain⟨⟨dq,osq⟩,hw''⟩:=hw';subst hw'';have hbq:=below_regrown w7 dq osq;generalize grow (redrawn w7 dq) osq=w8 at *
    have HBQ:=hid (bt H7.out.2.2.2 hbq);clear cq hbq;go_wp2
    go_ret
    exact⟨congrArg (λz=>Ending.returned (Value.bool z)) HVR.out,HBQ.out⟩
end
end
section
open Go Go.RowKit Go.Sort
open Tr (Bx ag bt bu Ints aG au)
theorem dR (o:Option Nat):(a_ o == -1)=o.isNone:=by
 cases o with
 |none=>rfl
 |some q=>show((q:Int) == -1)=false;exact beq_eq_false_iff_ne.2 (by omega)
theorem EG {l:List Tr.Nd}{p:Nat}(hp:p<l.length)(h:(ae l p).kd=3):∃q,ic l (ae l p).tx 0=some q:=by
 obtain⟨r,h1,_⟩:=j_ (P:=Ev l (ae l p).tx) (p:=0) (Nat.zero_le p) hp (by unfold Ev;simp[h]);exact⟨r,h1⟩
theorem EH {l:List Tr.Nd}{p:Nat}(hp:p<l.length)(h:jy (ae l p).kd=true):∃q,qo l (eQ l p) (ae l p).tx 0=some q:=by
 obtain⟨r,h1,_⟩:=j_ (P:=wU l (eQ l p) (ae l p).tx) (p:=0) (Nat.zero_le p) hp (by unfold wU;simp[h]);exact⟨r,h1⟩
theorem xB {q p:Nat}:(!decide (some q=some p))=((q:Int) != (p:Int)):=by
 rw[Bool.eq_iff_iff];simp;omega
section
variable {w:World} {l:List Tr.Nd} {A O:Option Addr} {n bd bp:Nat}
theorem rY (h:kX w l A n O bd bp)(c co p m:Nat)(hp:p<n)(how:eQ l p=(m:Int))(hm:m<n):Calls Tryz.prog 222 #[fJ A n c O co bd bp,.int .i64 (p:Int)] w (au (rR l p) w):=by
 unfold fJ;have hb0:=ag w (.cells #[.slice A n c,.slice O n co,.map (some bd),.map (some bp)] 83);have xl:p<l.length:=by rw[<- h.len];exact hp
 have xz:(p:Int)<(n:Int):=by omega
 obtain⟨bA,off,K,cK,rfl,xt,x0,x1,x2,x3,x4,xI⟩:=dE h.nds hb0 p xl;rw[<- aH xl]at x0 x1 x2 x3 x4 xI;have ul:m<l.length:=by rw[<- h.len];exact hm
 have uz:(m:Int)<(n:Int):=by omega
 obtain⟨bBu,offu,K2,cK2,eu,ut,u0,u1,u2,u3,u4,uI⟩:=dE h.nds hb0 m ul;cases eu;rw[<- aH ul]at u0 u1 u2 u3 u4 uI;obtain⟨bO,oO,rfl,hOl,hOc⟩:=h.owner_at hb0 hp;rw[how]at hOc;have hkr:=h.kr hp;obtain⟨W0,hW0⟩:∃W0,w.alloc (.cells #[.slice (some ⟨bA,off,none⟩) n c,.slice (some ⟨bO,oO,none⟩) n co,.map (some bd),.map (some bp)] 83)=W0:=⟨_,rfl⟩;have hX:=Bx.new w 83 [.slice (some ⟨bA,off,none⟩) n c,.slice (some ⟨bO,oO,none⟩) n co,.map (some bd),.map (some bp)];rw[hW0]at hb0 hX hOl hOc x0 x1 x2 x3 x4 xt u0 u1 u2 u3 u4 ut;have HT:=hid (λW (hb:Below W0.heap.size W0 W) (k:Nat) (hk:k<n)=>mq (h.below (bt hb0 hb)) c co k hk);have hKI:∀(h0:0<(ae l p).ks.length),∃b o,K=some ⟨b,o,none⟩/\b<W0.heap.size/\W0.cell? ⟨b,o,none⟩=some (.int .i64 (ae l p).ks[0]):=λh0=>by
  obtain⟨b,o,e,hb,hc⟩:=xI h0;have:=(hb0.cell (p:=⟨b,o,none⟩) hb).trans (hc 0 h0);exact⟨b,o,e,Nat.lt_of_lt_of_le hb hb0.size,this⟩
 obtain⟨R,hR⟩:∃R,R=rR l p:=⟨_,rfl⟩;unfold rR at hR;rw[how]at hR;rw[show rR l p=R by rw[hR];unfold rR;rw[how]];unfold fJ at HT;have HB0:=hid hb0;have HX:=hid hX;have b0:=(hX.cell 0).trans rfl;have b1:=(hX.cell 1).trans rfl;have b2:=(hX.cell 2).trans rfl;have b3:=(hX.cell 3).trans rfl;have d0:=cell_regrown b0;have d1:=cell_regrown b1;have d2:=cell_regrown b2;have d3:=cell_regrown b3;have e4:=cell_regrown u1;have e5:=cell_regrown hOc;have HXT:=hid (And.intro xt x4);clear h how hb0 xI u0 u1 u2 u3 u4 x0 x1 x2 x3 x4 uI b0 b1 b2 b3 hOc hX;generalize (ae l (m:Int)).n=rn at *
 by_cases h0:(ae l p).ks=[]
 ·have hR2:=hid (show(rn==0)=R by rw[hR,if_pos (Or.inl h0),h0];simp[Bool.beq_eq_decide_eq]);have hm0:=H_ (show(ae l p).ks.length=0 by rw[h0];rfl);clear hR h0 hKI hkr HT;generalize (ae l (p:Int)).ks.length=mk at *
  go_enter Tryz.func222,Tryz.ntmps222
  go_wp2;refine wp_region_quiet_below (by kernel_rfl) (by kernel_rfl) ?_
  repeat (go_big_quiet_step (first|fail))
  refine wpQuiet_nil ?_;intro _ hw';obtain⟨⟨dq,osq⟩,hw''⟩:=hw';subst hw'';have hbq:=below_regrown W0 dq osq;generalize grow (redrawn W0 dq) osq=w1 at *
  have hX1:=HX.out.below hbq HX.out.lt;have c0:=(hX1.cell 0).trans rfl;have c1:=(hX1.cell 1).trans rfl;have c2:=(hX1.cell 2).trans rfl;have c3:=(hX1.cell 3).trans rfl;have z4:=(hbq.cell (p:=⟨bA,off+p*5+4,none⟩) HXT.out.1).trans HXT.out.2;have HQ:=hid hbq;clear hX1 hbq;go_wp2
  go_ret
  exact⟨congrArg (λz=>Ending.returned (Value.bool z)) hR2.out,bt HB0.out HQ.out⟩
 ·have hl0:0<(ae l p).ks.length:=List.length_pos_iff.2 h0;have hm0:=Ia (show(ae l p).ks.length≠0 by omega);by_cases hrn:rn=0
  ·subst hrn;have hR2:=hid (show false=R by rw[hR,if_pos (Or.inr rfl)];simp[h0]);clear hR h0 hKI hkr HT hl0;generalize (ae l (p:Int)).ks.length=mk at *
   go_enter Tryz.func222,Tryz.ntmps222
   go_wp2;refine wp_region_quiet_below (by kernel_rfl) (by kernel_rfl) ?_
   repeat (go_big_quiet_step (first|fail))
   refine wpQuiet_nil ?_;intro _ hw';obtain⟨⟨dq,osq⟩,hw''⟩:=hw';subst hw'';have hbq:=below_regrown W0 dq osq;generalize grow (redrawn W0 dq) osq=w1 at *
   have hX1:=HX.out.below hbq HX.out.lt;have c0:=(hX1.cell 0).trans rfl;have c1:=(hX1.cell 1).trans rfl;have c2:=(hX1.cell 2).trans rfl;have c3:=(hX1.cell 3).trans rfl;have z4:=(hbq.cell (p:=⟨bA,off+p*5+4,none⟩) HXT.out.1).trans HXT.out.2;have HQ:=hid hbq;clear hX1 hbq;go_wp2
   go_ret
   exact⟨congrArg (λz=>Ending.returned (Value.bool z)) hR2.out,bt HB0.out HQ.out⟩
  ·obtain⟨bk,ok,rfl,hbk,hck⟩:=hKI hl0;obtain⟨hk0,hk1⟩:=hkr _ (List.getElem_mem hl0);obtain⟨k,hk⟩:∃k:Nat,(ae l p).ks[0]=(k:Int):=⟨((ae l p).ks[0]).toNat,by omega⟩;rw[hk]at hck hk1;have hkn:k<n:=by omega
   have hty:aC l (dH l p 0).toNat=aC l k:=by
    have e:dH l p 0=(k:Int):=by
     unfold dH;rw[<- hk,List.getD_eq_getElem?_getD,List.getElem?_eq_getElem hl0];rfl
    rw[e];rfl
   have hR2:=hid (show(aC l k==rn)=R by rw[hR,if_neg (by simp[h0,hrn]),hty];rfl);have hrz:(rn==0)=false:=beq_eq_false_iff_ne.2 hrn;have hmz:(0:Int)<(((ae l p).ks.length:Nat):Int):=by omega
   have HCK:=hid (And.intro hbk hck);have HTK:=hid (λW (hb:Below W0.heap.size W0 W)=>HT.out W hb k hkn);clear hR h0 hKI hkr HT hk hk0 hk1 hty hkn hbk hck hl0;generalize aC l k=ty at *
   generalize (ae l (p:Int)).ks.length=mk at *
   go_enter Tryz.func222,Tryz.ntmps222
   go_wp2;refine wp_region_quiet_below (by kernel_rfl) (by kernel_rfl) ?_
   repeat (go_big_quiet_step (first|fail))
   refine wpQuiet_nil ?_;intro _ hw';obtain⟨⟨dq,osq⟩,hw''⟩:=hw';subst hw'';have hbq:=below_regrown W0 dq osq;generalize grow (redrawn W0 dq) osq=w1 at *
   have hX1:=HX.out.below hbq HX.out.lt;have c0:=(hX1.cell 0).trans rfl;have c1:=(hX1.cell 1).trans rfl;have c2:=(hX1.cell 2).trans rfl;have c3:=(hX1.cell 3).trans rfl;have z4:=(hbq.cell (p:=⟨bA,off+p*5+4,none⟩) HXT.out.1).trans HXT.out.2;have HQ:=hid hbq;clear hX1 hbq;go_wp2;have y4:=(HQ.out.cell (p:=⟨bk,ok,none⟩) HCK.out.1).trans HCK.out.2;have k0:=cell_regrown y4;have g0:=cell_regrown c0;have g1:=cell_regrown c1;have g2:=cell_regrown c2;have g3:=cell_regrown c3;have cq:∀d os,Calls Tryz.prog 94 #[.agg #[.slice (some ⟨bA,off,none⟩) n c,.slice (some ⟨bO,oO,none⟩) n co,.map (some bd),.map (some bp)],.int .i64 (k:Int)] (grow (redrawn w1 d) os) λe w''=>e=.returned (.int .i64 ty)/\∃p:Regrown,w''=grow (redrawn w1 p.d) p.os:=λd os=>Calls.regrown_of (HTK.out _ (bt HQ.out (below_regrown w1 d os)))
   clear y4 c0 c1 c2 c3 z4;refine wp_region_quiet_below (by kernel_rfl) (by kernel_rfl) ?_
   repeat (go_big_quiet_step (first|exact cq _ _))
   refine wpQuiet_nil ?_;intro _ hw';obtain⟨⟨dq,osq⟩,hw''⟩:=hw';subst hw'';have hbq:=below_regrown w1 dq osq;generalize grow (redrawn w1 dq) osq=w2 at *
   have HQ2:=hid (bt HQ.out hbq);clear hbq cq;go_wp2
   go_ret
   exact⟨congrArg (λz=>Ending.returned (Value.bool z)) hR2.out,bt HB0.out HQ2.out⟩
end
end
end Go.Proofs.YteecfjhjllajlaaGreatDoor
