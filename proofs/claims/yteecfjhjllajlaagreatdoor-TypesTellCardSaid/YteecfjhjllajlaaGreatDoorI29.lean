/- PROVED: TrOw Yq Yr Ys Yt Qo Qp Rb Se Yf Rc Yu Yv Yw Yx. No more condition. -/
import Derived.Test.YteecfjhjllajlaaGreatDoorI24
namespace Go.Proofs.YteecfjhjllajlaaGreatDoor
open Go Go.RowKit
namespace Tr
section
def NdsL (B:Nat)(w:World)(A:Option Addr)(l:List Nd):Prop:=
 0<l.length→∃b off,A=some ⟨b,off,none⟩∧B≤b∧b<w.heap.size∧∀j (hj:j<l.length),∃K c,w.cell? ⟨b,off+j*5,none⟩=some (.int .i64 l[j].kd)∧w.cell? ⟨b,off+j*5+1,none⟩=some (.int .i64 l[j].n) ∧
  w.cell? ⟨b,off+j*5+2,none⟩=some (.int .i64 l[j].pl)∧w.cell? ⟨b,off+j*5+3,none⟩=some (.string l[j].tx)∧w.cell? ⟨b,off+j*5+4,none⟩=some (.slice K l[j].ks.length c)∧Ints w K l[j].ks∧∀a,K=some a→B≤a.block
def NdsE (g:Nat)(w:World)(A:Option Addr)(l:List Nd):Prop:=
 0<l.length→∃b off,A=some ⟨b,off,none⟩∧b≠g∧b<w.heap.size∧∀j (hj:j<l.length),∃K c,w.cell? ⟨b,off+j*5,none⟩=some (.int .i64 l[j].kd)∧w.cell? ⟨b,off+j*5+1,none⟩=some (.int .i64 l[j].n) ∧
  w.cell? ⟨b,off+j*5+2,none⟩=some (.int .i64 l[j].pl)∧w.cell? ⟨b,off+j*5+3,none⟩=some (.string l[j].tx)∧w.cell? ⟨b,off+j*5+4,none⟩=some (.slice K l[j].ks.length c)∧Ints w K l[j].ks∧(0<l[j].ks.length→∀a,K=some a→a.block≠g)
theorem NdsL.ne {B g:Nat}{w:World}{A:Option Addr}{l:List Nd}(h:NdsL B w A l)(hg:g<B):NdsE g w A l:=λh0=>by
 obtain⟨b,off,e,hB,hl,hc⟩:=h h0
 refine⟨b,off,e,by omega,hl,λj hj =>?_⟩
 obtain⟨K,c,c0,c1,c2,c3,c4,hK,hKB⟩:=hc j hj
 exact⟨K,c,c0,c1,c2,c3,c4,hK,λ_ a ha=>by have:=hKB a ha;omega⟩
theorem Nds.ne {g:Nat}{w:World}{A:Option Addr}{l:List Nd}(h:Nds w A l)(hg:w.heap.size≤g):NdsE g w A l:=λh0=>by
 obtain⟨b,off,e,hl,hc⟩:=h h0
 refine⟨b,off,e,by omega,hl,λj hj =>?_⟩
 obtain⟨K,c,c0,c1,c2,c3,c4,hK⟩:=hc j hj
 refine⟨K,c,c0,c1,c2,c3,c4,hK,λh1 a ha =>?_⟩
 obtain⟨b2,o2,e2,hl2,_⟩:=hK h1
 rw[e2]at ha;cases ha
 show b2≠g
 omega
theorem NdsE.nds {g:Nat}{w:World}{A:Option Addr}{l:List Nd}(h:NdsE g w A l):Nds w A l:=λh0=>by
 obtain⟨b,off,e,_,hl,hc⟩:=h h0
 refine⟨b,off,e,hl,λj hj =>?_⟩
 obtain⟨K,c,c0,c1,c2,c3,c4,hK,_⟩:=hc j hj
 exact⟨K,c,c0,c1,c2,c3,c4,hK⟩
theorem NdsE.keep {g:Nat}{w w':World}{A:Option Addr}{l:List Nd}(h:NdsE g w A l)(hs:w.heap.size≤w'.heap.size)(hk:∀b,b<w.heap.size→b≠g→w'.heap[b]?=w.heap[b]?):NdsE g w' A l:=λh0=>by
 obtain⟨b,off,e,hne,hl,hc⟩:=h h0
 have kb:=hk b hl hne
 refine⟨b,off,e,hne,Nat.lt_of_lt_of_le hl hs,λj hj =>?_⟩
 obtain⟨K,c,c0,c1,c2,c3,c4,hK,hKB⟩:=hc j hj
 refine⟨K,c,(cell_same kb _).trans c0,(cell_same kb _).trans c1,(cell_same kb _).trans c2,(cell_same kb _).trans c3,(cell_same kb _).trans c4,λh1 =>?_,hKB⟩
 obtain⟨b2,o2,e2,hl2,hc2⟩:=hK h1
 have kb2:=hk b2 hl2 (hKB h1 _ e2)
 exact⟨b2,o2,e2,Nat.lt_of_lt_of_le hl2 hs,λj hj=>(cell_same kb2 _).trans (hc2 j hj)⟩
theorem NdsL.nds {B:Nat}{w:World}{A:Option Addr}{l:List Nd}(h:NdsL B w A l):Nds w A l:=λh0=>by
 obtain⟨b,off,e,_,hl,hc⟩:=h h0
 refine⟨b,off,e,hl,λj hj =>?_⟩
 obtain⟨K,c,c0,c1,c2,c3,c4,hK,_⟩:=hc j hj
 exact⟨K,c,c0,c1,c2,c3,c4,hK⟩
end
end Tr
section
open Tr (Bx heap1 bt Nds Ints BPost IPost VPost Snd rgB dpt ovL ovA Trs mvN)
def zT:Array Value := #[.slice none 0 0,.int .i64 0]
def mkT (n:Nat)(m:Nat→Nat→Value):Array Value:=Array.ofFn (n:=n*2) λi=>m (i / 2) (i % 2)
theorem mkT_size (n:Nat)(m:Nat→Nat→Value):(mkT n m).size=n*2:=by simp[mkT]
theorem mkT_get {n:Nat}{m:Nat→Nat→Value}{j f:Nat}(hj:j<n)(hf:f<2):(mkT n m)[j*2+f]?=some (m j f):=by
 have h:j*2+f<n*2:=by omega
 simp only[mkT,Array.getElem?_ofFn,h,dif_pos]
 rw[show(j*2+f) / 2=j by omega,show(j*2+f) % 2=f by omega]
theorem mkT_congr {n:Nat}{m m':Nat→Nat→Value}(h:∀j f,j<n→f<2→m j f=m' j f):mkT n m=mkT n m':=by
 unfold mkT;congr 1;funext i;exact h _ _ (by have:=i.2;omega) (by omega)
theorem mkT_set {n:Nat}{m:Nat→Nat→Value}{j f:Nat}{v:Value}(hf:f<2):(mkT n m).setIfInBounds (j*2+f) v=mkT n (λi g=>if i=j∧g=f then v else m i g):=by
 apply Array.ext_getElem?
 intro k
 rw[Array.getElem?_setIfInBounds]
 by_cases hk:k<n*2
 ·have e1:k=k / 2*2+k % 2:=by omega
  have h1:=mkT_get (m:=λi g=>if i=j∧g=f then v else m i g) (j:=k / 2) (f:=k % 2) (n:=n) (by omega) (by omega)
  have h2:=mkT_get (m:=m) (j:=k / 2) (f:=k % 2) (n:=n) (by omega) (by omega)
  rw[← e1]at h1 h2
  rw[h1,h2,mkT_size]
  by_cases e:j*2+f=k
  ·rw[if_pos e,if_pos (by omega),if_pos (by omega)]
  ·rw[if_neg e,if_neg (by omega)]
 ·rw[Array.getElem?_eq_none (by rw[mkT_size];omega),Array.getElem?_eq_none (by rw[mkT_size];omega),mkT_size]
  split
  ·rw[if_neg (by omega)]
  ·rfl
def Ob (w:World)(g n:Nat)(m:Nat→Nat→Value):Prop:=w.heap[g]?=some (.cells (mkT n m) 25 (0,0))
section
variable {w w':World} {g n:Nat} {m:Nat→Nat→Value}
theorem Ob.lt (h:Ob w g n m):g<w.heap.size:=(Array.getElem?_eq_some_iff.1 h).1
theorem Ob.cell (h:Ob w g n m){j f:Nat}(hj:j<n)(hf:f<2):w.cell? ⟨g,j*2+f,none⟩=some (m j f):=(cell_of_row w g _ _ 25 (0,0) h).trans (mkT_get hj hf)
theorem Ob.frozen (h:Ob w g n m)(i:Nat):w.frozen? ⟨g,i,none⟩=false:=frozen_of_row w g i _ 25 h
theorem Ob.set_ (h:Ob w g n m)(j f:Nat)(hf:f<2)(v:Value):Ob (w.setCell ⟨g,j*2+f,none⟩ v) g n (λi k=>if i=j∧k=f then v else m i k):=(heap_setCell_same w g _ _ 25 _ h).trans (by rw[mkT_set hf])
theorem Ob.far (h:Ob w g n m){p:Addr}(hp:g≠p.block)(u:Value):Ob (w.setCell p u) g n m:=(heap_setCell_other w p g u hp).trans h
theorem Ob.same (h:Ob w g n m)(hg:w'.heap[g]?=w.heap[g]?):Ob w' g n m:=hg.trans h
theorem Ob.grown {row:Option Nat}(h:Ob w g n m)(hb:w.grownBy w' row)(hg:some g≠row):Ob w' g n m:=(hb.block g h.lt hg).trans h
theorem Ob.alloc (h:Ob w g n m)(o:Obj):Ob (w.alloc o) g n m:=h.grown (World.grownBy_alloc w o none) (by simp)
theorem Ob.congr {m':Nat→Nat→Value}(h:Ob w g n m)(e:∀j f,j<n→f<2→m j f=m' j f):Ob w g n m':=by unfold Ob at *;rw[h,mkT_congr e]
end
structure LvI (w:World) (m i:Nat) (NB:List Value) (wr:World):Prop where
 bx:Bx wr w.heap.size 37 NB
 ob:∃(A:Nat→Option Addr) (c:Nat→Nat),Ob wr (w.heap.size+1) m (λj f=>if j<i then (if f=0 then .slice (A j) 1 (c j) else .int .i64 0) else zT[f]!)∧∀j,j<i→Nds wr (A j) [leafN]
 bl:Below w.heap.size w wr
theorem LvI.step {w wr w':World}{m i:Nat}{NB:List Value}{A':Option Addr}{c':Nat}(h:LvI w m i NB wr)(hb:Below wr.heap.size wr w')(hN:Nds w' A' [leafN]):LvI w m (i+1) NB ((w'.setCell ⟨w.heap.size+1,i*2,none⟩ (.slice A' 1 c')).setCell ⟨w.heap.size+1,i*2+1,none⟩ (.int .i64 0)):=by
 obtain⟨A,c,hO,hNs⟩:=h.ob
 have hO2:Ob w' (w.heap.size+1) m _:=hO.same (hb.block _ hO.lt)
 have hlt:=hO2.lt
 have h1:=hO2.set_ i 0 (by decide) (.slice A' 1 c')
 rw[Nat.add_zero]at h1
 have h2:=h1.set_ i 1 (by decide) (.int .i64 0)
 have hk:∀(b2:Nat),b2≠w.heap.size+1→((w'.setCell ⟨w.heap.size+1,i*2,none⟩ (.slice A' 1 c')).setCell ⟨w.heap.size+1,i*2+1,none⟩ (.int .i64 0)).heap[b2]?=w'.heap[b2]?:=λb2 hb2=>by
  rw[heap_setCell_other _ _ b2 _ hb2,heap_setCell_other _ _ b2 _ hb2]
 have hsz:((w'.setCell ⟨w.heap.size+1,i*2,none⟩ (.slice A' 1 c')).setCell ⟨w.heap.size+1,i*2+1,none⟩ (.int .i64 0)).heap.size=w'.heap.size:=by
  rw[World.size_setCell,World.size_setCell]
 have hnk:∀ {B:Option Addr} {l:List Tr.Nd},Nds w' B l→l=[leafN]→Nds ((w'.setCell ⟨w.heap.size+1,i*2,none⟩ (.slice A' 1 c')).setCell ⟨w.heap.size+1,i*2+1,none⟩ (.int .i64 0)) B l:=λ{B l} hB hl h0=>by
  subst hl
  obtain⟨b2,off,e,hl2,hc⟩:=hB h0
  have hne:b2≠w.heap.size+1:=λe2=>by
   obtain⟨K,c2,q0,_⟩:=hc 0 (by decide)
   rw[Nat.zero_mul,Nat.add_zero]at q0
   rw[e2]at q0
   have q1:=(cell_of_row w' _ off _ 25 (0,0) hO2).symm.trans q0
   by_cases ho:off<m*2
   ·have q2:=mkT_get (n:=m) (m:=λj f=>if j<i then (if f=0 then .slice (A j) 1 (c j) else .int .i64 0) else zT[f]!) (j:=off / 2) (f:=off % 2) (by omega) (by omega)
    rw[show off / 2*2+off % 2=off by omega,q1]at q2
    injection q2 with q2
    have h3:off % 2=0∨off % 2=1:=by omega
    rcases h3 with e3 |e3<;>rw[e3]at q2
    ·split at q2
     ·cases q2
     ·cases q2
    ·split at q2
     ·injection q2 with _ q2;exact absurd q2 (by decide)
     ·injection q2 with _ q2;exact absurd q2 (by decide)
   ·rw[Array.getElem?_eq_none (by rw[mkT_size];omega)]at q1;cases q1
  refine⟨b2,off,e,by rw[hsz];exact hl2,λj hj =>?_⟩
  obtain⟨K,c2,q0,q1,q2,q3,q4,q5⟩:=hc j hj
  have hcell:∀o,((w'.setCell ⟨w.heap.size+1,i*2,none⟩ (.slice A' 1 c')).setCell ⟨w.heap.size+1,i*2+1,none⟩ (.int .i64 0)).cell? ⟨b2,o,none⟩=w'.cell? ⟨b2,o,none⟩:=λo=>Tr.cell_same (hk b2 hne) o
  refine⟨K,c2,(hcell _).trans q0,(hcell _).trans q1,(hcell _).trans q2,(hcell _).trans q3,(hcell _).trans q4,λh1 =>?_⟩
  obtain rfl:j=0:=by simp at hj;omega
  exact absurd h1 (by simp[leafN])
 refine⟨(hk _ (by omega)).trans ((hb.block _ (Array.getElem?_eq_some_iff.1 h.bx).1).trans h.bx),⟨λj=>if j=i then A' else A j,λj=>if j=i then c' else c j,h2.congr λj f hj hf =>?_,λj hj =>?_⟩,?_⟩
 ·by_cases e:j=i
  ·subst e
   have:f=0∨f=1:=by omega
   rcases this with e |e<;>subst e<;>simp
  ·have e2:(j<i+1)↔(j<i):=by omega
   simp[e,e2]
 ·by_cases e:j=i
  ·subst e
   simp only[if_true]
   exact hnk hN rfl
  ·simp only[e,if_false]
   exact hnk ((hNs j (by omega)).below hb) rfl
 ·have hsz2:=h.bl.size
  have hsz3:=hb.size
  exact⟨hb.os.trans h.bl.os,hb.tape.trans h.bl.tape,hb.output.trans h.bl.output,by rw[hsz];omega,λb2 hb2=>(hk b2 (by omega)).trans ((hb.block b2 (by omega)).trans (h.bl.block b2 hb2))⟩
end
section
open Tr (Bx heap1 bt Nds Ints BPost IPost VPost Snd rgB dpt ovL ovA Trs mvN)
def upT (l:List Tr.Nd)(k:Nat):Nat→List Tr.Nd
 |0=>l
 |1=>ovL 15 0 0 ⟨#[]⟩ [(l,(k:Int))]
 |2=>ovL 6 0 0 ⟨#[]⟩ [(ovL 15 0 0 ⟨#[]⟩ [(l,(k:Int))],((k+1:Nat):Int))]
 |3=>ovL 3 0 0 ⟨#[102]⟩ [(ovL 6 0 0 ⟨#[]⟩ [(ovL 15 0 0 ⟨#[]⟩ [(l,(k:Int))],((k+1:Nat):Int))],((k+2:Nat):Int))]
 |_=>ovL 1 0 0 ⟨#[]⟩ [(ovL 3 0 0 ⟨#[102]⟩ [(ovL 6 0 0 ⟨#[]⟩ [(ovL 15 0 0 ⟨#[]⟩ [(l,(k:Int))],((k+1:Nat):Int))],((k+2:Nat):Int))],((k+3:Nat):Int))]
def upV:List Value:=[.int .i64 15,.int .i64 0,.int .i64 0,.string ⟨#[]⟩,.slice none 0 0,.int .i64 6,.int .i64 0,.int .i64 0,.string ⟨#[]⟩,.slice none 0 0,.int .i64 3,.int .i64 0,.int .i64 0,.string ⟨#[102]⟩,.slice none 0 0,.int .i64 1,.int .i64 0,.int .i64 0,.string ⟨#[]⟩,.slice none 0 0]
structure UpI (w:World) (l:List Tr.Nd) (k j gT:Nat) (wr:World):Prop where
 bn:Bx wr (gT+1) 37 upV
 bt:∃A c,Bx wr gT 25 [.slice A (upT l k j).length c,.int .i64 ((k+j:Nat):Int)]∧Tr.NdsE gT wr A (upT l k j)
 bl:Below w.heap.size w wr
 gt:w.heap.size≤gT
theorem UpI.step {w wr w2 w3:World}{l:List Tr.Nd}{k j gT:Nat}{A':Option Addr}{c':Nat}{x:Int}(h:UpI w l k j gT wr)(hb2:Below wr.heap.size wr w2)(hb3:Below w2.heap.size w2 w3)(hN:Tr.NdsL w2.heap.size w3 A' (upT l k (j+1)))(hx:x=((k+(j+1):Nat):Int)) :
  UpI w l k (j+1) gT ((w3.setCell ⟨gT,0,none⟩ (.slice A' (upT l k (j+1)).length c')).setCell ⟨gT,1,none⟩ (.int .i64 x)):=by
 obtain⟨A,c,hB,_⟩:=h.bt
 have hlt:gT<wr.heap.size:=(Array.getElem?_eq_some_iff.1 hB).1
 have hlt2:gT+1<wr.heap.size:=(Array.getElem?_eq_some_iff.1 h.bn).1
 have hs2:=hb2.size
 have hs3:=hb3.size
 have hk:∀(b2:Nat),b2≠gT→((w3.setCell ⟨gT,0,none⟩ (.slice A' (upT l k (j+1)).length c')).setCell ⟨gT,1,none⟩ (.int .i64 x)).heap[b2]?=w3.heap[b2]?:=λb2 hb2=>by
  rw[heap_setCell_other _ _ b2 _ hb2,heap_setCell_other _ _ b2 _ hb2]
 have hsz:((w3.setCell ⟨gT,0,none⟩ (.slice A' (upT l k (j+1)).length c')).setCell ⟨gT,1,none⟩ (.int .i64 x)).heap.size=w3.heap.size:=by
  rw[World.size_setCell,World.size_setCell]
 have hB3:=(hB.below hb2 hlt).below hb3 (by omega)
 subst hx
 refine⟨(hk _ (by omega)).trans ((h.bn.below hb2 hlt2).below hb3 (by omega)),⟨A',c',?_,(hN.ne (by omega)).keep (by rw[hsz];exact Nat.le_refl _) λb _ hne=>hk b hne⟩,?_,h.gt⟩
 ·have h1:=(hB3.set_ 0 (.slice A' (upT l k (j+1)).length c')).set_ 1 (.int .i64 ((k+(j+1):Nat):Int))
  exact h1
 ·have hsz2:=h.bl.size
  have hg:=h.gt
  exact⟨hb3.os.trans (hb2.os.trans h.bl.os),hb3.tape.trans (hb2.tape.trans h.bl.tape),hb3.output.trans (hb2.output.trans h.bl.output),by rw[hsz];omega,λb2 hb=>(hk b2 (by omega)).trans ((hb3.block b2 (by omega)).trans ((hb2.block b2 (by omega)).trans (h.bl.block b2 hb)))⟩
end
section
open Tr (Bx heap1 bt Nds Ints BPost IPost VPost Snd rgB dpt sndB)
end
section
open Tr (Bx heap1 bt Nds Ints BPost IPost VPost Snd rgB dpt)
end
section
set_option maxHeartbeats 1500000
set_option maxRecDepth 100000
open Tr (Bx heap1 bt gen_world ret_int ret_bool cell_same)
def AnsIs (a:Ans)(B:Nat)(w:World)(A:Option Addr)(n c:Nat)(r m p er:Int):Prop:=match a with
 | .bad p0 e0=>A=none∧n=0∧c=0∧r=0∧m=0∧p=(p0:Int)∧er=(e0:Int)
 | .good nd nest=>n=nd.length∧r=(nd.length:Int)-1∧m=(nest:Int)∧p=0∧er=0∧NdsB B w A (nd.map cvN)
theorem AnsIs.fr {a:Ans}{B:Nat}{E:Nat→Prop}{w w':World}{A:Option Addr}{n c:Nat}{r m p er:Int}(h:AnsIs a B w A n c r m p er)(k:Fr E w w')(hE:∀b,E b→b<B):AnsIs a B w' A n c r m p er:=by
 unfold AnsIs at *
 cases a with
 |bad p0 e0=>exact h
 |good nd nest=>exact⟨h.1,h.2.1,h.2.2.1,h.2.2.2.1,h.2.2.2.2.1,h.2.2.2.2.2.fr k hE⟩
theorem AnsIs.mono {a:Ans}{B B':Nat}{w:World}{A:Option Addr}{n c:Nat}{r m p er:Int}(h:AnsIs a B w A n c r m p er)(hB:B'≤B):AnsIs a B' w A n c r m p er:=by
 unfold AnsIs at *
 cases a with
 |bad p0 e0=>exact h
 |good nd nest=>exact⟨h.1,h.2.1,h.2.2.1,h.2.2.2.1,h.2.2.2.2.1,h.2.2.2.2.2.mono hB⟩
def ReadG (a:Ans)(w:World)(e:Ending)(w':World):Prop:=∃A n c r m p er,e = .returned (.agg #[.slice A n c,.int .i64 r,.int .i64 m,.int .i64 p,.int .i64 er])∧Below w.heap.size w w'∧AnsIs a w.heap.size w' A n c r m p er
theorem ReadPost.g {a:Ans}{w w':World}{e:Ending}(h:ReadPost a w e w'):ReadG a w e w':=by
 obtain⟨hb,h⟩:=h
 cases a with
 |bad p0 e0=>exact⟨none,0,0,0,0,_,_,h,hb,rfl,rfl,rfl,rfl,rfl,rfl,rfl⟩
 |good nd nest=>
  obtain⟨A,c,he,hN⟩:=h
  exact⟨A,_,c,_,_,_,_,he,hb,rfl,rfl,rfl,rfl,rfl,hN⟩
def TreePost (a:Ans)(w:World)(e:Ending)(w':World):Prop:=∃A n c r m p er,e = .returned (.tuple #[.agg #[.slice A n c,.int .i64 r],.int .i64 p,.int .i64 er])∧Below w.heap.size w w'∧AnsIs a w.heap.size w' A n c r m p er
theorem run_field51_0 (b:Nat)(w:World):(Instr.fieldAt 56 (.pointer (some ⟨b,0,none⟩)) 0).run Tryz.prog w = .ok (.pointer (some ⟨b,0,none⟩)) w:=by kernel_rfl
theorem run_field51_2 (b:Nat)(w:World):(Instr.fieldAt 56 (.pointer (some ⟨b,0,none⟩)) 2).run Tryz.prog w = .ok (.pointer (some ⟨b,3,none⟩)) w:=by kernel_rfl
theorem run_field49_0 (b:Nat)(w:World):(Instr.fieldAt 54 (.pointer (some ⟨b,3,none⟩)) 0).run Tryz.prog w = .ok (.pointer (some ⟨b,3,none⟩)) w:=by kernel_rfl
theorem run_field49_1 (b:Nat)(w:World):(Instr.fieldAt 54 (.pointer (some ⟨b,3,none⟩)) 1).run Tryz.prog w = .ok (.pointer (some ⟨b,4,none⟩)) w:=by kernel_rfl
theorem run_load26 {w:World}{ad:Addr}{n:Int}(h:w.cell? ad=some (.int .i64 n)):(Instr.loadAt 26 (.pointer (some ad))).run Tryz.prog w = .ok (.int .i64 n) w:=by simp[go_sem,h]
theorem run_load25 {w:World}{b:Nat}{n c:Nat}{A:Option Addr}{r:Int}(h0:w.cell? ⟨b,0,none⟩=some (.slice A n c))(h1:w.cell? ⟨b,1,none⟩=some (.int .i64 r)):(Instr.loadAt 25 (.pointer (some ⟨b,0,none⟩))).run Tryz.prog w = .ok (.agg #[.slice A n c,.int .i64 r]) w:=by simp[go_sem,h0,h1]
theorem program_any (s:ByteArray)(w:World)(hE:Tk.Errs w)(hs:s.size≤20000):Calls Tryz.prog 16 #[.string s] w (TreePost (ansOf progR s.data.toList) w):=by
 have hb0:Below w.heap.size w (w.alloc (.cells #[.slice none 0 0,.int .i64 0] 25)):=heap1 _ _
 have HC:=Lib.hid ((read22 s _ (hE.below hb0) hs).mono λ_ _ q=>q.g)
 generalize ansOf progR s.data.toList=a at *
 clear hE hs
 go_enter Tryz.func16,Tryz.ntmps16
 go_wp2_with (go_at_call 54;refine HC.out.mono ?_)
 rintro e w1 ⟨A,n,c,r,m,p,er,rfl,hb1,hA⟩
 obtain⟨W4,hW4⟩:∃W4,w1.alloc (.cells #[.slice A n c,.int .i64 r,.int .i64 m,.int .i64 p,.int .i64 er] 56)=W4:=⟨_,rfl⟩
 have hb4:Below w1.heap.size w1 W4:=by rw[← hW4];exact heap1 _ _
 have hR4:Bx W4 w1.heap.size 56 [.slice A n c,.int .i64 r,.int .i64 m,.int .i64 p,.int .i64 er]:=by rw[← hW4];exact Bx.new w1 56 _
 have hT1:=(Bx.new w 25 [.slice none 0 0,.int .i64 0]).below hb1 (Bx.new w 25 _).lt
 have hT4:=hT1.below hb4 hT1.lt
 have hA4:=(hA.mono (B':=w.heap.size+1) (by rw[World.size_alloc];exact Nat.le_refl _)).fr (E:=λ_=>False) (Fr.of hb4) (λ_ q=>q.elim)
 have HX:=Lib.hid (And.intro (bt (bt hb0 hb1) hb4) (And.intro hR4 (And.intro hT4 (And.intro hA4 hT1.lt))))
 have HW4:=Lib.hid hW4
 clear hb1 hA hb4 hR4 hT1 hT4 hA4 hW4 hb0
 go_upto_region 2 with(fail)
 rw[HW4.out]
 obtain⟨hb4,hR4,hT4,hA4,hlt⟩:=HX.out
 obtain⟨W5,hW5⟩:∃W5:World,{ W4 with drawn:=W4.drawn+1 }=W5:=⟨_,rfl⟩
 have hT5:Bx W5 w.heap.size 25 [.slice none 0 0,.int .i64 0]:=by rw[← hW5];exact hT4
 have hS:Bx W5 w1.heap.size 56 [.slice A n c,.int .i64 r,.int .i64 m,.int .i64 p,.int .i64 er]∧∃u0 u1,Bx W5 w.heap.size 25 [u0,u1]:=⟨by rw[← hW5];exact hR4,_,_,hT5⟩
 have hb5:Below w.heap.size w W5:=by rw[← hW5];exact bdrew hb4
 have hA5:AnsIs a (w.heap.size+1) W5 A n c r m p er:=by rw[← hW5];exact hA4.fr (E:=λ_=>False) (Fr.of (bdrew (Below.refl _ _))) (λ_ q=>q.elim)
 have hne:w1.heap.size≠w.heap.size:=by omega
 refine wp_region_held (S:=λw'=>Bx w' w1.heap.size 56 [.slice A n c,.int .i64 r,.int .i64 m,.int .i64 p,.int .i64 er]∧∃u0 u1,Bx w' w.heap.size 25 [u0,u1]) (by kernel_rfl) ?_
 rw[hW5]
 clear hW5 hb4 hR4 hT4 hA4 HX HW4 HC
 refine hpu 0 (.pointer (some ⟨w1.heap.size,0,none⟩)) (by kernel_rfl) rfl rfl (λ_ _ _ h=>h) rfl (y_field rfl rfl (run_field51_0 _)) hS ?_
 simp only[ap]
 refine hpu 1 (.agg #[.slice A n c,.int .i64 r]) (by kernel_rfl) rfl rfl (λ_ _ _ h=>h) rfl (y_load rfl rfl (λw' q=>run_load25 ((q.1.cell 0).trans rfl) ((q.1.cell 1).trans rfl))) hS ?_
 simp only[ap]
 refine hpu 2 (.pointer (some ⟨w1.heap.size,3,none⟩)) (by kernel_rfl) rfl rfl (λ_ _ _ h=>h) rfl (y_field rfl rfl (run_field51_2 _)) hS ?_
 simp only[ap]
 refine hpu 3 (.pointer (some ⟨w1.heap.size,3,none⟩)) (by kernel_rfl) rfl rfl (λ_ _ _ h=>h) rfl (y_field rfl rfl (run_field49_0 _)) hS ?_
 simp only[ap]
 refine hpu 4 (.int .i64 p) (by kernel_rfl) rfl rfl (λ_ _ _ h=>h) rfl (y_load rfl rfl (λw' q=>run_load3 ((q.1.cell 3).trans rfl))) hS ?_
 simp only[ap]
 refine hpu 5 (.pointer (some ⟨w1.heap.size,3,none⟩)) (by kernel_rfl) rfl rfl (λ_ _ _ h=>h) rfl (y_field rfl rfl (run_field51_2 _)) hS ?_
 simp only[ap]
 refine hpu 6 (.pointer (some ⟨w1.heap.size,4,none⟩)) (by kernel_rfl) rfl rfl (λ_ _ _ h=>h) rfl (y_field rfl rfl (run_field49_1 _)) hS ?_
 simp only[ap]
 refine hpu 7 (.int .i64 er) (by kernel_rfl) rfl rfl (λ_ _ _ h=>h) rfl (y_load rfl rfl (λw' q=>run_load26 ((q.1.cell 4).trans rfl))) hS ?_
 simp only[ap]
 have hT6:=(hT5.set_ 0 (.slice A n c)).set_ 1 (.int .i64 r)
 simp only[List.set_cons_zero,List.set_cons_succ]at hT6
 have hS6:=(hS.1.far (p:=⟨w.heap.size,0,none⟩) hne (.slice A n c)).far (p:=⟨w.heap.size,1,none⟩) hne (.int .i64 r)
 have hF6:Fr (λb=>b=w.heap.size) W5 ((W5.setCell ⟨w.heap.size,0,none⟩ (.slice A n c)).setCell ⟨w.heap.size,1,none⟩ (.int .i64 r)):=(Fr.set (E:=λb=>b=w.heap.size) (Fr.refl _ _) rfl _).set rfl _
 have hb6:=(hb5.setCell (p:=⟨w.heap.size,0,none⟩) (Nat.le_refl _) (.slice A n c)).setCell (p:=⟨w.heap.size,1,none⟩) (Nat.le_refl _) (.int .i64 r)
 refine h_one 8 ({ dst:=none,op:=Op.store 25 (Operand.tmp 2) (Operand.tmp 9),type:=0,pos := "parse.go:13",after := #[{ on:=1,ground:=Ground.data },{ on:=0,ground:=Ground.phase },{ on:=1,ground:=Ground.phase },{ on:=2,ground:=Ground.textOnly Departure.lateStores },{ on:=3,ground:=Ground.textOnly Departure.lateStores },{ on:=4,ground:=Ground.textOnly Departure.lateStores },{ on:=5,ground:=Ground.textOnly Departure.lateStores },{ on:=6,ground:=Ground.textOnly Departure.lateStores },{ on:=7,ground:=Ground.textOnly Departure.lateStores }],guard:=none }:Oper) rfl (by kernel_rfl) rfl (store25 rfl rfl rfl hT5 ⟨⟨hS6,_,_,hT6⟩,?_⟩)
 simp only[Act.put]
 have hS9:Bx ((W5.setCell ⟨w.heap.size,0,none⟩ (.slice A n c)).setCell ⟨w.heap.size,1,none⟩ (.int .i64 r)) w1.heap.size 56 [.slice A n c,.int .i64 r,.int .i64 m,.int .i64 p,.int .i64 er]∧∃u0 u1,Bx ((W5.setCell ⟨w.heap.size,0,none⟩ (.slice A n c)).setCell ⟨w.heap.size,1,none⟩ (.int .i64 r)) w.heap.size 25 [u0,u1]:=⟨hS6,_,_,hT6⟩
 refine hpu 9 (.int .i64 p) (by kernel_rfl) rfl rfl (λ_ _ _ h=>h) rfl (y_assign rfl rfl) hS9 ?_
 simp only[ap]
 refine hpu 10 (.int .i64 er) (by kernel_rfl) rfl rfl (λ_ _ _ h=>h) rfl (y_assign rfl rfl) hS9 ?_
 simp only[ap]
 refine wpAnyH_done (by kernel_rfl) ?_ _
 have hA6:=(hA5.fr hF6 (λb q=>by omega)).mono (B':=w.heap.size) (by omega)
 have z0:=(hT6.cell 0).trans rfl
 have z1:=(hT6.cell 1).trans rfl
 generalize (W5.setCell ⟨w.heap.size,0,none⟩ (.slice A n c)).setCell ⟨w.heap.size,1,none⟩ (.int .i64 r)=W6 at *
 have HE:=Lib.hid (And.intro hb6 hA6)
 clear hb6 hA6 hT6 hS6 hS9 hF6 hS hT5 hA5 hb5 hne hlt
 go_wp2
 exact bodyPost_ret (v :=.tuple #[.agg #[.slice A n c,.int .i64 r],.int .i64 p,.int .i64 er]) (by simp[results,Tryz.f16,go_sem,z0,z1]) rfl ⟨A,n,c,r,m,p,er,rfl,HE.out.1,HE.out.2⟩
end
section
open Tr (Bx heap1 bt gen_world ret_int ret_bool cell_same)
end
section
open Tr (Bx heap1 bt gen_world ret_int ret_bool cell_same)
def tx2:List UInt8:=[40,49]
theorem ansOf_ok {R:List Tok→Rs}{l:List UInt8}{ts:List Tk.Tok}{v:List Int}{s:St}(h1:Tk.cutR l 0 = .ok ts)(h2:R (ts.map cvT) = .ok v s):ansOf R l=if 4000<s.nd.length then .bad 0 8 else if 40<Tr.dpt (s.nd.map cvN) ((s.nd.length:Int)-1) then .bad 0 6 else .good s.nd s.mo:=by
 unfold ansOf;rw[h1];show(match R (ts.map cvT) with| .out=>Ans.bad 0 0 | .no p e =>.bad p e | .ok _ s=>if 4000<s.nd.length then .bad 0 8 else if 40<Tr.dpt (s.nd.map cvN) ((s.nd.length:Int)-1) then .bad 0 6 else .good s.nd s.mo)=_;rw[h2]
end
section
section
inductive Wd where
 |nil
 |snoc (f:Wd) (kd n pl:Int) (tx:List UInt8) (ks:Wd)
def Wd.sz:Wd→Nat
 | .nil=>0
 | .snoc f _ _ _ _ ks=>f.sz+ks.sz+1
def Wd.rt (o:Nat):Wd→List Int
 | .nil=>[]
 | .snoc f _ _ _ _ ks=>f.rt o++[((o+f.sz+ks.sz:Nat):Int)]
def Wd.fl (o:Nat):Wd→List Nd
 | .nil=>[]
 | .snoc f kd n pl tx ks=>f.fl o++(ks.fl (o+f.sz)++[⟨kd,n,pl,tx,ks.rt (o+f.sz)⟩])
def Wd.kds:Wd→List Int
 | .nil=>[]
 | .snoc f kd _ _ _ _=>f.kds++[kd]
def Wd.all (P:Int→Int→Int→List UInt8→List Int→Prop):Wd→Prop
 | .nil=>True
 | .snoc f kd n pl tx ks=>f.all P∧ks.all P∧P kd n pl tx ks.kds
theorem Wd.fl_len:∀(f:Wd) (o:Nat),(f.fl o).length=f.sz
 | .nil,_=>rfl
 | .snoc f kd n pl tx ks,o=>by
  simp only[Wd.fl,Wd.sz,List.length_append,List.length_singleton,f.fl_len,ks.fl_len];omega
section
variable (P:Int→Int→Int→List UInt8→List Int→Prop)
def At (n0:List Nd)(s:St)(f:Wd)(v:List Int):Prop:=s.nd=n0++f.fl n0.length∧v=f.rt n0.length∧f.all P
def Rw0 (n0:List Nd)(C:List Int→Prop)(r:Rs):Prop:=∀v s',r = .ok v s'→∃g,At P n0 s' g v∧C g.kds
def Qt (s:St)(r:Rs):Prop:=∀v s',r = .ok v s'→v=[]∧s'.nd=s.nd
end
section
variable {P:Int→Int→Int→List UInt8→List Int→Prop}
theorem At.nil (s:St):At P s.nd s .nil []:=⟨by simp[Wd.fl],rfl,True.intro⟩
theorem At.len {n0:List Nd}{s:St}{f:Wd}{v:List Int}(h:At P n0 s f v):s.nd.length=n0.length+f.sz:=by rw[h.1,List.length_append,f.fl_len]
theorem At.to {n0:List Nd}{s s':St}{f:Wd}{v:List Int}(h:At P n0 s f v)(e:s'.nd=s.nd):At P n0 s' f v:=⟨e.trans h.1,h.2⟩
theorem Rw0.bind {n0 n1:List Nd}{C D:List Int→Prop}{r:Rs}{k:List Int→St→Rs}(h:Rw0 P n0 C r)(q:∀v s' g,At P n0 s' g v→C g.kds→Rw0 P n1 D (k v s')):Rw0 P n1 D (r.bind k):=by
 intro v s' e
 obtain⟨v1,s1,e1,e2⟩:=Rs.bind_ok e
 obtain⟨g,a,c⟩:=h v1 s1 e1
 exact q v1 s1 g a c v s' e2
theorem Qt.bind {n1:List Nd}{D:List Int→Prop}{s:St}{r:Rs}{k:List Int→St→Rs}(h:Qt s r)(q:∀s',s'.nd=s.nd→Rw0 P n1 D (k [] s')):Rw0 P n1 D (r.bind k):=by
 intro v s' e
 obtain⟨v1,s1,e1,e2⟩:=Rs.bind_ok e
 obtain⟨rfl,e3⟩:=h v1 s1 e1
 exact q s1 e3 v s' e2
theorem Rw0.no {n0:List Nd}{C:List Int→Prop}(p e:Nat):Rw0 P n0 C (.no p e):=λ_ _ h=>by cases h
theorem Rw0.ok {n0:List Nd}{C:List Int→Prop}{v:List Int}{s:St}{f:Wd}(h:At P n0 s f v)(c:C f.kds):Rw0 P n0 C (.ok v s):=λv' s' e=>by cases e;exact⟨f,h,c⟩
theorem Rw0.imp {n0:List Nd}{C D:List Int→Prop}{r:Rs}(h:Rw0 P n0 C r)(q:∀l,C l→D l):Rw0 P n0 D r:=λv s e=>by
 obtain⟨g,a,c⟩:=h v s e;exact⟨g,a,q _ c⟩
theorem Rw0.at {n0 n1:List Nd}{C:List Int→Prop}{r:Rs}(h:Rw0 P n0 C r)(e:n0=n1):Rw0 P n1 C r:=e▸h
end
end
section
open Tr (idB txB numB kidB expB stmB allB sgB risB run1 ri1 ri2)
def Pk (ts:List Tok)(kd n pl:Int)(tx:List UInt8)(kds:List Int):Prop:=
 1≤kd∧kd≤27∧txB kd tx=true∧(numB kd n=true∧n≤9223372036854775807)∧kidB kd kds=true∧∃t ∈ ts,(t.p:Int)=pl
def TkF (ts:List Tok):Prop:=∀t ∈ ts,(t.k=1→idB t.s=true)∧(t.k=2→0≤t.n∧t.n≤9223372036854775807)
def E1 (l:List Int):Prop:=∃e,l=[e]∧expB e=true
def S1 (l:List Int):Prop:=∃e,l=[e]∧stmB e=true
section
variable {ts:List Tok}
abbrev Rw1 (ts:List Tok):=Rw0 (Pk ts)
variable {n1:List Nd} {D:List Int→Prop} {s:St} {k:List Int→St→Rs}
end
structure RecW (ts:List Tok) (rec:Job→St→Rs):Prop where
 una:∀s,Rw1 ts s.nd E1 (rec .una s)
 bin:∀r s,1≤r→Rw1 ts s.nd E1 (rec (.bin r) s)
 loop:∀r s n0 f l,1≤r→At (Pk ts) n0 s f l→E1 f.kds→Rw1 ts n0 E1 (rec (.loop r l) s)
 exprs:∀s n0 f a,At (Pk ts) n0 s f a→Rw1 ts n0 (λl=>∃es,l=f.kds++es∧es.all expB=true) (rec (.exprs a) s)
 stmt:∀s,Rw1 ts s.nd S1 (rec .stmt s)
 stmts:∀s n0 f a pl,At (Pk ts) n0 s f a→f.kds.all stmB=true→(∃t ∈ ts,(t.p:Int)=pl)→Rw1 ts n0 (· = [6]) (rec (.stmts pl a) s)
 vars:∀(j:Nat) s n0 f a,j=2∨j=5→At (Pk ts) n0 s f a→Rw1 ts n0 (λl=>∃m,l=f.kds++List.replicate m (j:Int)) (rec (.vars j a) s)
 params:∀s n0 f a,At (Pk ts) n0 s f a→Rw1 ts n0 (λl=>∃m,l=f.kds++List.replicate m 4) (rec (.params a) s)
 procs:∀s n0 f a,At (Pk ts) n0 s f a→Rw1 ts n0 (λl=>∃m,l=f.kds++List.replicate m 3) (rec (.procs a) s)
section
variable {ts:List Tok} {rec:Job→St→Rs} (hr:RecW ts rec) (hk:TkF ts)
theorem E1.all {l:List Int}(h:E1 l):l.length=1∧allB l=true:=by
 obtain⟨e,rfl,h⟩:=h;exact⟨rfl,by simp[allB,h]⟩
include hr
include hk
end
end
section
open Go
open Tr (txB numB kidB ndB shB rgB nth nth_eq Snd sndB)
structure PrR (ts:List Tok) (nd:List Nd):Prop where
 right:rgB (nd.map cvN) ((nd.length:Int)-1)=true
 pos:1≤nd.length
 few:nd.length≤4000
 kids:∀x ∈ nd.map cvN,x.ks.length≤4000
 text:∀x ∈ nd.map cvN,x.tx.size≤281474976710656
 num:∀x ∈ nd.map cvN,x.n≤9223372036854775807
 at_:∀i (hi:i<nd.length),i+1<nd.length→∃t ∈ ts,(t.p:Int)=nd[i].pl
end
end
section
open Go
open Tr (idB txB numB kidB expB stmB allB ndB shB nth Snd dpt)
structure ExR (nd:List Nd):Prop where
 ok:ExOk (nd.map cvN) ((nd.length:Int)-1)
 pos:1≤nd.length
 few:nd.length≤4000
 kids:∀x ∈ nd.map cvN,x.ks.length≤2
 text:∀x ∈ nd.map cvN,x.tx.size≤20
 num:∀x ∈ nd.map cvN,x.n≤9223372036854775807
end
section
open Tr (Bx heap1 bt gen_world ret_int ret_bool cell_same)
def GPost (nd:List Nd)(w:World)(e:Ending)(w':World):Prop:=∃A c,e = .returned (.tuple #[.agg #[.slice A nd.length c,.int .i64 ((nd.length:Int)-1)],.int .i64 0,.int .i64 0])∧Below w.heap.size w w'∧NdsB w.heap.size w' A (nd.map cvN)
theorem tree_good {a:Ans}{nd:List Nd}{k:Nat}{w:World}{en:Ending}{w':World}(h:TreePost a w en w')(ha:a = .good nd k):GPost nd w en w':=by
 subst ha
 obtain⟨A,n,c,r,m,q,er,rfl,hb,rfl,rfl,rfl,rfl,rfl,hN⟩:=h
 exact⟨A,c,rfl,hb,hN⟩
end
section
open Tr (Bx heap1 bt Nds VPost)
end
section
open Tr (Bx heap1 bt Nds VPost Snd dpt)
end
section
open Tr (Bx heap1 bt Nds VPost IPost Snd dpt)
end
section
open Tr (Bx heap1 bt Nds VPost Snd dpt ovL ovA)
theorem run_field25_0 (b:Nat)(w:World):(Instr.fieldAt 25 (.pointer (some ⟨b,0,none⟩)) 0).run Tryz.prog w = .ok (.pointer (some ⟨b,0,none⟩)) w:=by kernel_rfl
theorem y_pickF {S:World→Prop}{a:Act}{o:Oper}{c x y:Operand}{v:Value}(ho:o.op = .pick c x y)(hc:a.eval c = .bool false)(hy:a.eval y=v):∀w,S w→(execOp a.eval o).run Tryz.prog w = .ok (.value v) w:=λw _=>by unfold execOp;simp[ho,hc,hy,asBool]
structure OvR (x:List UInt8) (la lb:List Tr.Nd) (ra rb:Int) (lc:List Tr.Nd) (rc:Int):Prop where
 eq:lc=ovL 27 0 0 (bsX x) [(la,ra),(lb,rb)]
 len:lc.length=la.length+lb.length+1
 root:rc=((la.length+lb.length:Nat):Int)
 kids:∀y ∈ lc,y.ks.length≤2
 text:∀y ∈ lc,y.tx.size≤281474976710656
 num:∀y ∈ lc,y.n≤9223372036854775807
end
end Go.Proofs.YteecfjhjllajlaaGreatDoor
