/- PROVED: TrOv Yd Xu. No more condition. -/
import Derived.Test.YteecfjhjllajlaaGreatDoorI10
namespace Go.Proofs.YteecfjhjllajlaaGreatDoor
open Go Go.RowKit
namespace Tr
section
open Go
open Go Go.RowKit Go.Shelf
attribute [local go_sem] Oper.semAt_some
def mvN (d:Int)(x:Nd):Nd:=⟨x.kd,x.n,x.pl,x.tx,x.ks.map λk=>wrap64 (k+d)⟩
structure AN where
 nd:Nd
 b:Nat
def AN.cv (x:AN):List Value:=[.int .i64 x.nd.kd,.int .i64 x.nd.n,.int .i64 x.nd.pl,.string x.nd.tx,.slice (some ⟨x.b,0,none⟩) x.nd.ks.length x.nd.ks.length]
def fl (ls:List AN):List Value:=ls.flatMap AN.cv
theorem fl_len (ls:List AN):(fl ls).length=ls.length*5:=by
 induction ls with
 |nil=>rfl
 |cons x xs ih=>show(x.cv++fl xs).length=_;rw[List.length_append,ih,List.length_cons];show 5+_=_;omega
theorem fl_get:∀(ls:List AN) (j f:Nat) (hj:j<ls.length),f<5→(fl ls)[j*5+f]?=(ls[j].cv)[f]?
 | [],_,_,hj,_=>by cases hj
 |x :: xs,0,f,_,hf=>by
  show(x.cv++fl xs)[0*5+f]?=_
  rw[List.getElem?_append_left (by show _<5;omega)]
  simp
 |x :: xs,j+1,f,hj,hf=>by
  show(x.cv++fl xs)[(j+1)*5+f]?=_
  rw[List.getElem?_append_right (by show 5≤_;omega),show(j+1)*5+f-x.cv.length=j*5+f by show(j+1)*5+f-5=_;omega]
  exact fl_get xs j f (by simpa using hj) hf
def Al (base:Nat)(w:World)(ls:List AN):Prop:=∀x ∈ ls,base≤x.b∧Ib w x.b x.nd.ks.length (λi=>x.nd.ks.getD i 0)
theorem Al.keep {base:Nat}{w w':World}{ls:List AN}(h:Al base w ls)(hk:∀b,base≤b→∀n m,Ib w b n m→w'.heap[b]?=w.heap[b]?):Al base w' ls:=λx hx=>
 ⟨(h x hx).1,(h x hx).2.same (hk _ (h x hx).1 _ _ (h x hx).2)⟩
theorem Al.below {base:Nat}{w w':World}{ls:List AN}(h:Al base w ls)(hb:Below w.heap.size w w'):Al base w' ls:=h.keep λ_ _ _ _ hI=>hb.block _ hI.lt
theorem Al.grown {base:Nat}{w w':World}{row:Option Nat}{ls:List AN}(h:Al base w ls)(hg:w.grownBy w' row)(hr:∀g,row=some g→∃cs,w.heap[g]?=some (.cells cs 37 (0,0))):Al base w' ls:=h.keep λb _ n m hI=>by
 refine hg.block _ hI.lt λe =>?_
 obtain⟨cs,hc⟩:=hr b e.symm
 rw[show w.heap[b]?=_ from hI]at hc
 simp at hc
theorem Al.alloc {base:Nat}{w:World}{ls:List AN}(h:Al base w ls)(o:Obj):Al base (w.alloc o) ls:=h.below (heap1 _ _)
theorem Al.mono {base base':Nat}{w:World}{ls:List AN}(h:Al base w ls)(hb:base'≤base):Al base' w ls:=λx hx=>⟨Nat.le_trans hb (h x hx).1,(h x hx).2⟩
def mkN (n:Nat)(m:Nat→Nat→Value):Array Value:=Array.ofFn (n:=n*5) λi=>m (i / 5) (i % 5)
theorem mkN_size (n:Nat)(m:Nat→Nat→Value):(mkN n m).size=n*5:=by simp[mkN]
theorem mkN_get {n:Nat}{m:Nat→Nat→Value}{j f:Nat}(hj:j<n)(hf:f<5):(mkN n m)[j*5+f]?=some (m j f):=by
 have h:j*5+f<n*5:=by omega
 simp only[mkN,Array.getElem?_ofFn,h,dif_pos]
 rw[show(j*5+f) / 5=j by omega,show(j*5+f) % 5=f by omega]
theorem mkN_congr {n:Nat}{m m':Nat→Nat→Value}(h:∀j f,j<n→f<5→m j f=m' j f):mkN n m=mkN n m':=by
 unfold mkN;congr 1;funext i;exact h _ _ (by have:=i.2;omega) (by omega)
theorem mkN_set {n:Nat}{m:Nat→Nat→Value}{j f:Nat}{v:Value}(hf:f<5):(mkN n m).setIfInBounds (j*5+f) v=mkN n (λi g=>if i=j∧g=f then v else m i g):=by
 apply Array.ext_getElem?
 intro k
 rw[Array.getElem?_setIfInBounds]
 by_cases hk:k<n*5
 ·have e1:k=k / 5*5+k % 5:=by omega
  have h1:=mkN_get (m:=λi g=>if i=j∧g=f then v else m i g) (j:=k / 5) (f:=k % 5) (n:=n) (by omega) (by omega)
  have h2:=mkN_get (m:=m) (j:=k / 5) (f:=k % 5) (n:=n) (by omega) (by omega)
  rw[← e1]at h1 h2
  rw[h1,h2,mkN_size]
  by_cases e:j*5+f=k
  ·rw[if_pos e,if_pos (by omega),if_pos (by omega)]
  ·rw[if_neg e,if_neg (by omega)]
 ·rw[Array.getElem?_eq_none (by rw[mkN_size];omega),Array.getElem?_eq_none (by rw[mkN_size];omega),mkN_size]
  split
  ·rw[if_neg (by omega)]
  ·rfl
def Nb (w:World)(g n:Nat)(m:Nat→Nat→Value):Prop:=w.heap[g]?=some (.cells (mkN n m) 37 (0,0))
section
variable {w w':World} {g n:Nat} {m:Nat→Nat→Value}
theorem Nb.lt (h:Nb w g n m):g<w.heap.size:=(Array.getElem?_eq_some_iff.1 h).1
theorem Nb.cell (h:Nb w g n m){j f:Nat}(hj:j<n)(hf:f<5):w.cell? ⟨g,j*5+f,none⟩=some (m j f):=(cell_of_row w g _ _ 37 (0,0) h).trans (mkN_get hj hf)
theorem Nb.frozen (h:Nb w g n m)(i:Nat):w.frozen? ⟨g,i,none⟩=false:=frozen_of_row w g i _ 37 h
theorem Nb.set_ (h:Nb w g n m)(j f:Nat)(hf:f<5)(v:Value):Nb (w.setCell ⟨g,j*5+f,none⟩ v) g n (λi k=>if i=j∧k=f then v else m i k):=(heap_setCell_same w g _ _ 37 _ h).trans (by rw[mkN_set hf])
theorem Nb.far (h:Nb w g n m){p:Addr}(hp:g≠p.block)(u:Value):Nb (w.setCell p u) g n m:=(heap_setCell_other w p g u hp).trans h
theorem Nb.same (h:Nb w g n m)(hg:w'.heap[g]?=w.heap[g]?):Nb w' g n m:=hg.trans h
theorem Nb.grown {row:Option Nat}(h:Nb w g n m)(hb:w.grownBy w' row)(hg:some g≠row):Nb w' g n m:=(hb.block g h.lt hg).trans h
theorem Nb.alloc (h:Nb w g n m)(o:Obj):Nb (w.alloc o) g n m:=h.grown (World.grownBy_alloc w o none) (by simp)
theorem Nb.congr {m':Nat→Nat→Value}(h:Nb w g n m)(e:∀j f,j<n→f<5→m j f=m' j f):Nb w g n m':=by unfold Nb at *;rw[h,mkN_congr e]
end
theorem fl_range (n:Nat)(a:Nat→AN):(mkN n λj f=>((a j).cv)[f]!).toList=fl ((List.range n).map a):=by
 apply List.ext_getElem?
 intro k
 by_cases hk:k<n*5
 ·have e1:k=k / 5*5+k % 5:=by omega
  have h1:=mkN_get (m:=λj f=>((a j).cv)[f]!) (j:=k / 5) (f:=k % 5) (n:=n) (by omega) (by omega)
  have h2:=fl_get ((List.range n).map a) (k / 5) (k % 5) (by simp;omega) (by omega)
  rw[← e1]at h1 h2
  rw[h2,Array.getElem?_toList,h1]
  have h5:k % 5<((a (k / 5)).cv).length:=by show k % 5<5;omega
  simp[h5]
 ·rw[Array.getElem?_toList,Array.getElem?_eq_none (by rw[mkN_size];omega),List.getElem?_eq_none (by rw[fl_len];simp;omega)]
def mvA (d:Int)(l:List Nd)(g:Nat→Nat)(j:Nat):AN:=⟨mvN d (nth l j),g j⟩
structure MvI (d:Int) (l:List Nd) (n p:Nat) (g:Nat→Nat) (w wr:World):Prop where
 n:Nb wr w.heap.size n (λj f=>if j<p then ((mvA d l g j).cv)[f]! else zN[f]!)
 k:∀j,j<p→w.heap.size<g j∧Ib wr (g j) (mvA d l g j).nd.ks.length (λi=>(mvA d l g j).nd.ks.getD i 0)
 b:Below w.heap.size w wr
theorem MvI.step {d:Int}{l:List Nd}{n p:Nat}{g:Nat→Nat}{w wr W:World}(h:MvI d l n p g w wr)(h1:Below wr.heap.size wr W)(hz:w.heap.size<wr.heap.size){kb:Nat}(hkb:wr.heap.size≤kb)(hp:p<n)
  (hI:Ib W kb (nth l p).ks.length (λi=>(mvN d (nth l p)).ks.getD i 0)) (v0 v1 v2 v3 v4:Value) (hv:(AN.mk (mvN d (nth l p)) kb).cv=[v0,v1,v2,v3,v4]) :
  MvI d l n (p+1) (λj=>if j=p then kb else g j) w (((((W.setCell ⟨w.heap.size,p*5,none⟩ v0).setCell ⟨w.heap.size,p*5+1,none⟩ v1).setCell ⟨w.heap.size,p*5+2,none⟩ v2).setCell ⟨w.heap.size,p*5+3,none⟩ v3).setCell ⟨w.heap.size,p*5+4,none⟩ v4):=by
 have hN:Nb W w.heap.size n _:=h.n.same (h1.block _ hz)
 have hs:∀(k:Nat) (n':Nat) (m:Nat→Int) (W:World) (o:Nat) (v:Value),k≠w.heap.size→Ib W k n' m→Ib (W.setCell ⟨w.heap.size,o,none⟩ v) k n' m:=λk n' m W o v hk hI=>hI.far hk v
 have hb:∀(W:World) (o:Nat) (v:Value),Below w.heap.size w W→Below w.heap.size w (W.setCell ⟨w.heap.size,o,none⟩ v):=λW o v hW=>hW.setCell (p:=⟨w.heap.size,o,none⟩) (Nat.le_refl _) v
 refine⟨?_,?_,?_⟩
 ·refine(((((hN.set_ p 0 (by omega) v0).set_ p 1 (by omega) v1).set_ p 2 (by omega) v2).set_ p 3 (by omega) v3).set_ p 4 (by omega) v4).congr λj f hj hf =>?_
  by_cases e:j=p
  ·subst e
   have hm:mvA d l (λi=>if i=j then kb else g i) j=AN.mk (mvN d (nth l j)) kb:=by unfold mvA;dsimp only;rw[if_pos rfl]
   rw[if_pos (show j<j+1 by omega),hm,hv]
   match f,hf with
   |0,_=>simp
   |1,_=>simp
   |2,_=>simp
   |3,_=>simp
   |4,_=>simp
  ·simp only[e,false_and,if_false]
   by_cases e2:j<p
   ·have hm:mvA d l (λi=>if i=p then kb else g i) j=mvA d l g j:=by unfold mvA;dsimp only;rw[if_neg e]
    rw[if_pos e2,if_pos (by omega),hm]
   ·rw[if_neg e2,if_neg (by omega)]
 ·intro j hj
  by_cases e:j=p
  ·subst e
   have hm:mvA d l (λi=>if i=j then kb else g i) j=AN.mk (mvN d (nth l j)) kb:=by unfold mvA;dsimp only;rw[if_pos rfl]
   rw[hm,if_pos rfl]
   have hl:(AN.mk (mvN d (nth l j)) kb).nd.ks.length=(nth l j).ks.length:=by show(List.map _ _).length=_;simp
   rw[hl]
   have hne:kb≠w.heap.size:=by omega
   exact⟨by omega,hs _ _ _ _ _ _ hne (hs _ _ _ _ _ _ hne (hs _ _ _ _ _ _ hne (hs _ _ _ _ _ _ hne (hs _ _ _ _ _ _ hne hI))))⟩
  ·have hm:mvA d l (λi=>if i=p then kb else g i) j=mvA d l g j:=by unfold mvA;dsimp only;rw[if_neg e]
   obtain⟨h2,h3⟩:=h.k j (by omega)
   rw[hm,if_neg e]
   have hne:g j≠w.heap.size:=by omega
   have h3':=h3.below h1 h3.lt
   exact⟨h2,hs _ _ _ _ _ _ hne (hs _ _ _ _ _ _ hne (hs _ _ _ _ _ _ hne (hs _ _ _ _ _ _ hne (hs _ _ _ _ _ _ hne h3'))))⟩
 ·have hW:Below w.heap.size w W:=h.b.trans (h1.mono h.b.size)
  exact hb _ _ _ (hb _ _ _ (hb _ _ _ (hb _ _ _ (hb _ _ _ hW))))
def MvPost (d:Int)(l:List Nd)(n:Nat)(w:World)(e:Ending)(w':World):Prop:=∃ls,e = .returned (.slice (some ⟨w.heap.size,0,none⟩) n n)∧w'.ownsRow w.heap.size 37 5 (.slice (some ⟨w.heap.size,0,none⟩) n n) n (fl ls)∧ls.map AN.nd=l.map (mvN d)∧Al w.heap.size w' ls∧Below w.heap.size w w'
theorem MvI.post {d:Int}{l:List Nd}{n:Nat}{g:Nat→Nat}{w wr:World}(hn:n=l.length)(hl:n≤10000000)(h:MvI d l n n g w wr):MvPost d l n w (.returned (.slice (some ⟨w.heap.size,0,none⟩) n n)) wr:=by
 have h1:Nb wr w.heap.size n (λj f=>((mvA d l g j).cv)[f]!):=h.n.congr λj f hj _=>if_pos hj
 refine⟨(List.range n).map (mvA d l g),rfl,⟨by rw[fl_len];simp,.inr ⟨_,_,_,rfl,Nat.le_refl _,h1,Nat.le_refl _,by unfold maxLen;omega,mkN_size _ _,?_⟩⟩,?_,?_,h.b⟩
 ·rw[fl_range,List.take_of_length_le (by rw[fl_len];simp)]
 ·rw[List.map_map]
  apply List.ext_getElem
  ·simp[hn]
  ·intro i h2 h3
   have h4:i<l.length:=by simpa using h3
   rw[List.getElem_map,List.getElem_map,List.getElem_range]
   show mvN d (nth l i)=_
   rw[nth_eq h4]
 ·intro x hx
  obtain⟨j,hj,rfl⟩:=List.mem_map.1 hx
  obtain⟨h2,h3⟩:=h.k j (by simpa using hj)
  exact⟨Nat.le_of_lt h2,h3⟩
def TPost (l:List Nd)(r:Int)(w:World)(e:Ending)(w':World):Prop:=∃A c,e = .returned (.agg #[.slice A l.length c,.int .i64 r])∧Nds w' A l∧l.length≤c∧Below w.heap.size w w'
theorem own_set {base k i n:Nat}{e:TypeId}{size:Nat}{v u:Value}{xs:List Value}{w:World}(h:w.ownsRow base e size v n xs)(hk:k<base):(w.setCell ⟨k,i,none⟩ u).ownsRow base e size v n xs:=by
 refine⟨h.1,h.2.imp id ?_⟩
 rintro⟨g,cap,cur,h1,h2,h3,h4⟩
 exact⟨g,cap,cur,h1,h2,(heap_setCell_other w _ g _ (by show g≠k;omega)).trans h3,h4⟩
theorem al_set {base k i:Nat}{u:Value}{ls:List AN}{w:World}(h:Al base w ls)(hk:k<base):Al base (w.setCell ⟨k,i,none⟩ u) ls:=h.keep λb hb _ _ _=>heap_setCell_other w _ b _ (by show b≠k;omega)
abbrev Tr:=List Nd × Int
def Trs (w:World)(A:Option Addr)(ts:List Tr):Prop:=
 0<ts.length→∃b off,A=some ⟨b,off,none⟩∧b<w.heap.size∧∀j (hj:j<ts.length),∃K c,w.cell? ⟨b,off+j*2,none⟩=some (.slice K ts[j].1.length c)∧w.cell? ⟨b,off+j*2+1,none⟩=some (.int .i64 ts[j].2)∧Nds w K ts[j].1
theorem Trs.below {w w':World}{A:Option Addr}{ts:List Tr}(h:Trs w A ts)(hb:Below w.heap.size w w'):Trs w' A ts:=λh0=>by
 obtain⟨b,off,e,hl,hc⟩:=h h0
 refine⟨b,off,e,Nat.lt_of_lt_of_le hl hb.size,λj hj =>?_⟩
 obtain⟨K,c,c0,c1,hK⟩:=hc j hj
 exact⟨K,c,(hb.cell (p:=⟨b,off+j*2,none⟩) hl).trans c0,(hb.cell (p:=⟨b,off+j*2+1,none⟩) hl).trans c1,hK.below hb⟩
def ovA (ts:List Tr):List Nd:=ts.foldl (λacc t=>acc++t.1.map (mvN (acc.length:Int))) []
def rtF (ts:List Tr)(j:Nat):Int:=wrap64 (((ovA (ts.take j)).length:Int)+(ts.getD j ([],0)).2)
def rts (ts:List Tr):List Int:=(List.range ts.length).map (rtF ts)
def ovL (kd n pl:Int)(tx:ByteArray)(ts:List Tr):List Nd:=ovA ts++[⟨kd,n,pl,tx,rts ts⟩]
theorem own_slice {base n:Nat}{v:Value}{ls:List Value}{w:World}(h:w.ownsRow base 37 5 v n ls):∃A c,v = .slice A n c:=by
 rcases h.2 with⟨rfl,e⟩ |⟨g,cap,cur,rfl,_⟩
 ·exact⟨_,_,by rw[e]⟩
 ·exact⟨_,_,rfl⟩
theorem own_below {base n:Nat}{v:Value}{ls:List Value}{w w':World}(h:w.ownsRow base 37 5 v n ls)(hb:Below w.heap.size w w'):w'.ownsRow base 37 5 v n ls:=
 ⟨h.1,h.2.imp id λ⟨g,cap,cur,h1,h2,h3,h4⟩=>⟨g,cap,cur,h1,h2,(hb.block g (Array.getElem?_eq_some_iff.1 h3).1).trans h3,h4⟩⟩
structure OvI (w:World) (m:Nat) (nv:List Value) (ts:List Tr) (i:Nat) (v:Value) (ls:List AN) (wr:World):Prop where
 x:Bx wr w.heap.size 37 nv
 r:Bx wr (w.heap.size+1) 25 [.slice none 0 0,.int .i64 0]
 g:Ib wr (w.heap.size+1+1) m (λj=>if j<i then rtF ts j else 0)
 o:wr.ownsRow (w.heap.size+3) 37 5 v ls.length (fl ls)
 a:Al (w.heap.size+3) wr ls
 e:ls.map AN.nd=ovA (ts.take i)
 b:Below w.heap.size w wr
theorem OvI.put {w:World}{m:Nat}{nv:List Value}{ts:List Tr}{i:Nat}{v:Value}{ls:List AN}{wr:World}(h:OvI w m nv ts i v ls wr)(hi:i<ts.length){x:Int}(hx:x=rtF ts i) :
  Bx (wr.setCell ⟨w.heap.size+1+1,i,none⟩ (.int .i64 x)) w.heap.size 37 nv∧Bx (wr.setCell ⟨w.heap.size+1+1,i,none⟩ (.int .i64 x)) (w.heap.size+1) 25 [.slice none 0 0,.int .i64 0] ∧
  Ib (wr.setCell ⟨w.heap.size+1+1,i,none⟩ (.int .i64 x)) (w.heap.size+1+1) m (λj=>if j<i+1 then rtF ts j else 0)∧(wr.setCell ⟨w.heap.size+1+1,i,none⟩ (.int .i64 x)).ownsRow (w.heap.size+3) 37 5 v ls.length (fl ls) ∧
  Al (w.heap.size+3) (wr.setCell ⟨w.heap.size+1+1,i,none⟩ (.int .i64 x)) ls∧Below w.heap.size w (wr.setCell ⟨w.heap.size+1+1,i,none⟩ (.int .i64 x)):=by
 refine⟨h.x.far (by show w.heap.size≠w.heap.size+1+1;omega) _,h.r.far (by show w.heap.size+1≠w.heap.size+1+1;omega) _,(h.g.set_ i x).congr λj _ =>?_,own_set h.o (by omega),al_set h.a (by omega),h.b.setCell (p:=⟨w.heap.size+1+1,i,none⟩) (by show _≤w.heap.size+1+1;omega) _⟩
 by_cases e:j=i
 ·subst e;rw[if_pos rfl,if_pos (by omega),hx]
 ·rw[if_neg e]
  by_cases e2:j<i
  ·rw[if_pos e2,if_pos (by omega)]
  ·rw[if_neg e2,if_neg (by omega)]
theorem OvI.alloc {w:World}{m:Nat}{nv:List Value}{ts:List Tr}{i:Nat}{v:Value}{ls:List AN}{wr:World}(h:OvI w m nv ts i v ls wr)(o:Obj):OvI w m nv ts i v ls (wr.alloc o):=
 ⟨h.x.alloc _,h.r.alloc _,h.g.alloc _,own_below h.o (heap1 _ _),h.a.alloc _,h.e,h.b.alloc h.b.size _⟩
theorem wrap_small {x:Int}(h1 : -4000000≤x)(h2:x≤4000000):wrap64 x=x:=by
 unfold wrap64;omega
def stepO (acc:List Nd)(t:Tr):List Nd:=acc++t.1.map (mvN (acc.length:Int))
def rtR:List Nd→List Tr→List Int
 |_,[]=>[]
 |acc,t :: ts=>wrap64 ((acc.length:Int)+t.2) :: rtR (stepO acc t) ts
theorem rtR_eq:∀(ts:List Tr) (acc:List Nd),(List.range ts.length).map (λj=>wrap64 (((ts.take j).foldl stepO acc).length+(ts.getD j ([],0)).2))=rtR acc ts
 | [],_=>rfl
 |t :: ts,acc=>by
  rw[List.length_cons,List.range_succ_eq_map,List.map_cons,List.map_map]
  show _ :: _=_ :: _
  congr 1
  rw[← rtR_eq ts (stepO acc t)]
  apply List.map_congr_left
  intro j _
  rfl
theorem rts_eq (ts:List Tr):rts ts=rtR [] ts:=by rw[← rtR_eq];rfl
structure Fo (acc:List Nd) (rs:List Int) (b d:Nat→Nat) (D:Nat):Prop where
 st:StU acc b acc.length
 dp:DpU acc d acc.length
 ch:stK b rs.reverse acc.length=some 0
 dx:rs.foldl (λa k=>max a (d k.toNat)) 0=D
theorem kids_left {acc ys:List Nd}{q:Nat}(h:q<acc.length):kidsAt (acc++ys) q=kidsAt acc q:=by
 rw[kidsAt_eq (show q<(acc++ys).length by rw[List.length_append];omega),kidsAt_eq h,List.getElem_append_left h]
theorem kids_right {acc ys:List Nd}{q:Nat}(h:acc.length≤q)(h2:q<acc.length+ys.length):kidsAt (acc++ys) q=kidsAt ys (q-acc.length):=by
 rw[kidsAt_eq (show q<(acc++ys).length by rw[List.length_append];omega),kidsAt_eq (show q-acc.length<ys.length by omega),List.getElem_append_right h]
theorem kids_mv {tl:List Nd}{b:Nat→Nat}{off q:Nat}(hS:StU tl b tl.length)(hl:tl.length≤4000)(ho:off≤1000000)(hq:q<tl.length):kidsAt (tl.map (mvN (off:Int))) q=(kidsAt tl q).map λk=>k+(off:Int):=by
 rw[kidsAt_eq (show q<(tl.map (mvN (off:Int))).length by rw[List.length_map];exact hq),List.getElem_map,kidsAt_eq hq]
 show List.map _ _=_
 apply List.map_congr_left
 intro k hk
 have hk':k ∈ kidsAt tl q:=by rw[kidsAt_eq hq];exact hk
 obtain⟨m,rfl,hm,_⟩:=hS.kid hq hk'
 exact wrap_small (by omega) (by omega)
theorem Fo.step {acc:List Nd}{rs:List Int}{b d:Nat→Nat}{D:Nat}(h:Fo acc rs b d D){t:Tr}(ht:Snd t.1 t.2)(hb:(stepO acc t).length≤1000000) :
  ∃b' d',Fo (stepO acc t) (rs++[wrap64 ((acc.length:Int)+t.2)]) b' d' (max D (dpt t.1 t.2)):=by
 have hdpt:=dpt_yes ht
 obtain⟨tl,tr⟩:=t
 obtain⟨bt,h1,h2,h3,h4,h5⟩:=ht
 dsimp only at h1 h2 h3 h4 h5 hdpt
 have hlen:(stepO acc (tl,tr)).length=acc.length+tl.length:=by unfold stepO;rw[List.length_append,List.length_map]
 rw[hlen]at hb
 obtain⟨off,hoff⟩:∃off,off=acc.length:=⟨_,rfl⟩
 have hD:=dpL_U h4
 have hr:wrap64 ((acc.length:Int)+tr)=((off+tl.length-1:Nat):Int):=by rw[h3,wrap_small (by omega) (by omega)];omega
 have hkl:∀q,q<off→kidsAt (stepO acc (tl,tr)) q=kidsAt acc q:=λq hq=>kids_left (by omega)
 have hkr:∀q,off≤q→q<off+tl.length→kidsAt (stepO acc (tl,tr)) q=(kidsAt tl (q-off)).map λk=>k+(off:Int):=λq hq hq2=>by
  show kidsAt (acc++tl.map (mvN (acc.length:Int))) q=_
  rw[kids_right (by omega) (by rw[List.length_map];omega),← hoff]
  exact kids_mv h4 h2 (by omega) (by omega)
 have hdc:dpt tl tr=dpL tl tl.length (tl.length-1):=hdpt
 show∃b' d',Fo (stepO acc (tl,tr)) (rs++[wrap64 ((acc.length:Int)+tr)]) b' d' (max D (dpt tl tr))
 refine⟨λq=>if q<off then b q else bt (q-off)+off,λq=>if q<off then d q else dpL tl tl.length (q-off),?_,?_,?_,?_⟩
 ·intro q hq
  rw[hlen]at hq
  by_cases hq1:q<off
  ·rw[hkl q hq1]
   show _=some (if q<off then b q else bt (q-off)+off)
   rw[if_pos hq1,← h.st q (by omega)]
   refine(stK_congr _ q (λr hr =>?_) (λr hr=>h.st.le r (by omega))).symm
   show b r=if r<off then b r else bt (r-off)+off
   rw[if_pos (by omega)]
  ·rw[hkr q (by omega) (by omega),← List.map_reverse]
   have:=stK_up (d:=off) (c:=λq=>if q<off then b q else bt (q-off)+off) _ (q-off) _ (λr hr=>h4.le r (by omega)) (h4 (q-off) (by omega)) (λr _=>by
    show(if r+off<off then b (r+off) else bt (r+off-off)+off)=bt r+off
    rw[if_neg (by omega),Nat.add_sub_cancel])
   rw[show q-off+off=q by omega]at this
   show _=some (if q<off then b q else bt (q-off)+off)
   rw[if_neg hq1]
   exact this
 ·intro q hq
  rw[hlen]at hq
  by_cases hq1:q<off
  ·rw[hkl q hq1]
   show(if q<off then d q else dpL tl tl.length (q-off))=_
   rw[if_pos hq1,h.dp q (by omega)]
   refine dpK_congr λk hk =>?_
   obtain⟨m,rfl,hm,_⟩:=h.st.kid (show q<acc.length by omega) hk
   show d (m:Int).toNat=if (m:Int).toNat<off then d (m:Int).toNat else _
   rw[if_pos (by rw[Int.toNat_natCast];omega)]
  ·rw[hkr q (by omega) (by omega)]
   show(if q<off then d q else dpL tl tl.length (q-off))=_
   rw[if_neg hq1,hD (q-off) (by omega)]
   refine(dpK_map λk hk =>?_).symm
   obtain⟨m,rfl,hm,_⟩:=h4.kid (show q-off<tl.length by omega) hk
   show(if ((m:Int)+(off:Int)).toNat<off then _ else dpL tl tl.length (((m:Int)+(off:Int)).toNat-off))=dpL tl tl.length (m:Int).toNat
   rw[if_neg (by omega)]
   congr 1
   omega
 ·rw[List.reverse_append,hr,hlen]
  show stK _ (((off+tl.length-1:Nat):Int) :: rs.reverse) _=_
  unfold stK
  rw[if_neg (by omega),if_pos (by omega)]
  show stK _ rs.reverse (if acc.length+tl.length-1<off then _ else bt (acc.length+tl.length-1-off)+off)=_
  rw[if_neg (by omega),show acc.length+tl.length-1-off=tl.length-1 by omega,h5,Nat.zero_add,← h.ch,hoff]
  refine(stK_congr _ acc.length (λr hr =>?_) (λr hr=>h.st.le r hr)).symm
  show b r=if r<acc.length then b r else _
  rw[if_pos hr]
 ·rw[List.foldl_append,hr]
  show max _ _=_
  have hold:rs.foldl (λa k=>max a (if k.toNat<off then d k.toNat else dpL tl tl.length (k.toNat-off))) 0=D:=by
   rw[← h.dx]
   refine foldl_congr (f:=λk=>if k.toNat<off then d k.toNat else dpL tl tl.length (k.toNat-off)) (g:=λk=>d k.toNat) rs 0 λk hk =>?_
   obtain⟨m,rfl,hm,_⟩:=stK_mem _ _ _ (λq hq=>h.st.le q hq) h.ch k (List.mem_reverse.2 hk)
   show(if (m:Int).toNat<off then d (m:Int).toNat else _)=_
   rw[if_pos (by rw[Int.toNat_natCast];omega)]
  rw[hold,hdc]
  congr 1
  show(if (((off+tl.length-1:Nat):Int)).toNat<off then _ else dpL tl tl.length ((((off+tl.length-1:Nat):Int)).toNat-off))=_
  rw[Int.toNat_natCast,if_neg (by omega)]
  congr 1
  omega
theorem fold_len:∀(ts:List Tr) (acc:List Nd),acc.length≤(ts.foldl stepO acc).length
 | [],_=>Nat.le_refl _
 |t :: ts,acc=>by
  rw[List.foldl_cons]
  refine Nat.le_trans ?_ (fold_len ts (stepO acc t))
  unfold stepO;rw[List.length_append];omega
theorem fo_fold:∀(ts:List Tr) (acc:List Nd) (rs:List Int) (D:Nat),(∃b d,Fo acc rs b d D)→(∀t ∈ ts,Snd t.1 t.2)→(ts.foldl stepO acc).length≤1000000 →
  ∃b d,Fo (ts.foldl stepO acc) (rs++rtR acc ts) b d (ts.foldl (λa t=>max a (dpt t.1 t.2)) D)
 | [],acc,rs,D,h,_,_=>by
  show∃b d,Fo acc (rs++[]) b d D
  rw[List.append_nil];exact h
 |t :: ts,acc,rs,D,⟨b,d,h⟩,ht,hl=>by
  rw[List.foldl_cons]at hl
  have h1:=h.step (ht t (by simp)) (Nat.le_trans (fold_len ts _) hl)
  have h2:=fo_fold ts (stepO acc t) _ _ h1 (λx hx=>ht x (by simp[hx])) hl
  show∃b d,Fo (ts.foldl stepO (stepO acc t)) (rs++(wrap64 ((acc.length:Int)+t.2) :: rtR (stepO acc t) ts)) b d (ts.foldl (λa t=>max a (dpt t.1 t.2)) (max D (dpt t.1 t.2)))
  rw[show rs++(wrap64 ((acc.length:Int)+t.2) :: rtR (stepO acc t) ts)=rs++[wrap64 ((acc.length:Int)+t.2)]++rtR (stepO acc t) ts by rw[List.append_assoc];rfl]
  exact h2
noncomputable def deepT (ts:List Tr):Nat:=ts.foldl (λa t=>max a (dpt t.1 t.2)) 0
theorem over_sound {kd n pl:Int}{tx:ByteArray}{ts:List Tr}(ht:∀t ∈ ts,Snd t.1 t.2)(hl:(ovA ts).length≤1000000)(h4:(ovL kd n pl tx ts).length≤4000) :
  Snd (ovL kd n pl tx ts) ((ovA ts).length:Int)∧dpt (ovL kd n pl tx ts) ((ovA ts).length:Int)=deepT ts+1:=by
 have h0:∃b d,Fo [] [] b d 0:=⟨λ_=>0,λ_=>0,⟨λq hq=>absurd hq (Nat.not_lt_zero q),λq hq=>absurd hq (Nat.not_lt_zero q),rfl,rfl⟩⟩
 obtain⟨b,d,hF⟩:=fo_fold ts [] [] 0 h0 ht hl
 rw[List.nil_append,← rts_eq]at hF
 obtain⟨acc,hacc⟩:∃acc,acc=ovA ts:=⟨_,rfl⟩
 have hF':Fo acc (rts ts) b d (deepT ts):=by rw[hacc];exact hF
 have hL:ovL kd n pl tx ts=acc++[⟨kd,n,pl,tx,rts ts⟩]:=by rw[hacc];rfl
 rw[hL]at h4 ⊢
 rw[← hacc]
 have hlen:(acc++[(⟨kd,n,pl,tx,rts ts⟩:Nd)]).length=acc.length+1:=by rw[List.length_append];rfl
 have hkl:∀q,q<acc.length→kidsAt (acc++[(⟨kd,n,pl,tx,rts ts⟩:Nd)]) q=kidsAt acc q:=λq hq=>kids_left hq
 have hkr:kidsAt (acc++[(⟨kd,n,pl,tx,rts ts⟩:Nd)]) acc.length=rts ts:=by
  rw[kids_right (Nat.le_refl _) (by show _<_+1;omega),Nat.sub_self];rfl
 have hS:StU (acc++[(⟨kd,n,pl,tx,rts ts⟩:Nd)]) (λq=>if q<acc.length then b q else 0) (acc.length+1):=λq hq=>by
  have hcg:∀(ks:List Int) (s:Nat),s≤acc.length→stK (λq=>if q<acc.length then b q else 0) ks s=stK b ks s:=λks s hs=>
   (stK_congr ks s (λr hr=>by show b r=if r<acc.length then b r else 0;rw[if_pos (by omega)]) (λr hr=>hF'.st.le r (by omega))).symm
  by_cases hq1:q<acc.length
  ·rw[hkl q hq1,hcg _ _ (by omega),hF'.st q hq1]
   show _=some (if q<acc.length then b q else 0)
   rw[if_pos hq1]
  ·obtain rfl:q=acc.length:=by omega
   rw[hkr,hcg _ _ (Nat.le_refl _),hF'.ch]
   show _=some (if acc.length<acc.length then _ else 0)
   rw[if_neg (by omega)]
 have hD:DpU (acc++[(⟨kd,n,pl,tx,rts ts⟩:Nd)]) (λq=>if q<acc.length then d q else deepT ts+1) (acc.length+1):=λq hq=>by
  by_cases hq1:q<acc.length
  ·rw[hkl q hq1]
   show(if q<acc.length then d q else _)=_
   rw[if_pos hq1,hF'.dp q hq1]
   refine dpK_congr λk hk =>?_
   obtain⟨m,rfl,hm,_⟩:=hF'.st.kid hq1 hk
   show d (m:Int).toNat=if (m:Int).toNat<acc.length then d (m:Int).toNat else _
   rw[if_pos (by rw[Int.toNat_natCast];omega)]
  ·obtain rfl:q=acc.length:=by omega
   rw[hkr]
   show(if acc.length<acc.length then _ else deepT ts+1)=_
   rw[if_neg (by omega),← hF'.dx]
   show dpK d (rts ts)=_
   refine dpK_congr λk hk =>?_
   obtain⟨m,rfl,hm,_⟩:=stK_mem _ _ _ (λq hq=>hF'.st.le q hq) hF'.ch k (List.mem_reverse.2 hk)
   show d (m:Int).toNat=if (m:Int).toNat<acc.length then d (m:Int).toNat else _
   rw[if_pos (by rw[Int.toNat_natCast];omega)]
 have hSd:Sd (acc++[(⟨kd,n,pl,tx,rts ts⟩:Nd)]) (acc.length:Int) (λq=>if q<acc.length then b q else 0):=by
  refine⟨by rw[hlen];omega,h4,by rw[hlen];omega,by rw[hlen];exact hS,?_⟩
  show(if _<acc.length then _ else 0)=0
  rw[hlen,if_neg (by omega)]
 refine⟨⟨_,hSd⟩,?_⟩
 rw[dpt_yes ⟨_,hSd⟩,hlen]
 have:=(dpL_U hS).uniq hS hD acc.length (by omega)
 rw[show acc.length+1-1=acc.length by omega,this]
 show(if acc.length<acc.length then _ else deepT ts+1)=_
 rw[if_neg (by omega)]
end
end Tr
section
section
open Tr (nth stmB expB allB kidB ndB shB txB numB mvN ovA ovL rts rtF dpt Snd sndB deepT over_sound rgB)
def leafN:Tr.Nd:=⟨22,0,0,⟨#[120]⟩,[]⟩
theorem snd_ahead {l:List Tr.Nd}{r:Int}(h:Snd l r):Ahead l:=by
 obtain⟨b,_,_,_,hS,_⟩:=h
 exact ahead_of hS λq hq=>hS.le q hq
theorem snd_len {l:List Tr.Nd}{r:Int}(h:Snd l r):1≤l.length∧l.length≤4000∧r=(l.length:Int)-1:=by
 obtain⟨b,h1,h2,h3,_,_⟩:=h
 exact⟨h1,h2,h3⟩
end
section
open Tr (nth stmB expB allB kidB ndB shB txB numB sgB mvN ovA ovL rts rtF dpt Snd sndB deepT over_sound rgB)
structure ExOk (l:List Tr.Nd) (r:Int):Prop where
 snd:Snd l r
 dep:dpt l r≤40
 exp:∀x ∈ l,expB x.kd=true
 sh:shB l=true
end
end
section
open Tr (Bx heap1 bt Nds Ints)
theorem Pg.grown {B b:Nat}{t:List UInt8}{w w':World}{row:Option Nat}(h:Pg B b t w)(hg:w.grownBy w' row)(hr:∀g,row=some g→∃cs,w.heap[g]?=some (.cells cs 3 (0,0))):Pg B b t w':=by
 have aux:∀p,Lib.BuilderAtF 118 5 B b p (Lib.byteCells t) w→Lib.BuilderAtF 118 5 B b p (Lib.byteCells t) w':=λp q=>by
  have hlt:=at_size q
  obtain⟨hB,v,hv,hown,hne⟩:=q
  refine⟨hB,v,(hg.block b hlt λe =>?_).trans hv,hown.kept hg ?_,hne⟩
  ·obtain⟨cs,hcs⟩:=hr b e.symm
   have:=hcs.symm.trans hv
   simp at this
  ·rcases hown.2 with⟨e1,_⟩ |⟨g,cap,cur,fz,e1,_,e3,_⟩
   ·exact Or.inl (by rw[e1];rfl)
   ·refine Or.inr λe =>?_
    rw[e1]at e
    obtain⟨cs,hcs⟩:=hr g (by rw[← e];rfl)
    have:=hcs.symm.trans e3
    simp at this
 rcases h with h |h
 ·exact .inl (aux _ h)
 ·exact .inr (aux _ h)
theorem own_ints {base:Nat}{v:Value}{l:List Int}{w:World}(h:w.ownsRow base 3 1 v l.length (l.map (Value.int .i64))):∃A c,v = .slice A l.length c∧Ints w A l:=by
 rcases h.2 with⟨e,e2⟩ |⟨g,cap,cur,rfl,h2,h3,h4⟩
 ·exact⟨none,0,by rw[e,e2],λh0=>by omega⟩
 ·refine⟨_,_,rfl,λ_=>⟨g,0,rfl,(Array.getElem?_eq_some_iff.1 h3).1,λj hj =>?_⟩⟩
  have:=h.cellAt j (by omega)
  rw[Nat.zero_add,this,List.getElem?_map,List.getElem?_eq_getElem hj]
  rfl
theorem own_block {base n:Nat}{v:Value}{xs:List Value}{w:World}(h:w.ownsRow base 3 1 v n xs):∀g,v.ownBlock=some g→base≤g∧g<w.heap.size∧∃cs,w.heap[g]?=some (.cells cs 3 (0,0)):=λg hg=>by
 rcases h.2 with⟨e,_⟩ |⟨g',cap,cur,rfl,h2,h3,h4⟩
 ·rw[e]at hg;simp[Value.ownBlock]at hg
 ·simp only[Value.ownBlock,Option.some.injEq]at hg
  subst hg
  exact⟨h2,(Array.getElem?_eq_some_iff.1 h3).1,_,h3⟩
structure PL (B b:Nat) (t:List UInt8) (w:World) (PB NB:List Value) (v5 v6:Value) (l5 l6:List Int) (wr:World):Prop where
 pg:Pg B b t wr
 kp:Kp B b w wr
 bx:Bx wr w.heap.size 73 PB
 bn:Bx wr (w.heap.size+1) 37 NB
 o5:wr.ownsRow (w.heap.size+2) 3 1 v5 l5.length (l5.map (Value.int .i64))
 o6:wr.ownsRow (w.heap.size+2) 3 1 v6 l6.length (l6.map (Value.int .i64))
 ne:∀k,v5.ownBlock=some k→v6.ownBlock=some k→False
 sz:w.heap.size+2≤wr.heap.size
end
end Go.Proofs.YteecfjhjllajlaaGreatDoor
