/- PROVED: TrOv. No more condition. -/
import Derived.Test.YteecfjhjllajlaaGreatDoorM03
namespace Go.Proofs.YteecfjhjllajlaaGreatDoor.Tr
open Go.Lib (hid)
section
set_option maxHeartbeats 1500000
set_option maxRecDepth 100000
open Go
open Go Go.RowKit
open Go Go.RowKit Go.Shelf
attribute [local go_sem] Oper.semAt_some
def tK (d:Int)(x:Nd):Nd:=⟨x.kd,x.n,x.pl,x.tx,x.ks.map λk=>wrap64 (k+d)⟩
structure AN where
 nd:Nd
 b:Nat
def AN.cv (x:AN):List Value:=[.int .i64 x.nd.kd,.int .i64 x.nd.n,.int .i64 x.nd.pl,.string x.nd.tx,.slice (some ⟨x.b,0,none⟩) x.nd.ks.length x.nd.ks.length]
def fl (ls:List AN):List Value:=ls.flatMap AN.cv
theorem yw (a b:List AN):fl (a++b)=fl a++fl b:=List.flatMap_append
theorem fl_len (ls:List AN):(fl ls).length=ls.length*5:=by
 induction ls with
 |nil=>rfl
 |cons x xs ih=>show(x.cv++fl xs).length=_;rw[List.length_append,ih,List.length_cons];show 5+_=_;omega
theorem yx:∀(ls:List AN) (j f:Nat) (hj:j<ls.length),f<5->(fl ls)[j*5+f]?=(ls[j].cv)[f]?
 | [],_,_,hj,_=>by cases hj
 |x :: xs,0,f,_,hf=>by
  show(x.cv++fl xs)[0*5+f]?=_;rw[List.getElem?_append_left (by show _<5;omega)];simp
 |x :: xs,j+1,f,hj,hf=>by
  show(x.cv++fl xs)[(j+1)*5+f]?=_;rw[List.getElem?_append_right (by show 5<=_;omega),show(j+1)*5+f-x.cv.length=j*5+f by show(j+1)*5+f-5=_;omega];exact yx xs j f (by simpa using hj) hf
def Al (base:Nat)(w:World)(ls:List AN):Prop:=∀x ∈ ls,base<=x.b/\Ib w x.b x.nd.ks.length (λi=>x.nd.ks.getD i 0)
theorem Ib.ints' {w:World}{g:Nat}{l:List Int}(h:Ib w g l.length (λi=>l.getD i 0)):Ints w (some ⟨g,0,none⟩) l:=λ_=>by
 refine⟨g,0,rfl,h.lt,λj hj =>?_⟩;rw[Nat.zero_add,h.cell hj];simp[List.getD,hj]
theorem Al.keep {base:Nat}{w w':World}{ls:List AN}(h:Al base w ls)(hk:∀b,base<=b->∀n m,Ib w b n m->w'.heap[b]?=w.heap[b]?):Al base w' ls:=λx hx=>
 ⟨(h x hx).1,(h x hx).2.same (hk _ (h x hx).1 _ _ (h x hx).2)⟩
theorem Al.below {base:Nat}{w w':World}{ls:List AN}(h:Al base w ls)(hb:Below w.heap.size w w'):Al base w' ls:=h.keep λ_ _ _ _ hI=>hb.block _ hI.lt
theorem Al.grown {base:Nat}{w w':World}{row:Option Nat}{ls:List AN}(h:Al base w ls)(hg:w.grownBy w' row)(hr:∀g,row=some g->∃cs,w.heap[g]?=some (.cells cs 37 (0,0))):Al base w' ls:=h.keep λb _ n m hI=>by
 refine hg.block _ hI.lt λe =>?_
 obtain⟨cs,hc⟩:=hr b e.symm;rw[show w.heap[b]?=_ from hI]at hc;simp at hc
theorem Al.alloc {base:Nat}{w:World}{ls:List AN}(h:Al base w ls)(o:Obj):Al base (w.alloc o) ls:=h.below (aa _ _)
theorem Al.app {base:Nat}{w:World}{ls ms:List AN}(h:Al base w ls)(k:Al base w ms):Al base w (ls++ms):=λx hx=>(List.mem_append.1 hx).elim (h x) (k x)
theorem Al.mono {base base':Nat}{w:World}{ls:List AN}(h:Al base w ls)(hb:base'<=base):Al base' w ls:=λx hx=>⟨Nat.le_trans hb (h x hx).1,(h x hx).2⟩
theorem KE {base:Nat}{w:World}{v:Value}{ls:List AN}(h:w.ownsRow base 37 5 v ls.length (fl ls))(hA:Al base w ls):∃A c,v=.slice A ls.length c/\eH w A (ls.map AN.nd)/\(∀a,A=some a->base<=a.block):=by
 rcases h.2 with⟨rfl,e⟩ |⟨g,cap,cur,rfl,hb,hg,hn,_,_,ht⟩
 ·exact⟨none,0,by rw[e],λh0=>by simp at h0;omega,λa e=>by cases e⟩
 ·refine⟨_,_,rfl,λh0 =>?_,λa e=>by cases e;exact hb⟩;refine⟨g,0,rfl,(Array.getElem?_eq_some_iff.1 hg).1,λj hj =>?_⟩;have hj':j<ls.length:=by simpa using hj
  have key:∀f,f<5->w.cell? ⟨g,0+j*5+f,none⟩=(ls[j].cv)[f]?:=λf hf=>by
   rw[cell_of_row w g _ cur 37 (0,0) hg,Nat.zero_add,<- yx ls j f hj' hf,<- ht,List.getElem?_take,if_pos (by omega)];simp
  rw[List.getElem_map];exact⟨_,_,key 0 (by decide),key 1 (by decide),key 2 (by decide),key 3 (by decide),key 4 (by decide),(hA _ (List.getElem_mem _)).2.ints'⟩
def El (n:Nat)(m:Nat->Nat->Value):Array Value:=Array.ofFn (n:=n*5) λi=>m (i / 5) (i % 5)
theorem kS (n:Nat)(m:Nat->Nat->Value):(El n m).size=n*5:=by simp[El]
theorem uk {n:Nat}{m:Nat->Nat->Value}{j f:Nat}(hj:j<n)(hf:f<5):(El n m)[j*5+f]?=some (m j f):=by
 have h:j*5+f<n*5:=by omega
 simp only[El,Array.getElem?_ofFn,h,dif_pos];rw[show(j*5+f) / 5=j by omega,show(j*5+f) % 5=f by omega]
theorem Em {n:Nat}{m m':Nat->Nat->Value}(h:∀j f,j<n->f<5->m j f=m' j f):El n m=El n m':=by
 unfold El;congr 1;funext i;exact h _ _ (by have:=i.2;omega) (by omega)
theorem KF {n:Nat}{m:Nat->Nat->Value}{j f:Nat}{v:Value}(hf:f<5):(El n m).setIfInBounds (j*5+f) v=El n (λi g=>if i=j/\g=f then v else m i g):=by
 apply Array.ext_getElem?;intro k;rw[Array.getElem?_setIfInBounds];by_cases hk:k<n*5
 ·have e1:k=k / 5*5+k % 5:=by omega
  have h1:=uk (m:=λi g=>if i=j/\g=f then v else m i g) (j:=k / 5) (f:=k % 5) (n:=n) (by omega) (by omega);have h2:=uk (m:=m) (j:=k / 5) (f:=k % 5) (n:=n) (by omega) (by omega);rw[<- e1]at h1 h2;rw[h1,h2,kS];by_cases e:j*5+f=k
  ·rw[if_pos e,if_pos (by omega),if_pos (by omega)]
  ·rw[if_neg e,if_neg (by omega)]
 ·rw[Array.getElem?_eq_none (by rw[kS];omega),Array.getElem?_eq_none (by rw[kS];omega),kS];split
  ·rw[if_neg (by omega)]
  ·rfl
def Nb (w:World)(g n:Nat)(m:Nat->Nat->Value):Prop:=w.heap[g]?=some (.cells (El n m) 37 (0,0))
section
variable {w w':World} {g n:Nat} {m:Nat->Nat->Value}
theorem Nb.lt (h:Nb w g n m):g<w.heap.size:=(Array.getElem?_eq_some_iff.1 h).1
theorem Nb.cell (h:Nb w g n m){j f:Nat}(hj:j<n)(hf:f<5):w.cell? ⟨g,j*5+f,none⟩=some (m j f):=(cell_of_row w g _ _ 37 (0,0) h).trans (uk hj hf)
theorem Nb.frozen (h:Nb w g n m)(i:Nat):w.frozen? ⟨g,i,none⟩=false:=frozen_of_row w g i _ 37 h
theorem Nb.set_ (h:Nb w g n m)(j f:Nat)(hf:f<5)(v:Value):Nb (w.setCell ⟨g,j*5+f,none⟩ v) g n (λi k=>if i=j/\k=f then v else m i k):=(heap_setCell_same w g _ _ 37 _ h).trans (by rw[KF hf])
theorem Nb.far (h:Nb w g n m){p:Addr}(hp:g≠p.block)(u:Value):Nb (w.setCell p u) g n m:=(heap_setCell_other w p g u hp).trans h
theorem Nb.same (h:Nb w g n m)(hg:w'.heap[g]?=w.heap[g]?):Nb w' g n m:=hg.trans h
theorem Nb.grown {row:Option Nat}(h:Nb w g n m)(hb:w.grownBy w' row)(hg:some g≠row):Nb w' g n m:=(hb.block g h.lt hg).trans h
theorem Nb.alloc (h:Nb w g n m)(o:Obj):Nb (w.alloc o) g n m:=h.grown (World.grownBy_alloc w o none) (by simp)
theorem Nb.congr {m':Nat->Nat->Value}(h:Nb w g n m)(e:∀j f,j<n->f<5->m j f=m' j f):Nb w g n m':=by unfold Nb at *;rw[h,Em e]
end
theorem Ot (n:Nat):madeCells zN (n*5)=El n (λ_ f=>zN[f]!):=by
 apply Array.ext_getElem?;intro k;by_cases hk:k<n*5
 ·simp only[madeCells,El,Array.getElem?_ofFn,hk,dif_pos];simp[hk,zN]
 ·rw[Array.getElem?_eq_none (by simp[madeCells];omega),Array.getElem?_eq_none (by rw[kS];omega)]
theorem Gt (n:Nat)(a:Nat->AN):(El n λj f=>((a j).cv)[f]!).toList=fl ((List.range n).map a):=by
 apply List.ext_getElem?;intro k;by_cases hk:k<n*5
 ·have e1:k=k / 5*5+k % 5:=by omega
  have h1:=uk (m:=λj f=>((a j).cv)[f]!) (j:=k / 5) (f:=k % 5) (n:=n) (by omega) (by omega);have h2:=yx ((List.range n).map a) (k / 5) (k % 5) (by simp;omega) (by omega);rw[<- e1]at h1 h2;rw[h2,Array.getElem?_toList,h1];have h5:k % 5<((a (k / 5)).cv).length:=by show k % 5<5;omega
  simp[h5]
 ·rw[Array.getElem?_toList,Array.getElem?_eq_none (by rw[kS];omega),List.getElem?_eq_none (by rw[fl_len];simp;omega)]
def wQ (d:Int)(l:List Nd)(g:Nat->Nat)(j:Nat):AN:=⟨tK d (nth l j),g j⟩
structure Qz (d:Int) (l:List Nd) (n p:Nat) (g:Nat->Nat) (w wr:World):Prop where
 n:Nb wr w.heap.size n (λj f=>if j<p then ((wQ d l g j).cv)[f]! else zN[f]!)
 k:∀j,j<p->w.heap.size<g j/\Ib wr (g j) (wQ d l g j).nd.ks.length (λi=>(wQ d l g j).nd.ks.getD i 0)
 b:Below w.heap.size w wr
theorem Qz.step {d:Int}{l:List Nd}{n p:Nat}{g:Nat->Nat}{w wr W:World}(h:Qz d l n p g w wr)(h1:Below wr.heap.size wr W)(hz:w.heap.size<wr.heap.size){kb:Nat}(hkb:wr.heap.size<=kb)(hp:p<n)
  (hI:Ib W kb (nth l p).ks.length (λi=>(tK d (nth l p)).ks.getD i 0)) (v0 v1 v2 v3 v4:Value) (hv:(AN.mk (tK d (nth l p)) kb).cv=[v0,v1,v2,v3,v4]) :
  Qz d l n (p+1) (λj=>if j=p then kb else g j) w (((((W.setCell ⟨w.heap.size,p*5,none⟩ v0).setCell ⟨w.heap.size,p*5+1,none⟩ v1).setCell ⟨w.heap.size,p*5+2,none⟩ v2).setCell ⟨w.heap.size,p*5+3,none⟩ v3).setCell ⟨w.heap.size,p*5+4,none⟩ v4):=by
 have hN:Nb W w.heap.size n _:=h.n.same (h1.block _ hz);have hs:∀(k:Nat) (n':Nat) (m:Nat->Int) (W:World) (o:Nat) (v:Value),k≠w.heap.size->Ib W k n' m->Ib (W.setCell ⟨w.heap.size,o,none⟩ v) k n' m:=λk n' m W o v hk hI=>hI.far hk v
 have hb:∀(W:World) (o:Nat) (v:Value),Below w.heap.size w W->Below w.heap.size w (W.setCell ⟨w.heap.size,o,none⟩ v):=λW o v hW=>hW.setCell (p:=⟨w.heap.size,o,none⟩) (Nat.le_refl _) v
 refine⟨?_,?_,?_⟩
 ·refine(((((hN.set_ p 0 (by omega) v0).set_ p 1 (by omega) v1).set_ p 2 (by omega) v2).set_ p 3 (by omega) v3).set_ p 4 (by omega) v4).congr λj f hj hf =>?_
  by_cases e:j=p
  ·subst e;have hm:wQ d l (λi=>if i=j then kb else g i) j=AN.mk (tK d (nth l j)) kb:=by unfold wQ;dsimp only;rw[if_pos rfl]
   rw[if_pos (show j<j+1 by omega),hm,hv]
   match f,hf with
   |0,_=>simp
   |1,_=>simp
   |2,_=>simp
   |3,_=>simp
   |4,_=>simp
  ·simp only[e,false_and,if_false];by_cases e2:j<p
   ·have hm:wQ d l (λi=>if i=p then kb else g i) j=wQ d l g j:=by unfold wQ;dsimp only;rw[if_neg e]
    rw[if_pos e2,if_pos (by omega),hm]
   ·rw[if_neg e2,if_neg (by omega)]
 ·intro j hj;by_cases e:j=p
  ·subst e;have hm:wQ d l (λi=>if i=j then kb else g i) j=AN.mk (tK d (nth l j)) kb:=by unfold wQ;dsimp only;rw[if_pos rfl]
   rw[hm,if_pos rfl];have hl:(AN.mk (tK d (nth l j)) kb).nd.ks.length=(nth l j).ks.length:=by show(List.map _ _).length=_;simp
   rw[hl];have hne:kb≠w.heap.size:=by omega
   exact⟨by omega,hs _ _ _ _ _ _ hne (hs _ _ _ _ _ _ hne (hs _ _ _ _ _ _ hne (hs _ _ _ _ _ _ hne (hs _ _ _ _ _ _ hne hI))))⟩
  ·have hm:wQ d l (λi=>if i=p then kb else g i) j=wQ d l g j:=by unfold wQ;dsimp only;rw[if_neg e]
   obtain⟨h2,h3⟩:=h.k j (by omega);rw[hm,if_neg e];have hne:g j≠w.heap.size:=by omega
   have h3':=h3.below h1 h3.lt;exact⟨h2,hs _ _ _ _ _ _ hne (hs _ _ _ _ _ _ hne (hs _ _ _ _ _ _ hne (hs _ _ _ _ _ _ hne (hs _ _ _ _ _ _ hne h3'))))⟩
 ·have hW:Below w.heap.size w W:=h.b.trans (h1.mono h.b.size);exact hb _ _ _ (hb _ _ _ (hb _ _ _ (hb _ _ _ (hb _ _ _ hW))))
def Gu (d:Int)(l:List Nd)(n:Nat)(w:World)(e:Ending)(w':World):Prop:=∃ls,e=.returned (.slice (some ⟨w.heap.size,0,none⟩) n n)/\w'.ownsRow w.heap.size 37 5 (.slice (some ⟨w.heap.size,0,none⟩) n n) n (fl ls)/\ls.map AN.nd=l.map (tK d)/\Al w.heap.size w' ls/\Below w.heap.size w w'
theorem Qz.post {d:Int}{l:List Nd}{n:Nat}{g:Nat->Nat}{w wr:World}(hn:n=l.length)(hl:n<=10000000)(h:Qz d l n n g w wr):Gu d l n w (.returned (.slice (some ⟨w.heap.size,0,none⟩) n n)) wr:=by
 have h1:Nb wr w.heap.size n (λj f=>((wQ d l g j).cv)[f]!):=h.n.congr λj f hj _=>if_pos hj
 refine⟨(List.range n).map (wQ d l g),rfl,⟨by rw[fl_len];simp,.inr ⟨_,_,_,rfl,Nat.le_refl _,h1,Nat.le_refl _,by unfold maxLen;omega,kS _ _,?_⟩⟩,?_,?_,h.b⟩
 ·rw[Gt,List.take_of_length_le (by rw[fl_len];simp)]
 ·rw[List.map_map];apply List.ext_getElem
  ·simp[hn]
  ·intro i h2 h3;have h4:i<l.length:=by simpa using h3
   rw[List.getElem_map,List.getElem_map,List.getElem_range];show tK d (nth l i)=_;rw[jF h4]
 ·intro x hx;obtain⟨j,hj,rfl⟩:=List.mem_map.1 hx;obtain⟨h2,h3⟩:=h.k j (by simpa using hj);exact⟨Nat.le_of_lt h2,h3⟩
theorem wR (A:Option Addr)(c n:Nat)(l:List Nd)(d:Int)(w:World)(hN:eH w A l)(hn:n=l.length)(hl:n<=10000000)(hk:∀x ∈ l,x.ks.length<=4000):Calls Tryz.prog 79 #[.slice A n c,.int .i64 d] w (Gu d l n w):=by
 have HN:=hid hN;have HL:=hid hn;have HK:=hid hk;clear hN hn hk;have hmk:=λw'=>NE n (by omega) w'
 have e0:∀(w':World) (o:Obj),(w'.alloc o).heap.size=w'.heap.size+1:=λw' o=>World.size_alloc w' o
 go_enter Tryz.func79,Tryz.ntmps79
 go_wp2;clear hmk
 go_loopw [16] (λi wr=>∃(p:Nat) (g:Nat->Nat),p<=n/\i=.int .i64 (p:Int)/\Qz d l n p g w wr) (λi _=>n-(intOf i).toNat)
 case atStart=>
  refine⟨0,λ_=>0,Nat.zero_le _,rfl,?_,λj hj=>absurd hj (Nat.not_lt_zero j),aa _ _⟩;rw[Ot];exact(show Nb _ _ n _ from World.alloc_heap_new _ _).congr λj f _ _=>(if_neg (Nat.not_lt_zero j)).symm
 case round=>
  obtain⟨p,g,hp,rfl,hM⟩:=hrel;obtain⟨W0,rfl⟩:∃W0,W0=wr:=⟨_,rfl⟩;by_cases hlt:p<n
  ·have hlz:(p:Int)<(n:Int):=by omega
   have hpl:p<l.length:=by rw[<- HL.out];exact hlt
   obtain⟨bA,off,rfl,hbl,hc⟩:=(HN.out.below hM.b) (by omega);obtain⟨K,ck,c0,c1,c2,c3,c4,hI⟩:=hc p hpl;have hks:l[p].ks.length<=4000:=HK.out _ (List.getElem_mem _);have HX:=hid (jF hpl);clear hc;generalize l[p]=x at *
   obtain⟨kd,nn,pl,tx,ks⟩:=x;dsimp only at c0 c1 c2 c3 c4 hI hks;have hmk:=λw'=>sD ks.length (by omega) w'
   have hz:=hM.n.lt;go_wp2;clear hmk
   go_loopw [28] (λi wr2=>∃j:Nat,j<=ks.length/\i=.int .i64 (j:Int)/\Bx wr2 W0.heap.size 37 [.int .i64 kd,.int .i64 nn,.int .i64 pl,.string tx,.slice K ks.length ck]/\Ib wr2 (W0.heap.size+1) ks.length (λi=>if i<j then wrap64 (ks.getD i 0+d) else 0)/\Below W0.heap.size W0 wr2) (λi _=>ks.length-(intOf i).toNat)
   case atStart=>
    refine⟨0,Nat.zero_le _,rfl,(Bx.new W0 37 _).alloc _,?_,(aa W0 _).alloc (by rw[e0];omega) _⟩;have:=World.alloc_heap_new (W0.alloc (.cells #[.int .i64 kd,.int .i64 nn,.int .i64 pl,.string tx,.slice K ks.length ck] 37)) (.cells (wm ks.length λ_=>0) 3);rw[e0]at this;exact(show Ib _ _ _ _ from this).congr λi _=>(if_neg (Nat.not_lt_zero i)).symm
   case round=>
    obtain⟨j,hj,rfl,hB,hG2,hb2⟩:=hrel;by_cases hjl:j<ks.length
    ·have hjz:(j:Int)<(ks.length:Int):=by omega
     obtain⟨bK,oK,rfl,hbK,hcK⟩:=hI (by omega);have hck:=(hb2.cell (p:=⟨bK,oK+j,none⟩) hbK).trans (hcK j hjl);have hgd:ks.getD j 0=ks[j]:=by simp[List.getD,hjl]
     rw[<- hgd]at hck;have hcg:=hG2.cell hjl;have hfg:=hG2.frozen j;clear hcK hgd;generalize hkk:ks.getD j 0=kk at *
     go_wp2
     go_roundw
     case rel=>
      refine⟨j+1,by omega,by go_num,hB.far (by show W0.heap.size≠W0.heap.size+1;omega) _,?_,hb2.setCell (p:=⟨W0.heap.size+1,j,none⟩) (by show _<=W0.heap.size+1;omega) _⟩;refine(hG2.set_ j _).congr λi hi =>?_
      by_cases e:i=j
      ·subst e;rw[if_pos rfl,if_pos (by omega),hkk]
      ·rw[if_neg e];by_cases e2:i<j
       ·rw[if_pos e2,if_pos (by omega)]
       ·rw[if_neg e2,if_neg (by omega)]
     case measure=>simp[intOf];omega
    ·obtain rfl:j=ks.length:=by omega
     have hjz:¬(ks.length:Int)<(ks.length:Int):=by omega
     have hf4:=hB.frozen 4;have hc4:=hB.cell 4;simp only[List.getElem?_cons_zero,List.getElem?_cons_succ]at hc4
     go_upto_region 12 with(fail)
     refine au (λW=>Bx W W0.heap.size 37 [.int .i64 kd,.int .i64 nn,.int .i64 pl,.string tx,.slice (some ⟨W0.heap.size+1,0,none⟩) ks.length ks.length]/\Ib W (W0.heap.size+1) ks.length (λi=>if i<ks.length then wrap64 (ks.getD i 0+d) else 0)/\Below W0.heap.size W0 W)
      ⟨hB.set_ 4 _,hG2.far (by show W0.heap.size+1≠W0.heap.size;omega) _,hb2.setCell (p:=⟨W0.heap.size,4,none⟩) (Nat.le_refl _) _⟩ ?_
     clear hB hG2 hb2 hf4 hc4;rintro W ⟨hB,hG2,hb2⟩;have hN2:=hM.n.same (hb2.block _ hz);have b0:=hB.cell 0;have b1:=hB.cell 1;have b2:=hB.cell 2;have b3:=hB.cell 3;have b4:=hB.cell 4;simp only[List.getElem?_cons_zero,List.getElem?_cons_succ]at b0 b1 b2 b3 b4;have n0:=hN2.cell hlt (show 0<5 by omega);have n1:=hN2.cell hlt (show 1<5 by omega);have n2:=hN2.cell hlt (show 2<5 by omega);have n3:=hN2.cell hlt (show 3<5 by omega);have n4:=hN2.cell hlt (show 4<5 by omega);rw[Nat.add_zero]at n0;have g0:=hN2.frozen (p*5);have g1:=hN2.frozen (p*5+1);have g2:=hN2.frozen (p*5+2);have g3:=hN2.frozen (p*5+3);have g4:=hN2.frozen (p*5+4);generalize (if p<p then ((wQ d l g p).cv)[0]! else zN[0]!)=o0 at n0;generalize (if p<p then ((wQ d l g p).cv)[1]! else zN[1]!)=o1 at n1;generalize (if p<p then ((wQ d l g p).cv)[2]! else zN[2]!)=o2 at n2;generalize (if p<p then ((wQ d l g p).cv)[3]! else zN[3]!)=o3 at n3;generalize (if p<p then ((wQ d l g p).cv)[4]! else zN[4]!)=o4 at n4;have HM:=hid hM;have HG2:=hid hG2;have HB2:=hid hb2;clear hM hG2 hb2 hB hN2;go_wp2
     go_roundw
     case rel=>
      refine⟨p+1,_,by omega,by go_num,HM.out.step HB2.out hz (kb:=W0.heap.size+1) (by omega) hlt ?_ _ _ _ _ _ ?_⟩
      ·rw[HX.out];refine HG2.out.congr λi hi =>?_
       rw[if_pos hi];show _=(ks.map _).getD i 0;have h7:i<(ks.map λk=>wrap64 (k+d)).length:=by simpa using hi
       simp[List.getD,hi]
      ·rw[HX.out];unfold AN.cv tK;simp
     case measure=>simp[intOf];omega
  ·obtain rfl:p=n:=by omega
   have hlz:¬(p:Int)<(p:Int):=by omega
   have HP:=hid (hM.post HL.out hl);clear hM;go_wp2
   go_ret
   exact HP.out
def wM (l:List Nd)(r:Int)(w:World)(e:Ending)(w':World):Prop:=∃A c,e=.returned (.agg #[.slice A l.length c,.int .i64 r])/\eH w' A l/\l.length<=c/\Below w.heap.size w w'
theorem nu {base k i n:Nat}{e:TypeId}{size:Nat}{v u:Value}{xs:List Value}{w:World}(h:w.ownsRow base e size v n xs)(hk:k<base):(w.setCell ⟨k,i,none⟩ u).ownsRow base e size v n xs:=by
 refine⟨h.1,h.2.imp id ?_⟩;rintro⟨g,cap,cur,h1,h2,h3,h4⟩;exact⟨g,cap,cur,h1,h2,(heap_setCell_other w _ g _ (by show g≠k;omega)).trans h3,h4⟩
theorem qi {base k i:Nat}{u:Value}{ls:List AN}{w:World}(h:Al base w ls)(hk:k<base):Al base (w.setCell ⟨k,i,none⟩ u) ls:=h.keep λb hb _ _ _=>heap_setCell_other w _ b _ (by show b≠k;omega)
theorem En {base n:Nat}{c:Nat}{A:Option Addr}{ls:List AN}{l:List Nd}{r r':Int}{w w':World}(h:w'.ownsRow base 37 5 (.slice A n c) n (fl ls))(hA:Al base w' ls)(hm:ls.map AN.nd=l)(hb:Below w.heap.size w w')(hr:r=r'):wM l r w (.returned (.agg #[.slice A n c,.int .i64 r'])) w':=by
 have hl:ls.length=n:=by have:=h.1;rw[fl_len]at this;omega
 have hl2:l.length=n:=by rw[<- hm,List.length_map,hl]
 subst hr;have h':=h;rw[<- hl]at h';obtain⟨A',c',e,hN,_⟩:=KE h' hA;rw[hl]at e;cases e;rw[hm]at hN;have hc:n<=c:=by
  rcases h.2 with⟨e1,e2⟩ |⟨g,cap,cur,e1,_,_,h3,_⟩
  ·omega
  ·cases e1;exact h3
 exact⟨A,c,by rw[hl2],hN,by omega,hb⟩
abbrev Tr:=List Nd × Int
def KG (w:World)(A:Option Addr)(ts:List Tr):Prop:=
 0<ts.length->∃b off,A=some ⟨b,off,none⟩/\b<w.heap.size/\∀j (hj:j<ts.length),∃K c,w.cell? ⟨b,off+j*2,none⟩=some (.slice K ts[j].1.length c)/\w.cell? ⟨b,off+j*2+1,none⟩=some (.int .i64 ts[j].2)/\eH w K ts[j].1
theorem KG.below {w w':World}{A:Option Addr}{ts:List Tr}(h:KG w A ts)(hb:Below w.heap.size w w'):KG w' A ts:=λh0=>by
 obtain⟨b,off,e,hl,hc⟩:=h h0;refine⟨b,off,e,Nat.lt_of_lt_of_le hl hb.size,λj hj =>?_⟩;obtain⟨K,c,c0,c1,hK⟩:=hc j hj;exact⟨K,c,(hb.cell (p:=⟨b,off+j*2,none⟩) hl).trans c0,(hb.cell (p:=⟨b,off+j*2+1,none⟩) hl).trans c1,hK.below hb⟩
def mW (ts:List Tr):List Nd:=ts.foldl (λacc t=>acc++t.1.map (tK (acc.length:Int))) []
theorem uT (ts:List Tr)(t:Tr):mW (ts++[t])=mW ts++t.1.map (tK ((mW ts).length:Int)):=by unfold mW;rw[List.foldl_append];rfl
def Bi (ts:List Tr)(j:Nat):Int:=wrap64 (((mW (ts.take j)).length:Int)+(ts.getD j ([],0)).2)
def rts (ts:List Tr):List Int:=(List.range ts.length).map (Bi ts)
def jZ (kd n pl:Int)(tx:ByteArray)(ts:List Tr):List Nd:=mW ts++[⟨kd,n,pl,tx,rts ts⟩]
theorem jJ {base n:Nat}{v:Value}{ls:List Value}{w:World}(h:w.ownsRow base 37 5 v n ls):∃A c,v=.slice A n c:=by
 rcases h.2 with⟨rfl,e⟩ |⟨g,cap,cur,rfl,_⟩
 ·exact⟨_,_,by rw[e]⟩
 ·exact⟨_,_,rfl⟩
theorem kI {base n:Nat}{v:Value}{ls:List Value}{w:World}(h:w.ownsRow base 37 5 v n ls):∀g,v.ownBlock=some g->∃cs,w.heap[g]?=some (.cells cs 37 (0,0)):=λg hg=>by
 rcases h.2 with⟨rfl,e⟩ |⟨g',cap,cur,rfl,_,h3,_⟩
 ·cases hg
 ·cases hg;exact⟨cur,h3⟩
theorem zK {base base' n:Nat}{v:Value}{ls:List Value}{w:World}(h:w.ownsRow base 37 5 v n ls)(hb:base'<=base):w.ownsRow base' 37 5 v n ls:=
 ⟨h.1,h.2.imp id λ⟨g,cap,cur,h1,h2,h3⟩=>⟨g,cap,cur,h1,Nat.le_trans hb h2,h3⟩⟩
theorem own_below {base n:Nat}{v:Value}{ls:List Value}{w w':World}(h:w.ownsRow base 37 5 v n ls)(hb:Below w.heap.size w w'):w'.ownsRow base 37 5 v n ls:=
 ⟨h.1,h.2.imp id λ⟨g,cap,cur,h1,h2,h3,h4⟩=>⟨g,cap,cur,h1,h2,(hb.block g (Array.getElem?_eq_some_iff.1 h3).1).trans h3,h4⟩⟩
theorem Gv (ls:List AN):∀v ∈ fl ls,v.oneCell'=true:=λv hv=>by
 obtain⟨x,_,hx⟩:=List.mem_flatMap.1 hv;unfold AN.cv at hx;simp at hx;rcases hx with rfl |rfl |rfl |rfl |rfl<;>rfl
structure KH (w:World) (m:Nat) (nv:List Value) (ts:List Tr) (i:Nat) (v:Value) (ls:List AN) (wr:World):Prop where
 x:Bx wr w.heap.size 37 nv
 r:Bx wr (w.heap.size+1) 25 [.slice none 0 0,.int .i64 0]
 g:Ib wr (w.heap.size+1+1) m (λj=>if j<i then Bi ts j else 0)
 o:wr.ownsRow (w.heap.size+3) 37 5 v ls.length (fl ls)
 a:Al (w.heap.size+3) wr ls
 e:ls.map AN.nd=mW (ts.take i)
 b:Below w.heap.size w wr
theorem KH.put {w:World}{m:Nat}{nv:List Value}{ts:List Tr}{i:Nat}{v:Value}{ls:List AN}{wr:World}(h:KH w m nv ts i v ls wr)(hi:i<ts.length){x:Int}(hx:x=Bi ts i) :
  Bx (wr.setCell ⟨w.heap.size+1+1,i,none⟩ (.int .i64 x)) w.heap.size 37 nv/\Bx (wr.setCell ⟨w.heap.size+1+1,i,none⟩ (.int .i64 x)) (w.heap.size+1) 25 [.slice none 0 0,.int .i64 0] /\
  Ib (wr.setCell ⟨w.heap.size+1+1,i,none⟩ (.int .i64 x)) (w.heap.size+1+1) m (λj=>if j<i+1 then Bi ts j else 0)/\(wr.setCell ⟨w.heap.size+1+1,i,none⟩ (.int .i64 x)).ownsRow (w.heap.size+3) 37 5 v ls.length (fl ls) /\
  Al (w.heap.size+3) (wr.setCell ⟨w.heap.size+1+1,i,none⟩ (.int .i64 x)) ls/\Below w.heap.size w (wr.setCell ⟨w.heap.size+1+1,i,none⟩ (.int .i64 x)):=by
 refine⟨h.x.far (by show w.heap.size≠w.heap.size+1+1;omega) _,h.r.far (by show w.heap.size+1≠w.heap.size+1+1;omega) _,(h.g.set_ i x).congr λj _ =>?_,nu h.o (by omega),qi h.a (by omega),h.b.setCell (p:=⟨w.heap.size+1+1,i,none⟩) (by show _<=w.heap.size+1+1;omega) _⟩;by_cases e:j=i
 ·subst e;rw[if_pos rfl,if_pos (by omega),hx]
 ·rw[if_neg e];by_cases e2:j<i
  ·rw[if_pos e2,if_pos (by omega)]
  ·rw[if_neg e2,if_neg (by omega)]
theorem KH.alloc {w:World}{m:Nat}{nv:List Value}{ts:List Tr}{i:Nat}{v:Value}{ls:List AN}{wr:World}(h:KH w m nv ts i v ls wr)(o:Obj):KH w m nv ts i v ls (wr.alloc o):=
 ⟨h.x.alloc _,h.r.alloc _,h.g.alloc _,own_below h.o (aa _ _),h.a.alloc _,h.e,h.b.alloc h.b.size _⟩
theorem wS {base g n:Nat}{ms:List AN}{w:World}(h:w.ownsRow base 37 5 (.slice (some ⟨g,0,none⟩) n n) n (fl ms)):∀j u,(fl ms)[j]?=some u->w.cell? ((⟨g,0,none⟩:Addr).add j)=some u:=λj u hj=>by
 rcases h.2 with⟨e,_⟩ |⟨g',cap,cur,e,_,h3,_,_,_,ht⟩
 ·cases e
 ·cases e;have hl:=h.1;have hj2:j<(fl ms).length:=(List.getElem?_eq_some_iff.1 hj).1;rw[show(⟨g,0,none⟩:Addr).add j=⟨g,j,none⟩by simp[Addr.add];omega,cell_of_row w g j cur 37 (0,0) h3];rw[<- ht,List.getElem?_take,if_pos (by omega)]at hj;simpa using hj
theorem zL (kd nn pl:Int)(tx:ByteArray)(K0:Option Addr)(n0 c0:Nat)(A:Option Addr)(m c:Nat)(ts:List Tr)(w:World)(hT:KG w A ts)(hm:m=ts.length)(hm2:m<=4000)(ht:∀t ∈ ts,t.1.length<=4000/\∀x ∈ t.1,x.ks.length<=4000)(hs:(mW ts).length<=10000000)(hs2:∀i,(mW (ts.take i)).length<=10000000) :
  Calls Tryz.prog 32 #[.agg #[.int .i64 kd,.int .i64 nn,.int .i64 pl,.string tx,.slice K0 n0 c0],.slice A m c] w (wM (jZ kd nn pl tx ts) ((mW ts).length:Int) w):=by
 obtain⟨i0,hi,hz0,hz1,hz2⟩:=info_parts sF;have e0:∀(w':World) (o:Obj),(w'.alloc o).heap.size=w'.heap.size+1:=λw' o=>World.size_alloc w' o
 have HT:=hid hT;have HM:=hid hm;have HTS:=hid ht;have HS:=hid hs;have HS2:=hid hs2;clear hT hm ht hs hs2;have hmk:=λw'=>sD m (by omega) w'
 go_enter Tryz.func32,Tryz.ntmps32
 go_wp2;clear hmk
 go_loopw [5,14] (λv i wr=>∃(k:Nat) (ls:List AN),k<=m/\i=.int .i64 (k:Int)/\KH w m [.int .i64 kd,.int .i64 nn,.int .i64 pl,.string tx,.slice K0 n0 c0] ts k v ls wr) (λ_ i _=>m-(intOf i).toNat)
 case atStart=>
  refine⟨0,[],Nat.zero_le _,rfl,((Bx.new w 37 _).alloc _).alloc _,?_,?_,World.ownsRow_nil _ _ _ _,λx hx=>(by cases hx),rfl,((aa w _).alloc (by rw[e0];omega) _).alloc (by rw[e0,e0];omega) _⟩
  ·have:=(Bx.new (w.alloc (.cells #[.int .i64 kd,.int .i64 nn,.int .i64 pl,.string tx,.slice K0 n0 c0] 37)) 25 [.slice none 0 0,.int .i64 0]).alloc (.cells (wm m λ_=>0) 3);rw[e0]at this;exact this
  ·have:=World.alloc_heap_new ((w.alloc (.cells #[.int .i64 kd,.int .i64 nn,.int .i64 pl,.string tx,.slice K0 n0 c0] 37)).alloc (.cells #[.slice none 0 0,.int .i64 0] 25)) (.cells (wm m λ_=>0) 3);rw[e0,e0]at this;exact(show Ib _ _ _ _ from this).congr λi _=>(if_neg (Nat.not_lt_zero i)).symm
 case round=>
  obtain⟨k,ls,hk,rfl,hO⟩:=hrel;obtain⟨V,cV,rfl⟩:=jJ hO.o;have HLEN:=hid (show ls.length=(mW (ts.take k)).length by rw[<- hO.e,List.length_map]);have hlb:ls.length<=10000000:=by rw[HLEN.out];exact HS2.out k
  obtain⟨q,hq⟩:∃q,q=ls.length:=⟨_,rfl⟩;have HQ:=hid hq;rw[<- hq]at hlb |-;clear hq;by_cases hlt:k<m
  ·have hlz:(k:Int)<(m:Int):=by omega
   have hkt:k<ts.length:=by rw[<- HM.out];exact hlt
   obtain⟨bA,off,rfl,hbl,hc⟩:=HT.out (by omega);obtain⟨K,ck,d0',d1',hN⟩:=hc k hkt;have d0:=(hO.b.cell (p:=⟨bA,off+k*2,none⟩) hbl).trans d0';have d1:=(hO.b.cell (p:=⟨bA,off+k*2+1,none⟩) hbl).trans d1';clear d0' d1';obtain⟨ht1,ht2⟩:=HTS.out _ (List.getElem_mem hkt);have HTK:=hid (show ts.getD k ([],0)=ts[k]by simp[List.getD,hkt]);have HTT:=hid (show ts.take (k+1)=ts.take k++[ts[k]]from List.take_succ_eq_append_getElem hkt);clear hc;generalize ts[k]=t at *
   obtain⟨tn,tr⟩:=t;dsimp only at d0 d1 hN ht1 ht2;have HRT:=hid (show wrap64 ((q:Int)+tr)=Bi ts k by unfold Bi;rw[HTK.out,HQ.out,HLEN.out]);have hcg:=hO.g.cell hlt;have hfg:=hO.g.frozen k;have HP:=hid (hO.put hkt HRT.out);have HE:=hid hO.e;have HN:=hid hN;have hwz:w.heap.size+1+1<wr.heap.size:=hO.g.lt;clear hO hN
   go_upto_region 7 with(fail)
   refine au (λW=>Bx W wr.heap.size 25 [.slice K tn.length ck,.int .i64 tr]/\Bx W w.heap.size 37 [.int .i64 kd,.int .i64 nn,.int .i64 pl,.string tx,.slice K0 n0 c0]/\Bx W (w.heap.size+1) 25 [.slice none 0 0,.int .i64 0] /\
    Ib W (w.heap.size+1+1) m (λj=>if j<k+1 then Bi ts j else 0)/\W.ownsRow (w.heap.size+3) 37 5 (.slice V ls.length cV) ls.length (fl ls)/\Al (w.heap.size+3) W ls/\Below w.heap.size w W) ?_ ?_
   ·obtain⟨p1,p2,p3,p4,p5,p6⟩:=HP.out;have:=Bx.new (wr.setCell ⟨w.heap.size+1+1,k,none⟩ (.int .i64 (wrap64 ((q:Int)+tr)))) 25 [.slice K tn.length ck,.int .i64 tr];rw[World.size_setCell]at this;exact⟨this,p1.alloc _,p2.alloc _,p3.alloc _,own_below p4 (aa _ _),p5.alloc _,p6.alloc p6.size _⟩
   clear HP hcg hfg d0 d1;rintro W ⟨hX1,hx1,hr1,hg1,ho1,ha1,hb1⟩;have hN1:=HN.out.below hb1;have hc0:=hX1.cell 0;simp only[List.getElem?_cons_zero]at hc0;have HMV:=hid (wR K ck tn.length tn (q:Int) W hN1 rfl (by omega) ht2);clear hN1;go_wp2_with (go_at_call 79;refine HMV.out.mono ?_);clear HMV;rintro e w3 ⟨ms,rfl,hom,hmm,ham,hb3⟩;have hml:ms.length=tn.length:=by have:=congrArg List.length hmm;simpa using this
   have ho3:=own_below ho1 hb3;rw[<- HQ.out]at ho3;go_wp2_with (first
    |(at_builtin;refine wpList_append_own _ rfl _ _ 23 rfl (w.heap.size+3) 37 i0 (.agg #[.int .i64 0,.int .i64 0,.int .i64 0,.string ⟨#[]⟩,.slice none 0 0]) 5 64 Tryz.underlying23 hi hz0 hz1 hz2 rfl (by decide) _ _ _ rfl ho3 ⟨W.heap.size,0,none⟩ tn.length tn.length (fl ms) rfl (by rw[fl_len,hml]) (wS hom) (Gv ms) ?c3 ?c4 ?c5 ?_))
   case c3=>unfold maxLen;omega
   case c4=>omega
   case c5=>have:=hb3.size;have:=hX1.lt;omega
   intro v' w4 hown4 hgrow4 _;have hzW:w.heap.size+3<=W.heap.size:=by have:=hX1.lt;omega
   have hnb:∀b,b<w.heap.size+3->some b≠(Value.slice V q cV).ownBlock:=λb hb e=>by have:=(ho3.lt b e.symm).1;omega
   have hfin:KH w m [.int .i64 kd,.int .i64 nn,.int .i64 pl,.string tx,.slice K0 n0 c0] ts (k+1) v' (ls++ms) w4:=by
    refine⟨(hx1.below hb3 hx1.lt).grown hgrow4 (hnb _ (by omega)),(hr1.below hb3 hr1.lt).grown hgrow4 (hnb _ (by omega)),(hg1.below hb3 hg1.lt).grown hgrow4 (hnb _ (by omega)),?_,((ha1.below hb3).grown hgrow4 (kI ho3)).app ((ham.mono hzW).grown hgrow4 (kI ho3)),?_,?_⟩
    ·rw[List.length_append,yw,<- HQ.out,hml];exact hown4
    ·rw[List.map_append,HE.out,hmm,HTT.out,uT];have:((mW (ts.take k)).length:Int)=(q:Int):=by rw[HQ.out,HLEN.out]
     rw[this]
    ·exact(hb1.trans (hb3.mono hb1.size)).grown hgrow4 (by have:=hb1.size;have:=hb3.size;omega) (λb hb=>by have:=(ho3.lt b hb).1;omega)
   have HF:=hid hfin;clear hfin hown4 hgrow4 ho3 hnb hb3 ham hom hmm ha1 ho1 hg1 hr1 hx1 hX1 hc0;go_wp2
   go_roundw
   case rel=>exact⟨k+1,ls++ms,by omega,by go_num,HF.out⟩
   case measure=>simp[intOf];omega
  ·obtain rfl:k=m:=by omega
   have hlz:¬(k:Int)<(k:Int):=by omega
   have hcx:=hO.x.cell 4;have hfx:=hO.x.frozen 4;simp only[List.getElem?_cons_zero,List.getElem?_cons_succ]at hcx;have HO:=hid hO;clear hO
   go_upto_region 10 with(fail)
   refine au (λW=>Bx W w.heap.size 37 [.int .i64 kd,.int .i64 nn,.int .i64 pl,.string tx,.slice (some ⟨w.heap.size+1+1,0,none⟩) k k]/\Bx W (w.heap.size+1) 25 [.slice none 0 0,.int .i64 0] /\
    Ib W (w.heap.size+1+1) k (λj=>if j<k then Bi ts j else 0)/\W.ownsRow (w.heap.size+3) 37 5 (.slice V ls.length cV) ls.length (fl ls)/\Al (w.heap.size+3) W ls/\Below w.heap.size w W) ?_ ?_
   ·have h:=HO.out;exact⟨h.x.set_ 4 _,h.r.far (by show w.heap.size+1≠w.heap.size;omega) _,h.g.far (by show w.heap.size+1+1≠w.heap.size;omega) _,nu h.o (by omega),qi h.a (by omega),h.b.setCell (p:=⟨w.heap.size,4,none⟩) (Nat.le_refl _) _⟩
   have HE:=hid HO.out.e;clear HO hcx hfx;rintro W ⟨hx1,hr1,hg1,ho1,ha1,hb1⟩;have b0:=hx1.cell 0;have b1:=hx1.cell 1;have b2:=hx1.cell 2;have b3:=hx1.cell 3;have b4:=hx1.cell 4;simp only[List.getElem?_cons_zero,List.getElem?_cons_succ]at b0 b1 b2 b3 b4;rw[<- HQ.out]at ho1;have hzW:w.heap.size+3<=W.heap.size:=by have:=hg1.lt;omega
   have HH:=hid (And.intro hr1 (And.intro hg1 (And.intro ho1 (And.intro ha1 hb1))));clear hx1 hr1 hg1 ha1 hb1;go_wp2_with (first
    |(at_builtin;refine wpList_append_own _ rfl _ _ 23 rfl (w.heap.size+3) 37 i0 (.agg #[.int .i64 0,.int .i64 0,.int .i64 0,.string ⟨#[]⟩,.slice none 0 0]) 5 64 Tryz.underlying23 hi hz0 hz1 hz2 rfl (by decide) _ _ _ rfl (own_below ho1 (aa W _)) ⟨W.heap.size,0,none⟩ 1 1 [.int .i64 kd,.int .i64 nn,.int .i64 pl,.string tx,.slice (some ⟨w.heap.size+1+1,0,none⟩) k k] rfl rfl ?c1 ?c2 ?c3 ?c4 ?c5 ?_))
   case c2=>exact⟨rfl,rfl,rfl,rfl,rfl⟩
   case c3=>unfold maxLen;omega
   case c4=>omega
   case c5=>omega
   intro v' w4 hown4 hgrow4 _;obtain⟨A',c',rfl⟩:=jJ hown4;obtain⟨hr1,hg1,_,ha1,hb1⟩:=HH.out;have hoA:=own_below ho1 (aa W (.cells #[.int .i64 kd,.int .i64 nn,.int .i64 pl,.string tx,.slice (some ⟨w.heap.size+1+1,0,none⟩) k k] 37));have hnb:∀b,b<w.heap.size+3->some b≠(Value.slice V q cV).ownBlock:=λb hb e=>by have:=(hoA.lt b e.symm).1;omega
   have hr4:=(hr1.alloc _).grown hgrow4 (hnb _ (by omega));have hg4:=(hg1.alloc _).grown hgrow4 (hnb _ (by omega));have ha4:=(ha1.alloc _).grown hgrow4 (kI hoA);have hb4:=(hb1.alloc hb1.size _).grown hgrow4 (by rw[e0];omega) (λb hb=>by have:=(hoA.lt b hb).1;omega);have hcr0:=hr4.cell 0;have hcr1:=hr4.cell 1;have hfr0:=hr4.frozen 0;have hfr1:=hr4.frozen 1;simp only[List.getElem?_cons_zero,List.getElem?_cons_succ]at hcr0 hcr1;have HR4:=hid hr4;have HG4:=hid hg4;have HA4:=hid ha4;have HB4:=hid hb4;have HO4:=hid hown4;clear hr1 hg1 ha1 hb1 hoA hnb hr4 hg4 ha4 hb4 hown4 hgrow4 ho1 HH;go_wp2;have hE3:=(HR4.out.set_ 0 (.slice A' (q+1) c')).set_ 1 (.int .i64 (q:Int));have ho3:=nu (i:=1) (u :=.int .i64 (q:Int)) (nu (i:=0) (u :=.slice A' (q+1) c') HO4.out (show w.heap.size+1<w.heap.size+3 by omega)) (show w.heap.size+1<w.heap.size+3 by omega);have ha3:=qi (i:=1) (u :=.int .i64 (q:Int)) (qi (i:=0) (u :=.slice A' (q+1) c') HA4.out (show w.heap.size+1<w.heap.size+3 by omega)) (show w.heap.size+1<w.heap.size+3 by omega);have hg3:=(HG4.out.far (p:=⟨w.heap.size+1,0,none⟩) (by show w.heap.size+1+1≠w.heap.size+1;omega) (.slice A' (q+1) c')).far (p:=⟨w.heap.size+1,1,none⟩) (by show w.heap.size+1+1≠w.heap.size+1;omega) (.int .i64 (q:Int));have hb3:=(HB4.out.setCell (p:=⟨w.heap.size+1,0,none⟩) (by show _<=w.heap.size+1;omega) (.slice A' (q+1) c')).setCell (p:=⟨w.heap.size+1,1,none⟩) (by show _<=w.heap.size+1;omega) (.int .i64 (q:Int))
   generalize (w4.setCell ⟨w.heap.size+1,0,none⟩ (.slice A' (q+1) c')).setCell ⟨w.heap.size+1,1,none⟩ (.int .i64 (q:Int))=W3 at *
   have hr0:=hE3.cell 0;have hr1:=hE3.cell 1;simp only[List.set_cons_zero,List.set_cons_succ,List.getElem?_cons_zero,List.getElem?_cons_succ]at hr0 hr1;have hrl:(rts ts).length=k:=by unfold rts;rw[List.length_map,List.length_range];exact HM.out.symm
   have hov:ls.map AN.nd=mW ts:=by rw[HE.out,List.take_of_length_le (by rw[<- HM.out];omega)]
   refine bodyPost_ret (v :=.agg #[.slice A' (q+1) c',.int .i64 (q:Int)]) (by simp[results,Tryz.f32,go_sem,hr0,hr1]) rfl (En (base:=w.heap.size) (ls:=ls++[⟨⟨kd,nn,pl,tx,rts ts⟩,w.heap.size+1+1⟩]) ?_ ?_ ?_ hb3 ?_)
   ·rw[yw];refine zK (base:=w.heap.size+3) ?_ (by omega);rw[show fl [⟨⟨kd,nn,pl,tx,rts ts⟩,w.heap.size+1+1⟩]=[.int .i64 kd,.int .i64 nn,.int .i64 pl,.string tx,.slice (some ⟨w.heap.size+1+1,0,none⟩) k k]by show AN.cv _++[]=_;unfold AN.cv;rw[hrl];rfl];exact ho3
   ·refine(ha3.mono (by omega)).app λx hx =>?_
    obtain rfl:x=⟨⟨kd,nn,pl,tx,rts ts⟩,w.heap.size+1+1⟩:=by simpa using hx
    refine⟨by show w.heap.size<=w.heap.size+1+1;omega,?_⟩;show Ib W3 (w.heap.size+1+1) (rts ts).length (λi=>(rts ts).getD i 0);rw[hrl];refine hg3.congr λi hi =>?_
    have h7:i<ts.length:=by rw[<- HM.out];exact hi
    rw[if_pos hi];unfold rts;simp[List.getD,h7]
   ·rw[List.map_append,hov];rfl
   ·rw[HQ.out,HLEN.out,List.take_of_length_le (by rw[<- HM.out];omega)]
theorem wrap_small {x:Int}(h1 : -4000000<=x)(h2:x<=4000000):wrap64 x=x:=by
 unfold wrap64;omega
def iK (acc:List Nd)(t:Tr):List Nd:=acc++t.1.map (tK (acc.length:Int))
def Ou:List Nd->List Tr->List Int
 |_,[]=>[]
 |acc,t :: ts=>wrap64 ((acc.length:Int)+t.2) :: Ou (iK acc t) ts
theorem Gw:∀(ts:List Tr) (acc:List Nd),(List.range ts.length).map (λj=>wrap64 (((ts.take j).foldl iK acc).length+(ts.getD j ([],0)).2))=Ou acc ts
 | [],_=>rfl
 |t :: ts,acc=>by
  rw[List.length_cons,List.range_succ_eq_map,List.map_cons,List.map_map];show _ :: _=_ :: _;congr 1;rw[<- Gw ts (iK acc t)];apply List.map_congr_left;intro j _;rfl
theorem Ov (ts:List Tr):rts ts=Ou [] ts:=by rw[<- Gw];rfl
structure Fo (acc:List Nd) (rs:List Int) (b d:Nat->Nat) (D:Nat):Prop where
 st:kr acc b acc.length
 dp:xE acc d acc.length
 ch:gW b rs.reverse acc.length=some 0
 dx:rs.foldl (λa k=>max a (d k.toNat)) 0=D
theorem wT {acc ys:List Nd}{q:Nat}(h:q<acc.length):aJ (acc++ys) q=aJ acc q:=by
 rw[eP (show q<(acc++ys).length by rw[List.length_append];omega),eP h,List.getElem_append_left h]
theorem uU {acc ys:List Nd}{q:Nat}(h:acc.length<=q)(h2:q<acc.length+ys.length):aJ (acc++ys) q=aJ ys (q-acc.length):=by
 rw[eP (show q<(acc++ys).length by rw[List.length_append];omega),eP (show q-acc.length<ys.length by omega),List.getElem_append_right h]
theorem KJ {tl:List Nd}{b:Nat->Nat}{off q:Nat}(hS:kr tl b tl.length)(hl:tl.length<=4000)(ho:off<=1000000)(hq:q<tl.length):aJ (tl.map (tK (off:Int))) q=(aJ tl q).map λk=>k+(off:Int):=by
 rw[eP (show q<(tl.map (tK (off:Int))).length by rw[List.length_map];exact hq),List.getElem_map,eP hq];show List.map _ _=_;apply List.map_congr_left;intro k hk;have hk':k ∈ aJ tl q:=by rw[eP hq];exact hk
 obtain⟨m,rfl,hm,_⟩:=hS.kid hq hk';exact wrap_small (by omega) (by omega)
theorem Fo.step {acc:List Nd}{rs:List Int}{b d:Nat->Nat}{D:Nat}(h:Fo acc rs b d D){t:Tr}(ht:gV t.1 t.2)(hb:(iK acc t).length<=1000000) :
  ∃b' d',Fo (iK acc t) (rs++[wrap64 ((acc.length:Int)+t.2)]) b' d' (max D (dpt t.1 t.2)):=by
 have hdpt:=jR ht;obtain⟨tl,tr⟩:=t;obtain⟨bt,h1,h2,h3,h4,h5⟩:=ht;dsimp only at h1 h2 h3 h4 h5 hdpt;have hlen:(iK acc (tl,tr)).length=acc.length+tl.length:=by unfold iK;rw[List.length_append,List.length_map]
 rw[hlen]at hb;obtain⟨off,hoff⟩:∃off,off=acc.length:=⟨_,rfl⟩;have hD:=zf h4;have hr:wrap64 ((acc.length:Int)+tr)=((off+tl.length-1:Nat):Int):=by rw[h3,wrap_small (by omega) (by omega)];omega
 have hkl:∀q,q<off->aJ (iK acc (tl,tr)) q=aJ acc q:=λq hq=>wT (by omega)
 have hkr:∀q,off<=q->q<off+tl.length->aJ (iK acc (tl,tr)) q=(aJ tl (q-off)).map λk=>k+(off:Int):=λq hq hq2=>by
  show aJ (acc++tl.map (tK (acc.length:Int))) q=_;rw[uU (by omega) (by rw[List.length_map];omega),<- hoff];exact KJ h4 h2 (by omega) (by omega)
 have hdc:dpt tl tr=dpL tl tl.length (tl.length-1):=hdpt;show∃b' d',Fo (iK acc (tl,tr)) (rs++[wrap64 ((acc.length:Int)+tr)]) b' d' (max D (dpt tl tr));refine⟨λq=>if q<off then b q else bt (q-off)+off,λq=>if q<off then d q else dpL tl tl.length (q-off),?_,?_,?_,?_⟩
 ·intro q hq;rw[hlen]at hq;by_cases hq1:q<off
  ·rw[hkl q hq1];show _=some (if q<off then b q else bt (q-off)+off);rw[if_pos hq1,<- h.st q (by omega)];refine(fZ _ q (λr hr =>?_) (λr hr=>h.st.le r (by omega))).symm;show b r=if r<off then b r else bt (r-off)+off
   rw[if_pos (by omega)]
  ·rw[hkr q (by omega) (by omega),<- List.map_reverse];have:=Fp (d:=off) (c:=λq=>if q<off then b q else bt (q-off)+off) _ (q-off) _ (λr hr=>h4.le r (by omega)) (h4 (q-off) (by omega)) (λr _=>by
    show(if r+off<off then b (r+off) else bt (r+off-off)+off)=bt r+off;rw[if_neg (by omega),Nat.add_sub_cancel])
   rw[show q-off+off=q by omega]at this;show _=some (if q<off then b q else bt (q-off)+off);rw[if_neg hq1];exact this
 ·intro q hq;rw[hlen]at hq;by_cases hq1:q<off
  ·rw[hkl q hq1];show(if q<off then d q else dpL tl tl.length (q-off))=_;rw[if_pos hq1,h.dp q (by omega)];refine lW λk hk =>?_
   obtain⟨m,rfl,hm,_⟩:=h.st.kid (show q<acc.length by omega) hk;show d (m:Int).toNat=if (m:Int).toNat<off then d (m:Int).toNat else _
   rw[if_pos (by rw[Int.toNat_natCast];omega)]
  ·rw[hkr q (by omega) (by omega)];show(if q<off then d q else dpL tl tl.length (q-off))=_;rw[if_neg hq1,hD (q-off) (by omega)];refine(JP λk hk =>?_).symm;obtain⟨m,rfl,hm,_⟩:=h4.kid (show q-off<tl.length by omega) hk;show(if ((m:Int)+(off:Int)).toNat<off then _ else dpL tl tl.length (((m:Int)+(off:Int)).toNat-off))=dpL tl tl.length (m:Int).toNat;rw[if_neg (by omega)];congr 1;omega
 ·rw[List.reverse_append,hr,hlen];show gW _ (((off+tl.length-1:Nat):Int) :: rs.reverse) _=_;unfold gW;rw[if_neg (by omega),if_pos (by omega)];show gW _ rs.reverse (if acc.length+tl.length-1<off then _ else bt (acc.length+tl.length-1-off)+off)=_;rw[if_neg (by omega),show acc.length+tl.length-1-off=tl.length-1 by omega,h5,Nat.zero_add,<- h.ch,hoff];refine(fZ _ acc.length (λr hr =>?_) (λr hr=>h.st.le r hr)).symm;show b r=if r<acc.length then b r else _
  rw[if_pos hr]
 ·rw[List.foldl_append,hr];show max _ _=_;have hold:rs.foldl (λa k=>max a (if k.toNat<off then d k.toNat else dpL tl tl.length (k.toNat-off))) 0=D:=by
   rw[<- h.dx];refine lh (f:=λk=>if k.toNat<off then d k.toNat else dpL tl tl.length (k.toNat-off)) (g:=λk=>d k.toNat) rs 0 λk hk =>?_
   obtain⟨m,rfl,hm,_⟩:=qR _ _ _ (λq hq=>h.st.le q hq) h.ch k (List.mem_reverse.2 hk);show(if (m:Int).toNat<off then d (m:Int).toNat else _)=_;rw[if_pos (by rw[Int.toNat_natCast];omega)]
  rw[hold,hdc];congr 1;show(if (((off+tl.length-1:Nat):Int)).toNat<off then _ else dpL tl tl.length ((((off+tl.length-1:Nat):Int)).toNat-off))=_;rw[Int.toNat_natCast,if_neg (by omega)];congr 1;omega
theorem zM:∀(ts:List Tr) (acc:List Nd),acc.length<=(ts.foldl iK acc).length
 | [],_=>Nat.le_refl _
 |t :: ts,acc=>by
  rw[List.foldl_cons];refine Nat.le_trans ?_ (zM ts (iK acc t));unfold iK;rw[List.length_append];omega
theorem CW:∀(ts:List Tr) (acc:List Nd) (rs:List Int) (D:Nat),(∃b d,Fo acc rs b d D)->(∀t ∈ ts,gV t.1 t.2)->(ts.foldl iK acc).length<=1000000 ->
  ∃b d,Fo (ts.foldl iK acc) (rs++Ou acc ts) b d (ts.foldl (λa t=>max a (dpt t.1 t.2)) D)
 | [],acc,rs,D,h,_,_=>by
  show∃b d,Fo acc (rs++[]) b d D;rw[List.append_nil];exact h
 |t :: ts,acc,rs,D,⟨b,d,h⟩,ht,hl=>by
  rw[List.foldl_cons]at hl;have h1:=h.step (ht t (by simp)) (Nat.le_trans (zM ts _) hl);have h2:=CW ts (iK acc t) _ _ h1 (λx hx=>ht x (by simp[hx])) hl;show∃b d,Fo (ts.foldl iK (iK acc t)) (rs++(wrap64 ((acc.length:Int)+t.2) :: Ou (iK acc t) ts)) b d (ts.foldl (λa t=>max a (dpt t.1 t.2)) (max D (dpt t.1 t.2)));rw[show rs++(wrap64 ((acc.length:Int)+t.2) :: Ou (iK acc t) ts)=rs++[wrap64 ((acc.length:Int)+t.2)]++Ou (iK acc t) ts by rw[List.append_assoc];rfl];exact h2
noncomputable def uV (ts:List Tr):Nat:=ts.foldl (λa t=>max a (dpt t.1 t.2)) 0
theorem kT {kd n pl:Int}{tx:ByteArray}{ts:List Tr}(ht:∀t ∈ ts,gV t.1 t.2)(hl:(mW ts).length<=1000000)(h4:(jZ kd n pl tx ts).length<=4000) :
  gV (jZ kd n pl tx ts) ((mW ts).length:Int)/\dpt (jZ kd n pl tx ts) ((mW ts).length:Int)=uV ts+1:=by
 have h0:∃b d,Fo [] [] b d 0:=⟨λ_=>0,λ_=>0,⟨λq hq=>absurd hq (Nat.not_lt_zero q),λq hq=>absurd hq (Nat.not_lt_zero q),rfl,rfl⟩⟩;obtain⟨b,d,hF⟩:=CW ts [] [] 0 h0 ht hl;rw[List.nil_append,<- Ov]at hF;obtain⟨acc,hacc⟩:∃acc,acc=mW ts:=⟨_,rfl⟩;have hF':Fo acc (rts ts) b d (uV ts):=by rw[hacc];exact hF
 have hL:jZ kd n pl tx ts=acc++[⟨kd,n,pl,tx,rts ts⟩]:=by rw[hacc];rfl
 rw[hL]at h4 |-;rw[<- hacc];have hlen:(acc++[(⟨kd,n,pl,tx,rts ts⟩:Nd)]).length=acc.length+1:=by rw[List.length_append];rfl
 have hkl:∀q,q<acc.length->aJ (acc++[(⟨kd,n,pl,tx,rts ts⟩:Nd)]) q=aJ acc q:=λq hq=>wT hq
 have hkr:aJ (acc++[(⟨kd,n,pl,tx,rts ts⟩:Nd)]) acc.length=rts ts:=by
  rw[uU (Nat.le_refl _) (by show _<_+1;omega),Nat.sub_self];rfl
 have hS:kr (acc++[(⟨kd,n,pl,tx,rts ts⟩:Nd)]) (λq=>if q<acc.length then b q else 0) (acc.length+1):=λq hq=>by
  have hcg:∀(ks:List Int) (s:Nat),s<=acc.length->gW (λq=>if q<acc.length then b q else 0) ks s=gW b ks s:=λks s hs=>
   (fZ ks s (λr hr=>by show b r=if r<acc.length then b r else 0;rw[if_pos (by omega)]) (λr hr=>hF'.st.le r (by omega))).symm
  by_cases hq1:q<acc.length
  ·rw[hkl q hq1,hcg _ _ (by omega),hF'.st q hq1];show _=some (if q<acc.length then b q else 0);rw[if_pos hq1]
  ·obtain rfl:q=acc.length:=by omega
   rw[hkr,hcg _ _ (Nat.le_refl _),hF'.ch];show _=some (if acc.length<acc.length then _ else 0);rw[if_neg (by omega)]
 have hD:xE (acc++[(⟨kd,n,pl,tx,rts ts⟩:Nd)]) (λq=>if q<acc.length then d q else uV ts+1) (acc.length+1):=λq hq=>by
  by_cases hq1:q<acc.length
  ·rw[hkl q hq1];show(if q<acc.length then d q else _)=_;rw[if_pos hq1,hF'.dp q hq1];refine lW λk hk =>?_
   obtain⟨m,rfl,hm,_⟩:=hF'.st.kid hq1 hk;show d (m:Int).toNat=if (m:Int).toNat<acc.length then d (m:Int).toNat else _
   rw[if_pos (by rw[Int.toNat_natCast];omega)]
  ·obtain rfl:q=acc.length:=by omega
   rw[hkr];show(if acc.length<acc.length then _ else uV ts+1)=_;rw[if_neg (by omega),<- hF'.dx];show r_ d (rts ts)=_;refine lW λk hk =>?_
   obtain⟨m,rfl,hm,_⟩:=qR _ _ _ (λq hq=>hF'.st.le q hq) hF'.ch k (List.mem_reverse.2 hk);show d (m:Int).toNat=if (m:Int).toNat<acc.length then d (m:Int).toNat else _
   rw[if_pos (by rw[Int.toNat_natCast];omega)]
 have hSd:Sd (acc++[(⟨kd,n,pl,tx,rts ts⟩:Nd)]) (acc.length:Int) (λq=>if q<acc.length then b q else 0):=by
  refine⟨by rw[hlen];omega,h4,by rw[hlen];omega,by rw[hlen];exact hS,?_⟩;show(if _<acc.length then _ else 0)=0;rw[hlen,if_neg (by omega)]
 refine⟨⟨_,hSd⟩,?_⟩;rw[jR ⟨_,hSd⟩,hlen];have:=(zf hS).uniq hS hD acc.length (by omega);rw[show acc.length+1-1=acc.length by omega,this];show(if acc.length<acc.length then _ else uV ts+1)=_;rw[if_neg (by omega)]
end
end Go.Proofs.YteecfjhjllajlaaGreatDoor.Tr
