/- PROVED here: parts N40 of the claim. No condition but those in each theorem's own head. -/
import Derived.Test.YtedkgofehbecmaaGreatDoorU37
import Derived.Test.YtedkgofehbecmaaGreatDoorU36
namespace Go.Proofs.YtedkgofehbecmaaGreatDoor
open Go
section
open Tr (nth expB allB kidB risB run1 ri1 ri2)
variable {l:List Tr.Nd} {b:Nat->Nat}
theorem run1_tk (a:Int):∀l:List Int,∀x ∈ l.take (run1 a l),x=a
 | [],x,h=>by simp at h
 |y :: l,x,h=>by
  unfold run1 at h
  by_cases e:y=a
  ·rw[if_pos e,List.take_succ_cons]at h
   rcases List.mem_cons.1 h with h |h
   ·rw[h];exact e
   ·exact run1_tk a l x h
  ·rw[if_neg e]at h;simp at h
theorem risF6 {l:List Int}(h:risB l 4 5 6=true):∃us,l=us++[6]/\∀x ∈ us,x=4\/x=5:=by
 unfold risB at h
 rw[if_neg (by decide)]at h
 simp only[Bool.and_eq_true,decide_eq_true_eq]at h
 obtain⟨h1,h2⟩:=h
 refine⟨l.take (ri2 l 4 5),?_,λx hx =>?_⟩
 ·have h3:l[ri2 l 4 5]?=some 6:=by
   rw[List.getD_eq_getElem?_getD]at h2
   rw[List.getElem?_eq_getElem (by omega)]at h2 |-
   simpa using h2
  conv=>lhs;rw[<- List.take_append_drop (ri2 l 4 5) l]
  congr 1
  apply List.ext_getElem?
  intro i
  rw[List.getElem?_drop]
  cases i with
  |zero=>simpa using h3
  |succ i=>rw[List.getElem?_eq_none (by omega)];simp
 ·unfold ri2 at hx
  rw[List.take_add,List.mem_append]at hx
  rcases hx with hx |hx
  ·exact .inl (run1_tk 4 l x hx)
  ·exact .inr (run1_tk 5 _ x hx)
theorem map_snocF {f:Int->Int}{ks us:List Int}{c:Int}(h:ks.map f=us++[c]):∃ks' k,ks=ks'++[k]/\ks'.map f=us/\f k=c:=by
 rcases List.map_eq_append_iff.1 h with⟨a,d,rfl,h1,h2⟩
 rcases List.map_eq_cons_iff.1 h2 with⟨k,d',rfl,h3,h4⟩
 rw[List.map_eq_nil_iff.1 h4]
 exact⟨a,k,rfl,h1,h3⟩
theorem fl_proc (h:RtN l b){p:Nat}(hp:p<l.length)(h3:(nth l p).kd=3):∃(us:List Int) (c:Nat),(nth l p).ks=us++[(c:Int)]/\c<p/\b p<=b c/\(nth l c).kd=6/\∀k ∈ us,(nth l k.toNat).kd=4\/(nth l k.toNat).kd=5:=by
 have hk:=fl_kid h hp
 rw[h3]at hk
 obtain⟨us,e1,e2⟩:=risF6 (show risB ((nth l p).ks.map λk=>(nth l k.toNat).kd) 4 5 6=true from hk)
 obtain⟨ks',k,e3,e4,e5⟩:=map_snocF e1
 obtain⟨c,rfl,f1,f2,_⟩:=fl_mem h hp (k:=k) (by rw[e3];simp)
 rw[Int.toNat_natCast]at e5
 exact⟨ks',c,e3,f1,f2,e5,λk hk=>e2 _ (by rw[<- e4];exact List.mem_map.2 ⟨k,hk,rfl⟩)⟩
theorem fl_leaf (h:RtN l b){p:Nat}(hp:p<l.length)(h45:(nth l p).kd=4\/(nth l p).kd=5):b p=p:=by
 have hk:=fl_kid h hp
 have hnil:(nth l p).ks=[]:=by
  generalize (nth l p).ks=ks at hk |-
  rcases h45 with e |e<;>(rw[e]at hk;simpa [kidB]using hk)
 have:=fl_st h hp
 rw[hnil]at this
 simpa [Tr.stK]using this.symm
def stsL (l:List Tr.Nd)(a z:Nat):List Nat:=(List.range' a (z-a)).filter λq=>stmB (nth l q).kd
theorem stsL_same (l:List Tr.Nd)(a:Nat):stsL l a a=[]:=by unfold stsL;rw[Nat.sub_self];rfl
theorem stsL_succ (l:List Tr.Nd){a z:Nat}(h:a<=z):stsL l a (z+1)=stsL l a z++if stmB (nth l z).kd then [z] else []:=by
 unfold stsL
 rw[show z+1-a=(z-a)+1 by omega,List.range'_1_concat,List.filter_append,show a+(z-a)=z by omega]
 congr 1
 cases e:stmB (nth l z).kd<;>simp[e]
theorem stsL_mem {a z q:Nat}:q ∈ stsL l a z↔(a<=q/\q<z)/\stmB (nth l q).kd=true:=by
 unfold stsL
 rw[List.mem_filter,List.mem_range'_1]
 constructor<;>rintro⟨h1,h2⟩<;>exact⟨by omega,h2⟩
theorem stsL_split (l:List Tr.Nd){a m z:Nat}(h1:a<=m)(h2:m<=z):stsL l a z=stsL l a m++stsL l m z:=by
 unfold stsL
 rw[<- List.filter_append,show z-a=(m-a)+(z-m)by omega]
 congr 1
 have:=List.range'_append_1 (s:=a) (m:=m-a) (n:=z-m)
 rw[show a+(m-a)=m by omega]at this
 exact this.symm
theorem stsL_cons {q z:Nat}(h2:q<z)(h3:stmB (nth l q).kd=true):stsL l q z=q :: stsL l (q+1) z:=by
 rw[stsL_split l (Nat.le_succ q) (show q+1<=z from h2),stsL_succ l (Nat.le_refl q),stsL_same,if_pos h3]
 rfl
theorem stsL_at {a z q:Nat}(h1:a<=q)(h2:q<z)(h3:stmB (nth l q).kd=true):(stsL l a z)[(stsL l a q).length]?=some q:=by
 rw[stsL_split l h1 (Nat.le_of_lt h2),stsL_cons h2 h3,List.getElem?_append_right (Nat.le_refl _),Nat.sub_self]
 rfl
theorem stsL_lt {a q q':Nat}(h1:a<=q)(h2:q<q')(h3:stmB (nth l q).kd=true):(stsL l a q).length<(stsL l a q').length:=by
 rw[stsL_split l h1 (Nat.le_of_lt h2),stsL_cons h2 h3]
 simp
theorem stsL_len (l:List Tr.Nd)(a z:Nat):(stsL l a z).length<=z-a:=by
 unfold stsL
 exact Nat.le_trans (List.length_filter_le _ _) (by rw[List.length_range'];exact Nat.le_refl _)
def spA (l:List Tr.Nd)(sp:Nat->Int)(n a z:Nat):Nat->Int:=λp=>if (a<=p/\p<z)/\stmB (nth l p).kd=true then ((n+(stsL l a p).length:Nat):Int) else sp p
theorem spA_same (l:List Tr.Nd)(sp:Nat->Int)(n a:Nat):spA l sp n a a=sp:=by
 funext p;unfold spA;rw[if_neg (by omega)]
theorem spA_in {sp:Nat->Int}{n a z q:Nat}(h1:a<=q)(h2:q<z)(h3:stmB (nth l q).kd=true):spA l sp n a z q=((n+(stsL l a q).length:Nat):Int):=by
 unfold spA;rw[if_pos ⟨⟨h1,h2⟩,h3⟩]
def endsG (place pr:Int):List Gn:=[⟨1,place,pr,[],-1⟩,⟨2,place,pr,[],-1⟩,⟨3,place,pr,[],-1⟩]
def rowG (l:List Tr.Nd)(pr:Int)(a z:Nat):List Gn:=(stsL l a z).map λq:Nat=>⟨4,(q:Int),pr,[],-1⟩
def prG (l:List Tr.Nd)(R:Nat->Bool)(pr:Int)(G:List Gn)(sp:Nat->Int)(a z:Nat):List Gn × (Nat->Int):=
 let sp':=spA l sp (G.length+3) a z
 let r:=blG l R sp' l.length (G++endsG z pr++rowG l pr a z) ((nth l z).ks.getLastD 0).toNat ((G.length+1:Nat):Int) ((G.length+2:Nat):Int) ((G.length+1:Nat):Int)
 (wayG r.1 G.length [r.2] none,sp')
structure Seg (l:List Tr.Nd) (R:Nat->Bool) (pr:Int) (lo a z:Nat) (G:List Gn):Prop where
 ent:∃k,G[lo]?=some ⟨1,(z:Int),pr,[k],-1⟩/\Tg lo (lo+3+(stsL l a z).length) k
 exi:G[lo+1]?=some ⟨2,(z:Int),pr,[],-1⟩
 fai:G[lo+2]?=some ⟨3,(z:Int),pr,[],-1⟩
 stp:∀j q:Nat,(stsL l a z)[j]?=some q->∃x,G[lo+3+j]?=some x/\Gd l R pr lo (lo+3+(stsL l a z).length) q x
theorem nu_of {sp:Nat->Int}{n a z:Nat}(hz:z<=l.length):Nu l (spA l sp (n+3) a z) a z n (n+3+(stsL l a z).length):=by
 refine⟨λq h1 h2 h3=>⟨_,spA_in h1 h2 h3,by omega,?_⟩,λq q' h1 h2 h3 k1 k2 k3 e =>?_,hz⟩
 ·have:=stsL_lt h1 h2 h3;omega
 ·rw[spA_in h1 h2 h3,spA_in k1 k2 k3]at e
  rcases Nat.lt_trichotomy q q' with h |h |h
  ·have:=stsL_lt h1 h h3;omega
  ·exact h
  ·have:=stsL_lt k1 h k3;omega
theorem prG_len (l:List Tr.Nd)(R:Nat->Bool)(pr:Int)(G:List Gn)(sp:Nat->Int)(a z:Nat):(prG l R pr G sp a z).1.length=G.length+3+(stsL l a z).length:=by
 unfold prG
 dsimp only
 rw[wayG_len,blG_len]
 simp[endsG,rowG]
 omega
theorem prG_seg (h:RtN l b){R:Nat->Bool}{pr:Int}{G:List Gn}{sp:Nat->Int}{a z:Nat}(hz:z<l.length)(h3:(nth l z).kd=3)(ha:b z=a) :
  Seg l R pr G.length a z (prG l R pr G sp a z).1/\∀i,i<G.length->(prG l R pr G sp a z).1[i]?=G[i]?:=by
 obtain⟨us,c,hks,hcz,hbc,h6,hus⟩:=fl_proc h hz h3
 have hlast:((nth l z).ks.getLastD 0).toNat=c:=by rw[hks];simp
 obtain⟨sp',hsp⟩:∃sp',spA l sp (G.length+3) a z=sp':=⟨_,rfl⟩
 have hnu:=nu_of (l:=l) (sp:=sp) (n:=G.length) (a:=a) (z:=z) (by omega)
 rw[hsp]at hnu
 have hnum:∀q,a<=q->q<z->stmB (nth l q).kd=true->sp' q=((G.length+3+(stsL l a q).length:Nat):Int):=λq k1 k2 k3=>by rw[<- hsp];exact spA_in k1 k2 k3
 obtain⟨G1,hG1⟩:∃G1,G++endsG z pr++rowG l pr a z=G1:=⟨_,rfl⟩
 have hlow:∀i,i<G.length->G1[i]?=G[i]?:=λi hi=>by
  rw[<- hG1,List.append_assoc,List.getElem?_append_left hi]
 have hend:∀i,i<3->G1[G.length+i]?=(endsG z pr)[i]?:=λi hi=>by
  rw[<- hG1,List.append_assoc,List.getElem?_append_right (by omega),List.getElem?_append_left (by simp[endsG];omega),Nat.add_sub_cancel_left]
 have hrow:∀j q:Nat,(stsL l a z)[j]?=some q->G1[G.length+3+j]?=some ⟨4,(q:Int),pr,[],-1⟩:=λj q hj=>by
  rw[<- hG1,List.getElem?_append_right (by simp[endsG])]
  have:G.length+3+j-(G++endsG z pr).length=j:=by simp[endsG]
  rw[this]
  unfold rowG
  rw[List.getElem?_map,hj];rfl
 have hinv:Inv l R sp' pr a z G.length (G.length+3+(stsL l a z).length) (λ_=>False) G1:=λq k1 k2 k3=>by
  refine⟨⟨4,(q:Int),pr,[],-1⟩,?_,⟨rfl,rfl,rfl,λ_=>rfl⟩,λh=>h.elim⟩
  rw[hnum q k1 k2 k3,Int.toNat_natCast]
  exact hrow _ _ (stsL_at k1 k2 k3)
 have hT1:Tg G.length (G.length+3+(stsL l a z).length) ((G.length+1:Nat):Int):=⟨_,rfl,by omega,by omega⟩
 have hT2:Tg G.length (G.length+3+(stsL l a z).length) ((G.length+2:Nat):Int):=⟨_,rfl,by omega,by omega⟩
 obtain⟨g1,g2,g3⟩:=(sbg_of (R:=R) (pr:=pr) h hnu hT1 l.length).2 c (λ_=>False) G1 _ _ (by omega) (by omega) hcz h6 hinv hT1 hT2
 obtain⟨r,hr⟩:∃r,blG l R sp' l.length G1 c ((G.length+1:Nat):Int) ((G.length+2:Nat):Int) ((G.length+1:Nat):Int)=r:=⟨_,rfl⟩
 rw[hr]at g1 g2 g3
 have hpr:prG l R pr G sp a z=(wayG r.1 G.length [r.2] none,sp'):=by
  unfold prG
  dsimp only
  rw[hsp,hG1,hlast,hr]
 rw[hpr]
 have hoth:∀i,i<G.length+3->r.1[i]?=G1[i]?:=λi hi=>g2 i λq k1 k2 k3 e=>by
  rw[hnum q k1 k2 k3,Int.toNat_natCast]at e;omega
 have he0:r.1[G.length]?=some ⟨1,(z:Int),pr,[],-1⟩:=by
  rw[hoth _ (by omega)];have:=hend 0 (by omega);rw[Nat.add_zero]at this;rw[this];rfl
 have hw:wayG r.1 G.length [r.2] none=r.1.set G.length ⟨1,(z:Int),pr,[r.2],-1⟩:=by
  unfold wayG;rw[he0];rfl
 dsimp only
 rw[hw]
 have hlt:G.length<r.1.length:=(List.getElem?_eq_some_iff.1 he0).1
 refine⟨⟨⟨r.2,List.getElem?_set_self hlt,g3⟩,?_,?_,λj q hj =>?_⟩,λi hi =>?_⟩
 ·rw[List.getElem?_set_ne (by omega),hoth _ (by omega),hend 1 (by omega)];rfl
 ·rw[List.getElem?_set_ne (by omega),hoth _ (by omega),hend 2 (by omega)];rfl
 ·have hq:=stsL_mem.1 (List.mem_of_getElem? hj)
  obtain⟨⟨k1,k2⟩,k3⟩:=hq
  obtain⟨x,e1,e2,e3⟩:=g1 q k1 k2 k3
  have hqj:(stsL l a q).length=j:=by
   have h1:=stsL_at k1 k2 k3
   have hnd:(stsL l a z).Nodup:=by unfold stsL;exact(List.nodup_range' (step:=1) ).filter _
   obtain⟨a1,a2⟩:=List.getElem?_eq_some_iff.1 h1
   obtain⟨b1,b2⟩:=List.getElem?_eq_some_iff.1 hj
   rcases Nat.lt_trichotomy (stsL l a q).length j with hlt |hlt |hlt
   ·exact absurd (a2.trans b2.symm) (List.pairwise_iff_getElem.1 hnd _ _ a1 b1 hlt)
   ·exact hlt
   ·exact absurd (b2.trans a2.symm) (List.pairwise_iff_getElem.1 hnd _ _ b1 a1 hlt)
  rw[hnum q k1 k2 k3,Int.toNat_natCast,hqj]at e1
  refine⟨x,by rw[List.getElem?_set_ne (by omega)];exact e1,e3 (.inr ?_)⟩
  obtain⟨m,f1,f2,f3,f4⟩:=fl_in h hz (by omega:b z<=q) k2
  rw[hks]at f1
  rcases List.mem_append.1 f1 with f1 |f1
  ·have h45:=hus _ f1
   rw[Int.toNat_natCast]at h45
   have:=fl_leaf h (p:=m) (by omega) h45
   obtain rfl:q=m:=by omega
   rcases h45 with e |e<;>(rw[e]at k3;exact absurd k3 (by decide))
  ·obtain rfl:m=c:=by simp at f1;omega
   exact⟨f2,f3⟩
 ·rw[List.getElem?_set_ne (by omega),hoth _ (by omega)]
  exact hlow i hi
end
end Go.Proofs.YtedkgofehbecmaaGreatDoor
namespace Go.Proofs.YtedkgofehbecmaaGreatDoor
open Go Go.RowKit
open Tr (Bx heap1 bt Nds Ints BPost IPost rgB Ib)
def XU (sb:Nat)(U:Value)(b:Nat):Prop:=b=sb\/U.ownBlock=some b
def E0 (g sb base:Nat)(b:Nat):Prop:=b=g\/b=sb\/base<=b
theorem Kd.move {E X X':Nat->Prop}{w w':World}{K:Option Addr}{ks:List Int}(h:Kd w X K ks)(k:Fr E w w')(hE:∀b cs,b<w.heap.size->w.heap[b]?=some (.cells cs 3 (0,0))->¬X b->¬E b/\¬X' b):Kd w' X' K ks:=λh0=>by
 obtain⟨b,cs,e,hb,hc,hx⟩:=h h0
 have hl:=(Array.getElem?_eq_some_iff.1 hb).1
 obtain⟨h1,h2⟩:=hE b cs hl hb hx
 exact⟨b,cs,e,(k.block b hl h1).trans hb,hc,h2⟩
theorem own_frN {E:Nat->Prop}{w w':World}{base e size n:Nat}{v:Value}{xs:List Value}(h:w.ownsRow base e size v n xs)(k:Fr E w w')(hE:∀b,v.ownBlock=some b->¬E b):w'.ownsRow base e size v n xs:=by
 refine⟨h.1,h.2.imp id ?_⟩
 rintro⟨g,cap,cur,h1,h2,h3,h4⟩
 exact⟨g,cap,cur,h1,h2,(k.block g (Array.getElem?_eq_some_iff.1 h3).1 (hE g (by rw[h1];rfl))).trans h3,h4⟩
theorem own_blk {w:World}{base e size n:Nat}{v:Value}{xs:List Value}(h:w.ownsRow base e size v n xs){b:Nat}(hb:v.ownBlock=some b):base<=b/\∃cs,w.heap[b]?=some (.cells cs e (0,0)):=by
 rcases h.2 with⟨e1,_⟩ |⟨g,cap,cur,e1,e2,e3,_⟩
 ·rw[e1]at hb;exact absurd hb (by simp[Value.ownBlock])
 ·rw[e1]at hb
  obtain rfl:g=b:=by simpa [Value.ownBlock]using hb
  exact⟨e2,cur,e3⟩
theorem GNodes.move {E X X':Nat->Prop}{w w':World}{base:Nat}{V:Value}{G:List Gn}(h:GNodes w X base V G)(k:Fr E w w')(hV:∀b,V.ownBlock=some b->¬E b)(hE:∀b cs,b<w.heap.size->w.heap[b]?=some (.cells cs 3 (0,0))->¬X b->¬E b/\¬X' b):GNodes w' X' base V G:=by
 obtain⟨xs,ho,hc⟩:=h
 exact⟨xs,own_frN ho k hV,λj hj=>by obtain⟨K,c,e,f⟩:=hc j hj;exact⟨K,c,e,f.move k hE⟩⟩
theorem GNodes.blk {X:Nat->Prop}{w:World}{base:Nat}{V:Value}{G:List Gn}(h:GNodes w X base V G){b:Nat}(hb:V.ownBlock=some b):base<=b/\∃cs,w.heap[b]?=some (.cells cs 42 (0,0)):=by
 obtain⟨xs,ho,_⟩:=h
 exact own_blk ho hb
structure BuW (w0:World) (A:Option Addr) (n c g rb sb cR cS base:Nat) (R:Nat->Bool) (sp:Nat->Int) (V U:Value) (G:List Gn) (P:List Int) (w:World):Prop where
 b:Below w0.heap.size w0 w
 bx:Bx w g 116 [.slice A n c,.slice (some ⟨rb,0,none⟩) n cR,.slice (some ⟨sb,0,none⟩) n cS,V,U]
 rs:Bb w rb n R
 st:Ib w sb n sp
 gn:GNodes w (XU sb U) base V G
 pw:w.ownsRow base 3 1 U P.length (P.map (Value.int .i64))
 lo:w0.heap.size<=g/\w0.heap.size<=sb/\g<base/\rb<base/\sb<base/\base<=w.heap.size
 ne:rb≠g/\sb≠g/\rb≠sb
section
variable {w0 w w':World} {A:Option Addr} {n c g rb sb cR cS base:Nat} {R:Nat->Bool} {sp:Nat->Int} {V U:Value} {G:List Gn} {P:List Int}
theorem BuW.below (h:BuW w0 A n c g rb sb cR cS base R sp V U G P w)(k:Below w.heap.size w w'):BuW w0 A n c g rb sb cR cS base R sp V U G P w':=
 have f:Fr (λ_=>False) w w':=Fr.of k
 ⟨h.b.trans (k.mono h.b.size),h.bx.below k h.bx.lt,h.rs.below k h.rs.lt,h.st.below k h.st.lt,h.gn.move f (λ_ _=>id) (λ_ _ _ _ hx=>⟨id,hx⟩),own_below h.pw k,⟨h.lo.1,h.lo.2.1,h.lo.2.2.1,h.lo.2.2.2.1,h.lo.2.2.2.2.1,Nat.le_trans h.lo.2.2.2.2.2 k.size⟩,h.ne⟩
theorem BuW.add (h:BuW w0 A n c g rb sb cR cS base R sp V U G P w){V':Value}{G':List Gn}(hB:Bx w' g 116 [.slice A n c,.slice (some ⟨rb,0,none⟩) n cR,.slice (some ⟨sb,0,none⟩) n cS,V',U])(hN:GNodes w' (XU sb U) base V' G')(hf:Fr (λb=>b=g\/V.ownBlock=some b) w w'):BuW w0 A n c g rb sb cR cS base R sp V' U G' P w'/\Fr (E0 g sb base) w w':=by
 obtain⟨l1,l2,l3,l4,l5,l6⟩:=h.lo
 have hE:∀b,b<base->b≠g->¬(b=g\/V.ownBlock=some b):=λb hb hg e=>by
  rcases e with e |e
  ·exact hg e
  ·have:=(h.gn.blk e).1;omega
 refine⟨⟨h.b.trans (hf.below (λi e =>?_) h.b.size),hB,(hf.block rb h.rs.lt (hE rb l4 h.ne.1)).trans h.rs,(hf.block sb h.st.lt (hE sb l5 h.ne.2.1)).trans h.st,hN,own_frN h.pw hf (λb hb e =>?_),⟨l1,l2,l3,l4,l5,Nat.le_trans l6 hf.size⟩,h.ne⟩,hf.mono λb e =>?_⟩
 ·rcases e with rfl |e
  ·exact l1
  ·have:=(h.gn.blk e).1;omega
 ·rcases e with rfl |e
  ·have:=(own_blk h.pw hb).1;omega
  ·obtain⟨_,cs,h1⟩:=own_blk h.pw hb
   obtain⟨_,cs',h2⟩:=h.gn.blk e
   have:=h1.symm.trans h2
   simp at this
 ·rcases e with e |e
  ·exact .inl e
  ·exact .inr (.inr (h.gn.blk e).1)
theorem BuW.app (h:BuW w0 A n c g rb sb cR cS base R sp V U G P w){o:Obj}{w4:World}{U':Value}{z:Int}(hown:w4.ownsRow base 3 1 U' (P.length+1) (P.map (Value.int .i64)++[.int .i64 z]))(hg:(w.alloc o).grownBy w4 U.ownBlock)(hfr:∀k,U'.ownBlock=some k->U.ownBlock=some k\/(w.alloc o).heap.size<=k) :
  BuW w0 A n c g rb sb cR cS base R sp V U' G (P++[z]) (w4.setCell ⟨g,4,none⟩ U')/\Fr (E0 g sb base) w (w4.setCell ⟨g,4,none⟩ U'):=by
 obtain⟨l1,l2,l3,l4,l5,l6⟩:=h.lo
 have f1:Fr (λb=>b=g\/U.ownBlock=some b) w w4:=(Fr.of (heap1 w o)).trans (fr_grown hg (λb hb =>.inr hb))
 have f2:Fr (λb=>b=g\/U.ownBlock=some b) w (w4.setCell ⟨g,4,none⟩ U'):=f1.set (.inl rfl) _
 have hE:∀b,b<base->b≠g->¬(b=g\/U.ownBlock=some b):=λb hb hg e=>by
  rcases e with e |e
  ·exact hg e
  ·have:=(own_blk h.pw e).1;omega
 have hB4:Bx w4 g 116 [.slice A n c,.slice (some ⟨rb,0,none⟩) n cR,.slice (some ⟨sb,0,none⟩) n cS,V,U]:=((h.bx.alloc o).grown hg (λe=>by have:=(own_blk h.pw e.symm).1;omega))
 have hB5:=hB4.set_ 4 U'
 simp only[List.set_cons_zero,List.set_cons_succ]at hB5
 have hsz:(w.alloc o).heap.size=w.heap.size+1:=World.size_alloc _ _
 refine⟨⟨h.b.trans (f2.below (λi e =>?_) h.b.size),hB5,(f2.block rb h.rs.lt (hE rb l4 h.ne.1)).trans h.rs,(f2.block sb h.st.lt (hE sb l5 h.ne.2.1)).trans h.st,h.gn.move f2 (λb hb e =>?_) (λb cs hl hb hx=>⟨λe =>?_,λe =>?_⟩),?_,⟨l1,l2,l3,l4,l5,Nat.le_trans l6 f2.size⟩,h.ne⟩,f2.mono λb e =>?_⟩
 ·rcases e with rfl |e
  ·exact l1
  ·have:=(own_blk h.pw e).1;omega
 ·rcases e with rfl |e
  ·have:=(h.gn.blk hb).1;omega
  ·obtain⟨_,cs,h1⟩:=own_blk h.pw e
   obtain⟨_,cs',h2⟩:=h.gn.blk hb
   have:=h1.symm.trans h2
   simp at this
 ·rcases e with rfl |e
  ·have:=hb.symm.trans h.bx
   simp at this
  ·exact hx (.inr e)
 ·rcases e with rfl |e
  ·exact hx (.inl rfl)
  ·rcases hfr b e with e |e
   ·exact hx (.inr e)
   ·omega
 ·rw[List.length_append,List.length_singleton,List.map_append]
  exact own_fr hown (Fr.set (E:=λb=>b=g) (Fr.refl _ _) rfl _) (λb e=>by have e:b=g:=e;omega)
 ·rcases e with e |e
  ·exact .inl e
  ·exact .inr (.inr (own_blk h.pw e).1)
theorem BuW.step (h:BuW w0 A n c g rb sb cR cS base R sp V U G P w)(i:Nat)(x:Int):BuW w0 A n c g rb sb cR cS base R (λj=>if j=i then x else sp j) V U G P (w.setCell ⟨sb,i,none⟩ (.int .i64 x))/\Fr (E0 g sb base) w (w.setCell ⟨sb,i,none⟩ (.int .i64 x)):=by
 obtain⟨l1,l2,l3,l4,l5,l6⟩:=h.lo
 have f2:Fr (λb=>b=sb) w (w.setCell ⟨sb,i,none⟩ (.int .i64 x)):=Fr.set (E:=λb=>b=sb) (Fr.refl _ _) rfl _
 refine⟨⟨h.b.trans (f2.below (λi e=>by have e:i=sb:=e;omega) h.b.size),h.bx.far (p:=⟨sb,i,none⟩) (λe=>h.ne.2.1 e.symm) _,h.rs.far (p:=⟨sb,i,none⟩) h.ne.2.2 _,h.st.set_ i x,h.gn.move f2 (λb hb e =>?_) (λb cs hl hb hx=>⟨λe=>hx (.inl e),hx⟩),own_frN h.pw f2 (λb hb e =>?_),⟨l1,l2,l3,l4,l5,Nat.le_trans l6 f2.size⟩,h.ne⟩,f2.mono λb e =>.inr (.inl e)⟩
 ·have e:b=sb:=e
  have:=(h.gn.blk hb).1;omega
 ·have e:b=sb:=e
  have:=(own_blk h.pw hb).1;omega
theorem BuW.sce {gb N cap:Nat}{l:List Tr.Nd}(h:BuW w0 A n c g rb sb cR cS base R sp (.slice (some ⟨gb,0,none⟩) N cap) U G P w):Sce w0 A n c l g rb sb gb cap cR cS N U R sp w:=
 ⟨h.b,h.bx,h.rs,h.st,by have:=(h.gn.blk (b:=gb) rfl).1;have:=h.lo;omega,by have:=(h.gn.blk (b:=gb) rfl).1;have:=h.lo;omega⟩
theorem BuW.done {gb N cap:Nat}(h:BuW w0 A n c g rb sb cR cS base R sp (.slice (some ⟨gb,0,none⟩) N cap) U G P w)(k:Fr (λb=>b=gb) w w'){G':List Gn}(hG:GR w' gb (cap*5) (XU sb U) G')(hl:G'.length=N)(hc:N<=cap)(hm:cap<=maxLen):BuW w0 A n c g rb sb cR cS base R sp (.slice (some ⟨gb,0,none⟩) N cap) U G' P w'/\Fr (E0 g sb base) w w':=by
 obtain⟨l1,l2,l3,l4,l5,l6⟩:=h.lo
 obtain⟨hb,cs,hcs⟩:=h.gn.blk (b:=gb) rfl
 refine⟨⟨h.b.trans (k.below (λi e=>by have e:i=gb:=e;omega) h.b.size),Bx.fr h.bx k (λe=>by have e:g=gb:=e;omega),(k.block rb h.rs.lt (λe=>by have e:rb=gb:=e;omega)).trans h.rs,(k.block sb h.st.lt (λe=>by have e:sb=gb:=e;omega)).trans h.st,?_,own_frN h.pw k (λb hb2 e =>?_),⟨l1,l2,l3,l4,l5,Nat.le_trans l6 k.size⟩,h.ne⟩,k.mono λb e =>.inr (.inr (by have e:b=gb:=e;omega))⟩
 ·subst hl
  exact hG.own hb hc hm
 ·have e:b=gb:=e
  subst e
  obtain⟨_,cs',h1⟩:=own_blk h.pw hb2
  have:=h1.symm.trans hcs
  simp at this
end
end Go.Proofs.YtedkgofehbecmaaGreatDoor
namespace Go.Proofs.YtedkgofehbecmaaGreatDoor
open Go
section
open Tr (nth kidB risB run1 ri1 ri2 stK)
variable {l:List Tr.Nd} {b:Nat->Nat} {R:Nat->Bool}
def Ch (b:Nat->Nat):List Int->Nat->Nat->Prop
 | [],e,s=>e=s
 |k :: ks,e,s=>∃m:Nat,k=(m:Int)/\b m=e/\Ch b ks (m+1) s
theorem ch_snoc:∀(ks:List Int) (e m:Nat),Ch b ks e (b m)->Ch b (ks++[(m:Int)]) e (m+1)
 | [],e,m,h=>⟨m,rfl,by unfold Ch at h;exact h.symm,rfl⟩
 |k :: ks,e,m,⟨j,h1,h2,h3⟩=>⟨j,h1,h2,ch_snoc ks (j+1) m h3⟩
theorem ch_of:∀(rs:List Int) (s e:Nat),stK b rs s=some e->Ch b rs.reverse e s
 | [],s,e,h=>by unfold stK at h;cases h;rfl
 |k :: rs,s,e,h=>by
  unfold stK at h
  split at h
  ·cases h
  split at h
  case isFalse=>cases h
  case isTrue h0 h1=>
   have:=ch_snoc rs.reverse e (s-1) (ch_of rs _ e h)
   rw[List.reverse_cons,h1,show((s:Int)-1)=((s-1:Nat):Int)by omega]
   rw[show s-1+1=s by omega]at this
   exact this
theorem risF0 {l:List Int}(h:risB l 2 3 0=true):∀x ∈ l,x=2\/x=3:=λx hx=>by
 unfold risB at h
 rw[if_pos rfl]at h
 have h:=of_decide_eq_true h
 have hx:x ∈ l.take (ri2 l 2 3):=by rw[h,List.take_length];exact hx
 unfold ri2 at hx
 rw[List.take_add,List.mem_append]at hx
 rcases hx with hx |hx
 ·exact .inl (run1_tk 2 l x hx)
 ·exact .inr (run1_tk 3 _ x hx)
theorem fl_root (h:RtN l b){k:Int}(hk:k ∈ (nth l (l.length-1)).ks):∃m:Nat,k=(m:Int)/\m<l.length-1/\((nth l m).kd=2/\b m=m\/(nth l m).kd=3):=by
 have hl:=h.len
 have hp:l.length-1<l.length:=by omega
 have hkd:=fl_kid h hp
 have hr:(nth l (l.length-1)).kd=1:=h.root
 rw[hr]at hkd
 obtain⟨m,rfl,e2,_,_⟩:=fl_mem h hp hk
 refine⟨m,rfl,e2,?_⟩
 have h1:=risF0 (show risB ((nth l (l.length-1)).ks.map λk=>(nth l k.toNat).kd) 2 3 0=true from hkd) _ (kd_mem hk)
 rw[Int.toNat_natCast]at h1
 rcases h1 with h1 |h1
 ·refine .inl ⟨h1,?_⟩
  have hm:m<l.length:=by omega
  have h2:=fl_kid h hm
  rw[h1]at h2
  have h3:=fl_st h hm
  have:(nth l m).ks=[]:=by
   generalize (nth l m).ks=ks at h2 |-
   simpa [kidB]using h2
  rw[this]at h3
  simpa [stK]using h3.symm
 ·exact .inr h1
structure BdS where
 G:List Gn
 P:List Int
 sp:Nat->Int
def bdG (l:List Tr.Nd)(R:Nat->Bool):List Int->Nat->BdS->BdS
 | [],_,s=>s
 |k :: ks,first,s=>bdG l R ks (k.toNat+1) (if (nth l k.toNat).kd=3 then ⟨(prG l R (s.P.length:Int) s.G s.sp first k.toNat).1,s.P++[k],(prG l R (s.P.length:Int) s.G s.sp first k.toNat).2⟩ else s)
def offG (l:List Tr.Nd)(t:List (Nat × Nat))(p:Nat):Nat:=((t.take p).map λx=>3+(stsL l x.1 x.2).length).sum
theorem offG_app (l:List Tr.Nd)(t:List (Nat × Nat))(x:Nat × Nat){p:Nat}(h:p<=t.length):offG l (t++[x]) p=offG l t p:=by
 unfold offG;rw[List.take_append_of_le_length h]
theorem offG_succ {t:List (Nat × Nat)}{p:Nat}(h:p<t.length):offG l t (p+1)=offG l t p+3+(stsL l t[p].1 t[p].2).length:=by
 unfold offG
 rw[List.take_succ_eq_append_getElem h,List.map_append,List.sum_append]
 simp only[List.map_cons,List.map_nil,List.sum_cons,List.sum_nil]
 omega
theorem offG_mono {t:List (Nat × Nat)}{p:Nat}(h:p<t.length):offG l t (p+1)<=offG l t t.length:=by
 have key:∀d p,p+d<=t.length->offG l t p<=offG l t (p+d):=λd=>by
  induction d with
  |zero=>exact λp _=>Nat.le_refl _
  |succ d ih=>exact λp hp=>Nat.le_trans (ih p (by omega)) (by rw[show p+(d+1)=(p+d)+1 by omega,offG_succ (by omega)];omega)
 have:=key (t.length-(p+1)) (p+1) (by omega)
 rwa [show p+1+(t.length-(p+1))=t.length by omega]at this
theorem Seg.mono {pr:Int}{lo a z:Nat}{G G':List Gn}(h:Seg l R pr lo a z G)(k:∀i,i<lo+3+(stsL l a z).length->G'[i]?=G[i]?):Seg l R pr lo a z G':=by
 obtain⟨⟨e,h1,h2⟩,h3,h4,h5⟩:=h
 refine⟨⟨e,(k _ (by omega)).trans h1,h2⟩,(k _ (by omega)).trans h3,(k _ (by omega)).trans h4,λj q hj =>?_⟩
 obtain⟨x,e1,e2⟩:=h5 j q hj
 exact⟨x,(k _ (by have:=(List.getElem?_eq_some_iff.1 hj).1;omega)).trans e1,e2⟩
structure IsG (l:List Tr.Nd) (b:Nat->Nat) (R:Nat->Bool) (t:List (Nat × Nat)) (first:Nat) (s:BdS):Prop where
 P:s.P=t.map λx=>(x.2:Int)
 len:s.G.length=offG l t t.length
 seg:∀p (hp:p<t.length),Seg l R (p:Int) (offG l t p) t[p].1 t[p].2 s.G
 ok:∀x ∈ t,x.2<l.length/\(nth l x.2).kd=3/\b x.2=x.1
 cnt:(stsL l 0 first).length+3*t.length=s.G.length
 cov:∀q,q<first->stmB (nth l q).kd=true->∃p,∃hp:p<t.length,t[p].1<=q/\q<t[p].2
 prc:∀q,q<first->(nth l q).kd=3->∃x ∈ t,x.2=q
 bnd:t.length<=first
theorem st3:stmB 3=false:=by decide
theorem st2:stmB 2=false:=by decide
theorem fl_low (h:RtN l b){p:Nat}(hp:p<l.length)(h3:(nth l p).kd=3){q:Nat}(h1:b p<=q)(h2:q<p):4<=(nth l q).kd:=by
 have hk3:(ndA l (p:Int)).kd=3:=by unfold ndA;rw[Int.toNat_natCast];exact h3
 have:=proc_down h.st h.sh p hp (by omega) q h1 h2
 unfold ndA at this
 rw[Int.toNat_natCast]at this
 exact this
theorem is_proc (h:RtN l b){t:List (Nat × Nat)}{first k:Nat}{s:BdS}(hs:IsG l b R t first s)(hk:k<l.length)(h3:(nth l k).kd=3)(hb:b k=first) :
  IsG l b R (t++[(first,k)]) (k+1) ⟨(prG l R (s.P.length:Int) s.G s.sp first k).1,s.P++[(k:Int)],(prG l R (s.P.length:Int) s.G s.sp first k).2⟩:=by
 obtain⟨g1,g2⟩:=prG_seg (R:=R) (pr:=(s.P.length:Int)) (G:=s.G) (sp:=s.sp) h hk h3 hb
 have hfk:first<=k:=by rw[<- hb];exact h.st.le k hk
 have hPl:s.P.length=t.length:=by rw[hs.P,List.length_map]
 have hlast:offG l (t++[(first,k)]) (t.length+1)=s.G.length+3+(stsL l first k).length:=by
  rw[offG_succ (by simp)]
  rw[offG_app l t _ (Nat.le_refl _),<- hs.len]
  simp
 refine⟨?_,?_,λp hp =>?_,λx hx =>?_,?_,λq hq hst =>?_,λq hq h3q =>?_,by rw[List.length_append,List.length_singleton];have:=hs.bnd;omega⟩
 ·rw[List.map_append,<- hs.P];rfl
 ·rw[prG_len,List.length_append,List.length_singleton,hlast]
 ·rw[List.length_append,List.length_singleton]at hp
  by_cases e:p<t.length
  ·rw[offG_app l t _ (by omega)]
   simp only[List.getElem_append_left e]
   have hm:=offG_mono (l:=l) e
   rw[offG_succ e,<- hs.len]at hm
   exact(hs.seg p e).mono λi hi=>g2 i (by omega)
  ·obtain rfl:p=t.length:=by omega
   rw[offG_app l t _ (Nat.le_refl _),<- hs.len]
   simp only[List.getElem_append_right (Nat.le_refl _),Nat.sub_self,List.getElem_cons_zero]
   rw[hPl]at g1 |-
   exact g1
 ·rcases List.mem_append.1 hx with hx |hx
  ·exact hs.ok x hx
  ·rw[List.mem_singleton.1 hx];exact⟨hk,h3,hb⟩
 ·rw[prG_len,stsL_succ l (Nat.zero_le _),h3,st3,stsL_split l (Nat.zero_le first) hfk]
  have:=hs.cnt
  simp
  omega
 ·by_cases e:q<first
  ·obtain⟨p,hp,h1,h2⟩:=hs.cov q e hst
   exact⟨p,by rw[List.length_append];omega,by simp only[List.getElem_append_left hp];exact⟨h1,h2⟩⟩
  ·have hqk:q≠k:=λe=>by rw[e,h3,st3]at hst;cases hst
   refine⟨t.length,by simp,?_⟩
   simp only[List.getElem_append_right (Nat.le_refl _),Nat.sub_self,List.getElem_cons_zero]
   omega
 ·by_cases e:q<first
  ·obtain⟨x,hx,e2⟩:=hs.prc q e h3q
   exact⟨x,List.mem_append_left _ hx,e2⟩
  by_cases e2:q=k
  ·exact⟨(first,k),by simp,e2.symm⟩
  ·have:=fl_low h hk h3 (q:=q) (by omega) (by omega)
   omega
theorem is_glob {t:List (Nat × Nat)}{first k:Nat}{s:BdS}(hs:IsG l b R t first s)(h2:(nth l k).kd=2)(hb:first=k):IsG l b R t (k+1) s:=by
 subst hb
 refine⟨hs.P,hs.len,hs.seg,hs.ok,?_,λq hq hst =>?_,λq hq h3q =>?_,Nat.le_succ_of_le hs.bnd⟩
 ·rw[stsL_succ l (Nat.zero_le _),h2,st2];simpa using hs.cnt
 ·by_cases e:q=first
  ·rw[e,h2,st2]at hst;cases hst
  ·exact hs.cov q (by omega) hst
 ·by_cases e:q=first
  ·rw[e,h2]at h3q;exact absurd h3q (by decide)
  ·exact hs.prc q (by omega) h3q
def grG (l:List Tr.Nd)(R:Nat->Bool):BdS:=bdG l R (nth l (l.length-1)).ks 0 ⟨[],[],λ_=>0⟩
inductive AtG (l:List Tr.Nd) (R:Nat->Bool) (t:List (Nat × Nat)) (i:Nat) (x:Gn):Prop
 |ent (p:Nat) (hp:p<t.length) (hi:i=offG l t p) (k:Int) (hx:x=⟨1,(t[p].2:Int),(p:Int),[k],-1⟩) (hk:Tg (offG l t p) (offG l t (p+1)) k)
 |exi (p:Nat) (hp:p<t.length) (hi:i=offG l t p+1) (hx:x=⟨2,(t[p].2:Int),(p:Int),[],-1⟩)
 |fai (p:Nat) (hp:p<t.length) (hi:i=offG l t p+2) (hx:x=⟨3,(t[p].2:Int),(p:Int),[],-1⟩)
 |stp (p:Nat) (hp:p<t.length) (q:Nat) (hi:offG l t p+3<=i/\i<offG l t (p+1)) (hq:t[p].1<=q/\q<t[p].2) (hst:stmB (nth l q).kd=true) (hx:Gd l R (p:Int) (offG l t p) (offG l t (p+1)) q x)
theorem IsG.find {t:List (Nat × Nat)}{first:Nat}{s:BdS}(hs:IsG l b R t first s):∀i,i<s.G.length->∃p,p<t.length/\offG l t p<=i/\i<offG l t (p+1):=λi hi=>by
 rw[hs.len]at hi
 have key:∀n,n<=t.length->i<offG l t n->∃p,p<n/\offG l t p<=i/\i<offG l t (p+1):=λn=>by
  induction n with
  |zero=>intro _ h;unfold offG at h;simp at h
  |succ n ih=>
   intro hn h
   by_cases e:i<offG l t n
   ·obtain⟨p,h1,h2⟩:=ih (by omega) e
    exact⟨p,by omega,h2⟩
   ·exact⟨n,by omega,by omega,h⟩
 exact key _ (Nat.le_refl _) hi
theorem IsG.at {t:List (Nat × Nat)}{first:Nat}{s:BdS}(hs:IsG l b R t first s)(i:Nat)(hi:i<s.G.length):AtG l R t i s.G[i]:=by
 obtain⟨p,hp,h1,h2⟩:=hs.find i hi
 obtain⟨⟨e,k1,k2⟩,k3,k4,k5⟩:=hs.seg p hp
 have ho:=offG_succ (l:=l) hp
 rw[<- ho]at k2
 have hg:s.G[i]?=some s.G[i]:=List.getElem?_eq_getElem hi
 by_cases e0:i=offG l t p
 ·rw[<- e0,hg]at k1
  exact .ent p hp e0 e (by simpa using k1) k2
 by_cases e1:i=offG l t p+1
 ·rw[<- e1,hg]at k3
  exact .exi p hp e1 (by simpa using k3)
 by_cases e2:i=offG l t p+2
 ·rw[<- e2,hg]at k4
  exact .fai p hp e2 (by simpa using k4)
 have hj:i-(offG l t p+3)<(stsL l t[p].1 t[p].2).length:=by omega
 obtain⟨x,f1,f2⟩:=k5 _ _ (List.getElem?_eq_getElem hj)
 rw[show offG l t p+3+(i-(offG l t p+3))=i by omega,hg]at f1
 have f1:s.G[i]=x:=by simpa using f1
 obtain⟨q1,q2⟩:=stsL_mem.1 (List.getElem_mem hj)
 rw[f1]
 rw[<- ho]at f2
 exact .stp p hp _ ⟨by omega,h2⟩ q1 q2 f2
end
end Go.Proofs.YtedkgofehbecmaaGreatDoor
