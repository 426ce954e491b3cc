/- PROVED: Ya. No more condition. -/
import Derived.Test.YteecfjhjllajlaaGreatDoorM12
import Derived.Lib.ItoaLen
namespace Go.Proofs.YteecfjhjllajlaaGreatDoor
section
open Go
open Tr (nth dS aI eY bz kV iU iq il yG qz eP iT ig rR)
theorem Na {l:List Tr.Nd}(h:iU l=true){p:Nat}(hp:p<l.length):kV l (ag l p)=true:=by
 rw[aT hp];exact List.all_eq_true.1 h _ (List.getElem_mem hp)
def ic (l:List Tr.Nd)(p:Int):List Int:=(ag l p).ks.map λk=>(ag l k).kd
structure Rm (l:List Tr.Nd) (p:Nat):Prop where
 lo:1<=(ag l p).kd
 hi:(ag l p).kd<=27
 tx:iT (ag l p).kd (bu l p)=true
 num:eP (ag l p).kd (ag l p).n=true
 kid:bz (ag l p).kd (ic l p)=true
theorem bQ {l:List Tr.Nd}(h:iU l=true){p:Nat}(hp:p<l.length):Rm l p:=by
 have h1:=Na h hp;unfold kV at h1;simp only[Bool.and_eq_true,decide_eq_true_eq]at h1;obtain⟨a,b,c,d,e⟩:=h1;exact⟨a,b,c,d,e⟩
theorem bV {l:List Tr.Nd}(hA:Ahead l){p:Nat}(hp:p<l.length):∀k ∈ (ag l p).ks,∃k2:Nat,k=(k2:Int)/\k2<p:=λk hk=>by
 rw[aT hp]at hk;obtain⟨h1,h2⟩:=hA p hp k hk;exact⟨k.toNat,by omega,by omega⟩
theorem JH {α:Type}{ks:List α}(h:ks.length=1):∃a,ks=[a]:=by
 rcases ks with _ |⟨a,_ |⟨b,r⟩⟩
 ·cases h
 ·exact⟨a,rfl⟩
 ·simp at h
theorem JI {α:Type}{ks:List α}(h:ks.length=2):∃a b,ks=[a,b]:=by
 rcases ks with _ |⟨a,_ |⟨b,_ |⟨c,r⟩⟩⟩
 ·cases h
 ·simp at h
 ·exact⟨a,b,rfl⟩
 ·simp at h
theorem Dx {α:Type}{ks:List α}(h:ks.length=3):∃a b c,ks=[a,b,c]:=by
 rcases ks with _ |⟨a,_ |⟨b,_ |⟨c,_ |⟨d,r⟩⟩⟩⟩
 ·cases h
 ·simp at h
 ·simp at h
 ·exact⟨a,b,c,rfl⟩
 ·simp at h
theorem nR (l:List Tr.Nd)(p:Int):(ic l p).length=(ag l p).ks.length:=List.length_map ..
theorem lg {l:List Tr.Nd}(hA:Ahead l){p:Nat}(hp:p<l.length)(h:(ic l p).length=1):∃k:Nat,(ag l p).ks=[(k:Int)]/\k<p/\ic l p=[(ag l k).kd]:=by
 rw[nR]at h;obtain⟨a,e⟩:=JH h;obtain⟨k,rfl,hk⟩:=bV hA hp a (by rw[e];simp);exact⟨k,e,hk,by unfold ic;rw[e];rfl⟩
theorem iD {l:List Tr.Nd}(hA:Ahead l){p:Nat}(hp:p<l.length)(h:(ic l p).length=2):∃k j:Nat,(ag l p).ks=[(k:Int),(j:Int)]/\k<p/\j<p/\ic l p=[(ag l k).kd,(ag l j).kd]:=by
 rw[nR]at h;obtain⟨a,b,e⟩:=JI h;obtain⟨k,rfl,hk⟩:=bV hA hp a (by rw[e];simp);obtain⟨j,rfl,hj⟩:=bV hA hp b (by rw[e];simp);exact⟨k,j,e,hk,hj,by unfold ic;rw[e];rfl⟩
theorem p9 {l:List Tr.Nd}(hA:Ahead l){p:Nat}(hp:p<l.length)(h:(ic l p).length=3):∃k j i:Nat,(ag l p).ks=[(k:Int),(j:Int),(i:Int)]/\k<p/\j<p/\i<p/\ic l p=[(ag l k).kd,(ag l j).kd,(ag l i).kd]:=by
 rw[nR]at h;obtain⟨a,b,c,e⟩:=Dx h;obtain⟨k,rfl,hk⟩:=bV hA hp a (by rw[e];simp);obtain⟨j,rfl,hj⟩:=bV hA hp b (by rw[e];simp);obtain⟨i,rfl,hi⟩:=bV hA hp c (by rw[e];simp);exact⟨k,j,i,e,hk,hj,hi,by unfold ic;rw[e];rfl⟩
theorem xG {l:List Tr.Nd}{p k:Int}(hk:k ∈ (ag l p).ks):(ag l k).kd ∈ ic l p:=List.mem_map.2 ⟨k,hk,rfl⟩
theorem ma (a:Int):∀(l:List Int),∀x ∈ l.take (il a l),x=a
 | [],x,h=>by cases h
 |y :: l,x,h=>by
  unfold il at h;split at h
  case isTrue e=>
   rw[List.take_succ_cons]at h;rcases List.mem_cons.1 h with rfl |h
   ·exact e
   ·exact ma a l x h
  case isFalse=>rw[List.take_zero]at h;cases h
theorem zb (l:List Int)(a b:Int):∀x ∈ l.take (qz l a b),x=a\/x=b:=λx h=>by
 unfold qz at h;rw[List.take_add]at h;rcases List.mem_append.1 h with h |h
 ·exact Or.inl (ma a l x h)
 ·exact Or.inr (ma b _ x h)
theorem JJ {l:List Int}{a b:Int}(h:iq l a b 0=true):∀x ∈ l,x=a\/x=b:=λx hx=>by
 unfold iq at h;rw[if_pos rfl,decide_eq_true_eq]at h;have:=zb l a b x;rw[h,List.take_length]at this;exact this hx
theorem FJ {l:List Int}{a b c:Int}(hc:c≠0)(h:iq l a b c=true):∃l',l=l'++[c]/\∀x ∈ l',x=a\/x=b:=by
 unfold iq at h;rw[if_neg hc]at h;simp only[Bool.and_eq_true,decide_eq_true_eq]at h;obtain⟨h1,h2⟩:=h;refine⟨l.take (qz l a b),?_,zb l a b⟩;have hi:qz l a b<l.length:=by omega
 have e:l.take (qz l a b+1)=l.take (qz l a b)++[l[qz l a b]]:=List.take_succ_eq_append_getElem hi;rw[List.getD_eq_getElem?_getD,List.getElem?_eq_getElem hi]at h2;rw[h1,List.take_length]at e;rw[show l[qz l a b]=c from h2]at e;exact e
theorem dY {l:List Int}(h:eY l=true):∀x ∈ l,aI x=true:=List.all_eq_true.1 h
structure su (l:List Tr.Nd):Prop where
 ex:I9 l
 few:∀p:Nat,p<l.length->(ag l p).ks.length<=4000
 ln:∀p:Nat,p<l.length->dS (ag l p).kd=true->M9 l l.length l.length p
 kif:∀p:Nat,p<l.length->(ag l p).kd=11->∃a b c:Nat,(ag l p).ks=[(a:Int),(b:Int),(c:Int)]/\b<p/\c<p/\(ag l b).kd=6/\(ag l c).kd=6
 wh:∀p:Nat,p<l.length->(ag l p).kd=12->∃a b:Nat,(ag l p).ks=[(a:Int),(b:Int)]/\b<p/\(ag l b).kd=6
 tr:∀p:Nat,p<l.length->(ag l p).kd=16->∃a b:Nat,(ag l p).ks=[(a:Int),(b:Int)]/\a<p/\b<p/\(ag l a).kd=6/\(ag l b).kd=6
 bl:∀p:Nat,p<l.length->(ag l p).kd=6->∀k ∈ (ag l p).ks,∃k2:Nat,k=(k2:Int)/\k2<p/\dS (ag l k2).kd=true
 pr:∀p:Nat,p<l.length->(ag l p).kd=3->∃(ks:List Int) (b:Nat),(ag l p).ks=ks++[(b:Int)]/\b<p/\(ag l b).kd=6/\∀k ∈ ks,∃k2:Nat,k=(k2:Int)/\k2<p/\((ag l k2).kd=4\/(ag l k2).kd=5)
 pg:∀p:Nat,p<l.length->(ag l p).kd=1->∀k ∈ (ag l p).ks,∃k2:Nat,k=(k2:Int)/\k2<p/\((ag l k2).kd=2\/(ag l k2).kd=3)
theorem mf {k:Int}(h:dS k=true):k=7\/k=8\/k=9\/k=10\/k=11\/k=12\/k=13\/k=14\/k=15\/k=16\/k=17:=by
 unfold dS at h;simp only[Bool.and_eq_true,decide_eq_true_eq]at h;omega
theorem FK {l:List Tr.Nd}(hA:Ahead l)(h:iU l=true)(hm:∀x ∈ l,x.n<=9223372036854775807):I9 l where
 one p hp hk:=by
  have h1:=(bQ h hp).kid;have h2:(ic l p).length=1/\eY (ic l p)=true:=by
   rcases hk with hk |hk<;>· rw[hk]at h1;simpa [bz]using h1
  obtain⟨k,e,hlt,e2⟩:=lg hA hp h2.1;exact⟨k,e,hlt,dY h2.2 _ (by rw[e2];simp)⟩
 two p hp hk:=by
  have h1:=(bQ h hp).kid;rw[hk]at h1;have h2:(ic l p).length=2/\eY (ic l p)=true:=by simpa [bz]using h1
  obtain⟨k,j,e,hlt,hlt2,e2⟩:=iD hA hp h2.1;exact⟨k,j,e,hlt,hlt2,dY h2.2 _ (by rw[e2];simp),dY h2.2 _ (by rw[e2];simp)⟩
 num p hp hk:=by
  have h1:=(bQ h hp).num;rw[hk]at h1;refine⟨by simpa [eP]using h1,?_⟩;rw[aT hp];exact hm _ (List.getElem_mem hp)
theorem FL {l:List Tr.Nd}(hA:Ahead l)(h:iU l=true)(hm:∀x ∈ l,x.n<=9223372036854775807)(hf:∀x ∈ l,x.ks.length<=4000):su l where
 ex:=FK hA h hm
 few p hp:=by rw[aT hp];exact hf _ (List.getElem_mem hp)
 ln p hp hk:=by
  have h1:=(bQ h hp).kid;have hfew:(ag l p).ks.length<=4000:=by rw[aT hp];exact hf _ (List.getElem_mem hp)
  rcases mf hk with e |e |e |e |e |e |e |e |e |e |e<;>rw[e]at h1<;>simp[bz]at h1
  ·obtain⟨k,e1,hlt,e2⟩:=lg hA hp h1.1;exact Or.inl ⟨Or.inl e,k,by rw[e1];rfl,by omega,by omega,dY h1.2 _ (by rw[e2];simp)⟩
  ·obtain⟨k,j,e1,hlt,hlt2,e2⟩:=iD hA hp h1.1;exact Or.inr (Or.inl ⟨e,k,j,e1,⟨by omega,by omega,dY h1.2 _ (by rw[e2];simp)⟩,by omega,by omega,dY h1.2 _ (by rw[e2];simp)⟩)
  ·obtain⟨k,e1,hlt,e2⟩:=lg hA hp h1.1;exact Or.inr (Or.inr (Or.inl ⟨e,k,by rw[e1];rfl,by omega⟩))
  ·obtain⟨k,j,e1,hlt,hlt2,e2⟩:=iD hA hp h1.1.1;rw[e2]at h1;exact Or.inr (Or.inr (Or.inr (Or.inl ⟨e,k,j,e1,by omega,by omega,by omega,h1.2⟩)))
  ·obtain⟨k,j,i,e1,hlt,hlt2,hlt3,e2⟩:=p9 hA hp h1.1.1.1;rw[e2]at h1;exact Or.inl ⟨Or.inr (Or.inl e),k,by rw[e1];rfl,by omega,by omega,h1.1.1.2⟩
  ·obtain⟨k,j,e1,hlt,hlt2,e2⟩:=iD hA hp h1.1.1;rw[e2]at h1;exact Or.inl ⟨Or.inr (Or.inr (Or.inl e)),k,by rw[e1];rfl,by omega,by omega,h1.1.2⟩
  ·have e3:=nR l p;rcases hks:(ag l p).ks with _ |⟨a,ks⟩
   ·rw[hks]at e3;have h2:=h1.1.1;rw[e3]at h2;simp at h2
   ·obtain⟨k,rfl,hlt⟩:=bV hA hp a (by rw[hks];simp);refine Or.inr (Or.inr (Or.inr (Or.inr (Or.inl ⟨e,k,ks,hks,?_,by omega,λx hx =>?_⟩))))
    ·rw[hks]at hfew;simp only[List.length_cons]at hfew;omega
    ·obtain⟨x2,rfl,hx2⟩:=bV hA hp x (by rw[hks];exact List.mem_cons_of_mem _ hx);refine⟨x2,rfl,by omega,by omega,dY h1.2 _ ?_⟩;unfold ic;rw[hks,List.map_cons];exact List.mem_map.2 ⟨_,hx,rfl⟩
  ·refine Or.inr (Or.inr (Or.inr (Or.inr (Or.inr (Or.inl ⟨e,by omega,λx hx =>?_⟩)))));obtain⟨x2,rfl,hx2⟩:=bV hA hp x hx;exact⟨x2,rfl,by omega,by omega,dY h1.2 _ (xG hx)⟩
  ·obtain⟨k,e1,hlt,e2⟩:=lg hA hp h1.1;exact Or.inl ⟨Or.inr (Or.inr (Or.inr (Or.inl e))),k,by rw[e1];rfl,by omega,by omega,dY h1.2 _ (by rw[e2];simp)⟩
  ·exact Or.inr (Or.inr (Or.inr (Or.inr (Or.inr (Or.inr e)))))
  ·obtain⟨k,e1,hlt,e2⟩:=lg hA hp h1.1;exact Or.inl ⟨Or.inr (Or.inr (Or.inr (Or.inr e))),k,by rw[e1];rfl,by omega,by omega,dY h1.2 _ (by rw[e2];simp)⟩
 kif p hp e:=by
  have h1:=(bQ h hp).kid;rw[e]at h1;simp[bz]at h1;obtain⟨k,j,i,e1,hlt,hlt2,hlt3,e2⟩:=p9 hA hp h1.1.1.1;rw[e2]at h1;exact⟨k,j,i,e1,hlt2,hlt3,h1.1.2,h1.2⟩
 wh p hp e:=by
  have h1:=(bQ h hp).kid;rw[e]at h1;simp[bz]at h1;obtain⟨k,j,e1,hlt,hlt2,e2⟩:=iD hA hp h1.1.1;rw[e2]at h1;exact⟨k,j,e1,hlt2,h1.2⟩
 tr p hp e:=by
  have h1:=(bQ h hp).kid;rw[e]at h1;simp[bz]at h1;obtain⟨k,j,e1,hlt,hlt2,e2⟩:=iD hA hp h1.1.1;rw[e2]at h1;exact⟨k,j,e1,hlt,hlt2,h1.1.2,h1.2⟩
 bl p hp e:=λk hk=>by
  have h1:=(bQ h hp).kid;rw[e]at h1;simp only[bz]at h1;obtain⟨k2,rfl,hlt⟩:=bV hA hp k hk;exact⟨k2,rfl,hlt,List.all_eq_true.1 (show(ic l p).all dS=true by simpa using h1) _ (xG hk)⟩
 pr p hp e:=by
  have h1:=(bQ h hp).kid;rw[e]at h1;have h2:iq (ic l p) 4 5 6=true:=by simpa [bz]using h1
  obtain⟨l',e1,e2⟩:=FJ (by decide) h2;have e3:(ag l p).ks≠[]:=λh0=>by unfold ic at e1;rw[h0]at e1;simp at e1
  obtain⟨ks,b,hks⟩:∃ks b,(ag l p).ks=ks++[b]:=⟨_,_,(List.dropLast_concat_getLast e3).symm⟩;have e4:ic l p=(ks.map λk=>(ag l k).kd)++[(ag l b).kd]:=by unfold ic;rw[hks,List.map_append];rfl
  rw[e4]at e1;obtain⟨e5,e6⟩:=List.append_inj' e1 rfl;obtain⟨b2,rfl,hb⟩:=bV hA hp b (by rw[hks];simp);refine⟨ks,b2,hks,hb,by simpa using e6,λk hk =>?_⟩;obtain⟨k2,rfl,hlt⟩:=bV hA hp k (by rw[hks];exact List.mem_append_left _ hk);exact⟨k2,rfl,hlt,e2 _ (by rw[<- e5];exact List.mem_map.2 ⟨_,hk,rfl⟩)⟩
 pg p hp e:=λk hk=>by
  have h1:=(bQ h hp).kid;rw[e]at h1;have h2:iq (ic l p) 2 3 0=true:=by simpa [bz]using h1
  obtain⟨k2,rfl,hlt⟩:=bV hA hp k hk;exact⟨k2,rfl,hlt,JJ h2 _ (xG hk)⟩
end
section
open Go
open Tr (nth dS aI eY bz kV iU iq eP iT ig rR)
structure JK (l:List Tr.Nd) (S:Int->Nat):Prop where
 eq:∀p:Nat,p<l.length->S p=1+((ag l p).ks.map S).sum
 top:∀p:Nat,p<l.length->S p<=4000
theorem Cc {t:List UInt8}(h:ig t=true):t.length<=20:=by
 unfold ig at h;simp only[Bool.and_eq_true,decide_eq_true_eq]at h;exact h.1.1.1.2
theorem JL {t:List UInt8}(h:rR t=true):t.length<=20:=by
 unfold rR at h;simp only[Bool.or_eq_true,beq_iff_eq]at h;rcases h with(((((((((((h |h) |h) |h) |h) |h) |h) |h) |h) |h) |h) |h) |h<;>rw[h]<;>decide
theorem JM {k:Int}{t:List UInt8}(h:iT k t=true):t.length<=20:=by
 unfold iT at h;split at h
 ·exact Cc h
 split at h
 ·simp only[Bool.or_eq_true,beq_iff_eq]at h;rcases h with h |h
  ·exact Cc h
  ·rw[h];decide
 split at h
 ·simp only[Bool.or_eq_true,beq_iff_eq]at h;rcases h with h |h<;>rw[h]<;>decide
 split at h
 ·exact JL h
 ·rw[beq_iff_eq]at h;rw[h];decide
theorem nS {l:List Tr.Nd}(h:iU l=true){p:Nat}(hp:p<l.length):(bu l p).length<=20:=JM (bQ h hp).tx
theorem nT {α:Type}{f:α->List UInt8}{g:α->Nat}{C:Nat}:∀(ks:List α),(∀k ∈ ks,(f k).length<=C*g k)->(ks.map f).flatten.length<=C*(ks.map g).sum
 | [],_=>Nat.zero_le _
 |k :: ks,h=>by
  have h1:=h k List.mem_cons_self;have h2:=nT ks λx hx=>h x (List.mem_cons_of_mem _ hx)
  simp only[List.map_cons,List.flatten_cons,List.length_append,List.sum_cons,Nat.mul_add];omega
theorem xH {α:Type}{f:α->List UInt8}{g:α->Nat}{C:Nat}:∀(ks:List α),(∀k ∈ ks,(f k).length+2<=C*g k)->(fu (ks.map f)).length<=C*(ks.map g).sum
 | [],_=>Nat.zero_le _
 | [k],h=>by
  have h1:=h k List.mem_cons_self;show(f k).length<=_;simp only[List.map_cons,List.map_nil,List.sum_cons,List.sum_nil,Nat.mul_add];omega
 |k :: j :: ks,h=>by
  have h1:=h k List.mem_cons_self;have h2:=xH (j :: ks) λx hx=>h x (List.mem_cons_of_mem _ hx)
  show(f k++[44,32]++fu ((j :: ks).map f)).length<=_;rw[List.map_cons (l:=j :: ks),List.sum_cons,Nat.mul_add];simp only[List.length_append,List.length_cons,List.length_nil];omega
theorem xI (n:Nat):∀ks:List Int,ks.length<=n->(ks.map λ_=>1).sum<=n
 | [],_=>Nat.zero_le _
 |k :: ks,h=>by
  obtain⟨m,rfl⟩:∃m,n=m+1:=⟨n-1,by simp only[List.length_cons]at h;omega⟩;have:=xI m ks (by simpa using h);simp only[List.map_cons,List.sum_cons];omega
theorem xJ {S:Int->Nat}{k:Int}:∀ {ks:List Int},k ∈ ks->S k<=(ks.map S).sum
 | [],h=>by cases h
 |x :: ks,h=>by
  simp only[List.map_cons,List.sum_cons];rcases List.mem_cons.1 h with rfl |h
  ·omega
  ·have:=xJ (S:=S) h;omega
theorem Ce (n:Int):(qN n).length<=4:=by
 unfold qN;split
 ·decide
 split
 ·decide
 split<;>decide
theorem uD (d:Nat):(fH d).length=2*d:=by
 unfold fH;rw[List.length_flatten,List.map_replicate,List.sum_replicate_nat];simp only[List.length_cons,List.length_nil];omega
theorem xK (l:List Tr.Nd)(ex:Int->List UInt8)(k:Int):(r9 l ex k).length<=2+(ex k).length:=by
 unfold r9;split
 ·simp only[List.length_append,List.length_cons,List.length_nil];omega
 ·omega
theorem aV {l:List Tr.Nd}{p a:Int}{ks:List Int}(h:(ag l p).ks=a :: ks):aL l p 0=a:=by unfold aL;rw[h];rfl
theorem dX {l:List Tr.Nd}{p a b:Int}{ks:List Int}(h:(ag l p).ks=a :: b :: ks):aL l p 1=b:=by unfold aL;rw[h];rfl
theorem xL {l:List Tr.Nd}{p a b c:Int}{ks:List Int}(h:(ag l p).ks=a :: b :: c :: ks):aL l p 2=c:=by unfold aL;rw[h];rfl
theorem xM {l:List Tr.Nd}{S:Int->Nat}(hs:iU l=true)(hx:I9 l)(hS:JK l S):∀(f p:Nat),p<l.length->(bF l f p).length<=64*S p
 |0,p,_=>Nat.zero_le _
 |f+1,p,hp=>by
  have ht:=nS hs hp;have hr:=hS.eq p hp;have ih:=xM hs hx hS f;show List.length (if (ag l p).kd=20 then _ else _)<=_;split
  case isTrue e=>
   have h1:=hx.num p hp e;have:=Lib.itoa_length_le (ag l p).n (by omega) h1.2;omega
  split
  ·have:∀b,(Lib.formatBool b).length<=5:=by intro b;cases b<;>decide
   have:=this ((ag l p).n==1);omega
  split
  ·omega
  split
  case isTrue e=>
   obtain⟨k,e1,hlt,_⟩:=hx.one p hp (Or.inl e);have:=ih k (by omega);rw[aV e1];rw[e1]at hr;simp only[List.map_cons,List.map_nil,List.sum_cons,List.sum_nil]at hr;simp only[List.length_append,List.length_cons,List.length_nil];omega
  split
  ·simp only[List.length_append,List.length_cons,List.length_nil];omega
  split
  ·simp only[List.length_append,List.length_cons,List.length_nil];omega
  split
  case isTrue e=>
   obtain⟨k,e1,hlt,_⟩:=hx.one p hp (Or.inr e);have:=ih k (by omega);have:=xK l (bF l f) k;rw[aV e1];rw[e1]at hr;simp only[List.map_cons,List.map_nil,List.sum_cons,List.sum_nil]at hr;simp only[List.length_append];omega
  split
  case isTrue e=>
   obtain⟨k,j,e1,hlt,hlt2,_⟩:=hx.two p hp e;have:=ih k (by omega);have:=ih j (by omega);have:=xK l (bF l f) k;have:=xK l (bF l f) j;rw[aV e1,dX e1];rw[e1]at hr;simp only[List.map_cons,List.map_nil,List.sum_cons,List.sum_nil]at hr;simp only[List.length_append,List.length_cons,List.length_nil];omega
  ·exact Nat.zero_le _
theorem qZ {l:List Tr.Nd}{S:Int->Nat}(hS:JK l S){p:Nat}(hp:p<l.length):1<=S p:=by have:=hS.eq p hp;omega
theorem ze {l:List Tr.Nd}{p k:Int}(h:(ag l p).ks[0]?=some k):∃ks,(ag l p).ks=k :: ks:=by
 rcases hks:(ag l p).ks with _ |⟨a,ks⟩
 ·rw[hks]at h;cases h
 ·rw[hks]at h;cases h;exact⟨ks,rfl⟩
theorem JN {l:List Tr.Nd}{S:Int->Nat}(hs:iU l=true)(hx:I9 l)(hS:JK l S)(F p:Nat)(hp:p<l.length)(hL:M9 l l.length l.length p):(eG l F p).length<=100*S p:=by
 have ht:=nS hs hp;have hr:=hS.eq p hp;have ih:=xM hs hx hS F;rcases hL with⟨hk,k,h0,h1,h2,h3⟩ |⟨hk,k,j,h0,⟨h1,h2,h3⟩,h4,h5,h6⟩ |⟨hk,k,h0,h1⟩ |⟨hk,k,j,h0,h1,h2,h3,h4⟩ |⟨hk,k,ks,h0,h1,h2,h3⟩ |⟨hk,h0,h1⟩ |hk
 ·obtain⟨ks,e1⟩:=ze h0;have h5:=ih k h2;have h6:S k<=_:=xJ (S:=S) (ks:=(ag l p).ks) (k:=(k:Int)) (by rw[e1];exact List.mem_cons_self);have h7:=aV e1;unfold eG;rcases hk with hk |hk |hk |hk |hk<;>rw[hk,h7]<;>simp only[reduceIte,Int.reduceEq,List.length_append,List.length_cons,List.length_nil]<;>omega
 ·have h7:=ih k h2;have h8:=ih j h5;unfold eG;rw[hk,aV h0,dX h0];rw[h0]at hr;simp only[List.map_cons,List.map_nil,List.sum_cons,List.sum_nil]at hr;simp only[reduceIte,Int.reduceEq,List.length_append,List.length_cons,List.length_nil];omega
 ·obtain⟨ks,e1⟩:=ze h0;have h5:=nS hs h1;unfold eG;rw[hk,aV e1];simp only[reduceIte,Int.reduceEq,List.length_append,List.length_cons,List.length_nil];omega
 ·have h8:=ih j h3;have h5:=nS hs h1;unfold eG;rw[hk,aV h0,dX h0];rw[h0]at hr;simp only[List.map_cons,List.map_nil,List.sum_cons,List.sum_nil]at hr;simp only[reduceIte,Int.reduceEq,List.length_append,List.length_cons,List.length_nil];omega
 ·have h5:=nS hs h2;have h6:(fu (ks.map (bF l F))).length<=66*(ks.map S).sum:=xH ks λx hx'=>by
   obtain⟨x2,rfl,_,hx2,_⟩:=h3 x hx';have:=ih x2 hx2;have:=qZ hS hx2;omega
  unfold eG nE;rw[hk,aV h0,h0,List.tail_cons];rw[h0]at hr;simp only[List.map_cons,List.sum_cons]at hr;have h7:((if bu l p=[] then [] else bu l p++[32,61,32]):List UInt8).length<=23:=by
   split
   ·decide
   ·simp only[List.length_append,List.length_cons,List.length_nil];omega
  simp only[reduceIte,Int.reduceEq,List.length_append,List.length_cons,List.length_nil]at h7 |-;omega
 ·have h6:((ag l p).ks.map λk=>[32]++bF l F k).flatten.length<=66*((ag l p).ks.map S).sum:=nT _ λx hx'=>by
   obtain⟨x2,rfl,_,hx2,_⟩:=h1 x hx';have:=ih x2 hx2;have:=qZ hS hx2;simp only[List.length_append,List.length_cons,List.length_nil];omega
  unfold eG;rw[hk];simp only[reduceIte,Int.reduceEq,List.length_append,List.length_cons,List.length_nil]at h6 |-;omega
 ·unfold eG;rw[hk];simp only[reduceIte,Int.reduceEq,List.length_cons,List.length_nil];omega
theorem zf {l:List Tr.Nd}{S:Int->Nat}(hS:JK l S){st:Nat->Int->List UInt8}{d p:Nat}{m:Nat}(hp:p<l.length)(hd:d<=5000)(locals:List Int)(hm:(locals.map (ja l (d+1))).flatten.length<=m)(h:∀k ∈ (ag l p).ks,(st (d+1) k).length<=700000*S k):(fI l st d p locals).length<=m+10004+700000*(S p-1):=by
 have h1:=nT (ag l p).ks h;have hr:=hS.eq p hp;have h2:=uD d;unfold fI;simp only[List.length_append,List.length_cons,List.length_nil]at h1 h2 |-;rw[hr,Nat.add_sub_cancel_left];omega
theorem Cf {l:List Tr.Nd}{S:Int->Nat}(hs:iU l=true)(hx:su l)(hS:JK l S)(F:Nat):∀(f d p:Nat),p<l.length->dS (ag l p).kd=true->d+p<=5000->(nC l F f d p).length<=700000*S p
 |0,_,_,_,_,_=>Nat.zero_le _
 |f+1,d,p,hp,hk,hd=>by
  have ht:=nS hs hp;have hr:=hS.eq p hp;have h1:=JN hs hx.ex hS F p hp (hx.ln p hp hk);have h2:=uD d;have htop:=hS.top p hp;have hblk:∀b:Nat,b<p->(ag l b).kd=6->(fI l (nC l F f) d b []).length<=10004+700000*(S b-1):=λb hb h6=>by
   have:=zf hS (st:=nC l F f) (d:=d) (p:=b) (m:=0) (by omega) (by omega) [] (Nat.le_refl _) λk hk'=>by
    obtain⟨k2,rfl,hlt,h7⟩:=hx.bl b (by omega) h6 k hk';exact Cf hs hx hS F f (d+1) k2 (by omega) h7 (by omega)
   omega
  have hpos:∀b:Nat,b<p->1<=S b:=λb hb=>qZ hS (by omega)
  show List.length (fH d++eG l F p++(if (ag l p).kd=11 then _ else _)++[10])<=_;split
  case isTrue e=>
   obtain⟨a,b,c,e1,hb,hc,h6,h7⟩:=hx.kif p hp e;rw[dX e1,xL e1];rw[e1]at hr;simp only[List.map_cons,List.map_nil,List.sum_cons,List.sum_nil]at hr;have h8:=hblk b hb h6;have h9:=hblk c hc h7;have h10:=hpos b hb;have h11:=hpos c hc;have h12:((if (ag l c).ks=[] then [] else [32,101,108,115,101]++fI l (nC l F f) d c []):List UInt8).length<=10009+700000*(S c-1):=by
    split
    ·exact Nat.zero_le _
    ·simp only[List.length_append,List.length_cons,List.length_nil];omega
   simp only[List.length_append,List.length_cons,List.length_nil]at h12 |-;omega
  split
  case isTrue e=>
   obtain⟨a,b,e1,hb,h6⟩:=hx.wh p hp e;rw[dX e1];rw[e1]at hr;simp only[List.map_cons,List.map_nil,List.sum_cons,List.sum_nil]at hr;have h8:=hblk b hb h6;have h10:=hpos b hb;simp only[List.length_append,List.length_cons,List.length_nil];omega
  split
  case isTrue e=>
   obtain⟨a,b,e1,ha,hb,h6,h7⟩:=hx.tr p hp e;rw[aV e1,dX e1];rw[e1]at hr;simp only[List.map_cons,List.map_nil,List.sum_cons,List.sum_nil]at hr;have h8:=hblk a ha h6;have h9:=hblk b hb h7;have h10:=hpos a ha;have h11:=hpos b hb;simp only[List.length_append,List.length_cons,List.length_nil];omega
  ·simp only[List.length_append,List.length_cons,List.length_nil];omega
theorem zg {l:List Tr.Nd}(hs:iU l=true){p:Nat}(hp:p<l.length):(lS l p).length<=25:=by
 have h1:=nS hs hp;have h2:=Ce (ag l p).n;unfold lS;simp only[List.length_append,List.length_cons,List.length_nil];omega
theorem zh {l:List Tr.Nd}(hs:iU l=true)(d:Nat){p:Nat}(hp:p<l.length):(ja l d p).length<=2*d+31:=by
 have h1:=zg hs hp;have h2:=uD d;unfold ja;simp only[List.length_append,List.length_cons,List.length_nil];omega
theorem FM {l:List Tr.Nd}{S:Int->Nat}(hs:iU l=true)(hx:su l)(hS:JK l S)(hl:l.length<=4000)(F p:Nat)(hp:p<l.length)(hk:(ag l p).kd=3):(nG l F p).length<=700000*S p:=by
 have ht:=nS hs hp;have hr:=hS.eq p hp;have hfew:=hx.few p hp;obtain⟨ks,b,e1,hb,h6,h7⟩:=hx.pr p hp hk;have hall:∀k ∈ (ag l p).ks,∃k2:Nat,k=(k2:Int)/\k2<l.length:=λk hk'=>by
  rw[e1]at hk';rcases List.mem_append.1 hk' with h |h
  ·obtain⟨k2,e,h2,_⟩:=h7 k h;exact⟨k2,e,by omega⟩
  ·exact⟨b,List.mem_singleton.1 h,by omega⟩
 have hf:∀q:Int->Bool,((ag l p).ks.filter q).length<=4000:=λq=>Nat.le_trans (List.length_filter_le _ _) hfew
 have h8:(fu (((ag l p).ks.filter λk=>(ag l k).kd==4).map (lS l))).length<=27*4000:=by
  refine Nat.le_trans (xH (g:=λ_=>1) (C:=27) _ λk hk' =>?_) (Nat.mul_le_mul_left _ (xI _ _ (hf _)));obtain⟨k2,rfl,h2⟩:=hall k ((List.mem_filter.1 hk').1);have:=zg hs h2;omega
 have h9:((((ag l p).ks.filter λk=>(ag l k).kd==5)).map (ja l (0+1))).flatten.length<=33*4000:=by
  refine Nat.le_trans (nT (g:=λ_=>1) (C:=33) _ λk hk' =>?_) (Nat.mul_le_mul_left _ (xI _ _ (hf _)));obtain⟨k2,rfl,h2⟩:=hall k ((List.mem_filter.1 hk').1);have:=zh hs (0+1) h2;omega
 have h10:(ag l p).ks.getLastD 0=(b:Int):=by rw[e1];simp
 have h11:=zf hS (st:=nC l F F) (d:=0) (p:=b) (by omega) (by omega) _ h9 λk hk'=>by
  obtain⟨k2,rfl,hlt,h7⟩:=hx.bl b (by omega) h6 k hk';exact Cf hs hx hS F F (0+1) k2 (by omega) h7 (by omega)
 have h12:=xJ (S:=S) (ks:=(ag l p).ks) (k:=(b:Int)) (by rw[e1];simp);have h13:((if (ag l p).n=0 then [] else [32]++qN (ag l p).n):List UInt8).length<=5:=by
  have:=Ce (ag l p).n;split
  ·exact Nat.zero_le _
  ·simp only[List.length_append,List.length_cons,List.length_nil];omega
 have h14:1<=S b:=qZ hS (by omega);unfold nG nE;rw[h10];simp only[List.length_append,List.length_cons,List.length_nil]at h11 h13 |-;omega
theorem zi {l:List Tr.Nd}{S:Int->Nat}(hs:iU l=true)(hx:su l)(hS:JK l S)(hl:l.length<=4000)(F p:Nat)(hp:p<l.length)(hk:(ag l p).kd=1):(lq l F p).length<=2800000000:=by
 have hr:=hS.eq p hp;have htop:=hS.top p hp;have h1:(lq l F p).length<=700000*((ag l p).ks.map S).sum:=nT _ λk hk'=>by
  obtain⟨k2,rfl,hlt,h2⟩:=hx.pg p hp hk k hk';have h3:1<=S k2:=qZ hS (by omega);split
  ·have:=zh hs 0 (p:=k2) (by omega);omega
  ·rename_i hn;rcases h2 with h2 |h2
   ·exact absurd h2 hn
   ·exact FM hs hx hS hl F k2 (by omega) h2
 omega
open Tr (kD gI aJ) in
theorem Cg {b:Nat->Nat}:∀(ks:List Int) (s e:Nat),(∀q,q<s->b q<=q)->gI b ks s=some e->(ks.map λk:Int=>k.toNat+1-b k.toNat).sum=s-e
 | [],s,e,_,h=>by unfold gI at h;cases h;simp
 |k :: ks,s,e,hb,h=>by
  unfold gI at h;split at h
  ·cases h
  split at h
  case isFalse=>cases h
  case isTrue h0 h1=>
   have h2:=hb (s-1) (by omega);have hb':∀q,q<b (s-1)->b q<=q:=λq hq=>hb q (by omega)
   have h3:=Cg ks _ e hb' h;have h4:=Tr.uh ks _ e hb' h;have h5:k.toNat=s-1:=by omega
   simp only[List.map_cons,List.sum_cons];rw[h3,h5];omega
open Tr (kD gI aJ) in
theorem oJ {l:List Tr.Nd}{p:Nat}(hp:p<l.length):aJ l p=(ag l p).ks:=by
 unfold aJ;rw[aT hp];simp[List.getD,hp]
open Tr (kD gI aJ) in
theorem Nc {l:List Tr.Nd}{b:Nat->Nat}(hS:kD l b l.length)(hb:∀q,q<l.length->b q<=q)(hl:l.length<=4000):JK l (λk=>k.toNat+1-b k.toNat) where
 eq p hp:=by
  have h1:=hS p hp;have h2:=Cg _ p (b p) (λq hq=>hb q (by omega)) h1;have h3:=hb p hp;rw[oJ hp,List.map_reverse,List.sum_reverse]at h2;rw[h2,Int.toNat_natCast];omega
 top p hp:=by rw[Int.toNat_natCast];omega
open Tr (kD gI aJ) in
theorem zk {l:List Tr.Nd}{b:Nat->Nat}(hS:kD l b l.length)(hb:∀q,q<l.length->b q<=q):Ahead l:=λi hi k hk=>by
 have h1:=hS i hi;rw[oJ hi,aT hi]at h1;obtain⟨m,e,h2,_⟩:=Tr.qJ _ i (b i) (λq hq=>hb q (by omega)) h1 k (List.mem_reverse.2 hk);omega
end
section
open Go
open Tr (nth dS aI eY bz kV iU)
theorem nU (l:List Tr.Nd)(f:Nat)(p:Int):bF l (f+1) p=(if (ag l p).kd=20 then Lib.itoa (ag l p).n
  else if (ag l p).kd=21 then Lib.formatBool ((ag l p).n==1)
  else if (ag l p).kd=22 then bu l p
  else if (ag l p).kd=23 then bu l p++[91]++bF l f (aL l p 0)++[93]
  else if (ag l p).kd=24 then [108,101,110,32]++bu l p
  else if (ag l p).kd=25 then [38]++bu l p
  else if (ag l p).kd=26 then bu l p++r9 l (bF l f) (aL l p 0)
  else if (ag l p).kd=27 then r9 l (bF l f) (aL l p 0)++[32]++bu l p++[32]++r9 l (bF l f) (aL l p 1)
  else []):=rfl
structure R5 (la l':List Tr.Nd) (off:Nat):Prop where
 kd:∀i:Nat,i<la.length->(ag l' ((i+off:Nat):Int)).kd=(ag la i).kd
 n:∀i:Nat,i<la.length->(ag l' ((i+off:Nat):Int)).n=(ag la i).n
 tx:∀i:Nat,i<la.length->(ag l' ((i+off:Nat):Int)).tx=(ag la i).tx
 ks:∀i:Nat,i<la.length->(ag l' ((i+off:Nat):Int)).ks=(ag la i).ks.map λk=>k+(off:Int)
end
end Go.Proofs.YteecfjhjllajlaaGreatDoor
