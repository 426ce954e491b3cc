/- PROVED: Ya. No more condition. -/
import Derived.Test.YteecfjhjllajlaaGreatDoorM12
import Derived.Lib.ItoaLen
namespace Go.Proofs.YteecfjhjllajlaaGreatDoor
section
open Go
open Tr (nth dS aI fu bB kY iX iE iD y9 qJ eQ iW iB si)
theorem Od {l:List Tr.Nd}(h:iX l=true){p:Nat}(hp:p<l.length):kY l (ag l p)=true:=by
 rw[aS hp];exact List.all_eq_true.1 h _ (List.getElem_mem hp)
def iA (l:List Tr.Nd)(p:Int):List Int:=(ag l p).ks.map λk=>(ag l k).kd
structure Sn (l:List Tr.Nd) (p:Nat):Prop where
 lo:1<=(ag l p).kd
 hi:(ag l p).kd<=27
 tx:iW (ag l p).kd (bu l p)=true
 num:eQ (ag l p).kd (ag l p).n=true
 kid:bB (ag l p).kd (iA l p)=true
theorem bR {l:List Tr.Nd}(h:iX l=true){p:Nat}(hp:p<l.length):Sn l p:=by
 have h1:=Od h hp;unfold kY at h1;simp only[Bool.and_eq_true,decide_eq_true_eq]at h1;obtain⟨a,b,c,d,e⟩:=h1;exact⟨a,b,c,d,e⟩
theorem bU {l:List Tr.Nd}(hA:Ahead l){p:Nat}(hp:p<l.length):∀k ∈ (ag l p).ks,∃k2:Nat,k=(k2:Int)/\k2<p:=λk hk=>by
 rw[aS hp]at hk;obtain⟨h1,h2⟩:=hA p hp k hk;exact⟨k.toNat,by omega,by omega⟩
theorem Kr {α:Type}{ks:List α}(h:ks.length=1):∃a,ks=[a]:=by
 rcases ks with _ |⟨a,_ |⟨b,r⟩⟩
 ·cases h
 ·exact⟨a,rfl⟩
 ·simp at h
theorem Kt {α:Type}{ks:List α}(h:ks.length=2):∃a b,ks=[a,b]:=by
 rcases ks with _ |⟨a,_ |⟨b,_ |⟨c,r⟩⟩⟩
 ·cases h
 ·simp at h
 ·exact⟨a,b,rfl⟩
 ·simp at h
theorem Ej {α:Type}{ks:List α}(h:ks.length=3):∃a b c,ks=[a,b,c]:=by
 rcases ks with _ |⟨a,_ |⟨b,_ |⟨c,_ |⟨d,r⟩⟩⟩⟩
 ·cases h
 ·simp at h
 ·simp at h
 ·exact⟨a,b,c,rfl⟩
 ·simp at h
theorem n_ (l:List Tr.Nd)(p:Int):(iA l p).length=(ag l p).ks.length:=List.length_map ..
theorem lv {l:List Tr.Nd}(hA:Ahead l){p:Nat}(hp:p<l.length)(h:(iA l p).length=1):∃k:Nat,(ag l p).ks=[(k:Int)]/\k<p/\iA l p=[(ag l k).kd]:=by
 rw[n_]at h;obtain⟨a,e⟩:=Kr h;obtain⟨k,rfl,hk⟩:=bU hA hp a (by rw[e];simp);exact⟨k,e,hk,by unfold iA;rw[e];rfl⟩
theorem iJ {l:List Tr.Nd}(hA:Ahead l){p:Nat}(hp:p<l.length)(h:(iA l p).length=2):∃k j:Nat,(ag l p).ks=[(k:Int),(j:Int)]/\k<p/\j<p/\iA l p=[(ag l k).kd,(ag l j).kd]:=by
 rw[n_]at h;obtain⟨a,b,e⟩:=Kt h;obtain⟨k,rfl,hk⟩:=bU hA hp a (by rw[e];simp);obtain⟨j,rfl,hj⟩:=bU hA hp b (by rw[e];simp);exact⟨k,j,e,hk,hj,by unfold iA;rw[e];rfl⟩
theorem qh {l:List Tr.Nd}(hA:Ahead l){p:Nat}(hp:p<l.length)(h:(iA l p).length=3):∃k j i:Nat,(ag l p).ks=[(k:Int),(j:Int),(i:Int)]/\k<p/\j<p/\i<p/\iA l p=[(ag l k).kd,(ag l j).kd,(ag l i).kd]:=by
 rw[n_]at h;obtain⟨a,b,c,e⟩:=Ej h;obtain⟨k,rfl,hk⟩:=bU hA hp a (by rw[e];simp);obtain⟨j,rfl,hj⟩:=bU hA hp b (by rw[e];simp);obtain⟨i,rfl,hi⟩:=bU hA hp c (by rw[e];simp);exact⟨k,j,i,e,hk,hj,hi,by unfold iA;rw[e];rfl⟩
theorem yg {l:List Tr.Nd}{p k:Int}(hk:k ∈ (ag l p).ks):(ag l k).kd ∈ iA l p:=List.mem_map.2 ⟨k,hk,rfl⟩
theorem mD (a:Int):∀(l:List Int),∀x ∈ l.take (iD a l),x=a
 | [],x,h=>by cases h
 |y :: l,x,h=>by
  unfold iD at h;split at h
  case isTrue e=>
   rw[List.take_succ_cons]at h;rcases List.mem_cons.1 h with rfl |h
   ·exact e
   ·exact mD a l x h
  case isFalse=>rw[List.take_zero]at h;cases h
theorem zC (l:List Int)(a b:Int):∀x ∈ l.take (qJ l a b),x=a\/x=b:=λx h=>by
 unfold qJ at h;rw[List.take_add]at h;rcases List.mem_append.1 h with h |h
 ·exact Or.inl (mD a l x h)
 ·exact Or.inr (mD b _ x h)
theorem Ku {l:List Int}{a b:Int}(h:iE l a b 0=true):∀x ∈ l,x=a\/x=b:=λx hx=>by
 unfold iE at h;rw[if_pos rfl,decide_eq_true_eq]at h;have:=zC l a b x;rw[h,List.take_length]at this;exact this hx
theorem Gm {l:List Int}{a b c:Int}(hc:c≠0)(h:iE l a b c=true):∃l',l=l'++[c]/\∀x ∈ l',x=a\/x=b:=by
 unfold iE at h;rw[if_neg hc]at h;simp only[Bool.and_eq_true,decide_eq_true_eq]at h;obtain⟨h1,h2⟩:=h;refine⟨l.take (qJ l a b),?_,zC l a b⟩;have hi:qJ l a b<l.length:=by omega
 have e:l.take (qJ l a b+1)=l.take (qJ l a b)++[l[qJ l a b]]:=List.take_succ_eq_append_getElem hi;rw[List.getD_eq_getElem?_getD,List.getElem?_eq_getElem hi]at h2;rw[h1,List.take_length]at e;rw[show l[qJ l a b]=c from h2]at e;exact e
theorem dX {l:List Int}(h:fu l=true):∀x ∈ l,aI x=true:=List.all_eq_true.1 h
structure sM (l:List Tr.Nd):Prop where
 ex:FH l
 few:∀p:Nat,p<l.length->(ag l p).ks.length<=4000
 ln:∀p:Nat,p<l.length->dS (ag l p).kd=true->Oa l l.length l.length p
 kif:∀p:Nat,p<l.length->(ag l p).kd=11->∃a b c:Nat,(ag l p).ks=[(a:Int),(b:Int),(c:Int)]/\b<p/\c<p/\(ag l b).kd=6/\(ag l c).kd=6
 wh:∀p:Nat,p<l.length->(ag l p).kd=12->∃a b:Nat,(ag l p).ks=[(a:Int),(b:Int)]/\b<p/\(ag l b).kd=6
 tr:∀p:Nat,p<l.length->(ag l p).kd=16->∃a b:Nat,(ag l p).ks=[(a:Int),(b:Int)]/\a<p/\b<p/\(ag l a).kd=6/\(ag l b).kd=6
 bl:∀p:Nat,p<l.length->(ag l p).kd=6->∀k ∈ (ag l p).ks,∃k2:Nat,k=(k2:Int)/\k2<p/\dS (ag l k2).kd=true
 pr:∀p:Nat,p<l.length->(ag l p).kd=3->∃(ks:List Int) (b:Nat),(ag l p).ks=ks++[(b:Int)]/\b<p/\(ag l b).kd=6/\∀k ∈ ks,∃k2:Nat,k=(k2:Int)/\k2<p/\((ag l k2).kd=4\/(ag l k2).kd=5)
 pg:∀p:Nat,p<l.length->(ag l p).kd=1->∀k ∈ (ag l p).ks,∃k2:Nat,k=(k2:Int)/\k2<p/\((ag l k2).kd=2\/(ag l k2).kd=3)
theorem mE {k:Int}(h:dS k=true):k=7\/k=8\/k=9\/k=10\/k=11\/k=12\/k=13\/k=14\/k=15\/k=16\/k=17:=by
 unfold dS at h;simp only[Bool.and_eq_true,decide_eq_true_eq]at h;omega
theorem Gn {l:List Tr.Nd}(hA:Ahead l)(h:iX l=true)(hm:∀x ∈ l,x.n<=9223372036854775807):FH l where
 one p hp hk:=by
  have h1:=(bR h hp).kid;have h2:(iA l p).length=1/\fu (iA l p)=true:=by
   rcases hk with hk |hk<;>· rw[hk]at h1;simpa [bB]using h1
  obtain⟨k,e,hlt,e2⟩:=lv hA hp h2.1;exact⟨k,e,hlt,dX h2.2 _ (by rw[e2];simp)⟩
 two p hp hk:=by
  have h1:=(bR h hp).kid;rw[hk]at h1;have h2:(iA l p).length=2/\fu (iA l p)=true:=by simpa [bB]using h1
  obtain⟨k,j,e,hlt,hlt2,e2⟩:=iJ hA hp h2.1;exact⟨k,j,e,hlt,hlt2,dX h2.2 _ (by rw[e2];simp),dX h2.2 _ (by rw[e2];simp)⟩
 num p hp hk:=by
  have h1:=(bR h hp).num;rw[hk]at h1;refine⟨by simpa [eQ]using h1,?_⟩;rw[aS hp];exact hm _ (List.getElem_mem hp)
theorem Gp {l:List Tr.Nd}(hA:Ahead l)(h:iX l=true)(hm:∀x ∈ l,x.n<=9223372036854775807)(hf:∀x ∈ l,x.ks.length<=4000):sM l where
 ex:=Gn hA h hm
 few p hp:=by rw[aS hp];exact hf _ (List.getElem_mem hp)
 ln p hp hk:=by
  have h1:=(bR h hp).kid;have hfew:(ag l p).ks.length<=4000:=by rw[aS hp];exact hf _ (List.getElem_mem hp)
  rcases mE hk with e |e |e |e |e |e |e |e |e |e |e<;>rw[e]at h1<;>simp[bB]at h1
  ·obtain⟨k,e1,hlt,e2⟩:=lv hA hp h1.1;exact Or.inl ⟨Or.inl e,k,by rw[e1];rfl,by omega,by omega,dX h1.2 _ (by rw[e2];simp)⟩
  ·obtain⟨k,j,e1,hlt,hlt2,e2⟩:=iJ hA hp h1.1;exact Or.inr (Or.inl ⟨e,k,j,e1,⟨by omega,by omega,dX h1.2 _ (by rw[e2];simp)⟩,by omega,by omega,dX h1.2 _ (by rw[e2];simp)⟩)
  ·obtain⟨k,e1,hlt,e2⟩:=lv hA hp h1.1;exact Or.inr (Or.inr (Or.inl ⟨e,k,by rw[e1];rfl,by omega⟩))
  ·obtain⟨k,j,e1,hlt,hlt2,e2⟩:=iJ hA hp h1.1.1;rw[e2]at h1;exact Or.inr (Or.inr (Or.inr (Or.inl ⟨e,k,j,e1,by omega,by omega,by omega,h1.2⟩)))
  ·obtain⟨k,j,i,e1,hlt,hlt2,hlt3,e2⟩:=qh hA hp h1.1.1.1;rw[e2]at h1;exact Or.inl ⟨Or.inr (Or.inl e),k,by rw[e1];rfl,by omega,by omega,h1.1.1.2⟩
  ·obtain⟨k,j,e1,hlt,hlt2,e2⟩:=iJ hA hp h1.1.1;rw[e2]at h1;exact Or.inl ⟨Or.inr (Or.inr (Or.inl e)),k,by rw[e1];rfl,by omega,by omega,h1.1.2⟩
  ·have e3:=n_ l p;rcases hks:(ag l p).ks with _ |⟨a,ks⟩
   ·rw[hks]at e3;have h2:=h1.1.1;rw[e3]at h2;simp at h2
   ·obtain⟨k,rfl,hlt⟩:=bU hA hp a (by rw[hks];simp);refine Or.inr (Or.inr (Or.inr (Or.inr (Or.inl ⟨e,k,ks,hks,?_,by omega,λx hx =>?_⟩))))
    ·rw[hks]at hfew;simp only[List.length_cons]at hfew;omega
    ·obtain⟨x2,rfl,hx2⟩:=bU hA hp x (by rw[hks];exact List.mem_cons_of_mem _ hx);refine⟨x2,rfl,by omega,by omega,dX h1.2 _ ?_⟩;unfold iA;rw[hks,List.map_cons];exact List.mem_map.2 ⟨_,hx,rfl⟩
  ·refine Or.inr (Or.inr (Or.inr (Or.inr (Or.inr (Or.inl ⟨e,by omega,λx hx =>?_⟩)))));obtain⟨x2,rfl,hx2⟩:=bU hA hp x hx;exact⟨x2,rfl,by omega,by omega,dX h1.2 _ (yg hx)⟩
  ·obtain⟨k,e1,hlt,e2⟩:=lv hA hp h1.1;exact Or.inl ⟨Or.inr (Or.inr (Or.inr (Or.inl e))),k,by rw[e1];rfl,by omega,by omega,dX h1.2 _ (by rw[e2];simp)⟩
  ·exact Or.inr (Or.inr (Or.inr (Or.inr (Or.inr (Or.inr e)))))
  ·obtain⟨k,e1,hlt,e2⟩:=lv hA hp h1.1;exact Or.inl ⟨Or.inr (Or.inr (Or.inr (Or.inr e))),k,by rw[e1];rfl,by omega,by omega,dX h1.2 _ (by rw[e2];simp)⟩
 kif p hp e:=by
  have h1:=(bR h hp).kid;rw[e]at h1;simp[bB]at h1;obtain⟨k,j,i,e1,hlt,hlt2,hlt3,e2⟩:=qh hA hp h1.1.1.1;rw[e2]at h1;exact⟨k,j,i,e1,hlt2,hlt3,h1.1.2,h1.2⟩
 wh p hp e:=by
  have h1:=(bR h hp).kid;rw[e]at h1;simp[bB]at h1;obtain⟨k,j,e1,hlt,hlt2,e2⟩:=iJ hA hp h1.1.1;rw[e2]at h1;exact⟨k,j,e1,hlt2,h1.2⟩
 tr p hp e:=by
  have h1:=(bR h hp).kid;rw[e]at h1;simp[bB]at h1;obtain⟨k,j,e1,hlt,hlt2,e2⟩:=iJ hA hp h1.1.1;rw[e2]at h1;exact⟨k,j,e1,hlt,hlt2,h1.1.2,h1.2⟩
 bl p hp e:=λk hk=>by
  have h1:=(bR h hp).kid;rw[e]at h1;simp only[bB]at h1;obtain⟨k2,rfl,hlt⟩:=bU hA hp k hk;exact⟨k2,rfl,hlt,List.all_eq_true.1 (show(iA l p).all dS=true by simpa using h1) _ (yg hk)⟩
 pr p hp e:=by
  have h1:=(bR h hp).kid;rw[e]at h1;have h2:iE (iA l p) 4 5 6=true:=by simpa [bB]using h1
  obtain⟨l',e1,e2⟩:=Gm (by decide) h2;have e3:(ag l p).ks≠[]:=λh0=>by unfold iA at e1;rw[h0]at e1;simp at e1
  obtain⟨ks,b,hks⟩:∃ks b,(ag l p).ks=ks++[b]:=⟨_,_,(List.dropLast_concat_getLast e3).symm⟩;have e4:iA l p=(ks.map λk=>(ag l k).kd)++[(ag l b).kd]:=by unfold iA;rw[hks,List.map_append];rfl
  rw[e4]at e1;obtain⟨e5,e6⟩:=List.append_inj' e1 rfl;obtain⟨b2,rfl,hb⟩:=bU hA hp b (by rw[hks];simp);refine⟨ks,b2,hks,hb,by simpa using e6,λk hk =>?_⟩;obtain⟨k2,rfl,hlt⟩:=bU hA hp k (by rw[hks];exact List.mem_append_left _ hk);exact⟨k2,rfl,hlt,e2 _ (by rw[<- e5];exact List.mem_map.2 ⟨_,hk,rfl⟩)⟩
 pg p hp e:=λk hk=>by
  have h1:=(bR h hp).kid;rw[e]at h1;have h2:iE (iA l p) 2 3 0=true:=by simpa [bB]using h1
  obtain⟨k2,rfl,hlt⟩:=bU hA hp k hk;exact⟨k2,rfl,hlt,Ku h2 _ (yg hk)⟩
end
section
open Go
open Tr (nth dS aI fu bB kY iX iE eQ iW iB si)
structure Kv (l:List Tr.Nd) (S:Int->Nat):Prop where
 eq:∀p:Nat,p<l.length->S p=1+((ag l p).ks.map S).sum
 top:∀p:Nat,p<l.length->S p<=4000
theorem CQ {t:List UInt8}(h:iB t=true):t.length<=20:=by
 unfold iB at h;simp only[Bool.and_eq_true,decide_eq_true_eq]at h;exact h.1.1.1.2
theorem Kw {t:List UInt8}(h:si t=true):t.length<=20:=by
 unfold si at h;simp only[Bool.or_eq_true,beq_iff_eq]at h;rcases h with(((((((((((h |h) |h) |h) |h) |h) |h) |h) |h) |h) |h) |h) |h<;>rw[h]<;>decide
theorem Ky {k:Int}{t:List UInt8}(h:iW k t=true):t.length<=20:=by
 unfold iW at h;split at h
 ·exact CQ h
 split at h
 ·simp only[Bool.or_eq_true,beq_iff_eq]at h;rcases h with h |h
  ·exact CQ h
  ·rw[h];decide
 split at h
 ·simp only[Bool.or_eq_true,beq_iff_eq]at h;rcases h with h |h<;>rw[h]<;>decide
 split at h
 ·exact Kw h
 ·rw[beq_iff_eq]at h;rw[h];decide
theorem og {l:List Tr.Nd}(h:iX l=true){p:Nat}(hp:p<l.length):(bu l p).length<=20:=Ky (bR h hp).tx
theorem oh {α:Type}{f:α->List UInt8}{g:α->Nat}{C:Nat}:∀(ks:List α),(∀k ∈ ks,(f k).length<=C*g k)->(ks.map f).flatten.length<=C*(ks.map g).sum
 | [],_=>Nat.zero_le _
 |k :: ks,h=>by
  have h1:=h k List.mem_cons_self;have h2:=oh ks λx hx=>h x (List.mem_cons_of_mem _ hx)
  simp only[List.map_cons,List.flatten_cons,List.length_append,List.sum_cons,Nat.mul_add];omega
theorem yh {α:Type}{f:α->List UInt8}{g:α->Nat}{C:Nat}:∀(ks:List α),(∀k ∈ ks,(f k).length+2<=C*g k)->(fD (ks.map f)).length<=C*(ks.map g).sum
 | [],_=>Nat.zero_le _
 | [k],h=>by
  have h1:=h k List.mem_cons_self;show(f k).length<=_;simp only[List.map_cons,List.map_nil,List.sum_cons,List.sum_nil,Nat.mul_add];omega
 |k :: j :: ks,h=>by
  have h1:=h k List.mem_cons_self;have h2:=yh (j :: ks) λx hx=>h x (List.mem_cons_of_mem _ hx)
  show(f k++[44,32]++fD ((j :: ks).map f)).length<=_;rw[List.map_cons (l:=j :: ks),List.sum_cons,Nat.mul_add];simp only[List.length_append,List.length_cons,List.length_nil];omega
theorem yj (n:Nat):∀ks:List Int,ks.length<=n->(ks.map λ_=>1).sum<=n
 | [],_=>Nat.zero_le _
 |k :: ks,h=>by
  obtain⟨m,rfl⟩:∃m,n=m+1:=⟨n-1,by simp only[List.length_cons]at h;omega⟩;have:=yj m ks (by simpa using h);simp only[List.map_cons,List.sum_cons];omega
theorem ym {S:Int->Nat}{k:Int}:∀ {ks:List Int},k ∈ ks->S k<=(ks.map S).sum
 | [],h=>by cases h
 |x :: ks,h=>by
  simp only[List.map_cons,List.sum_cons];rcases List.mem_cons.1 h with rfl |h
  ·omega
  ·have:=ym (S:=S) h;omega
theorem CR (n:Int):(qX n).length<=4:=by
 unfold qX;split
 ·decide
 split
 ·decide
 split<;>decide
theorem uS (d:Nat):(fK d).length=2*d:=by
 unfold fK;rw[List.length_flatten,List.map_replicate,List.sum_replicate_nat];simp only[List.length_cons,List.length_nil];omega
theorem yn (l:List Tr.Nd)(ex:Int->List UInt8)(k:Int):(qW l ex k).length<=2+(ex k).length:=by
 unfold qW;split
 ·simp only[List.length_append,List.length_cons,List.length_nil];omega
 ·omega
theorem aR {l:List Tr.Nd}{p a:Int}{ks:List Int}(h:(ag l p).ks=a :: ks):aL l p 0=a:=by unfold aL;rw[h];rfl
theorem dO {l:List Tr.Nd}{p a b:Int}{ks:List Int}(h:(ag l p).ks=a :: b :: ks):aL l p 1=b:=by unfold aL;rw[h];rfl
theorem yo {l:List Tr.Nd}{p a b c:Int}{ks:List Int}(h:(ag l p).ks=a :: b :: c :: ks):aL l p 2=c:=by unfold aL;rw[h];rfl
theorem yu {l:List Tr.Nd}{S:Int->Nat}(hs:iX l=true)(hx:FH l)(hS:Kv l S):∀(f p:Nat),p<l.length->(bE l f p).length<=64*S p
 |0,p,_=>Nat.zero_le _
 |f+1,p,hp=>by
  have ht:=og hs hp;have hr:=hS.eq p hp;have ih:=yu hs hx hS f;show List.length (if (ag l p).kd=20 then _ else _)<=_;split
  case isTrue e=>
   have h1:=hx.num p hp e;have:=Lib.itoa_length_le (ag l p).n (by omega) h1.2;omega
  split
  ·have:∀b,(Lib.formatBool b).length<=5:=by intro b;cases b<;>decide
   have:=this ((ag l p).n==1);omega
  split
  ·omega
  split
  case isTrue e=>
   obtain⟨k,e1,hlt,_⟩:=hx.one p hp (Or.inl e);have:=ih k (by omega);rw[aR e1];rw[e1]at hr;simp only[List.map_cons,List.map_nil,List.sum_cons,List.sum_nil]at hr;simp only[List.length_append,List.length_cons,List.length_nil];omega
  split
  ·simp only[List.length_append,List.length_cons,List.length_nil];omega
  split
  ·simp only[List.length_append,List.length_cons,List.length_nil];omega
  split
  case isTrue e=>
   obtain⟨k,e1,hlt,_⟩:=hx.one p hp (Or.inr e);have:=ih k (by omega);have:=yn l (bE l f) k;rw[aR e1];rw[e1]at hr;simp only[List.map_cons,List.map_nil,List.sum_cons,List.sum_nil]at hr;simp only[List.length_append];omega
  split
  case isTrue e=>
   obtain⟨k,j,e1,hlt,hlt2,_⟩:=hx.two p hp e;have:=ih k (by omega);have:=ih j (by omega);have:=yn l (bE l f) k;have:=yn l (bE l f) j;rw[aR e1,dO e1];rw[e1]at hr;simp only[List.map_cons,List.map_nil,List.sum_cons,List.sum_nil]at hr;simp only[List.length_append,List.length_cons,List.length_nil];omega
  ·exact Nat.zero_le _
theorem rD {l:List Tr.Nd}{S:Int->Nat}(hS:Kv l S){p:Nat}(hp:p<l.length):1<=S p:=by have:=hS.eq p hp;omega
theorem zD {l:List Tr.Nd}{p k:Int}(h:(ag l p).ks[0]?=some k):∃ks,(ag l p).ks=k :: ks:=by
 rcases hks:(ag l p).ks with _ |⟨a,ks⟩
 ·rw[hks]at h;cases h
 ·rw[hks]at h;cases h;exact⟨ks,rfl⟩
theorem Kz {l:List Tr.Nd}{S:Int->Nat}(hs:iX l=true)(hx:FH l)(hS:Kv l S)(F p:Nat)(hp:p<l.length)(hL:Oa l l.length l.length p):(eF l F p).length<=100*S p:=by
 have ht:=og hs hp;have hr:=hS.eq p hp;have ih:=yu hs hx hS F;rcases hL with⟨hk,k,h0,h1,h2,h3⟩ |⟨hk,k,j,h0,⟨h1,h2,h3⟩,h4,h5,h6⟩ |⟨hk,k,h0,h1⟩ |⟨hk,k,j,h0,h1,h2,h3,h4⟩ |⟨hk,k,ks,h0,h1,h2,h3⟩ |⟨hk,h0,h1⟩ |hk
 ·obtain⟨ks,e1⟩:=zD h0;have h5:=ih k h2;have h6:S k<=_:=ym (S:=S) (ks:=(ag l p).ks) (k:=(k:Int)) (by rw[e1];exact List.mem_cons_self);have h7:=aR e1;unfold eF;rcases hk with hk |hk |hk |hk |hk<;>rw[hk,h7]<;>simp only[reduceIte,Int.reduceEq,List.length_append,List.length_cons,List.length_nil]<;>omega
 ·have h7:=ih k h2;have h8:=ih j h5;unfold eF;rw[hk,aR h0,dO h0];rw[h0]at hr;simp only[List.map_cons,List.map_nil,List.sum_cons,List.sum_nil]at hr;simp only[reduceIte,Int.reduceEq,List.length_append,List.length_cons,List.length_nil];omega
 ·obtain⟨ks,e1⟩:=zD h0;have h5:=og hs h1;unfold eF;rw[hk,aR e1];simp only[reduceIte,Int.reduceEq,List.length_append,List.length_cons,List.length_nil];omega
 ·have h8:=ih j h3;have h5:=og hs h1;unfold eF;rw[hk,aR h0,dO h0];rw[h0]at hr;simp only[List.map_cons,List.map_nil,List.sum_cons,List.sum_nil]at hr;simp only[reduceIte,Int.reduceEq,List.length_append,List.length_cons,List.length_nil];omega
 ·have h5:=og hs h2;have h6:(fD (ks.map (bE l F))).length<=66*(ks.map S).sum:=yh ks λx hx'=>by
   obtain⟨x2,rfl,_,hx2,_⟩:=h3 x hx';have:=ih x2 hx2;have:=rD hS hx2;omega
  unfold eF nP;rw[hk,aR h0,h0,List.tail_cons];rw[h0]at hr;simp only[List.map_cons,List.sum_cons]at hr;have h7:((if bu l p=[] then [] else bu l p++[32,61,32]):List UInt8).length<=23:=by
   split
   ·decide
   ·simp only[List.length_append,List.length_cons,List.length_nil];omega
  simp only[reduceIte,Int.reduceEq,List.length_append,List.length_cons,List.length_nil]at h7 |-;omega
 ·have h6:((ag l p).ks.map λk=>[32]++bE l F k).flatten.length<=66*((ag l p).ks.map S).sum:=oh _ λx hx'=>by
   obtain⟨x2,rfl,_,hx2,_⟩:=h1 x hx';have:=ih x2 hx2;have:=rD hS hx2;simp only[List.length_append,List.length_cons,List.length_nil];omega
  unfold eF;rw[hk];simp only[reduceIte,Int.reduceEq,List.length_append,List.length_cons,List.length_nil]at h6 |-;omega
 ·unfold eF;rw[hk];simp only[reduceIte,Int.reduceEq,List.length_cons,List.length_nil];omega
theorem zF {l:List Tr.Nd}{S:Int->Nat}(hS:Kv l S){st:Nat->Int->List UInt8}{d p:Nat}{m:Nat}(hp:p<l.length)(hd:d<=5000)(locals:List Int)(hm:(locals.map (jg l (d+1))).flatten.length<=m)(h:∀k ∈ (ag l p).ks,(st (d+1) k).length<=700000*S k):(fM l st d p locals).length<=m+10004+700000*(S p-1):=by
 have h1:=oh (ag l p).ks h;have hr:=hS.eq p hp;have h2:=uS d;unfold fM;simp only[List.length_append,List.length_cons,List.length_nil]at h1 h2 |-;rw[hr,Nat.add_sub_cancel_left];omega
theorem CS {l:List Tr.Nd}{S:Int->Nat}(hs:iX l=true)(hx:sM l)(hS:Kv l S)(F:Nat):∀(f d p:Nat),p<l.length->dS (ag l p).kd=true->d+p<=5000->(nL l F f d p).length<=700000*S p
 |0,_,_,_,_,_=>Nat.zero_le _
 |f+1,d,p,hp,hk,hd=>by
  have ht:=og hs hp;have hr:=hS.eq p hp;have h1:=Kz hs hx.ex hS F p hp (hx.ln p hp hk);have h2:=uS d;have htop:=hS.top p hp;have hblk:∀b:Nat,b<p->(ag l b).kd=6->(fM l (nL l F f) d b []).length<=10004+700000*(S b-1):=λb hb h6=>by
   have:=zF hS (st:=nL l F f) (d:=d) (p:=b) (m:=0) (by omega) (by omega) [] (Nat.le_refl _) λk hk'=>by
    obtain⟨k2,rfl,hlt,h7⟩:=hx.bl b (by omega) h6 k hk';exact CS hs hx hS F f (d+1) k2 (by omega) h7 (by omega)
   omega
  have hpos:∀b:Nat,b<p->1<=S b:=λb hb=>rD hS (by omega)
  show List.length (fK d++eF l F p++(if (ag l p).kd=11 then _ else _)++[10])<=_;split
  case isTrue e=>
   obtain⟨a,b,c,e1,hb,hc,h6,h7⟩:=hx.kif p hp e;rw[dO e1,yo e1];rw[e1]at hr;simp only[List.map_cons,List.map_nil,List.sum_cons,List.sum_nil]at hr;have h8:=hblk b hb h6;have h9:=hblk c hc h7;have h10:=hpos b hb;have h11:=hpos c hc;have h12:((if (ag l c).ks=[] then [] else [32,101,108,115,101]++fM l (nL l F f) d c []):List UInt8).length<=10009+700000*(S c-1):=by
    split
    ·exact Nat.zero_le _
    ·simp only[List.length_append,List.length_cons,List.length_nil];omega
   simp only[List.length_append,List.length_cons,List.length_nil]at h12 |-;omega
  split
  case isTrue e=>
   obtain⟨a,b,e1,hb,h6⟩:=hx.wh p hp e;rw[dO e1];rw[e1]at hr;simp only[List.map_cons,List.map_nil,List.sum_cons,List.sum_nil]at hr;have h8:=hblk b hb h6;have h10:=hpos b hb;simp only[List.length_append,List.length_cons,List.length_nil];omega
  split
  case isTrue e=>
   obtain⟨a,b,e1,ha,hb,h6,h7⟩:=hx.tr p hp e;rw[aR e1,dO e1];rw[e1]at hr;simp only[List.map_cons,List.map_nil,List.sum_cons,List.sum_nil]at hr;have h8:=hblk a ha h6;have h9:=hblk b hb h7;have h10:=hpos a ha;have h11:=hpos b hb;simp only[List.length_append,List.length_cons,List.length_nil];omega
  ·simp only[List.length_append,List.length_cons,List.length_nil];omega
theorem zG {l:List Tr.Nd}(hs:iX l=true){p:Nat}(hp:p<l.length):(lY l p).length<=25:=by
 have h1:=og hs hp;have h2:=CR (ag l p).n;unfold lY;simp only[List.length_append,List.length_cons,List.length_nil];omega
theorem zH {l:List Tr.Nd}(hs:iX l=true)(d:Nat){p:Nat}(hp:p<l.length):(jg l d p).length<=2*d+31:=by
 have h1:=zG hs hp;have h2:=uS d;unfold jg;simp only[List.length_append,List.length_cons,List.length_nil];omega
theorem Gq {l:List Tr.Nd}{S:Int->Nat}(hs:iX l=true)(hx:sM l)(hS:Kv l S)(hl:l.length<=4000)(F p:Nat)(hp:p<l.length)(hk:(ag l p).kd=3):(nQ l F p).length<=700000*S p:=by
 have ht:=og hs hp;have hr:=hS.eq p hp;have hfew:=hx.few p hp;obtain⟨ks,b,e1,hb,h6,h7⟩:=hx.pr p hp hk;have hall:∀k ∈ (ag l p).ks,∃k2:Nat,k=(k2:Int)/\k2<l.length:=λk hk'=>by
  rw[e1]at hk';rcases List.mem_append.1 hk' with h |h
  ·obtain⟨k2,e,h2,_⟩:=h7 k h;exact⟨k2,e,by omega⟩
  ·exact⟨b,List.mem_singleton.1 h,by omega⟩
 have hf:∀q:Int->Bool,((ag l p).ks.filter q).length<=4000:=λq=>Nat.le_trans (List.length_filter_le _ _) hfew
 have h8:(fD (((ag l p).ks.filter λk=>(ag l k).kd==4).map (lY l))).length<=27*4000:=by
  refine Nat.le_trans (yh (g:=λ_=>1) (C:=27) _ λk hk' =>?_) (Nat.mul_le_mul_left _ (yj _ _ (hf _)));obtain⟨k2,rfl,h2⟩:=hall k ((List.mem_filter.1 hk').1);have:=zG hs h2;omega
 have h9:((((ag l p).ks.filter λk=>(ag l k).kd==5)).map (jg l (0+1))).flatten.length<=33*4000:=by
  refine Nat.le_trans (oh (g:=λ_=>1) (C:=33) _ λk hk' =>?_) (Nat.mul_le_mul_left _ (yj _ _ (hf _)));obtain⟨k2,rfl,h2⟩:=hall k ((List.mem_filter.1 hk').1);have:=zH hs (0+1) h2;omega
 have h10:(ag l p).ks.getLastD 0=(b:Int):=by rw[e1];simp
 have h11:=zF hS (st:=nL l F F) (d:=0) (p:=b) (by omega) (by omega) _ h9 λk hk'=>by
  obtain⟨k2,rfl,hlt,h7⟩:=hx.bl b (by omega) h6 k hk';exact CS hs hx hS F F (0+1) k2 (by omega) h7 (by omega)
 have h12:=ym (S:=S) (ks:=(ag l p).ks) (k:=(b:Int)) (by rw[e1];simp);have h13:((if (ag l p).n=0 then [] else [32]++qX (ag l p).n):List UInt8).length<=5:=by
  have:=CR (ag l p).n;split
  ·exact Nat.zero_le _
  ·simp only[List.length_append,List.length_cons,List.length_nil];omega
 have h14:1<=S b:=rD hS (by omega);unfold nQ nP;rw[h10];simp only[List.length_append,List.length_cons,List.length_nil]at h11 h13 |-;omega
theorem Gr {l:List Tr.Nd}{S:Int->Nat}(hs:iX l=true)(hx:sM l)(hS:Kv l S)(hl:l.length<=4000)(F p:Nat)(hp:p<l.length)(hk:(ag l p).kd=1):(lG l F p).length<=2800000000:=by
 have hr:=hS.eq p hp;have htop:=hS.top p hp;have h1:(lG l F p).length<=700000*((ag l p).ks.map S).sum:=oh _ λk hk'=>by
  obtain⟨k2,rfl,hlt,h2⟩:=hx.pg p hp hk k hk';have h3:1<=S k2:=rD hS (by omega);split
  ·have:=zH hs 0 (p:=k2) (by omega);omega
  ·rename_i hn;rcases h2 with h2 |h2
   ·exact absurd h2 hn
   ·exact Gq hs hx hS hl F k2 (by omega) h2
 omega
open Tr (kr gW aJ) in
theorem CU {b:Nat->Nat}:∀(ks:List Int) (s e:Nat),(∀q,q<s->b q<=q)->gW b ks s=some e->(ks.map λk:Int=>k.toNat+1-b k.toNat).sum=s-e
 | [],s,e,_,h=>by unfold gW at h;cases h;simp
 |k :: ks,s,e,hb,h=>by
  unfold gW at h;split at h
  ·cases h
  split at h
  case isFalse=>cases h
  case isTrue h0 h1=>
   have h2:=hb (s-1) (by omega);have hb':∀q,q<b (s-1)->b q<=q:=λq hq=>hb q (by omega)
   have h3:=CU ks _ e hb' h;have h4:=Tr.uB ks _ e hb' h;have h5:k.toNat=s-1:=by omega
   simp only[List.map_cons,List.sum_cons];rw[h3,h5];omega
open Tr (kr gW aJ) in
theorem oZ {l:List Tr.Nd}{p:Nat}(hp:p<l.length):aJ l p=(ag l p).ks:=by
 unfold aJ;rw[aS hp];simp[List.getD,hp]
open Tr (kr gW aJ) in
theorem Oe {l:List Tr.Nd}{b:Nat->Nat}(hS:kr l b l.length)(hb:∀q,q<l.length->b q<=q)(hl:l.length<=4000):Kv l (λk=>k.toNat+1-b k.toNat) where
 eq p hp:=by
  have h1:=hS p hp;have h2:=CU _ p (b p) (λq hq=>hb q (by omega)) h1;have h3:=hb p hp;rw[oZ hp,List.map_reverse,List.sum_reverse]at h2;rw[h2,Int.toNat_natCast];omega
 top p hp:=by rw[Int.toNat_natCast];omega
open Tr (kr gW aJ) in
theorem zI {l:List Tr.Nd}{b:Nat->Nat}(hS:kr l b l.length)(hb:∀q,q<l.length->b q<=q):Ahead l:=λi hi k hk=>by
 have h1:=hS i hi;rw[oZ hi,aS hi]at h1;obtain⟨m,e,h2,_⟩:=Tr.qR _ i (b i) (λq hq=>hb q (by omega)) h1 k (List.mem_reverse.2 hk);omega
end
section
open Go
open Tr (nth dS aI fu bB kY iX)
theorem mF (l:List Tr.Nd)(f:Nat)(p:Int):bE l (f+1) p=(if (ag l p).kd=20 then Lib.itoa (ag l p).n
  else if (ag l p).kd=21 then Lib.formatBool ((ag l p).n==1)
  else if (ag l p).kd=22 then bu l p
  else if (ag l p).kd=23 then bu l p++[91]++bE l f (aL l p 0)++[93]
  else if (ag l p).kd=24 then [108,101,110,32]++bu l p
  else if (ag l p).kd=25 then [38]++bu l p
  else if (ag l p).kd=26 then bu l p++qW l (bE l f) (aL l p 0)
  else if (ag l p).kd=27 then qW l (bE l f) (aL l p 0)++[32]++bu l p++[32]++qW l (bE l f) (aL l p 1)
  else []):=rfl
structure Tu (la l':List Tr.Nd) (off:Nat):Prop where
 kd:∀i:Nat,i<la.length->(ag l' ((i+off:Nat):Int)).kd=(ag la i).kd
 n:∀i:Nat,i<la.length->(ag l' ((i+off:Nat):Int)).n=(ag la i).n
 tx:∀i:Nat,i<la.length->(ag l' ((i+off:Nat):Int)).tx=(ag la i).tx
 ks:∀i:Nat,i<la.length->(ag l' ((i+off:Nat):Int)).ks=(ag la i).ks.map λk=>k+(off:Int)
end
end Go.Proofs.YteecfjhjllajlaaGreatDoor
