/- PROVED here: parts Ya of the claim. No condition but those in each theorem's own head. -/
import Derived.Test.YteecfjhjllajlaaGreatDoorM17
import Derived.Lib.ItoaLen
namespace Go.Proofs.YteecfjhjllajlaaGreatDoor
section
section
open Go
open Tr (nth stmB expB allB kidB ndB shB risB run1 ri1 ri2 numB txB idB sgB)
theorem shB_at {l:List Tr.Nd}(h:shB l=true){p:Nat}(hp:p<l.length):ndB l (ndA l p)=true:=by
 rw[ndA_eq hp];exact List.all_eq_true.1 h _ (List.getElem_mem hp)
def kdsA (l:List Tr.Nd)(p:Int):List Int:=(ndA l p).ks.map fun k=>(ndA l k).kd
structure NdOk (l:List Tr.Nd) (p:Nat):Prop where
 lo:1≤(ndA l p).kd
 hi:(ndA l p).kd≤27
 tx:txB (ndA l p).kd (txA l p)=true
 num:numB (ndA l p).kd (ndA l p).n=true
 kid:kidB (ndA l p).kd (kdsA l p)=true
theorem nd_ok {l:List Tr.Nd}(h:shB l=true){p:Nat}(hp:p<l.length):NdOk l p:=by
 have h1:=shB_at h hp
 unfold ndB at h1
 simp only[Bool.and_eq_true,decide_eq_true_eq]at h1
 obtain⟨a,b,c,d,e⟩:=h1
 exact⟨a,b,c,d,e⟩
theorem kids_nat {l:List Tr.Nd}(hA:Ahead l){p:Nat}(hp:p<l.length):∀k ∈ (ndA l p).ks,∃k2:Nat,k=(k2:Int)∧k2<p:=fun k hk=>by
 rw[ndA_eq hp]at hk
 obtain⟨h1,h2⟩:=hA p hp k hk
 exact⟨k.toNat,by omega,by omega⟩
theorem len_one {α:Type}{ks:List α}(h:ks.length=1):∃a,ks=[a]:=by
 rcases ks with _ |⟨a,_ |⟨b,r⟩⟩
 ·cases h
 ·exact⟨a,rfl⟩
 ·simp at h
theorem len_two {α:Type}{ks:List α}(h:ks.length=2):∃a b,ks=[a,b]:=by
 rcases ks with _ |⟨a,_ |⟨b,_ |⟨c,r⟩⟩⟩
 ·cases h
 ·simp at h
 ·exact⟨a,b,rfl⟩
 ·simp at h
theorem len_three {α:Type}{ks:List α}(h:ks.length=3):∃a b c,ks=[a,b,c]:=by
 rcases ks with _ |⟨a,_ |⟨b,_ |⟨c,_ |⟨d,r⟩⟩⟩⟩
 ·cases h
 ·simp at h
 ·simp at h
 ·exact⟨a,b,c,rfl⟩
 ·simp at h
theorem kdsA_len (l:List Tr.Nd)(p:Int):(kdsA l p).length=(ndA l p).ks.length:=List.length_map ..
theorem one_kid {l:List Tr.Nd}(hA:Ahead l){p:Nat}(hp:p<l.length)(h:(kdsA l p).length=1):∃k:Nat,(ndA l p).ks=[(k:Int)]∧k<p∧kdsA l p=[(ndA l k).kd]:=by
 rw[kdsA_len]at h
 obtain⟨a,e⟩:=len_one h
 obtain⟨k,rfl,hk⟩:=kids_nat hA hp a (by rw[e];simp)
 exact⟨k,e,hk,by unfold kdsA;rw[e];rfl⟩
theorem two_kids {l:List Tr.Nd}(hA:Ahead l){p:Nat}(hp:p<l.length)(h:(kdsA l p).length=2):∃k j:Nat,(ndA l p).ks=[(k:Int),(j:Int)]∧k<p∧j<p∧kdsA l p=[(ndA l k).kd,(ndA l j).kd]:=by
 rw[kdsA_len]at h
 obtain⟨a,b,e⟩:=len_two h
 obtain⟨k,rfl,hk⟩:=kids_nat hA hp a (by rw[e];simp)
 obtain⟨j,rfl,hj⟩:=kids_nat hA hp b (by rw[e];simp)
 exact⟨k,j,e,hk,hj,by unfold kdsA;rw[e];rfl⟩
theorem three_kids {l:List Tr.Nd}(hA:Ahead l){p:Nat}(hp:p<l.length)(h:(kdsA l p).length=3):∃k j i:Nat,(ndA l p).ks=[(k:Int),(j:Int),(i:Int)]∧k<p∧j<p∧i<p∧kdsA l p=[(ndA l k).kd,(ndA l j).kd,(ndA l i).kd]:=by
 rw[kdsA_len]at h
 obtain⟨a,b,c,e⟩:=len_three h
 obtain⟨k,rfl,hk⟩:=kids_nat hA hp a (by rw[e];simp)
 obtain⟨j,rfl,hj⟩:=kids_nat hA hp b (by rw[e];simp)
 obtain⟨i,rfl,hi⟩:=kids_nat hA hp c (by rw[e];simp)
 exact⟨k,j,i,e,hk,hj,hi,by unfold kdsA;rw[e];rfl⟩
theorem kds_mem {l:List Tr.Nd}{p k:Int}(hk:k ∈ (ndA l p).ks):(ndA l k).kd ∈ kdsA l p:=List.mem_map.2 ⟨k,hk,rfl⟩
theorem run1_take (a:Int):∀(l:List Int),∀x ∈ l.take (run1 a l),x=a
 | [],x,h=>by cases h
 |y :: l,x,h=>by
  unfold run1 at h
  split at h
  case isTrue e=>
   rw[List.take_succ_cons]at h
   rcases List.mem_cons.1 h with rfl |h
   ·exact e
   ·exact run1_take a l x h
  case isFalse=>rw[List.take_zero]at h;cases h
theorem ri2_take (l:List Int)(a b:Int):∀x ∈ l.take (ri2 l a b),x=a∨x=b:=fun x h=>by
 unfold ri2 at h
 rw[List.take_add]at h
 rcases List.mem_append.1 h with h |h
 ·exact Or.inl (run1_take a l x h)
 ·exact Or.inr (run1_take b _ x h)
theorem ris_all {l:List Int}{a b:Int}(h:risB l a b 0=true):∀x ∈ l,x=a∨x=b:=fun x hx=>by
 unfold risB at h
 rw[if_pos rfl,decide_eq_true_eq]at h
 have:=ri2_take l a b x
 rw[h,List.take_length]at this
 exact this hx
theorem ris_last {l:List Int}{a b c:Int}(hc:c≠0)(h:risB l a b c=true):∃l',l=l'++[c]∧∀x ∈ l',x=a∨x=b:=by
 unfold risB at h
 rw[if_neg hc]at h
 simp only[Bool.and_eq_true,decide_eq_true_eq]at h
 obtain⟨h1,h2⟩:=h
 refine⟨l.take (ri2 l a b),?_,ri2_take l a b⟩
 have hi:ri2 l a b<l.length:=by omega
 have e:l.take (ri2 l a b+1)=l.take (ri2 l a b)++[l[ri2 l a b]]:=List.take_succ_eq_append_getElem hi
 rw[List.getD_eq_getElem?_getD,List.getElem?_eq_getElem hi]at h2
 rw[h1,List.take_length]at e
 rw[show l[ri2 l a b]=c from h2]at e
 exact e
theorem all_exp {l:List Int}(h:allB l=true):∀x ∈ l,expB x=true:=List.all_eq_true.1 h
structure ShOk (l:List Tr.Nd):Prop where
 ex:ExN l
 few:∀p:Nat,p<l.length→(ndA l p).ks.length≤4000
 ln:∀p:Nat,p<l.length→stmB (ndA l p).kd=true→LnOk l l.length l.length p
 kif:∀p:Nat,p<l.length→(ndA l p).kd=11→∃a b c:Nat,(ndA l p).ks=[(a:Int),(b:Int),(c:Int)]∧b<p∧c<p∧(ndA l b).kd=6∧(ndA l c).kd=6
 wh:∀p:Nat,p<l.length→(ndA l p).kd=12→∃a b:Nat,(ndA l p).ks=[(a:Int),(b:Int)]∧b<p∧(ndA l b).kd=6
 tr:∀p:Nat,p<l.length→(ndA l p).kd=16→∃a b:Nat,(ndA l p).ks=[(a:Int),(b:Int)]∧a<p∧b<p∧(ndA l a).kd=6∧(ndA l b).kd=6
 bl:∀p:Nat,p<l.length→(ndA l p).kd=6→∀k ∈ (ndA l p).ks,∃k2:Nat,k=(k2:Int)∧k2<p∧stmB (ndA l k2).kd=true
 pr:∀p:Nat,p<l.length→(ndA l p).kd=3→∃(ks:List Int) (b:Nat),(ndA l p).ks=ks++[(b:Int)]∧b<p∧(ndA l b).kd=6∧∀k ∈ ks,∃k2:Nat,k=(k2:Int)∧k2<p∧((ndA l k2).kd=4∨(ndA l k2).kd=5)
 pg:∀p:Nat,p<l.length→(ndA l p).kd=1→∀k ∈ (ndA l p).ks,∃k2:Nat,k=(k2:Int)∧k2<p∧((ndA l k2).kd=2∨(ndA l k2).kd=3)
theorem stm_kinds {k:Int}(h:stmB k=true):k=7∨k=8∨k=9∨k=10∨k=11∨k=12∨k=13∨k=14∨k=15∨k=16∨k=17:=by
 unfold stmB at h
 simp only[Bool.and_eq_true,decide_eq_true_eq]at h
 omega
theorem exn_of {l:List Tr.Nd}(hA:Ahead l)(h:shB l=true)(hm:∀x ∈ l,x.n≤9223372036854775807):ExN l where
 one p hp hk:=by
  have h1:=(nd_ok h hp).kid
  have h2:(kdsA l p).length=1∧allB (kdsA l p)=true:=by
   rcases hk with hk |hk<;>· rw[hk]at h1;simpa [kidB]using h1
  obtain⟨k,e,hlt,e2⟩:=one_kid hA hp h2.1
  exact⟨k,e,hlt,all_exp h2.2 _ (by rw[e2];simp)⟩
 two p hp hk:=by
  have h1:=(nd_ok h hp).kid
  rw[hk]at h1
  have h2:(kdsA l p).length=2∧allB (kdsA l p)=true:=by simpa [kidB]using h1
  obtain⟨k,j,e,hlt,hlt2,e2⟩:=two_kids hA hp h2.1
  exact⟨k,j,e,hlt,hlt2,all_exp h2.2 _ (by rw[e2];simp),all_exp h2.2 _ (by rw[e2];simp)⟩
 num p hp hk:=by
  have h1:=(nd_ok h hp).num
  rw[hk]at h1
  refine⟨by simpa [numB]using h1,?_⟩
  rw[ndA_eq hp]
  exact hm _ (List.getElem_mem hp)
theorem sh_ok {l:List Tr.Nd}(hA:Ahead l)(h:shB l=true)(hm:∀x ∈ l,x.n≤9223372036854775807)(hf:∀x ∈ l,x.ks.length≤4000):ShOk l where
 ex:=exn_of hA h hm
 few p hp:=by rw[ndA_eq hp];exact hf _ (List.getElem_mem hp)
 ln p hp hk:=by
  have h1:=(nd_ok h hp).kid
  have hfew:(ndA l p).ks.length≤4000:=by rw[ndA_eq hp];exact hf _ (List.getElem_mem hp)
  rcases stm_kinds hk with e |e |e |e |e |e |e |e |e |e |e<;>rw[e]at h1<;>simp[kidB]at h1
  ·obtain⟨k,e1,hlt,e2⟩:=one_kid hA hp h1.1
   exact Or.inl ⟨Or.inl e,k,by rw[e1];rfl,by omega,by omega,all_exp h1.2 _ (by rw[e2];simp)⟩
  ·obtain⟨k,j,e1,hlt,hlt2,e2⟩:=two_kids hA hp h1.1
   exact Or.inr (Or.inl ⟨e,k,j,e1,⟨by omega,by omega,all_exp h1.2 _ (by rw[e2];simp)⟩,by omega,by omega,all_exp h1.2 _ (by rw[e2];simp)⟩)
  ·obtain⟨k,e1,hlt,e2⟩:=one_kid hA hp h1.1
   exact Or.inr (Or.inr (Or.inl ⟨e,k,by rw[e1];rfl,by omega⟩))
  ·obtain⟨k,j,e1,hlt,hlt2,e2⟩:=two_kids hA hp h1.1.1
   rw[e2]at h1
   exact Or.inr (Or.inr (Or.inr (Or.inl ⟨e,k,j,e1,by omega,by omega,by omega,h1.2⟩)))
  ·obtain⟨k,j,i,e1,hlt,hlt2,hlt3,e2⟩:=three_kids hA hp h1.1.1.1
   rw[e2]at h1
   exact Or.inl ⟨Or.inr (Or.inl e),k,by rw[e1];rfl,by omega,by omega,h1.1.1.2⟩
  ·obtain⟨k,j,e1,hlt,hlt2,e2⟩:=two_kids hA hp h1.1.1
   rw[e2]at h1
   exact Or.inl ⟨Or.inr (Or.inr (Or.inl e)),k,by rw[e1];rfl,by omega,by omega,h1.1.2⟩
  ·have e3:=kdsA_len l p
   rcases hks:(ndA l p).ks with _ |⟨a,ks⟩
   ·rw[hks]at e3;have h2:=h1.1.1;rw[e3]at h2;simp at h2
   ·obtain⟨k,rfl,hlt⟩:=kids_nat hA hp a (by rw[hks];simp)
    refine Or.inr (Or.inr (Or.inr (Or.inr (Or.inl ⟨e,k,ks,hks,?_,by omega,fun x hx =>?_⟩))))
    ·rw[hks]at hfew;simp only[List.length_cons]at hfew;omega
    ·obtain⟨x2,rfl,hx2⟩:=kids_nat hA hp x (by rw[hks];exact List.mem_cons_of_mem _ hx)
     refine⟨x2,rfl,by omega,by omega,all_exp h1.2 _ ?_⟩
     unfold kdsA
     rw[hks,List.map_cons]
     exact List.mem_map.2 ⟨_,hx,rfl⟩
  ·refine Or.inr (Or.inr (Or.inr (Or.inr (Or.inr (Or.inl ⟨e,by omega,fun x hx =>?_⟩)))))
   obtain⟨x2,rfl,hx2⟩:=kids_nat hA hp x hx
   exact⟨x2,rfl,by omega,by omega,all_exp h1.2 _ (kds_mem hx)⟩
  ·obtain⟨k,e1,hlt,e2⟩:=one_kid hA hp h1.1
   exact Or.inl ⟨Or.inr (Or.inr (Or.inr (Or.inl e))),k,by rw[e1];rfl,by omega,by omega,all_exp h1.2 _ (by rw[e2];simp)⟩
  ·exact Or.inr (Or.inr (Or.inr (Or.inr (Or.inr (Or.inr e)))))
  ·obtain⟨k,e1,hlt,e2⟩:=one_kid hA hp h1.1
   exact Or.inl ⟨Or.inr (Or.inr (Or.inr (Or.inr e))),k,by rw[e1];rfl,by omega,by omega,all_exp h1.2 _ (by rw[e2];simp)⟩
 kif p hp e:=by
  have h1:=(nd_ok h hp).kid
  rw[e]at h1
  simp[kidB]at h1
  obtain⟨k,j,i,e1,hlt,hlt2,hlt3,e2⟩:=three_kids hA hp h1.1.1.1
  rw[e2]at h1
  exact⟨k,j,i,e1,hlt2,hlt3,h1.1.2,h1.2⟩
 wh p hp e:=by
  have h1:=(nd_ok h hp).kid
  rw[e]at h1
  simp[kidB]at h1
  obtain⟨k,j,e1,hlt,hlt2,e2⟩:=two_kids hA hp h1.1.1
  rw[e2]at h1
  exact⟨k,j,e1,hlt2,h1.2⟩
 tr p hp e:=by
  have h1:=(nd_ok h hp).kid
  rw[e]at h1
  simp[kidB]at h1
  obtain⟨k,j,e1,hlt,hlt2,e2⟩:=two_kids hA hp h1.1.1
  rw[e2]at h1
  exact⟨k,j,e1,hlt,hlt2,h1.1.2,h1.2⟩
 bl p hp e:=fun k hk=>by
  have h1:=(nd_ok h hp).kid
  rw[e]at h1
  simp only[kidB]at h1
  obtain⟨k2,rfl,hlt⟩:=kids_nat hA hp k hk
  exact⟨k2,rfl,hlt,List.all_eq_true.1 (show(kdsA l p).all stmB=true by simpa using h1) _ (kds_mem hk)⟩
 pr p hp e:=by
  have h1:=(nd_ok h hp).kid
  rw[e]at h1
  have h2:risB (kdsA l p) 4 5 6=true:=by simpa [kidB]using h1
  obtain⟨l',e1,e2⟩:=ris_last (by decide) h2
  have e3:(ndA l p).ks≠[]:=fun h0=>by unfold kdsA at e1;rw[h0]at e1;simp at e1
  obtain⟨ks,b,hks⟩:∃ks b,(ndA l p).ks=ks++[b]:=⟨_,_,(List.dropLast_concat_getLast e3).symm⟩
  have e4:kdsA l p=(ks.map fun k=>(ndA l k).kd)++[(ndA l b).kd]:=by unfold kdsA;rw[hks,List.map_append];rfl
  rw[e4]at e1
  obtain⟨e5,e6⟩:=List.append_inj' e1 rfl
  obtain⟨b2,rfl,hb⟩:=kids_nat hA hp b (by rw[hks];simp)
  refine⟨ks,b2,hks,hb,by simpa using e6,fun k hk =>?_⟩
  obtain⟨k2,rfl,hlt⟩:=kids_nat hA hp k (by rw[hks];exact List.mem_append_left _ hk)
  exact⟨k2,rfl,hlt,e2 _ (by rw[← e5];exact List.mem_map.2 ⟨_,hk,rfl⟩)⟩
 pg p hp e:=fun k hk=>by
  have h1:=(nd_ok h hp).kid
  rw[e]at h1
  have h2:risB (kdsA l p) 2 3 0=true:=by simpa [kidB]using h1
  obtain⟨k2,rfl,hlt⟩:=kids_nat hA hp k hk
  exact⟨k2,rfl,hlt,ris_all h2 _ (kds_mem hk)⟩
end
section
open Go
open Tr (nth stmB expB allB kidB ndB shB risB numB txB idB sgB)
structure Szd (l:List Tr.Nd) (S:Int→Nat):Prop where
 eq:∀p:Nat,p<l.length→S p=1+((ndA l p).ks.map S).sum
 top:∀p:Nat,p<l.length→S p≤4000
theorem idB_len {t:List UInt8}(h:idB t=true):t.length≤20:=by
 unfold idB at h
 simp only[Bool.and_eq_true,decide_eq_true_eq]at h
 exact h.1.1.1.2
theorem sgB_len {t:List UInt8}(h:sgB t=true):t.length≤20:=by
 unfold sgB at h
 simp only[Bool.or_eq_true,beq_iff_eq]at h
 rcases h with(((((((((((h |h) |h) |h) |h) |h) |h) |h) |h) |h) |h) |h) |h<;>rw[h]<;>decide
theorem txB_len {k:Int}{t:List UInt8}(h:txB k t=true):t.length≤20:=by
 unfold txB at h
 split at h
 ·exact idB_len h
 split at h
 ·simp only[Bool.or_eq_true,beq_iff_eq]at h
  rcases h with h |h
  ·exact idB_len h
  ·rw[h];decide
 split at h
 ·simp only[Bool.or_eq_true,beq_iff_eq]at h
  rcases h with h |h<;>rw[h]<;>decide
 split at h
 ·exact sgB_len h
 ·rw[beq_iff_eq]at h;rw[h];decide
theorem tx_len {l:List Tr.Nd}(h:shB l=true){p:Nat}(hp:p<l.length):(txA l p).length≤20:=txB_len (nd_ok h hp).tx
theorem sum_flat {α:Type}{f:α→List UInt8}{g:α→Nat}{C:Nat}:∀(ks:List α),(∀k ∈ ks,(f k).length≤C*g k)→(ks.map f).flatten.length≤C*(ks.map g).sum
 | [],_=>Nat.zero_le _
 |k :: ks,h=>by
  have h1:=h k List.mem_cons_self
  have h2:=sum_flat ks fun x hx=>h x (List.mem_cons_of_mem _ hx)
  simp only[List.map_cons,List.flatten_cons,List.length_append,List.sum_cons,Nat.mul_add]
  omega
theorem sum_com {α:Type}{f:α→List UInt8}{g:α→Nat}{C:Nat}:∀(ks:List α),(∀k ∈ ks,(f k).length+2≤C*g k)→(comT (ks.map f)).length≤C*(ks.map g).sum
 | [],_=>Nat.zero_le _
 | [k],h=>by
  have h1:=h k List.mem_cons_self
  show(f k).length≤_
  simp only[List.map_cons,List.map_nil,List.sum_cons,List.sum_nil,Nat.mul_add]
  omega
 |k :: j :: ks,h=>by
  have h1:=h k List.mem_cons_self
  have h2:=sum_com (j :: ks) fun x hx=>h x (List.mem_cons_of_mem _ hx)
  show(f k++[44,32]++comT ((j :: ks).map f)).length≤_
  rw[List.map_cons (l:=j :: ks),List.sum_cons,Nat.mul_add]
  simp only[List.length_append,List.length_cons,List.length_nil]
  omega
theorem sum_one (n:Nat):∀ks:List Int,ks.length≤n→(ks.map fun _=>1).sum≤n
 | [],_=>Nat.zero_le _
 |k :: ks,h=>by
  obtain⟨m,rfl⟩:∃m,n=m+1:=⟨n-1,by simp only[List.length_cons]at h;omega⟩
  have:=sum_one m ks (by simpa using h)
  simp only[List.map_cons,List.sum_cons]
  omega
theorem mem_sum {S:Int→Nat}{k:Int}:∀ {ks:List Int},k ∈ ks→S k≤(ks.map S).sum
 | [],h=>by cases h
 |x :: ks,h=>by
  simp only[List.map_cons,List.sum_cons]
  rcases List.mem_cons.1 h with rfl |h
  ·omega
  ·have:=mem_sum (S:=S) h;omega
theorem tyT_len (n:Int):(tyT n).length≤4:=by
 unfold tyT
 split
 ·decide
 split
 ·decide
 split<;>decide
theorem indT_len (d:Nat):(indT d).length=2*d:=by
 unfold indT
 rw[List.length_flatten,List.map_replicate,List.sum_replicate_nat]
 simp only[List.length_cons,List.length_nil]
 omega
theorem opT_len (l:List Tr.Nd)(ex:Int→List UInt8)(k:Int):(opT l ex k).length≤2+(ex k).length:=by
 unfold opT;split
 ·simp only[List.length_append,List.length_cons,List.length_nil];omega
 ·omega
theorem kidA_0 {l:List Tr.Nd}{p a:Int}{ks:List Int}(h:(ndA l p).ks=a :: ks):kidA l p 0=a:=by unfold kidA;rw[h];rfl
theorem kidA_1 {l:List Tr.Nd}{p a b:Int}{ks:List Int}(h:(ndA l p).ks=a :: b :: ks):kidA l p 1=b:=by unfold kidA;rw[h];rfl
theorem kidA_2 {l:List Tr.Nd}{p a b c:Int}{ks:List Int}(h:(ndA l p).ks=a :: b :: c :: ks):kidA l p 2=c:=by unfold kidA;rw[h];rfl
theorem exT_len {l:List Tr.Nd}{S:Int→Nat}(hs:shB l=true)(hx:ExN l)(hS:Szd l S):∀(f p:Nat),p<l.length→(exT l f p).length≤64*S p
 |0,p,_=>Nat.zero_le _
 |f+1,p,hp=>by
  have ht:=tx_len hs hp
  have hr:=hS.eq p hp
  have ih:=exT_len hs hx hS f
  show List.length (if (ndA l p).kd=20 then _ else _)≤_
  split
  case isTrue e=>
   have h1:=hx.num p hp e
   have:=Lib.itoa_length_le (ndA l p).n (by omega) h1.2
   omega
  split
  ·have:∀b,(Lib.formatBool b).length≤5:=by intro b;cases b<;>decide
   have:=this ((ndA l p).n==1)
   omega
  split
  ·omega
  split
  case isTrue e=>
   obtain⟨k,e1,hlt,_⟩:=hx.one p hp (Or.inl e)
   have:=ih k (by omega)
   rw[kidA_0 e1]
   rw[e1]at hr
   simp only[List.map_cons,List.map_nil,List.sum_cons,List.sum_nil]at hr
   simp only[List.length_append,List.length_cons,List.length_nil]
   omega
  split
  ·simp only[List.length_append,List.length_cons,List.length_nil];omega
  split
  ·simp only[List.length_append,List.length_cons,List.length_nil];omega
  split
  case isTrue e=>
   obtain⟨k,e1,hlt,_⟩:=hx.one p hp (Or.inr e)
   have:=ih k (by omega)
   have:=opT_len l (exT l f) k
   rw[kidA_0 e1]
   rw[e1]at hr
   simp only[List.map_cons,List.map_nil,List.sum_cons,List.sum_nil]at hr
   simp only[List.length_append]
   omega
  split
  case isTrue e=>
   obtain⟨k,j,e1,hlt,hlt2,_⟩:=hx.two p hp e
   have:=ih k (by omega)
   have:=ih j (by omega)
   have:=opT_len l (exT l f) k
   have:=opT_len l (exT l f) j
   rw[kidA_0 e1,kidA_1 e1]
   rw[e1]at hr
   simp only[List.map_cons,List.map_nil,List.sum_cons,List.sum_nil]at hr
   simp only[List.length_append,List.length_cons,List.length_nil]
   omega
  ·exact Nat.zero_le _
theorem szd_pos {l:List Tr.Nd}{S:Int→Nat}(hS:Szd l S){p:Nat}(hp:p<l.length):1≤S p:=by have:=hS.eq p hp;omega
theorem kid0_mem {l:List Tr.Nd}{p k:Int}(h:(ndA l p).ks[0]?=some k):∃ks,(ndA l p).ks=k :: ks:=by
 rcases hks:(ndA l p).ks with _ |⟨a,ks⟩
 ·rw[hks]at h;cases h
 ·rw[hks]at h;cases h;exact⟨ks,rfl⟩
theorem lnT_len {l:List Tr.Nd}{S:Int→Nat}(hs:shB l=true)(hx:ExN l)(hS:Szd l S)(F p:Nat)(hp:p<l.length)(hL:LnOk l l.length l.length p):(lnT l F p).length≤100*S p:=by
 have ht:=tx_len hs hp
 have hr:=hS.eq p hp
 have ih:=exT_len hs hx hS F
 rcases hL with⟨hk,k,h0,h1,h2,h3⟩ |⟨hk,k,j,h0,⟨h1,h2,h3⟩,h4,h5,h6⟩ |⟨hk,k,h0,h1⟩ |⟨hk,k,j,h0,h1,h2,h3,h4⟩ |⟨hk,k,ks,h0,h1,h2,h3⟩ |⟨hk,h0,h1⟩ |hk
 ·obtain⟨ks,e1⟩:=kid0_mem h0
  have h5:=ih k h2
  have h6:S k≤_:=mem_sum (S:=S) (ks:=(ndA l p).ks) (k:=(k:Int)) (by rw[e1];exact List.mem_cons_self)
  have h7:=kidA_0 e1
  unfold lnT
  rcases hk with hk |hk |hk |hk |hk<;>rw[hk,h7]<;>simp only[reduceIte,Int.reduceEq,List.length_append,List.length_cons,List.length_nil]<;>omega
 ·have h7:=ih k h2
  have h8:=ih j h5
  unfold lnT
  rw[hk,kidA_0 h0,kidA_1 h0]
  rw[h0]at hr
  simp only[List.map_cons,List.map_nil,List.sum_cons,List.sum_nil]at hr
  simp only[reduceIte,Int.reduceEq,List.length_append,List.length_cons,List.length_nil]
  omega
 ·obtain⟨ks,e1⟩:=kid0_mem h0
  have h5:=tx_len hs h1
  unfold lnT
  rw[hk,kidA_0 e1]
  simp only[reduceIte,Int.reduceEq,List.length_append,List.length_cons,List.length_nil]
  omega
 ·have h8:=ih j h3
  have h5:=tx_len hs h1
  unfold lnT
  rw[hk,kidA_0 h0,kidA_1 h0]
  rw[h0]at hr
  simp only[List.map_cons,List.map_nil,List.sum_cons,List.sum_nil]at hr
  simp only[reduceIte,Int.reduceEq,List.length_append,List.length_cons,List.length_nil]
  omega
 ·have h5:=tx_len hs h2
  have h6:(comT (ks.map (exT l F))).length≤66*(ks.map S).sum:=sum_com ks fun x hx'=>by
   obtain⟨x2,rfl,_,hx2,_⟩:=h3 x hx'
   have:=ih x2 hx2
   have:=szd_pos hS hx2
   omega
  unfold lnT lisT
  rw[hk,kidA_0 h0,h0,List.tail_cons]
  rw[h0]at hr
  simp only[List.map_cons,List.sum_cons]at hr
  have h7:((if txA l p=[] then [] else txA l p++[32,61,32]):List UInt8).length≤23:=by
   split
   ·decide
   ·simp only[List.length_append,List.length_cons,List.length_nil];omega
  simp only[reduceIte,Int.reduceEq,List.length_append,List.length_cons,List.length_nil]at h7 ⊢
  omega
 ·have h6:((ndA l p).ks.map fun k=>[32]++exT l F k).flatten.length≤66*((ndA l p).ks.map S).sum:=sum_flat _ fun x hx'=>by
   obtain⟨x2,rfl,_,hx2,_⟩:=h1 x hx'
   have:=ih x2 hx2
   have:=szd_pos hS hx2
   simp only[List.length_append,List.length_cons,List.length_nil]
   omega
  unfold lnT
  rw[hk]
  simp only[reduceIte,Int.reduceEq,List.length_append,List.length_cons,List.length_nil]at h6 ⊢
  omega
 ·unfold lnT
  rw[hk]
  simp only[reduceIte,Int.reduceEq,List.length_cons,List.length_nil]
  omega
theorem blkT_len {l:List Tr.Nd}{S:Int→Nat}(hS:Szd l S){st:Nat→Int→List UInt8}{d p:Nat}{m:Nat}(hp:p<l.length)(hd:d≤5000)(locals:List Int)(hm:(locals.map (varT l (d+1))).flatten.length≤m)(h:∀k ∈ (ndA l p).ks,(st (d+1) k).length≤700000*S k):(blkT l st d p locals).length≤m+10004+700000*(S p-1):=by
 have h1:=sum_flat (ndA l p).ks h
 have hr:=hS.eq p hp
 have h2:=indT_len d
 unfold blkT
 simp only[List.length_append,List.length_cons,List.length_nil]at h1 h2 ⊢
 rw[hr,Nat.add_sub_cancel_left]
 omega
theorem stT_len {l:List Tr.Nd}{S:Int→Nat}(hs:shB l=true)(hx:ShOk l)(hS:Szd l S)(F:Nat):∀(f d p:Nat),p<l.length→stmB (ndA l p).kd=true→d+p≤5000→(stT l F f d p).length≤700000*S p
 |0,_,_,_,_,_=>Nat.zero_le _
 |f+1,d,p,hp,hk,hd=>by
  have ht:=tx_len hs hp
  have hr:=hS.eq p hp
  have h1:=lnT_len hs hx.ex hS F p hp (hx.ln p hp hk)
  have h2:=indT_len d
  have htop:=hS.top p hp
  have hblk:∀b:Nat,b<p→(ndA l b).kd=6→(blkT l (stT l F f) d b []).length≤10004+700000*(S b-1):=fun b hb h6=>by
   have:=blkT_len hS (st:=stT l F f) (d:=d) (p:=b) (m:=0) (by omega) (by omega) [] (Nat.le_refl _) fun k hk'=>by
    obtain⟨k2,rfl,hlt,h7⟩:=hx.bl b (by omega) h6 k hk'
    exact stT_len hs hx hS F f (d+1) k2 (by omega) h7 (by omega)
   omega
  have hpos:∀b:Nat,b<p→1≤S b:=fun b hb=>szd_pos hS (by omega)
  show List.length (indT d++lnT l F p++(if (ndA l p).kd=11 then _ else _)++[10])≤_
  split
  case isTrue e=>
   obtain⟨a,b,c,e1,hb,hc,h6,h7⟩:=hx.kif p hp e
   rw[kidA_1 e1,kidA_2 e1]
   rw[e1]at hr
   simp only[List.map_cons,List.map_nil,List.sum_cons,List.sum_nil]at hr
   have h8:=hblk b hb h6
   have h9:=hblk c hc h7
   have h10:=hpos b hb
   have h11:=hpos c hc
   have h12:((if (ndA l c).ks=[] then [] else [32,101,108,115,101]++blkT l (stT l F f) d c []):List UInt8).length≤10009+700000*(S c-1):=by
    split
    ·exact Nat.zero_le _
    ·simp only[List.length_append,List.length_cons,List.length_nil];omega
   simp only[List.length_append,List.length_cons,List.length_nil]at h12 ⊢
   omega
  split
  case isTrue e=>
   obtain⟨a,b,e1,hb,h6⟩:=hx.wh p hp e
   rw[kidA_1 e1]
   rw[e1]at hr
   simp only[List.map_cons,List.map_nil,List.sum_cons,List.sum_nil]at hr
   have h8:=hblk b hb h6
   have h10:=hpos b hb
   simp only[List.length_append,List.length_cons,List.length_nil]
   omega
  split
  case isTrue e=>
   obtain⟨a,b,e1,ha,hb,h6,h7⟩:=hx.tr p hp e
   rw[kidA_0 e1,kidA_1 e1]
   rw[e1]at hr
   simp only[List.map_cons,List.map_nil,List.sum_cons,List.sum_nil]at hr
   have h8:=hblk a ha h6
   have h9:=hblk b hb h7
   have h10:=hpos a ha
   have h11:=hpos b hb
   simp only[List.length_append,List.length_cons,List.length_nil]
   omega
  ·simp only[List.length_append,List.length_cons,List.length_nil]
   omega
theorem tydT_len {l:List Tr.Nd}(hs:shB l=true){p:Nat}(hp:p<l.length):(tydT l p).length≤25:=by
 have h1:=tx_len hs hp
 have h2:=tyT_len (ndA l p).n
 unfold tydT
 simp only[List.length_append,List.length_cons,List.length_nil]
 omega
theorem varT_len {l:List Tr.Nd}(hs:shB l=true)(d:Nat){p:Nat}(hp:p<l.length):(varT l d p).length≤2*d+31:=by
 have h1:=tydT_len hs hp
 have h2:=indT_len d
 unfold varT
 simp only[List.length_append,List.length_cons,List.length_nil]
 omega
theorem prcT_len {l:List Tr.Nd}{S:Int→Nat}(hs:shB l=true)(hx:ShOk l)(hS:Szd l S)(hl:l.length≤4000)(F p:Nat)(hp:p<l.length)(hk:(ndA l p).kd=3):(prcT l F p).length≤700000*S p:=by
 have ht:=tx_len hs hp
 have hr:=hS.eq p hp
 have hfew:=hx.few p hp
 obtain⟨ks,b,e1,hb,h6,h7⟩:=hx.pr p hp hk
 have hall:∀k ∈ (ndA l p).ks,∃k2:Nat,k=(k2:Int)∧k2<l.length:=fun k hk'=>by
  rw[e1]at hk'
  rcases List.mem_append.1 hk' with h |h
  ·obtain⟨k2,e,h2,_⟩:=h7 k h;exact⟨k2,e,by omega⟩
  ·exact⟨b,List.mem_singleton.1 h,by omega⟩
 have hf:∀q:Int→Bool,((ndA l p).ks.filter q).length≤4000:=fun q=>Nat.le_trans (List.length_filter_le _ _) hfew
 have h8:(comT (((ndA l p).ks.filter fun k=>(ndA l k).kd==4).map (tydT l))).length≤27*4000:=by
  refine Nat.le_trans (sum_com (g:=fun _=>1) (C:=27) _ fun k hk' =>?_) (Nat.mul_le_mul_left _ (sum_one _ _ (hf _)))
  obtain⟨k2,rfl,h2⟩:=hall k ((List.mem_filter.1 hk').1)
  have:=tydT_len hs h2
  omega
 have h9:((((ndA l p).ks.filter fun k=>(ndA l k).kd==5)).map (varT l (0+1))).flatten.length≤33*4000:=by
  refine Nat.le_trans (sum_flat (g:=fun _=>1) (C:=33) _ fun k hk' =>?_) (Nat.mul_le_mul_left _ (sum_one _ _ (hf _)))
  obtain⟨k2,rfl,h2⟩:=hall k ((List.mem_filter.1 hk').1)
  have:=varT_len hs (0+1) h2
  omega
 have h10:(ndA l p).ks.getLastD 0=(b:Int):=by rw[e1];simp
 have h11:=blkT_len hS (st:=stT l F F) (d:=0) (p:=b) (by omega) (by omega) _ h9 fun k hk'=>by
  obtain⟨k2,rfl,hlt,h7⟩:=hx.bl b (by omega) h6 k hk'
  exact stT_len hs hx hS F F (0+1) k2 (by omega) h7 (by omega)
 have h12:=mem_sum (S:=S) (ks:=(ndA l p).ks) (k:=(b:Int)) (by rw[e1];simp)
 have h13:((if (ndA l p).n=0 then [] else [32]++tyT (ndA l p).n):List UInt8).length≤5:=by
  have:=tyT_len (ndA l p).n
  split
  ·exact Nat.zero_le _
  ·simp only[List.length_append,List.length_cons,List.length_nil];omega
 have h14:1≤S b:=szd_pos hS (by omega)
 unfold prcT lisT
 rw[h10]
 simp only[List.length_append,List.length_cons,List.length_nil]at h11 h13 ⊢
 omega
theorem pgmT_len {l:List Tr.Nd}{S:Int→Nat}(hs:shB l=true)(hx:ShOk l)(hS:Szd l S)(hl:l.length≤4000)(F p:Nat)(hp:p<l.length)(hk:(ndA l p).kd=1):(pgmT l F p).length≤2800000000:=by
 have hr:=hS.eq p hp
 have htop:=hS.top p hp
 have h1:(pgmT l F p).length≤700000*((ndA l p).ks.map S).sum:=sum_flat _ fun k hk'=>by
  obtain⟨k2,rfl,hlt,h2⟩:=hx.pg p hp hk k hk'
  have h3:1≤S k2:=szd_pos hS (by omega)
  split
  ·have:=varT_len hs 0 (p:=k2) (by omega);omega
  ·rename_i hn;rcases h2 with h2 |h2
   ·exact absurd h2 hn
   ·exact prcT_len hs hx hS hl F k2 (by omega) h2
 omega
open Tr (StU stK kidsAt) in
theorem stK_sum {b:Nat→Nat}:∀(ks:List Int) (s e:Nat),(∀q,q<s→b q≤q)→stK b ks s=some e→(ks.map fun k:Int=>k.toNat+1-b k.toNat).sum=s-e
 | [],s,e,_,h=>by unfold stK at h;cases h;simp
 |k :: ks,s,e,hb,h=>by
  unfold stK at h
  split at h
  ·cases h
  split at h
  case isFalse=>cases h
  case isTrue h0 h1=>
   have h2:=hb (s-1) (by omega)
   have hb':∀q,q<b (s-1)→b q≤q:=fun q hq=>hb q (by omega)
   have h3:=stK_sum ks _ e hb' h
   have h4:=Tr.stK_le ks _ e hb' h
   have h5:k.toNat=s-1:=by omega
   simp only[List.map_cons,List.sum_cons]
   rw[h3,h5]
   omega
open Tr (StU stK kidsAt) in
theorem kidsAt_ks {l:List Tr.Nd}{p:Nat}(hp:p<l.length):kidsAt l p=(ndA l p).ks:=by
 unfold kidsAt;rw[ndA_eq hp];simp[List.getD,hp]
open Tr (StU stK kidsAt) in
theorem szd_of {l:List Tr.Nd}{b:Nat→Nat}(hS:StU l b l.length)(hb:∀q,q<l.length→b q≤q)(hl:l.length≤4000):Szd l (fun k=>k.toNat+1-b k.toNat) where
 eq p hp:=by
  have h1:=hS p hp
  have h2:=stK_sum _ p (b p) (fun q hq=>hb q (by omega)) h1
  have h3:=hb p hp
  rw[kidsAt_ks hp,List.map_reverse,List.sum_reverse]at h2
  rw[h2,Int.toNat_natCast]
  omega
 top p hp:=by rw[Int.toNat_natCast];omega
open Tr (StU stK kidsAt) in
theorem ahead_of {l:List Tr.Nd}{b:Nat→Nat}(hS:StU l b l.length)(hb:∀q,q<l.length→b q≤q):Ahead l:=fun i hi k hk=>by
 have h1:=hS i hi
 rw[kidsAt_ks hi,ndA_eq hi]at h1
 obtain⟨m,e,h2,_⟩:=Tr.stK_mem _ i (b i) (fun q hq=>hb q (by omega)) h1 k (List.mem_reverse.2 hk)
 omega
end
section
open Go
open Tr (nth stmB expB allB kidB ndB shB)
theorem exT_succ (l:List Tr.Nd)(f:Nat)(p:Int):exT l (f+1) p=(if (ndA l p).kd=20 then Lib.itoa (ndA l p).n
  else if (ndA l p).kd=21 then Lib.formatBool ((ndA l p).n==1)
  else if (ndA l p).kd=22 then txA l p
  else if (ndA l p).kd=23 then txA l p++[91]++exT l f (kidA l p 0)++[93]
  else if (ndA l p).kd=24 then [108,101,110,32]++txA l p
  else if (ndA l p).kd=25 then [38]++txA l p
  else if (ndA l p).kd=26 then txA l p++opT l (exT l f) (kidA l p 0)
  else if (ndA l p).kd=27 then opT l (exT l f) (kidA l p 0)++[32]++txA l p++[32]++opT l (exT l f) (kidA l p 1)
  else []):=rfl
structure MvR (la l':List Tr.Nd) (off:Nat):Prop where
 kd:∀i:Nat,i<la.length→(ndA l' ((i+off:Nat):Int)).kd=(ndA la i).kd
 n:∀i:Nat,i<la.length→(ndA l' ((i+off:Nat):Int)).n=(ndA la i).n
 tx:∀i:Nat,i<la.length→(ndA l' ((i+off:Nat):Int)).tx=(ndA la i).tx
 ks:∀i:Nat,i<la.length→(ndA l' ((i+off:Nat):Int)).ks=(ndA la i).ks.map fun k=>k+(off:Int)
theorem exT_mv {la l':List Tr.Nd}{off:Nat}(h:MvR la l' off)(hx:ExN la):∀(f g p:Nat),p<la.length→p<f→p<g→exT l' g ((p+off:Nat):Int)=exT la f (p:Int)
 |0,_,_,_,h0,_=>absurd h0 (Nat.not_lt_zero _)
 |_+1,0,_,_,_,h0=>absurd h0 (Nat.not_lt_zero _)
 |f+1,g+1,p,hp,hf,hg=>by
  have ih:∀k:Nat,k<p→exT l' g ((k:Int)+(off:Int))=exT la f (k:Int):=fun k hk=>by
   have:=exT_mv h hx f g k (by omega) (by omega) (by omega)
   exact this
  have hop:∀k:Nat,k<p→opT l' (exT l' g) ((k:Int)+(off:Int))=opT la (exT la f) (k:Int):=fun k hk=>by
   unfold opT
   rw[ih k hk,show(k:Int)+(off:Int)=((k+off:Nat):Int)by simp,h.kd k (by omega)]
  have htx:txA l' ((p+off:Nat):Int)=txA la p:=by unfold txA;rw[h.tx p hp]
  rw[exT_succ,exT_succ,h.kd p hp,h.n p hp,htx]
  by_cases h23:(ndA la p).kd=23∨(ndA la p).kd=26
  ·obtain⟨k,e1,hlt,_⟩:=hx.one p hp h23
   have e2:kidA la p 0=(k:Int):=by unfold kidA;rw[e1];rfl
   have e3:kidA l' ((p+off:Nat):Int) 0=(k:Int)+(off:Int):=by unfold kidA;rw[h.ks p hp,e1];rfl
   rw[e2,e3,ih k hlt,hop k hlt]
   rcases h23 with e |e<;>rw[e]<;>simp
  by_cases h27:(ndA la p).kd=27
  ·obtain⟨k,j,e1,hlt,hlt2,_⟩:=hx.two p hp h27
   have e2:kidA la p 0=(k:Int):=by unfold kidA;rw[e1];rfl
   have e3:kidA l' ((p+off:Nat):Int) 0=(k:Int)+(off:Int):=by unfold kidA;rw[h.ks p hp,e1];rfl
   have e4:kidA la p 1=(j:Int):=by unfold kidA;rw[e1];rfl
   have e5:kidA l' ((p+off:Nat):Int) 1=(j:Int)+(off:Int):=by unfold kidA;rw[h.ks p hp,e1];rfl
   rw[e2,e3,e4,e5,hop k hlt,hop j hlt2,h27]
   simp
  ·have n23:¬(ndA la p).kd=23:=fun e=>h23 (Or.inl e)
   have n26:¬(ndA la p).kd=26:=fun e=>h23 (Or.inr e)
   simp only[n23,n26,h27,if_false]
theorem opT_mv {la l':List Tr.Nd}{off:Nat}(h:MvR la l' off)(hx:ExN la)(f g p:Nat)(hp:p<la.length)(hf:p<f)(hg:p<g):opT l' (exT l' g) ((p+off:Nat):Int)=opT la (exT la f) p:=by
 unfold opT
 rw[exT_mv h hx f g p hp hf hg,h.kd p hp]
end
end
end Go.Proofs.YteecfjhjllajlaaGreatDoor
