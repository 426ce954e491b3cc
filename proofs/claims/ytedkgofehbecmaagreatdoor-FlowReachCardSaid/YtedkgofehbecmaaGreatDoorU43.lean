/- PROVED here: parts Rb Rf Rh Ri Re Rj of the claim. No condition but those in each theorem's own head. -/
import Derived.Test.YtedkgofehbecmaaGreatDoorU42
import Derived.OwnWalkIn
import Derived.Maps.AppendAt
import Derived.Laws.AppendOwnNone
import Derived.WalkSmall
import Derived.Sort.LoopGhostIn
namespace Go.Proofs.YtedkgofehbecmaaGreatDoor
open Go.Lib (hid keeps compactUpTo compactUpTo_succ)
open Go
def fal (s:Nat->Bool):Nat->Nat
 |0=>0
 |n+1=>fal s n+(if s n then 0 else 1)
theorem fal_set {s:Nat->Bool}{j:Nat}(hj:s j=false):∀n,fal (λk=>if k=j then true else s k) n+(if j<n then 1 else 0)=fal s n
 |0=>by simp[fal]
 |n+1=>by
  have ih:=fal_set hj n
  unfold fal
  by_cases e:n=j
  ·subst e
   simp only[if_pos (Nat.lt_succ_self n),hj,if_true]
   rw[if_neg (Nat.lt_irrefl n)]at ih
   simp only[Bool.false_eq_true,if_false]
   omega
  ·rw[if_neg e]
   by_cases h:j<n
   ·rw[if_pos h]at ih;rw[if_pos (show j<n+1 by omega)];omega
   ·rw[if_neg h]at ih;rw[if_neg (show¬j<n+1 by omega)];omega
theorem fal_none (n:Nat):fal (λ_=>false) n=n:=by
 induction n with
 |zero=>rfl
 |succ n ih=>unfold fal;rw[ih];simp
section
variable (A:Nat->List Int)
structure RI (N from_:Nat) (s:Nat->Bool) (pre:List Nat) (wt:List Int):Prop where
 nd:pre.Nodup
 rg:∀x ∈ pre,x<N
 se:∀j,j<N->(s j=true↔j ∈ pre)
 ct:pre.length+fal s N=N
 wr:∀k ∈ wt,∃j:Nat,k=(j:Int)/\j<N
 fr:(from_:Int) ∈ wt\/from_ ∈ pre
 cl:∀y ∈ pre,∀k ∈ A y,(∃j ∈ pre,k=(j:Int))\/k ∈ wt
 dv:∀x ∈ pre,x=from_\/∃y ∈ pre,(x:Int) ∈ A y
 dw:∀k ∈ wt,k=(from_:Int)\/∃y ∈ pre,k ∈ A y
 al:∀Q:Nat->Prop,Q from_->(∀y,Q y->∀j:Nat,(j:Int) ∈ A y->Q j)->(∀x ∈ pre,Q x)/\∀j:Nat,(j:Int) ∈ wt->Q j
structure RchS (N from_:Nat) (xs:List Nat):Prop where
 nd:xs.Nodup
 rg:∀x ∈ xs,x<N
 fr:from_ ∈ xs
 cl:∀y ∈ xs,∀k ∈ A y,∃j ∈ xs,k=(j:Int)
 dv:∀x ∈ xs,x=from_\/∃y ∈ xs,(x:Int) ∈ A y
 al:∀Q:Nat->Prop,Q from_->(∀y,Q y->∀j:Nat,(j:Int) ∈ A y->Q j)->∀x ∈ xs,Q x
variable {A:Nat->List Int} {N from_:Nat} {s:Nat->Bool} {pre:List Nat} {wt:List Int}
theorem RI.start (h:from_<N):RI A N from_ (λ_=>false) [] [(from_:Int)]:=
 ⟨List.nodup_nil,λ_ h=>(List.not_mem_nil h).elim,λj _=>by simp,by rw[fal_none];simp,λk hk=>⟨from_,by simpa using hk,h⟩,.inl (by simp),λ_ h=>(List.not_mem_nil h).elim,λ_ h=>(List.not_mem_nil h).elim,λk hk =>.inl (by simpa using hk),λQ h1 h2=>⟨λ_ h=>(List.not_mem_nil h).elim,λj hj=>by
  have:j=from_:=by have:=List.mem_singleton.1 hj;omega
  rw[this];exact h1⟩⟩
theorem RI.old {j:Nat}(h:RI A N from_ s pre (wt++[(j:Int)]))(hj:s j=true):RI A N from_ s pre wt:=by
 obtain⟨j',e,hN⟩:=h.wr (j:Int) (by simp)
 obtain rfl:j=j':=by omega
 have hm:=(h.se j hN).1 hj
 refine⟨h.nd,h.rg,h.se,h.ct,λk hk=>h.wr k (by simp[hk]),?_,λy hy k hk =>?_,h.dv,λk hk=>h.dw k (by simp[hk]),λQ h1 h2=>⟨(h.al Q h1 h2).1,λj hj=>(h.al Q h1 h2).2 j (by simp[hj])⟩⟩
 ·rcases h.fr with h1 |h1
  ·rcases List.mem_append.1 h1 with h2 |h2
   ·exact .inl h2
   ·have:from_=j:=by have:=List.mem_singleton.1 h2;omega
    exact .inr (this▸hm)
  ·exact .inr h1
 ·rcases h.cl y hy k hk with h1 |h1
  ·exact .inl h1
  ·rcases List.mem_append.1 h1 with h2 |h2
   ·exact .inr h2
   ·exact .inl ⟨j,hm,List.mem_singleton.1 h2⟩
theorem RI.fresh {j:Nat}(h:RI A N from_ s pre (wt++[(j:Int)]))(hj:s j=false)(hA:∀k ∈ A j,∃i:Nat,k=(i:Int)/\i<N):RI A N from_ (λk=>if k=j then true else s k) (pre++[j]) (wt++A j):=by
 obtain⟨j',e,hN⟩:=h.wr (j:Int) (by simp)
 obtain rfl:j=j':=by omega
 have hm:j ∉ pre:=λhm=>by rw[(h.se j hN).2 hm]at hj;cases hj
 refine⟨?_,λx hx =>?_,λk hk =>?_,?_,λk hk =>?_,?_,λy hy k hk =>?_,λx hx =>?_,λk hk =>?_,λQ h1 h2 =>?_⟩
 ·exact List.nodup_append.2 ⟨h.nd,by simp,λa ha b hb=>by rw[List.mem_singleton.1 hb];exact λe=>hm (e▸ha)⟩
 ·rcases List.mem_append.1 hx with h1 |h1
  ·exact h.rg x h1
  ·rw[List.mem_singleton.1 h1];exact hN
 ·by_cases e:k=j
  ·subst e;simp
  ·rw[if_neg e,h.se k hk];simp[e]
 ·have h1:=fal_set hj N
  rw[if_pos hN]at h1
  have h2:=h.ct
  rw[List.length_append,List.length_singleton];omega
 ·rcases List.mem_append.1 hk with h1 |h1
  ·exact h.wr k (by simp[h1])
  ·exact hA k h1
 ·rcases h.fr with h1 |h1
  ·rcases List.mem_append.1 h1 with h2 |h2
   ·exact .inl (by simp[h2])
   ·have:from_=j:=by have:=List.mem_singleton.1 h2;omega
    exact .inr (by simp[this])
  ·exact .inr (by simp[h1])
 ·rcases List.mem_append.1 hy with h1 |h1
  ·rcases h.cl y h1 k hk with⟨i,hi,e⟩ |h2
   ·exact .inl ⟨i,by simp[hi],e⟩
   ·rcases List.mem_append.1 h2 with h3 |h3
    ·exact .inr (by simp[h3])
    ·exact .inl ⟨j,by simp,List.mem_singleton.1 h3⟩
  ·rw[List.mem_singleton.1 h1]at hk
   exact .inr (by simp[hk])
 ·rcases List.mem_append.1 hx with h1 |h1
  ·rcases h.dv x h1 with h2 |⟨y,hy,h2⟩
   ·exact .inl h2
   ·exact .inr ⟨y,by simp[hy],h2⟩
  ·rw[List.mem_singleton.1 h1]
   rcases h.dw (j:Int) (by simp)with h2 |⟨y,hy,h2⟩
   ·exact .inl (by omega)
   ·exact .inr ⟨y,by simp[hy],h2⟩
 ·rcases List.mem_append.1 hk with h1 |h1
  ·rcases h.dw k (by simp[h1])with h2 |⟨y,hy,h2⟩
   ·exact .inl h2
   ·exact .inr ⟨y,by simp[hy],h2⟩
  ·exact .inr ⟨j,by simp,h1⟩
 ·obtain⟨a1,a2⟩:=h.al Q h1 h2
  have hQj:Q j:=a2 j (by simp)
  refine⟨λx hx =>?_,λi hi =>?_⟩
  ·rcases List.mem_append.1 hx with h3 |h3
   ·exact a1 x h3
   ·rw[List.mem_singleton.1 h3];exact hQj
  ·rcases List.mem_append.1 hi with h3 |h3
   ·exact a2 i (by simp[h3])
   ·exact h2 j hQj i h3
theorem RI.done (h:RI A N from_ s pre []):RchS A N from_ pre:=
 ⟨h.nd,h.rg,by rcases h.fr with h1 |h1;exact(List.not_mem_nil h1).elim;exact h1,λy hy k hk=>by rcases h.cl y hy k hk with h1 |h1;exact h1;exact(List.not_mem_nil h1).elim,h.dv,λQ h1 h2=>(h.al Q h1 h2).1⟩
theorem RI.pos (h:RI A N from_ s pre wt){j:Nat}(hN:j<N)(hj:s j=false):pre.length<N:=by
 have h1:=fal_set hj N
 rw[if_pos hN]at h1
 have:=h.ct
 omega
theorem RchS.len {xs:List Nat}(h:RchS A N from_ xs):xs.length<=N:=by
 have key:∀(xs:List Nat) (s:Nat->Bool),xs.Nodup->(∀x ∈ xs,x<N/\s x=false)->xs.length<=fal s N:=λxs=>by
  induction xs with
  |nil=>intro _ _ _;simp
  |cons x xs ih=>
   intro s hn hx
   obtain⟨h1,h2⟩:=List.nodup_cons.1 hn
   have h3:=ih (λk=>if k=x then true else s k) h2 λy hy=>⟨(hx y (by simp[hy])).1,by
    have hne:y≠x:=λe=>by rw[e]at hy;exact h1 hy
    rw[if_neg hne];exact(hx y (by simp[hy])).2⟩
   have h4:=fal_set (hx x (by simp)).2 N
   rw[if_pos (hx x (by simp)).1]at h4
   simp only[List.length_cons];omega
 have:=key xs (λ_=>false) h.nd λx hx=>⟨h.rg x hx,rfl⟩
 rwa [fal_none]at this
end
end Go.Proofs.YtedkgofehbecmaaGreatDoor
namespace Go.Proofs.YtedkgofehbecmaaGreatDoor
open Go.Lib (hid keeps compactUpTo compactUpTo_succ)
open Go Go.RowKit
theorem run_append_none0 {P:Program}{w:World}(base:Nat)(t ty e:TypeId)(i:TypeInfo)(size:Nat)(ht:P.underlying t=some (.slice e))(hi:P.info? e=some i)
  (v:Value) (n:Nat) (xs:List Value) (hown:w.ownsRow base e size v n xs) (c:Nat) :
  (Builtin.append_ #[t,t] ty #[v,.slice none 0 c]).run P w = .ok v w:=by
 rcases hown.2 with⟨rfl,rfl⟩ |⟨g,cap,cur,rfl,_,_,hnc,_⟩
 ·simp[Builtin.append_,run_underlying ht,sizeOf,typeInfo,hi,Builtin.lenOf,Builtin.firstCells]
 ·simp[Builtin.append_,run_underlying ht,sizeOf,typeInfo,hi,Builtin.lenOf,Builtin.firstCells,hnc,storeCells]
theorem run_append_ints {P:Program}{w:World}(base:Nat)(t ty:TypeId)(i:TypeInfo)(ht:P.underlying t=some (.slice 3))(hi:P.info? 3=some i)(hz:i.zero=some (.int .i64 0))(hs:i.size=1)(hby:i.bytes=8)
  (v:Value) (xs:List Int) (hown:w.ownsRow base 3 1 v xs.length (xs.map (Value.int .i64))) (A:Option Addr) (c:Nat) (news:List Int)
  (hI:0<news.length->∃b o,A=some ⟨b,o,none⟩/\∀j (hj:j<news.length),w.cell? ⟨b,o+j,none⟩=some (.int .i64 news[j])) (h63:xs.length+news.length<=900000) (hbase:base<=w.heap.size) :
  ∃v' w',(Builtin.append_ #[t,t] ty #[v,.slice A news.length c]).run P w = .ok v' w'/\w'.ownsRow base 3 1 v' (xs.length+news.length) ((xs++news).map (Value.int .i64))/\w.grownBy w' v.ownBlock/\(v'.ownBlock=v.ownBlock\/v'.ownBlock=some w.heap.size):=by
 by_cases h0:0<news.length
 ·obtain⟨b,o,rfl,hc⟩:=hI h0
  obtain⟨v',w',h1,h2,h3,_,h5⟩:=run_append_own_at (P:=P) (w:=w) base t ty 3 i (.int .i64 0) 1 8 ht hi hz hs hby rfl (by decide) v xs.length (xs.map (Value.int .i64)) hown ⟨b,o,none⟩ news.length c (news.map (Value.int .i64)) (by simp) (λj u hu=>by
   rw[List.getElem?_map]at hu
   obtain⟨hj,hn⟩:∃hj:j<news.length,(Value.int .i64 news[j])=u:=by
    by_cases hj:j<news.length
    ·rw[List.getElem?_eq_getElem hj]at hu;exact⟨hj,by simpa using hu⟩
    ·rw[List.getElem?_eq_none (by omega)]at hu;cases hu
   rw[<- hn,<- hc j hj]
   congr 1
   unfold Addr.add
   split<;>simp_all) (λu hu=>by
    obtain⟨x,_,rfl⟩:=List.mem_map.1 hu
    rfl) (by unfold maxLen;omega) (by omega) hbase
  exact⟨v',w',h1,by rw[List.map_append];exact h2,h3,h5⟩
 ·have hn:news=[]:=List.eq_nil_of_length_eq_zero (by omega)
  subst hn
  cases A with
  |none=>
   exact⟨v,w,run_append_none0 base t ty 3 i 1 ht hi v _ _ hown c,by simpa using hown,World.grownBy.refl w _,.inl rfl⟩
  |some ad=>
   obtain⟨v',w',h1,h2,h3,_,h5⟩:=run_append_own_at (P:=P) (w:=w) base t ty 3 i (.int .i64 0) 1 8 ht hi hz hs hby rfl (by decide) v xs.length (xs.map (Value.int .i64)) hown ad 0 c [] (by simp) (λj u hu=>by simp at hu) (λu hu=>by simp at hu) (by unfold maxLen;simp at h63;omega) (by simp at h63;omega) hbase
   exact⟨v',w',h1,by simpa using h2,h3,h5⟩
theorem wpListIn_append_ints {F:Fence}{n:Nat}{P:Program}{w:World}{ops:Array Oper}{rest:List Oper}{o:Oper}{a:Act}{Q:Exit->Act->World->Prop}
  (hg:o.guard=none) (s x:Operand) (t:TypeId) (hop:o.op=Op.call { callee:=Callee.builtin Builtin.append,args := #[s,x],argTypes := #[t,t] })
  (base:Nat) (i:TypeInfo) (ht:P.underlying t=some (.slice 3)) (hi:P.info? 3=some i) (hz:i.zero=some (.int .i64 0)) (hs1:i.size=1) (hby:i.bytes=8)
  (v:Value) (xs:List Int) (hs:a.eval s=v) (hown:w.ownsRow base 3 1 v xs.length (xs.map (Value.int .i64))) (A:Option Addr) (c:Nat) (news:List Int) (hx:a.eval x = .slice A news.length c)
  (hI:0<news.length->∃b o,A=some ⟨b,o,none⟩/\∀j (hj:j<news.length),w.cell? ⟨b,o+j,none⟩=some (.int .i64 news[j])) (h63:xs.length+news.length<=900000) (hbase:base<=w.heap.size)
  (hK:∀v' w',w'.ownsRow base 3 1 v' (xs.length+news.length) ((xs++news).map (Value.int .i64))->w.grownBy w' v.ownBlock->(v'.ownBlock=v.ownBlock\/v'.ownBlock=some w.heap.size)->wpListIn F n P ops Q rest (a.put o.dst v') w') :
  wpListIn F n P ops Q (o :: rest) a w:=by
 refine wpListIn_plain hg λK hK' =>?_
 obtain⟨v',w',hrun,r1,r2,r3⟩:=run_append_ints (P:=P) base t o.type i ht hi hz hs1 hby v xs hown A c news hI h63 hbase
 unfold Oper.wpIn
 refine⟨?_,?_⟩
 ·simp[Oper.about,hop,resolve,Target.leads,Sem.run_pure]
 ·rw[Oper.semAt_plain F _ _ (by rw[hop];intro c hc';cases hc')]
  simp[execOp,hop,resolve,invoke,builtin,hs,hx,hrun,Result.andThen]
  exact hK' _ _ (hK v' w' r1 r2 r3)
end Go.Proofs.YtedkgofehbecmaaGreatDoor
namespace Go.Proofs.YtedkgofehbecmaaGreatDoor
open Go.Lib (hid keeps compactUpTo compactUpTo_succ)
open Go Go.RowKit Go.Shelf
open Tr (Bx heap1 bt Nds Ints BPost IPost rgB Ib)
attribute [local go_sem] Oper.semAt_some
structure ItR (w W:World) (N n0 gB:Nat) (gv0 gv1:Value) (J:List Nat->(Nat->Prop)->World->Prop) (s:Nat->Bool) (pre:List Nat) (wt:List Int) (O:Nat->Prop) (v:Value) (Z:World):Prop where
 j:J pre O Z
 o:¬O W.heap.size
 sb:Bb Z W.heap.size N s
 ow:Z.ownsRow (W.heap.size+1) 3 1 v wt.length (wt.map (Value.int .i64))
 oo:∀b,v.ownBlock=some b->¬O b
 g0:Z.cell? ⟨gB,0,none⟩=some gv0
 g1:Z.cell? ⟨gB,1,none⟩=some gv1
 b:Below n0 w Z
 z:W.heap.size+1<=Z.heap.size
structure ItP (w W:World) (n0 gB fB:Nat) (J:List Nat->(Nat->Prop)->World->Prop):Prop where
 ja:∀pre O A B,J pre O A->Fr (λk=>¬O k/\¬(k<n0\/k=gB\/k=fB)) A B->J pre O B
 jo:∀pre O A,J pre O A->∀k,O k->k<A.heap.size/\¬(k<n0\/k=gB\/k=fB)
 gl:gB<W.heap.size
 fl:fB<W.heap.size
 nl:n0<=W.heap.size
section
variable {w W Z Z':World} {N n0 gB fB:Nat} {gv0 gv1:Value} {J:List Nat->(Nat->Prop)->World->Prop} {s:Nat->Bool} {pre:List Nat} {wt:List Int} {O:Nat->Prop} {v:Value}
theorem ItR.below (h:ItR w W N n0 gB gv0 gv1 J s pre wt O v Z)(p:ItP w W n0 gB fB J)(hb:Below Z.heap.size Z Z'):ItR w W N n0 gB gv0 gv1 J s pre wt O v Z':=
 have hz:W.heap.size<Z.heap.size:=h.sb.lt
 ⟨p.ja _ _ _ _ h.j (Fr.of hb),h.o,h.sb.below hb h.sb.lt,own_below h.ow hb,h.oo,(hb.cell (p:=⟨gB,0,none⟩) (Nat.lt_trans p.gl hz)).trans h.g0,(hb.cell (p:=⟨gB,1,none⟩) (Nat.lt_trans p.gl hz)).trans h.g1,h.b.trans (hb.mono (Nat.le_trans p.nl (Nat.le_of_lt hz))),Nat.le_trans h.z hb.size⟩
theorem ItR.put (h:ItR w W N n0 gB gv0 gv1 J s pre wt O v Z)(p:ItP w W n0 gB fB J)(j:Nat):ItR w W N n0 gB gv0 gv1 J (λk=>if k=j then true else s k) pre wt O v (Z.setCell ⟨W.heap.size,j,none⟩ (.bool true)):=by
 have hg:=p.gl
 have hn:=p.nl
 have hf:=p.fl
 have hF:Fr (λk=>k=W.heap.size) Z (Z.setCell ⟨W.heap.size,j,none⟩ (.bool true)):=Fr.set (E:=λb=>b=W.heap.size) (Fr.refl _ _) rfl _
 refine⟨p.ja _ _ _ _ h.j (hF.mono λk e=>by rw[e];exact⟨h.o,by omega⟩),h.o,h.sb.set_ j true,?_,h.oo,?_,?_,?_,Nat.le_trans h.z hF.size⟩
 ·exact⟨h.ow.1,h.ow.2.imp id λ⟨g,cap,cur,e,h3,h4,h5⟩=>⟨g,cap,cur,e,h3,(hF.block g (Array.getElem?_eq_some_iff.1 h4).1 (by omega)).trans h4,h5⟩⟩
 ·exact(World.cell?_of_block (a:=⟨gB,0,none⟩) (hF.block gB (Nat.lt_trans hg h.sb.lt) (by omega))).trans h.g0
 ·exact(World.cell?_of_block (a:=⟨gB,1,none⟩) (hF.block gB (Nat.lt_trans hg h.sb.lt) (by omega))).trans h.g1
 ·exact h.b.trans (hF.below (λi e=>by omega) (Nat.le_trans hn (Nat.le_of_lt h.sb.lt)))
theorem ItR.round (h:ItR w W N n0 gB gv0 gv1 J s pre wt O v Z)(p:ItP w W n0 gB fB J){pre':List Nat}{O':Nat->Prop}(hj:J pre' O' Z')(hO:∀k,O' k->O k\/Z.heap.size<=k)(hF:Fr O Z Z'):ItR w W N n0 gB gv0 gv1 J s pre' wt O' v Z':=by
 have hz:W.heap.size<Z.heap.size:=h.sb.lt
 have hg:¬O gB:=λe=>(p.jo _ _ _ h.j _ e).2 (.inr (.inl rfl))
 have hb:∀b,v.ownBlock=some b->b<Z.heap.size:=λb e=>(h.ow.lt b e).2
 refine⟨hj,λe =>?_,(hF.block _ hz h.o).trans h.sb,?_,λb e k =>?_,?_,?_,?_,Nat.le_trans h.z hF.size⟩
 ·rcases hO _ e with e |e
  ·exact h.o e
  ·omega
 ·exact⟨h.ow.1,h.ow.2.imp id λ⟨g,cap,cur,e,h3,h4,h5⟩=>⟨g,cap,cur,e,h3,(hF.block g (Array.getElem?_eq_some_iff.1 h4).1 (h.oo g (by rw[e];rfl))).trans h4,h5⟩⟩
 ·rcases hO _ k with k |k
  ·exact h.oo b e k
  ·have:=hb b e;omega
 ·exact(World.cell?_of_block (a:=⟨gB,0,none⟩) (hF.block gB (Nat.lt_trans p.gl hz) hg)).trans h.g0
 ·exact(World.cell?_of_block (a:=⟨gB,1,none⟩) (hF.block gB (Nat.lt_trans p.gl hz) hg)).trans h.g1
 ·exact h.b.trans (hF.below (λi e=>Nat.le_of_not_lt λk=>(p.jo _ _ _ h.j _ e).2 (.inl k)) (Nat.le_trans p.nl (Nat.le_of_lt hz)))
theorem ItR.app (h:ItR w W N n0 gB gv0 gv1 J s pre wt O v Z)(p:ItP w W n0 gB fB J){news:List Int}{v':Value}(ho:Z'.ownsRow (W.heap.size+1) 3 1 v' (wt.length+news.length) ((wt++news).map (Value.int .i64)))(hg:Z.grownBy Z' v.ownBlock)(hv:v'.ownBlock=v.ownBlock\/v'.ownBlock=some Z.heap.size):ItR w W N n0 gB gv0 gv1 J s pre (wt++news) O v' Z':=by
 have hz:W.heap.size<Z.heap.size:=h.sb.lt
 have hgl:=p.gl
 have hnl:=p.nl
 have hfl:=p.fl
 have hF:Fr (λk=>v.ownBlock=some k) Z Z':=fr_grown hg (λb hb=>hb)
 have hlo:∀k,v.ownBlock=some k->W.heap.size+1<=k:=λk e=>(h.ow.lt k e).1
 refine⟨p.ja _ _ _ _ h.j (hF.mono λk e=>⟨h.oo k e,by have:=hlo k e;omega⟩),h.o,(hF.block _ hz λe=>by have:=hlo _ e;omega).trans h.sb,by rw[List.length_append];exact ho,λb e k =>?_,?_,?_,?_,Nat.le_trans h.z hF.size⟩
 ·rcases hv with e2 |e2
  ·exact h.oo b (e2.symm.trans e) k
  ·have e3:some Z.heap.size=some b:=e2.symm.trans e
   have:=(p.jo _ _ _ h.j _ k).1
   have:Z.heap.size=b:=by injection e3
   omega
 ·exact(World.cell?_of_block (a:=⟨gB,0,none⟩) (hF.block gB (Nat.lt_trans hgl hz) λe=>by have:=hlo _ e;omega)).trans h.g0
 ·exact(World.cell?_of_block (a:=⟨gB,1,none⟩) (hF.block gB (Nat.lt_trans hgl hz) λe=>by have:=hlo _ e;omega)).trans h.g1
 ·exact h.b.trans (hF.below (λi e=>by have:=hlo i e;omega) (Nat.le_trans hnl (Nat.le_of_lt hz)))
theorem ItR.last {z:Int}(h:ItR w W N n0 gB gv0 gv1 J s pre (wt++[z]) O v Z):∃g cap,v = .slice (some ⟨g,0,none⟩) (wt.length+1) cap/\wt.length+1<=cap/\Z.cell? ⟨g,wt.length,none⟩=some (.int .i64 z)/\ItR w W N n0 gB gv0 gv1 J s pre wt O (.slice (some ⟨g,0,none⟩) wt.length cap) Z:=by
 have how:=h.ow
 rw[List.length_append,List.length_singleton]at how
 obtain⟨g,cap,hv⟩:=ownsRow_succ how
 subst hv
 have hcap:wt.length+1<=cap:=by
  rcases how.2 with⟨e,_⟩ |⟨g',cap',cur,e,_,_,h1,_⟩
  ·cases e
  ·cases e;exact h1
 have hcl:=how.cellAt wt.length (by omega)
 rw[List.getElem?_map,show(wt++[z])[wt.length]?=some z by simp]at hcl
 refine⟨g,cap,rfl,hcap,hcl,h.j,h.o,h.sb,?_,h.oo,h.g0,h.g1,h.b,h.z⟩
 exact ownsRow_pop (last:=[.int .i64 z]) (by rw[List.length_map];omega) (by rw[List.map_append]at how;exact how)
theorem ItR.start {n0:Nat}(p:ItP w W n0 gB fB J)(h:J [] O W)(hb:Below n0 w W)(hg0:W.cell? ⟨gB,0,none⟩=some gv0)(hg1:W.cell? ⟨gB,1,none⟩=some gv1)(z:Int):ItR w W N n0 gB gv0 gv1 J (λ_=>false) [] [z] O (.slice (some ⟨W.heap.size+1,0,none⟩) 1 1) ((W.alloc (.cells (mkQ N λ_=>false) 4)).alloc (.cells #[.int .i64 z] 3)):=by
 have e1:(W.alloc (.cells (mkQ N λ_=>false) 4)).heap.size=W.heap.size+1:=World.size_alloc _ _
 have h1:=heap1 W (.cells (mkQ N λ_=>false) 4)
 have h2:=heap1 (W.alloc (.cells (mkQ N λ_=>false) 4)) (.cells #[.int .i64 z] 3)
 refine⟨p.ja _ _ _ _ (p.ja _ _ _ _ h (Fr.of h1)) (Fr.of h2),λe=>Nat.lt_irrefl _ (p.jo _ _ _ h _ e).1,(h2.block W.heap.size (by rw[e1];omega)).trans (World.alloc_heap_new W _),?_,λb hb e =>?_,?_,?_,?_,?_⟩
 ·have:=World.ownsRow_lit (base:=W.heap.size+1) (e:=3) (size:=1) (W.alloc (.cells (mkQ N λ_=>false) 4)) #[.int .i64 z] 1 (by rw[e1];exact Nat.le_refl _) (by decide) rfl
  rw[e1]at this
  exact this
 ·have hb:some (W.heap.size+1)=some b:=hb
  have:W.heap.size+1=b:=by injection hb
  have:=(p.jo _ _ _ h _ e).1
  omega
 ·exact(h2.cell (p:=⟨gB,0,none⟩) (by rw[e1];exact Nat.lt_succ_of_lt p.gl)).trans ((h1.cell (p:=⟨gB,0,none⟩) p.gl).trans hg0)
 ·exact(h2.cell (p:=⟨gB,1,none⟩) (by rw[e1];exact Nat.lt_succ_of_lt p.gl)).trans ((h1.cell (p:=⟨gB,1,none⟩) p.gl).trans hg1)
 ·exact hb.trans ((h1.mono p.nl).trans (h2.mono (by rw[e1];exact Nat.le_succ_of_le p.nl)))
 ·rw[World.size_alloc,e1];omega
end
theorem el28:Tryz.prog.underlying 28=some (.slice (Tryz.prog.elem 28)):=by kernel_rfl
theorem size28 (w:World):(sizeOf (Tryz.prog.elem 28)).run Tryz.prog w = .ok 1 w:=by kernel_rfl
theorem sl28_to (Aa:Option Addr)(m co k:Nat)(h:k<=co)(w:World):(Instr.sliceAt 28 (.slice Aa m co) none (some (.int .i64 (k:Int))) none).run Tryz.prog w = .ok (.slice Aa k co) w:=by
 have h1:(0:Int)<=(k:Int):=by omega
 have h2:(k:Int)<=(co:Int):=by omega
 rw[run_sliceAt_slice w 28 _ _ _ _ el28,run_slice_h w 28 Aa m co el28 .i64 (k:Int) h1 h2]
 rw[size28];cases Aa<;>simp[sliced,Addr.add]
end Go.Proofs.YtedkgofehbecmaaGreatDoor
namespace Go.Proofs.YtedkgofehbecmaaGreatDoor
open Go.Lib (hid keeps compactUpTo compactUpTo_succ)
open Go Go.RowKit Go.Shelf
open Tr (Bx heap1 bt Nds Ints BPost IPost rgB Ib)
attribute [local go_sem] Oper.semAt_some
set_option maxRecDepth 100000 in
set_option maxHeartbeats 1500000 in
theorem reach1_own (n0 gB fB N i:Nat)(GA PA:Option Addr)(gc np cp:Nat)(A:Nat->List Int)(hN:N<=20000)(hi:i<N)(w:World)(hg0:w.cell? ⟨gB,0,none⟩=some (.slice GA N gc))(hg1:w.cell? ⟨gB,1,none⟩=some (.slice PA np cp))(hf:w.cell? ⟨fB,0,none⟩=some (.int .i64 (i:Int)))
  (hgl:gB<w.heap.size) (hfl:fB<w.heap.size) (hn0:n0<=w.heap.size) (hA:∀j,j<N->∀k ∈ A j,∃m:Nat,k=(m:Int)/\m<N) (hL:∀j,j<N->(A j).length<=4)
  (HAf:∀W,Below n0 w W->∀j,j<N->Calls Tryz.prog 27 #[.agg #[.slice GA N gc,.slice PA np cp],.int .i64 (j:Int)] W (IsP (A j) W)) :
  SeqOwn Fence.wide 2 Tryz.prog 102 #[.pointer (some ⟨gB,0,none⟩),.pointer (some ⟨fB,0,none⟩)] (λx:Nat => #[Value.int .i64 (x:Int)]) (λk=>k<n0\/k=gB\/k=fB) (RchS A N i) N w:=by
 intro l J O0 W hW hJa hJo hY h0
 have a0:=(hW.cell (p:=⟨gB,0,none⟩) hgl).trans hg0
 have a1:=(hW.cell (p:=⟨gB,1,none⟩) hgl).trans hg1
 have f0:=(hW.cell (p:=⟨fB,0,none⟩) hfl).trans hf
 have f1:=((heap1 W (.cells (mkQ N λ_=>false) 4)).cell (p:=⟨fB,0,none⟩) (Nat.lt_of_lt_of_le hfl hW.size)).trans f0
 have HP:=hid (show ItP w W n0 gB fB J from⟨hJa,hJo,Nat.lt_of_lt_of_le hgl hW.size,Nat.lt_of_lt_of_le hfl hW.size,Nat.le_trans hn0 hW.size⟩)
 have HST:=hid (ItR.start (N:=N) HP.out h0 (hW.mono hn0) a0 a1 (i:Int))
 have HA:=hid hA
 have HL:=hid hL
 have HAF:=hid HAf
 have HY:=hid hY
 have HII:=hid hi
 clear hg0 hg1 hf hA hL HAf hJa hJo hY h0 hgl hfl hn0 hW hi
 refine callsIn_of_wp Tryz.func102 rfl trivial ?_ rfl
 simp only[Tryz.ntmps102,List.size_toArray,List.length_cons,List.length_nil,Nat.reduceAdd,Nat.reduceSub,Array.replicate_succ,Array.replicate_zero,List.push_toArray,List.append_toArray,List.nil_append,List.cons_append]
 have hmk:=λw'=>make104 N (by omega) w'
 gi_wp2
 clear hmk
 gi_loopg [5] (1+5*N) (λk v5 wr=>∃s pre wt O,k=wt.length+5*fal s N/\k<=1+5*N/\RI A N i s pre wt/\ItR w W N n0 gB (.slice GA N gc) (.slice PA np cp) J s pre wt O v5 wr)
 case atStart=>exact⟨λ_=>false,[],[(i:Int)],O0,by rw[fal_none];rfl,Nat.le_refl _,RI.start HII.out,by have:=HST.out;simpa using this⟩
 case round=>
  obtain⟨s,pre,wt,O,hk,hk5,hri,h⟩:=hrel
  have HK:=hid (And.intro hk hk5)
  have HRI:=hid hri
  clear hk hk5 hri a0 a1 f0 f1
  rcases List.eq_nil_or_concat wt with hw0 |⟨wt',k0,hw0⟩
  ·subst hw0
   obtain⟨VA,vc,hv⟩:=own_slice h.ow
   have HE:=hid h.j
   clear h
   subst hv
   gi_wp2
   go_end0
   exact⟨⟨_,rfl⟩,pre,O,HRI.out.done,HE.out⟩
  ·rw[List.concat_eq_append]at hw0
   subst hw0
   obtain⟨j,hj,hjN⟩:=HRI.out.wr k0 (by simp)
   subst hj
   obtain⟨g,cap,hv,hcap,hcl,hpop⟩:=h.last
   obtain⟨m,hm⟩:∃m,wt'.length=m:=⟨_,rfl⟩
   rw[hm]at hv hcap hcl hpop
   have hm6:m<=200000:=by have:=HK.out;rw[List.length_append,hm]at this;omega
   subst hv
   have hsl:=sl28_to (some ⟨g,0,none⟩) (m+1) cap m (by omega)
   have HH:=hid (λW'=>by have t:=ghas_any W' GA PA N gc np cp (j:Int);rw[decide_eq_true (show 0<=(j:Int)/\(j:Int)<(N:Int)by omega)]at t;exact t)
   have HPOP:=hid hpop
   have HM:=hid (And.intro hm hjN)
   have g0:=hpop.g0
   have g1:=hpop.g1
   have hjz:(j:Int)<(N:Int):=by omega
   clear h hm hcap hpop hjN
   cases hs:s j with
   |true=>
    have HS:=hid hs
    clear hs
    gi_wp2_with (refine⟨trivial,?_⟩;gi_at_call 63;refine(callsIn_wide.2 (HH.out _)).mono ?_;rintro e w1 ⟨rfl,hb1⟩;have HI1:=hid (HPOP.out.below HP.out hb1);have sb1:=(HI1.out.sb.cell HM.out.2).trans (by rw[HS.out]);clear hb1)
    gi_roundg (m+5*fal s N)
    case measure=>have:=HK.out.1;rw[List.length_append,HM.out.1]at this;simp at this;omega
    case rel=>exact⟨s,pre,wt',O,by rw[HM.out.1],by have:=HK.out;rw[List.length_append,HM.out.1]at this;simp at this;omega,HRI.out.old HS.out,HI1.out⟩
   |false=>
    have HS:=hid hs
    have HPL:=hid (HRI.out.pos HM.out.2 hs)
    have HFS:=hid (show fal (λk=>if k=j then true else s k) N+1=fal s N by have:=fal_set hs N;rwa [if_pos HM.out.2]at this)
    clear hs
    gi_wp2_with (refine⟨trivial,?_⟩;gi_at_call 63;refine(callsIn_wide.2 (HH.out _)).mono ?_;rintro e w1 ⟨rfl,hb1⟩;have HI1:=hid (HPOP.out.below HP.out hb1);have sb1:=(HI1.out.sb.cell HM.out.2).trans (by rw[HS.out]);have sf1:=HI1.out.sb.frozen j;have HI2:=hid (HI1.out.put HP.out j);obtain⟨fn,tmps,assign,body,hy,hR⟩:=HY.out pre j O _ HI2.out.j HPL.out;clear hb1)
    refine hR.mono ?_
    rintro e W3 ⟨rfl,O',hJ3,hO',hf3⟩
    have HI3:=hid (HI2.out.round HP.out hJ3 hO' hf3)
    clear g0 g1 hy hR sb1 sf1 hJ3 hO' hf3 hsl hcl
    have g0:=HI3.out.g0
    have g1:=HI3.out.g1
    have HC:=hid (HAF.out W3 HI3.out.b j HM.out.2)
    obtain⟨i0,hi0,hz0,hz1,hz2⟩:=info_parts info3
    have HLJ:=hid (HL.out j HM.out.2)
    gi_wp2_with (first|(refine⟨trivial,?_⟩;gi_at_call 27;refine(callsIn_wide.2 HC.out).mono ?_;rintro e w4 ⟨AA,ca,rfl,hI4,hb4⟩;have HI4:=hid (HI3.out.below HP.out hb4);have HX4:=hid hI4;clear hI4 hb4) |(gi_at_builtin;refine wpListIn_append_ints rfl _ _ 28 rfl (W.heap.size+1) i0 Tryz.underlying28 hi0 hz0 hz1 hz2 _ wt' rfl HI4.out.ow AA ca (A j) rfl (λhp=>by obtain⟨b,o,e,_,hc⟩:=HX4.out hp;exact⟨b,o,e,hc⟩) (by have:=HLJ.out;have:=HM.out.1;omega) HI4.out.z ?_;intro v' w5 ho hg hv;have HI5:=hid (HI4.out.app HP.out ho hg hv);clear ho hg hv))
    gi_roundg (wt'.length+(A j).length+5*fal (λk=>if k=j then true else s k) N)
    case measure=>have:=HK.out.1;have:=HLJ.out;have:=HFS.out;rw[List.length_append]at *;simp at *;omega
    case rel=>exact⟨_,pre++[j],wt'++A j,O',by rw[List.length_append],by have:=HK.out;have:=HLJ.out;have:=HFS.out;rw[List.length_append]at *;simp at *;omega,HRI.out.fresh HS.out (HA.out j HM.out.2),HI5.out⟩
set_option maxRecDepth 100000 in
set_option maxHeartbeats 1500000 in
theorem reach0_own (n0 gB fB N:Nat)(z:Int)(GA PA:Option Addr)(gc np cp:Nat)(hN:N<=20000)(hz:¬(0<=z/\z<(N:Int)))(w:World)(hg0:w.cell? ⟨gB,0,none⟩=some (.slice GA N gc))(hg1:w.cell? ⟨gB,1,none⟩=some (.slice PA np cp))(hf:w.cell? ⟨fB,0,none⟩=some (.int .i64 z))
  (hgl:gB<w.heap.size) (hfl:fB<w.heap.size) (hn0:n0<=w.heap.size) :
  SeqOwn Fence.wide 2 Tryz.prog 102 #[.pointer (some ⟨gB,0,none⟩),.pointer (some ⟨fB,0,none⟩)] (λx:Nat => #[Value.int .i64 (x:Int)]) (λk=>k<n0\/k=gB\/k=fB) (λxs=>xs=[]) 0 w:=by
 intro l J O0 W hW hJa hJo _ h0
 have a0:=(hW.cell (p:=⟨gB,0,none⟩) hgl).trans hg0
 have a1:=(hW.cell (p:=⟨gB,1,none⟩) hgl).trans hg1
 have f0:=(hW.cell (p:=⟨fB,0,none⟩) hfl).trans hf
 have f1:=((heap1 W (.cells (mkQ N λ_=>false) 4)).cell (p:=⟨fB,0,none⟩) (Nat.lt_of_lt_of_le hfl hW.size)).trans f0
 have HP:=hid (show ItP w W n0 gB fB J from⟨hJa,hJo,Nat.lt_of_lt_of_le hgl hW.size,Nat.lt_of_lt_of_le hfl hW.size,Nat.le_trans hn0 hW.size⟩)
 have HST:=hid (ItR.start (N:=N) HP.out h0 (hW.mono hn0) a0 a1 z)
 have HZ:=hid hz
 clear hg0 hg1 hf hJa hJo h0 hgl hfl hn0 hW hz
 refine callsIn_of_wp Tryz.func102 rfl trivial ?_ rfl
 simp only[Tryz.ntmps102,List.size_toArray,List.length_cons,List.length_nil,Nat.reduceAdd,Nat.reduceSub,Array.replicate_succ,Array.replicate_zero,List.push_toArray,List.append_toArray,List.nil_append,List.cons_append]
 have hmk:=λw'=>make104 N (by omega) w'
 gi_wp2
 clear hmk
 gi_loopg [5] 1 (λk v5 wr=>∃wt,k=wt.length/\(wt=[z]\/wt=[])/\ItR w W N n0 gB (.slice GA N gc) (.slice PA np cp) J (λ_=>false) [] wt O0 v5 wr)
 case atStart=>exact⟨[z],rfl,.inl rfl,by have:=HST.out;simpa using this⟩
 case round=>
  obtain⟨wt,hk,hw0,h⟩:=hrel
  have HK:=hid hk
  clear hk a0 a1 f0 f1
  rcases hw0 with hw0 |hw0
  ·subst hw0
   have h2:=h
   rw[show[z]=[]++[z]from rfl]at h2
   obtain⟨g,cap,hv,hcap,hcl,hpop⟩:=h2.last
   simp only[List.length_nil,Nat.zero_add]at hv
   have hcl:wr.cell? ⟨g,0,none⟩=some (.int .i64 z):=hcl
   have hcap:1<=cap:=hcap
   subst hv
   have hsl:∀w,(Instr.sliceAt 28 (.slice (some ⟨g,0,none⟩) 1 cap) none (some (.int .i64 0)) none).run Tryz.prog w = .ok (.slice (some ⟨g,0,none⟩) 0 cap) w:=λw=>sl28_to (some ⟨g,0,none⟩) 1 cap 0 (by omega) w
   have HH:=hid (λW'=>by have t:=ghas_any W' GA PA N gc np cp z;rw[decide_eq_false HZ.out]at t;exact t)
   have HPOP:=hid hpop
   have g0:=hpop.g0
   have g1:=hpop.g1
   clear h h2 hpop hcap
   gi_wp2_with (refine⟨trivial,?_⟩;gi_at_call 63;refine(callsIn_wide.2 (HH.out _)).mono ?_;rintro e w1 ⟨rfl,hb1⟩;have HI1:=hid (HPOP.out.below HP.out hb1);clear hb1)
   gi_roundg 0
   case measure=>have:=HK.out;simp at this;omega
   case rel=>exact⟨[],rfl,.inr rfl,HI1.out⟩
  ·subst hw0
   obtain⟨VA,vc,hv⟩:=own_slice h.ow
   have HE:=hid h.j
   clear h
   subst hv
   gi_wp2
   go_end0
   exact⟨⟨_,rfl⟩,[],O0,rfl,HE.out⟩
end Go.Proofs.YtedkgofehbecmaaGreatDoor
namespace Go.Proofs.YtedkgofehbecmaaGreatDoor
open Go.Lib (hid keeps compactUpTo compactUpTo_succ)
open Go Go.RowKit Go.Sort
theorem keep_neI {d:Array Int}{m:Nat}(h:keeps d (m+1)=true):d[m+1]! ≠ d[m]!:=by
 unfold keeps at h
 rcases of_decide_eq_true h with h1 |h1
 ·omega
 ·exact h1
theorem cu_upI (d:Array Int)(N:Nat)(hd:∀j,j+1<N->d[j]! <= d[j+1]!):∀m,m<=N->(compactUpTo d m).Pairwise (· < ·)/\∀x ∈ compactUpTo d m,x<=d[m-1]!:=by
 intro m
 induction m with
 |zero=>intro _;simp[compactUpTo]
 |succ m ih=>
  intro hm
  obtain⟨h1,h2⟩:=ih (by omega)
  rw[compactUpTo_succ]
  by_cases hk:keeps d m=true
  ·rw[if_pos hk]
   cases m with
   |zero=>simp[compactUpTo]
   |succ k=>
    have hne:=keep_neI hk
    have hle:=hd k (by omega)
    have hlt:d[k]! < d[k+1]!:=by
     exact Int.not_le.1 λh=>hne (Int.le_antisymm h hle)
    refine⟨List.pairwise_append.2 ⟨h1,List.pairwise_singleton _ _,λa ha b hb =>?_⟩,λx hx =>?_⟩
    ·rw[List.mem_singleton.1 hb]
     exact Int.lt_of_le_of_lt (h2 a ha) hlt
    ·rcases List.mem_append.1 hx with h |h
     ·exact Int.le_trans (h2 x h) hle
     ·rw[List.mem_singleton.1 h];exact Int.le_refl _
  ·rw[if_neg hk,List.append_nil]
   obtain⟨h0,he⟩:=keep_eqI hk
   exact⟨h1,λx hx=>by have:=h2 x hx;rw[Nat.add_sub_cancel,he];exact this⟩
theorem srtI_up (ss:List Int):(srtI ss).Pairwise λa b=>decide (a<=b)=true:=by
 refine List.pairwise_mergeSort (λa b c h1 h2 =>?_) (λa b =>?_) ss
 ·simp only[decide_eq_true_eq]at *;exact Int.le_trans h1 h2
 ·simp only[Bool.or_eq_true,decide_eq_true_eq];exact Int.le_total a b
theorem aft_up (x:Gn):(aftL x).Pairwise (· < ·):=by
 unfold aftL Lib.compact
 refine(cu_upI _ (srtI (x.nx++if x.rs = -1 then [] else [x.rs])).length (λj hj =>?_) _ (Nat.le_refl _)).1
 rw[get_ofI _ _ (by omega),get_ofI _ _ hj]
 exact of_decide_eq_true (List.pairwise_iff_getElem.1 (srtI_up _) j (j+1) (by omega) hj (by omega))
def rchI (xs:List Nat):List Int:=srtI (xs.map λx:Nat=>(x:Int))
theorem rchI_mem (xs:List Nat)(k:Int):k ∈ rchI xs↔∃j ∈ xs,k=(j:Int):=by
 unfold rchI srtI
 rw[List.mem_mergeSort,List.mem_map]
 exact⟨λ⟨j,h,e⟩=>⟨j,h,e.symm⟩,λ⟨j,h,e⟩=>⟨j,h,e.symm⟩⟩
theorem rchI_len (xs:List Nat):(rchI xs).length=xs.length:=by
 unfold rchI srtI
 rw[List.length_mergeSort,List.length_map]
theorem rchI_up {xs:List Nat}(h:xs.Nodup):(rchI xs).Pairwise (· < ·):=by
 have h1:(xs.map λx:Nat=>(x:Int)).Nodup:=List.pairwise_map.2 (h.imp λ{a b} hne e=>hne (by have e:(a:Int)=(b:Int):=e;omega))
 have h2:(rchI xs).Nodup:=(List.mergeSort_perm _ _).nodup_iff.2 h1
 have h3:=srtI_up (xs.map λx:Nat=>(x:Int))
 rw[List.pairwise_iff_getElem]
 intro i j hi hj hij
 have e1:=of_decide_eq_true (List.pairwise_iff_getElem.1 h3 i j hi hj hij)
 have e2:=List.pairwise_iff_getElem.1 h2 i j hi hj hij
 have e1:(rchI xs)[i]<=(rchI xs)[j]:=e1
 omega
end Go.Proofs.YtedkgofehbecmaaGreatDoor
namespace Go.Proofs.YtedkgofehbecmaaGreatDoor
open Go.Lib (hid keeps compactUpTo compactUpTo_succ)
open Go Go.RowKit Go.Shelf Go.Sort
open Tr (Bx heap1 bt Nds Ints BPost IPost rgB Ib)
attribute [local go_sem] Oper.semAt_some
set_option maxRecDepth 100000 in
theorem reached_any (w:World)(a b:Value)(z:Int):Calls Tryz.prog 67 #[.agg #[a,b],.int .i64 z] w λe w'=>e = .returned (.func (.func 102) #[] #[.pointer (some ⟨w.heap.size,0,none⟩),.pointer (some ⟨w.heap.size+1,0,none⟩)])/\w'=(w.alloc (.cells #[a,b] 30)).alloc (.cells #[.int .i64 z] 3):=by
 go_enter Tryz.func67,Tryz.ntmps67
 go_wp2
 go_ret
 simp
structure RcI (w:World) (B1 B2:Nat) (pre:List Nat) (O:Nat->Prop) (Z:World):Prop where
 ex:∃v,(∀k,O k↔k=B1\/v.ownBlock=some k)/\Bx Z B1 28 [v]/\Z.ownsRow B2 3 1 v (pre.map λx:Nat=>(x:Int)).length ((pre.map λx:Nat=>(x:Int)).map (Value.int .i64))
 b:Below w.heap.size w Z
theorem own_keepR {w w':World}{base:Nat}{v:Value}{n:Nat}{xs:List Value}(h:w.ownsRow base 3 1 v n xs)(hb:∀g,v.ownBlock=some g->g<w.heap.size->w'.heap[g]?=w.heap[g]?):w'.ownsRow base 3 1 v n xs:=by
 obtain⟨h1,h2⟩:=h
 refine⟨h1,?_⟩
 rcases h2 with h2 |⟨g,cap,cur,e,h3,h4,h5⟩
 ·exact .inl h2
 ·exact .inr ⟨g,cap,cur,e,h3,(hb g (by rw[e];rfl) (Array.getElem?_eq_some_iff.1 h4).1).trans h4,h5⟩
theorem own_keptR {w w':World}{base:Nat}{v:Value}{n:Nat}{xs:List Value}(h:w.ownsRow base 3 1 v n xs)(hc:Tr.CellsKept w w'):w'.ownsRow base 3 1 v n xs:=by
 obtain⟨h1,h2⟩:=h
 refine⟨h1,?_⟩
 rcases h2 with h2 |⟨g,cap,cur,e,h3,h4,h5⟩
 ·exact .inl h2
 ·exact .inr ⟨g,cap,cur,e,h3,hc _ _ h4 rfl,h5⟩
theorem RcI.keep {w Z Z':World}{B1 B2:Nat}{pre:List Nat}{O:Nat->Prop}{gB fB:Nat}(h:RcI w B1 B2 pre O Z)(hF:Fr (λk=>¬O k/\¬(k<w.heap.size\/k=gB\/k=fB)) Z Z'):RcI w B1 B2 pre O Z':=by
 obtain⟨⟨v,e,hx,ho⟩,hb⟩:=h
 refine⟨⟨v,e,(hF.block _ hx.lt (λh=>h.1 ((e _).2 (.inl rfl)))).trans hx,own_keepR ho λg hg hl=>hF.block g hl (λh=>h.1 ((e _).2 (.inr hg)))⟩,?_⟩
 exact hb.trans ⟨hF.os,hF.tape,hF.output,hF.size,λk hk=>hF.block k (Nat.lt_of_lt_of_le hk hb.size) (λh=>h.2 (.inl hk))⟩
theorem RcI.step {w Z Z':World}{B1 B2 x:Nat}{pre:List Nat}{O:Nat->Prop}{v v':Value}(e:∀k,O k↔k=B1\/v.ownBlock=some k)(hx:Bx Z B1 28 [v])(ho:Z.ownsRow B2 3 1 v (pre.map λx:Nat=>(x:Int)).length ((pre.map λx:Nat=>(x:Int)).map (Value.int .i64)))(hb:Below w.heap.size w Z)(h1:w.heap.size<=B1)(h2:B1<B2)
  (ho':Z'.ownsRow B2 3 1 v' ((pre.map λx:Nat=>(x:Int)).length+[(x:Int)].length) (((pre.map λx:Nat=>(x:Int))++[(x:Int)]).map (Value.int .i64))) (hg:(Z.alloc (.cells #[.int .i64 (x:Int)] 3)).grownBy Z' v.ownBlock) (hv:v'.ownBlock=v.ownBlock\/v'.ownBlock=some (Z.alloc (.cells #[.int .i64 (x:Int)] 3)).heap.size) :
  Bx Z' B1 28 [v]/\∃O',RcI w B1 B2 (pre++[x]) O' (Z'.setCell ⟨B1,0,none⟩ v')/\(∀k,O' k->O k\/Z.heap.size<=k)/\Fr O Z (Z'.setCell ⟨B1,0,none⟩ v'):=by
 have hlo:∀k,v.ownBlock=some k->B2<=k:=λk q=>(ho.lt k q).1
 have hF1:Fr (λk=>v.ownBlock=some k) (Z.alloc (.cells #[.int .i64 (x:Int)] 3)) Z':=fr_grown hg (λb hb=>hb)
 have hF2:Fr (λk=>v.ownBlock=some k) Z Z':=(Fr.of (heap1 Z _)).trans hF1
 have hx':Bx Z' B1 28 [v]:=(hF2.block _ hx.lt (λq=>by have:=hlo _ q;omega)).trans hx
 have hF3:Fr O Z (Z'.setCell ⟨B1,0,none⟩ v'):=(hF2.mono λk q=>(e k).2 (.inr q)).set ((e _).2 (.inl rfl)) v'
 have hlo':∀k,v'.ownBlock=some k->B2<=k:=λk q=>(ho'.lt k q).1
 refine⟨hx',λk=>k=B1\/v'.ownBlock=some k,⟨⟨v',λ_=>Iff.rfl,hx'.set_ 0 v',?_⟩,?_⟩,?_,hF3⟩
 ·rw[List.map_append,List.length_append]
  exact own_keepR ho' λg hg2 _=>heap_setCell_other Z' _ g _ (by have:=hlo' g hg2;show g≠B1;omega)
 ·exact hb.trans (hF3.below (λk q=>by rcases(e k).1 q with q |q;omega;have:=hlo k q;omega) hb.size)
 ·rintro k (q |q)
  ·exact .inl ((e k).2 (.inl q))
  ·rcases hv with hv |hv
   ·exact .inl ((e k).2 (.inr (hv.symm.trans q)))
   ·refine .inr ?_
    have q2:some (Z.alloc (.cells #[.int .i64 (x:Int)] 3)).heap.size=some k:=hv.symm.trans q
    rw[World.size_alloc]at q2
    have:Z.heap.size+1=k:=by injection q2
    omega
theorem sortI_any' {w:World}{base:Nat}{v:Value}{zs:List Int}(h:w.ownsRow base 3 1 v zs.length (zs.map (Value.int .i64)))(hs:zs.length<=20000)(hbs:base<=w.heap.size) :
  Calls Tryz.prog 65 #[v] w λe w'=>e = .returned (.tuple #[])/\w'.ownsRow base 3 1 v zs.length ((srtI zs).map (Value.int .i64))/\Below base w w':=by
 rcases h.2 with⟨h0,h1⟩ |⟨g',cap',cur,hv,hbase,hb,h1,h2,h3,h4⟩
 ·have hz:zs=[]:=List.length_eq_zero_iff.1 h1
  subst hz
  subst h0
  refine(Tryz.slices_Sort_int_none none 0 w).mono ?_
  rintro e w' ⟨rfl,rfl⟩
  exact⟨rfl,by have e:srtI []=[]:=List.mergeSort_nil;rw[e];exact h,(Below.refl _ _).mono hbs⟩
 ·subst hv
  refine(Tryz.slices_Sort_int g' 0 cap' zs w (holds_of_blockI hb (by simpa using h4)) (Array.getElem?_eq_some_iff.1 hb).1 (by omega)).mono ?_
  rintro e w' ⟨rfl,n,os,rfl⟩
  refine⟨rfl,ownsRow_sortedI (by simp) hbase hb h1 h2 h3,?_⟩
  exact(Below.refl base w).grown (grownBy_sortedI _) hbs (λk e=>by cases e;exact hbase)
set_option maxRecDepth 100000 in
set_option maxHeartbeats 1500000 in
theorem reach29_of (w:World)(a b:Value)(z:Int)(S:List Nat->Prop)(N:Nat)(hN:N<=20000)(hS:∀xs,S xs->xs.length<=N)
  (HSEQ:∀W,Below w.heap.size w W->W.heap.size=w.heap.size+1+1+1+1->W.cell? ⟨w.heap.size+1+1,0,none⟩=some a->W.cell? ⟨w.heap.size+1+1,1,none⟩=some b->W.cell? ⟨w.heap.size+1+1+1,0,none⟩=some (.int .i64 z) ->
   SeqOwn Fence.wide 2 Tryz.prog 102 #[.pointer (some ⟨w.heap.size+1+1,0,none⟩),.pointer (some ⟨w.heap.size+1+1+1,0,none⟩)] (λx:Nat => #[Value.int .i64 (x:Int)]) (λk=>k<w.heap.size\/k=w.heap.size+1+1\/k=w.heap.size+1+1+1) S N W) :
  Calls Tryz.prog 29 #[.agg #[a,b],.int .i64 z] w λe w'=>∃xs,S xs/\IsP (rchI xs) w e w':=by
 refine(callsIn_wide (n:=3)).1 ?_
 have HSQ:=hid HSEQ
 have HSS:=hid hS
 have HNN:=hid hN
 clear HSEQ hS hN
 refine callsIn_of_wp_marks Tryz.func29 rfl trivial ?_ rfl
 simp only[Tryz.ntmps29,List.size_toArray,List.length_cons,List.length_nil,Nat.reduceAdd,Nat.reduceSub,Array.replicate_succ,Array.replicate_zero,List.push_toArray,List.append_toArray,List.nil_append,List.cons_append]
 gi_wp2_with (refine⟨trivial,?_⟩;gi_at_call 67;refine(callsIn_wide.2 (reached_any _ _ _ _)).mono ?_;rintro e w' ⟨rfl,rfl⟩)
 have e0:∀(w':World) (o:Obj),(w'.alloc o).heap.size=w'.heap.size+1:=λw' o=>World.size_alloc w' o
 have hb1:Below w.heap.size w ((((w.alloc (.cells #[a,b] 30)).alloc (.cells #[.slice none 0 0] 28)).alloc (.cells #[a,b] 30)).alloc (.cells #[.int .i64 z] 3)):=((((Below.refl _ w).alloc (Nat.le_refl _) _).alloc (by simp) _).alloc (by simp;omega) _).alloc (by simp;omega) _
 have hx1:Bx ((((w.alloc (.cells #[a,b] 30)).alloc (.cells #[.slice none 0 0] 28)).alloc (.cells #[a,b] 30)).alloc (.cells #[.int .i64 z] 3)) (w.heap.size+1) 28 [.slice none 0 0]:=by
  have:=((Bx.new (w.alloc (.cells #[a,b] 30)) 28 [.slice none 0 0]).alloc (.cells #[a,b] 30)).alloc (.cells #[.int .i64 z] 3)
  rw[e0]at this;exact this
 have hx2:Bx ((((w.alloc (.cells #[a,b] 30)).alloc (.cells #[.slice none 0 0] 28)).alloc (.cells #[a,b] 30)).alloc (.cells #[.int .i64 z] 3)) (w.heap.size+1+1) 30 [a,b]:=by
  have:=(Bx.new ((w.alloc (.cells #[a,b] 30)).alloc (.cells #[.slice none 0 0] 28)) 30 [a,b]).alloc (.cells #[.int .i64 z] 3)
  rw[e0,e0]at this;exact this
 have hx3:Bx ((((w.alloc (.cells #[a,b] 30)).alloc (.cells #[.slice none 0 0] 28)).alloc (.cells #[a,b] 30)).alloc (.cells #[.int .i64 z] 3)) (w.heap.size+1+1+1) 3 [.int .i64 z]:=by
  have:=Bx.new (((w.alloc (.cells #[a,b] 30)).alloc (.cells #[.slice none 0 0] 28)).alloc (.cells #[a,b] 30)) 3 [.int .i64 z]
  rw[e0,e0,e0]at this;exact this
 have hz1:((((w.alloc (.cells #[a,b] 30)).alloc (.cells #[.slice none 0 0] 28)).alloc (.cells #[a,b] 30)).alloc (.cells #[.int .i64 z] 3)).heap.size=w.heap.size+1+1+1+1:=by rw[e0,e0,e0,e0]
 obtain⟨W1,hW1⟩:∃W1,(((w.alloc (.cells #[a,b] 30)).alloc (.cells #[.slice none 0 0] 28)).alloc (.cells #[a,b] 30)).alloc (.cells #[.int .i64 z] 3)=W1:=⟨_,rfl⟩
 rw[hW1]at hb1 hx1 hx2 hx3 hz1 |-
 have HB1:=hid hb1
 have HZ1:=hid hz1
 have HQ:=HSQ.out W1 hb1 hz1 ((hx2.cell 0).trans rfl) ((hx2.cell 1).trans rfl) ((hx3.cell 0).trans rfl)
 clear hW1
 refine wpIn_rangeFunc_ownR rfl (by omega) (gf:=102) (lb := #[.pointer (some ⟨w.heap.size+1+1,0,none⟩),.pointer (some ⟨w.heap.size+1+1+1,0,none⟩)]) rfl trivial (enters_of Tryz.func102 (by kernel_rfl) rfl) HQ (Below.refl _ _) (λ_=>rfl) (λk hk=>by omega)
  (RcI w (w.heap.size+1) (W1.heap.size+2)) (λpre O A B h hF=>h.keep hF)
  (λpre O Z h k hk=>by
   obtain⟨⟨v,e,hx,ho⟩,hb⟩:=h
   rcases(e k).1 hk with q |q
   ·have:=hx.lt;omega
   ·have:=ho.lt k q;omega)
  (O0:=λk=>k=w.heap.size+1)
  ⟨⟨.slice none 0 0,λk=>by simp[Value.ownBlock],hx1,World.ownsRow_nil _ _ _ _⟩,hb1⟩
  (λx => { tmps := #[.agg #[a,b],.int .i64 z,.pointer (some ⟨w.heap.size,0,none⟩),undef,.slice none 0 0,.pointer (some ⟨w.heap.size+1,0,none⟩),.int .i64 (x:Int),.agg #[a,b],.int .i64 z,.func (.func 102) #[] #[.pointer (some ⟨w.heap.size+1+1,0,none⟩),.pointer (some ⟨w.heap.size+1+1+1,0,none⟩)],.int .i64 (x:Int),undef,undef,undef,undef,undef,undef,undef],defers:=[] }) ?assign ?body ?done
 case assign=>
  intro l' x X K' hK
  gi_wp2
  exact hK
 case body=>
  rintro l' pre x O Z hI hpre hZ
  obtain⟨⟨v,e,hx,ho⟩,hb⟩:=hI
  obtain⟨pl,hpl⟩:∃pl,(pre.map λx:Nat=>(x:Int))=pl:=⟨_,rfl⟩
  have HPE:=hid hpl
  rw[hpl]at ho
  obtain⟨VA,vc,hv⟩:=own_slice ho
  subst hv
  have HNP:=hid (show pl.length=pre.length by rw[<- hpl,List.length_map])
  have HO:=hid (own_below ho (heap1 Z (.cells #[.int .i64 (x:Int)] 3)))
  have HST:=hid (λ(Z':World) (v':Value) (ho':Z'.ownsRow (W1.heap.size+2) 3 1 v' (pl.length+[(x:Int)].length) ((pl++[(x:Int)]).map (Value.int .i64))) (hg:(Z.alloc (.cells #[.int .i64 (x:Int)] 3)).grownBy Z' (Value.slice VA pl.length vc).ownBlock) (hv:v'.ownBlock=(Value.slice VA pl.length vc).ownBlock\/v'.ownBlock=some (Z.alloc (.cells #[.int .i64 (x:Int)] 3)).heap.size)=>RcI.step (pre:=pre) (x:=x) (Z':=Z') (v':=v') e hx (by rw[hpl];exact ho) hb (by omega) (by omega) (by rw[hpl];exact ho') (by exact hg) (by exact hv))
  have HPR:=hid (show pre.length<20000 from Nat.lt_of_lt_of_le hpre HNN.out)
  have HZZ:=hid (show W1.heap.size+2<=(Z.alloc (.cells #[.int .i64 (x:Int)] 3)).heap.size by rw[World.size_alloc];omega)
  have HNW:=hid (Bx.new Z 3 [.int .i64 (x:Int)])
  have c0:=(hx.cell 0).trans rfl
  obtain⟨i0,hi0,hz0,hz1',hz2⟩:=info_parts info3
  clear hx ho e hb hpre hx1 hx2 hx3 hb1 HQ hz1 hpl
  gi_wp2_with (gi_at_builtin;refine wpListIn_append_ints rfl _ _ 28 rfl (W1.heap.size+2) i0 Tryz.underlying28 hi0 hz0 hz1' hz2 _ pl rfl HO.out (some ⟨Z.heap.size,0,none⟩) 1 [(x:Int)] rfl ?h1 ?h2 HZZ.out ?h3)
  case h1=>exact λ_=>⟨_,_,rfl,λj hj=>by
   obtain rfl:j=0:=by simp at hj;exact hj
   exact(HNW.out.cell 0).trans rfl⟩
  case h2=>have:=HPR.out;have:=HNP.out;simp;omega
  case h3=>
   intro v' Z' ho' hg hv
   obtain⟨VA',vc',hv'⟩:=own_slice ho'
   have HRS:=hid (HST.out Z' v' (by rw[List.map_append];exact ho') hg (by rw[World.size_alloc];exact hv))
   have x0:=(HRS.out.1.cell 0).trans rfl
   have x1:=HRS.out.1.frozen 0
   clear ho' hg hv c0
   subst hv'
   gi_wp2
   exact HRS.out.2
 case done=>
  rintro D xs O Z hD hD2 hZ hS hI hK
  obtain⟨⟨v,e,hx,ho⟩,hb⟩:=hI
  obtain⟨pl,hpl⟩:∃pl,(xs.map λx:Nat=>(x:Int))=pl:=⟨_,rfl⟩
  rw[hpl]at ho
  have hpl4:pl.length<=20000:=by rw[<- hpl,List.length_map];exact Nat.le_trans (HSS.out xs hS) HNN.out
  have HRE:=hid (show rchI xs=srtI pl by unfold rchI;rw[hpl])
  obtain⟨VA,vc,hv⟩:=own_slice ho
  subst hv
  have HSO:=hid (sortI_any' ho hpl4 (by omega))
  have HX:=hid hx
  have HB:=hid hb
  have HK:=hid hK
  have HS:=hid hS
  have HZ:=hid (And.intro hZ (And.intro hD hD2))
  have HO:=hid ho
  have c0:=(hx.cell 0).trans rfl
  clear hx ho hb hK hS e hx1 hx2 hx3 hb1 HQ hpl hz1
  gi_wp2_with (refine⟨trivial,?_⟩;gi_at_call 65;refine(callsIn_wide.2 HSO.out).mono ?_;rintro e Z2 ⟨rfl,ho2,hb2⟩;have HO2:=hid ho2;have HB2:=hid hb2;have HX2:=hid (HX.out.below hb2 (by have:=HZ1.out;omega));clear c0;have c0:=(HX2.out.cell 0).trans rfl;clear ho2 hb2)
  refine Tr.leave_marks (lo:=w.heap.size+1+1+1+1) _ _ _ (show Tr.Marks (w.heap.size+1+1+1+1) Z2 [{ target :=.collected D,args := #[] }] (D+1) from⟨D,rfl,by have:=HZ.out;have:=HZ1.out;omega,by omega,(HB2.out.block D (by have:=HZ.out;omega)).trans HK.out,trivial⟩) λw' hb hc =>?_
  refine⟨.slice VA pl.length vc,?_,xs,HS.out,VA,vc,?_,?_,?_⟩
  ·simp[results,Tryz.f29,go_sem]
  ·rw[HRE.out];unfold srtI;rw[List.length_mergeSort]
  ·rw[HRE.out]
   exact own_intsP (base:=W1.heap.size+2) (by have:=own_keptR HO2.out hc;unfold srtI at *;rw[List.length_mergeSort];exact this)
  ·exact(HB.out.trans (HB2.out.mono (by have:=HZ1.out;omega))).trans (hb.mono (by omega))
theorem reach_in {w:World}(GA PA:Option Addr)(N gc np cp:Nat)(A:Nat->List Int)(hN:N<=20000){i:Nat}(hi:i<N)(hA:∀j,j<N->∀k ∈ A j,∃m:Nat,k=(m:Int)/\m<N)(hL:∀j,j<N->(A j).length<=4)
  (HAf:∀W,Below w.heap.size w W->∀j,j<N->Calls Tryz.prog 27 #[.agg #[.slice GA N gc,.slice PA np cp],.int .i64 (j:Int)] W (IsP (A j) W)) :
  Calls Tryz.prog 29 #[.agg #[.slice GA N gc,.slice PA np cp],.int .i64 (i:Int)] w λe w'=>∃xs,RchS A N i xs/\IsP (rchI xs) w e w':=
 reach29_of w _ _ _ (RchS A N i) N hN (λxs h=>h.len) λW hb hz h0 h1 h2=>
  reach1_own w.heap.size (w.heap.size+1+1) (w.heap.size+1+1+1) N i GA PA gc np cp A hN hi W h0 h1 h2 (by omega) (by omega) hb.size hA hL λW' q=>HAf W' (hb.trans q)
theorem reach_out {w:World}(GA PA:Option Addr)(N gc np cp:Nat)(hN:N<=20000){z:Int}(hz:¬(0<=z/\z<(N:Int))) :
  Calls Tryz.prog 29 #[.agg #[.slice GA N gc,.slice PA np cp],.int .i64 z] w (IsP [] w):=
 (reach29_of w _ _ _ (λxs=>xs=[]) 0 (by omega) (λxs h=>by rw[h];exact Nat.le_refl _) λW hb hs h0 h1 h2=>
  reach0_own w.heap.size (w.heap.size+1+1) (w.heap.size+1+1+1) N z GA PA gc np cp hN hz W h0 h1 h2 (by omega) (by omega) hb.size).mono λe w' h=>by
   obtain⟨xs,rfl,h⟩:=h
   have e0:rchI []=[]:=List.mergeSort_nil
   rw[e0]at h
   exact h
end Go.Proofs.YtedkgofehbecmaaGreatDoor
