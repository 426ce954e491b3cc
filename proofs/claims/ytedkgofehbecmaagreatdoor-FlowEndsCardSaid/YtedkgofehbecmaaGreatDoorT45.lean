/- PROVED here: parts Ge Gf Gg of the claim. No condition but those in each theorem's own head. -/
import Derived.Test.YtedkgofehbecmaaGreatDoorT42
namespace Go.Proofs.YtedkgofehbecmaaGreatDoor
open Go
section
open Tr (nth stK)
inductive La (l:List Tr.Nd) (R:Nat->Bool) (sp:Nat->Int) (F:List Gn) (ex:Int):Bool->Nat->List Int->Int->Int->Int->Prop
 |nil (fo ha:Int):La l R sp F ex false 0 [] fo ha fo
 |cons (m:Nat) (ks:List Int) (fo ha b1 b2:Int) (h1:La l R sp F ex false 0 ks fo ha b1) (h2:La l R sp F ex true m [] b1 ha b2):La l R sp F ex false 0 ((m:Int) :: ks) fo ha b2
 |iff_ (p a c d:Nat) (fo ha b1 b2:Int) (x:Gn) (hk:(nth l p).kd=11) (hks:(nth l p).ks=[(a:Int),(c:Int),(d:Int)]) (h1:La l R sp F ex false 0 (nth l c).ks fo ha b1) (h2:La l R sp F ex false 0 (nth l d).ks fo ha b2) (hx:F[(sp p).toNat]?=some x) (hn:x.nx=[b1,b2]) (hr:x.rs=if R p then ha else -1):La l R sp F ex true p [] fo ha (sp p)
 |whl (p a c:Nat) (fo ha b1:Int) (x:Gn) (hk:(nth l p).kd=12) (hks:(nth l p).ks=[(a:Int),(c:Int)]) (h1:La l R sp F ex false 0 (nth l c).ks (sp p) ha b1) (hx:F[(sp p).toNat]?=some x) (hn:x.nx=[b1,fo]) (hr:x.rs=if R p then ha else -1):La l R sp F ex true p [] fo ha (sp p)
 |try_ (p c d:Nat) (fo ha b1 b2:Int) (x:Gn) (hk:(nth l p).kd=16) (hks:(nth l p).ks=[(c:Int),(d:Int)]) (h1:La l R sp F ex false 0 (nth l c).ks fo (sp p) b1) (h2:La l R sp F ex false 0 (nth l d).ks fo ha b2) (hx:F[(sp p).toNat]?=some x) (hn:x.nx=[b2]) (hr:x.rs=if R p then ha else -1):La l R sp F ex true p [] fo ha b1
 |oth (p:Nat) (fo ha:Int) (x:Gn) (h11:(nth l p).kd≠11) (h12:(nth l p).kd≠12) (h16:(nth l p).kd≠16) (hx:F[(sp p).toNat]?=some x) (hn:x.nx=if (nth l p).kd=14 then [ex] else if (nth l p).kd=15 then [] else [fo]) (hr:x.rs=if R p then ha else -1):La l R sp F ex true p [] fo ha (sp p)
variable {l:List Tr.Nd} {b:Nat->Nat} {R:Nat->Bool} {sp:Nat->Int} {pr:Int} {a0 z0 lo hi:Nat}
theorem Nu.mono (h:Nu l sp a0 z0 lo hi){a z:Nat}(h1:a0<=a)(h2:z<=z0):Nu l sp a z lo hi:=
 ⟨λq k1 k2 k3=>h.num q (by omega) (by omega) k3,λq q' k1 k2 k3 j1 j2 j3=>h.inj q q' (by omega) (by omega) k3 (by omega) (by omega) j3,by have:=h.len;omega⟩
theorem Inv.sub {S:Nat->Prop}{G:List Gn}(h:Inv l R sp pr a0 z0 lo hi S G){a z:Nat}(h1:a0<=a)(h2:z<=z0):Inv l R sp pr a z lo hi S G:=λq k1 k2 k3=>h q (by omega) (by omega) k3
theorem st_oth (h:RtN l b)(hn:Nu l sp a0 z0 lo hi){ex:Int}(hex:Tg lo hi ex){f p:Nat}{S:Nat->Prop}{G:List Gn}{fo ha:Int}(hpf:p<f)(hap:a0<=b p)(hpz:p<z0)(hst:stmB (nth l p).kd=true)(hI:Inv l R sp pr a0 z0 lo hi S G)(hf:Tg lo hi fo)(hh:Tg lo hi ha):Oth l sp (b p) (p+1) G (stG l R sp f G p fo ha ex).1:=
 ((sbg_of (R:=R) (pr:=pr) h (hn.mono hap (show p+1<=z0 from hpz)) hex f).1 p S G fo ha hpf (Nat.le_refl _) (Nat.lt_succ_self p) hst (hI.sub hap hpz) hf hh).2.1
theorem bl_oth (h:RtN l b)(hn:Nu l sp a0 z0 lo hi){ex:Int}(hex:Tg lo hi ex){f p:Nat}{S:Nat->Prop}{G:List Gn}{fo ha:Int}(hpf:p<=f)(hap:a0<=b p)(hpz:p<z0)(h6:(nth l p).kd=6)(hI:Inv l R sp pr a0 z0 lo hi S G)(hf:Tg lo hi fo)(hh:Tg lo hi ha):Oth l sp (b p) (p+1) G (blG l R sp f G p fo ha ex).1:=
 ((sbg_of (R:=R) (pr:=pr) h (hn.mono hap (show p+1<=z0 from hpz)) hex f).2 p S G fo ha hpf (Nat.le_refl _) (Nat.lt_succ_self p) h6 (hI.sub hap hpz) hf hh).2.1
def Agr (l:List Tr.Nd)(sp:Nat->Int)(a z:Nat)(F G:List Gn):Prop:=∀q,a<=q->q<z->stmB (nth l q).kd=true->F[(sp q).toNat]?=G[(sp q).toNat]?
theorem Agr.sub {a z a' z':Nat}{F G:List Gn}(h:Agr l sp a z F G)(h1:a<=a')(h2:z'<=z):Agr l sp a' z' F G:=λq k1 k2 k3=>h q (by omega) (by omega) k3
theorem Agr.oth (hn:Nu l sp a0 z0 lo hi){a z c d:Nat}{F G G':List Gn}(h:Agr l sp a z F G')(ho:Oth l sp c d G G')(h1:a0<=a)(h2:z<=z0)(h3:a0<=c)(h4:d<=z0)(hd:z<=c\/d<=a):Agr l sp a z F G:=λq k1 k2 k3=>(h q k1 k2 k3).trans (ho _ λq' j1 j2 j3 e=>by
 obtain⟨i,e1,_⟩:=hn.num q (by omega) (by omega) k3
 obtain⟨j,e2,_⟩:=hn.num q' (by omega) (by omega) j3
 have:=hn.inj q q' (by omega) (by omega) k3 (by omega) (by omega) j3 (by rw[e1,e2]at e |-;simp at e;rw[e])
 omega)
theorem ch_mem (h:RtN l b):∀(ks:List Int) (e s:Nat),s<=l.length->Ch b ks e s->(∀k ∈ ks,∃m:Nat,k=(m:Int)/\m<s)->∀k ∈ ks,∀m:Nat,k=(m:Int)->e<=b m
 | [],e,s,_,hc,_,k,hk,_,_=>absurd hk List.not_mem_nil
 |k :: ks,e,s,hs,⟨m,h1,h2,h3⟩,hk,k',hk',m',e'=>by
  obtain⟨m2,e1,e2⟩:=hk k (by simp)
  have hb:=h.st.le m (by omega)
  rcases List.mem_cons.1 hk' with e3 |hk'
  ·obtain rfl:m=m':=by omega
   omega
  ·have:=ch_mem h ks (m+1) s hs h3 (λk hk'=>hk k (by simp[hk'])) k' hk' m' e'
   omega
def LaS (l:List Tr.Nd)(b:Nat->Nat)(R:Nat->Bool)(sp:Nat->Int)(pr:Int)(a0 z0 lo hi:Nat)(ex:Int)(F:List Gn)(f:Nat):Prop:=∀(p:Nat) (S:Nat->Prop) (G:List Gn) (fo ha:Int),p<f->a0<=b p->p<z0->stmB (nth l p).kd=true->Inv l R sp pr a0 z0 lo hi S G->Tg lo hi fo->Tg lo hi ha->Agr l sp (b p) (p+1) F (stG l R sp f G p fo ha ex).1->La l R sp F ex true p [] fo ha (stG l R sp f G p fo ha ex).2
def LaB (l:List Tr.Nd)(b:Nat->Nat)(R:Nat->Bool)(sp:Nat->Int)(pr:Int)(a0 z0 lo hi:Nat)(ex:Int)(F:List Gn)(f:Nat):Prop:=∀(p:Nat) (S:Nat->Prop) (G:List Gn) (fo ha:Int),p<=f->a0<=b p->p<z0->(nth l p).kd=6->Inv l R sp pr a0 z0 lo hi S G->Tg lo hi fo->Tg lo hi ha->Agr l sp (b p) (p+1) F (blG l R sp f G p fo ha ex).1->La l R sp F ex false 0 (nth l p).ks fo ha (blG l R sp f G p fo ha ex).2
theorem bk_snoc (st:List Gn->Nat->Int->List Gn × Int)(k:Int)(ks:List Int)(G:List Gn)(fo:Int):bkG st (k :: ks).reverse G fo=st (bkG st ks.reverse G fo).1 k.toNat (bkG st ks.reverse G fo).2:=by
 rw[List.reverse_cons,bkG_app];rfl
theorem la_list (h:RtN l b)(hn:Nu l sp a0 z0 lo hi){ex:Int}(hex:Tg lo hi ex){F:List Gn}{f:Nat}(hl:LaS l b R sp pr a0 z0 lo hi ex F f){ha:Int}(hh:Tg lo hi ha):∀(ks:List Int) (e s:Nat) (S:Nat->Prop) (G:List Gn) (fo:Int),Ch b ks e s->(∀k ∈ ks,∃m:Nat,k=(m:Int)/\m<s/\stmB (nth l m).kd=true)->a0<=e->s<=z0->s<=f->Inv l R sp pr a0 z0 lo hi S G->Tg lo hi fo ->
  Agr l sp e s F (bkG (λG p fo=>stG l R sp f G p fo ha ex) ks.reverse G fo).1 ->
  La l R sp F ex false 0 ks fo ha (bkG (λG p fo=>stG l R sp f G p fo ha ex) ks.reverse G fo).2/\Tg lo hi (bkG (λG p fo=>stG l R sp f G p fo ha ex) ks.reverse G fo).2/\∃S',Inv l R sp pr a0 z0 lo hi S' (bkG (λG p fo=>stG l R sp f G p fo ha ex) ks.reverse G fo).1
 | [],e,s,S,G,fo,_,_,_,_,_,hI,hf,_=>⟨.nil fo ha,hf,S,hI⟩
 |k :: ks,e,s,S,G,fo,⟨m,hm,hbm,hc⟩,hk,hae,hsz,hsf,hI,hf,hA=>by
  subst hm
  obtain⟨m',e1,hms,hst⟩:=hk (m:Int) (by simp)
  obtain rfl:m=m':=by omega
  rw[bk_snoc,Int.toNat_natCast]at hA |-
  have hbml:=h.st.le m (by have:=hn.len;omega)
  obtain⟨r,hr⟩:∃r,bkG (λG p fo=>stG l R sp f G p fo ha ex) ks.reverse G fo=r:=⟨_,rfl⟩
  have hle:m+1<=s:=hms
  have hih:=la_list h hn hex hl hh ks (m+1) s S G fo hc (λk hk'=>hk k (by simp[hk'])) (by omega) hsz hsf hI hf
  rw[hr]at hA hih |-
  obtain⟨c1,_,c3⟩:=bk_good (b:=b) (R:=R) (pr:=pr) (a0:=a0) (z0:=z0) (l:=l) (sp:=sp) (lo:=lo) (hi:=hi) (st:=λG p fo=>stG l R sp f G p fo ha ex) ks.reverse S G fo (λk' hk'=>by
   obtain⟨m2,e2,e3,e4⟩:=hk k' (by simp at hk';simp[hk'])
   have hab:m+1<=b m2:=ch_mem h ks (m+1) s (by have:=hn.len;omega) hc (λk hk2=>by obtain⟨x,y,z,_⟩:=hk k (by simp[hk2]);exact⟨x,y,z⟩) k' (by simpa using hk') m2 e2
   exact⟨m2,e2,λS G fo hI hf=>(sbg_of (R:=R) (pr:=pr) h hn hex f).1 m2 S G fo ha (by omega) (by omega) (by omega) e4 hI hf hh⟩) hI hf
  rw[hr]at c1 c3
  have ho:=st_oth (f:=f) (fo:=r.2) (ha:=ha) h hn hex (by omega) (show a0<=b m by omega) (by omega) hst c1 c3 hh
  obtain⟨d1,d2,d3⟩:=hih ((hA.sub (by omega) (Nat.le_refl _)).oth hn ho (by omega) hsz (by omega) (by omega) (.inr (Nat.le_refl _)))
  have hS:=hl m _ r.1 r.2 ha (by omega) (by omega) (by omega) hst c1 c3 hh (hA.sub (by omega) hle)
  have hg:=(sbg_of (R:=R) (pr:=pr) h hn hex f).1 m _ r.1 r.2 ha (by omega) (by omega) (by omega) hst c1 c3 hh
  exact⟨.cons m ks fo ha r.2 _ d1 hS,hg.2.2,_,hg.1⟩
end
end Go.Proofs.YtedkgofehbecmaaGreatDoor
namespace Go.Proofs.YtedkgofehbecmaaGreatDoor
open Go
section
open Tr (nth stK)
variable {l:List Tr.Nd} {b:Nat->Nat} {R:Nat->Bool} {sp:Nat->Int} {pr:Int} {a0 z0 lo hi:Nat}
theorem lab_of (h:RtN l b)(hn:Nu l sp a0 z0 lo hi){ex:Int}(hex:Tg lo hi ex){F:List Gn}{f:Nat}(hl:LaS l b R sp pr a0 z0 lo hi ex F f):LaB l b R sp pr a0 z0 lo hi ex F f:=λp S G fo ha hpf hap hpz h6 hI hf hh hA=>by
 have hpl:p<l.length:=Nat.lt_of_lt_of_le hpz hn.len
 have hc:=ch_of _ _ _ (fl_st h hpl)
 rw[List.reverse_reverse]at hc
 exact(la_list h hn hex hl hh (nth l p).ks (b p) p S G fo hc (λk hk=>by obtain⟨m,e1,e2,_,e4⟩:=fl_blk h hpl h6 k hk;exact⟨m,e1,e2,e4⟩) hap (by omega) hpf hI hf (hA.sub (Nat.le_refl _) (by omega))).1
theorem way_at {G:List Gn}{i:Nat}{x:Gn}(h:G[i]?=some x)(nx:List Int)(rs:Option Int):(wayG G i nx rs)[i]?=some ⟨x.kd,x.pl,x.pr,nx,rs.getD x.rs⟩:=by
 obtain⟨hlt,_⟩:=List.getElem?_eq_some_iff.1 h
 unfold wayG;rw[h];exact List.getElem?_set_self hlt
theorem las_of (h:RtN l b)(hn:Nu l sp a0 z0 lo hi){ex:Int}(hex:Tg lo hi ex){F:List Gn}{f:Nat}(hlb:LaB l b R sp pr a0 z0 lo hi ex F f):LaS l b R sp pr a0 z0 lo hi ex F (f+1):=λp S G fo ha hpf hap hpz hst hI hf hh hA=>by
 have hpl:p<l.length:=Nat.lt_of_lt_of_le hpz hn.len
 have hbp:=h.st.le p hpl
 have hself:=hn.num p (by omega) hpz hst
 obtain⟨bl,hbl⟩:∃bl:List Gn->Int->Int->Int->List Gn × Int,(λG k fo ha=>bkG (λG p fo=>stG l R sp f G p fo ha ex) (nth l k.toNat).ks.reverse G fo)=bl:=⟨_,rfl⟩
 have hblG:∀(c:Nat) (G:List Gn) (fo ha:Int),bl G (c:Int) fo ha=blG l R sp f G c fo ha ex:=λc G fo ha=>by rw[<- hbl];unfold blG;dsimp only;rw[Int.toNat_natCast]
 have hch:=ch_of _ _ _ (fl_st h hpl)
 rw[List.reverse_reverse]at hch
 have hB:∀(c:Nat) (S:Nat->Prop) (G:List Gn) (fo ha:Int),(c:Int) ∈ (nth l p).ks->(nth l c).kd=6->Inv l R sp pr a0 z0 lo hi S G->Tg lo hi fo->Tg lo hi ha ->
   (∃S',Inv l R sp pr a0 z0 lo hi S' (bl G (c:Int) fo ha).1)/\Tg lo hi (bl G (c:Int) fo ha).2/\Oth l sp (b c) (c+1) G (bl G (c:Int) fo ha).1/\(Agr l sp (b c) (c+1) F (bl G (c:Int) fo ha).1->La l R sp F ex false 0 (nth l c).ks fo ha (bl G (c:Int) fo ha).2):=λc S G fo ha hc h6 hI hf hh=>by
  obtain⟨m,e1,e2,e3,_⟩:=fl_mem h hpl hc
  obtain rfl:c=m:=by omega
  rw[hblG]
  have hg:=(sbg_of (R:=R) (pr:=pr) h hn hex f).2 c S G fo ha (by omega) (by omega) (by omega) h6 hI hf hh
  exact⟨⟨_,hg.1⟩,hg.2.2,bl_oth h hn hex (by omega) (by omega) (by omega) h6 hI hf hh,hlb c S G fo ha (by omega) (by omega) (by omega) h6 hI hf hh⟩
 have hN:∀(S:Nat->Prop) (G:List Gn) (nx:List Int),Inv l R sp pr a0 z0 lo hi S G->∃x,(wayG G (sp p).toNat nx (if R p then some ha else none))[(sp p).toNat]?=some x/\x.nx=nx/\x.rs=if R p then ha else -1:=λS G nx hI=>by
  obtain⟨x,e1,e2,_⟩:=hI p (by omega) hpz hst
  refine⟨_,way_at e1 nx _,rfl,?_⟩
  cases hr:R p with
  |true=>rfl
  |false=>exact e2.rs hr
 have hO:∀(S:Nat->Prop) (G:List Gn) (nx:List Int),Inv l R sp pr a0 z0 lo hi S G->Oth l sp p (p+1) G (wayG G (sp p).toNat nx (if R p then some ha else none)):=λS G nx hI i hi=>by
  unfold wayG
  cases hG:G[(sp p).toNat]? with
  |none=>rfl
  |some x=>exact List.getElem?_set_ne λe=>hi p (Nat.le_refl _) (Nat.lt_succ_self p) hst e.symm
 unfold stG at hA |-
 rw[hbl]at hA |-
 rcases fl_stk h hpl hst with⟨a,c,d,hks,hk,ha',hc,hd⟩ |⟨a,c,hks,hk,ha',hc⟩ |⟨c,d,hks,hk,hc,hd⟩ |⟨h11,h12,h16,hks⟩
 ·have hS:swG bl (nth l p) (sp p) G fo ha ex=((bl (bl G (c:Int) fo ha).1 (d:Int) fo ha).1,sp p,[(bl G (c:Int) fo ha).2,(bl (bl G (c:Int) fo ha).1 (d:Int) fo ha).2]):=by
   unfold swG;rw[if_pos hk,hks];rfl
  rw[hS]at hA |-
  obtain⟨⟨S1,a1⟩,a2,a3,a4⟩:=hB c S G fo ha (by rw[hks];simp) hc hI hf hh
  obtain⟨⟨S2,b1⟩,b2,b3,b4⟩:=hB d _ _ fo ha (by rw[hks];simp) hd a1 hf hh
  obtain⟨x,x1,x2,x3⟩:=hN S2 _ [(bl G (c:Int) fo ha).2,(bl (bl G (c:Int) fo ha).1 (d:Int) fo ha).2] b1
  rw[hks]at hch
  obtain⟨m1,e1,f1,m2,e2,f2,m3,e3,f3,f4⟩:=hch
  obtain rfl:c=m2:=by omega
  obtain rfl:d=m3:=by omega
  have f4:d+1=p:=f4
  have hcl:=h.st.le c (by have:=h.st.le d (by omega);omega)
  have hdl:=h.st.le d (by omega)
  have hal:=h.st.le m1 (by omega)
  have hA0:=(hA.sub (Nat.le_refl _) (Nat.le_succ p)).oth hn (hO S2 _ _ b1) hap (by omega) (by omega) (by omega) (.inl (Nat.le_refl _))
  have hL2:=b4 (hA0.sub (by omega) (by omega))
  have hL1:=a4 (((hA0.sub (by omega) (by omega:c+1<=p)).oth hn b3 (by omega) (by omega) (by omega) (by omega) (.inl (by omega))))
  exact .iff_ p a c d fo ha _ _ x hk hks hL1 hL2 ((hA p hbp (Nat.lt_succ_self p) hst).trans x1) x2 x3
 ·have hS:swG bl (nth l p) (sp p) G fo ha ex=((bl G (c:Int) (sp p) ha).1,sp p,[(bl G (c:Int) (sp p) ha).2,fo]):=by
   unfold swG;rw[if_neg (by rw[hk];decide),if_pos hk,hks];rfl
  rw[hS]at hA |-
  obtain⟨⟨S1,a1⟩,a2,a3,a4⟩:=hB c S G (sp p) ha (by rw[hks];simp) hc hI hself hh
  obtain⟨x,x1,x2,x3⟩:=hN S1 _ [(bl G (c:Int) (sp p) ha).2,fo] a1
  rw[hks]at hch
  obtain⟨m1,e1,f1,m2,e2,f2,f4⟩:=hch
  obtain rfl:c=m2:=by omega
  have f4:c+1=p:=f4
  have hal:=h.st.le m1 (by have:=h.st.le c (by omega);omega)
  have hcl:=h.st.le c (by omega)
  have hA0:=(hA.sub (Nat.le_refl _) (Nat.le_succ p)).oth hn (hO S1 _ _ a1) hap (by omega) (by omega) (by omega) (.inl (Nat.le_refl _))
  have hL1:=a4 (hA0.sub (by omega) (by omega))
  exact .whl p a c fo ha _ x hk hks hL1 ((hA p hbp (Nat.lt_succ_self p) hst).trans x1) x2 x3
 ·have hS:swG bl (nth l p) (sp p) G fo ha ex=((bl (bl G (c:Int) fo (sp p)).1 (d:Int) fo ha).1,(bl G (c:Int) fo (sp p)).2,[(bl (bl G (c:Int) fo (sp p)).1 (d:Int) fo ha).2]):=by
   unfold swG;rw[if_neg (by rw[hk];decide),if_neg (by rw[hk];decide),if_pos hk,hks];rfl
  rw[hS]at hA |-
  obtain⟨⟨S1,a1⟩,a2,a3,a4⟩:=hB c S G fo (sp p) (by rw[hks];simp) hc hI hf hself
  obtain⟨⟨S2,b1⟩,b2,b3,b4⟩:=hB d _ _ fo ha (by rw[hks];simp) hd a1 hf hh
  obtain⟨x,x1,x2,x3⟩:=hN S2 _ [(bl (bl G (c:Int) fo (sp p)).1 (d:Int) fo ha).2] b1
  rw[hks]at hch
  obtain⟨m2,e2,f2,m3,e3,f3,f4⟩:=hch
  obtain rfl:c=m2:=by omega
  obtain rfl:d=m3:=by omega
  have f4:d+1=p:=f4
  have hdl:=h.st.le d (by omega)
  have hcl:=h.st.le c (by omega)
  have hA0:=(hA.sub (Nat.le_refl _) (Nat.le_succ p)).oth hn (hO S2 _ _ b1) hap (by omega) (by omega) (by omega) (.inl (Nat.le_refl _))
  have hL2:=b4 (hA0.sub (by omega) (by omega))
  have hL1:=a4 (((hA0.sub (by omega) (by omega:c+1<=p)).oth hn b3 (by omega) (by omega) (by omega) (by omega) (.inl (by omega))))
  exact .try_ p c d fo ha _ _ x hk hks hL1 hL2 ((hA p hbp (Nat.lt_succ_self p) hst).trans x1) x2 x3
 ·have hS:swG bl (nth l p) (sp p) G fo ha ex=(G,sp p,if (nth l p).kd=14 then [ex] else if (nth l p).kd=15 then [] else [fo]):=by
   unfold swG
   rw[if_neg h11,if_neg h12,if_neg h16]
   split
   ·rfl
   split<;>rfl
  rw[hS]at hA |-
  obtain⟨x,x1,x2,x3⟩:=hN S _ (if (nth l p).kd=14 then [ex] else if (nth l p).kd=15 then [] else [fo]) hI
  exact .oth p fo ha x h11 h12 h16 ((hA p hbp (Nat.lt_succ_self p) hst).trans x1) x2 x3
theorem la_of (h:RtN l b)(hn:Nu l sp a0 z0 lo hi){ex:Int}(hex:Tg lo hi ex){F:List Gn}:∀f,LaS l b R sp pr a0 z0 lo hi ex F f/\LaB l b R sp pr a0 z0 lo hi ex F f
 |0=>by
  have h0:LaS l b R sp pr a0 z0 lo hi ex F 0:=λp S G fo ha hpf=>absurd hpf (Nat.not_lt_zero _)
  exact⟨h0,lab_of (F:=F) h hn hex h0⟩
 |f+1=>by
  have h1:=las_of (F:=F) h hn hex (la_of (F:=F) h hn hex f).2
  exact⟨h1,lab_of (F:=F) h hn hex h1⟩
end
end Go.Proofs.YtedkgofehbecmaaGreatDoor
namespace Go.Proofs.YtedkgofehbecmaaGreatDoor
open Go
section
open Tr (nth stK)
variable {l:List Tr.Nd} {b:Nat->Nat} {R:Nat->Bool} {sp:Nat->Int} {F:List Gn} {ex:Int}
inductive EndR (F:List Gn):Int->Prop
 |here (j:Nat) (x:Gn) (h:F[j]?=some x) (hk:x.kd=2\/x.kd=3):EndR F (j:Int)
 |step (j:Nat) (x:Gn) (k:Int) (h:F[j]?=some x) (hk:k ∈ x.nx\/(k=x.rs/\x.rs ≠ -1)) (hr:EndR F k):EndR F (j:Int)
theorem EndR.nat {k:Int}(h:EndR F k):∃j:Nat,k=(j:Int):=by
 cases h with
 |here j=>exact⟨j,rfl⟩
 |step j=>exact⟨j,rfl⟩
theorem fl_kd6 (h:RtN l b){c:Nat}(hc:c<l.length)(h6:(nth l c).kd=6):Ch b (nth l c).ks (b c) c/\(∀k ∈ (nth l c).ks,∃m:Nat,k=(m:Int)/\m<c/\stmB (nth l m).kd=true)/\∀q,b c<=q->q<=c->stmB (nth l q).kd=true->q<c:=by
 have hch:=ch_of _ _ _ (fl_st h hc)
 rw[List.reverse_reverse]at hch
 refine⟨hch,λk hk=>by obtain⟨m,e1,e2,_,e4⟩:=fl_blk h hc h6 k hk;exact⟨m,e1,e2,e4⟩,λq _ h2 h3 =>?_⟩
 have:q≠c:=λe=>by rw[e,h6]at h3;exact absurd h3 (by decide)
 omega
theorem la_end (h:RtN l b)(hsp:∀q,q<l.length->stmB (nth l q).kd=true->0<=sp q)(hT:∀q,q<l.length->(nth l q).kd=15->R q=true)(hex:EndR F ex){tr:Bool}{p:Nat}{ks:List Int}{fo ha bg:Int}(hL:La l R sp F ex tr p ks fo ha bg) :
  EndR F fo->EndR F ha->(tr=true->p<l.length->stmB (nth l p).kd=true->EndR F bg/\∀q,b p<=q->q<=p->stmB (nth l q).kd=true->EndR F (sp q)) /\
   (tr=false->∀e s,s<=l.length->Ch b ks e s->(∀k ∈ ks,∃m:Nat,k=(m:Int)/\m<s/\stmB (nth l m).kd=true)->EndR F bg/\∀q,e<=q->q<s->stmB (nth l q).kd=true->EndR F (sp q)):=by
 induction hL with
 |nil fo ha=>
  intro hf hh
  refine⟨λe=>(Bool.false_ne_true e).elim,λ_ e s hs hc hk=>⟨hf,λq h1 h2 =>?_⟩⟩
  unfold Ch at hc;omega
 |cons m ks fo ha b1 b2 h1 h2 ih1 ih2=>
  intro hf hh
  refine⟨λe=>(Bool.false_ne_true e).elim,λ_ e s hs hc hk =>?_⟩
  obtain⟨m',e1,hbm,hc⟩:=hc
  obtain rfl:m=m':=by omega
  obtain⟨m'',e2,hms,hst⟩:=hk (m:Int) (by simp)
  obtain rfl:m=m'':=by omega
  obtain⟨a1,a2⟩:=(ih1 hf hh).2 rfl (m+1) s hs hc λk hk'=>hk k (by simp[hk'])
  obtain⟨c1,c2⟩:=(ih2 a1 hh).1 rfl (by omega) hst
  refine⟨c1,λq k1 k2 k3 =>?_⟩
  by_cases hq:q<=m
  ·exact c2 q (by omega) hq k3
  ·exact a2 q (by omega) k2 k3
 |iff_ p a c d fo ha b1 b2 x hk hks h1 h2 hx hn hr ih1 ih2=>
  intro hf hh
  refine⟨λ_ hp hst =>?_,λe=>(Bool.false_ne_true e.symm).elim⟩
  obtain⟨j,hj⟩:∃j:Nat,sp p=(j:Int):=⟨(sp p).toNat,by have:=hsp p hp hst;omega⟩
  rw[hj,Int.toNat_natCast]at hx
  rcases fl_stk h hp hst with⟨a',c',d',hks',hk',ha',hc,hd⟩ |⟨_,_,_,hk',_,_⟩ |⟨_,_,_,hk',_,_⟩ |⟨h11,_,_,_⟩
  ·rw[hks]at hks'
   simp at hks'
   obtain⟨e1,e2,e3⟩:=hks'
   obtain rfl:a=a':=by omega
   obtain rfl:c=c':=by omega
   obtain rfl:d=d':=by omega
   obtain⟨mc,e1,hcp,_,_⟩:=fl_mem h hp (k:=(c:Int)) (by rw[hks];simp)
   obtain rfl:c=mc:=by omega
   obtain⟨md,e2,hdp,_,_⟩:=fl_mem h hp (k:=(d:Int)) (by rw[hks];simp)
   obtain rfl:d=md:=by omega
   obtain⟨c1,c2,c3⟩:=fl_kd6 h (by omega:c<l.length) hc
   obtain⟨d1,d2,d3⟩:=fl_kd6 h (by omega:d<l.length) hd
   obtain⟨r1,r2⟩:=(ih1 hf hh).2 rfl _ _ (by omega) c1 c2
   obtain⟨s1,s2⟩:=(ih2 hf hh).2 rfl _ _ (by omega) d1 d2
   have hself:EndR F (sp p):=by rw[hj];exact .step j x b1 hx (.inl (by rw[hn];simp)) r1
   refine⟨hself,λq k1 k2 k3 =>?_⟩
   by_cases e:q=p
   ·rw[e];exact hself
   obtain⟨m,f1,f2,f3,f4⟩:=fl_in h hp k1 (by omega)
   rw[hks]at f1
   simp at f1
   rcases f1 with f1 |f1 |f1
   ·obtain rfl:m=a:=by omega
    rw[fl_none h m (by omega) ha' q f2 f3]at k3;cases k3
   ·obtain rfl:m=c:=by omega
    exact r2 q f2 (c3 q f2 f3 k3) k3
   ·obtain rfl:m=d:=by omega
    exact s2 q f2 (d3 q f2 f3 k3) k3
  ·rw[hk]at hk';exact absurd hk' (by decide)
  ·rw[hk]at hk';exact absurd hk' (by decide)
  ·exact absurd hk h11
 |whl p a c fo ha b1 x hk hks h1 hx hn hr ih1=>
  intro hf hh
  refine⟨λ_ hp hst =>?_,λe=>(Bool.false_ne_true e.symm).elim⟩
  obtain⟨j,hj⟩:∃j:Nat,sp p=(j:Int):=⟨(sp p).toNat,by have:=hsp p hp hst;omega⟩
  rw[hj,Int.toNat_natCast]at hx
  rcases fl_stk h hp hst with⟨_,_,_,_,hk',_,_,_⟩ |⟨a',c',hks',hk',ha',hc⟩ |⟨_,_,_,hk',_,_⟩ |⟨_,h12,_,_⟩
  ·rw[hk]at hk';exact absurd hk' (by decide)
  ·rw[hks]at hks'
   simp at hks'
   obtain⟨e1,e2⟩:=hks'
   obtain rfl:a=a':=by omega
   obtain rfl:c=c':=by omega
   obtain⟨mc,e1,hcp,_,_⟩:=fl_mem h hp (k:=(c:Int)) (by rw[hks];simp)
   obtain rfl:c=mc:=by omega
   obtain⟨c1,c2,c3⟩:=fl_kd6 h (by omega:c<l.length) hc
   have hself:EndR F (sp p):=by rw[hj];exact .step j x fo hx (.inl (by rw[hn];simp)) hf
   obtain⟨r1,r2⟩:=(ih1 hself hh).2 rfl _ _ (by omega) c1 c2
   refine⟨hself,λq k1 k2 k3 =>?_⟩
   by_cases e:q=p
   ·rw[e];exact hself
   obtain⟨m,f1,f2,f3,f4⟩:=fl_in h hp k1 (by omega)
   rw[hks]at f1
   simp at f1
   rcases f1 with f1 |f1
   ·obtain rfl:m=a:=by omega
    rw[fl_none h m (by omega) ha' q f2 f3]at k3;cases k3
   ·obtain rfl:m=c:=by omega
    exact r2 q f2 (c3 q f2 f3 k3) k3
  ·rw[hk]at hk';exact absurd hk' (by decide)
  ·exact absurd hk h12
 |try_ p c d fo ha b1 b2 x hk hks h1 h2 hx hn hr ih1 ih2=>
  intro hf hh
  refine⟨λ_ hp hst =>?_,λe=>(Bool.false_ne_true e.symm).elim⟩
  obtain⟨j,hj⟩:∃j:Nat,sp p=(j:Int):=⟨(sp p).toNat,by have:=hsp p hp hst;omega⟩
  rw[hj,Int.toNat_natCast]at hx
  rcases fl_stk h hp hst with⟨_,_,_,_,hk',_,_,_⟩ |⟨_,_,_,hk',_,_⟩ |⟨c',d',hks',hk',hc,hd⟩ |⟨_,_,h16,_⟩
  ·rw[hk]at hk';exact absurd hk' (by decide)
  ·rw[hk]at hk';exact absurd hk' (by decide)
  ·rw[hks]at hks'
   simp at hks'
   obtain⟨e1,e2⟩:=hks'
   obtain rfl:c=c':=by omega
   obtain rfl:d=d':=by omega
   obtain⟨mc,e1,hcp,_,_⟩:=fl_mem h hp (k:=(c:Int)) (by rw[hks];simp)
   obtain rfl:c=mc:=by omega
   obtain⟨md,e2,hdp,_,_⟩:=fl_mem h hp (k:=(d:Int)) (by rw[hks];simp)
   obtain rfl:d=md:=by omega
   obtain⟨c1,c2,c3⟩:=fl_kd6 h (by omega:c<l.length) hc
   obtain⟨d1,d2,d3⟩:=fl_kd6 h (by omega:d<l.length) hd
   obtain⟨s1,s2⟩:=(ih2 hf hh).2 rfl _ _ (by omega) d1 d2
   have hself:EndR F (sp p):=by rw[hj];exact .step j x b2 hx (.inl (by rw[hn];simp)) s1
   obtain⟨r1,r2⟩:=(ih1 hf hself).2 rfl _ _ (by omega) c1 c2
   refine⟨r1,λq k1 k2 k3 =>?_⟩
   by_cases e:q=p
   ·rw[e];exact hself
   obtain⟨m,f1,f2,f3,f4⟩:=fl_in h hp k1 (by omega)
   rw[hks]at f1
   simp at f1
   rcases f1 with f1 |f1
   ·obtain rfl:m=c:=by omega
    exact r2 q f2 (c3 q f2 f3 k3) k3
   ·obtain rfl:m=d:=by omega
    exact s2 q f2 (d3 q f2 f3 k3) k3
  ·exact absurd hk h16
 |oth p fo ha x h11 h12 h16 hx hn hr=>
  intro hf hh
  refine⟨λ_ hp hst =>?_,λe=>(Bool.false_ne_true e.symm).elim⟩
  obtain⟨j,hj⟩:∃j:Nat,sp p=(j:Int):=⟨(sp p).toNat,by have:=hsp p hp hst;omega⟩
  rw[hj,Int.toNat_natCast]at hx
  have hself:EndR F (sp p):=by
   rw[hj]
   by_cases h14:(nth l p).kd=14
   ·exact .step j x ex hx (.inl (by rw[hn,if_pos h14];simp)) hex
   by_cases h15:(nth l p).kd=15
   ·have hR:=hT p hp h15
    rw[hR]at hr
    have hr:x.rs=ha:=hr
    obtain⟨i,hi⟩:=hh.nat
    exact .step j x ha hx (.inr ⟨hr.symm,by rw[hr,hi];omega⟩) hh
   ·exact .step j x fo hx (.inl (by rw[hn,if_neg h14,if_neg h15];simp)) hf
  refine⟨hself,λq k1 k2 k3 =>?_⟩
  by_cases e:q=p
  ·rw[e];exact hself
  obtain⟨m,f1,f2,f3,f4⟩:=fl_in h hp k1 (by omega)
  have hno:noS (nth l m).kd=true:=by
   rcases fl_stk h hp hst with⟨_,_,_,_,hk',_,_,_⟩ |⟨_,_,_,hk',_,_⟩ |⟨_,_,_,hk',_,_⟩ |⟨_,_,_,hks⟩
   ·exact absurd hk' h11
   ·exact absurd hk' h12
   ·exact absurd hk' h16
   ·have:=hks _ f1;rwa [Int.toNat_natCast]at this
  rw[fl_none h m (by omega) hno q f2 f3]at k3;cases k3
end
end Go.Proofs.YtedkgofehbecmaaGreatDoor
