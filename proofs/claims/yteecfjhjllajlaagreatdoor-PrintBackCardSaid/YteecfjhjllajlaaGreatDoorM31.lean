/- PROVED: Se Uc Vh. No more condition. -/
import Derived.Test.YteecfjhjllajlaaGreatDoorM30
import Derived.Test.YteecfjhjllajlaaGreatDoorM28
import Derived.Test.YteecfjhjllajlaaGreatDoorM29
namespace Go.Proofs.YteecfjhjllajlaaGreatDoor
open Go Go.RowKit
inductive Wd where
 |nil
 |snoc (f:Wd) (kd n pl:Int) (tx:List UInt8) (ks:Wd)
def Wd.sz:Wd->Nat
 | .nil=>0
 | .snoc f _ _ _ _ ks=>f.sz+ks.sz+1
def Wd.rt (o:Nat):Wd->List Int
 | .nil=>[]
 | .snoc f _ _ _ _ ks=>f.rt o++[((o+f.sz+ks.sz:Nat):Int)]
def Wd.fl (o:Nat):Wd->List Nd
 | .nil=>[]
 | .snoc f kd n pl tx ks=>f.fl o++(ks.fl (o+f.sz)++[⟨kd,n,pl,tx,ks.rt (o+f.sz)⟩])
def Wd.kds:Wd->List Int
 | .nil=>[]
 | .snoc f kd _ _ _ _=>f.kds++[kd]
def Wd.app (f:Wd):Wd->Wd
 | .nil=>f
 | .snoc g kd n pl tx ks =>.snoc (f.app g) kd n pl tx ks
def Wd.all (P:Int->Int->Int->List UInt8->List Int->Prop):Wd->Prop
 | .nil=>True
 | .snoc f kd n pl tx ks=>f.all P/\ks.all P/\P kd n pl tx ks.kds
theorem Wd.fl_len:∀(f:Wd) (o:Nat),(f.fl o).length=f.sz
 | .nil,_=>rfl
 | .snoc f kd n pl tx ks,o=>by
  simp only[Wd.fl,Wd.sz,List.length_append,List.length_singleton,f.fl_len,ks.fl_len];omega
theorem Wd.rt_len:∀(f:Wd) (o:Nat),(f.rt o).length=f.kds.length
 | .nil,_=>rfl
 | .snoc f kd n pl tx ks,o=>by simp only[Wd.rt,Wd.kds,List.length_append,List.length_singleton,f.rt_len]
theorem Wd.app_sz (f:Wd):∀g:Wd,(f.app g).sz=f.sz+g.sz
 | .nil=>rfl
 | .snoc g kd n pl tx ks=>by simp only[Wd.app,Wd.sz,f.app_sz g];omega
theorem Wd.app_rt (f:Wd)(o:Nat):∀g:Wd,(f.app g).rt o=f.rt o++g.rt (o+f.sz)
 | .nil=>by simp[Wd.app,Wd.rt]
 | .snoc g kd n pl tx ks=>by
  simp only[Wd.app,Wd.rt,f.app_rt o g,f.app_sz g,List.append_assoc];rw[show o+(f.sz+g.sz)+ks.sz=o+f.sz+g.sz+ks.sz by omega]
theorem Wd.app_fl (f:Wd)(o:Nat):∀g:Wd,(f.app g).fl o=f.fl o++g.fl (o+f.sz)
 | .nil=>by simp[Wd.app,Wd.fl]
 | .snoc g kd n pl tx ks=>by
  simp only[Wd.app,Wd.fl,f.app_fl o g,f.app_sz g,List.append_assoc];rw[show o+(f.sz+g.sz)=o+f.sz+g.sz by omega]
theorem Wd.app_kds (f:Wd):∀g:Wd,(f.app g).kds=f.kds++g.kds
 | .nil=>by simp[Wd.app,Wd.kds]
 | .snoc g kd n pl tx ks=>by simp only[Wd.app,Wd.kds,f.app_kds g,List.append_assoc]
theorem Wd.app_all {P:Int->Int->Int->List UInt8->List Int->Prop}{f:Wd}(hf:f.all P):∀ {g:Wd},g.all P->(f.app g).all P
 | .nil,_=>hf
 | .snoc _ _ _ _ _ _,h=>⟨Wd.app_all hf h.1,h.2.1,h.2.2⟩
section
variable (P:Int->Int->Int->List UInt8->List Int->Prop)
def At (n0:List Nd)(s:St)(f:Wd)(v:List Int):Prop:=s.nd=n0++f.fl n0.length/\v=f.rt n0.length/\f.all P
def o8 (n0:List Nd)(C:List Int->Prop)(r:Rs):Prop:=∀v s',r=.ok v s'->∃g,At P n0 s' g v/\C g.kds
def Qt (s:St)(r:Rs):Prop:=∀v s',r=.ok v s'->v=[]/\s'.nd=s.nd
end
section
variable {P:Int->Int->Int->List UInt8->List Int->Prop}
theorem At.nil (s:St):At P s.nd s .nil []:=⟨by simp[Wd.fl],rfl,True.intro⟩
theorem At.len {n0:List Nd}{s:St}{f:Wd}{v:List Int}(h:At P n0 s f v):s.nd.length=n0.length+f.sz:=by rw[h.1,List.length_append,f.fl_len]
theorem At.app {n0:List Nd}{s s':St}{f g:Wd}{v u:List Int}(h:At P n0 s f v)(k:At P s.nd s' g u):At P n0 s' (f.app g) (v++u):=by
 refine⟨?_,?_,Wd.app_all h.2.2 k.2.2⟩
 ·rw[k.1,h.len,f.app_fl,<- List.append_assoc,<- h.1]
 ·rw[f.app_rt,<- h.2.1,k.2.1,h.len]
theorem At.to {n0:List Nd}{s s':St}{f:Wd}{v:List Int}(h:At P n0 s f v)(e:s'.nd=s.nd):At P n0 s' f v:=⟨e.trans h.1,h.2⟩
theorem o8.bind {n0 n1:List Nd}{C D:List Int->Prop}{r:Rs}{k:List Int->St->Rs}(h:o8 P n0 C r)(q:∀v s' g,At P n0 s' g v->C g.kds->o8 P n1 D (k v s')):o8 P n1 D (r.bind k):=by
 intro v s' e;obtain⟨v1,s1,e1,e2⟩:=Rs.bind_ok e;obtain⟨g,a,c⟩:=h v1 s1 e1;exact q v1 s1 g a c v s' e2
theorem Qt.bind {n1:List Nd}{D:List Int->Prop}{s:St}{r:Rs}{k:List Int->St->Rs}(h:Qt s r)(q:∀s',s'.nd=s.nd->o8 P n1 D (k [] s')):o8 P n1 D (r.bind k):=by
 intro v s' e;obtain⟨v1,s1,e1,e2⟩:=Rs.bind_ok e;obtain⟨rfl,e3⟩:=h v1 s1 e1;exact q s1 e3 v s' e2
theorem o8.no {n0:List Nd}{C:List Int->Prop}(p e:Nat):o8 P n0 C (.no p e):=λ_ _ h=>by cases h
theorem o8.ok {n0:List Nd}{C:List Int->Prop}{v:List Int}{s:St}{f:Wd}(h:At P n0 s f v)(c:C f.kds):o8 P n0 C (.ok v s):=λv' s' e=>by cases e;exact⟨f,h,c⟩
theorem o8.imp {n0:List Nd}{C D:List Int->Prop}{r:Rs}(h:o8 P n0 C r)(q:∀l,C l->D l):o8 P n0 D r:=λv s e=>by
 obtain⟨g,a,c⟩:=h v s e;exact⟨g,a,q _ c⟩
theorem o8.at {n0 n1:List Nd}{C:List Int->Prop}{r:Rs}(h:o8 P n0 C r)(e:n0=n1):o8 P n1 C r:=e▸h
theorem dH {n0:List Nd}{s:St}{f:Wd}{v:List Int}(h:At P n0 s f v){kd n pl:Int}{tx:List UInt8}(q:P kd n pl tx f.kds):o8 P n0 (· = [kd]) (bC kd n pl tx v s):=by
 intro v' s' e;unfold bC at e;cases e;refine⟨.snoc .nil kd n pl tx f,⟨?_,?_,True.intro,h.2.2,q⟩,rfl⟩
 ·show s.nd++[_]=n0++([]++(f.fl (n0.length+0)++[⟨kd,n,pl,tx,f.rt (n0.length+0)⟩]));rw[Nat.add_zero,<- h.2.1,List.nil_append,<- List.append_assoc,<- h.1]
 ·show[_]=[]++[((n0.length+0+f.sz:Nat):Int)];rw[h.len,Nat.add_zero];rfl
end
section
variable (ts:List Tok) (s:St)
theorem Ol (x:List UInt8):Qt s (gJ ts x s):=λv s' e=>by
 unfold gJ at e;split at e<;>cases e;exact⟨rfl,rfl⟩
theorem Hy:Qt s (mM ts s):=λv s' e=>by
 unfold mM at e;split at e<;>cases e;exact⟨rfl,rfl⟩
theorem vg (x:List UInt8):Qt s (jv ts x s):=λv s' e=>by
 unfold jv at e;obtain⟨v1,s1,e1,e2⟩:=Rs.bind_ok e;have:=Ol ts s x v1 s1 e1;cases e2;exact⟨rfl,this.2⟩
end
section
open Tr (ig iT eP bz aI dS eY rR iq il yG qz)
def Pk (ts:List Tok)(kd n pl:Int)(tx:List UInt8)(kds:List Int):Prop:=
 1<=kd/\kd<=27/\iT kd tx=true/\(eP kd n=true/\n<=9223372036854775807)/\bz kd kds=true/\∃t ∈ ts,(t.p:Int)=pl
def Om (ts:List Tok):Prop:=∀t ∈ ts,(t.k=1->ig t.s=true)/\(t.k=2->0<=t.n/\t.n<=9223372036854775807)
def E1 (l:List Int):Prop:=∃e,l=[e]/\aI e=true
def S1 (l:List Int):Prop:=∃e,l=[e]/\dS e=true
section
variable {ts:List Tok}
theorem yn {s:St}(h:(ah ts s).k≠5\/(ah ts s).s≠[]):ah ts s ∈ ts:=by
 by_cases q:s.nx<ts.length
 ·exact BI q
 ·exfalso;have e:ah ts s=⟨5,0,0,[]⟩:=by unfold ah;simp[List.getD,Nat.le_of_not_lt q]
  rw[e]at h;exact h.elim (λa=>a rfl) (λa=>a rfl)
theorem dB {s:St}{x:List UInt8}(h:(ah ts s).s=x)(hx:x≠[]):ah ts s ∈ ts:=yn (.inr (h▸hx))
theorem eu {s:St}(h:(ah ts s).k=1):ah ts s ∈ ts:=yn (.inl (by rw[h];decide))
theorem yo {s:St}{x:List UInt8}(h:sees ts x s=true):(ah ts s).s=x:=by simpa [sees]using h
abbrev j5 (ts:List Tok):=o8 (Pk ts)
variable {n1:List Nd} {D:List Int->Prop} {s:St} {k:List Int->St->Rs}
theorem jK (q:(ah ts s).k=1->∀s',s'.nd=s.nd->j5 ts n1 D (k [] s')):j5 ts n1 D ((fJ ts s).bind k):=by
 unfold fJ;split
 ·rename_i h;exact q h _ rfl
 ·exact o8.no _ _
theorem kQ {x:List UInt8}(q:(ah ts s).s=x->∀s',s'.nd=s.nd->j5 ts n1 D (k [] s')):j5 ts n1 D ((gJ ts x s).bind k):=by
 unfold gJ;split
 ·rename_i h;exact q (yo h) _ rfl
 ·exact o8.no _ _
theorem kR {x:List UInt8}(q:(ah ts s).s=x->∀s',s'.nd=s.nd->j5 ts n1 D (k [] s')):j5 ts n1 D ((iw ts x s).bind k):=by
 unfold iw gJ;split
 ·exact o8.no _ _
 split
 ·rename_i h;exact q (yo h) _ rfl
 ·exact o8.no _ _
end
structure Oo (ts:List Tok) (rec:nI->St->Rs):Prop where
 una:∀s,j5 ts s.nd E1 (rec .una s)
 bin:∀r s,1<=r->j5 ts s.nd E1 (rec (.bin r) s)
 loop:∀r s n0 f l,1<=r->At (Pk ts) n0 s f l->E1 f.kds->j5 ts n0 E1 (rec (.loop r l) s)
 exprs:∀s n0 f a,At (Pk ts) n0 s f a->j5 ts n0 (λl=>∃es,l=f.kds++es/\es.all aI=true) (rec (.exprs a) s)
 stmt:∀s,j5 ts s.nd S1 (rec .stmt s)
 stmts:∀s n0 f a pl,At (Pk ts) n0 s f a->f.kds.all dS=true->(∃t ∈ ts,(t.p:Int)=pl)->j5 ts n0 (· = [6]) (rec (.stmts pl a) s)
 vars:∀(j:Nat) s n0 f a,j=2\/j=5->At (Pk ts) n0 s f a->j5 ts n0 (λl=>∃m,l=f.kds++List.replicate m (j:Int)) (rec (.vars j a) s)
 params:∀s n0 f a,At (Pk ts) n0 s f a->j5 ts n0 (λl=>∃m,l=f.kds++List.replicate m 4) (rec (.params a) s)
 procs:∀s n0 f a,At (Pk ts) n0 s f a->j5 ts n0 (λl=>∃m,l=f.kds++List.replicate m 3) (rec (.procs a) s)
section
variable {ts:List Tok} {rec:nI->St->Rs} (hr:Oo ts rec) (hk:Om ts)
theorem E1.all {l:List Int}(h:E1 l):l.length=1/\eY l=true:=by
 obtain⟨e,rfl,h⟩:=h;exact⟨rfl,by simp[eY,h]⟩
include hr
theorem gU (s:St):j5 ts s.nd E1 (a_ rec s):=hr.bin 1 s (Nat.le_refl _)
theorem Hz (s:St):j5 ts s.nd E1 (lv ts rec s):=by
 unfold lv;refine kR λ_ s1 e1 =>?_
 refine((gU hr s1).at e1).bind λv s2 g a c =>?_
 refine(vg ts s2 [93]).bind λs3 e3 =>?_
 exact o8.ok (a.to e3) c
include hk
omit hr in
theorem yu (kd:Nat)(s:St)(h:kd=18\/kd=19):j5 ts s.nd (· = [(kd:Int)]) (gp ts kd s):=by
 unfold gp;simp only;refine jK λq s1 e1 =>?_
 have hi:=(hk _ (eu q)).1 q;refine dH ((At.nil s).to e1) ?_;rcases h with rfl |rfl
 ·exact⟨by decide,by decide,by simpa [iT]using hi,by decide,by decide,⟨_,eu q,rfl⟩⟩
 ·exact⟨by decide,by decide,by simpa [iT]using hi,by decide,by decide,⟨_,eu q,rfl⟩⟩
theorem Le (s:St):j5 ts s.nd E1 (iy ts rec s):=by
 unfold iy;simp only;refine jK λq s1 e1 =>?_
 have hi:=(hk _ (eu q)).1 q;split
 ·refine((Hz hr s1).at e1).bind λv s2 g a c =>?_
  refine(dH a ?_).imp λl e=>⟨23,e,by decide⟩
  exact⟨by decide,by decide,by simpa [iT]using hi,by decide,by have:=c.all;simp[bz,this.1,this.2],⟨_,eu q,rfl⟩⟩
 ·refine(dH ((At.nil s).to e1) ?_).imp λl e=>⟨22,e,by decide⟩
  exact⟨by decide,by decide,by simpa [iT]using hi,by decide,by decide,⟨_,eu q,rfl⟩⟩
omit hk in
theorem Lf (s:St)(h:(ah ts s).s=[45]\/(ah ts s).s=[33]):j5 ts s.nd E1 (iA ts rec s):=by
 have hm:ah ts s ∈ ts:=h.elim (λq=>dB q (by decide)) (λq=>dB q (by decide));unfold iA;simp only;refine kR λ_ s1 e1 =>?_
 refine((hr.una s1).at e1).bind λv s2 g a c =>?_
 refine(dH (a.to (s' := {s2 with op:=s2.op-1}) rfl) ?_).imp λl e=>⟨26,e,by decide⟩
 exact⟨by decide,by decide,by rcases h with h |h<;>rw[h]<;>decide,by decide,by have:=c.all;simp[bz,this.1,this.2],⟨_,hm,rfl⟩⟩
omit hr in
theorem CG (kd:Nat)(s:St)(h:kd=24\/kd=25)(hm:ah ts s ∈ ts):j5 ts s.nd E1 (gD ts kd s):=by
 unfold gD;simp only;refine jK λq s1 e1 =>?_
 have hi:=(hk _ (eu q)).1 q;refine(dH (kd:=(kd:Int)) ((At.nil s).to (s':=s1) e1) ?_).imp λl e=>⟨(kd:Int),e,by rcases h with rfl |rfl<;>decide⟩
 rcases h with rfl |rfl
 ·exact⟨by decide,by decide,by simpa [iT]using hi,by decide,by decide,⟨_,hm,rfl⟩⟩
 ·exact⟨by decide,by decide,by simpa [iT]using hi,by decide,by decide,⟨_,hm,rfl⟩⟩
theorem Oq (s:St):j5 ts s.nd E1 (bf ts rec s):=by
 unfold bf;simp only;split
 ·exact Le hr hk s
 split
 ·rename_i q;have hm:ah ts s ∈ ts:=yn (.inl (by rw[q];decide));have hn:=(hk _ hm).2 q;refine(dH ((At.nil s).to (s':=ae s) rfl) ?_).imp λl e=>⟨20,e,by decide⟩
  exact⟨by decide,by decide,by decide,⟨by simpa [eP]using hn.1,hn.2⟩,by decide,⟨_,hm,rfl⟩⟩
 split
 ·rename_i q;exact Lf hr s q
 split
 ·rename_i q;have hm:ah ts s ∈ ts:=q.elim (λq=>dB q (by decide)) (λq=>dB q (by decide));refine(dH ((At.nil s).to (s':=ae s) rfl) ?_).imp λl e=>⟨21,e,by decide⟩
  refine⟨by decide,by decide,by decide,?_,by decide,⟨_,hm,rfl⟩⟩;split<;>decide
 split
 ·rename_i q;exact CG hk 24 s (.inl rfl) (dB q (by decide))
 split
 ·rename_i q;exact CG hk 25 s (.inr rfl) (dB q (by decide))
 split
 ·refine kR λ_ s1 e1 =>?_
  refine((gU hr s1).at e1).bind λv s2 g a c =>?_
  refine(vg ts s2 [41]).bind λs3 e3 =>?_
  exact o8.ok (a.to e3) c
 ·exact o8.no _ _
omit hk in
theorem Ot (r:Nat)(s:St)(h:1<=r):j5 ts s.nd E1 (iY rec r s):=by
 unfold iY;split
 ·exact hr.una s
 ·exact(hr.bin (r+1) s (by omega)).bind λv s1 g a c=>hr.loop r s1 _ g v h a c
omit hr hk in
theorem H5 {x:List UInt8}{r:Nat}(h:rowOf x=r)(h1:1<=r):rR x=true/\x≠[]:=by
 unfold rowOf at h;split at h
 ·rename_i q;rw[q];decide
 split at h
 ·rename_i q;rw[q];decide
 split at h
 ·rename_i q;rcases q with q |q |q |q |q |q<;>rw[q]<;>decide
 split at h
 ·rename_i q;rcases q with q |q<;>rw[q]<;>decide
 split at h
 ·rename_i q;rcases q with q |q |q<;>rw[q]<;>decide
 ·omega
omit hk in
theorem Lg (r:Nat)(s:St)(n0:List Nd)(f:Wd)(l:List Int)(h:1<=r)(hA:At (Pk ts) n0 s f l)(hE:E1 f.kds):j5 ts n0 E1 (jl ts rec r l s):=by
 unfold jl;simp only;split
 ·rename_i q;have hs:=H5 q h;have hm:ah ts s ∈ ts:=yn (.inr hs.2);refine(hr.bin (r+1) (ae s) (by omega)).bind λv s1 g a c =>?_
  have hB:=(hA.to (s':=ae s) rfl).app a;refine(dH hB (kd:=27) ?_).bind λv s2 g2 a2 c2=>hr.loop r s2 n0 g2 v h a2 ⟨27,c2,by decide⟩
  obtain⟨x,hx,hx2⟩:=hE;obtain⟨y,hy,hy2⟩:=c;refine⟨by decide,by decide,by simpa [iT]using hs.1,by decide,?_,⟨_,hm,rfl⟩⟩;rw[f.app_kds,hx,hy];simp[bz,eY,hx2,hy2]
 ·exact o8.ok hA hE
omit hk in
theorem H7 (s:St)(n0:List Nd)(f:Wd)(a:List Int)(hA:At (Pk ts) n0 s f a):j5 ts n0 (λl=>∃es,l=f.kds++es/\es.all aI=true) (eQ ts rec a s):=by
 unfold eQ;split
 ·refine(gU hr (ae s)).bind λv s1 g b c =>?_
  have hB:=(hA.to (s':=ae s) rfl).app b;refine(hr.exprs s1 n0 _ _ hB).imp λl q =>?_
  obtain⟨es,e,he⟩:=q;obtain⟨x,hx,hx2⟩:=c;refine⟨x :: es,by rw[e,f.app_kds,hx];simp,by simp[hx2];simpa using he⟩
 ·refine(vg ts s [41]).bind λs1 e1 =>?_
  exact o8.ok (hA.to e1) ⟨[],by simp,rfl⟩
omit hk in
theorem Lh (s:St):j5 ts s.nd (λl=>l.all aI=true) (jb ts rec s):=by
 unfold jb;refine kR λ_ s1 e1 =>?_
 split
 ·refine(hr.exprs s1 s.nd .nil [] ((At.nil s).to e1)).imp λl q =>?_
  obtain⟨es,e,he⟩:=q;rw[e];simpa [Wd.kds]using he
 ·refine((gU hr s1).at e1).bind λv s2 g a c =>?_
  refine(hr.exprs s2 s.nd g v a).imp λl q =>?_
  obtain⟨es,e,he⟩:=q;obtain⟨x,hx,hx2⟩:=c;rw[e,hx];simp[hx2];simpa using he
theorem CJ (s:St)(tx:List UInt8)(pl:Int)(ht:ig tx=true\/tx=[])(hp:∃t ∈ ts,(t.p:Int)=pl):j5 ts s.nd (· = [13]) (gq ts rec tx pl s):=by
 unfold gq;refine kQ λ_ s1 e1 =>?_
 refine((yu hk 19 s1 (.inr rfl)).at e1).bind λv s2 g a c =>?_
 refine(Lh hr s2).bind λu s3 g2 a2 c2 =>?_
 refine dH (a.app a2) ?_;refine⟨by decide,by decide,?_,by decide,?_,hp⟩
 ·rcases ht with h |h
  ·simp[iT,h]
  ·simp[iT,h]
 ·rw[g.app_kds,c];simp[bz,eY];simpa using c2
omit hk in
theorem oq (s:St):j5 ts s.nd (· = [6]) (dm ts rec s):=by
 unfold dm;simp only;refine kR λq s1 e1 =>?_
 exact hr.stmts s1 s.nd .nil [] _ ((At.nil s).to e1) rfl ⟨_,dB q (by decide),rfl⟩
omit hk in
theorem H8 (s:St)(n0:List Nd)(f:Wd)(a:List Int)(pl:Int)(hA:At (Pk ts) n0 s f a)(hS:f.kds.all dS=true)(hp:∃t ∈ ts,(t.p:Int)=pl):j5 ts n0 (· = [6]) (fV ts rec pl a s):=by
 unfold fV;split
 ·refine(vg ts s [125]).bind λs1 e1 =>?_
  refine dH (hA.to e1) ?_;exact⟨by decide,by decide,by decide,by decide,by simpa [bz]using hS,hp⟩
 ·refine(hr.stmt s).bind λv s1 g b c =>?_
  refine hr.stmts s1 n0 _ _ pl (hA.app b) ?_ hp;obtain⟨x,hx,hx2⟩:=c;rw[f.app_kds,hx,List.all_append,hS];simp[hx2]
omit hr hk in
theorem mE {n0:List Nd}{s:St}{f:Wd}{v:List Int}{C:List Int->Prop}(h:At (Pk ts) n0 s f v)(c:C f.kds):j5 ts n0 C (bJ ts v s):=by
 unfold bJ;exact kQ λ_ s1 e1=>o8.ok (h.to e1) c
theorem Li (t:Tok)(s:St)(hm:t ∈ ts)(hi:ig t.s=true):j5 ts s.nd S1 (bI ts rec t s):=by
 unfold bI;simp only;split
 ·refine(yu hk 18 (ae s) (.inl rfl)).bind λv s1 g a c =>?_
  refine(dH (n0:=s.nd) a ?_).imp λl e=>⟨9,e,by decide⟩
  exact⟨by decide,by decide,by simpa [iT]using hi,by decide,by rw[c];decide,⟨_,hm,rfl⟩⟩
 split
 ·exact(CJ hr hk s t.s t.p (.inl hi) ⟨_,hm,rfl⟩).imp λl e=>⟨13,e,by decide⟩
 split
 ·refine(gU hr (ae s)).bind λv s1 g a c =>?_
  refine(dH (n0:=s.nd) a ?_).imp λl e=>⟨17,e,by decide⟩
  exact⟨by decide,by decide,by simpa [iT]using hi,by decide,by have:=c.all;simp[bz,this.1,this.2],⟨_,hm,rfl⟩⟩
 ·refine(gU hr s).bind λv s1 g a c =>?_
  refine(dH (n0:=s.nd) a ?_).imp λl e=>⟨7,e,by decide⟩
  exact⟨by decide,by decide,by simpa [iT]using hi,by decide,by have:=c.all;simp[bz,this.1,this.2],⟨_,hm,rfl⟩⟩
theorem H9 (s:St):j5 ts s.nd S1 (d9 ts rec s):=by
 unfold d9;simp only;refine jK λq s1 e1 =>?_
 have hi:=(hk _ (eu q)).1 q;split
 ·refine((Hz hr s1).at e1).bind λv s2 g a c =>?_
  refine kQ λ_ s3 e3 =>?_
  refine(gU hr s3).bind λu s4 g2 a2 c2 =>?_
  refine(dH ((a.to e3).app a2) (kd:=8) ?_).bind λv s5 g3 a3 c3=>mE a3 ⟨8,c3,by decide⟩
  obtain⟨x,hx,hx2⟩:=c;obtain⟨y,hy,hy2⟩:=c2;refine⟨by decide,by decide,by simpa [iT]using hi,by decide,?_,⟨_,eu q,rfl⟩⟩;rw[g.app_kds,hx,hy];simp[bz,eY,hx2,hy2]
 ·refine kQ λ_ s2 e2 =>?_
  exact((Li hr hk (ah ts s) s2 (eu q) hi).at (e2.trans e1)).bind λv s3 g a c=>mE a c
theorem Ou (s:St)(hm:ah ts s ∈ ts):j5 ts s.nd S1 (lT ts rec s):=by
 unfold lT;simp only;refine(yu hk 18 (ae s) (.inl rfl)).bind λv s1 g a c =>?_
 refine(gU hr s1).bind λu s2 g2 a2 c2 =>?_
 refine(dH (n0:=s.nd) (At.app (n0:=s.nd) a a2) (kd:=10) ?_).bind λv s3 g3 a3 c3=>mE a3 ⟨10,c3,by decide⟩
 obtain⟨y,hy,hy2⟩:=c2;refine⟨by decide,by decide,by decide,by decide,?_,⟨_,hm,rfl⟩⟩;rw[g.app_kds,c,hy];simp[bz,hy2]
omit hk in
theorem QI (s:St)(hm:ah ts s ∈ ts):j5 ts s.nd S1 (vX ts rec s):=by
 unfold vX;simp only;refine(gU hr (ae s)).bind λv s1 g a c =>?_
 refine(oq hr s1).bind λu s2 g2 a2 c2 =>?_
 have hB:=At.app (n0:=s.nd) a a2;obtain⟨x,hx,hx2⟩:=c;have key:∀g3:Wd,g3.kds=[6]->bz 11 ((g.app g2).app g3).kds=true:=λg3 h3=>by
  rw[Wd.app_kds,Wd.app_kds,hx,c2,h3];simp[bz,hx2]
 split
 ·refine(oq hr (ae s2)).bind λw s3 g3 a3 c3 =>?_
  refine(dH (n0:=s.nd) (hB.app (s:=s2) a3) ?_).imp λl e=>⟨11,e,by decide⟩
  exact⟨by decide,by decide,by decide,by decide,key g3 c3,⟨_,hm,rfl⟩⟩
 ·refine(dH (At.nil s2) (kd:=6) ⟨by decide,by decide,by decide,by decide,by decide,⟨_,hm,rfl⟩⟩).bind λw s3 g3 a3 c3 =>?_
  refine(dH (n0:=s.nd) (hB.app a3) ?_).imp λl e=>⟨11,e,by decide⟩
  exact⟨by decide,by decide,by decide,by decide,key g3 c3,⟨_,hm,rfl⟩⟩
omit hk in
theorem H_ (s:St)(hm:ah ts s ∈ ts):j5 ts s.nd S1 (h_ ts rec s):=by
 unfold h_;simp only;refine(gU hr (ae s)).bind λv s1 g a c =>?_
 refine(oq hr s1).bind λu s2 g2 a2 c2 =>?_
 refine(dH (n0:=s.nd) (At.app (n0:=s.nd) a a2) ?_).imp λl e=>⟨12,e,by decide⟩
 obtain⟨x,hx,hx2⟩:=c;refine⟨by decide,by decide,by decide,by decide,?_,⟨_,hm,rfl⟩⟩;rw[g.app_kds,hx,c2];simp[bz,hx2]
omit hk in
theorem Ec (s:St)(hm:ah ts s ∈ ts):j5 ts s.nd S1 (cO ts rec s):=by
 unfold cO;simp only;split
 ·refine(dH ((At.nil s).to (s':=ae s) rfl) ?_).imp λl e=>⟨14,e,by decide⟩
  exact⟨by decide,by decide,by decide,by decide,by decide,⟨_,hm,rfl⟩⟩
 ·refine(gU hr (ae s)).bind λv s1 g a c =>?_
  refine(dH (n0:=s.nd) a ?_).imp λl e=>⟨14,e,by decide⟩
  exact⟨by decide,by decide,by decide,by decide,by have:=c.all;simp[bz,this.1,this.2],⟨_,hm,rfl⟩⟩
omit hk in
theorem Ia (s:St)(hm:ah ts s ∈ ts):j5 ts s.nd S1 (iM ts rec s):=by
 unfold iM;simp only;refine(gU hr (ae s)).bind λv s1 g a c =>?_
 refine(dH (n0:=s.nd) a ?_).imp λl e=>⟨15,e,by decide⟩
 exact⟨by decide,by decide,by decide,by decide,by have:=c.all;simp[bz,this.1,this.2],⟨_,hm,rfl⟩⟩
theorem Ov (s:St)(hm:ah ts s ∈ ts):j5 ts s.nd S1 (lU ts rec s):=by
 unfold lU;simp only;refine(oq hr (ae s)).bind λv s1 g a c =>?_
 refine kQ λ_ s2 e2 =>?_
 refine jK λq s3 e3 =>?_
 have hi:=(hk _ (eu q)).1 q;refine(oq hr s3).bind λu s4 g2 a2 c2 =>?_
 have hB:=At.app (n0:=s.nd) (At.to (s':=s3) (n0:=s.nd) a (e3.trans e2)) a2;refine(dH (n0:=s.nd) hB ?_).imp λl e=>⟨16,e,by decide⟩
 refine⟨by decide,by decide,by simpa [iT]using hi,by decide,?_,⟨_,hm,rfl⟩⟩;rw[g.app_kds,c,c2];decide
theorem Lj (s:St):j5 ts s.nd S1 (aO ts rec s):=by
 unfold aO;simp only;split
 ·exact H9 hr hk s
 split
 ·rename_i q;exact Ou hr hk s (dB q (by decide))
 split
 ·rename_i q;exact QI hr s (dB q (by decide))
 split
 ·rename_i q;exact H_ hr s (dB q (by decide))
 split
 ·rename_i q;exact(CJ hr hk s [] _ (.inr rfl) ⟨_,dB q (by decide),rfl⟩).bind λv s1 g a c=>mE a ⟨13,c,by decide⟩
 split
 ·rename_i q;exact(Ec hr s (dB q (by decide))).bind λv s1 g a c=>mE a c
 split
 ·rename_i q;exact(Ia hr s (dB q (by decide))).bind λv s1 g a c=>mE a c
 split
 ·rename_i q;exact Ov hr hk s (dB q (by decide))
 ·exact o8.no _ _
omit hr hk in
theorem Ed (x:List UInt8):typeOf x<=4:=by unfold typeOf;repeat' split<;>try decide
omit hr hk in
theorem wM {n1:List Nd}{D:List Int->Prop}{s:St}{k:List Int->St->Rs}(q:∀(n:Nat) s',1<=n->n<=4->s'.nd=s.nd->j5 ts n1 D (k [(n:Int)] s')):j5 ts n1 D ((iB ts s).bind k):=by
 unfold iB;simp only;split
 ·exact o8.no _ _
 ·rename_i h;exact q _ (ae s) (by omega) (Ed _) rfl
omit hr in
theorem zK (kd:Nat)(pl:Int)(s:St)(h:kd=2\/kd=4\/kd=5)(hp:(ah ts s).k=1->∃t ∈ ts,(t.p:Int)=pl):j5 ts s.nd (· = [(kd:Int)]) (d_ ts kd pl s):=by
 unfold d_;simp only;refine jK λq s1 e1 =>?_
 have hi:=(hk _ (eu q)).1 q;refine wM λn s2 h1 h2 e2 =>?_
 refine dH ((At.nil s).to (e2.trans e1)) ?_;have hn:(1:Int)<=(n:Int)/\(n:Int)<=4:=by omega
 rcases h with rfl |rfl |rfl
 ·exact⟨by decide,by decide,by simpa [iT]using hi,⟨by simpa [eP]using hn,by show(n:Int)<=9223372036854775807;omega⟩,by decide,hp q⟩
 ·exact⟨by decide,by decide,by simpa [iT]using hi,⟨by simpa [eP]using hn,by show(n:Int)<=9223372036854775807;omega⟩,by decide,hp q⟩
 ·exact⟨by decide,by decide,by simpa [iT]using hi,⟨by simpa [eP]using hn,by show(n:Int)<=9223372036854775807;omega⟩,by decide,hp q⟩
theorem Ll (j:Nat)(s:St)(n0:List Nd)(f:Wd)(a:List Int)(h:j=2\/j=5)(hA:At (Pk ts) n0 s f a):j5 ts n0 (λl=>∃m,l=f.kds++List.replicate m (j:Int)) (jm ts rec j a s):=by
 unfold jm;split
 ·rename_i q;have hm:ah ts s ∈ ts:=dB (yo q) (by decide);refine(zK hk j (ah ts s).p (ae s) (by omega) (λ_=>⟨_,hm,rfl⟩)).bind λv s1 g b c =>?_
  refine kQ λ_ s2 e2 =>?_
  have hB:=((hA.to (s':=ae s) rfl).app b).to e2;refine(hr.vars j s2 n0 _ _ h hB).imp λl q =>?_
  obtain⟨m,e⟩:=q;exact⟨m+1,by rw[e,f.app_kds,c,List.append_assoc];rfl⟩
 ·exact o8.ok hA ⟨0,by simp⟩
omit hr in
theorem zL (s:St):j5 ts s.nd (· = [4]) (ib ts s):=by
 unfold ib;exact zK hk 4 _ s (.inr (.inl rfl)) λq=>⟨_,eu q,rfl⟩
theorem Ee (s:St)(n0:List Nd)(f:Wd)(a:List Int)(hA:At (Pk ts) n0 s f a):j5 ts n0 (λl=>∃m,l=f.kds++List.replicate m 4) (dD ts rec a s):=by
 unfold dD;split
 ·refine(zL hk (ae s)).bind λv s1 g b c =>?_
  have hB:=(hA.to (s':=ae s) rfl).app b;refine(hr.params s1 n0 _ _ hB).imp λl q =>?_
  obtain⟨m,e⟩:=q;exact⟨m+1,by rw[e,f.app_kds,c,List.append_assoc];rfl⟩
 ·refine(vg ts s [41]).bind λs1 e1 =>?_
  exact o8.ok (hA.to e1) ⟨0,by simp⟩
theorem Ic (s:St):j5 ts s.nd (λl=>∃m,l=List.replicate m 4) (fZ ts rec s):=by
 unfold fZ;refine kR λ_ s1 e1 =>?_
 split
 ·refine(hr.params s1 s.nd .nil [] ((At.nil s).to e1)).imp λl q =>?_
  obtain⟨m,e⟩:=q;exact⟨m,by rw[e];rfl⟩
 ·refine((zL hk s1).at e1).bind λv s2 g a c =>?_
  refine(hr.params s2 s.nd g v a).imp λl q =>?_
  obtain⟨m,e⟩:=q;exact⟨m+1,by rw[e,c];rfl⟩
end
end
section
open Tr (ig iT eP bz aI dS eY rR iq il yG qz)
theorem ou (a:Int)(l:List Int):∀m,il a (List.replicate m a++l)=m+il a l
 |0=>by simp
 |m+1=>by
  show(if a=a then il a (List.replicate m a++l)+1 else 0)=_;rw[if_pos rfl,ou a l m];omega
theorem zM {a b:Int}(h:b≠a)(l:List Int):il a (b :: l)=0:=by
 show(if b=a then _ else 0)=0;rw[if_neg h]
theorem Ie (a b:Nat):iq (List.replicate a 4++(List.replicate b 5++[6])) 4 5 6=true:=by
 have h1:yG (List.replicate a 4++(List.replicate b 5++[6])) 4=a:=by
  unfold yG;rw[ou];cases b with
  |zero=>rfl
  |succ b=>rw[List.replicate_succ,List.cons_append,zM (by decide)];rfl
 have h2:qz (List.replicate a 4++(List.replicate b 5++[6])) 4 5=a+b:=by
  unfold qz;rw[h1,List.drop_append_of_le_length (by simp),List.drop_of_length_le (by simp),List.nil_append,ou];rfl
 unfold iq;rw[if_neg (by decide),h2];simp;omega
theorem Ig (a b:Nat):iq (List.replicate a 2++List.replicate b 3) 2 3 0=true:=by
 have h1:yG (List.replicate a 2++List.replicate b 3) 2=a:=by
  unfold yG;rw[ou];cases b with
  |zero=>rfl
  |succ b=>rw[List.replicate_succ,zM (by decide)];rfl
 have h2:qz (List.replicate a 2++List.replicate b 3) 2 3=a+b:=by
  unfold qz;rw[h1,List.drop_append_of_le_length (by simp),List.drop_of_length_le (by simp),List.nil_append];have:=ou 3 [] b;rw[List.append_nil]at this;rw[this];rfl
 unfold iq;rw[if_pos rfl,h2];simp
section
variable {ts:List Tok} {rec:nI->St->Rs} (hr:Oo ts rec) (hk:Om ts)
include hr hk
theorem Lm (s:St):j5 ts s.nd (· = [3]) (jc ts rec s):=by
 unfold jc;simp only;refine kQ λq0 s1 e1 =>?_
 refine jK λq s2 e2 =>?_
 have hi:=(hk _ (eu q)).1 q;refine((Ic hr hk s2).at (e2.trans e1)).bind λps s3 g a c =>?_
 have rest:∀(n:Int) (s4:St),0<=n->n<=4->s4.nd=s3.nd->j5 ts s.nd (· = [3]) ((iw ts [123] s4).bind λ_ s5=>(rec (.vars 5 []) s5).bind λvs s6=>(rec (.stmts (ah ts s4).p []) s6).bind λbl s7=>bC 3 ([n].headD 0) (ah ts s).p (ah ts s1).s (ps++vs++bl) s7):=by
  intro n s4 n1 n2 e4;refine kR λqb s5 e5 =>?_
  refine(hr.vars 5 s5 s5.nd .nil [] (.inr rfl) (At.nil s5)).bind λvs s6 g2 a2 c2 =>?_
  refine(hr.stmts s6 s6.nd .nil [] _ (At.nil s6) rfl ⟨_,dB qb (by decide),rfl⟩).bind λbl s7 g3 a3 c3 =>?_
  refine dH (((a.to (e5.trans e4)).app a2).app a3) ?_;obtain⟨m,hm⟩:=c;obtain⟨j,hj⟩:=c2;refine⟨by decide,by decide,by simpa [iT]using hi,⟨by simpa [eP]using ⟨n1,n2⟩,by show n<=_;omega⟩,?_,⟨_,dB q0 (by decide),rfl⟩⟩;rw[Wd.app_kds,Wd.app_kds,hm,hj,c3];have:=Ie m j;simpa [bz,Wd.kds]using this
 split
 ·exact rest 0 s3 (by decide) (by decide) rfl
 ·exact wM λn s4 h1 h2 e4=>rest n s4 (by omega) (by omega) e4
theorem Ih (s:St)(n0:List Nd)(f:Wd)(a:List Int)(hA:At (Pk ts) n0 s f a):j5 ts n0 (λl=>∃m,l=f.kds++List.replicate m 3) (f_ ts rec a s):=by
 unfold f_;split
 ·refine(Lm hr hk s).bind λv s1 g b c =>?_
  refine(hr.procs s1 n0 _ _ (hA.app b)).imp λl q =>?_
  obtain⟨m,e⟩:=q;exact⟨m+1,by rw[e,f.app_kds,c,List.append_assoc];rfl⟩
 ·exact o8.ok hA ⟨0,by simp⟩
end
theorem kC {ts:List Tok}{n0:List Nd}{C:List Int->Prop}:j5 ts n0 C .out:=λ_ _ h=>by cases h
theorem Ii {ts:List Tok}(hk:Om ts):∀f,Oo ts (run ts f)
 |0=>⟨λ_=>kC,λ_ _ _=>kC,λ_ _ _ _ _ _ _ _=>kC,λ_ _ _ _ _=>kC,λ_=>kC,λ_ _ _ _ _ _ _ _=>kC,λ_ _ _ _ _ _ _=>kC,λ_ _ _ _ _=>kC,λ_ _ _ _ _=>kC⟩
 |f+1=>by
  have ih:=Ii hk f;exact⟨λs=>Oq ih hk s,λr s h=>Ot ih r s h,λr s n0 g l h hA hE=>Lg ih r s n0 g l h hA hE,λs n0 g a hA=>H7 ih s n0 g a hA,λs=>Lj ih hk s,
   λs n0 g a pl hA hS hp=>H8 ih s n0 g a pl hA hS hp,λj s n0 g a h hA=>Ll ih hk j s n0 g a h hA,λs n0 g a hA=>Ee ih hk s n0 g a hA,λs n0 g a hA=>Ih ih hk s n0 g a hA⟩
theorem Ow {ts:List Tok}(hk:Om ts){v:List Int}{s':St}(h:jd ts=.ok v s'):∃g:Wd,s'.nd=g.fl 0++[⟨1,0,0,[],g.rt 0⟩]/\g.all (Pk ts)/\bz 1 g.kds=true:=by
 have hr:=Ii hk (steps ts);unfold jd bT at h;obtain⟨v1,s1,h1,h⟩:=Rs.bind_ok h;obtain⟨v2,s2,h2,h⟩:=Rs.bind_ok h;obtain⟨v3,s3,h3,h⟩:=Rs.bind_ok h;obtain⟨g1,a1,m,c1⟩:=hr.vars 2 st0 [] .nil [] (.inl rfl) (At.nil st0) v1 s1 h1;obtain⟨g2,a2,j,c2⟩:=hr.procs s1 [] g1 v1 a1 v2 s2 h2;obtain⟨_,e3⟩:=Hy ts s2 v3 s3 h3;have a3:=a2.to e3;unfold bC at h;cases h;refine⟨g2,?_,a3.2.2,?_⟩
 ·show s3.nd++[_]=_;rw[a3.1,a3.2.1];rfl
 ·rw[c2,c1];have:=Ig m j;simpa [bz,Wd.kds]using this
theorem Ox {ts:List Tok}(hk:Om ts){v:List Int}{s':St}(h:pq ts=.ok v s'):∃g:Wd,s'.nd=g.fl 0/\v=g.rt 0/\g.all (Pk ts)/\E1 g.kds:=by
 have hr:=Ii hk (steps ts);unfold pq kI at h;obtain⟨v1,s1,h1,h⟩:=Rs.bind_ok h;obtain⟨v2,s2,h2,h⟩:=Rs.bind_ok h;obtain⟨g,a,c⟩:=gU hr st0 v1 s1 h1;obtain⟨_,e2⟩:=Hy ts s1 v2 s2 h2;have a2:=a.to e2;cases h;refine⟨g,?_,a2.2.1,a2.2.2,c⟩;rw[a2.1];rfl
theorem Wd.all_imp {P Q:Int->Int->Int->List UInt8->List Int->Prop}(h:∀kd n pl tx l,P kd n pl tx l->Q kd n pl tx l):∀ {g:Wd},g.all P->g.all Q
 | .nil,_=>True.intro
 | .snoc _ _ _ _ _ _,k=>⟨Wd.all_imp h k.1,Wd.all_imp h k.2.1,h _ _ _ _ _ k.2.2⟩
theorem Wd.all_mem {P:Int->Int->Int->List UInt8->List Int->Prop}:∀ {g:Wd} (o:Nat),g.all P->∀x ∈ g.fl o,∃l,P x.kd x.n x.pl x.tx l/\x.ks.length=l.length
 | .nil,_,_,x,hx=>by cases hx
 | .snoc f kd n pl tx ks,o,h,x,hx=>by
  simp only[Wd.fl,List.mem_append,List.mem_singleton]at hx;rcases hx with hx |hx |rfl
  ·exact Wd.all_mem o h.1 x hx
  ·exact Wd.all_mem _ h.2.1 x hx
  ·exact⟨ks.kds,h.2.2,ks.rt_len _⟩
end
section
open Go
open Tr (ig iT eP bz aI dS eY rR iq gI kD aJ kV iU lJ nth jr Sd iJ tu)
theorem Bc {l m:List Tr.Nd}{p:Nat}(h:p<l.length):aJ (l++m) p=aJ l p:=by
 unfold aJ;rw[List.map_append,List.getD_eq_getElem?_getD,List.getD_eq_getElem?_getD,List.getElem?_append_left (by simpa using h)]
theorem zO (l:List Tr.Nd)(x:Tr.Nd):aJ (l++[x]) l.length=x.ks:=by
 unfold aJ;rw[List.map_append,List.getD_eq_getElem?_getD,List.getElem?_append_right (by simp)];simp
theorem Ij {l:List Tr.Nd}{b c:Nat->Nat}{m:List Tr.Nd}(h:kD l b l.length)(e:∀q,q<l.length->c q=b q):kD (l++m) c l.length:=λp hp=>by
 rw[Bc hp,<- Tr.fP (b:=b) _ p (λq hq=>(e q (by omega)).symm) (λq hq=>h.le q (by omega)),e p hp];exact h p hp
theorem Ik:∀(g:Wd) (pre:List Nd) (b:Nat->Nat),kD (pre.map dI) b pre.length->∃c:Nat->Nat,(∀q,q<pre.length->c q=b q)/\kD ((pre++g.fl pre.length).map dI) c (pre.length+g.sz)/\gI c (g.rt pre.length).reverse (pre.length+g.sz)=some pre.length
 | .nil,pre,b,h=>⟨b,λ_ _=>rfl,by simpa [Wd.fl,Wd.sz]using h,by simp[Wd.rt,Wd.sz,gI]⟩
 | .snoc f kd n pl tx ks,pre,b,h=>by
  obtain⟨b1,e1,s1,k1⟩:=Ik f pre b h;obtain⟨p1,hp1⟩:∃p1,p1=pre++f.fl pre.length:=⟨_,rfl⟩;have l1:p1.length=pre.length+f.sz:=by rw[hp1,List.length_append,f.fl_len]
  rw[<- hp1]at s1;rw[<- l1]at s1 k1;obtain⟨b2,e2,s2,k2⟩:=Ik ks p1 b1 s1;obtain⟨p2,hp2⟩:∃p2,p2=p1++ks.fl p1.length:=⟨_,rfl⟩;have l2:p2.length=p1.length+ks.sz:=by rw[hp2,List.length_append,ks.fl_len]
  rw[<- hp2]at s2;rw[<- l2]at s2 k2;have hm2:(p2.map dI).length=p2.length:=List.length_map ..;refine⟨λq=>if q=p2.length then p1.length else b2 q,λq hq =>?_,?_,?_⟩
  ·show(if q=p2.length then p1.length else b2 q)=b q;rw[if_neg (by omega),e2 q (by omega),e1 q hq]
  ·have hfl:pre++(Wd.snoc f kd n pl tx ks).fl pre.length=p2++[⟨kd,n,pl,tx,ks.rt p1.length⟩]:=by
    rw[hp2,hp1,<- hp1,l1,Wd.fl];simp[hp1]
   rw[hfl,show pre.length+(Wd.snoc f kd n pl tx ks).sz=p2.length+1 by rw[l2,l1];simp only[Wd.sz];omega,List.map_append];intro p hp;by_cases q:p=p2.length
   ·subst q;have:=zO (p2.map dI) (dI ⟨kd,n,pl,tx,ks.rt p1.length⟩);rw[hm2]at this;show gI _ (aJ (p2.map dI++[dI ⟨kd,n,pl,tx,ks.rt p1.length⟩]) p2.length).reverse p2.length=some (if p2.length=p2.length then p1.length else _);rw[this,if_pos rfl,<- Tr.fP (b:=b2) _ p2.length (λq hq=>by show b2 q=if q=p2.length then _ else b2 q;rw[if_neg (by omega)]) (λq hq=>s2.le q hq)];exact k2
   ·have s3:kD (p2.map dI) b2 (p2.map dI).length:=by rw[hm2];exact s2
    exact Ij s3 (λq hq=>by show(if q=p2.length then p1.length else b2 q)=b2 q;rw[if_neg (by omega)]) p (by omega)
  ·rw[show pre.length+(Wd.snoc f kd n pl tx ks).sz=p2.length+1 by rw[l2,l1];simp only[Wd.sz];omega];show gI _ (f.rt pre.length++[((pre.length+f.sz+ks.sz:Nat):Int)]).reverse (p2.length+1)=_;rw[List.reverse_append,List.reverse_singleton,List.singleton_append,<- l1,<- l2];unfold gI;rw[if_neg (by omega),if_pos (by omega)];show gI _ (f.rt pre.length).reverse (if p2.length+1-1=p2.length then p1.length else _)=_;rw[if_pos (by omega),<- Tr.fP (b:=b1) _ p1.length (λq hq=>by show b1 q=if q=p2.length then _ else b2 q;rw[if_neg (by omega),e2 q hq]) (λq hq=>s1.le q hq)];exact k1
theorem CK {P:Int->Int->Int->List UInt8->List Int->Prop}(hP:∀kd n pl tx l,P kd n pl tx l->1<=kd/\kd<=27/\iT kd tx=true/\eP kd n=true/\bz kd l=true):∀(g:Wd) (pre post:List Nd),g.all P ->
  (g.rt pre.length).map (λk=>(nth ((pre++g.fl pre.length++post).map dI) k.toNat).kd)=g.kds/\∀x ∈ g.fl pre.length,kV ((pre++g.fl pre.length++post).map dI) (dI x)=true
 | .nil,_,_,_=>⟨rfl,λx hx=>by cases hx⟩
 | .snoc f kd n pl tx ks,pre,post,h=>by
  obtain⟨p1,hp1⟩:∃p1,p1=pre++f.fl pre.length:=⟨_,rfl⟩;have l1:p1.length=pre.length+f.sz:=by rw[hp1,List.length_append,f.fl_len]
  obtain⟨x,hx⟩:∃x:Nd,x=⟨kd,n,pl,tx,ks.rt p1.length⟩:=⟨_,rfl⟩;have hL:pre++(Wd.snoc f kd n pl tx ks).fl pre.length++post=p1++ks.fl p1.length++([x]++post):=by
   rw[hx,hp1,<- hp1,l1,Wd.fl];simp[hp1]
  have hL2:pre++(Wd.snoc f kd n pl tx ks).fl pre.length++post=pre++f.fl pre.length++(ks.fl p1.length++([x]++post)):=by rw[hL,hp1];simp
  obtain⟨a1,a2⟩:=CK hP f pre (ks.fl p1.length++([x]++post)) h.1;obtain⟨c1,c2⟩:=CK hP ks p1 ([x]++post) h.2.1;rw[<- hL2]at a1 a2;rw[<- hL]at c1 c2;have hq:=hP _ _ _ _ _ h.2.2;have hxn:nth ((pre++(Wd.snoc f kd n pl tx ks).fl pre.length++post).map dI) (p1.length+ks.sz)=dI x:=by
   rw[hL];unfold nth;rw[List.getD_eq_getElem?_getD,List.map_append,List.getElem?_append_right (by simp[ks.fl_len]),List.map_append];simp[ks.fl_len]
  refine⟨?_,λy hy =>?_⟩
  ·show(f.rt pre.length++[((pre.length+f.sz+ks.sz:Nat):Int)]).map _=f.kds++[kd];rw[List.map_append,a1,List.map_singleton,<- l1,Int.toNat_natCast,hxn,hx];rfl
  ·simp only[Wd.fl,List.mem_append,List.mem_singleton]at hy;rw[<- l1]at hy;rcases hy with hy |hy |hy
   ·exact a2 y hy
   ·exact c2 y hy
   ·have e:y=x:=by rw[hy,hx]
    subst e;unfold kV;have e1:(dI y).kd=kd:=by rw[hx];rfl
    have e2:(dI y).n=n:=by rw[hx];rfl
    have e3:(dI y).tx.data.toList=tx:=by rw[hx];exact qQ tx
    have e4:(dI y).ks=ks.rt p1.length:=by rw[hx];rfl
    rw[e1,e2,e3,e4,c1,decide_eq_true hq.1,decide_eq_true hq.2.1,hq.2.2.1,hq.2.2.2.1,hq.2.2.2.2];rfl
theorem Il {f:Wd}{kd n pl:Int}{tx:List UInt8}{ks:Wd}(hf:f=.nil)(h:((Wd.snoc f kd n pl tx ks).fl 0).length<=4000):iJ (((Wd.snoc f kd n pl tx ks).fl 0).map dI) ((((Wd.snoc f kd n pl tx ks).fl 0).length:Int)-1):=by
 subst hf;obtain⟨c,_,s,k⟩:=Ik (Wd.snoc .nil kd n pl tx ks) [] (λ_=>0) (λp hp=>absurd hp (by simp));have hz:(Wd.snoc Wd.nil kd n pl tx ks).sz=ks.sz+1:=by simp[Wd.sz]
 have hlen:((Wd.snoc .nil kd n pl tx ks).fl 0).length=ks.sz+1:=by rw[Wd.fl_len,hz]
 have hml:(((Wd.snoc .nil kd n pl tx ks).fl 0).map dI).length=ks.sz+1:=by rw[List.length_map,hlen]
 simp only[List.nil_append,List.length_nil,Nat.zero_add,hz]at s k;refine⟨c,by rw[hml];omega,by rw[hml];omega,by rw[hml,hlen],by rw[hml];exact s,?_⟩;rw[hml];have k2:gI c [((ks.sz:Nat):Int)] (ks.sz+1)=some 0:=by simpa [Wd.rt,Wd.sz]using k
 unfold gI at k2;rw[if_neg (by omega),if_pos (by omega)]at k2;unfold gI at k2;exact Option.some.inj k2
theorem zP {kd:Int}{l:List UInt8}(h:iT kd l=true):l.length<=20:=by
 have hid:ig l=true->l.length<=20:=λq=>by
  unfold ig at q;simp only[Bool.and_eq_true,decide_eq_true_eq]at q;omega
 unfold iT at h;split at h
 ·exact hid h
 split at h
 ·simp only[Bool.or_eq_true,beq_iff_eq]at h;rcases h with h |h
  ·exact hid h
  ·rw[h];simp
 split at h
 ·simp only[Bool.or_eq_true,beq_iff_eq]at h;rcases h with h |h<;>rw[h]<;>simp
 split at h
 ·simp only[rR,Bool.or_eq_true,beq_iff_eq]at h;rcases h with(((((((((((h |h) |h) |h) |h) |h) |h) |h) |h) |h) |h) |h) |h<;>rw[h]<;>simp
 ·simp only[beq_iff_eq]at h;rw[h];simp
end
section
open Go
open Tr (iT eP bz kV iU lJ nth jr iJ tu)
theorem QJ (l:List UInt8):Tk.ig l=Tr.ig l:=rfl
theorem Oy {x:List UInt8}{v:Int}(h:Tk.pQ x=some v)(hh:(x.headD 0).toNat≠45):0<=v/\v<=9223372036854775807:=by
 unfold Tk.pQ at h;split at h
 ·cases h
 split at h
 ·rename_i u hu;injection h with h
  subst h;cases x with
  |nil=>simp[Lib.parseIntB]at hu
  |cons c r=>
   have hc:c.toNat≠45:=hh;unfold Lib.parseIntB at hu;simp only[hc,or_false]at hu;split at hu
   ·cases hu
   ·cases hu
   ·split at hu
    ·cases hu
    split at hu
    ·cases hu
    ·injection hu with hu
     rename_i q _;simp at q hu;omega
 ·cases h
theorem zQ {x:List UInt8}(h:Tk.dJ x=true):Tk.dh x≠2:=by
 unfold Tk.dh;rw[h];split
 ·decide
 split
 ·decide
 ·rw[if_pos rfl];decide
theorem Bd {l:List UInt8}{p:Nat}(hp:p<l.length)(h1:Tk.j_ (l.getD p 0)=false)(h2:Tk.o_ (l.getD p 0)=false)(hk:Tk.dh (Tk.sub l p (Tk.jk l p))=2):((Tk.sub l p (Tk.jk l p)).headD 0).toNat≠45:=by
 have hd:l.drop p=l.getD p 0 :: l.drop (p+1):=by
  rw[List.drop_eq_getElem_cons hp];simp[List.getD,hp]
 have hb:=Tk.fD hp;have hhead:(Tk.sub l p (Tk.jk l p)).headD 0=l.getD p 0:=by
  unfold Tk.sub;obtain⟨m,hm⟩:∃m,Tk.jk l p-p=m+1:=⟨Tk.jk l p-p-1,by omega⟩;rw[hm,hd];rfl
 rw[hhead];intro q;cases h3:Tk.wdB (l.getD p 0) with
 |true=>
  unfold Tk.wdB Tk.jW at h3;rw[q]at h3;revert h3;decide
 |false=>
  have he:=Tk.Mo h1 h2 h3;split at he
  ·rename_i g;have:Tk.sub l p (Tk.jk l p)=(l.drop p).take 2:=by unfold Tk.sub;rw[he];congr 1;omega
   rw[this]at hk;exact zQ g.1 hk
  ·have e:Tk.sub l p (Tk.jk l p)=[l.getD p 0]:=by
    unfold Tk.sub;rw[he,show p+1+0-p=0+1 by omega,hd];rfl
   have e2:l.getD p 0=45:=UInt8.toNat_inj.1 q;rw[e,e2]at hk;exact zQ (by decide) hk
theorem ql:∀(f:Nat) (l:List UInt8) (p:Nat) (ts:List Tk.Tok),Tk.nZ f l p=.ok ts->∀t ∈ ts,t.p<=l.length/\(t.k=1->Tr.ig t.s=true)/\(t.k=2->0<=t.n/\t.n<=9223372036854775807)
 |0,l,p,ts,h=>by
  simp only[Tk.nZ]at h;injection h with h
  subst h;intro t ht;rw[List.mem_singleton]at ht;subst ht;exact⟨Nat.le_refl _,(λq=>by cases q),(λq=>by cases q)⟩
 |f+1,l,p,ts,h=>by
  simp only[Tk.nZ]at h;split at h
  case isFalse=>
   injection h with h
   subst h;intro t ht;rw[List.mem_singleton]at ht;subst ht;exact⟨Nat.le_refl _,(λq=>by cases q),(λq=>by cases q)⟩
  case isTrue hp=>
   split at h
   ·exact ql f l _ ts h
   split at h
   ·cases h
   ·rename_i hsc h0;cases h1:Tk.nZ f l (Tk.jk l p) with
    |bad q=>rw[h1]at h;cases h
    |ok us=>
     rw[h1]at h;have ih:=ql f l _ us h1;simp only[Tk.xU.pre]at h;injection h with h
     subst h;intro t ht;rcases List.mem_cons.1 ht with rfl |ht
     ·refine⟨Nat.le_of_lt hp,λq =>?_,λq =>?_⟩
      ·have q:Tk.dh (Tk.sub l p (Tk.jk l p))=1:=q;show Tr.ig (Tk.sub l p (Tk.jk l p))=true;rw[<- QJ];unfold Tk.dh at q;split at q
       ·cases q
       split at q
       ·assumption
       split at q
       ·cases q
       split at q<;>cases q
      ·have q:Tk.dh (Tk.sub l p (Tk.jk l p))=2:=q;show 0<=Tk.jT (Tk.sub l p (Tk.jk l p))/\Tk.jT (Tk.sub l p (Tk.jk l p))<=9223372036854775807;simp only[Bool.or_eq_true,not_or,Bool.not_eq_true]at hsc;have hh:=Bd hp hsc.1 hsc.2 q;unfold Tk.jT;rw[if_pos q];unfold Tk.vI;cases e:Tk.pQ (Tk.sub l p (Tk.jk l p)) with
       |none=>exact⟨by decide,by decide⟩
       |some v=>exact Oy e hh
     ·exact ih t ht
theorem zR {l:List UInt8}{us:List Tk.Tok}(h:Tk.iF l 0=.ok us):Om (us.map vL)/\∀t ∈ us.map vL,t.p<=l.length:=by
 have hf:=ql _ _ _ _ h;refine⟨λt ht =>?_,λt ht =>?_⟩
 ·obtain⟨u,hu,rfl⟩:=List.mem_map.1 ht;exact(hf u hu).2
 ·obtain⟨u,hu,rfl⟩:=List.mem_map.1 ht;exact(hf u hu).1
structure RY (ts:List Tok) (nd:List Nd):Prop where
 right:lJ (nd.map dI) ((nd.length:Int)-1)=true
 pos:1<=nd.length
 few:nd.length<=4000
 kids:∀x ∈ nd.map dI,x.ks.length<=4000
 text:∀x ∈ nd.map dI,x.tx.size<=281474976710656
 num:∀x ∈ nd.map dI,x.n<=9223372036854775807
 at_:∀i (hi:i<nd.length),i+1<nd.length->∃t ∈ ts,(t.p:Int)=nd[i].pl
theorem vk {l:List UInt8}{us:List Tk.Tok}{nd:List Nd}{k:Nat}(hc:Tk.iF l 0=.ok us)(h:gW jd l=.good nd k):RY (us.map vL) nd:=by
 rcases(yR (Gv hc)).cases with⟨v,s',q,_⟩ |⟨p',e',q,_,_⟩
 case inr=>rw[zJ hc q]at h;cases h
 rw[oo hc q]at h;split at h
 ·cases h
 split at h
 ·cases h
 rename_i h4 h5;injection h with h1 h2
 subst h1;obtain⟨g,hnd,hall,hkid⟩:=Ow (zR hc).1 q;obtain⟨G,hG⟩:∃G:Wd,G=.snoc .nil 1 0 0 [] g:=⟨_,rfl⟩;have hfl:s'.nd=G.fl 0:=by rw[hnd,hG];simp[Wd.fl,Wd.sz]
 have hlen:s'.nd.length=g.sz+1:=by rw[hnd,List.length_append,g.fl_len];rfl
 have hP:∀kd n pl tx l,Pk (us.map vL) kd n pl tx l->1<=kd/\kd<=27/\iT kd tx=true/\eP kd n=true/\bz kd l=true:=λkd n pl tx l r=>⟨r.1,r.2.1,r.2.2.1,r.2.2.2.1.1,r.2.2.2.2.1⟩
 have hGall:G.all (λkd n pl tx l=>1<=kd/\kd<=27/\iT kd tx=true/\(eP kd n=true/\n<=9223372036854775807)/\bz kd l=true):=by
  rw[hG];exact⟨True.intro,Wd.all_imp (λkd n pl tx l r=>⟨r.1,r.2.1,r.2.2.1,r.2.2.2.1,r.2.2.2.2.1⟩) hall,by decide,by decide,by decide,⟨by decide,by decide⟩,hkid⟩
 have hmem:=Wd.all_mem 0 hGall;rw[<- hfl]at hmem;have hks:=wE q;have hsn:iJ (s'.nd.map dI) ((s'.nd.length:Int)-1):=by
  have:=Il (f :=.nil) (kd:=1) (n:=0) (pl:=0) (tx:=[]) (ks:=g) rfl (by rw[<- hG,<- hfl];omega);rw[<- hG,<- hfl]at this;exact this
 refine⟨?_,by omega,by omega,λx hx =>?_,λx hx =>?_,λx hx =>?_,λi hi h1 =>?_⟩
 ·unfold lJ;rw[Tr.lQ hsn,decide_eq_true (by omega)];have hroot:(nth (s'.nd.map dI) ((s'.nd.map dI).length-1)).kd=1:=by
   rw[List.length_map,hlen,Nat.add_sub_cancel,hnd,List.map_append];unfold nth;rw[List.getD_eq_getElem?_getD,List.getElem?_append_right (by simp[g.fl_len])];simp[g.fl_len,dI]
  have hsh:iU (s'.nd.map dI)=true:=by
   have:=(CK (P:=λkd n pl tx l=>1<=kd/\kd<=27/\iT kd tx=true/\(eP kd n=true/\n<=9223372036854775807)/\bz kd l=true) (λkd n pl tx l r=>⟨r.1,r.2.1,r.2.2.1,r.2.2.2.1.1,r.2.2.2.2⟩) G [] [] hGall).2;simp only[List.nil_append,List.append_nil,List.length_nil,<- hfl]at this;unfold iU;rw[List.all_eq_true];intro x hx;obtain⟨y,hy,rfl⟩:=List.mem_map.1 hx;exact this y hy
  rw[hroot,hsh];rfl
 ·obtain⟨y,hy,rfl⟩:=List.mem_map.1 hx;have:=hks y hy;show y.ks.length<=4000;omega
 ·obtain⟨y,hy,rfl⟩:=List.mem_map.1 hx;obtain⟨l',r,_⟩:=hmem y hy;have:=zP r.2.2.1;show(bs y.tx).size<=_;simp[bs,ByteArray.size];omega
 ·obtain⟨y,hy,rfl⟩:=List.mem_map.1 hx;obtain⟨l',r,_⟩:=hmem y hy;exact r.2.2.2.1.2
 ·have hig:i<(g.fl 0).length:=by rw[g.fl_len];omega
  have e:s'.nd[i]=(g.fl 0)[i]:=by
   simp only[hnd];exact List.getElem_append_left hig
  obtain⟨l',r,_⟩:=Wd.all_mem 0 hall _ (List.getElem_mem hig);rw[e];exact r.2.2.2.2.2
end
end Go.Proofs.YteecfjhjllajlaaGreatDoor
namespace Go.Proofs.YteecfjhjllajlaaGreatDoor.Tk
open Go Go.RowKit
def I_:xU->Option (List (Nat × Int × List UInt8))
 | .bad _=>none
 | .ok ts=>some (ts.map strip)
theorem yw (t:Tok)(r:xU):I_ (r.pre [t])=(I_ r).map (strip t :: ·):=by cases r<;>rfl
theorem kF:∀(n i j:Nat) (r:List UInt8),r.length<=n->I_ (kW i r)=I_ (kW j r)
 |n,i,j,[],_=>rfl
 |0,i,j,c :: r,h=>by simp at h
 |n+1,i,j,c :: r,h=>by
  have ht:r.length<=n:=by simpa using h
  have hd:=nu (q:=vK) r;have hp:=qh c r;have hl:((c :: r).drop (pc (c :: r)).length).length<=r.length:=by rw[List.length_drop,List.length_cons];omega
  cases h1:j_ c
  ·cases h2:o_ c
   ·by_cases h3:dh (pc (c :: r))=0
    ·rw[ve h1 h2 h3,ve h1 h2 h3];rfl
    ·rw[rF h1 h2 h3,rF h1 h2 h3,yw,yw,kF n _ (j+(pc (c :: r)).length) _ (by omega)];rfl
   ·rw[ym h1 h2,ym h1 h2];exact kF n _ _ _ (by omega)
  ·rw[rE h1,rE h1];exact kF n _ _ _ ht
theorem Oz {r:xU}{x:List (Nat × Int × List UInt8)}(h:I_ r=some x):∃us,r=.ok us/\us.map strip=x:=by
 cases r with
 |bad p=>cases h
 |ok us=>exact⟨us,rfl,by injection h⟩
end Go.Proofs.YteecfjhjllajlaaGreatDoor.Tk
namespace Go.Proofs.YteecfjhjllajlaaGreatDoor
open Go Go.RowKit
theorem bR.ks {l m:List Tr.Nd}(h:bR l m):l.map Tr.Nd.ks=m.map Tr.Nd.ks:=by
 have:=congrArg (List.map λx:Int × Int × ByteArray × List Int=>x.2.2.2) h;rw[List.map_map,List.map_map]at this;exact this
theorem bR.len {l m:List Tr.Nd}(h:bR l m):l.length=m.length:=by have:=congrArg List.length h;simpa using this
theorem bR.kids {l m:List Tr.Nd}(h:bR l m)(p:Nat):Tr.aJ l p=Tr.aJ m p:=by unfold Tr.aJ;rw[h.ks]
theorem bR.dpL {l m:List Tr.Nd}(h:bR l m):∀n,Tr.dpL l n=Tr.dpL m n
 |0=>rfl
 |n+1=>by simp only[Tr.dpL];rw[h.dpL n,h.kids]
theorem bR.snd {l m:List Tr.Nd}(h:bR l m){r:Int}(q:Tr.iJ l r):Tr.iJ m r:=by
 obtain⟨b,h1,h2,h3,h4,h5⟩:=q;refine⟨b,by rw[<- h.len];exact h1,by rw[<- h.len];exact h2,by rw[<- h.len];exact h3,?_,by rw[<- h.len];exact h5⟩;rw[<- h.len];intro p hp;rw[<- h.kids];exact h4 p hp
theorem bR.symm {l m:List Tr.Nd}(h:bR l m):bR m l:=Eq.symm h
theorem bR.dpt {l m:List Tr.Nd}(h:bR l m)(r:Int):Tr.dpt l r=Tr.dpt m r:=by
 by_cases q:Tr.iJ l r
 ·rw[Tr.ko q,Tr.ko (h.snd q),h.len,h.dpL]
 ·rw[Tr.rY q,Tr.rY (λz=>q (h.symm.snd z))]
inductive Ms:uQ->uQ->Prop
 |bad (p p' e:Nat):Ms (.bad p e) (.bad p' e)
 |good (nd nd':List Nd) (k:Nat) (h:nd.map Od=nd'.map Od):Ms (.good nd k) (.good nd' k)
end Go.Proofs.YteecfjhjllajlaaGreatDoor
namespace Go.Proofs.YteecfjhjllajlaaGreatDoor
open Go Go.RowKit
def up (c:Nat)(x:Nd):Nd := {x with ks:=x.ks.map (· + (c:Int))}
structure Pl where
 n:Nat
 d:Nat
 l0:List Nd
 o:Nat
 m:Nat
def Pl.sh (P:Pl)(s:St):St:=⟨s.nx+P.d,P.l0++s.nd.map (up P.l0.length),s.op+P.o,max P.m (s.mo+P.o)⟩
def Pl.shV (P:Pl)(v:List Int):List Int:=v.map (· + (P.l0.length:Int))
def eT:Tok:=⟨5,0,0,[]⟩
structure Pl.In (P:Pl) (ts ts':List Tok):Prop where
 same:∀i,i<P.n->ts'.getD (i+P.d) eT=ts.getD i eT
 endK : (ts.getD P.n eT).k = 5
 endS : (ts.getD P.n eT).s = []
 finK:(ts'.getD (P.n+P.d) eT).k≠1/\(ts'.getD (P.n+P.d) eT).k≠2
 finS:(ts'.getD (P.n+P.d) eT).s=[41]
def Ef (P:Pl)(s:St)(q:Nat)(r r':Rs):Prop:=∀v s1,r=.ok v s1->s1.op=q/\s.mo<=s1.mo/\s1.nx<=P.n/\(s1.mo+P.o<=40->r' = .ok (P.shV v) (P.sh s1))
section
variable {P:Pl} {s:St} {q:Nat}
theorem Ef.no {p e:Nat}{r':Rs}:Ef P s q (.no p e) r':=λv s1 h=>by cases h
theorem Ef.out {r':Rs}:Ef P s q .out r':=λv s1 h=>by cases h
theorem Ef.ok (hs:s.nx<=P.n)(v:List Int):Ef P s s.op (.ok v s) (.ok (P.shV v) (P.sh s)):=λv s1 h=>by
 injection h with h1 h2
 subst h1 h2;exact⟨rfl,Nat.le_refl _,hs,λ_=>rfl⟩
theorem Ef.bind {q2:Nat}{r r':Rs}{k k':List Int->St->Rs}(h:Ef P s q r r')(hk:∀v s1,s1.nx<=P.n->s1.op=q->Ef P s1 q2 (k v s1) (k' (P.shV v) (P.sh s1))):Ef P s q2 (r.bind k) (r'.bind k'):=λv s2 e=>by
 obtain⟨v1,s1,e1,e2⟩:=Rs.bind_ok e;obtain⟨a1,a2,a3,a4⟩:=h v1 s1 e1;obtain⟨b1,b2,b3,b4⟩:=hk v1 s1 a3 a1 v s2 e2;refine⟨b1,Nat.le_trans a2 b2,b3,λhm =>?_⟩;rw[a4 (by omega)];exact b4 hm
theorem Ef.from {s0:St}{r r':Rs}(h:Ef P s q r r')(hm:s0.mo<=s.mo):Ef P s0 q r r':=λv s1 e=>by
 obtain⟨a1,a2,a3,a4⟩:=h v s1 e;exact⟨a1,Nat.le_trans hm a2,a3,a4⟩
variable {ts ts':List Tok} (hP:P.In ts ts')
include hP
end
theorem av (v:List Int)(s:St)(k:List Int->St->Rs):(Rs.ok v s).bind k=k v s:=rfl
namespace Tk
def Lp:List (List UInt8):=[[43],[45],[42],[47],[37],[61,61],[33,61],[60],[60,61],[62],[62,61],[38,38],[124,124]]
end Tk
def gT (x:Nat × Int × List UInt8):Tok:=⟨x.1,x.2.1,0,x.2.2⟩
theorem QK (us:List Tk.Tok):(us.map vL).map jJ=(us.map Tk.strip).map gT:=by rw[List.map_map,List.map_map];rfl
theorem OA {r:Rs}{v:List Int}{s:St}(h:jV r=.ok v s):∃s',r=.ok v s'/\jo s'=s:=by
 cases r with
 |out=>cases h
 |no p e=>cases h
 |ok v' s'=>injection h with h1 h2;subst h1;exact⟨s',rfl,h2⟩
section
open Tr (Bx aa bt au aP ax aA eF)
def QL (p er:Int)(w:World)(e:Ending)(w':World):Prop:=e=.returned (.tuple #[.agg #[.slice none 0 0,.int .i64 0],.int .i64 p,.int .i64 er])/\Below w.heap.size w w'
theorem QL.of {p e:Nat}{a:uQ}{w w':World}{v:Ending}(ha:a=.bad p e)(h:kP a w v w'):QL p e w v w':=by
 subst ha;obtain⟨A,n,c,r,m,p',er',rfl,hb,rfl,rfl,rfl,rfl,rfl,rfl,rfl⟩:=h;exact⟨rfl,hb⟩
def RN (l:List Tr.Nd)(n:Nat)(w:World)(e:Ending)(w':World):Prop:=∃A c,e=.returned (.tuple #[.agg #[.slice A n c,.int .i64 ((n:Int)-1)],.int .i64 0,.int .i64 0])/\Below w.heap.size w w'/\eF w' A l
theorem RN.of {nd:List Nd}{k n:Nat}{a:uQ}{w w':World}{v:Ending}(ha:a=.good nd k)(hn:nd.length=n)(h:kP a w v w'):RN (nd.map dI) n w v w':=by
 subst ha hn;obtain⟨A,n,c,r,m,p',er',rfl,hb,rfl,rfl,rfl,rfl,rfl,hN⟩:=h;exact⟨A,c,rfl,hb,hN.nds⟩
def QM (w:World)(e:Ending)(w':World):Prop:=∃A n c r p er,e=.returned (.tuple #[.agg #[.slice A n c,.int .i64 r],.int .i64 p,.int .i64 er])/\Below w.heap.size w w'
theorem QM.of {a:uQ}{w w':World}{v:Ending}(h:kP a w v w'):QM w v w':=by
 obtain⟨A,n,c,r,m,p',er',rfl,hb,_⟩:=h;exact⟨A,n,c,r,p',er',rfl,hb⟩
end
section
open Tr (Bx aa bt au aP ax aA eF)
def SS (a b c d:Nat)(u v x y:List Value)(W:World):Prop:=Bx W a 25 u/\Bx W b 25 v/\Bx W c 25 x/\Bx W d 25 y
theorem SS.below {a b c d:Nat}{u v x y:List Value}{W W':World}(h:SS a b c d u v x y W)(hb:Below W.heap.size W W'):SS a b c d u v x y W':=⟨h.1.below hb h.1.lt,h.2.1.below hb h.2.1.lt,h.2.2.1.below hb h.2.2.1.lt,h.2.2.2.below hb h.2.2.2.lt⟩
end
end Go.Proofs.YteecfjhjllajlaaGreatDoor
