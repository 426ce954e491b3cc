/- PROVED: Se Yf Rc Yu Yv Yw Yx Za. No more condition. -/
import Derived.Test.YteecfjhjllajlaaGreatDoorM31
import Derived.Test.YteecfjhjllajlaaGreatDoorM30
namespace Go.Proofs.YteecfjhjllajlaaGreatDoor
open Go.Lib (hid)
open Go Go.RowKit
inductive Wd where
 |nil
 |snoc (f:Wd) (kd n pl:Int) (tx:List UInt8) (ks:Wd)
def Wd.sz:Wd->Nat
 | .nil=>0
 | .snoc f _ _ _ _ ks=>f.sz+ks.sz+1
def Wd.rt (o:Nat):Wd->List Int
 | .nil=>[]
 | .snoc f _ _ _ _ ks=>f.rt o++[((o+f.sz+ks.sz:Nat):Int)]
def Wd.fl (o:Nat):Wd->List Nd
 | .nil=>[]
 | .snoc f kd n pl tx ks=>f.fl o++(ks.fl (o+f.sz)++[⟨kd,n,pl,tx,ks.rt (o+f.sz)⟩])
def Wd.kds:Wd->List Int
 | .nil=>[]
 | .snoc f kd _ _ _ _=>f.kds++[kd]
def Wd.app (f:Wd):Wd->Wd
 | .nil=>f
 | .snoc g kd n pl tx ks =>.snoc (f.app g) kd n pl tx ks
def Wd.all (P:Int->Int->Int->List UInt8->List Int->Prop):Wd->Prop
 | .nil=>True
 | .snoc f kd n pl tx ks=>f.all P/\ks.all P/\P kd n pl tx ks.kds
theorem Wd.fl_len:∀(f:Wd) (o:Nat),(f.fl o).length=f.sz
 | .nil,_=>rfl
 | .snoc f kd n pl tx ks,o=>by
  simp only[Wd.fl,Wd.sz,List.length_append,List.length_singleton,f.fl_len,ks.fl_len];omega
theorem Wd.rt_len:∀(f:Wd) (o:Nat),(f.rt o).length=f.kds.length
 | .nil,_=>rfl
 | .snoc f kd n pl tx ks,o=>by simp only[Wd.rt,Wd.kds,List.length_append,List.length_singleton,f.rt_len]
theorem Wd.app_sz (f:Wd):∀g:Wd,(f.app g).sz=f.sz+g.sz
 | .nil=>rfl
 | .snoc g kd n pl tx ks=>by simp only[Wd.app,Wd.sz,f.app_sz g];omega
theorem Wd.app_rt (f:Wd)(o:Nat):∀g:Wd,(f.app g).rt o=f.rt o++g.rt (o+f.sz)
 | .nil=>by simp[Wd.app,Wd.rt]
 | .snoc g kd n pl tx ks=>by
  simp only[Wd.app,Wd.rt,f.app_rt o g,f.app_sz g,List.append_assoc];rw[show o+(f.sz+g.sz)+ks.sz=o+f.sz+g.sz+ks.sz by omega]
theorem Wd.app_fl (f:Wd)(o:Nat):∀g:Wd,(f.app g).fl o=f.fl o++g.fl (o+f.sz)
 | .nil=>by simp[Wd.app,Wd.fl]
 | .snoc g kd n pl tx ks=>by
  simp only[Wd.app,Wd.fl,f.app_fl o g,f.app_sz g,List.append_assoc];rw[show o+(f.sz+g.sz)=o+f.sz+g.sz by omega]
theorem Wd.app_kds (f:Wd):∀g:Wd,(f.app g).kds=f.kds++g.kds
 | .nil=>by simp[Wd.app,Wd.kds]
 | .snoc g kd n pl tx ks=>by simp only[Wd.app,Wd.kds,f.app_kds g,List.append_assoc]
theorem Wd.app_all {P:Int->Int->Int->List UInt8->List Int->Prop}{f:Wd}(hf:f.all P):∀ {g:Wd},g.all P->(f.app g).all P
 | .nil,_=>hf
 | .snoc _ _ _ _ _ _,h=>⟨Wd.app_all hf h.1,h.2.1,h.2.2⟩
section
variable (P:Int->Int->Int->List UInt8->List Int->Prop)
def At (n0:List Nd)(s:St)(f:Wd)(v:List Int):Prop:=s.nd=n0++f.fl n0.length/\v=f.rt n0.length/\f.all P
def pI (n0:List Nd)(C:List Int->Prop)(r:Rs):Prop:=∀v s',r=.ok v s'->∃g,At P n0 s' g v/\C g.kds
def Qt (s:St)(r:Rs):Prop:=∀v s',r=.ok v s'->v=[]/\s'.nd=s.nd
end
section
variable {P:Int->Int->Int->List UInt8->List Int->Prop}
theorem At.nil (s:St):At P s.nd s .nil []:=⟨by simp[Wd.fl],rfl,True.intro⟩
theorem At.len {n0:List Nd}{s:St}{f:Wd}{v:List Int}(h:At P n0 s f v):s.nd.length=n0.length+f.sz:=by rw[h.1,List.length_append,f.fl_len]
theorem At.app {n0:List Nd}{s s':St}{f g:Wd}{v u:List Int}(h:At P n0 s f v)(k:At P s.nd s' g u):At P n0 s' (f.app g) (v++u):=by
 refine⟨?_,?_,Wd.app_all h.2.2 k.2.2⟩
 ·rw[k.1,h.len,f.app_fl,<- List.append_assoc,<- h.1]
 ·rw[f.app_rt,<- h.2.1,k.2.1,h.len]
theorem At.to {n0:List Nd}{s s':St}{f:Wd}{v:List Int}(h:At P n0 s f v)(e:s'.nd=s.nd):At P n0 s' f v:=⟨e.trans h.1,h.2⟩
theorem pI.bind {n0 n1:List Nd}{C D:List Int->Prop}{r:Rs}{k:List Int->St->Rs}(h:pI P n0 C r)(q:∀v s' g,At P n0 s' g v->C g.kds->pI P n1 D (k v s')):pI P n1 D (r.bind k):=by
 intro v s' e;obtain⟨v1,s1,e1,e2⟩:=Rs.bind_ok e;obtain⟨g,a,c⟩:=h v1 s1 e1;exact q v1 s1 g a c v s' e2
theorem Qt.bind {n1:List Nd}{D:List Int->Prop}{s:St}{r:Rs}{k:List Int->St->Rs}(h:Qt s r)(q:∀s',s'.nd=s.nd->pI P n1 D (k [] s')):pI P n1 D (r.bind k):=by
 intro v s' e;obtain⟨v1,s1,e1,e2⟩:=Rs.bind_ok e;obtain⟨rfl,e3⟩:=h v1 s1 e1;exact q s1 e3 v s' e2
theorem pI.no {n0:List Nd}{C:List Int->Prop}(p e:Nat):pI P n0 C (.no p e):=λ_ _ h=>by cases h
theorem pI.ok {n0:List Nd}{C:List Int->Prop}{v:List Int}{s:St}{f:Wd}(h:At P n0 s f v)(c:C f.kds):pI P n0 C (.ok v s):=λv' s' e=>by cases e;exact⟨f,h,c⟩
theorem pI.imp {n0:List Nd}{C D:List Int->Prop}{r:Rs}(h:pI P n0 C r)(q:∀l,C l->D l):pI P n0 D r:=λv s e=>by
 obtain⟨g,a,c⟩:=h v s e;exact⟨g,a,q _ c⟩
theorem pI.at {n0 n1:List Nd}{C:List Int->Prop}{r:Rs}(h:pI P n0 C r)(e:n0=n1):pI P n1 C r:=e▸h
theorem dI {n0:List Nd}{s:St}{f:Wd}{v:List Int}(h:At P n0 s f v){kd n pl:Int}{tx:List UInt8}(q:P kd n pl tx f.kds):pI P n0 (· = [kd]) (bv kd n pl tx v s):=by
 intro v' s' e;unfold bv at e;cases e;refine⟨.snoc .nil kd n pl tx f,⟨?_,?_,True.intro,h.2.2,q⟩,rfl⟩
 ·show s.nd++[_]=n0++([]++(f.fl (n0.length+0)++[⟨kd,n,pl,tx,f.rt (n0.length+0)⟩]));rw[Nat.add_zero,<- h.2.1,List.nil_append,<- List.append_assoc,<- h.1]
 ·show[_]=[]++[((n0.length+0+f.sz:Nat):Int)];rw[h.len,Nat.add_zero];rfl
end
section
variable (ts:List Tok) (s:St)
theorem Pq (x:List UInt8):Qt s (gI ts x s):=λv s' e=>by
 unfold gI at e;split at e<;>cases e;exact⟨rfl,rfl⟩
theorem Ip:Qt s (kZ ts s):=λv s' e=>by
 unfold kZ at e;split at e<;>cases e;exact⟨rfl,rfl⟩
theorem vI (x:List UInt8):Qt s (jd ts x s):=λv s' e=>by
 unfold jd at e;obtain⟨v1,s1,e1,e2⟩:=Rs.bind_ok e;have:=Pq ts s x v1 s1 e1;cases e2;exact⟨rfl,this.2⟩
end
section
open Tr (iB iW eQ bB aI dS fu si iE iD y9 qJ)
def Pk (ts:List Tok)(kd n pl:Int)(tx:List UInt8)(kds:List Int):Prop:=
 1<=kd/\kd<=27/\iW kd tx=true/\(eQ kd n=true/\n<=9223372036854775807)/\bB kd kds=true/\∃t ∈ ts,(t.p:Int)=pl
def Py (ts:List Tok):Prop:=∀t ∈ ts,(t.k=1->iB t.s=true)/\(t.k=2->0<=t.n/\t.n<=9223372036854775807)
def E1 (l:List Int):Prop:=∃e,l=[e]/\aI e=true
def S1 (l:List Int):Prop:=∃e,l=[e]/\dS e=true
section
variable {ts:List Tok}
theorem yM {s:St}(h:(ah ts s).k≠5\/(ah ts s).s≠[]):ah ts s ∈ ts:=by
 by_cases q:s.nx<ts.length
 ·exact Cr q
 ·exfalso;have e:ah ts s=⟨5,0,0,[]⟩:=by unfold ah;simp[List.getD,Nat.le_of_not_lt q]
  rw[e]at h;exact h.elim (λa=>a rfl) (λa=>a rfl)
theorem dA {s:St}{x:List UInt8}(h:(ah ts s).s=x)(hx:x≠[]):ah ts s ∈ ts:=yM (.inr (h▸hx))
theorem ed {s:St}(h:(ah ts s).k=1):ah ts s ∈ ts:=yM (.inl (by rw[h];decide))
theorem yN {s:St}{x:List UInt8}(h:sees ts x s=true):(ah ts s).s=x:=by simpa [sees]using h
abbrev kw (ts:List Tok):=pI (Pk ts)
variable {n1:List Nd} {D:List Int->Prop} {s:St} {k:List Int->St->Rs}
theorem jP (q:(ah ts s).k=1->∀s',s'.nd=s.nd->kw ts n1 D (k [] s')):kw ts n1 D ((eU ts s).bind k):=by
 unfold eU;split
 ·rename_i h;exact q h _ rfl
 ·exact pI.no _ _
theorem kU {x:List UInt8}(q:(ah ts s).s=x->∀s',s'.nd=s.nd->kw ts n1 D (k [] s')):kw ts n1 D ((gI ts x s).bind k):=by
 unfold gI;split
 ·rename_i h;exact q (yN h) _ rfl
 ·exact pI.no _ _
theorem kV {x:List UInt8}(q:(ah ts s).s=x->∀s',s'.nd=s.nd->kw ts n1 D (k [] s')):kw ts n1 D ((gL ts x s).bind k):=by
 unfold gL gI;split
 ·exact pI.no _ _
 split
 ·rename_i h;exact q (yN h) _ rfl
 ·exact pI.no _ _
end
structure PD (ts:List Tok) (rec:nM->St->Rs):Prop where
 una:∀s,kw ts s.nd E1 (rec .una s)
 bin:∀r s,1<=r->kw ts s.nd E1 (rec (.bin r) s)
 loop:∀r s n0 f l,1<=r->At (Pk ts) n0 s f l->E1 f.kds->kw ts n0 E1 (rec (.loop r l) s)
 exprs:∀s n0 f a,At (Pk ts) n0 s f a->kw ts n0 (λl=>∃es,l=f.kds++es/\es.all aI=true) (rec (.exprs a) s)
 stmt:∀s,kw ts s.nd S1 (rec .stmt s)
 stmts:∀s n0 f a pl,At (Pk ts) n0 s f a->f.kds.all dS=true->(∃t ∈ ts,(t.p:Int)=pl)->kw ts n0 (· = [6]) (rec (.stmts pl a) s)
 vars:∀(j:Nat) s n0 f a,j=2\/j=5->At (Pk ts) n0 s f a->kw ts n0 (λl=>∃m,l=f.kds++List.replicate m (j:Int)) (rec (.vars j a) s)
 params:∀s n0 f a,At (Pk ts) n0 s f a->kw ts n0 (λl=>∃m,l=f.kds++List.replicate m 4) (rec (.params a) s)
 procs:∀s n0 f a,At (Pk ts) n0 s f a->kw ts n0 (λl=>∃m,l=f.kds++List.replicate m 3) (rec (.procs a) s)
section
variable {ts:List Tok} {rec:nM->St->Rs} (hr:PD ts rec) (hk:Py ts)
theorem E1.all {l:List Int}(h:E1 l):l.length=1/\fu l=true:=by
 obtain⟨e,rfl,h⟩:=h;exact⟨rfl,by simp[fu,h]⟩
include hr
theorem ib (s:St):kw ts s.nd E1 (a_ rec s):=hr.bin 1 s (Nat.le_refl _)
theorem Iq (s:St):kw ts s.nd E1 (kN ts rec s):=by
 unfold kN;refine kV λ_ s1 e1 =>?_
 refine((ib hr s1).at e1).bind λv s2 g a c =>?_
 refine(vI ts s2 [93]).bind λs3 e3 =>?_
 exact pI.ok (a.to e3) c
include hk
omit hr in
theorem yO (kd:Nat)(s:St)(h:kd=18\/kd=19):kw ts s.nd (· = [(kd:Int)]) (gD ts kd s):=by
 unfold gD;simp only;refine jP λq s1 e1 =>?_
 have hi:=(hk _ (ed q)).1 q;refine dI ((At.nil s).to e1) ?_;rcases h with rfl |rfl
 ·exact⟨by decide,by decide,by simpa [iW]using hi,by decide,by decide,⟨_,ed q,rfl⟩⟩
 ·exact⟨by decide,by decide,by simpa [iW]using hi,by decide,by decide,⟨_,ed q,rfl⟩⟩
theorem L9 (s:St):kw ts s.nd E1 (gM ts rec s):=by
 unfold gM;simp only;refine jP λq s1 e1 =>?_
 have hi:=(hk _ (ed q)).1 q;split
 ·refine((Iq hr s1).at e1).bind λv s2 g a c =>?_
  refine(dI a ?_).imp λl e=>⟨23,e,by decide⟩
  exact⟨by decide,by decide,by simpa [iW]using hi,by decide,by have:=c.all;simp[bB,this.1,this.2],⟨_,ed q,rfl⟩⟩
 ·refine(dI ((At.nil s).to e1) ?_).imp λl e=>⟨22,e,by decide⟩
  exact⟨by decide,by decide,by simpa [iW]using hi,by decide,by decide,⟨_,ed q,rfl⟩⟩
omit hk in
theorem L_ (s:St)(h:(ah ts s).s=[45]\/(ah ts s).s=[33]):kw ts s.nd E1 (gN ts rec s):=by
 have hm:ah ts s ∈ ts:=h.elim (λq=>dA q (by decide)) (λq=>dA q (by decide));unfold gN;simp only;refine kV λ_ s1 e1 =>?_
 refine((hr.una s1).at e1).bind λv s2 g a c =>?_
 refine(dI (a.to (s' := {s2 with op:=s2.op-1}) rfl) ?_).imp λl e=>⟨26,e,by decide⟩
 exact⟨by decide,by decide,by rcases h with h |h<;>rw[h]<;>decide,by decide,by have:=c.all;simp[bB,this.1,this.2],⟨_,hm,rfl⟩⟩
omit hr in
theorem Dm (kd:Nat)(s:St)(h:kd=24\/kd=25)(hm:ah ts s ∈ ts):kw ts s.nd E1 (fO ts kd s):=by
 unfold fO;simp only;refine jP λq s1 e1 =>?_
 have hi:=(hk _ (ed q)).1 q;refine(dI (kd:=(kd:Int)) ((At.nil s).to (s':=s1) e1) ?_).imp λl e=>⟨(kd:Int),e,by rcases h with rfl |rfl<;>decide⟩
 rcases h with rfl |rfl
 ·exact⟨by decide,by decide,by simpa [iW]using hi,by decide,by decide,⟨_,hm,rfl⟩⟩
 ·exact⟨by decide,by decide,by simpa [iW]using hi,by decide,by decide,⟨_,hm,rfl⟩⟩
theorem PG (s:St):kw ts s.nd E1 (bg ts rec s):=by
 unfold bg;simp only;split
 ·exact L9 hr hk s
 split
 ·rename_i q;have hm:ah ts s ∈ ts:=yM (.inl (by rw[q];decide));have hn:=(hk _ hm).2 q;refine(dI ((At.nil s).to (s':=ae s) rfl) ?_).imp λl e=>⟨20,e,by decide⟩
  exact⟨by decide,by decide,by decide,⟨by simpa [eQ]using hn.1,hn.2⟩,by decide,⟨_,hm,rfl⟩⟩
 split
 ·rename_i q;exact L_ hr s q
 split
 ·rename_i q;have hm:ah ts s ∈ ts:=q.elim (λq=>dA q (by decide)) (λq=>dA q (by decide));refine(dI ((At.nil s).to (s':=ae s) rfl) ?_).imp λl e=>⟨21,e,by decide⟩
  refine⟨by decide,by decide,by decide,?_,by decide,⟨_,hm,rfl⟩⟩;split<;>decide
 split
 ·rename_i q;exact Dm hk 24 s (.inl rfl) (dA q (by decide))
 split
 ·rename_i q;exact Dm hk 25 s (.inr rfl) (dA q (by decide))
 split
 ·refine kV λ_ s1 e1 =>?_
  refine((ib hr s1).at e1).bind λv s2 g a c =>?_
  refine(vI ts s2 [41]).bind λs3 e3 =>?_
  exact pI.ok (a.to e3) c
 ·exact pI.no _ _
omit hk in
theorem PH (r:Nat)(s:St)(h:1<=r):kw ts s.nd E1 (iF rec r s):=by
 unfold iF;split
 ·exact hr.una s
 ·exact(hr.bin (r+1) s (by omega)).bind λv s1 g a c=>hr.loop r s1 _ g v h a c
omit hr hk in
theorem Ir {x:List UInt8}{r:Nat}(h:rowOf x=r)(h1:1<=r):si x=true/\x≠[]:=by
 unfold rowOf at h;split at h
 ·rename_i q;rw[q];decide
 split at h
 ·rename_i q;rw[q];decide
 split at h
 ·rename_i q;rcases q with q |q |q |q |q |q<;>rw[q]<;>decide
 split at h
 ·rename_i q;rcases q with q |q<;>rw[q]<;>decide
 split at h
 ·rename_i q;rcases q with q |q |q<;>rw[q]<;>decide
 ·omega
omit hk in
theorem Ma (r:Nat)(s:St)(n0:List Nd)(f:Wd)(l:List Int)(h:1<=r)(hA:At (Pk ts) n0 s f l)(hE:E1 f.kds):kw ts n0 E1 (iY ts rec r l s):=by
 unfold iY;simp only;split
 ·rename_i q;have hs:=Ir q h;have hm:ah ts s ∈ ts:=yM (.inr hs.2);refine(hr.bin (r+1) (ae s) (by omega)).bind λv s1 g a c =>?_
  have hB:=(hA.to (s':=ae s) rfl).app a;refine(dI hB (kd:=27) ?_).bind λv s2 g2 a2 c2=>hr.loop r s2 n0 g2 v h a2 ⟨27,c2,by decide⟩
  obtain⟨x,hx,hx2⟩:=hE;obtain⟨y,hy,hy2⟩:=c;refine⟨by decide,by decide,by simpa [iW]using hs.1,by decide,?_,⟨_,hm,rfl⟩⟩;rw[f.app_kds,hx,hy];simp[bB,fu,hx2,hy2]
 ·exact pI.ok hA hE
omit hk in
theorem Iu (s:St)(n0:List Nd)(f:Wd)(a:List Int)(hA:At (Pk ts) n0 s f a):kw ts n0 (λl=>∃es,l=f.kds++es/\es.all aI=true) (eY ts rec a s):=by
 unfold eY;split
 ·refine(ib hr (ae s)).bind λv s1 g b c =>?_
  have hB:=(hA.to (s':=ae s) rfl).app b;refine(hr.exprs s1 n0 _ _ hB).imp λl q =>?_
  obtain⟨es,e,he⟩:=q;obtain⟨x,hx,hx2⟩:=c;refine⟨x :: es,by rw[e,f.app_kds,hx];simp,by simp[hx2];simpa using he⟩
 ·refine(vI ts s [41]).bind λs1 e1 =>?_
  exact pI.ok (hA.to e1) ⟨[],by simp,rfl⟩
omit hk in
theorem Mc (s:St):kw ts s.nd (λl=>l.all aI=true) (jk ts rec s):=by
 unfold jk;refine kV λ_ s1 e1 =>?_
 split
 ·refine(hr.exprs s1 s.nd .nil [] ((At.nil s).to e1)).imp λl q =>?_
  obtain⟨es,e,he⟩:=q;rw[e];simpa [Wd.kds]using he
 ·refine((ib hr s1).at e1).bind λv s2 g a c =>?_
  refine(hr.exprs s2 s.nd g v a).imp λl q =>?_
  obtain⟨es,e,he⟩:=q;obtain⟨x,hx,hx2⟩:=c;rw[e,hx];simp[hx2];simpa using he
theorem Dn (s:St)(tx:List UInt8)(pl:Int)(ht:iB tx=true\/tx=[])(hp:∃t ∈ ts,(t.p:Int)=pl):kw ts s.nd (· = [13]) (gF ts rec tx pl s):=by
 unfold gF;refine kU λ_ s1 e1 =>?_
 refine((yO hk 19 s1 (.inr rfl)).at e1).bind λv s2 g a c =>?_
 refine(Mc hr s2).bind λu s3 g2 a2 c2 =>?_
 refine dI (a.app a2) ?_;refine⟨by decide,by decide,?_,by decide,?_,hp⟩
 ·rcases ht with h |h
  ·simp[iW,h]
  ·simp[iW,h]
 ·rw[g.app_kds,c];simp[bB,fu];simpa using c2
omit hk in
theorem oG (s:St):kw ts s.nd (· = [6]) (dm ts rec s):=by
 unfold dm;simp only;refine kV λq s1 e1 =>?_
 exact hr.stmts s1 s.nd .nil [] _ ((At.nil s).to e1) rfl ⟨_,dA q (by decide),rfl⟩
omit hk in
theorem Iw (s:St)(n0:List Nd)(f:Wd)(a:List Int)(pl:Int)(hA:At (Pk ts) n0 s f a)(hS:f.kds.all dS=true)(hp:∃t ∈ ts,(t.p:Int)=pl):kw ts n0 (· = [6]) (gu ts rec pl a s):=by
 unfold gu;split
 ·refine(vI ts s [125]).bind λs1 e1 =>?_
  refine dI (hA.to e1) ?_;exact⟨by decide,by decide,by decide,by decide,by simpa [bB]using hS,hp⟩
 ·refine(hr.stmt s).bind λv s1 g b c =>?_
  refine hr.stmts s1 n0 _ _ pl (hA.app b) ?_ hp;obtain⟨x,hx,hx2⟩:=c;rw[f.app_kds,hx,List.all_append,hS];simp[hx2]
omit hr hk in
theorem mM {n0:List Nd}{s:St}{f:Wd}{v:List Int}{C:List Int->Prop}(h:At (Pk ts) n0 s f v)(c:C f.kds):kw ts n0 C (bL ts v s):=by
 unfold bL;exact kU λ_ s1 e1=>pI.ok (h.to e1) c
theorem Md (t:Tok)(s:St)(hm:t ∈ ts)(hi:iB t.s=true):kw ts s.nd S1 (bJ ts rec t s):=by
 unfold bJ;simp only;split
 ·refine(yO hk 18 (ae s) (.inl rfl)).bind λv s1 g a c =>?_
  refine(dI (n0:=s.nd) a ?_).imp λl e=>⟨9,e,by decide⟩
  exact⟨by decide,by decide,by simpa [iW]using hi,by decide,by rw[c];decide,⟨_,hm,rfl⟩⟩
 split
 ·exact(Dn hr hk s t.s t.p (.inl hi) ⟨_,hm,rfl⟩).imp λl e=>⟨13,e,by decide⟩
 split
 ·refine(ib hr (ae s)).bind λv s1 g a c =>?_
  refine(dI (n0:=s.nd) a ?_).imp λl e=>⟨17,e,by decide⟩
  exact⟨by decide,by decide,by simpa [iW]using hi,by decide,by have:=c.all;simp[bB,this.1,this.2],⟨_,hm,rfl⟩⟩
 ·refine(ib hr s).bind λv s1 g a c =>?_
  refine(dI (n0:=s.nd) a ?_).imp λl e=>⟨7,e,by decide⟩
  exact⟨by decide,by decide,by simpa [iW]using hi,by decide,by have:=c.all;simp[bB,this.1,this.2],⟨_,hm,rfl⟩⟩
theorem Iy (s:St):kw ts s.nd S1 (dZ ts rec s):=by
 unfold dZ;simp only;refine jP λq s1 e1 =>?_
 have hi:=(hk _ (ed q)).1 q;split
 ·refine((Iq hr s1).at e1).bind λv s2 g a c =>?_
  refine kU λ_ s3 e3 =>?_
  refine(ib hr s3).bind λu s4 g2 a2 c2 =>?_
  refine(dI ((a.to e3).app a2) (kd:=8) ?_).bind λv s5 g3 a3 c3=>mM a3 ⟨8,c3,by decide⟩
  obtain⟨x,hx,hx2⟩:=c;obtain⟨y,hy,hy2⟩:=c2;refine⟨by decide,by decide,by simpa [iW]using hi,by decide,?_,⟨_,ed q,rfl⟩⟩;rw[g.app_kds,hx,hy];simp[bB,fu,hx2,hy2]
 ·refine kU λ_ s2 e2 =>?_
  exact((Md hr hk (ah ts s) s2 (ed q) hi).at (e2.trans e1)).bind λv s3 g a c=>mM a c
theorem PI (s:St)(hm:ah ts s ∈ ts):kw ts s.nd S1 (l_ ts rec s):=by
 unfold l_;simp only;refine(yO hk 18 (ae s) (.inl rfl)).bind λv s1 g a c =>?_
 refine(ib hr s1).bind λu s2 g2 a2 c2 =>?_
 refine(dI (n0:=s.nd) (At.app (n0:=s.nd) a a2) (kd:=10) ?_).bind λv s3 g3 a3 c3=>mM a3 ⟨10,c3,by decide⟩
 obtain⟨y,hy,hy2⟩:=c2;refine⟨by decide,by decide,by decide,by decide,?_,⟨_,hm,rfl⟩⟩;rw[g.app_kds,c,hy];simp[bB,hy2]
omit hk in
theorem Ry (s:St)(hm:ah ts s ∈ ts):kw ts s.nd S1 (wI ts rec s):=by
 unfold wI;simp only;refine(ib hr (ae s)).bind λv s1 g a c =>?_
 refine(oG hr s1).bind λu s2 g2 a2 c2 =>?_
 have hB:=At.app (n0:=s.nd) a a2;obtain⟨x,hx,hx2⟩:=c;have key:∀g3:Wd,g3.kds=[6]->bB 11 ((g.app g2).app g3).kds=true:=λg3 h3=>by
  rw[Wd.app_kds,Wd.app_kds,hx,c2,h3];simp[bB,hx2]
 split
 ·refine(oG hr (ae s2)).bind λw s3 g3 a3 c3 =>?_
  refine(dI (n0:=s.nd) (hB.app (s:=s2) a3) ?_).imp λl e=>⟨11,e,by decide⟩
  exact⟨by decide,by decide,by decide,by decide,key g3 c3,⟨_,hm,rfl⟩⟩
 ·refine(dI (At.nil s2) (kd:=6) ⟨by decide,by decide,by decide,by decide,by decide,⟨_,hm,rfl⟩⟩).bind λw s3 g3 a3 c3 =>?_
  refine(dI (n0:=s.nd) (hB.app a3) ?_).imp λl e=>⟨11,e,by decide⟩
  exact⟨by decide,by decide,by decide,by decide,key g3 c3,⟨_,hm,rfl⟩⟩
omit hk in
theorem Iz (s:St)(hm:ah ts s ∈ ts):kw ts s.nd S1 (iw ts rec s):=by
 unfold iw;simp only;refine(ib hr (ae s)).bind λv s1 g a c =>?_
 refine(oG hr s1).bind λu s2 g2 a2 c2 =>?_
 refine(dI (n0:=s.nd) (At.app (n0:=s.nd) a a2) ?_).imp λl e=>⟨12,e,by decide⟩
 obtain⟨x,hx,hx2⟩:=c;refine⟨by decide,by decide,by decide,by decide,?_,⟨_,hm,rfl⟩⟩;rw[g.app_kds,hx,c2];simp[bB,hx2]
omit hk in
theorem EL (s:St)(hm:ah ts s ∈ ts):kw ts s.nd S1 (cO ts rec s):=by
 unfold cO;simp only;split
 ·refine(dI ((At.nil s).to (s':=ae s) rfl) ?_).imp λl e=>⟨14,e,by decide⟩
  exact⟨by decide,by decide,by decide,by decide,by decide,⟨_,hm,rfl⟩⟩
 ·refine(ib hr (ae s)).bind λv s1 g a c =>?_
  refine(dI (n0:=s.nd) a ?_).imp λl e=>⟨14,e,by decide⟩
  exact⟨by decide,by decide,by decide,by decide,by have:=c.all;simp[bB,this.1,this.2],⟨_,hm,rfl⟩⟩
omit hk in
theorem IA (s:St)(hm:ah ts s ∈ ts):kw ts s.nd S1 (iP ts rec s):=by
 unfold iP;simp only;refine(ib hr (ae s)).bind λv s1 g a c =>?_
 refine(dI (n0:=s.nd) a ?_).imp λl e=>⟨15,e,by decide⟩
 exact⟨by decide,by decide,by decide,by decide,by have:=c.all;simp[bB,this.1,this.2],⟨_,hm,rfl⟩⟩
theorem PK (s:St)(hm:ah ts s ∈ ts):kw ts s.nd S1 (ma ts rec s):=by
 unfold ma;simp only;refine(oG hr (ae s)).bind λv s1 g a c =>?_
 refine kU λ_ s2 e2 =>?_
 refine jP λq s3 e3 =>?_
 have hi:=(hk _ (ed q)).1 q;refine(oG hr s3).bind λu s4 g2 a2 c2 =>?_
 have hB:=At.app (n0:=s.nd) (At.to (s':=s3) (n0:=s.nd) a (e3.trans e2)) a2;refine(dI (n0:=s.nd) hB ?_).imp λl e=>⟨16,e,by decide⟩
 refine⟨by decide,by decide,by simpa [iW]using hi,by decide,?_,⟨_,hm,rfl⟩⟩;rw[g.app_kds,c,c2];decide
theorem Me (s:St):kw ts s.nd S1 (aO ts rec s):=by
 unfold aO;simp only;split
 ·exact Iy hr hk s
 split
 ·rename_i q;exact PI hr hk s (dA q (by decide))
 split
 ·rename_i q;exact Ry hr s (dA q (by decide))
 split
 ·rename_i q;exact Iz hr s (dA q (by decide))
 split
 ·rename_i q;exact(Dn hr hk s [] _ (.inr rfl) ⟨_,dA q (by decide),rfl⟩).bind λv s1 g a c=>mM a ⟨13,c,by decide⟩
 split
 ·rename_i q;exact(EL hr s (dA q (by decide))).bind λv s1 g a c=>mM a c
 split
 ·rename_i q;exact(IA hr s (dA q (by decide))).bind λv s1 g a c=>mM a c
 split
 ·rename_i q;exact PK hr hk s (dA q (by decide))
 ·exact pI.no _ _
omit hr hk in
theorem EM (x:List UInt8):typeOf x<=4:=by unfold typeOf;repeat' split<;>try decide
omit hr hk in
theorem xh {n1:List Nd}{D:List Int->Prop}{s:St}{k:List Int->St->Rs}(q:∀(n:Nat) s',1<=n->n<=4->s'.nd=s.nd->kw ts n1 D (k [(n:Int)] s')):kw ts n1 D ((iG ts s).bind k):=by
 unfold iG;simp only;split
 ·exact pI.no _ _
 ·rename_i h;exact q _ (ae s) (by omega) (EM _) rfl
omit hr in
theorem z8 (kd:Nat)(pl:Int)(s:St)(h:kd=2\/kd=4\/kd=5)(hp:(ah ts s).k=1->∃t ∈ ts,(t.p:Int)=pl):kw ts s.nd (· = [(kd:Int)]) (d9 ts kd pl s):=by
 unfold d9;simp only;refine jP λq s1 e1 =>?_
 have hi:=(hk _ (ed q)).1 q;refine xh λn s2 h1 h2 e2 =>?_
 refine dI ((At.nil s).to (e2.trans e1)) ?_;have hn:(1:Int)<=(n:Int)/\(n:Int)<=4:=by omega
 rcases h with rfl |rfl |rfl
 ·exact⟨by decide,by decide,by simpa [iW]using hi,⟨by simpa [eQ]using hn,by show(n:Int)<=9223372036854775807;omega⟩,by decide,hp q⟩
 ·exact⟨by decide,by decide,by simpa [iW]using hi,⟨by simpa [eQ]using hn,by show(n:Int)<=9223372036854775807;omega⟩,by decide,hp q⟩
 ·exact⟨by decide,by decide,by simpa [iW]using hi,⟨by simpa [eQ]using hn,by show(n:Int)<=9223372036854775807;omega⟩,by decide,hp q⟩
theorem Mf (j:Nat)(s:St)(n0:List Nd)(f:Wd)(a:List Int)(h:j=2\/j=5)(hA:At (Pk ts) n0 s f a):kw ts n0 (λl=>∃m,l=f.kds++List.replicate m (j:Int)) (jC ts rec j a s):=by
 unfold jC;split
 ·rename_i q;have hm:ah ts s ∈ ts:=dA (yN q) (by decide);refine(z8 hk j (ah ts s).p (ae s) (by omega) (λ_=>⟨_,hm,rfl⟩)).bind λv s1 g b c =>?_
  refine kU λ_ s2 e2 =>?_
  have hB:=((hA.to (s':=ae s) rfl).app b).to e2;refine(hr.vars j s2 n0 _ _ h hB).imp λl q =>?_
  obtain⟨m,e⟩:=q;exact⟨m+1,by rw[e,f.app_kds,c,List.append_assoc];rfl⟩
 ·exact pI.ok hA ⟨0,by simp⟩
omit hr in
theorem z_ (s:St):kw ts s.nd (· = [4]) (iy ts s):=by
 unfold iy;exact z8 hk 4 _ s (.inr (.inl rfl)) λq=>⟨_,ed q,rfl⟩
theorem EN (s:St)(n0:List Nd)(f:Wd)(a:List Int)(hA:At (Pk ts) n0 s f a):kw ts n0 (λl=>∃m,l=f.kds++List.replicate m 4) (dD ts rec a s):=by
 unfold dD;split
 ·refine(z_ hk (ae s)).bind λv s1 g b c =>?_
  have hB:=(hA.to (s':=ae s) rfl).app b;refine(hr.params s1 n0 _ _ hB).imp λl q =>?_
  obtain⟨m,e⟩:=q;exact⟨m+1,by rw[e,f.app_kds,c,List.append_assoc];rfl⟩
 ·refine(vI ts s [41]).bind λs1 e1 =>?_
  exact pI.ok (hA.to e1) ⟨0,by simp⟩
theorem IB (s:St):kw ts s.nd (λl=>∃m,l=List.replicate m 4) (gy ts rec s):=by
 unfold gy;refine kV λ_ s1 e1 =>?_
 split
 ·refine(hr.params s1 s.nd .nil [] ((At.nil s).to e1)).imp λl q =>?_
  obtain⟨m,e⟩:=q;exact⟨m,by rw[e];rfl⟩
 ·refine((z_ hk s1).at e1).bind λv s2 g a c =>?_
  refine(hr.params s2 s.nd g v a).imp λl q =>?_
  obtain⟨m,e⟩:=q;exact⟨m+1,by rw[e,c];rfl⟩
end
end
section
open Tr (iB iW eQ bB aI dS fu si iE iD y9 qJ)
theorem oH (a:Int)(l:List Int):∀m,iD a (List.replicate m a++l)=m+iD a l
 |0=>by simp
 |m+1=>by
  show(if a=a then iD a (List.replicate m a++l)+1 else 0)=_;rw[if_pos rfl,oH a l m];omega
theorem Aa {a b:Int}(h:b≠a)(l:List Int):iD a (b :: l)=0:=by
 show(if b=a then _ else 0)=0;rw[if_neg h]
theorem IC (a b:Nat):iE (List.replicate a 4++(List.replicate b 5++[6])) 4 5 6=true:=by
 have h1:y9 (List.replicate a 4++(List.replicate b 5++[6])) 4=a:=by
  unfold y9;rw[oH];cases b with
  |zero=>rfl
  |succ b=>rw[List.replicate_succ,List.cons_append,Aa (by decide)];rfl
 have h2:qJ (List.replicate a 4++(List.replicate b 5++[6])) 4 5=a+b:=by
  unfold qJ;rw[h1,List.drop_append_of_le_length (by simp),List.drop_of_length_le (by simp),List.nil_append,oH];rfl
 unfold iE;rw[if_neg (by decide),h2];simp;omega
theorem IE (a b:Nat):iE (List.replicate a 2++List.replicate b 3) 2 3 0=true:=by
 have h1:y9 (List.replicate a 2++List.replicate b 3) 2=a:=by
  unfold y9;rw[oH];cases b with
  |zero=>rfl
  |succ b=>rw[List.replicate_succ,Aa (by decide)];rfl
 have h2:qJ (List.replicate a 2++List.replicate b 3) 2 3=a+b:=by
  unfold qJ;rw[h1,List.drop_append_of_le_length (by simp),List.drop_of_length_le (by simp),List.nil_append];have:=oH 3 [] b;rw[List.append_nil]at this;rw[this];rfl
 unfold iE;rw[if_pos rfl,h2];simp
section
variable {ts:List Tok} {rec:nM->St->Rs} (hr:PD ts rec) (hk:Py ts)
include hr hk
theorem Mg (s:St):kw ts s.nd (· = [3]) (jl ts rec s):=by
 unfold jl;simp only;refine kU λq0 s1 e1 =>?_
 refine jP λq s2 e2 =>?_
 have hi:=(hk _ (ed q)).1 q;refine((IB hr hk s2).at (e2.trans e1)).bind λps s3 g a c =>?_
 have rest:∀(n:Int) (s4:St),0<=n->n<=4->s4.nd=s3.nd->kw ts s.nd (· = [3]) ((gL ts [123] s4).bind λ_ s5=>(rec (.vars 5 []) s5).bind λvs s6=>(rec (.stmts (ah ts s4).p []) s6).bind λbl s7=>bv 3 ([n].headD 0) (ah ts s).p (ah ts s1).s (ps++vs++bl) s7):=by
  intro n s4 n1 n2 e4;refine kV λqb s5 e5 =>?_
  refine(hr.vars 5 s5 s5.nd .nil [] (.inr rfl) (At.nil s5)).bind λvs s6 g2 a2 c2 =>?_
  refine(hr.stmts s6 s6.nd .nil [] _ (At.nil s6) rfl ⟨_,dA qb (by decide),rfl⟩).bind λbl s7 g3 a3 c3 =>?_
  refine dI (((a.to (e5.trans e4)).app a2).app a3) ?_;obtain⟨m,hm⟩:=c;obtain⟨j,hj⟩:=c2;refine⟨by decide,by decide,by simpa [iW]using hi,⟨by simpa [eQ]using ⟨n1,n2⟩,by show n<=_;omega⟩,?_,⟨_,dA q0 (by decide),rfl⟩⟩;rw[Wd.app_kds,Wd.app_kds,hm,hj,c3];have:=IC m j;simpa [bB,Wd.kds]using this
 split
 ·exact rest 0 s3 (by decide) (by decide) rfl
 ·exact xh λn s4 h1 h2 e4=>rest n s4 (by omega) (by omega) e4
theorem IG (s:St)(n0:List Nd)(f:Wd)(a:List Int)(hA:At (Pk ts) n0 s f a):kw ts n0 (λl=>∃m,l=f.kds++List.replicate m 3) (gz ts rec a s):=by
 unfold gz;split
 ·refine(Mg hr hk s).bind λv s1 g b c =>?_
  refine(hr.procs s1 n0 _ _ (hA.app b)).imp λl q =>?_
  obtain⟨m,e⟩:=q;exact⟨m+1,by rw[e,f.app_kds,c,List.append_assoc];rfl⟩
 ·exact pI.ok hA ⟨0,by simp⟩
end
theorem kG {ts:List Tok}{n0:List Nd}{C:List Int->Prop}:kw ts n0 C .out:=λ_ _ h=>by cases h
theorem II {ts:List Tok}(hk:Py ts):∀f,PD ts (run ts f)
 |0=>⟨λ_=>kG,λ_ _ _=>kG,λ_ _ _ _ _ _ _ _=>kG,λ_ _ _ _ _=>kG,λ_=>kG,λ_ _ _ _ _ _ _ _=>kG,λ_ _ _ _ _ _ _=>kG,λ_ _ _ _ _=>kG,λ_ _ _ _ _=>kG⟩
 |f+1=>by
  have ih:=II hk f;exact⟨λs=>PG ih hk s,λr s h=>PH ih r s h,λr s n0 g l h hA hE=>Ma ih r s n0 g l h hA hE,λs n0 g a hA=>Iu ih s n0 g a hA,λs=>Me ih hk s,
   λs n0 g a pl hA hS hp=>Iw ih s n0 g a pl hA hS hp,λj s n0 g a h hA=>Mf ih hk j s n0 g a h hA,λs n0 g a hA=>EN ih hk s n0 g a hA,λs n0 g a hA=>IG ih hk s n0 g a hA⟩
theorem PM {ts:List Tok}(hk:Py ts){v:List Int}{s':St}(h:iH ts=.ok v s'):∃g:Wd,s'.nd=g.fl 0++[⟨1,0,0,[],g.rt 0⟩]/\g.all (Pk ts)/\bB 1 g.kds=true:=by
 have hr:=II hk (steps ts);unfold iH bT at h;obtain⟨v1,s1,h1,h⟩:=Rs.bind_ok h;obtain⟨v2,s2,h2,h⟩:=Rs.bind_ok h;obtain⟨v3,s3,h3,h⟩:=Rs.bind_ok h;obtain⟨g1,a1,m,c1⟩:=hr.vars 2 st0 [] .nil [] (.inl rfl) (At.nil st0) v1 s1 h1;obtain⟨g2,a2,j,c2⟩:=hr.procs s1 [] g1 v1 a1 v2 s2 h2;obtain⟨_,e3⟩:=Ip ts s2 v3 s3 h3;have a3:=a2.to e3;unfold bv at h;cases h;refine⟨g2,?_,a3.2.2,?_⟩
 ·show s3.nd++[_]=_;rw[a3.1,a3.2.1];rfl
 ·rw[c2,c1];have:=IE m j;simpa [bB,Wd.kds]using this
theorem PN {ts:List Tok}(hk:Py ts){v:List Int}{s':St}(h:gP ts=.ok v s'):∃g:Wd,s'.nd=g.fl 0/\v=g.rt 0/\g.all (Pk ts)/\E1 g.kds:=by
 have hr:=II hk (steps ts);unfold gP jm at h;obtain⟨v1,s1,h1,h⟩:=Rs.bind_ok h;obtain⟨v2,s2,h2,h⟩:=Rs.bind_ok h;obtain⟨g,a,c⟩:=ib hr st0 v1 s1 h1;obtain⟨_,e2⟩:=Ip ts s1 v2 s2 h2;have a2:=a.to e2;cases h;refine⟨g,?_,a2.2.1,a2.2.2,c⟩;rw[a2.1];rfl
theorem Wd.all_imp {P Q:Int->Int->Int->List UInt8->List Int->Prop}(h:∀kd n pl tx l,P kd n pl tx l->Q kd n pl tx l):∀ {g:Wd},g.all P->g.all Q
 | .nil,_=>True.intro
 | .snoc _ _ _ _ _ _,k=>⟨Wd.all_imp h k.1,Wd.all_imp h k.2.1,h _ _ _ _ _ k.2.2⟩
theorem Wd.all_mem {P:Int->Int->Int->List UInt8->List Int->Prop}:∀ {g:Wd} (o:Nat),g.all P->∀x ∈ g.fl o,∃l,P x.kd x.n x.pl x.tx l/\x.ks.length=l.length
 | .nil,_,_,x,hx=>by cases hx
 | .snoc f kd n pl tx ks,o,h,x,hx=>by
  simp only[Wd.fl,List.mem_append,List.mem_singleton]at hx;rcases hx with hx |hx |rfl
  ·exact Wd.all_mem o h.1 x hx
  ·exact Wd.all_mem _ h.2.1 x hx
  ·exact⟨ks.kds,h.2.2,ks.rt_len _⟩
end
section
open Go
open Tr (iB iW eQ bB aI dS fu si iE gW kr aJ kY iX lF nth jF Sd gV tT)
theorem BP {l m:List Tr.Nd}{p:Nat}(h:p<l.length):aJ (l++m) p=aJ l p:=by
 unfold aJ;rw[List.map_append,List.getD_eq_getElem?_getD,List.getD_eq_getElem?_getD,List.getElem?_append_left (by simpa using h)]
theorem Ab (l:List Tr.Nd)(x:Tr.Nd):aJ (l++[x]) l.length=x.ks:=by
 unfold aJ;rw[List.map_append,List.getD_eq_getElem?_getD,List.getElem?_append_right (by simp)];simp
theorem IJ {l:List Tr.Nd}{b c:Nat->Nat}{m:List Tr.Nd}(h:kr l b l.length)(e:∀q,q<l.length->c q=b q):kr (l++m) c l.length:=λp hp=>by
 rw[BP hp,<- Tr.fZ (b:=b) _ p (λq hq=>(e q (by omega)).symm) (λq hq=>h.le q (by omega)),e p hp];exact h p hp
theorem IK:∀(g:Wd) (pre:List Nd) (b:Nat->Nat),kr (pre.map df) b pre.length->∃c:Nat->Nat,(∀q,q<pre.length->c q=b q)/\kr ((pre++g.fl pre.length).map df) c (pre.length+g.sz)/\gW c (g.rt pre.length).reverse (pre.length+g.sz)=some pre.length
 | .nil,pre,b,h=>⟨b,λ_ _=>rfl,by simpa [Wd.fl,Wd.sz]using h,by simp[Wd.rt,Wd.sz,gW]⟩
 | .snoc f kd n pl tx ks,pre,b,h=>by
  obtain⟨b1,e1,s1,k1⟩:=IK f pre b h;obtain⟨p1,hp1⟩:∃p1,p1=pre++f.fl pre.length:=⟨_,rfl⟩;have l1:p1.length=pre.length+f.sz:=by rw[hp1,List.length_append,f.fl_len]
  rw[<- hp1]at s1;rw[<- l1]at s1 k1;obtain⟨b2,e2,s2,k2⟩:=IK ks p1 b1 s1;obtain⟨p2,hp2⟩:∃p2,p2=p1++ks.fl p1.length:=⟨_,rfl⟩;have l2:p2.length=p1.length+ks.sz:=by rw[hp2,List.length_append,ks.fl_len]
  rw[<- hp2]at s2;rw[<- l2]at s2 k2;have hm2:(p2.map df).length=p2.length:=List.length_map ..;refine⟨λq=>if q=p2.length then p1.length else b2 q,λq hq =>?_,?_,?_⟩
  ·show(if q=p2.length then p1.length else b2 q)=b q;rw[if_neg (by omega),e2 q (by omega),e1 q hq]
  ·have hfl:pre++(Wd.snoc f kd n pl tx ks).fl pre.length=p2++[⟨kd,n,pl,tx,ks.rt p1.length⟩]:=by
    rw[hp2,hp1,<- hp1,l1,Wd.fl];simp[hp1]
   rw[hfl,show pre.length+(Wd.snoc f kd n pl tx ks).sz=p2.length+1 by rw[l2,l1];simp only[Wd.sz];omega,List.map_append];intro p hp;by_cases q:p=p2.length
   ·subst q;have:=Ab (p2.map df) (df ⟨kd,n,pl,tx,ks.rt p1.length⟩);rw[hm2]at this;show gW _ (aJ (p2.map df++[df ⟨kd,n,pl,tx,ks.rt p1.length⟩]) p2.length).reverse p2.length=some (if p2.length=p2.length then p1.length else _);rw[this,if_pos rfl,<- Tr.fZ (b:=b2) _ p2.length (λq hq=>by show b2 q=if q=p2.length then _ else b2 q;rw[if_neg (by omega)]) (λq hq=>s2.le q hq)];exact k2
   ·have s3:kr (p2.map df) b2 (p2.map df).length:=by rw[hm2];exact s2
    exact IJ s3 (λq hq=>by show(if q=p2.length then p1.length else b2 q)=b2 q;rw[if_neg (by omega)]) p (by omega)
  ·rw[show pre.length+(Wd.snoc f kd n pl tx ks).sz=p2.length+1 by rw[l2,l1];simp only[Wd.sz];omega];show gW _ (f.rt pre.length++[((pre.length+f.sz+ks.sz:Nat):Int)]).reverse (p2.length+1)=_;rw[List.reverse_append,List.reverse_singleton,List.singleton_append,<- l1,<- l2];unfold gW;rw[if_neg (by omega),if_pos (by omega)];show gW _ (f.rt pre.length).reverse (if p2.length+1-1=p2.length then p1.length else _)=_;rw[if_pos (by omega),<- Tr.fZ (b:=b1) _ p1.length (λq hq=>by show b1 q=if q=p2.length then _ else b2 q;rw[if_neg (by omega),e2 q hq]) (λq hq=>s1.le q hq)];exact k1
theorem Dp {P:Int->Int->Int->List UInt8->List Int->Prop}(hP:∀kd n pl tx l,P kd n pl tx l->1<=kd/\kd<=27/\iW kd tx=true/\eQ kd n=true/\bB kd l=true):∀(g:Wd) (pre post:List Nd),g.all P ->
  (g.rt pre.length).map (λk=>(nth ((pre++g.fl pre.length++post).map df) k.toNat).kd)=g.kds/\∀x ∈ g.fl pre.length,kY ((pre++g.fl pre.length++post).map df) (df x)=true
 | .nil,_,_,_=>⟨rfl,λx hx=>by cases hx⟩
 | .snoc f kd n pl tx ks,pre,post,h=>by
  obtain⟨p1,hp1⟩:∃p1,p1=pre++f.fl pre.length:=⟨_,rfl⟩;have l1:p1.length=pre.length+f.sz:=by rw[hp1,List.length_append,f.fl_len]
  obtain⟨x,hx⟩:∃x:Nd,x=⟨kd,n,pl,tx,ks.rt p1.length⟩:=⟨_,rfl⟩;have hL:pre++(Wd.snoc f kd n pl tx ks).fl pre.length++post=p1++ks.fl p1.length++([x]++post):=by
   rw[hx,hp1,<- hp1,l1,Wd.fl];simp[hp1]
  have hL2:pre++(Wd.snoc f kd n pl tx ks).fl pre.length++post=pre++f.fl pre.length++(ks.fl p1.length++([x]++post)):=by rw[hL,hp1];simp
  obtain⟨a1,a2⟩:=Dp hP f pre (ks.fl p1.length++([x]++post)) h.1;obtain⟨c1,c2⟩:=Dp hP ks p1 ([x]++post) h.2.1;rw[<- hL2]at a1 a2;rw[<- hL]at c1 c2;have hq:=hP _ _ _ _ _ h.2.2;have hxn:nth ((pre++(Wd.snoc f kd n pl tx ks).fl pre.length++post).map df) (p1.length+ks.sz)=df x:=by
   rw[hL];unfold nth;rw[List.getD_eq_getElem?_getD,List.map_append,List.getElem?_append_right (by simp[ks.fl_len]),List.map_append];simp[ks.fl_len]
  refine⟨?_,λy hy =>?_⟩
  ·show(f.rt pre.length++[((pre.length+f.sz+ks.sz:Nat):Int)]).map _=f.kds++[kd];rw[List.map_append,a1,List.map_singleton,<- l1,Int.toNat_natCast,hxn,hx];rfl
  ·simp only[Wd.fl,List.mem_append,List.mem_singleton]at hy;rw[<- l1]at hy;rcases hy with hy |hy |hy
   ·exact a2 y hy
   ·exact c2 y hy
   ·have e:y=x:=by rw[hy,hx]
    subst e;unfold kY;have e1:(df y).kd=kd:=by rw[hx];rfl
    have e2:(df y).n=n:=by rw[hx];rfl
    have e3:(df y).tx.data.toList=tx:=by rw[hx];exact rf tx
    have e4:(df y).ks=ks.rt p1.length:=by rw[hx];rfl
    rw[e1,e2,e3,e4,c1,decide_eq_true hq.1,decide_eq_true hq.2.1,hq.2.2.1,hq.2.2.2.1,hq.2.2.2.2];rfl
theorem IL {f:Wd}{kd n pl:Int}{tx:List UInt8}{ks:Wd}(hf:f=.nil)(h:((Wd.snoc f kd n pl tx ks).fl 0).length<=4000):gV (((Wd.snoc f kd n pl tx ks).fl 0).map df) ((((Wd.snoc f kd n pl tx ks).fl 0).length:Int)-1):=by
 subst hf;obtain⟨c,_,s,k⟩:=IK (Wd.snoc .nil kd n pl tx ks) [] (λ_=>0) (λp hp=>absurd hp (by simp));have hz:(Wd.snoc Wd.nil kd n pl tx ks).sz=ks.sz+1:=by simp[Wd.sz]
 have hlen:((Wd.snoc .nil kd n pl tx ks).fl 0).length=ks.sz+1:=by rw[Wd.fl_len,hz]
 have hml:(((Wd.snoc .nil kd n pl tx ks).fl 0).map df).length=ks.sz+1:=by rw[List.length_map,hlen]
 simp only[List.nil_append,List.length_nil,Nat.zero_add,hz]at s k;refine⟨c,by rw[hml];omega,by rw[hml];omega,by rw[hml,hlen],by rw[hml];exact s,?_⟩;rw[hml];have k2:gW c [((ks.sz:Nat):Int)] (ks.sz+1)=some 0:=by simpa [Wd.rt,Wd.sz]using k
 unfold gW at k2;rw[if_neg (by omega),if_pos (by omega)]at k2;unfold gW at k2;exact Option.some.inj k2
theorem Ac {kd:Int}{l:List UInt8}(h:iW kd l=true):l.length<=20:=by
 have hid:iB l=true->l.length<=20:=λq=>by
  unfold iB at q;simp only[Bool.and_eq_true,decide_eq_true_eq]at q;omega
 unfold iW at h;split at h
 ·exact hid h
 split at h
 ·simp only[Bool.or_eq_true,beq_iff_eq]at h;rcases h with h |h
  ·exact hid h
  ·rw[h];simp
 split at h
 ·simp only[Bool.or_eq_true,beq_iff_eq]at h;rcases h with h |h<;>rw[h]<;>simp
 split at h
 ·simp only[si,Bool.or_eq_true,beq_iff_eq]at h;rcases h with(((((((((((h |h) |h) |h) |h) |h) |h) |h) |h) |h) |h) |h) |h<;>rw[h]<;>simp
 ·simp only[beq_iff_eq]at h;rw[h];simp
end
section
open Go
open Tr (iW eQ bB kY iX lF nth jF gV tT)
theorem RA (l:List UInt8):Tk.iB l=Tr.iB l:=rfl
theorem PO {x:List UInt8}{v:Int}(h:Tk.nO x=some v)(hh:(x.headD 0).toNat≠45):0<=v/\v<=9223372036854775807:=by
 unfold Tk.nO at h;split at h
 ·cases h
 split at h
 ·rename_i u hu;injection h with h
  subst h;cases x with
  |nil=>simp[Lib.parseIntB]at hu
  |cons c r=>
   have hc:c.toNat≠45:=hh;unfold Lib.parseIntB at hu;simp only[hc,or_false]at hu;split at hu
   ·cases hu
   ·cases hu
   ·split at hu
    ·cases hu
    split at hu
    ·cases hu
    ·injection hu with hu
     rename_i q _;simp at q hu;omega
 ·cases h
theorem Ad {x:List UInt8}(h:Tk.dJ x=true):Tk.cB x≠2:=by
 unfold Tk.cB;rw[h];split
 ·decide
 split
 ·decide
 ·rw[if_pos rfl];decide
theorem BQ {l:List UInt8}{p:Nat}(hp:p<l.length)(h1:Tk.kz (l.getD p 0)=false)(h2:Tk.pK (l.getD p 0)=false)(hk:Tk.cB (Tk.sub l p (Tk.jb l p))=2):((Tk.sub l p (Tk.jb l p)).headD 0).toNat≠45:=by
 have hd:l.drop p=l.getD p 0 :: l.drop (p+1):=by
  rw[List.drop_eq_getElem_cons hp];simp[List.getD,hp]
 have hb:=Tk.eD hp;have hhead:(Tk.sub l p (Tk.jb l p)).headD 0=l.getD p 0:=by
  unfold Tk.sub;obtain⟨m,hm⟩:∃m,Tk.jb l p-p=m+1:=⟨Tk.jb l p-p-1,by omega⟩;rw[hm,hd];rfl
 rw[hhead];intro q;cases h3:Tk.wdB (l.getD p 0) with
 |true=>
  unfold Tk.wdB Tk.j6 at h3;rw[q]at h3;revert h3;decide
 |false=>
  have he:=Tk.Ni h1 h2 h3;split at he
  ·rename_i g;have:Tk.sub l p (Tk.jb l p)=(l.drop p).take 2:=by unfold Tk.sub;rw[he];congr 1;omega
   rw[this]at hk;exact Ad g.1 hk
  ·have e:Tk.sub l p (Tk.jb l p)=[l.getD p 0]:=by
    unfold Tk.sub;rw[he,show p+1+0-p=0+1 by omega,hd];rfl
   have e2:l.getD p 0=45:=UInt8.toNat_inj.1 q;rw[e,e2]at hk;exact Ad (by decide) hk
theorem qp:∀(f:Nat) (l:List UInt8) (p:Nat) (ts:List Tk.Tok),Tk.lN f l p=.ok ts->∀t ∈ ts,t.p<=l.length/\(t.k=1->Tr.iB t.s=true)/\(t.k=2->0<=t.n/\t.n<=9223372036854775807)
 |0,l,p,ts,h=>by
  simp only[Tk.lN]at h;injection h with h
  subst h;intro t ht;rw[List.mem_singleton]at ht;subst ht;exact⟨Nat.le_refl _,(λq=>by cases q),(λq=>by cases q)⟩
 |f+1,l,p,ts,h=>by
  simp only[Tk.lN]at h;split at h
  case isFalse=>
   injection h with h
   subst h;intro t ht;rw[List.mem_singleton]at ht;subst ht;exact⟨Nat.le_refl _,(λq=>by cases q),(λq=>by cases q)⟩
  case isTrue hp=>
   split at h
   ·exact qp f l _ ts h
   split at h
   ·cases h
   ·rename_i hsc h0;cases h1:Tk.lN f l (Tk.jb l p) with
    |bad q=>rw[h1]at h;cases h
    |ok us=>
     rw[h1]at h;have ih:=qp f l _ us h1;simp only[Tk.wX.pre]at h;injection h with h
     subst h;intro t ht;rcases List.mem_cons.1 ht with rfl |ht
     ·refine⟨Nat.le_of_lt hp,λq =>?_,λq =>?_⟩
      ·have q:Tk.cB (Tk.sub l p (Tk.jb l p))=1:=q;show Tr.iB (Tk.sub l p (Tk.jb l p))=true;rw[<- RA];unfold Tk.cB at q;split at q
       ·cases q
       split at q
       ·assumption
       split at q
       ·cases q
       split at q<;>cases q
      ·have q:Tk.cB (Tk.sub l p (Tk.jb l p))=2:=q;show 0<=Tk.jA (Tk.sub l p (Tk.jb l p))/\Tk.jA (Tk.sub l p (Tk.jb l p))<=9223372036854775807;simp only[Bool.or_eq_true,not_or,Bool.not_eq_true]at hsc;have hh:=BQ hp hsc.1 hsc.2 q;unfold Tk.jA;rw[if_pos q];unfold Tk.tQ;cases e:Tk.nO (Tk.sub l p (Tk.jb l p)) with
       |none=>exact⟨by decide,by decide⟩
       |some v=>exact PO e hh
     ·exact ih t ht
theorem vJ {l:List UInt8}{us:List Tk.Tok}(h:Tk.fT l 0=.ok us):Py (us.map um)/\∀t ∈ us.map um,t.p<=l.length:=by
 have hf:=qp _ _ _ _ h;refine⟨λt ht =>?_,λt ht =>?_⟩
 ·obtain⟨u,hu,rfl⟩:=List.mem_map.1 ht;exact(hf u hu).2
 ·obtain⟨u,hu,rfl⟩:=List.mem_map.1 ht;exact(hf u hu).1
structure SC (ts:List Tok) (nd:List Nd):Prop where
 right:lF (nd.map df) ((nd.length:Int)-1)=true
 pos:1<=nd.length
 few:nd.length<=4000
 kids:∀x ∈ nd.map df,x.ks.length<=4000
 text:∀x ∈ nd.map df,x.tx.size<=281474976710656
 num:∀x ∈ nd.map df,x.n<=9223372036854775807
 at_:∀i (hi:i<nd.length),i+1<nd.length->∃t ∈ ts,(t.p:Int)=nd[i].pl
theorem qw {l:List UInt8}{us:List Tk.Tok}{nd:List Nd}{k:Nat}(hc:Tk.fT l 0=.ok us)(h:eG iH l=.good nd k):SC (us.map um) nd:=by
 rcases(uI (w_ hc)).cases with⟨v,s',q,_⟩ |⟨p',e',q,_,_⟩
 case inr=>rw[oF hc q]at h;cases h
 rw[j5 hc q]at h;split at h
 ·cases h
 split at h
 ·cases h
 rename_i h4 h5;injection h with h1 h2
 subst h1;obtain⟨g,hnd,hall,hkid⟩:=PM (vJ hc).1 q;obtain⟨G,hG⟩:∃G:Wd,G=.snoc .nil 1 0 0 [] g:=⟨_,rfl⟩;have hfl:s'.nd=G.fl 0:=by rw[hnd,hG];simp[Wd.fl,Wd.sz]
 have hlen:s'.nd.length=g.sz+1:=by rw[hnd,List.length_append,g.fl_len];rfl
 have hP:∀kd n pl tx l,Pk (us.map um) kd n pl tx l->1<=kd/\kd<=27/\iW kd tx=true/\eQ kd n=true/\bB kd l=true:=λkd n pl tx l r=>⟨r.1,r.2.1,r.2.2.1,r.2.2.2.1.1,r.2.2.2.2.1⟩
 have hGall:G.all (λkd n pl tx l=>1<=kd/\kd<=27/\iW kd tx=true/\(eQ kd n=true/\n<=9223372036854775807)/\bB kd l=true):=by
  rw[hG];exact⟨True.intro,Wd.all_imp (λkd n pl tx l r=>⟨r.1,r.2.1,r.2.2.1,r.2.2.2.1,r.2.2.2.2.1⟩) hall,by decide,by decide,by decide,⟨by decide,by decide⟩,hkid⟩
 have hmem:=Wd.all_mem 0 hGall;rw[<- hfl]at hmem;have hks:=wV q;have hsn:gV (s'.nd.map df) ((s'.nd.length:Int)-1):=by
  have:=IL (f :=.nil) (kd:=1) (n:=0) (pl:=0) (tx:=[]) (ks:=g) rfl (by rw[<- hG,<- hfl];omega);rw[<- hG,<- hfl]at this;exact this
 refine⟨?_,by omega,by omega,λx hx =>?_,λx hx =>?_,λx hx =>?_,λi hi h1 =>?_⟩
 ·unfold lF;rw[Tr.lX hsn,decide_eq_true (by omega)];have hroot:(nth (s'.nd.map df) ((s'.nd.map df).length-1)).kd=1:=by
   rw[List.length_map,hlen,Nat.add_sub_cancel,hnd,List.map_append];unfold nth;rw[List.getD_eq_getElem?_getD,List.getElem?_append_right (by simp[g.fl_len])];simp[g.fl_len,df]
  have hsh:iX (s'.nd.map df)=true:=by
   have:=(Dp (P:=λkd n pl tx l=>1<=kd/\kd<=27/\iW kd tx=true/\(eQ kd n=true/\n<=9223372036854775807)/\bB kd l=true) (λkd n pl tx l r=>⟨r.1,r.2.1,r.2.2.1,r.2.2.2.1.1,r.2.2.2.2⟩) G [] [] hGall).2;simp only[List.nil_append,List.append_nil,List.length_nil,<- hfl]at this;unfold iX;rw[List.all_eq_true];intro x hx;obtain⟨y,hy,rfl⟩:=List.mem_map.1 hx;exact this y hy
  rw[hroot,hsh];rfl
 ·obtain⟨y,hy,rfl⟩:=List.mem_map.1 hx;have:=hks y hy;show y.ks.length<=4000;omega
 ·obtain⟨y,hy,rfl⟩:=List.mem_map.1 hx;obtain⟨l',r,_⟩:=hmem y hy;have:=Ac r.2.2.1;show(bs y.tx).size<=_;simp[bs,ByteArray.size];omega
 ·obtain⟨y,hy,rfl⟩:=List.mem_map.1 hx;obtain⟨l',r,_⟩:=hmem y hy;exact r.2.2.2.1.2
 ·have hig:i<(g.fl 0).length:=by rw[g.fl_len];omega
  have e:s'.nd[i]=(g.fl 0)[i]:=by
   simp only[hnd];exact List.getElem_append_left hig
  obtain⟨l',r,_⟩:=Wd.all_mem 0 hall _ (List.getElem_mem hig);rw[e];exact r.2.2.2.2.2
end
section
open Go
open Tr (iB iW eQ bB aI dS fu kY iX nth gV dpt)
theorem BR {P:Int->Int->Int->List UInt8->List Int->Prop}(hP:∀kd n pl tx l,P kd n pl tx l->bB kd l=true):∀g:Wd,g.all P->(∀k ∈ g.kds,aI k=true)->g.all λkd n pl tx l=>aI kd=true/\P kd n pl tx l
 | .nil,_,_=>True.intro
 | .snoc f kd n pl tx ks,h,hk=>by
  have h1:aI kd=true:=hk kd (by simp[Wd.kds]);have h2:=(C8 h1 (hP _ _ _ _ _ h.2.2)).1;exact⟨BR hP f h.1 λk hk'=>hk k (by simp[Wd.kds,hk']),BR hP ks h.2.1 h2,h1,h.2.2⟩
structure Sb (nd:List Nd):Prop where
 ok:Bn (nd.map df) ((nd.length:Int)-1)
 pos:1<=nd.length
 few:nd.length<=4000
 kids:∀x ∈ nd.map df,x.ks.length<=2
 text:∀x ∈ nd.map df,x.tx.size<=20
 num:∀x ∈ nd.map df,x.n<=9223372036854775807
theorem vK {l:List UInt8}{us:List Tk.Tok}{nd:List Nd}{k:Nat}(hc:Tk.fT l 0=.ok us)(h:eG gP l=.good nd k):Sb nd:=by
 rcases(q9 (w_ hc)).cases with⟨v,s',q,_⟩ |⟨p',e',q,_,_⟩
 case inr=>rw[oF hc q]at h;cases h
 rw[j5 hc q]at h;split at h
 ·cases h
 split at h
 ·cases h
 rename_i h4 h5;injection h with h1 h2
 subst h1;obtain⟨g,hnd,hv,hall,e,hke,hee⟩:=PN (vJ hc).1 q;have hall2:=BR (λkd n pl tx l r=>r.2.2.2.2.1) g hall (λk hk=>by rw[hke]at hk;rw[List.mem_singleton.1 hk];exact hee);have hmem:=Wd.all_mem 0 hall2;rw[<- hnd]at hmem;have hsn:gV (s'.nd.map df) ((s'.nd.length:Int)-1)/\1<=s'.nd.length:=by
  cases g with
  |nil=>cases hke
  |snoc f kd n pl tx ks=>
   cases f with
   |nil=>
    have:=IL (f :=.nil) (kd:=kd) (n:=n) (pl:=pl) (tx:=tx) (ks:=ks) rfl (by rw[<- hnd];omega);rw[<- hnd]at this;exact⟨this,by rw[hnd];simp[Wd.fl]⟩
   |snoc f2 kd2 n2 pl2 nE ks2=>
    have:=congrArg List.length hke;simp[Wd.kds]at this
 have hexp:∀x ∈ s'.nd.map df,aI x.kd=true:=λx hx=>by
  obtain⟨y,hy,rfl⟩:=List.mem_map.1 hx;obtain⟨l',r,_⟩:=hmem y hy;exact r.1
 refine⟨⟨hsn.1,by omega,hexp,?_⟩,hsn.2,by omega,λx hx =>?_,λx hx =>?_,λx hx =>?_⟩
 ·have:=(Dp (P:=λkd n pl tx l=>aI kd=true/\Pk (us.map um) kd n pl tx l) (λkd n pl tx l r=>⟨r.2.1,r.2.2.1,r.2.2.2.1,r.2.2.2.2.1.1,r.2.2.2.2.2.1⟩) g [] [] hall2).2;simp only[List.nil_append,List.append_nil,List.length_nil,<- hnd]at this;unfold iX;rw[List.all_eq_true];intro x hx;obtain⟨y,hy,rfl⟩:=List.mem_map.1 hx;exact this y hy
 ·obtain⟨y,hy,rfl⟩:=List.mem_map.1 hx;obtain⟨l',r,hr⟩:=hmem y hy;have:=(C8 r.1 r.2.2.2.2.2.1).2;show y.ks.length<=2;omega
 ·obtain⟨y,hy,rfl⟩:=List.mem_map.1 hx;obtain⟨l',r,_⟩:=hmem y hy;have:=Ac r.2.2.2.1;show(bs y.tx).size<=_;simp[bs,ByteArray.size];omega
 ·obtain⟨y,hy,rfl⟩:=List.mem_map.1 hx;obtain⟨l',r,_⟩:=hmem y hy;exact r.2.2.2.2.1.2
end
section
open Tr (Bx aa bt au aP ax aA)
theorem IM {a:t_}{p e:Nat}{w:World}{en:Ending}{w':World}(h:jw a w en w')(ha:a=.bad p e):bP (.tuple #[.agg #[.slice none 0 0,.int .i64 0],.int .i64 (p:Int),.int .i64 (e:Int)]) w en w':=by
 subst ha;obtain⟨A,n,c,r,m,q,er,rfl,hb,rfl,rfl,rfl,rfl,rfl,rfl,rfl⟩:=h;exact⟨rfl,hb⟩
def RB (nd:List Nd)(w:World)(e:Ending)(w':World):Prop:=∃A c,e=.returned (.tuple #[.agg #[.slice A nd.length c,.int .i64 ((nd.length:Int)-1)],.int .i64 0,.int .i64 0])/\Below w.heap.size w w'/\j3 w.heap.size w' A (nd.map df)
theorem sU {a:t_}{nd:List Nd}{k:Nat}{w:World}{en:Ending}{w':World}(h:jw a w en w')(ha:a=.good nd k):RB nd w en w':=by
 subst ha;obtain⟨A,n,c,r,m,q,er,rfl,hb,rfl,rfl,rfl,rfl,rfl,hN⟩:=h;exact⟨A,c,rfl,hb,hN⟩
end
section
set_option maxHeartbeats 1500000
set_option maxRecDepth 100000
open Tr (Bx aa bt eH bP)
def RD:List UInt8:=[40,49,43,50,41,42,45,120]
def RF:List UInt8:=[112,114,111,99,32,102,40,41,123,105,102,32,98,123,125,101,108,115,101,123,120,61,49,59,125,125]
def RG:List Tk.Tok:=[⟨3,0,0,[40]⟩,⟨2,1,1,[49]⟩,⟨3,0,2,[43]⟩,⟨2,2,3,[50]⟩,⟨3,0,4,[41]⟩,⟨3,0,5,[42]⟩,⟨3,0,6,[45]⟩,⟨1,0,7,[120]⟩,⟨5,0,8,[]⟩]
def RH:List Tk.Tok:=[⟨4,0,0,[112,114,111,99]⟩,⟨1,0,5,[102]⟩,⟨3,0,6,[40]⟩,⟨3,0,7,[41]⟩,⟨3,0,8,[123]⟩,⟨4,0,9,[105,102]⟩,⟨1,0,12,[98]⟩,⟨3,0,13,[123]⟩,⟨3,0,14,[125]⟩,⟨4,0,15,[101,108,115,101]⟩,⟨3,0,19,[123]⟩,⟨1,0,20,[120]⟩,⟨3,0,21,[61]⟩,⟨2,1,22,[49]⟩,⟨3,0,23,[59]⟩,⟨3,0,24,[125]⟩,⟨3,0,25,[125]⟩,⟨5,0,26,[]⟩]
def qx:List Nd:=[⟨20,1,1,[],[]⟩,⟨20,2,3,[],[]⟩,⟨27,0,2,[43],[0,1]⟩,⟨22,0,7,[120],[]⟩,⟨26,0,6,[45],[3]⟩,⟨27,0,5,[42],[2,4]⟩]
def pJ:List Nd:=[⟨22,0,12,[98],[]⟩,⟨6,0,13,[],[]⟩,⟨20,1,22,[],[]⟩,⟨7,0,20,[120],[2]⟩,⟨6,0,19,[],[3]⟩,⟨11,0,9,[],[0,1,4]⟩,⟨6,0,8,[],[5]⟩,⟨3,0,0,[102],[6]⟩,⟨1,0,0,[],[7]⟩]
theorem Nn:Tk.fT RD 0=.ok RG:=by decide +kernel
theorem Np:Tk.fT RF 0=.ok RH:=by decide +kernel
theorem RI:gP (RG.map um)=.ok [5] ⟨8,qx,0,1⟩:=by decide +kernel
theorem RJ:iH (RH.map um)=.ok [8] ⟨17,pJ,0,2⟩:=by decide +kernel
theorem RL:Tr.dpt (qx.map df) 5<=40:=by
 by_cases h:Tr.gV (qx.map df) 5
 ·rw[Tr.jR h];have e:Tr.dpL (qx.map df) (qx.map df).length ((qx.map df).length-1)=3:=by decide +kernel
  rw[e];decide
 ·rw[Tr.sG h];decide
theorem RN:Tr.dpt (pJ.map df) 8<=40:=by
 by_cases h:Tr.gV (pJ.map df) 8
 ·rw[Tr.jR h];have e:Tr.dpL (pJ.map df) (pJ.map df).length ((pJ.map df).length-1)=7:=by decide +kernel
  rw[e];decide
 ·rw[Tr.sG h];decide
theorem Nq:eG gP RD=.good qx 1:=by
 rw[j5 Nn RI,if_neg (by decide),if_neg (by have:=RL;show¬40<Tr.dpt (qx.map df) 5;omega)]
theorem Nr:eG iH RF=.good pJ 2:=by
 rw[j5 Np RJ,if_neg (by decide),if_neg (by have:=RN;show¬40<Tr.dpt (pJ.map df) 8;omega)]
theorem IP {w:World}{A:Option Addr}{nd:List Nd}(hN:eH w A (nd.map df))(hx:Sb nd)(hT:Tb w):BK w A nd.length (nd.map df):=by
 have hc:uR w A (nd.map df):=λp bA off K m c hp _ _ hk _=>by
  have:=hx.ok.exp (nd.map df)[p] (List.getElem_mem hp);rw[aS hp]at hk;rw[hk]at this;cases this
 exact⟨hN,by rw[List.length_map],λx h=>by have:=hx.kids x h;omega,λx h=>by have:=hx.text x h;omega,hx.num,hc,hT⟩
theorem EO (A:Option Addr)(c:Nat)(w:World)(hN:eH w A (qx.map df))(hT:Tb w):Calls Tryz.prog 23 #[.agg #[.slice A 6 c,.int .i64 5]] w (bP (.string ⟨#[40,49,32,43,32,50,41,32,42,32,45,120]⟩) w):=by
 have hx:=vK Nn Nq;have h1:=lS A 6 c (qx.map df) 5 w (IP hN hx hT) (λx h=>by have:=hx.kids x h;omega);have e:fP (qx.map df) 5=[40,49,32,43,32,50,41,32,42,32,45,120]:=by
  unfold fP;have hb:exB (qx.map df) 5=true:=hx.ok.exB;rw[hb];show bE (qx.map df) (qx.map df).length 5=_;decide +kernel
 rw[e]at h1;exact h1
theorem yP (A:Option Addr)(c:Nat)(w:World)(hN:eH w A (pJ.map df))(hT:Tb w):Calls Tryz.prog 21 #[.agg #[.slice A 9 c,.int .i64 8]] w (bP (.string ⟨#[112,114,111,99,32,102,40,41,32,123,10,32,32,105,102,32,98,32,123,10,32,32,125,32,101,108,115,101,32,123,10,32,32,32,32,120,32,61,32,49,59,10,32,32,125,10,125,10]⟩) w):=by
 have hx:=qw Np Nr;have h13:∀p,p<9->(ag (pJ.map df) ((p:Nat):Int)).kd≠13:=by decide +kernel
 have h1:=mI A 9 c (pJ.map df) 8 w ⟨hN,rfl,hx.kids,hx.text,hx.num,λp bA off K m c hp _ _ hk _=>absurd hk (h13 p hp),hT⟩;have e:eZ (pJ.map df) 8=[112,114,111,99,32,102,40,41,32,123,10,32,32,105,102,32,98,32,123,10,32,32,125,32,101,108,115,101,32,123,10,32,32,32,32,120,32,61,32,49,59,10,32,32,125,10,125,10]:=by
  unfold eZ;have hb:Tr.lF (pJ.map df) 8=true:=hx.right;rw[hb];show lG (pJ.map df) (pJ.map df).length 8=_;decide +kernel
 rw[e]at h1;exact h1
def Tm (w:World)(e:Ending)(w':World):Prop:=∃A c,e=.returned (.tuple #[.agg #[.slice A 6 c,.int .i64 5],.int .i64 0,.int .i64 0])/\Below w.heap.size w w'/\j3 w.heap.size w' A (qx.map df)
def Tn (w:World)(e:Ending)(w':World):Prop:=∃A c,e=.returned (.tuple #[.agg #[.slice A 9 c,.int .i64 8],.int .i64 0,.int .i64 0])/\Below w.heap.size w w'/\j3 w.heap.size w' A (pJ.map df)
theorem BS (w:World)(hE:Tk.mX w)(hT:Tb w):Calls Tryz.prog 19 #[] w (bP (.bool true) w):=by
 have H1:=hid (show Calls Tryz.prog 29 #[.string ⟨#[40,49,43,50,41,42,45,120]⟩] w (Tm w) from(vH _ w hE (by decide)).mono λ_ _ q=>sU q Nq);have H2:=hid (λw' (q:Below w.heap.size w w')=>show Calls Tryz.prog 16 #[.string ⟨#[112,114,111,99,32,102,40,41,123,105,102,32,98,123,125,101,108,115,101,123,120,61,49,59,125,125]⟩] w' (Tn w') from(oD _ w' (hE.below q) (by decide)).mono λ_ _ q=>sU q Nr);have HT:=hid hT;clear hE hT;go_enter Tryz.func19,Tryz.ntmps19
 go_wp2_with (go_at_call 29;refine H1.out.mono ?_);rintro e w1 ⟨A,c,rfl,hb1,hN⟩;have HA1:=hid (bt hb1 (aa w1 (.cells #[.slice A 6 c,.int .i64 5] 25)));have HN1:=hid (hN.nds.below (aa w1 (.cells #[.slice A 6 c,.int .i64 5] 25)));have HX1:=hid (Bx.new w1 25 [.slice A 6 c,.int .i64 5]);clear hb1 hN H1;go_wp2_with (go_at_call 16;refine(H2.out _ HA1.out).mono ?_);rintro e w2 ⟨A2,c2,rfl,hb2,hN⟩;have hs2:=hb2.size;rw[World.size_alloc]at hs2;have HB2:=hid (bt hb2 (aa w2 (.cells #[.slice A2 9 c2,.int .i64 8] 25)));have HN2:=hid (hN.nds.below (aa w2 (.cells #[.slice A2 9 c2,.int .i64 8] 25)));have HX2:=hid (Bx.new w2 25 [.slice A2 9 c2,.int .i64 8]);have HX12:=hid (HX1.out.below HB2.out HX1.out.lt);have HN12:=hid (HN1.out.below HB2.out);have HA2:=hid (bt HA1.out HB2.out);have HE1:=hid (EO A c _ HN12.out (HT.out.below HA2.out));have e0:=(HX12.out.cell 0).trans rfl;have e1:=(HX12.out.cell 1).trans rfl;clear hb2 hN H2;go_wp2_with (go_at_call 23;refine HE1.out.mono ?_);rintro e w3 ⟨rfl,hb3⟩;have HA3:=hid (bt HA2.out hb3);have hx2:=HX2.out.below hb3 HX2.out.lt;have HE2:=hid (yP A2 c2 w3 (HN2.out.below hb3) (HT.out.below HA3.out));have f0:=(hx2.cell 0).trans rfl;have f1:=(hx2.cell 1).trans rfl;clear hb3 hx2 e0 e1;go_wp2_with (go_at_call 21;refine HE2.out.mono ?_);rintro e w4 ⟨rfl,hb4⟩;have HA4:=hid (bt HA3.out hb4);clear hb4 f0 f1;go_wp2
 go_ret
 exact⟨rfl,HA4.out⟩
end
section
open Tr (Bx aa bt eH bP gV dpt)
theorem IQ {l:List UInt8}{p e:Nat}(h:eG gP l=.bad p e):e≠0:=by
 cases hc:Tk.fT l 0 with
 |bad q=>
  rw[kJ hc]at h;injection h with h1 h2
  subst h2;decide
 |ok us=>
  rcases(q9 (w_ hc)).cases with⟨v,s',q,_⟩ |⟨p',e',q,⟨t,ht,hp⟩,he⟩
  ·rw[j5 hc q]at h;split at h
   ·injection h with h1 h2;subst h2;decide
   split at h
   ·injection h with h1 h2;subst h2;decide
   ·cases h
  ·rw[oF hc q]at h;injection h with h1 h2
   omega
theorem sV {l:List UInt8}{nd:List Nd}{k:Nat}(h:eG gP l=.good nd k):Sb nd:=by
 cases hc:Tk.fT l 0 with
 |bad q=>rw[kJ hc]at h;cases h
 |ok us=>exact vK hc h
end
section
open Tr (Bx aa bt eH bP aM gV dpt)
end
section
open Tr (Bx aa bt eH bP gV dpt jZ mW)
structure Tv (x:List UInt8) (la lb:List Tr.Nd) (ra rb:Int) (lc:List Tr.Nd) (rc:Int):Prop where
 eq:lc=jZ 27 0 0 (lZ x) [(la,ra),(lb,rb)]
 len:lc.length=la.length+lb.length+1
 root:rc=((la.length+lb.length:Nat):Int)
 kids:∀y ∈ lc,y.ks.length<=2
 text:∀y ∈ lc,y.tx.size<=281474976710656
 num:∀y ∈ lc,y.n<=9223372036854775807
end
section
open Go Go.ChangeShapes Go.WideShapes Go.ChangeAt Go.RowKit
open Tr (bP dpt)
end
end Go.Proofs.YteecfjhjllajlaaGreatDoor
