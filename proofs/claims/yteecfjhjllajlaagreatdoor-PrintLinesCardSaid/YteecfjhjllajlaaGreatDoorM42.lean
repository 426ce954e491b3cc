/- PROVED here: parts Se of the claim. No condition but those in each theorem's own head. -/
import Derived.Test.YteecfjhjllajlaaGreatDoorM06
import Derived.Test.YteecfjhjllajlaaGreatDoorM04
import Derived.Test.YteecfjhjllajlaaGreatDoorM31
import Derived.Test.YteecfjhjllajlaaGreatDoorM32
import Derived.Test.YteecfjhjllajlaaGreatDoorM41
import Derived.Test.YteecfjhjllajlaaGreatDoorM30
namespace Go.Proofs.YteecfjhjllajlaaGreatDoor
section
section
inductive Wd where
 |nil
 |snoc (f:Wd) (kd n pl:Int) (tx:List UInt8) (ks:Wd)
def Wd.sz:Wd→Nat
 | .nil=>0
 | .snoc f _ _ _ _ ks=>f.sz+ks.sz+1
def Wd.rt (o:Nat):Wd→List Int
 | .nil=>[]
 | .snoc f _ _ _ _ ks=>f.rt o++[((o+f.sz+ks.sz:Nat):Int)]
def Wd.fl (o:Nat):Wd→List Nd
 | .nil=>[]
 | .snoc f kd n pl tx ks=>f.fl o++(ks.fl (o+f.sz)++[⟨kd,n,pl,tx,ks.rt (o+f.sz)⟩])
def Wd.kds:Wd→List Int
 | .nil=>[]
 | .snoc f kd _ _ _ _=>f.kds++[kd]
def Wd.app (f:Wd):Wd→Wd
 | .nil=>f
 | .snoc g kd n pl tx ks =>.snoc (f.app g) kd n pl tx ks
def Wd.all (P:Int→Int→Int→List UInt8→List Int→Prop):Wd→Prop
 | .nil=>True
 | .snoc f kd n pl tx ks=>f.all P∧ks.all P∧P kd n pl tx ks.kds
theorem Wd.fl_len:∀(f:Wd) (o:Nat),(f.fl o).length=f.sz
 | .nil,_=>rfl
 | .snoc f kd n pl tx ks,o=>by
  simp only[Wd.fl,Wd.sz,List.length_append,List.length_singleton,f.fl_len,ks.fl_len];omega
theorem Wd.rt_len:∀(f:Wd) (o:Nat),(f.rt o).length=f.kds.length
 | .nil,_=>rfl
 | .snoc f kd n pl tx ks,o=>by simp only[Wd.rt,Wd.kds,List.length_append,List.length_singleton,f.rt_len]
theorem Wd.app_sz (f:Wd):∀g:Wd,(f.app g).sz=f.sz+g.sz
 | .nil=>rfl
 | .snoc g kd n pl tx ks=>by simp only[Wd.app,Wd.sz,f.app_sz g];omega
theorem Wd.app_rt (f:Wd)(o:Nat):∀g:Wd,(f.app g).rt o=f.rt o++g.rt (o+f.sz)
 | .nil=>by simp[Wd.app,Wd.rt]
 | .snoc g kd n pl tx ks=>by
  simp only[Wd.app,Wd.rt,f.app_rt o g,f.app_sz g,List.append_assoc]
  rw[show o+(f.sz+g.sz)+ks.sz=o+f.sz+g.sz+ks.sz by omega]
theorem Wd.app_fl (f:Wd)(o:Nat):∀g:Wd,(f.app g).fl o=f.fl o++g.fl (o+f.sz)
 | .nil=>by simp[Wd.app,Wd.fl]
 | .snoc g kd n pl tx ks=>by
  simp only[Wd.app,Wd.fl,f.app_fl o g,f.app_sz g,List.append_assoc]
  rw[show o+(f.sz+g.sz)=o+f.sz+g.sz by omega]
theorem Wd.app_kds (f:Wd):∀g:Wd,(f.app g).kds=f.kds++g.kds
 | .nil=>by simp[Wd.app,Wd.kds]
 | .snoc g kd n pl tx ks=>by simp only[Wd.app,Wd.kds,f.app_kds g,List.append_assoc]
theorem Wd.app_all {P:Int→Int→Int→List UInt8→List Int→Prop}{f:Wd}(hf:f.all P):∀ {g:Wd},g.all P→(f.app g).all P
 | .nil,_=>hf
 | .snoc _ _ _ _ _ _,h=>⟨Wd.app_all hf h.1,h.2.1,h.2.2⟩
section
variable (P:Int→Int→Int→List UInt8→List Int→Prop)
def At (n0:List Nd)(s:St)(f:Wd)(v:List Int):Prop:=s.nd=n0++f.fl n0.length∧v=f.rt n0.length∧f.all P
def Rw0 (n0:List Nd)(C:List Int→Prop)(r:Rs):Prop:=∀v s',r = .ok v s'→∃g,At P n0 s' g v∧C g.kds
def Qt (s:St)(r:Rs):Prop:=∀v s',r = .ok v s'→v=[]∧s'.nd=s.nd
end
section
variable {P:Int→Int→Int→List UInt8→List Int→Prop}
theorem At.nil (s:St):At P s.nd s .nil []:=⟨by simp[Wd.fl],rfl,True.intro⟩
theorem At.len {n0:List Nd}{s:St}{f:Wd}{v:List Int}(h:At P n0 s f v):s.nd.length=n0.length+f.sz:=by rw[h.1,List.length_append,f.fl_len]
theorem At.app {n0:List Nd}{s s':St}{f g:Wd}{v u:List Int}(h:At P n0 s f v)(k:At P s.nd s' g u):At P n0 s' (f.app g) (v++u):=by
 refine⟨?_,?_,Wd.app_all h.2.2 k.2.2⟩
 ·rw[k.1,h.len,f.app_fl,← List.append_assoc,← h.1]
 ·rw[f.app_rt,← h.2.1,k.2.1,h.len]
theorem At.to {n0:List Nd}{s s':St}{f:Wd}{v:List Int}(h:At P n0 s f v)(e:s'.nd=s.nd):At P n0 s' f v:=⟨e.trans h.1,h.2⟩
theorem Rw0.bind {n0 n1:List Nd}{C D:List Int→Prop}{r:Rs}{k:List Int→St→Rs}(h:Rw0 P n0 C r)(q:∀v s' g,At P n0 s' g v→C g.kds→Rw0 P n1 D (k v s')):Rw0 P n1 D (r.bind k):=by
 intro v s' e
 obtain⟨v1,s1,e1,e2⟩:=Rs.bind_ok e
 obtain⟨g,a,c⟩:=h v1 s1 e1
 exact q v1 s1 g a c v s' e2
theorem Qt.bind {n1:List Nd}{D:List Int→Prop}{s:St}{r:Rs}{k:List Int→St→Rs}(h:Qt s r)(q:∀s',s'.nd=s.nd→Rw0 P n1 D (k [] s')):Rw0 P n1 D (r.bind k):=by
 intro v s' e
 obtain⟨v1,s1,e1,e2⟩:=Rs.bind_ok e
 obtain⟨rfl,e3⟩:=h v1 s1 e1
 exact q s1 e3 v s' e2
theorem Rw0.no {n0:List Nd}{C:List Int→Prop}(p e:Nat):Rw0 P n0 C (.no p e):=fun _ _ h=>by cases h
theorem Rw0.ok {n0:List Nd}{C:List Int→Prop}{v:List Int}{s:St}{f:Wd}(h:At P n0 s f v)(c:C f.kds):Rw0 P n0 C (.ok v s):=fun v' s' e=>by cases e;exact⟨f,h,c⟩
theorem Rw0.imp {n0:List Nd}{C D:List Int→Prop}{r:Rs}(h:Rw0 P n0 C r)(q:∀l,C l→D l):Rw0 P n0 D r:=fun v s e=>by
 obtain⟨g,a,c⟩:=h v s e;exact⟨g,a,q _ c⟩
theorem Rw0.at {n0 n1:List Nd}{C:List Int→Prop}{r:Rs}(h:Rw0 P n0 C r)(e:n0=n1):Rw0 P n1 C r:=e▸h
theorem rw_add {n0:List Nd}{s:St}{f:Wd}{v:List Int}(h:At P n0 s f v){kd n pl:Int}{tx:List UInt8}(q:P kd n pl tx f.kds):Rw0 P n0 (· = [kd]) (addM kd n pl tx v s):=by
 intro v' s' e
 unfold addM at e
 cases e
 refine⟨.snoc .nil kd n pl tx f,⟨?_,?_,True.intro,h.2.2,q⟩,rfl⟩
 ·show s.nd++[_]=n0++([]++(f.fl (n0.length+0)++[⟨kd,n,pl,tx,f.rt (n0.length+0)⟩]))
  rw[Nat.add_zero,← h.2.1,List.nil_append,← List.append_assoc,← h.1]
 ·show[_]=[]++[((n0.length+0+f.sz:Nat):Int)]
  rw[h.len,Nat.add_zero];rfl
end
section
variable (ts:List Tok) (s:St)
theorem qt_exp (x:List UInt8):Qt s (expM ts x s):=fun v s' e=>by
 unfold expM at e
 split at e<;>cases e
 exact⟨rfl,rfl⟩
theorem qt_end:Qt s (endM ts s):=fun v s' e=>by
 unfold endM at e
 split at e<;>cases e
 exact⟨rfl,rfl⟩
theorem qt_fin (x:List UInt8):Qt s (finM ts x s):=fun v s' e=>by
 unfold finM at e
 obtain⟨v1,s1,e1,e2⟩:=Rs.bind_ok e
 have:=qt_exp ts s x v1 s1 e1
 cases e2
 exact⟨rfl,this.2⟩
end
end
section
open Tr (idB txB numB kidB expB stmB allB sgB risB run1 ri1 ri2)
def Pk (ts:List Tok)(kd n pl:Int)(tx:List UInt8)(kds:List Int):Prop:=
 1≤kd∧kd≤27∧txB kd tx=true∧(numB kd n=true∧n≤9223372036854775807)∧kidB kd kds=true∧∃t ∈ ts,(t.p:Int)=pl
def TkF (ts:List Tok):Prop:=∀t ∈ ts,(t.k=1→idB t.s=true)∧(t.k=2→0≤t.n∧t.n≤9223372036854775807)
def E1 (l:List Int):Prop:=∃e,l=[e]∧expB e=true
def S1 (l:List Int):Prop:=∃e,l=[e]∧stmB e=true
section
variable {ts:List Tok}
theorem tkn_in {s:St}(h:(tkn ts s).k≠5∨(tkn ts s).s≠[]):tkn ts s ∈ ts:=by
 by_cases q:s.nx<ts.length
 ·exact tkn_mem q
 ·exfalso
  have e:tkn ts s=⟨5,0,0,[]⟩:=by unfold tkn;simp[List.getD,Nat.le_of_not_lt q]
  rw[e]at h
  exact h.elim (fun a=>a rfl) (fun a=>a rfl)
theorem tkn_word {s:St}{x:List UInt8}(h:(tkn ts s).s=x)(hx:x≠[]):tkn ts s ∈ ts:=tkn_in (.inr (h▸hx))
theorem tkn_name {s:St}(h:(tkn ts s).k=1):tkn ts s ∈ ts:=tkn_in (.inl (by rw[h];decide))
theorem sees_is {s:St}{x:List UInt8}(h:sees ts x s=true):(tkn ts s).s=x:=by simpa [sees]using h
abbrev Rw1 (ts:List Tok):=Rw0 (Pk ts)
variable {n1:List Nd} {D:List Int→Prop} {s:St} {k:List Int→St→Rs}
theorem name_bind (q:(tkn ts s).k=1→∀s',s'.nd=s.nd→Rw1 ts n1 D (k [] s')):Rw1 ts n1 D ((nameM ts s).bind k):=by
 unfold nameM
 split
 ·rename_i h;exact q h _ rfl
 ·exact Rw0.no _ _
theorem exp_bind {x:List UInt8}(q:(tkn ts s).s=x→∀s',s'.nd=s.nd→Rw1 ts n1 D (k [] s')):Rw1 ts n1 D ((expM ts x s).bind k):=by
 unfold expM
 split
 ·rename_i h;exact q (sees_is h) _ rfl
 ·exact Rw0.no _ _
theorem beg_bind {x:List UInt8}(q:(tkn ts s).s=x→∀s',s'.nd=s.nd→Rw1 ts n1 D (k [] s')):Rw1 ts n1 D ((begM ts x s).bind k):=by
 unfold begM expM
 split
 ·exact Rw0.no _ _
 split
 ·rename_i h;exact q (sees_is h) _ rfl
 ·exact Rw0.no _ _
end
structure RecW (ts:List Tok) (rec:Job→St→Rs):Prop where
 una:∀s,Rw1 ts s.nd E1 (rec .una s)
 bin:∀r s,1≤r→Rw1 ts s.nd E1 (rec (.bin r) s)
 loop:∀r s n0 f l,1≤r→At (Pk ts) n0 s f l→E1 f.kds→Rw1 ts n0 E1 (rec (.loop r l) s)
 exprs:∀s n0 f a,At (Pk ts) n0 s f a→Rw1 ts n0 (fun l=>∃es,l=f.kds++es∧es.all expB=true) (rec (.exprs a) s)
 stmt:∀s,Rw1 ts s.nd S1 (rec .stmt s)
 stmts:∀s n0 f a pl,At (Pk ts) n0 s f a→f.kds.all stmB=true→(∃t ∈ ts,(t.p:Int)=pl)→Rw1 ts n0 (· = [6]) (rec (.stmts pl a) s)
 vars:∀(j:Nat) s n0 f a,j=2∨j=5→At (Pk ts) n0 s f a→Rw1 ts n0 (fun l=>∃m,l=f.kds++List.replicate m (j:Int)) (rec (.vars j a) s)
 params:∀s n0 f a,At (Pk ts) n0 s f a→Rw1 ts n0 (fun l=>∃m,l=f.kds++List.replicate m 4) (rec (.params a) s)
 procs:∀s n0 f a,At (Pk ts) n0 s f a→Rw1 ts n0 (fun l=>∃m,l=f.kds++List.replicate m 3) (rec (.procs a) s)
section
variable {ts:List Tok} {rec:Job→St→Rs} (hr:RecW ts rec) (hk:TkF ts)
theorem E1.all {l:List Int}(h:E1 l):l.length=1∧allB l=true:=by
 obtain⟨e,rfl,h⟩:=h;exact⟨rfl,by simp[allB,h]⟩
include hr
theorem rw_expr (s:St):Rw1 ts s.nd E1 (exprM rec s):=hr.bin 1 s (Nat.le_refl _)
theorem rw_idx (s:St):Rw1 ts s.nd E1 (idxM ts rec s):=by
 unfold idxM
 refine beg_bind fun _ s1 e1 =>?_
 refine((rw_expr hr s1).at e1).bind fun v s2 g a c =>?_
 refine(qt_fin ts s2 [93]).bind fun s3 e3 =>?_
 exact Rw0.ok (a.to e3) c
include hk
omit hr in
theorem rw_leaf (kd:Nat)(s:St)(h:kd=18∨kd=19):Rw1 ts s.nd (· = [(kd:Int)]) (leafM ts kd s):=by
 unfold leafM;simp only
 refine name_bind fun q s1 e1 =>?_
 have hi:=(hk _ (tkn_name q)).1 q
 refine rw_add ((At.nil s).to e1) ?_
 rcases h with rfl |rfl
 ·exact⟨by decide,by decide,by simpa [txB]using hi,by decide,by decide,⟨_,tkn_name q,rfl⟩⟩
 ·exact⟨by decide,by decide,by simpa [txB]using hi,by decide,by decide,⟨_,tkn_name q,rfl⟩⟩
theorem rw_vari (s:St):Rw1 ts s.nd E1 (variM ts rec s):=by
 unfold variM;simp only
 refine name_bind fun q s1 e1 =>?_
 have hi:=(hk _ (tkn_name q)).1 q
 split
 ·refine((rw_idx hr s1).at e1).bind fun v s2 g a c =>?_
  refine(rw_add a ?_).imp fun l e=>⟨23,e,by decide⟩
  exact⟨by decide,by decide,by simpa [txB]using hi,by decide,by have:=c.all;simp[kidB,this.1,this.2],⟨_,tkn_name q,rfl⟩⟩
 ·refine(rw_add ((At.nil s).to e1) ?_).imp fun l e=>⟨22,e,by decide⟩
  exact⟨by decide,by decide,by simpa [txB]using hi,by decide,by decide,⟨_,tkn_name q,rfl⟩⟩
omit hk in
theorem rw_sign (s:St)(h:(tkn ts s).s=[45]∨(tkn ts s).s=[33]):Rw1 ts s.nd E1 (signM ts rec s):=by
 have hm:tkn ts s ∈ ts:=h.elim (fun q=>tkn_word q (by decide)) (fun q=>tkn_word q (by decide))
 unfold signM;simp only
 refine beg_bind fun _ s1 e1 =>?_
 refine((hr.una s1).at e1).bind fun v s2 g a c =>?_
 refine(rw_add (a.to (s' := { s2 with op:=s2.op-1 }) rfl) ?_).imp fun l e=>⟨26,e,by decide⟩
 exact⟨by decide,by decide,by rcases h with h |h<;>rw[h]<;>decide,by decide,by have:=c.all;simp[kidB,this.1,this.2],⟨_,hm,rfl⟩⟩
omit hr in
theorem rw_mark (kd:Nat)(s:St)(h:kd=24∨kd=25)(hm:tkn ts s ∈ ts):Rw1 ts s.nd E1 (markM ts kd s):=by
 unfold markM;simp only
 refine name_bind fun q s1 e1 =>?_
 have hi:=(hk _ (tkn_name q)).1 q
 refine(rw_add (kd:=(kd:Int)) ((At.nil s).to (s':=s1) e1) ?_).imp fun l e=>⟨(kd:Int),e,by rcases h with rfl |rfl<;>decide⟩
 rcases h with rfl |rfl
 ·exact⟨by decide,by decide,by simpa [txB]using hi,by decide,by decide,⟨_,hm,rfl⟩⟩
 ·exact⟨by decide,by decide,by simpa [txB]using hi,by decide,by decide,⟨_,hm,rfl⟩⟩
theorem rw_una (s:St):Rw1 ts s.nd E1 (unaM ts rec s):=by
 unfold unaM;simp only
 split
 ·exact rw_vari hr hk s
 split
 ·rename_i q
  have hm:tkn ts s ∈ ts:=tkn_in (.inl (by rw[q];decide))
  have hn:=(hk _ hm).2 q
  refine(rw_add ((At.nil s).to (s':=takeS s) rfl) ?_).imp fun l e=>⟨20,e,by decide⟩
  exact⟨by decide,by decide,by decide,⟨by simpa [numB]using hn.1,hn.2⟩,by decide,⟨_,hm,rfl⟩⟩
 split
 ·rename_i q;exact rw_sign hr s q
 split
 ·rename_i q
  have hm:tkn ts s ∈ ts:=q.elim (fun q=>tkn_word q (by decide)) (fun q=>tkn_word q (by decide))
  refine(rw_add ((At.nil s).to (s':=takeS s) rfl) ?_).imp fun l e=>⟨21,e,by decide⟩
  refine⟨by decide,by decide,by decide,?_,by decide,⟨_,hm,rfl⟩⟩
  split<;>decide
 split
 ·rename_i q;exact rw_mark hk 24 s (.inl rfl) (tkn_word q (by decide))
 split
 ·rename_i q;exact rw_mark hk 25 s (.inr rfl) (tkn_word q (by decide))
 split
 ·refine beg_bind fun _ s1 e1 =>?_
  refine((rw_expr hr s1).at e1).bind fun v s2 g a c =>?_
  refine(qt_fin ts s2 [41]).bind fun s3 e3 =>?_
  exact Rw0.ok (a.to e3) c
 ·exact Rw0.no _ _
omit hk in
theorem rw_bin (r:Nat)(s:St)(h:1≤r):Rw1 ts s.nd E1 (binM rec r s):=by
 unfold binM
 split
 ·exact hr.una s
 ·exact(hr.bin (r+1) s (by omega)).bind fun v s1 g a c=>hr.loop r s1 _ g v h a c
omit hr hk in
theorem row_sign {x:List UInt8}{r:Nat}(h:rowOf x=r)(h1:1≤r):sgB x=true∧x≠[]:=by
 unfold rowOf at h
 split at h
 ·rename_i q;rw[q];decide
 split at h
 ·rename_i q;rw[q];decide
 split at h
 ·rename_i q;rcases q with q |q |q |q |q |q<;>rw[q]<;>decide
 split at h
 ·rename_i q;rcases q with q |q<;>rw[q]<;>decide
 split at h
 ·rename_i q;rcases q with q |q |q<;>rw[q]<;>decide
 ·omega
omit hk in
theorem rw_loop (r:Nat)(s:St)(n0:List Nd)(f:Wd)(l:List Int)(h:1≤r)(hA:At (Pk ts) n0 s f l)(hE:E1 f.kds):Rw1 ts n0 E1 (loopM ts rec r l s):=by
 unfold loopM;simp only
 split
 ·rename_i q
  have hs:=row_sign q h
  have hm:tkn ts s ∈ ts:=tkn_in (.inr hs.2)
  refine(hr.bin (r+1) (takeS s) (by omega)).bind fun v s1 g a c =>?_
  have hB:=(hA.to (s':=takeS s) rfl).app a
  refine(rw_add hB (kd:=27) ?_).bind fun v s2 g2 a2 c2=>hr.loop r s2 n0 g2 v h a2 ⟨27,c2,by decide⟩
  obtain⟨x,hx,hx2⟩:=hE
  obtain⟨y,hy,hy2⟩:=c
  refine⟨by decide,by decide,by simpa [txB]using hs.1,by decide,?_,⟨_,hm,rfl⟩⟩
  rw[f.app_kds,hx,hy]
  simp[kidB,allB,hx2,hy2]
 ·exact Rw0.ok hA hE
omit hk in
theorem rw_exprs (s:St)(n0:List Nd)(f:Wd)(a:List Int)(hA:At (Pk ts) n0 s f a):Rw1 ts n0 (fun l=>∃es,l=f.kds++es∧es.all expB=true) (exprsM ts rec a s):=by
 unfold exprsM
 split
 ·refine(rw_expr hr (takeS s)).bind fun v s1 g b c =>?_
  have hB:=(hA.to (s':=takeS s) rfl).app b
  refine(hr.exprs s1 n0 _ _ hB).imp fun l q =>?_
  obtain⟨es,e,he⟩:=q
  obtain⟨x,hx,hx2⟩:=c
  refine⟨x :: es,by rw[e,f.app_kds,hx];simp,by simp[hx2];simpa using he⟩
 ·refine(qt_fin ts s [41]).bind fun s1 e1 =>?_
  exact Rw0.ok (hA.to e1) ⟨[],by simp,rfl⟩
omit hk in
theorem rw_list (s:St):Rw1 ts s.nd (fun l=>l.all expB=true) (listM ts rec s):=by
 unfold listM
 refine beg_bind fun _ s1 e1 =>?_
 split
 ·refine(hr.exprs s1 s.nd .nil [] ((At.nil s).to e1)).imp fun l q =>?_
  obtain⟨es,e,he⟩:=q
  rw[e];simpa [Wd.kds]using he
 ·refine((rw_expr hr s1).at e1).bind fun v s2 g a c =>?_
  refine(hr.exprs s2 s.nd g v a).imp fun l q =>?_
  obtain⟨es,e,he⟩:=q
  obtain⟨x,hx,hx2⟩:=c
  rw[e,hx];simp[hx2];simpa using he
theorem rw_call (s:St)(tx:List UInt8)(pl:Int)(ht:idB tx=true∨tx=[])(hp:∃t ∈ ts,(t.p:Int)=pl):Rw1 ts s.nd (· = [13]) (callM ts rec tx pl s):=by
 unfold callM
 refine exp_bind fun _ s1 e1 =>?_
 refine((rw_leaf hk 19 s1 (.inr rfl)).at e1).bind fun v s2 g a c =>?_
 refine(rw_list hr s2).bind fun u s3 g2 a2 c2 =>?_
 refine rw_add (a.app a2) ?_
 refine⟨by decide,by decide,?_,by decide,?_,hp⟩
 ·rcases ht with h |h
  ·simp[txB,h]
  ·simp[txB,h]
 ·rw[g.app_kds,c]
  simp[kidB,allB];simpa using c2
omit hk in
theorem rw_block (s:St):Rw1 ts s.nd (· = [6]) (blockM ts rec s):=by
 unfold blockM;simp only
 refine beg_bind fun q s1 e1 =>?_
 exact hr.stmts s1 s.nd .nil [] _ ((At.nil s).to e1) rfl ⟨_,tkn_word q (by decide),rfl⟩
omit hk in
theorem rw_stmts (s:St)(n0:List Nd)(f:Wd)(a:List Int)(pl:Int)(hA:At (Pk ts) n0 s f a)(hS:f.kds.all stmB=true)(hp:∃t ∈ ts,(t.p:Int)=pl):Rw1 ts n0 (· = [6]) (stmtsM ts rec pl a s):=by
 unfold stmtsM
 split
 ·refine(qt_fin ts s [125]).bind fun s1 e1 =>?_
  refine rw_add (hA.to e1) ?_
  exact⟨by decide,by decide,by decide,by decide,by simpa [kidB]using hS,hp⟩
 ·refine(hr.stmt s).bind fun v s1 g b c =>?_
  refine hr.stmts s1 n0 _ _ pl (hA.app b) ?_ hp
  obtain⟨x,hx,hx2⟩:=c
  rw[f.app_kds,hx,List.all_append,hS]
  simp[hx2]
omit hr hk in
theorem rw_ended {n0:List Nd}{s:St}{f:Wd}{v:List Int}{C:List Int→Prop}(h:At (Pk ts) n0 s f v)(c:C f.kds):Rw1 ts n0 C (endedM ts v s):=by
 unfold endedM
 exact exp_bind fun _ s1 e1=>Rw0.ok (h.to e1) c
theorem rw_rest (t:Tok)(s:St)(hm:t ∈ ts)(hi:idB t.s=true):Rw1 ts s.nd S1 (restM ts rec t s):=by
 unfold restM;simp only
 split
 ·refine(rw_leaf hk 18 (takeS s) (.inl rfl)).bind fun v s1 g a c =>?_
  refine(rw_add (n0:=s.nd) a ?_).imp fun l e=>⟨9,e,by decide⟩
  exact⟨by decide,by decide,by simpa [txB]using hi,by decide,by rw[c];decide,⟨_,hm,rfl⟩⟩
 split
 ·exact(rw_call hr hk s t.s t.p (.inl hi) ⟨_,hm,rfl⟩).imp fun l e=>⟨13,e,by decide⟩
 split
 ·refine(rw_expr hr (takeS s)).bind fun v s1 g a c =>?_
  refine(rw_add (n0:=s.nd) a ?_).imp fun l e=>⟨17,e,by decide⟩
  exact⟨by decide,by decide,by simpa [txB]using hi,by decide,by have:=c.all;simp[kidB,this.1,this.2],⟨_,hm,rfl⟩⟩
 ·refine(rw_expr hr s).bind fun v s1 g a c =>?_
  refine(rw_add (n0:=s.nd) a ?_).imp fun l e=>⟨7,e,by decide⟩
  exact⟨by decide,by decide,by simpa [txB]using hi,by decide,by have:=c.all;simp[kidB,this.1,this.2],⟨_,hm,rfl⟩⟩
theorem rw_named (s:St):Rw1 ts s.nd S1 (namedM ts rec s):=by
 unfold namedM;simp only
 refine name_bind fun q s1 e1 =>?_
 have hi:=(hk _ (tkn_name q)).1 q
 split
 ·refine((rw_idx hr s1).at e1).bind fun v s2 g a c =>?_
  refine exp_bind fun _ s3 e3 =>?_
  refine(rw_expr hr s3).bind fun u s4 g2 a2 c2 =>?_
  refine(rw_add ((a.to e3).app a2) (kd:=8) ?_).bind fun v s5 g3 a3 c3=>rw_ended a3 ⟨8,c3,by decide⟩
  obtain⟨x,hx,hx2⟩:=c
  obtain⟨y,hy,hy2⟩:=c2
  refine⟨by decide,by decide,by simpa [txB]using hi,by decide,?_,⟨_,tkn_name q,rfl⟩⟩
  rw[g.app_kds,hx,hy]
  simp[kidB,allB,hx2,hy2]
 ·refine exp_bind fun _ s2 e2 =>?_
  exact((rw_rest hr hk (tkn ts s) s2 (tkn_name q) hi).at (e2.trans e1)).bind fun v s3 g a c=>rw_ended a c
theorem rw_out (s:St)(hm:tkn ts s ∈ ts):Rw1 ts s.nd S1 (outM ts rec s):=by
 unfold outM;simp only
 refine(rw_leaf hk 18 (takeS s) (.inl rfl)).bind fun v s1 g a c =>?_
 refine(rw_expr hr s1).bind fun u s2 g2 a2 c2 =>?_
 refine(rw_add (n0:=s.nd) (At.app (n0:=s.nd) a a2) (kd:=10) ?_).bind fun v s3 g3 a3 c3=>rw_ended a3 ⟨10,c3,by decide⟩
 obtain⟨y,hy,hy2⟩:=c2
 refine⟨by decide,by decide,by decide,by decide,?_,⟨_,hm,rfl⟩⟩
 rw[g.app_kds,c,hy]
 simp[kidB,hy2]
omit hk in
theorem rw_if (s:St)(hm:tkn ts s ∈ ts):Rw1 ts s.nd S1 (ifM ts rec s):=by
 unfold ifM;simp only
 refine(rw_expr hr (takeS s)).bind fun v s1 g a c =>?_
 refine(rw_block hr s1).bind fun u s2 g2 a2 c2 =>?_
 have hB:=At.app (n0:=s.nd) a a2
 obtain⟨x,hx,hx2⟩:=c
 have key:∀g3:Wd,g3.kds=[6]→kidB 11 ((g.app g2).app g3).kds=true:=fun g3 h3=>by
  rw[Wd.app_kds,Wd.app_kds,hx,c2,h3];simp[kidB,hx2]
 split
 ·refine(rw_block hr (takeS s2)).bind fun w s3 g3 a3 c3 =>?_
  refine(rw_add (n0:=s.nd) (hB.app (s:=s2) a3) ?_).imp fun l e=>⟨11,e,by decide⟩
  exact⟨by decide,by decide,by decide,by decide,key g3 c3,⟨_,hm,rfl⟩⟩
 ·refine(rw_add (At.nil s2) (kd:=6) ⟨by decide,by decide,by decide,by decide,by decide,⟨_,hm,rfl⟩⟩).bind fun w s3 g3 a3 c3 =>?_
  refine(rw_add (n0:=s.nd) (hB.app a3) ?_).imp fun l e=>⟨11,e,by decide⟩
  exact⟨by decide,by decide,by decide,by decide,key g3 c3,⟨_,hm,rfl⟩⟩
omit hk in
theorem rw_while (s:St)(hm:tkn ts s ∈ ts):Rw1 ts s.nd S1 (whileM ts rec s):=by
 unfold whileM;simp only
 refine(rw_expr hr (takeS s)).bind fun v s1 g a c =>?_
 refine(rw_block hr s1).bind fun u s2 g2 a2 c2 =>?_
 refine(rw_add (n0:=s.nd) (At.app (n0:=s.nd) a a2) ?_).imp fun l e=>⟨12,e,by decide⟩
 obtain⟨x,hx,hx2⟩:=c
 refine⟨by decide,by decide,by decide,by decide,?_,⟨_,hm,rfl⟩⟩
 rw[g.app_kds,hx,c2];simp[kidB,hx2]
omit hk in
theorem rw_return (s:St)(hm:tkn ts s ∈ ts):Rw1 ts s.nd S1 (returnM ts rec s):=by
 unfold returnM;simp only
 split
 ·refine(rw_add ((At.nil s).to (s':=takeS s) rfl) ?_).imp fun l e=>⟨14,e,by decide⟩
  exact⟨by decide,by decide,by decide,by decide,by decide,⟨_,hm,rfl⟩⟩
 ·refine(rw_expr hr (takeS s)).bind fun v s1 g a c =>?_
  refine(rw_add (n0:=s.nd) a ?_).imp fun l e=>⟨14,e,by decide⟩
  exact⟨by decide,by decide,by decide,by decide,by have:=c.all;simp[kidB,this.1,this.2],⟨_,hm,rfl⟩⟩
omit hk in
theorem rw_throw (s:St)(hm:tkn ts s ∈ ts):Rw1 ts s.nd S1 (throwM ts rec s):=by
 unfold throwM;simp only
 refine(rw_expr hr (takeS s)).bind fun v s1 g a c =>?_
 refine(rw_add (n0:=s.nd) a ?_).imp fun l e=>⟨15,e,by decide⟩
 exact⟨by decide,by decide,by decide,by decide,by have:=c.all;simp[kidB,this.1,this.2],⟨_,hm,rfl⟩⟩
theorem rw_try (s:St)(hm:tkn ts s ∈ ts):Rw1 ts s.nd S1 (tryM ts rec s):=by
 unfold tryM;simp only
 refine(rw_block hr (takeS s)).bind fun v s1 g a c =>?_
 refine exp_bind fun _ s2 e2 =>?_
 refine name_bind fun q s3 e3 =>?_
 have hi:=(hk _ (tkn_name q)).1 q
 refine(rw_block hr s3).bind fun u s4 g2 a2 c2 =>?_
 have hB:=At.app (n0:=s.nd) (At.to (s':=s3) (n0:=s.nd) a (e3.trans e2)) a2
 refine(rw_add (n0:=s.nd) hB ?_).imp fun l e=>⟨16,e,by decide⟩
 refine⟨by decide,by decide,by simpa [txB]using hi,by decide,?_,⟨_,hm,rfl⟩⟩
 rw[g.app_kds,c,c2];decide
theorem rw_stmt (s:St):Rw1 ts s.nd S1 (stmtM ts rec s):=by
 unfold stmtM;simp only
 split
 ·exact rw_named hr hk s
 split
 ·rename_i q;exact rw_out hr hk s (tkn_word q (by decide))
 split
 ·rename_i q;exact rw_if hr s (tkn_word q (by decide))
 split
 ·rename_i q;exact rw_while hr s (tkn_word q (by decide))
 split
 ·rename_i q
  exact(rw_call hr hk s [] _ (.inr rfl) ⟨_,tkn_word q (by decide),rfl⟩).bind fun v s1 g a c=>rw_ended a ⟨13,c,by decide⟩
 split
 ·rename_i q;exact(rw_return hr s (tkn_word q (by decide))).bind fun v s1 g a c=>rw_ended a c
 split
 ·rename_i q;exact(rw_throw hr s (tkn_word q (by decide))).bind fun v s1 g a c=>rw_ended a c
 split
 ·rename_i q;exact rw_try hr hk s (tkn_word q (by decide))
 ·exact Rw0.no _ _
omit hr hk in
theorem typeOf_le (x:List UInt8):typeOf x≤4:=by unfold typeOf;repeat' split<;>try decide
omit hr hk in
theorem type_bind {n1:List Nd}{D:List Int→Prop}{s:St}{k:List Int→St→Rs}(q:∀(n:Nat) s',1≤n→n≤4→s'.nd=s.nd→Rw1 ts n1 D (k [(n:Int)] s')):Rw1 ts n1 D ((typeM ts s).bind k):=by
 unfold typeM;simp only
 split
 ·exact Rw0.no _ _
 ·rename_i h
  exact q _ (takeS s) (by omega) (typeOf_le _) rfl
omit hr in
theorem rw_typed (kd:Nat)(pl:Int)(s:St)(h:kd=2∨kd=4∨kd=5)(hp:(tkn ts s).k=1→∃t ∈ ts,(t.p:Int)=pl):Rw1 ts s.nd (· = [(kd:Int)]) (typedM ts kd pl s):=by
 unfold typedM;simp only
 refine name_bind fun q s1 e1 =>?_
 have hi:=(hk _ (tkn_name q)).1 q
 refine type_bind fun n s2 h1 h2 e2 =>?_
 refine rw_add ((At.nil s).to (e2.trans e1)) ?_
 have hn:(1:Int)≤(n:Int)∧(n:Int)≤4:=by omega
 rcases h with rfl |rfl |rfl
 ·exact⟨by decide,by decide,by simpa [txB]using hi,⟨by simpa [numB]using hn,by show(n:Int)≤9223372036854775807;omega⟩,by decide,hp q⟩
 ·exact⟨by decide,by decide,by simpa [txB]using hi,⟨by simpa [numB]using hn,by show(n:Int)≤9223372036854775807;omega⟩,by decide,hp q⟩
 ·exact⟨by decide,by decide,by simpa [txB]using hi,⟨by simpa [numB]using hn,by show(n:Int)≤9223372036854775807;omega⟩,by decide,hp q⟩
theorem rw_vars (j:Nat)(s:St)(n0:List Nd)(f:Wd)(a:List Int)(h:j=2∨j=5)(hA:At (Pk ts) n0 s f a):Rw1 ts n0 (fun l=>∃m,l=f.kds++List.replicate m (j:Int)) (varsM ts rec j a s):=by
 unfold varsM
 split
 ·rename_i q
  have hm:tkn ts s ∈ ts:=tkn_word (sees_is q) (by decide)
  refine(rw_typed hk j (tkn ts s).p (takeS s) (by omega) (fun _=>⟨_,hm,rfl⟩)).bind fun v s1 g b c =>?_
  refine exp_bind fun _ s2 e2 =>?_
  have hB:=((hA.to (s':=takeS s) rfl).app b).to e2
  refine(hr.vars j s2 n0 _ _ h hB).imp fun l q =>?_
  obtain⟨m,e⟩:=q
  exact⟨m+1,by rw[e,f.app_kds,c,List.append_assoc];rfl⟩
 ·exact Rw0.ok hA ⟨0,by simp⟩
omit hr in
theorem rw_param (s:St):Rw1 ts s.nd (· = [4]) (paramM ts s):=by
 unfold paramM
 exact rw_typed hk 4 _ s (.inr (.inl rfl)) fun q=>⟨_,tkn_name q,rfl⟩
theorem rw_params (s:St)(n0:List Nd)(f:Wd)(a:List Int)(hA:At (Pk ts) n0 s f a):Rw1 ts n0 (fun l=>∃m,l=f.kds++List.replicate m 4) (paramsM ts rec a s):=by
 unfold paramsM
 split
 ·refine(rw_param hk (takeS s)).bind fun v s1 g b c =>?_
  have hB:=(hA.to (s':=takeS s) rfl).app b
  refine(hr.params s1 n0 _ _ hB).imp fun l q =>?_
  obtain⟨m,e⟩:=q
  exact⟨m+1,by rw[e,f.app_kds,c,List.append_assoc];rfl⟩
 ·refine(qt_fin ts s [41]).bind fun s1 e1 =>?_
  exact Rw0.ok (hA.to e1) ⟨0,by simp⟩
theorem rw_plist (s:St):Rw1 ts s.nd (fun l=>∃m,l=List.replicate m 4) (plistM ts rec s):=by
 unfold plistM
 refine beg_bind fun _ s1 e1 =>?_
 split
 ·refine(hr.params s1 s.nd .nil [] ((At.nil s).to e1)).imp fun l q =>?_
  obtain⟨m,e⟩:=q
  exact⟨m,by rw[e];rfl⟩
 ·refine((rw_param hk s1).at e1).bind fun v s2 g a c =>?_
  refine(hr.params s2 s.nd g v a).imp fun l q =>?_
  obtain⟨m,e⟩:=q
  exact⟨m+1,by rw[e,c];rfl⟩
end
end
section
open Tr (idB txB numB kidB expB stmB allB sgB risB run1 ri1 ri2)
theorem run1_rep (a:Int)(l:List Int):∀m,run1 a (List.replicate m a++l)=m+run1 a l
 |0=>by simp
 |m+1=>by
  show(if a=a then run1 a (List.replicate m a++l)+1 else 0)=_
  rw[if_pos rfl,run1_rep a l m];omega
theorem run1_not {a b:Int}(h:b≠a)(l:List Int):run1 a (b :: l)=0:=by
 show(if b=a then _ else 0)=0
 rw[if_neg h]
theorem ris_proc (a b:Nat):risB (List.replicate a 4++(List.replicate b 5++[6])) 4 5 6=true:=by
 have h1:ri1 (List.replicate a 4++(List.replicate b 5++[6])) 4=a:=by
  unfold ri1;rw[run1_rep]
  cases b with
  |zero=>rfl
  |succ b=>rw[List.replicate_succ,List.cons_append,run1_not (by decide)];rfl
 have h2:ri2 (List.replicate a 4++(List.replicate b 5++[6])) 4 5=a+b:=by
  unfold ri2;rw[h1,List.drop_append_of_le_length (by simp),List.drop_of_length_le (by simp),List.nil_append,run1_rep];rfl
 unfold risB
 rw[if_neg (by decide),h2]
 simp
 omega
theorem ris_prog (a b:Nat):risB (List.replicate a 2++List.replicate b 3) 2 3 0=true:=by
 have h1:ri1 (List.replicate a 2++List.replicate b 3) 2=a:=by
  unfold ri1;rw[run1_rep]
  cases b with
  |zero=>rfl
  |succ b=>rw[List.replicate_succ,run1_not (by decide)];rfl
 have h2:ri2 (List.replicate a 2++List.replicate b 3) 2 3=a+b:=by
  unfold ri2;rw[h1,List.drop_append_of_le_length (by simp),List.drop_of_length_le (by simp),List.nil_append]
  have:=run1_rep 3 [] b
  rw[List.append_nil]at this
  rw[this];rfl
 unfold risB
 rw[if_pos rfl,h2]
 simp
section
variable {ts:List Tok} {rec:Job→St→Rs} (hr:RecW ts rec) (hk:TkF ts)
include hr hk
theorem rw_proc (s:St):Rw1 ts s.nd (· = [3]) (procM ts rec s):=by
 unfold procM;simp only
 refine exp_bind fun q0 s1 e1 =>?_
 refine name_bind fun q s2 e2 =>?_
 have hi:=(hk _ (tkn_name q)).1 q
 refine((rw_plist hr hk s2).at (e2.trans e1)).bind fun ps s3 g a c =>?_
 have rest:∀(n:Int) (s4:St),0≤n→n≤4→s4.nd=s3.nd→Rw1 ts s.nd (· = [3]) ((begM ts [123] s4).bind fun _ s5=>(rec (.vars 5 []) s5).bind fun vs s6=>(rec (.stmts (tkn ts s4).p []) s6).bind fun bl s7=>addM 3 ([n].headD 0) (tkn ts s).p (tkn ts s1).s (ps++vs++bl) s7):=by
  intro n s4 n1 n2 e4
  refine beg_bind fun qb s5 e5 =>?_
  refine(hr.vars 5 s5 s5.nd .nil [] (.inr rfl) (At.nil s5)).bind fun vs s6 g2 a2 c2 =>?_
  refine(hr.stmts s6 s6.nd .nil [] _ (At.nil s6) rfl ⟨_,tkn_word qb (by decide),rfl⟩).bind fun bl s7 g3 a3 c3 =>?_
  refine rw_add (((a.to (e5.trans e4)).app a2).app a3) ?_
  obtain⟨m,hm⟩:=c
  obtain⟨j,hj⟩:=c2
  refine⟨by decide,by decide,by simpa [txB]using hi,⟨by simpa [numB]using ⟨n1,n2⟩,by show n≤_;omega⟩,?_,⟨_,tkn_word q0 (by decide),rfl⟩⟩
  rw[Wd.app_kds,Wd.app_kds,hm,hj,c3]
  have:=ris_proc m j
  simpa [kidB,Wd.kds]using this
 split
 ·exact rest 0 s3 (by decide) (by decide) rfl
 ·exact type_bind fun n s4 h1 h2 e4=>rest n s4 (by omega) (by omega) e4
theorem rw_procs (s:St)(n0:List Nd)(f:Wd)(a:List Int)(hA:At (Pk ts) n0 s f a):Rw1 ts n0 (fun l=>∃m,l=f.kds++List.replicate m 3) (procsM ts rec a s):=by
 unfold procsM
 split
 ·refine(rw_proc hr hk s).bind fun v s1 g b c =>?_
  refine(hr.procs s1 n0 _ _ (hA.app b)).imp fun l q =>?_
  obtain⟨m,e⟩:=q
  exact⟨m+1,by rw[e,f.app_kds,c,List.append_assoc];rfl⟩
 ·exact Rw0.ok hA ⟨0,by simp⟩
end
theorem rw_out' {ts:List Tok}{n0:List Nd}{C:List Int→Prop}:Rw1 ts n0 C .out:=fun _ _ h=>by cases h
theorem run_w {ts:List Tok}(hk:TkF ts):∀f,RecW ts (run ts f)
 |0=>⟨fun _=>rw_out',fun _ _ _=>rw_out',fun _ _ _ _ _ _ _ _=>rw_out',fun _ _ _ _ _=>rw_out',fun _=>rw_out',fun _ _ _ _ _ _ _ _=>rw_out',fun _ _ _ _ _ _ _=>rw_out',fun _ _ _ _ _=>rw_out',fun _ _ _ _ _=>rw_out'⟩
 |f+1=>by
  have ih:=run_w hk f
  exact⟨fun s=>rw_una ih hk s,fun r s h=>rw_bin ih r s h,fun r s n0 g l h hA hE=>rw_loop ih r s n0 g l h hA hE,fun s n0 g a hA=>rw_exprs ih s n0 g a hA,fun s=>rw_stmt ih hk s,
   fun s n0 g a pl hA hS hp=>rw_stmts ih s n0 g a pl hA hS hp,fun j s n0 g a h hA=>rw_vars ih hk j s n0 g a h hA,fun s n0 g a hA=>rw_params ih hk s n0 g a hA,fun s n0 g a hA=>rw_procs ih hk s n0 g a hA⟩
theorem prog_w {ts:List Tok}(hk:TkF ts){v:List Int}{s':St}(h:progR ts = .ok v s'):∃g:Wd,s'.nd=g.fl 0++[⟨1,0,0,[],g.rt 0⟩]∧g.all (Pk ts)∧kidB 1 g.kds=true:=by
 have hr:=run_w hk (steps ts)
 unfold progR programM at h
 obtain⟨v1,s1,h1,h⟩:=Rs.bind_ok h
 obtain⟨v2,s2,h2,h⟩:=Rs.bind_ok h
 obtain⟨v3,s3,h3,h⟩:=Rs.bind_ok h
 obtain⟨g1,a1,m,c1⟩:=hr.vars 2 st0 [] .nil [] (.inl rfl) (At.nil st0) v1 s1 h1
 obtain⟨g2,a2,j,c2⟩:=hr.procs s1 [] g1 v1 a1 v2 s2 h2
 obtain⟨_,e3⟩:=qt_end ts s2 v3 s3 h3
 have a3:=a2.to e3
 unfold addM at h
 cases h
 refine⟨g2,?_,a3.2.2,?_⟩
 ·show s3.nd++[_]=_
  rw[a3.1,a3.2.1];rfl
 ·rw[c2,c1]
  have:=ris_prog m j
  simpa [kidB,Wd.kds]using this
theorem expr_w {ts:List Tok}(hk:TkF ts){v:List Int}{s':St}(h:exprR ts = .ok v s'):∃g:Wd,s'.nd=g.fl 0∧v=g.rt 0∧g.all (Pk ts)∧E1 g.kds:=by
 have hr:=run_w hk (steps ts)
 unfold exprR onlyM at h
 obtain⟨v1,s1,h1,h⟩:=Rs.bind_ok h
 obtain⟨v2,s2,h2,h⟩:=Rs.bind_ok h
 obtain⟨g,a,c⟩:=rw_expr hr st0 v1 s1 h1
 obtain⟨_,e2⟩:=qt_end ts s1 v2 s2 h2
 have a2:=a.to e2
 cases h
 refine⟨g,?_,a2.2.1,a2.2.2,c⟩
 rw[a2.1];rfl
theorem Wd.all_imp {P Q:Int→Int→Int→List UInt8→List Int→Prop}(h:∀kd n pl tx l,P kd n pl tx l→Q kd n pl tx l):∀ {g:Wd},g.all P→g.all Q
 | .nil,_=>True.intro
 | .snoc _ _ _ _ _ _,k=>⟨Wd.all_imp h k.1,Wd.all_imp h k.2.1,h _ _ _ _ _ k.2.2⟩
theorem Wd.all_mem {P:Int→Int→Int→List UInt8→List Int→Prop}:∀ {g:Wd} (o:Nat),g.all P→∀x ∈ g.fl o,∃l,P x.kd x.n x.pl x.tx l∧x.ks.length=l.length
 | .nil,_,_,x,hx=>by cases hx
 | .snoc f kd n pl tx ks,o,h,x,hx=>by
  simp only[Wd.fl,List.mem_append,List.mem_singleton]at hx
  rcases hx with hx |hx |rfl
  ·exact Wd.all_mem o h.1 x hx
  ·exact Wd.all_mem _ h.2.1 x hx
  ·exact⟨ks.kds,h.2.2,ks.rt_len _⟩
end
section
open Go
open Tr (idB txB numB kidB expB stmB allB sgB risB stK StU kidsAt ndB shB rgB nth nth_eq Sd Snd sndB)
theorem kidsAt_app {l m:List Tr.Nd}{p:Nat}(h:p<l.length):kidsAt (l++m) p=kidsAt l p:=by
 unfold kidsAt
 rw[List.map_append,List.getD_eq_getElem?_getD,List.getD_eq_getElem?_getD,List.getElem?_append_left (by simpa using h)]
theorem kidsAt_last (l:List Tr.Nd)(x:Tr.Nd):kidsAt (l++[x]) l.length=x.ks:=by
 unfold kidsAt
 rw[List.map_append,List.getD_eq_getElem?_getD,List.getElem?_append_right (by simp)]
 simp
theorem stu_more {l:List Tr.Nd}{b c:Nat→Nat}{m:List Tr.Nd}(h:StU l b l.length)(e:∀q,q<l.length→c q=b q):StU (l++m) c l.length:=fun p hp=>by
 rw[kidsAt_app hp,← Tr.stK_congr (b:=b) _ p (fun q hq=>(e q (by omega)).symm) (fun q hq=>h.le q (by omega)),e p hp]
 exact h p hp
theorem wd_st:∀(g:Wd) (pre:List Nd) (b:Nat→Nat),StU (pre.map cvN) b pre.length→∃c:Nat→Nat,(∀q,q<pre.length→c q=b q)∧StU ((pre++g.fl pre.length).map cvN) c (pre.length+g.sz)∧stK c (g.rt pre.length).reverse (pre.length+g.sz)=some pre.length
 | .nil,pre,b,h=>⟨b,fun _ _=>rfl,by simpa [Wd.fl,Wd.sz]using h,by simp[Wd.rt,Wd.sz,stK]⟩
 | .snoc f kd n pl tx ks,pre,b,h=>by
  obtain⟨b1,e1,s1,k1⟩:=wd_st f pre b h
  obtain⟨p1,hp1⟩:∃p1,p1=pre++f.fl pre.length:=⟨_,rfl⟩
  have l1:p1.length=pre.length+f.sz:=by rw[hp1,List.length_append,f.fl_len]
  rw[← hp1]at s1
  rw[← l1]at s1 k1
  obtain⟨b2,e2,s2,k2⟩:=wd_st ks p1 b1 s1
  obtain⟨p2,hp2⟩:∃p2,p2=p1++ks.fl p1.length:=⟨_,rfl⟩
  have l2:p2.length=p1.length+ks.sz:=by rw[hp2,List.length_append,ks.fl_len]
  rw[← hp2]at s2
  rw[← l2]at s2 k2
  have hm2:(p2.map cvN).length=p2.length:=List.length_map ..
  refine⟨fun q=>if q=p2.length then p1.length else b2 q,fun q hq =>?_,?_,?_⟩
  ·show(if q=p2.length then p1.length else b2 q)=b q
   rw[if_neg (by omega),e2 q (by omega),e1 q hq]
  ·have hfl:pre++(Wd.snoc f kd n pl tx ks).fl pre.length=p2++[⟨kd,n,pl,tx,ks.rt p1.length⟩]:=by
    rw[hp2,hp1,← hp1,l1,Wd.fl];simp[hp1]
   rw[hfl,show pre.length+(Wd.snoc f kd n pl tx ks).sz=p2.length+1 by rw[l2,l1];simp only[Wd.sz];omega,List.map_append]
   intro p hp
   by_cases q:p=p2.length
   ·subst q
    have:=kidsAt_last (p2.map cvN) (cvN ⟨kd,n,pl,tx,ks.rt p1.length⟩)
    rw[hm2]at this
    show stK _ (kidsAt (p2.map cvN++[cvN ⟨kd,n,pl,tx,ks.rt p1.length⟩]) p2.length).reverse p2.length=some (if p2.length=p2.length then p1.length else _)
    rw[this,if_pos rfl,← Tr.stK_congr (b:=b2) _ p2.length (fun q hq=>by show b2 q=if q=p2.length then _ else b2 q;rw[if_neg (by omega)]) (fun q hq=>s2.le q hq)]
    exact k2
   ·have s3:StU (p2.map cvN) b2 (p2.map cvN).length:=by rw[hm2];exact s2
    exact stu_more s3 (fun q hq=>by show(if q=p2.length then p1.length else b2 q)=b2 q;rw[if_neg (by omega)]) p (by omega)
  ·rw[show pre.length+(Wd.snoc f kd n pl tx ks).sz=p2.length+1 by rw[l2,l1];simp only[Wd.sz];omega]
   show stK _ (f.rt pre.length++[((pre.length+f.sz+ks.sz:Nat):Int)]).reverse (p2.length+1)=_
   rw[List.reverse_append,List.reverse_singleton,List.singleton_append,← l1,← l2]
   unfold stK
   rw[if_neg (by omega),if_pos (by omega)]
   show stK _ (f.rt pre.length).reverse (if p2.length+1-1=p2.length then p1.length else _)=_
   rw[if_pos (by omega),← Tr.stK_congr (b:=b1) _ p1.length (fun q hq=>by show b1 q=if q=p2.length then _ else b2 q;rw[if_neg (by omega),e2 q hq]) (fun q hq=>s1.le q hq)]
   exact k1
theorem wd_sh {P:Int→Int→Int→List UInt8→List Int→Prop}(hP:∀kd n pl tx l,P kd n pl tx l→1≤kd∧kd≤27∧txB kd tx=true∧numB kd n=true∧kidB kd l=true):∀(g:Wd) (pre post:List Nd),g.all P →
  (g.rt pre.length).map (fun k=>(nth ((pre++g.fl pre.length++post).map cvN) k.toNat).kd)=g.kds∧∀x ∈ g.fl pre.length,ndB ((pre++g.fl pre.length++post).map cvN) (cvN x)=true
 | .nil,_,_,_=>⟨rfl,fun x hx=>by cases hx⟩
 | .snoc f kd n pl tx ks,pre,post,h=>by
  obtain⟨p1,hp1⟩:∃p1,p1=pre++f.fl pre.length:=⟨_,rfl⟩
  have l1:p1.length=pre.length+f.sz:=by rw[hp1,List.length_append,f.fl_len]
  obtain⟨x,hx⟩:∃x:Nd,x=⟨kd,n,pl,tx,ks.rt p1.length⟩:=⟨_,rfl⟩
  have hL:pre++(Wd.snoc f kd n pl tx ks).fl pre.length++post=p1++ks.fl p1.length++([x]++post):=by
   rw[hx,hp1,← hp1,l1,Wd.fl];simp[hp1]
  have hL2:pre++(Wd.snoc f kd n pl tx ks).fl pre.length++post=pre++f.fl pre.length++(ks.fl p1.length++([x]++post)):=by rw[hL,hp1];simp
  obtain⟨a1,a2⟩:=wd_sh hP f pre (ks.fl p1.length++([x]++post)) h.1
  obtain⟨c1,c2⟩:=wd_sh hP ks p1 ([x]++post) h.2.1
  rw[← hL2]at a1 a2
  rw[← hL]at c1 c2
  have hq:=hP _ _ _ _ _ h.2.2
  have hxn:nth ((pre++(Wd.snoc f kd n pl tx ks).fl pre.length++post).map cvN) (p1.length+ks.sz)=cvN x:=by
   rw[hL]
   unfold nth
   rw[List.getD_eq_getElem?_getD,List.map_append,List.getElem?_append_right (by simp[ks.fl_len]),List.map_append]
   simp[ks.fl_len]
  refine⟨?_,fun y hy =>?_⟩
  ·show(f.rt pre.length++[((pre.length+f.sz+ks.sz:Nat):Int)]).map _=f.kds++[kd]
   rw[List.map_append,a1,List.map_singleton,← l1,Int.toNat_natCast,hxn,hx];rfl
  ·simp only[Wd.fl,List.mem_append,List.mem_singleton]at hy
   rw[← l1]at hy
   rcases hy with hy |hy |hy
   ·exact a2 y hy
   ·exact c2 y hy
   ·have e:y=x:=by rw[hy,hx]
    subst e
    unfold ndB
    have e1:(cvN y).kd=kd:=by rw[hx];rfl
    have e2:(cvN y).n=n:=by rw[hx];rfl
    have e3:(cvN y).tx.data.toList=tx:=by rw[hx];exact bs_list tx
    have e4:(cvN y).ks=ks.rt p1.length:=by rw[hx];rfl
    rw[e1,e2,e3,e4,c1,decide_eq_true hq.1,decide_eq_true hq.2.1,hq.2.2.1,hq.2.2.2.1,hq.2.2.2.2];rfl
theorem wd_snd {f:Wd}{kd n pl:Int}{tx:List UInt8}{ks:Wd}(hf:f = .nil)(h:((Wd.snoc f kd n pl tx ks).fl 0).length≤4000):Snd (((Wd.snoc f kd n pl tx ks).fl 0).map cvN) ((((Wd.snoc f kd n pl tx ks).fl 0).length:Int)-1):=by
 subst hf
 obtain⟨c,_,s,k⟩:=wd_st (Wd.snoc .nil kd n pl tx ks) [] (fun _=>0) (fun p hp=>absurd hp (by simp))
 have hz:(Wd.snoc Wd.nil kd n pl tx ks).sz=ks.sz+1:=by simp[Wd.sz]
 have hlen:((Wd.snoc .nil kd n pl tx ks).fl 0).length=ks.sz+1:=by rw[Wd.fl_len,hz]
 have hml:(((Wd.snoc .nil kd n pl tx ks).fl 0).map cvN).length=ks.sz+1:=by rw[List.length_map,hlen]
 simp only[List.nil_append,List.length_nil,Nat.zero_add,hz]at s k
 refine⟨c,by rw[hml];omega,by rw[hml];omega,by rw[hml,hlen],by rw[hml];exact s,?_⟩
 rw[hml]
 have k2:stK c [((ks.sz:Nat):Int)] (ks.sz+1)=some 0:=by simpa [Wd.rt,Wd.sz]using k
 unfold stK at k2
 rw[if_neg (by omega),if_pos (by omega)]at k2
 unfold stK at k2
 exact Option.some.inj k2
theorem tx_short {kd:Int}{l:List UInt8}(h:txB kd l=true):l.length≤20:=by
 have hid:idB l=true→l.length≤20:=fun q=>by
  unfold idB at q
  simp only[Bool.and_eq_true,decide_eq_true_eq]at q
  omega
 unfold txB at h
 split at h
 ·exact hid h
 split at h
 ·simp only[Bool.or_eq_true,beq_iff_eq]at h
  rcases h with h |h
  ·exact hid h
  ·rw[h];simp
 split at h
 ·simp only[Bool.or_eq_true,beq_iff_eq]at h
  rcases h with h |h<;>rw[h]<;>simp
 split at h
 ·simp only[sgB,Bool.or_eq_true,beq_iff_eq]at h
  rcases h with(((((((((((h |h) |h) |h) |h) |h) |h) |h) |h) |h) |h) |h) |h<;>rw[h]<;>simp
 ·simp only[beq_iff_eq]at h
  rw[h];simp
end
section
open Go
open Tr (txB numB kidB ndB shB rgB nth nth_eq Snd sndB)
theorem id_eq (l:List UInt8):Tk.idB l=Tr.idB l:=rfl
theorem num_le {x:List UInt8}{v:Int}(h:Tk.numF x=some v)(hh:(x.headD 0).toNat≠45):0≤v∧v≤9223372036854775807:=by
 unfold Tk.numF at h
 split at h
 ·cases h
 split at h
 ·rename_i u hu
  injection h with h
  subst h
  cases x with
  |nil=>simp[Lib.parseIntB]at hu
  |cons c r=>
   have hc:c.toNat≠45:=hh
   unfold Lib.parseIntB at hu
   simp only[hc,or_false]at hu
   split at hu
   ·cases hu
   ·cases hu
   ·split at hu
    ·cases hu
    split at hu
    ·cases hu
    ·injection hu with hu
     rename_i q _
     simp at q hu
     omega
 ·cases h
theorem sign_not {x:List UInt8}(h:Tk.signB x=true):Tk.tokK x≠2:=by
 unfold Tk.tokK
 rw[h]
 split
 ·decide
 split
 ·decide
 ·rw[if_pos rfl];decide
theorem piece_head {l:List UInt8}{p:Nat}(hp:p<l.length)(h1:Tk.spB (l.getD p 0)=false)(h2:Tk.cmB (l.getD p 0)=false)(hk:Tk.tokK (Tk.sub l p (Tk.peF l p))=2):((Tk.sub l p (Tk.peF l p)).headD 0).toNat≠45:=by
 have hd:l.drop p=l.getD p 0 :: l.drop (p+1):=by
  rw[List.drop_eq_getElem_cons hp];simp[List.getD,hp]
 have hb:=Tk.peF_bounds hp
 have hhead:(Tk.sub l p (Tk.peF l p)).headD 0=l.getD p 0:=by
  unfold Tk.sub
  obtain⟨m,hm⟩:∃m,Tk.peF l p-p=m+1:=⟨Tk.peF l p-p-1,by omega⟩
  rw[hm,hd];rfl
 rw[hhead]
 intro q
 cases h3:Tk.wdB (l.getD p 0) with
 |true=>
  unfold Tk.wdB Tk.dgB at h3
  rw[q]at h3
  revert h3;decide
 |false=>
  have he:=Tk.pe_sg h1 h2 h3
  split at he
  ·rename_i g
   have:Tk.sub l p (Tk.peF l p)=(l.drop p).take 2:=by unfold Tk.sub;rw[he];congr 1;omega
   rw[this]at hk
   exact sign_not g.1 hk
  ·have e:Tk.sub l p (Tk.peF l p)=[l.getD p 0]:=by
    unfold Tk.sub;rw[he,show p+1+0-p=0+1 by omega,hd];rfl
   have e2:l.getD p 0=45:=UInt8.toNat_inj.1 q
   rw[e,e2]at hk
   exact sign_not (by decide) hk
theorem cutN_facts:∀(f:Nat) (l:List UInt8) (p:Nat) (ts:List Tk.Tok),Tk.cutN f l p = .ok ts→∀t ∈ ts,t.p≤l.length∧(t.k=1→Tr.idB t.s=true)∧(t.k=2→0≤t.n∧t.n≤9223372036854775807)
 |0,l,p,ts,h=>by
  simp only[Tk.cutN]at h
  injection h with h
  subst h
  intro t ht
  rw[List.mem_singleton]at ht
  subst ht
  exact⟨Nat.le_refl _,(fun q=>by cases q),(fun q=>by cases q)⟩
 |f+1,l,p,ts,h=>by
  simp only[Tk.cutN]at h
  split at h
  case isFalse=>
   injection h with h
   subst h
   intro t ht
   rw[List.mem_singleton]at ht
   subst ht
   exact⟨Nat.le_refl _,(fun q=>by cases q),(fun q=>by cases q)⟩
  case isTrue hp=>
   split at h
   ·exact cutN_facts f l _ ts h
   split at h
   ·cases h
   ·rename_i hsc h0
    cases h1:Tk.cutN f l (Tk.peF l p) with
    |bad q=>rw[h1]at h;cases h
    |ok us=>
     rw[h1]at h
     have ih:=cutN_facts f l _ us h1
     simp only[Tk.Res.pre]at h
     injection h with h
     subst h
     intro t ht
     rcases List.mem_cons.1 ht with rfl |ht
     ·refine⟨Nat.le_of_lt hp,fun q =>?_,fun q =>?_⟩
      ·have q:Tk.tokK (Tk.sub l p (Tk.peF l p))=1:=q
       show Tr.idB (Tk.sub l p (Tk.peF l p))=true
       rw[← id_eq]
       unfold Tk.tokK at q
       split at q
       ·cases q
       split at q
       ·assumption
       split at q
       ·cases q
       split at q<;>cases q
      ·have q:Tk.tokK (Tk.sub l p (Tk.peF l p))=2:=q
       show 0≤Tk.tokN (Tk.sub l p (Tk.peF l p))∧Tk.tokN (Tk.sub l p (Tk.peF l p))≤9223372036854775807
       simp only[Bool.or_eq_true,not_or,Bool.not_eq_true]at hsc
       have hh:=piece_head hp hsc.1 hsc.2 q
       unfold Tk.tokN
       rw[if_pos q]
       unfold Tk.numV
       cases e:Tk.numF (Tk.sub l p (Tk.peF l p)) with
       |none=>exact⟨by decide,by decide⟩
       |some v=>exact num_le e hh
     ·exact ih t ht
theorem tk_facts {l:List UInt8}{us:List Tk.Tok}(h:Tk.cutR l 0 = .ok us):TkF (us.map cvT)∧∀t ∈ us.map cvT,t.p≤l.length:=by
 have hf:=cutN_facts _ _ _ _ h
 refine⟨fun t ht =>?_,fun t ht =>?_⟩
 ·obtain⟨u,hu,rfl⟩:=List.mem_map.1 ht
  exact(hf u hu).2
 ·obtain⟨u,hu,rfl⟩:=List.mem_map.1 ht
  exact(hf u hu).1
structure PrR (ts:List Tok) (nd:List Nd):Prop where
 right:rgB (nd.map cvN) ((nd.length:Int)-1)=true
 pos:1≤nd.length
 few:nd.length≤4000
 kids:∀x ∈ nd.map cvN,x.ks.length≤4000
 text:∀x ∈ nd.map cvN,x.tx.size≤281474976710656
 num:∀x ∈ nd.map cvN,x.n≤9223372036854775807
 at_:∀i (hi:i<nd.length),i+1<nd.length→∃t ∈ ts,(t.p:Int)=nd[i].pl
theorem prog_right {l:List UInt8}{us:List Tk.Tok}{nd:List Nd}{k:Nat}(hc:Tk.cutR l 0 = .ok us)(h:ansOf progR l = .good nd k):PrR (us.map cvT) nd:=by
 rcases(progR_ok (ts_ok hc)).cases with⟨v,s',q,_⟩ |⟨p',e',q,_,_⟩
 case inr=>rw[ansOf_no hc q]at h;cases h
 rw[ansOf_ok hc q]at h
 split at h
 ·cases h
 split at h
 ·cases h
 rename_i h4 h5
 injection h with h1 h2
 subst h1
 obtain⟨g,hnd,hall,hkid⟩:=prog_w (tk_facts hc).1 q
 obtain⟨G,hG⟩:∃G:Wd,G = .snoc .nil 1 0 0 [] g:=⟨_,rfl⟩
 have hfl:s'.nd=G.fl 0:=by rw[hnd,hG];simp[Wd.fl,Wd.sz]
 have hlen:s'.nd.length=g.sz+1:=by rw[hnd,List.length_append,g.fl_len];rfl
 have hP:∀kd n pl tx l,Pk (us.map cvT) kd n pl tx l→1≤kd∧kd≤27∧txB kd tx=true∧numB kd n=true∧kidB kd l=true:=fun kd n pl tx l r=>⟨r.1,r.2.1,r.2.2.1,r.2.2.2.1.1,r.2.2.2.2.1⟩
 have hGall:G.all (fun kd n pl tx l=>1≤kd∧kd≤27∧txB kd tx=true∧(numB kd n=true∧n≤9223372036854775807)∧kidB kd l=true):=by
  rw[hG]
  exact⟨True.intro,Wd.all_imp (fun kd n pl tx l r=>⟨r.1,r.2.1,r.2.2.1,r.2.2.2.1,r.2.2.2.2.1⟩) hall,by decide,by decide,by decide,⟨by decide,by decide⟩,hkid⟩
 have hmem:=Wd.all_mem 0 hGall
 rw[← hfl]at hmem
 have hks:=prog_kids q
 have hsn:Snd (s'.nd.map cvN) ((s'.nd.length:Int)-1):=by
  have:=wd_snd (f :=.nil) (kd:=1) (n:=0) (pl:=0) (tx:=[]) (ks:=g) rfl (by rw[← hG,← hfl];omega)
  rw[← hG,← hfl]at this
  exact this
 refine⟨?_,by omega,by omega,fun x hx =>?_,fun x hx =>?_,fun x hx =>?_,fun i hi h1 =>?_⟩
 ·unfold rgB
  rw[Tr.sndB_true hsn,decide_eq_true (by omega)]
  have hroot:(nth (s'.nd.map cvN) ((s'.nd.map cvN).length-1)).kd=1:=by
   rw[List.length_map,hlen,Nat.add_sub_cancel,hnd,List.map_append]
   unfold nth
   rw[List.getD_eq_getElem?_getD,List.getElem?_append_right (by simp[g.fl_len])]
   simp[g.fl_len,cvN]
  have hsh:shB (s'.nd.map cvN)=true:=by
   have:=(wd_sh (P:=fun kd n pl tx l=>1≤kd∧kd≤27∧txB kd tx=true∧(numB kd n=true∧n≤9223372036854775807)∧kidB kd l=true) (fun kd n pl tx l r=>⟨r.1,r.2.1,r.2.2.1,r.2.2.2.1.1,r.2.2.2.2⟩) G [] [] hGall).2
   simp only[List.nil_append,List.append_nil,List.length_nil,← hfl]at this
   unfold shB
   rw[List.all_eq_true]
   intro x hx
   obtain⟨y,hy,rfl⟩:=List.mem_map.1 hx
   exact this y hy
  rw[hroot,hsh];rfl
 ·obtain⟨y,hy,rfl⟩:=List.mem_map.1 hx
  have:=hks y hy
  show y.ks.length≤4000
  omega
 ·obtain⟨y,hy,rfl⟩:=List.mem_map.1 hx
  obtain⟨l',r,_⟩:=hmem y hy
  have:=tx_short r.2.2.1
  show(bs y.tx).size≤_
  simp[bs,ByteArray.size]
  omega
 ·obtain⟨y,hy,rfl⟩:=List.mem_map.1 hx
  obtain⟨l',r,_⟩:=hmem y hy
  exact r.2.2.2.1.2
 ·have hig:i<(g.fl 0).length:=by rw[g.fl_len];omega
  have e:s'.nd[i]=(g.fl 0)[i]:=by
   simp only[hnd];exact List.getElem_append_left hig
  obtain⟨l',r,_⟩:=Wd.all_mem 0 hall _ (List.getElem_mem hig)
  rw[e]
  exact r.2.2.2.2.2
end
end
end Go.Proofs.YteecfjhjllajlaaGreatDoor
