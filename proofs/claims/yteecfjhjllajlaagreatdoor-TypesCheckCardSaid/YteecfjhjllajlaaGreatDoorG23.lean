/- PROVED: Ba Ce Ca TkQ TkX Cb. No more condition. -/
import Derived.Test.YteecfjhjllajlaaGreatDoorG10
import Derived.Test.YteecfjhjllajlaaGreatDoorG22
import Derived.Test.YteecfjhjllajlaaGreatDoorG17
import Derived.Test.YteecfjhjllajlaaGreatDoorG15
import Derived.Lib.Join
namespace Go.Proofs.YteecfjhjllajlaaGreatDoor
open Go.Lib (hid)
open Go Go.RowKit
section
open Go
open Tr (nth dA aL bE ay nI kw bi gN vX lh aX dG dO sI iY aA gF)
def iH (P:Nat->Bool)(p n:Nat):Option Nat:=(List.range' p (n-p)).find? P
theorem ug {P:Nat->Bool}{p n:Nat}(h:p<n):iH P p n=if P p then some p else iH P (p+1) n:=by
 unfold iH;rw[show n-p=(n-(p+1))+1 by omega,List.range'_succ,List.find?_cons];cases P p<;>rfl
theorem wT {P:Nat->Bool}{p n:Nat}(h:n<=p):iH P p n=none:=by
 unfold iH;rw[show n-p=0 by omega];rfl
theorem dQ {P:Nat->Bool}{p n q:Nat}(h:iH P p n=some q):p<=q/\q<n/\P q=true/\∀j,p<=j->j<q->P j=false:=by
 unfold iH at h;rw[List.find?_eq_some_iff_append]at h;obtain⟨h1,us,bs,h2,h3⟩:=h;have hm:q ∈ List.range' p (n-p):=by rw[h2];simp
 rw[List.mem_range'_1]at hm;refine⟨hm.1,by omega,h1,λj h4 h5 =>?_⟩;have hj:j ∈ List.range' p (n-p):=List.mem_range'_1.2 ⟨h4,by omega⟩;rw[h2]at hj;have hs:(us++q :: bs).Pairwise (· < ·):=by rw[<- h2];exact List.pairwise_lt_range'
 rcases List.mem_append.1 hj with h6 |h6
 ·have:=h3 j h6;simpa using this
 ·exfalso;rcases List.mem_cons.1 h6 with e |h7
  ·omega
  ·have:=(List.pairwise_cons.1 (List.pairwise_append.1 hs).2.1).1 j h7;omega
theorem pQ {P:Nat->Bool}{p n:Nat}(h:iH P p n=none):∀j,p<=j->j<n->P j=false:=λj h1 h2=>by
 unfold iH at h;have:=List.find?_eq_none.1 h j (List.mem_range'_1.2 ⟨h1,by omega⟩);simpa using this
theorem vg {P:Nat->Bool}{p n q:Nat}(h1:p<=q)(h2:q<n)(h3:P q=true)(h4:∀j,p<=j->j<q->P j=false):iH P p n=some q:=by
 cases e:iH P p n with
 |none=>have:=pQ e q h1 h2;rw[h3]at this;cases this
 |some r=>
  obtain⟨a,b,c,d⟩:=dQ e;rcases Nat.lt_trichotomy q r with h |h |h
  ·have:=d q h1 h;rw[h3]at this;cases this
  ·rw[h]
  ·have:=h4 r a h;rw[c]at this;cases this
theorem j_ {P:Nat->Bool}{p n q:Nat}(h1:p<=q)(h2:q<n)(h3:P q=true):∃r,iH P p n=some r/\r<=q:=by
 cases e:iH P p n with
 |none=>have:=pQ e q h1 h2;rw[h3]at this;cases this
 |some r=>
  obtain⟨a,b,c,d⟩:=dQ e;refine⟨r,rfl,?_⟩;rcases Nat.lt_or_ge q r with h |h
  ·have:=d q h1 h;rw[h3]at this;cases this
  ·exact h
section
variable (l:List Tr.Nd)
def jy (k:Int):Bool:=decide (k=2) || (decide (k=4) || decide (k=5))
def M_:List Tr.Nd->Nat->Int
 | [],_ => -1
 |x :: r,p=>if x.kd=2 then -1 else if x.kd=3 then (p:Int) else M_ r (p+1)
def eQ (p:Nat):Int:=M_ (l.drop p) p
def wU (o:Int)(nm:ByteArray)(q:Nat):Bool:=jy (ae l q).kd&&(decide (eQ l q=o)&&decide ((ae l q).tx=nm))
def Ev (nm:ByteArray)(q:Nat):Bool:=decide ((ae l q).kd=3)&&decide ((ae l q).tx=nm)
def qo (o:Int)(nm:ByteArray)(p:Nat):Option Nat:=iH (wU l o nm) p l.length
def ic (nm:ByteArray)(p:Nat):Option Nat:=iH (Ev l nm) p l.length
def a_ (o:Option Nat):Int:=match o with|none => -1 |some q=>(q:Int)
def eO (p:Nat)(nm:ByteArray):Option Nat:=if eQ l p = -1 then none else (qo l (eQ l p) nm 0).or (qo l (-1) nm 0)
def jo (p:Nat):Int:=match eO l p (ae l p).tx with|none=>0 |some d=>(ae l d).n
def vo (s:ByteArray):Int:=if s=⟨#[43]⟩\/s=⟨#[45]⟩\/s=⟨#[42]⟩\/s=⟨#[47]⟩\/s=⟨#[37]⟩ then 1 else 2
def aC (p:Nat):Int:=
 if (ae l p).kd=20\/(ae l p).kd=23\/(ae l p).kd=24 then 1
 else if (ae l p).kd=21 then 2
 else if (ae l p).kd=22 then jo l p
 else if (ae l p).kd=25 then 4
 else if (ae l p).kd=26\/(ae l p).kd=27 then vo (ae l p).tx
 else 0
def rP (q:Int):List Int:=((ae l q).ks.filter λk=>decide ((ae l k).kd=4)).map λk=>(ae l k).n
def pR (q:Int):Bool:=decide (rP l q=[1])&&decide ((ae l q).n=1)
def nA (p:Nat):Bool:=
 if jy (ae l p).kd then !decide (qo l (eQ l p) (ae l p).tx 0=some p)
 else if (ae l p).kd=3 then (qo l (-1) (ae l p).tx 0).isSome || !decide (ic l (ae l p).tx 0=some p) else false
def bC (p:Nat):ByteArray:=(ae l (dH l p 0)).tx
def eT (p:Nat):Bool:=
 if (ae l p).kd=22\/(ae l p).kd=23\/(ae l p).kd=24\/(ae l p).kd=7\/(ae l p).kd=8\/(ae l p).kd=17\/(ae l p).kd=9\/(ae l p).kd=16 then (eO l p (ae l p).tx).isNone
 else if (ae l p).kd=25 then (ic l (ae l p).tx 0).isNone
 else if (ae l p).kd=13 then ((eO l p (bC l p)).isNone&&(ic l (bC l p) 0).isNone) || (!decide ((ae l p).tx=⟨#[]⟩)&&(eO l p (ae l p).tx).isNone)
 else false
def dU (ks:List Int)(t:Int):Bool:=ks.all λk=>decide (aC l k.toNat=t)
def kQ (p:Nat):Bool:=
 if (ae l p).tx=⟨#[33]⟩\/(ae l p).tx=⟨#[38,38]⟩\/(ae l p).tx=⟨#[124,124]⟩ then dU l (ae l p).ks 2
 else if (ae l p).tx=⟨#[61,61]⟩\/(ae l p).tx=⟨#[33,61]⟩ then dU l (ae l p).ks 1 || dU l (ae l p).ks 2
 else dU l (ae l p).ks 1
def rQ (p:Nat):(List Int × Int) × Bool:=
 match eO l p (bC l p) with
 |none=>((rP l (a_ (ic l (bC l p) 0)),(ae l (a_ (ic l (bC l p) 0))).n),true)
 |some d=>(([1],1),decide ((ae l d).n=4))
def yP (p:Nat):Bool:=
 (rQ l p).2&&(decide (((ae l p).ks.tail.map λk=>aC l k.toNat)=(rQ l p).1.1)&&(decide ((ae l p).tx=⟨#[]⟩) || decide (jo l p=(rQ l p).1.2)))
def rR (p:Nat):Bool:=
 if (ae l p).ks=[]\/(ae l (eQ l p)).n=0 then decide ((ae l p).ks=[])&&decide ((ae l (eQ l p)).n=0)
 else decide (aC l (dH l p 0).toNat=(ae l (eQ l p)).n)
def f_ (p:Nat):Bool:=
 if (ae l p).kd=23\/(ae l p).kd=24\/(ae l p).kd=8\/(ae l p).kd=17 then !decide (jo l p=3) || !(dU l (ae l p).ks 1)
 else if (ae l p).kd=25 then !(pR l (a_ (ic l (ae l p).tx 0)))
 else if (ae l p).kd=26\/(ae l p).kd=27 then !(kQ l p)
 else if (ae l p).kd=7 then !decide (jo l p=aC l (dH l p 0).toNat)
 else if (ae l p).kd=9\/(ae l p).kd=16 then !decide (jo l p=1)
 else if (ae l p).kd=10 then !decide (aC l (dH l p 1).toNat=1)
 else if (ae l p).kd=15 then !decide (aC l (dH l p 0).toNat=1)
 else if (ae l p).kd=11\/(ae l p).kd=12 then !decide (aC l (dH l p 0).toNat=2)
 else if (ae l p).kd=13 then !(yP l p)
 else if (ae l p).kd=14 then !(rR l p)
 else false
def iR (p:Nat):Int:=if nA l p then 4 else if eT l p then 3 else if f_ l p then 5 else 0
def wV:Bool:=match ic l ⟨#[109,97,105,110]⟩ 0 with|none=>false |some q=>decide (rP l q=[])&&decide ((ae l q).n=0)
end
def nC (l:List Tr.Nd)(r:Int):Int × Int:=
 match iH (λp => !decide (iR l p=0)) 0 l.length with
 |some p=>((p:Int),iR l p)
 |none=>if wV l then (0,0) else (r,11)
theorem qz {l:List Tr.Nd}{p:Nat}(h:l.length<=p):eQ l p = -1:=by
 unfold eQ;rw[List.drop_eq_nil_of_le h];rfl
theorem fI {l:List Tr.Nd}{p:Nat}(h:p<l.length):eQ l p=if (ae l p).kd=2 then -1 else if (ae l p).kd=3 then (p:Int) else eQ l (p+1):=by
 unfold eQ;rw[List.drop_eq_getElem_cons h,aH h];rfl
theorem Ew {l:List Tr.Nd}:∀(k p:Nat),l.length-p=k->eQ l p = -1\/∃q:Nat,eQ l p=(q:Int)/\p<=q/\q<l.length/\(ae l q).kd=3
 |0,p,h=>Or.inl (qz (l:=l) (by omega))
 |k+1,p,h=>by
  rw[fI (show p<l.length by omega)];by_cases h2:(ae l p).kd=2
  ·rw[if_pos h2];exact Or.inl rfl
  rw[if_neg h2];by_cases h3:(ae l p).kd=3
  ·rw[if_pos h3];exact Or.inr ⟨p,rfl,Nat.le_refl _,by omega,h3⟩
  rw[if_neg h3];rcases Ew (l:=l) k (p+1) (by omega)with h4 |⟨q,h4,h5,h6,h7⟩
  ·exact Or.inl h4
  ·exact Or.inr ⟨q,h4,by omega,h6,h7⟩
theorem pU (l:List Tr.Nd)(p:Nat):eQ l p = -1\/∃q:Nat,eQ l p=(q:Int)/\p<=q/\q<l.length/\(ae l q).kd=3:=Ew _ p rfl
theorem Ex {l:List Tr.Nd}{m:Nat}(hm:m<l.length)(h3:(ae l m).kd=3):∀(k q:Nat),m-q=k->q<=m->(∀j,q<=j->j<m->4<=(ae l j).kd)->eQ l q=(m:Int)
 |0,q,h,hq,_=>by
  obtain rfl:q=m:=by omega
  rw[fI hm,if_neg (by omega),if_pos h3]
 |k+1,q,h,hq,hb=>by
  have:=hb q (Nat.le_refl _) (by omega);rw[fI (show q<l.length by omega),if_neg (by omega),if_neg (by omega)];exact Ex hm h3 k (q+1) (by omega) (by omega) λj h1 h2=>hb j (by omega) h2
theorem zU {k:Int}{ks:List Int}(hk:3<=k)(h:ay k ks=true):∀x ∈ ks,4<=x:=λx hx=>by
 have hex:∀y,aL y=true->4<=y:=λy hy=>by unfold aL at hy;simp only[Bool.and_eq_true,decide_eq_true_eq]at hy;omega
 have hst:∀y,dA y=true->4<=y:=λy hy=>by unfold dA at hy;simp only[Bool.and_eq_true,decide_eq_true_eq]at hy;omega
 have hal:∀ {ys:List Int},bE ys=true->∀y ∈ ys,4<=y:=λhys y hy=>hex y (List.all_eq_true.1 hys y hy)
 unfold ay at h;rw[if_neg (by omega)]at h;split at h
 ·obtain⟨l',e,h2⟩:=q9 (by decide) h;rw[e]at hx;rcases List.mem_append.1 hx with h3 |h3
  ·rcases h2 x h3 with e |e<;>omega
  ·rw[List.mem_singleton.1 h3];decide
 split at h
 ·exact hst x (List.all_eq_true.1 h x hx)
 split at h
 ·exact hal (by simp only[Bool.and_eq_true]at h;exact h.2) x hx
 split at h
 ·exact hal (by simp only[Bool.and_eq_true]at h;exact h.2) x hx
 split at h
 ·simp only[Bool.and_eq_true,decide_eq_true_eq]at h;obtain⟨a,rfl⟩:=kJ h.1;rw[List.mem_singleton.1 hx];have:=h.2;simp at this;omega
 split at h
 ·simp only[Bool.and_eq_true,decide_eq_true_eq]at h;obtain⟨a,b,rfl⟩:=il h.1.1;have h2:=h.1.2;have h3:=h.2;simp at h2 h3;simp at hx;rcases hx with rfl |rfl
  ·omega
  ·exact hex _ h3
 split at h
 ·simp only[Bool.and_eq_true,decide_eq_true_eq]at h;obtain⟨a,b,c,rfl⟩:=ma h.1.1.1;have h1:=h.1.1.2;have h2:=h.1.2;have h3:=h.2;simp at h1 h2 h3;simp at hx;rcases hx with rfl |rfl |rfl
  ·exact hex _ h1
  ·omega
  ·omega
 split at h
 ·simp only[Bool.and_eq_true,decide_eq_true_eq]at h;obtain⟨a,b,rfl⟩:=il h.1.1;have h1:=h.1.2;have h2:=h.2;simp at h1 h2;simp at hx;rcases hx with rfl |rfl
  ·exact hex _ h1
  ·omega
 split at h
 ·simp only[Bool.and_eq_true,decide_eq_true_eq]at h;rcases ks with _ |⟨a,ks⟩
  ·cases hx
  have h1:=h.1.2;have h2:=h.2;simp at h1 h2;rcases List.mem_cons.1 hx with rfl |hx
  ·omega
  ·exact hal h2 x hx
 split at h
 ·exact hal (by simp only[Bool.and_eq_true]at h;exact h.2) x hx
 split at h
 ·simp only[Bool.and_eq_true,decide_eq_true_eq]at h;obtain⟨a,b,rfl⟩:=il h.1.1;have h1:=h.1.2;have h2:=h.2;simp at h1 h2;simp at hx;rcases hx with rfl |rfl<;>omega
 ·have:=of_decide_eq_true h;rw[List.length_eq_zero_iff.1 this]at hx;cases hx
theorem pV {l:List Tr.Nd}{b:Nat->Nat}(hS:iY l b l.length)(h:kw l=true):∀p:Nat,p<l.length->3<=(ae l p).kd->∀q,b p<=q->q<p->4<=(ae l q).kd:=by
 intro p;induction p using Nat.strongRecOn with
 |_ p ih=>
  intro hp he q h1 h2;have h3:=hS p hp;rw[gz hp]at h3;obtain⟨m,hm,h4,h5,h6⟩:=Tr.qM _ p (b p) q (λq hq=>hS.le q (by omega)) h3 h1 (by omega);have hm2:=List.mem_reverse.1 hm;have h7:4<=(ae l (m:Int)).kd:=zU he (dJ h hp).kid _ (iq hm2);by_cases e:q=m
  ·rw[e];exact h7
  exact ih m h6 (by omega) (by omega) q h4 (by omega)
theorem Ey {l:List Tr.Nd}{b:Nat->Nat}(hS:iY l b l.length)(h0:b (l.length-1)=0)(hl:1<=l.length)(h:kw l=true)(hr:(ae l ((l.length-1:Nat):Int)).kd=1){p:Nat}(hp:p<l.length) :
  p=l.length-1\/(ae l p).kd=2\/∃m:Nat,(m:Int) ∈ (ae l ((l.length-1:Nat):Int)).ks/\(ae l m).kd=3/\b m<=p/\p<=m/\m<l.length/\eQ l p=(m:Int):=by
 by_cases e:p=l.length-1
 ·exact Or.inl e
 have hr1:l.length-1<l.length:=by omega
 have h3:=hS _ hr1;rw[gz hr1,h0]at h3;obtain⟨m,hm,h4,h5,h6⟩:=Tr.qM _ _ 0 p (λq hq=>hS.le q (by omega)) h3 (by omega) (by omega);have hm2:=List.mem_reverse.1 hm;have hk:=(dJ h hr1).kid;rw[hr]at hk;have hk2:=ol (show bi (eH l ((l.length-1:Nat):Int)) 2 3 0=true from hk) _ (iq hm2);rcases hk2 with e2 |e3
 ·refine Or.inr (Or.inl ?_);have hml:m<l.length:=by omega
  have hkm:=(dJ h hml).kid;rw[e2]at hkm;have hnil:(ae l (m:Int)).ks=[]:=by
   have:eH l (m:Int)=[]:=by simpa [ay]using hkm
   exact List.map_eq_nil_iff.1 this
  have h7:=hS m hml;rw[gz hml,hnil]at h7;have h8:m=b m:=by simpa [Tr.ig]using h7
  obtain rfl:p=m:=by omega
  exact e2
 ·have hml:m<l.length:=by omega
  exact Or.inr (Or.inr ⟨m,hm2,e3,h4,h5,hml,Ex hml e3 _ p rfl h5 λj h7 h8=>pV hS h m hml (by omega) j (by omega) h8⟩)
end
section
open Go
open Tr (nth dA aL bE ay nI kw bi gN vX lh aX dG dO sI iY aA gF)
theorem JJ {l:List Tr.Nd}{b:Nat->Nat}(hS:iY l b l.length):∀p:Nat,p<l.length->∀q:Nat,b p<=q->q<p->∃p2:Nat,p2<=p/\q<p2/\(q:Int) ∈ (ae l p2).ks:=by
 intro p;induction p using Nat.strongRecOn with
 |_ p ih=>
  intro hp q h1 h2;have h3:=hS p hp;rw[gz hp]at h3;obtain⟨m,hm,h4,h5,h6⟩:=Tr.qM _ p (b p) q (λq hq=>hS.le q (by omega)) h3 h1 (by omega);have hm2:=List.mem_reverse.1 hm;by_cases e:q=m
  ·subst e;exact⟨p,Nat.le_refl _,h2,hm2⟩
  obtain⟨p2,a,c,d⟩:=ih m h6 (by omega) q h4 (by omega);exact⟨p2,by omega,c,d⟩
theorem wW {l:List Tr.Nd}:∀(k q m:Nat),m-q=k->q<=m->m<=l.length->(∀j,q<=j->j<m->4<=(ae l j).kd)->eQ l q=eQ l m
 |0,q,m,h,hq,_,_=>by
  have e:q=m:=by omega
  rw[e]
 |k+1,q,m,h,hq,hm,hb=>by
  have:=hb q (Nat.le_refl _) (by omega);rw[fI (l:=l) (p:=q) (by omega),if_neg (by omega),if_neg (by omega)];exact wW (l:=l) k (q+1) m (by omega) (by omega) hm λj h1 h2=>hb j (by omega) h2
structure jP (l:List Tr.Nd) (b:Nat->Nat):Prop where
 st:iY l b l.length
 zero:b (l.length-1)=0
 len:1<=l.length
 sh:kw l=true
 root:(ae l ((l.length-1:Nat):Int)).kd=1
theorem jP.only1 {l:List Tr.Nd}{b:Nat->Nat}(h:jP l b){p:Nat}(hp:p<l.length)(h1:(ae l p).kd=1):p=l.length-1:=by
 rcases Ey h.st h.zero h.len h.sh h.root hp with e |e |⟨m,_,e3,h4,h5,h6,_⟩
 ·exact e
 ·omega
 ·by_cases e:p=m
  ·subst e;omega
  have:=pV h.st h.sh m h6 (by omega) p h4 (by omega);omega
theorem jP.par {l:List Tr.Nd}{b:Nat->Nat}(h:jP l b){q:Nat}(hq:q<l.length-1):∃p:Nat,p<l.length/\q<p/\(q:Int) ∈ (ae l p).ks:=by
 obtain⟨p,h1,h2,h3⟩:=JJ h.st (l.length-1) (by omega) q (by rw[h.zero];omega) hq;exact⟨p,by omega,h2,h3⟩
theorem jP.kid {l:List Tr.Nd}{b:Nat->Nat}(h:jP l b){p q:Nat}(hp:p<l.length)(hk:(q:Int) ∈ (ae l p).ks)(h3:(ae l q).kd≠3):eQ l q=eQ l p:=by
 have hS:=h.st p hp;rw[gz hp]at hS;obtain⟨m,e,h4,h5⟩:=Tr.iK _ p (b p) (λq hq=>h.st.le q (by omega)) hS q (List.mem_reverse.2 hk);obtain rfl:q=m:=by omega
 have hkd:=(dJ h.sh hp).lo;by_cases e:3<=(ae l p).kd
 ·exact wW _ q p rfl (by omega) (by omega) λj h6 h7=>pV h.st h.sh p hp e j (by have:=h.st.le q (by omega);omega) h7
 by_cases e1:(ae l p).kd=1
 ·have hk2:=(dJ h.sh hp).kid;rw[e1]at hk2;have:=ol (show bi (eH l p) 2 3 0=true from hk2) _ (iq hk);rcases this with e2 |e2
  ·rw[fI (l:=l) (p:=q) (by omega),if_pos e2,fI hp,if_neg (by omega),if_neg (by omega),h.only1 hp e1,qz (by omega)]
  ·exact absurd e2 h3
 ·have e2:(ae l p).kd=2:=by omega
  have hk2:=(dJ h.sh hp).kid;rw[e2]at hk2;have:eH l (p:Int)=[]:=by simpa [ay]using hk2
  rw[List.map_eq_nil_iff.1 this]at hk;cases hk
theorem jP.rootow {l:List Tr.Nd}{b:Nat->Nat}(h:jP l b):eQ l (l.length-1) = -1:=by
 have:=h.len;rw[fI (l:=l) (by omega),if_neg (by rw[h.root];decide),if_neg (by rw[h.root];decide),qz (by omega)]
theorem rT {l:List Tr.Nd}{p:Nat}(hp:p<l.length)(h:(ae l p).kd=3):eQ l p=(p:Int):=by
 rw[fI hp,if_neg (by omega),if_pos h]
theorem jP.owns {l:List Tr.Nd}{b:Nat->Nat}(h:jP l b){p:Nat}(hp:p<l.length)(h4:3<=(ae l p).kd):∃m:Nat,eQ l p=(m:Int)/\p<=m/\m<l.length/\(ae l m).kd=3:=by
 rcases Ey h.st h.zero h.len h.sh h.root hp with e |e |⟨m,_,e3,_,h5,h6,h7⟩
 ·rw[e,h.root]at h4;omega
 ·omega
 ·exact⟨m,h7,h5,h6,e3⟩
theorem rU {l:List Tr.Nd}{p d:Nat}{nm:ByteArray}(h:eO l p nm=some d):d<l.length/\jy (ae l d).kd=true/\(ae l d).tx=nm:=by
 unfold eO at h;split at h
 ·cases h
 ·rw[Option.or_eq_some_iff]at h;have hk:∀ {o:Int},qo l o nm 0=some d->d<l.length/\jy (ae l d).kd=true/\(ae l d).tx=nm:=λh0=>by
   obtain⟨_,h1,h2,_⟩:=dQ h0;unfold wU at h2;simp only[Bool.and_eq_true,decide_eq_true_eq]at h2;exact⟨h1,h2.1,h2.2.2⟩
  rcases h with h |⟨_,h⟩<;>exact hk h
theorem lT {l:List Tr.Nd}{q:Nat}{nm:ByteArray}(h:ic l nm 0=some q):q<l.length/\(ae l q).kd=3/\(ae l q).tx=nm:=by
 obtain⟨_,h1,h2,_⟩:=dQ h;unfold Ev at h2;simp only[Bool.and_eq_true,decide_eq_true_eq]at h2;exact⟨h1,h2.1,h2.2⟩
theorem GJ {k:Int}{ks:List Int}(hkd:ay k ks=true)(hin:(19:Int) ∈ ks):k=13:=by
 have hex:∀ {ys:List Int},bE ys=true->(19:Int) ∈ ys->False:=λhys hy=>by have:=List.all_eq_true.1 hys _ hy;revert this;decide
 by_cases e:k=13
 ·exact e
 exfalso;unfold ay at hkd;by_cases c0:k=1
 ·rw[if_pos c0]at hkd;rcases ol hkd _ hin with e |e<;>omega
 rw[if_neg c0]at hkd;by_cases c1:k=3
 ·rw[if_pos c1]at hkd;obtain⟨l',e2,h2⟩:=q9 (by decide) hkd;rw[e2]at hin;rcases List.mem_append.1 hin with h3 |h3
  ·rcases h2 _ h3 with e |e<;>omega
  ·simp at h3
 rw[if_neg c1]at hkd;by_cases c2:k=6
 ·rw[if_pos c2]at hkd;have:=List.all_eq_true.1 hkd _ hin;revert this;decide
 rw[if_neg c2]at hkd;by_cases c3:k=7\/k=15\/k=17\/k=23\/k=26
 ·rw[if_pos c3]at hkd;simp only[Bool.and_eq_true]at hkd;exact hex hkd.2 hin
 rw[if_neg c3]at hkd;by_cases c4:k=8\/k=27
 ·rw[if_pos c4]at hkd;simp only[Bool.and_eq_true]at hkd;exact hex hkd.2 hin
 rw[if_neg c4]at hkd;by_cases c5:k=9
 ·rw[if_pos c5]at hkd;simp only[Bool.and_eq_true,decide_eq_true_eq]at hkd;obtain⟨a,e2⟩:=kJ hkd.1;rw[e2]at hkd hin;simp at hkd hin;omega
 rw[if_neg c5]at hkd;by_cases c6:k=10
 ·rw[if_pos c6]at hkd;simp only[Bool.and_eq_true,decide_eq_true_eq]at hkd;obtain⟨a,c,e2⟩:=il hkd.1.1;rw[e2]at hkd hin;simp at hkd hin;rcases hin with rfl |rfl
  ·omega
  ·have:=hkd.2;revert this;decide
 rw[if_neg c6]at hkd;by_cases c7:k=11
 ·rw[if_pos c7]at hkd;simp only[Bool.and_eq_true,decide_eq_true_eq]at hkd;obtain⟨a,c,d,e2⟩:=ma hkd.1.1.1;rw[e2]at hkd hin;simp at hkd hin;rcases hin with rfl |rfl |rfl
  ·have:=hkd.1.1;revert this;decide
  ·omega
  ·omega
 rw[if_neg c7]at hkd;by_cases c8:k=12
 ·rw[if_pos c8]at hkd;simp only[Bool.and_eq_true,decide_eq_true_eq]at hkd;obtain⟨a,c,e2⟩:=il hkd.1.1;rw[e2]at hkd hin;simp at hkd hin;rcases hin with rfl |rfl
  ·have:=hkd.1;revert this;decide
  ·omega
 rw[if_neg c8]at hkd;by_cases c9:k=13
 ·rw[if_pos c9]at hkd;omega
 rw[if_neg c9]at hkd;by_cases c10:k=14
 ·rw[if_pos c10]at hkd;simp only[Bool.and_eq_true]at hkd;exact hex hkd.2 hin
 rw[if_neg c10]at hkd;by_cases c11:k=16
 ·rw[if_pos c11]at hkd;simp only[Bool.and_eq_true,decide_eq_true_eq]at hkd;obtain⟨a,c,e2⟩:=il hkd.1.1;rw[e2]at hkd hin;simp at hkd hin;rcases hin with rfl |rfl<;>omega
 rw[if_neg c11]at hkd
 ·have:=of_decide_eq_true hkd;rw[List.length_eq_zero_iff.1 this]at hin;cases hin
theorem jP.ref {l:List Tr.Nd}{b:Nat->Nat}(h:jP l b){q:Nat}(hq:q<l.length)(h19:(ae l q).kd=19):∃p:Nat,p<l.length/\(ae l p).kd=13/\dH l p 0=(q:Int)/\eQ l q=eQ l p:=by
 have hr:q<l.length-1:=by
  have:q≠l.length-1:=λe=>by rw[e,h.root]at h19;omega
  omega
 obtain⟨p,hp,_,hk⟩:=h.par hr;have hkd:=(dJ h.sh hp).kid;have hin:(19:Int) ∈ eH l p:=by have:=iq hk;rw[h19]at this;exact this
 have hex:∀ {ys:List Int},bE ys=true->(19:Int) ∈ ys->False:=λhys hy=>by have:=List.all_eq_true.1 hys _ hy;revert this;decide
 have h13:(ae l p).kd=13:=GJ hkd hin;refine⟨p,hp,h13,?_,h.kid hp hk (by omega)⟩;rw[h13]at hkd;rcases hks:(ae l p).ks with _ |⟨a,ks⟩
 ·rw[hks]at hk;cases hk
 unfold dH;rw[hks];rw[hks]at hk;rcases List.mem_cons.1 hk with e |e
 ·exact e.symm
 ·exfalso;have e2:eH l p=(ae l a).kd :: ks.map λk=>(ae l k).kd:=by unfold eH;rw[hks];rfl
  rw[e2]at hkd;simp[ay]at hkd;exact hex hkd.2 (List.mem_map.2 ⟨_,e,h19⟩)
end
section
open Tr (Bx ag bt bu Ints Ib p_ mF Aj)
structure Kl where
 ow:Int
 ar:Nat->Int
 dc:Value->Option Int
 pc:Value->Option Int
def MO:Kl:=⟨-1,λ_=>0,λ_=>none,λ_=>none⟩
def vP (l:List Tr.Nd)(o:Int)(k:Nat):Int:=if (ae l k).kd=2 then -1 else if (ae l k).kd=3 then (k:Int) else o
def BA (o:Int)(nm:ByteArray):Value :=.agg #[.int .i64 o,.string nm]
open Classical in
noncomputable def sN (l:List Tr.Nd)(s:Kl)(k:Nat):Kl where
 ow:=vP l s.ow k
 ar:=λj=>if j=k then vP l s.ow k else s.ar j
 dc:=λv=>if jy (ae l k).kd=true/\v=BA (vP l s.ow k) (ae l k).tx then some (k:Int) else s.dc v
 pc:=λv=>if (ae l k).kd=3/\v=.string (ae l k).tx then some (k:Int) else s.pc v
noncomputable def nD (l:List Tr.Nd)(ks:List Nat):Kl:=ks.foldl (sN l) MO
theorem wX (l:List Tr.Nd)(ks:List Nat)(k:Nat):nD l (ks++[k])=sN l (nD l ks) k:=by unfold nD;rw[List.foldl_append];rfl
theorem Ez (l:List Tr.Nd)(N:Nat):∀(ks:List Nat) (s:Kl),(∀k ∈ ks,k<N) -> -1<=s.ow/\s.ow<=(N:Int) -> -1<=(ks.foldl (sN l) s).ow/\(ks.foldl (sN l) s).ow<=(N:Int)
 | [],_,_,h=>h
 |k :: ks,s,hk,h=>by
  refine Ez l N ks (sN l s k) (λj hj=>hk j (List.mem_cons_of_mem _ hj)) ?_;have:=hk k (List.mem_cons_self ..);show -1<=vP l s.ow k/\vP l s.ow k<=(N:Int);unfold vP;split
  ·omega
  ·split<;>omega
def vv (l:List Tr.Nd)(p:Nat)(v:Value):Option Int:=
 match v with
 | .agg cs=>match cs.toList with
  | [.int .i64 o,.string nm]=>(qo l o nm p).map λq=>(q:Int)
  |_=>none
 |_=>none
def vw (l:List Tr.Nd)(p:Nat)(v:Value):Option Int:=
 match v with
 | .string nm=>(ic l nm p).map λq=>(q:Int)
 |_=>none
theorem pW {l:List Tr.Nd}{p:Nat}{v:Value}(h:∀o nm,v≠BA o nm):vv l p v=none:=by
 unfold vv;split
 ·rename_i cs;split
  ·rename_i o nm e;exact absurd (show Value.agg cs=BA o nm from congrArg Value.agg (by cases cs;simp_all)) (h o nm)
  ·rfl
 ·rfl
theorem pX {l:List Tr.Nd}{p:Nat}{v:Value}(h:∀nm,v ≠ .string nm):vw l p v=none:=by
 unfold vw;split
 ·rename_i nm;exact absurd rfl (h nm)
 ·rfl
theorem GK {o o':Int}{nm nm':ByteArray}(h:BA o nm=BA o' nm'):o=o'/\nm=nm':=by
 unfold BA at h;simpa using h
theorem vz (l:List Tr.Nd)(p:Nat)(o:Int)(nm:ByteArray):vv l p (BA o nm)=(qo l o nm p).map λq=>(q:Int):=rfl
theorem vB (l:List Tr.Nd)(p:Nat)(nm:ByteArray):vw l p (.string nm)=(ic l nm p).map λq=>(q:Int):=rfl
theorem wY (l:List Tr.Nd){p:Nat}(h:l.length<=p)(v:Value):vv l p v=none:=by
 by_cases hv:∃o nm,v=BA o nm
 ·obtain⟨o,nm,rfl⟩:=hv;rw[vz];unfold qo;rw[wT h];rfl
 ·exact pW λo nm e=>hv ⟨o,nm,e⟩
theorem wZ (l:List Tr.Nd){p:Nat}(h:l.length<=p)(v:Value):vw l p v=none:=by
 by_cases hv:∃nm,v=.string nm
 ·obtain⟨nm,rfl⟩:=hv;rw[vB];unfold ic;rw[wT h];rfl
 ·exact pX λnm e=>hv ⟨nm,e⟩
open Classical in
theorem Bj {l:List Tr.Nd}{p:Nat}(h:p<l.length)(v:Value):vv l p v=if jy (ae l p).kd=true/\v=BA (eQ l p) (ae l p).tx then some (p:Int) else vv l (p+1) v:=by
 by_cases hv:∃o nm,v=BA o nm
 ·obtain⟨o,nm,rfl⟩:=hv;rw[vz,vz];unfold qo;rw[ug h];by_cases hB:wU l o nm p=true
  ·have h2:=hB;unfold wU at h2;simp only[Bool.and_eq_true,decide_eq_true_eq]at h2;rw[if_pos hB,if_pos ⟨h2.1,by rw[h2.2.1,h2.2.2]⟩];rfl
  ·rw[if_neg hB,if_neg];rintro⟨h1,h2⟩;obtain⟨e1,e2⟩:=GK h2;exact hB (by unfold wU;simp[h1,e1,e2])
 ·rw[if_neg (λh=>hv ⟨_,_,h.2⟩),pW λo nm e=>hv ⟨o,nm,e⟩,pW λo nm e=>hv ⟨o,nm,e⟩]
open Classical in
theorem Bl {l:List Tr.Nd}{p:Nat}(h:p<l.length)(v:Value):vw l p v=if (ae l p).kd=3/\v=.string (ae l p).tx then some (p:Int) else vw l (p+1) v:=by
 by_cases hv:∃nm,v=.string nm
 ·obtain⟨nm,rfl⟩:=hv;rw[vB,vB];unfold ic;rw[ug h];by_cases hB:Ev l nm p=true
  ·have h2:=hB;unfold Ev at h2;simp only[Bool.and_eq_true,decide_eq_true_eq]at h2;rw[if_pos hB,if_pos ⟨h2.1,by rw[h2.2]⟩];rfl
  ·rw[if_neg hB,if_neg];rintro⟨h1,h2⟩;exact hB (by unfold Ev;simp at h2;simp[h1,h2])
 ·rw[if_neg (λh=>hv ⟨_,h.2⟩),pX λnm e=>hv ⟨nm,e⟩,pX λnm e=>hv ⟨nm,e⟩]
def mR (n m:Nat):List Nat:=(mF n m).map (·.val)
theorem w_ (l:List Tr.Nd):∀(k m:Nat),l.length-m=k->m<=l.length->(nD l (mR l.length m)).ow=eQ l m/\(∀j,m<=j->j<l.length->(nD l (mR l.length m)).ar j=eQ l j)/\(∀v,(nD l (mR l.length m)).dc v=vv l m v)/\∀v,(nD l (mR l.length m)).pc v=vw l m v
 |0,m,hk,hm=>by
  obtain rfl:m=l.length:=by omega
  have e:mR l.length l.length=[]:=by unfold mR;rw[Tr.wQ];rfl
  rw[e];exact⟨(qz (Nat.le_refl _)).symm,λj h1 h2=>by omega,λv=>(wY l (Nat.le_refl _) v).symm,λv=>(wZ l (Nat.le_refl _) v).symm⟩
 |k+1,m,hk,hm=>by
  have hlt:m<l.length:=by omega
  obtain⟨h1,h2,h3,h4⟩:=w_ l k (m+1) (by omega) (by omega);have e:mR l.length m=mR l.length (m+1)++[m]:=by unfold mR;rw[Tr.uf hlt,List.map_append];rfl
  rw[e,wX];have ho:vP l (nD l (mR l.length (m+1))).ow m=eQ l m:=by rw[h1,fI hlt];rfl
  refine⟨ho,λj hj1 hj2 =>?_,λv =>?_,λv =>?_⟩
  ·show(if j=m then vP l _ m else _)=_;by_cases e2:j=m
   ·subst e2;rw[if_pos rfl,ho]
   ·rw[if_neg e2];exact h2 j (by omega) hj2
  ·rw[Bj hlt,<- h3,<- ho];rfl
  ·rw[Bl hlt,<- h4];rfl
section
variable {l:List Tr.Nd} {s:Kl} {k:Nat} {kd:Int} {tx:ByteArray} {OW:Int}
theorem zV (ho:vP l s.ow k=OW):(sN l s k).ow=OW/\∀j,(if j=k then OW else s.ar j)=(sN l s k).ar j:=⟨ho,λj=>by unfold sN;simp only[ho]⟩
open Classical in
theorem zW (hk:kd=(ae l k).kd)(ht:tx=(ae l k).tx)(ho:vP l s.ow k=OW)(hd:jy kd=true)(v:Value):(if v=BA OW tx then some (k:Int) else s.dc v)=(sN l s k).dc v:=by
 unfold sN;simp only[ho,<- hk,<- ht,hd,true_and]
theorem zX (hk:kd=(ae l k).kd)(hd:jy kd=false)(v:Value):s.dc v=(sN l s k).dc v:=by
 unfold sN;simp only[<- hk,hd,Bool.false_eq_true,false_and,if_false]
open Classical in
theorem GL (hk:3=(ae l k).kd)(ht:tx=(ae l k).tx)(v:Value):(if v=.string tx then some (k:Int) else s.pc v)=(sN l s k).pc v:=by
 unfold sN;simp only[<- hk,<- ht,true_and]
theorem vC (hk:kd=(ae l k).kd)(hd:kd≠3)(v:Value):s.pc v=(sN l s k).pc v:=by
 unfold sN;simp only[<- hk,hd,false_and,if_false]
end
structure sO (w:World) (A:Option Addr) (n c G B:Nat) (X0:World) (ow:Int) (ar:Nat->Int) (dc pc:Value->Option Int) (cd cp:Nat) (X:World):Prop where
 z:Bx X (w.heap.size+1) 83 [.slice none 0 0,.slice none 0 0,.map none,.map none]
 p:Bx X (w.heap.size+1+1+1+1) 83 [.slice A n c,.slice (some ⟨G,0,none⟩) n n,.map (some (w.heap.size+1+1)),.map (some (w.heap.size+1+1+1))]
 d:bQ X 137 (w.heap.size+1+1) dc cd
 q:bQ X 9 (w.heap.size+1+1+1) pc cp
 o:Ib X G n ar
 s:Bx X (G+1) 3 [.int .i64 ow]
 b:Below w.heap.size w X
 k:KeepsFrom B X0 X
 kp:Aj w.heap.size (G+1+1) X0 X
 g:w.heap.size+1+1+1+1<G
 gB:G+1+1<B
section
variable {w:World} {A:Option Addr} {n c G B:Nat} {X0 X Y:World} {ow:Int} {ar:Nat->Int} {dc pc:Value->Option Int} {cd cp:Nat}
theorem sO.own {row:Option Nat}(h:sO w A n c G B X0 ow ar dc pc cd cp X)(hg:X.grownBy Y row)(hr:∀r,row=some r->B<=r/\∃o:Obj,X.heap[r]?=some o/\o.isCells=false):sO w A n c G B Y ow ar dc pc cd cp Y:=by
 have hne:∀k,k<B->some k≠row:=λk hk e=>by have:=(hr k e.symm).1;omega
 have h1:=h.g;have h2:=h.gB;exact⟨h.z.grown hg (hne _ (by omega)),h.p.grown hg (hne _ (by omega)),h.d.kept hg (hne _ (by omega)),h.q.kept hg (hne _ (by omega)),h.o.grown hg (hne _ (by omega)),h.s.grown hg (hne _ (by omega)),
  h.b.grown hg h.b.size (λk e=>by have:=(hr k e).1;omega),KeepsFrom.refl _ _,⟨Below.refl _ _,rfl⟩,h1,h2⟩
theorem sO.start (h:sO w A n c G B X0 ow ar dc pc cd cp X):sO w A n c G B X ow ar dc pc cd cp X:=⟨h.z,h.p,h.d,h.q,h.o,h.s,h.b,KeepsFrom.refl _ _,⟨Below.refl _ _,rfl⟩,h.g,h.gB⟩
theorem EA {n₀ Bs b i:Nat}{u:Value}(h:n₀<=b)(hne:Bs≠b):Aj n₀ Bs X (X.setCell ⟨b,i,none⟩ u):=⟨(Below.refl _ X).setCell (p:=⟨b,i,none⟩) h _,heap_setCell_other X _ _ _ hne⟩
theorem lU {n₀ Bs:Nat}{a b c:World}(h:Aj n₀ Bs a b)(k:Aj n₀ Bs b c):Aj n₀ Bs a c:=⟨h.1.trans k.1,k.2.trans h.2⟩
theorem sO.setw (h:sO w A n c G B X0 ow ar dc pc cd cp X)(v:Int):sO w A n c G B X0 v ar dc pc cd cp (X.setCell ⟨G+1,0,none⟩ (.int .i64 v)):=by
 have h1:=h.g;have h2:=h.gB;have hne:∀k,k≠G+1->(X.setCell ⟨G+1,0,none⟩ (.int .i64 v)).heap[k]?=X.heap[k]?:=λk hk=>heap_setCell_other X _ _ _ hk
 exact⟨h.z.same (hne _ (by omega)),h.p.same (hne _ (by omega)),h.d.same (hne _ (by omega)),h.q.same (hne _ (by omega)),(h.o.far (p:=⟨G+1,0,none⟩) (by show G≠G+1;omega) _),h.s.set_ 0 _,
  h.b.setCell (p:=⟨G+1,0,none⟩) (by show _<=G+1;omega) _,h.k.trans ((KeepsOthers.setCell _ _ _).from _),lU h.kp (EA (by omega) (by omega)),h1,h2⟩
theorem sO.seto (h:sO w A n c G B X0 ow ar dc pc cd cp X)(k:Nat)(v:Int):sO w A n c G B X0 ow (λj=>if j=k then v else ar j) dc pc cd cp (X.setCell ⟨G,k,none⟩ (.int .i64 v)):=by
 have h1:=h.g;have h2:=h.gB;have hne:∀j,j≠G->(X.setCell ⟨G,k,none⟩ (.int .i64 v)).heap[j]?=X.heap[j]?:=λj hk=>heap_setCell_other X _ _ _ hk
 exact⟨h.z.same (hne _ (by omega)),h.p.same (hne _ (by omega)),h.d.same (hne _ (by omega)),h.q.same (hne _ (by omega)),h.o.set_ k v,h.s.same (hne _ (by omega)),
  h.b.setCell (p:=⟨G,k,none⟩) (by show _<=G;omega) _,h.k.trans ((KeepsOthers.setCell _ _ _).from _),lU h.kp (EA (by omega) (by omega)),h1,h2⟩
theorem xc {n₀ Bs b:Nat}(hg:X.grownBy Y (some b))(h:n₀<=b)(hne:Bs≠b)(hs:n₀<=X.heap.size)(hl:Bs<X.heap.size):Aj n₀ Bs X Y:=
 ⟨(Below.refl _ X).grown hg hs (λk e=>by cases e;exact h),hg.block Bs hl (λe=>hne (Option.some.inj e))⟩
open Classical in
theorem sO.putd (h:sO w A n c G B X0 ow ar dc pc cd cp X)(hcd:cd<100000)(hl:G+1+1<X.heap.size)(o:Int)(nm:ByteArray)(ho:(Lit.int .i64 o).wf=true)(hn:nm.size<=281474976710656)(v:Int)(hv:(Lit.int .i64 v).wf=true) :
  ∃Y,(Instr.mapUpdate 80 (.map (some (w.heap.size+1+1))) (.agg #[.int .i64 o,.string nm]) (.int .i64 v)).run Tryz.prog X=.ok () Y/\sO w A n c G B X0 ow ar (λx=>if x=BA o nm then some v else dc x) pc (cd+1) cp Y/\X.heap.size<=Y.heap.size:=by
 have h1:=h.g;have h2:=h.gB;obtain⟨kl,hk⟩:=yO o nm ho hn;obtain⟨Y,hrun,hM,hg⟩:=h.d.put JI Tryz.underlying80 hcd hk hv;have hne:∀k,k≠w.heap.size+1+1->some k≠some (w.heap.size+1+1):=λk hk e=>hk (Option.some.inj e)
 exact⟨Y,hrun,⟨h.z.grown hg (hne _ (by omega)),h.p.grown hg (hne _ (by omega)),hM,h.q.kept hg (hne _ (by omega)),h.o.grown hg (hne _ (by omega)),h.s.grown hg (hne _ (by omega)),
  h.b.grown hg h.b.size (λk e=>by cases e;omega),h.k.trans (KeepsFrom.of_grownBy hg (λj e=>by cases e;omega)),lU h.kp (xc hg (by omega) (by omega) h.b.size hl),h1,h2⟩,hg.size⟩
open Classical in
theorem sO.putp (h:sO w A n c G B X0 ow ar dc pc cd cp X)(hcp:cp<100000)(hl:G+1+1<X.heap.size)(nm:ByteArray)(hn:nm.size<=281474976710656)(v:Int)(hv:(Lit.int .i64 v).wf=true) :
  ∃Y,(Instr.mapUpdate 81 (.map (some (w.heap.size+1+1+1))) (.string nm) (.int .i64 v)).run Tryz.prog X=.ok () Y/\sO w A n c G B X0 ow ar dc (λx=>if x=.string nm then some v else pc x) cd (cp+1) Y/\X.grownBy Y (some (w.heap.size+1+1+1)):=by
 have h1:=h.g;have h2:=h.gB;obtain⟨Y,hrun,hM,hg⟩:=h.q.put JG Tryz.underlying81 hcp (yN nm hn) hv;have hne:∀k,k≠w.heap.size+1+1+1->some k≠some (w.heap.size+1+1+1):=λk hk e=>hk (Option.some.inj e)
 exact⟨Y,hrun,⟨h.z.grown hg (hne _ (by omega)),h.p.grown hg (hne _ (by omega)),h.d.kept hg (hne _ (by omega)),hM,h.o.grown hg (hne _ (by omega)),h.s.grown hg (hne _ (by omega)),
  h.b.grown hg h.b.size (λk e=>by cases e;omega),h.k.trans (KeepsFrom.of_grownBy hg (λj e=>by cases e;omega)),lU h.kp (xc hg (by omega) (by omega) h.b.size hl),h1,h2⟩,hg⟩
end
end
section
open Tr (Bx ag bt bu Ints aG au az)
def yQ (l:List Tr.Nd):List Int:=(List.range l.length).map λp=>eQ l p
theorem EB (l:List Tr.Nd):(yQ l).length=l.length:=by simp[yQ]
theorem GM {l:List Tr.Nd}{p:Nat}(h:p<(yQ l).length):(yQ l)[p]=eQ l p:=by simp[yQ]
def fJ (A:Option Addr)(n c:Nat)(O:Option Addr)(co bd bp:Nat):Value :=.agg #[.slice A n c,.slice O n co,.map (some bd),.map (some bp)]
structure kX (w:World) (l:List Tr.Nd) (A:Option Addr) (n:Nat) (O:Option Addr) (bd bp:Nat):Prop where
 nds:bu w A l
 len:n=l.length
 few:n<=4000
 own:Ints w O (yQ l)
 dcl:bQ w 137 bd (vv l 0) 5000
 prc:bQ w 9 bp (vw l 0) 5000
 kids:∀x ∈ l,x.ks.length<=4000
 text:∀x ∈ l,x.tx.size<=281474976710656
 ahead:Ahead l
theorem kX.below {w w':World}{l:List Tr.Nd}{A O:Option Addr}{n bd bp:Nat}(h:kX w l A n O bd bp)(hb:Below w.heap.size w w'):kX w' l A n O bd bp:=
 ⟨h.nds.below hb,h.len,h.few,h.own.below hb,h.dcl.below hb h.dcl.lt,h.prc.below hb h.prc.lt,h.kids,h.text,h.ahead⟩
theorem optG (o:Option Nat):(o.map λq=>(q:Int)).isSome=o.isSome/\(o.map λq=>(q:Int)).getD 0=(match o with|none=>0 |some q=>(q:Int)):=by cases o<;>exact⟨rfl,rfl⟩
def GN (o:Option Nat):Int:=match o with|none=>0 |some q=>(q:Int)
section
variable {w:World} {l:List Tr.Nd} {A O:Option Addr} {n bd bp:Nat}
theorem kX.lookd (h:kX w l A n O bd bp)(o:Int)(nm:ByteArray)(ho:(Lit.int .i64 o).wf=true)(hn:nm.size<=281474976710656) :
  (Instr.lookup 80 (.map (some bd)) (.agg #[.int .i64 o,.string nm]) true).run Tryz.prog w=.ok (.tuple #[.int .i64 (GN (qo l o nm 0)),.bool (qo l o nm 0).isSome]) w:=by
 obtain⟨kl,hk⟩:=yO o nm ho hn;have:=h.dcl.look JI Tryz.underlying80 hk;rw[this];show Result.ok (Value.tuple #[.int .i64 (((qo l o nm 0).map λq=>(q:Int)).getD 0),.bool (((qo l o nm 0).map λq=>(q:Int)).isSome)]) w=_;rw[(optG _).1,(optG _).2];rfl
theorem kX.lookd1 (h:kX w l A n O bd bp)(o:Int)(nm:ByteArray)(ho:(Lit.int .i64 o).wf=true)(hn:nm.size<=281474976710656) :
  (Instr.lookup 80 (.map (some bd)) (.agg #[.int .i64 o,.string nm]) false).run Tryz.prog w=.ok (.int .i64 (GN (qo l o nm 0))) w:=by
 obtain⟨kl,hk⟩:=yO o nm ho hn;have:=h.dcl.look1 JI Tryz.underlying80 hk;rw[this];show Result.ok (Value.int .i64 (((qo l o nm 0).map λq=>(q:Int)).getD 0)) w=_;rw[(optG _).2];rfl
theorem kX.lookp (h:kX w l A n O bd bp)(nm:ByteArray)(hn:nm.size<=281474976710656) :
  (Instr.lookup 81 (.map (some bp)) (.string nm) true).run Tryz.prog w=.ok (.tuple #[.int .i64 (GN (ic l nm 0)),.bool (ic l nm 0).isSome]) w:=by
 have:=h.prc.look JG Tryz.underlying81 (yN nm hn);rw[this];show Result.ok (Value.tuple #[.int .i64 (((ic l nm 0).map λq=>(q:Int)).getD 0),.bool (((ic l nm 0).map λq=>(q:Int)).isSome)]) w=_;rw[(optG _).1,(optG _).2];rfl
theorem kX.lookp1 (h:kX w l A n O bd bp)(nm:ByteArray)(hn:nm.size<=281474976710656) :
  (Instr.lookup 81 (.map (some bp)) (.string nm) false).run Tryz.prog w=.ok (.int .i64 (GN (ic l nm 0))) w:=by
 have:=h.prc.look1 JG Tryz.underlying81 (yN nm hn);rw[this];show Result.ok (Value.int .i64 (((ic l nm 0).map λq=>(q:Int)).getD 0)) w=_;rw[(optG _).2];rfl
theorem kX.owner_at {w0 w:World}(h:kX w0 l A n O bd bp)(hb:Below w0.heap.size w0 w){p:Nat}(hp:p<n):∃b off,O=some ⟨b,off,none⟩/\b<w.heap.size/\w.cell? ⟨b,off+p,none⟩=some (.int .i64 (eQ l p)):=by
 have hl:p<(yQ l).length:=by rw[EB,<- h.len];exact hp
 obtain⟨b,off,e,hlt,hc⟩:=h.own (by omega);refine⟨b,off,e,Nat.lt_of_lt_of_le hlt hb.size,(hb.cell (p:=⟨b,off+p,none⟩) hlt).trans ?_⟩;rw[hc p hl,GM]
theorem EC (l:List Tr.Nd)(p:Nat)(h:l.length<=4000):(Lit.int .i64 (eQ l p)).wf=true:=by
 rcases pU l p with e |⟨q,e,h1,h2,_⟩
 ·rw[e];decide
 ·rw[e];exact WalkArith.wf_i64 (by omega)
end
end
namespace Tk
def pc:List UInt8->List UInt8
 | []=>[]
 |c :: t=>if gM c then c :: t.takeWhile gM else match t with
  | []=>[c]
  |d :: _=>if iI [c,d] then [c,d] else [c]
def bulk (ts:List Tok):Nat:=(ts.map λt=>t.s.length).sum
theorem jU.some {w:World}{A:Option Addr}{ts:List Tok}(h:jU w A ts)(h0:0<ts.length):∃b off,A=some ⟨b,off,none⟩/\b<w.heap.size:=by
 obtain⟨b,off,e,hb,_⟩:=h h0;exact⟨b,off,e,hb⟩
section
open Go.Shelf
structure Lh where
 k:Int
 n:Int
 p:Int
 s:List UInt8
def ED (w:World)(A:Option Addr)(ts:List Lh):Prop:=
 0<ts.length->∃b off,A=some ⟨b,off,none⟩/\b<w.heap.size/\∀j (hj:j<ts.length),w.cell? ⟨b,off+j*4,none⟩=some (.int .i64 ts[j].k)/\w.cell? ⟨b,off+j*4+1,none⟩=some (.int .i64 ts[j].n) /\
  w.cell? ⟨b,off+j*4+2,none⟩=some (.int .i64 ts[j].p)/\w.cell? ⟨b,off+j*4+3,none⟩=some (.string (bs ts[j].s))
theorem ED.below {w w':World}{A:Option Addr}{ts:List Lh}(h:ED w A ts)(hb:Below w.heap.size w w'):ED w' A ts:=λh0=>by
 obtain⟨b,off,e,hl,hc⟩:=h h0;refine⟨b,off,e,Nat.lt_of_lt_of_le hl hb.size,λj hj =>?_⟩;obtain⟨c0,c1,c2,c3⟩:=hc j hj;exact⟨(hb.cell (p:=⟨b,off+j*4,none⟩) hl).trans c0,(hb.cell (p:=⟨b,off+j*4+1,none⟩) hl).trans c1,(hb.cell (p:=⟨b,off+j*4+2,none⟩) hl).trans c2,(hb.cell (p:=⟨b,off+j*4+3,none⟩) hl).trans c3⟩
def sv (l:List (List UInt8)):List Value:=l.map λx=>Value.string (bs x)
end
end Tk
section
set_option maxHeartbeats 1500000
set_option maxRecDepth 100000
open Tr (Bx ag bt bu Ints aG au az)
theorem H_ {n:Nat}(h:n=0):((n:Int)==0)=true:=by subst h;rfl
theorem Ia {n:Nat}(h:n≠0):((n:Int)==0)=false:=beq_eq_false_iff_ne.2 (by omega)
section
variable {w:World} {l:List Tr.Nd} {A O:Option Addr} {n bd bp:Nat}
theorem mU (w:World)(A O:Option Addr)(n bd bp c co:Nat):Calls Tryz.prog 81 #[fJ A n c O co bd bp] w (au (decide (n=0)) w):=by
 unfold fJ;have hb0:=ag w (.cells #[.slice A n c,.slice O n co,.map (some bd),.map (some bp)] 83);have HB0:=hid hb0;by_cases e:n=0
 ·have hz:=H_ e;rw[decide_eq_true e];clear e;go_enter Tryz.func81,Tryz.ntmps81
  go_wp2
  go_ret
  exact⟨rfl,HB0.out⟩
 ·have hz:=Ia e;rw[decide_eq_false e];clear e;go_enter Tryz.func81,Tryz.ntmps81
  go_wp2
  go_ret
  exact⟨rfl,HB0.out⟩
theorem iC (h:kX w l A n O bd bp)(c co:Nat)(nm:ByteArray)(hn:nm.size<=281474976710656):Calls Tryz.prog 91 #[fJ A n c O co bd bp,.string nm] w (Tr.az (a_ (ic l nm 0)) w):=by
 unfold fJ;have hb0:=ag w (.cells #[.slice A n c,.slice O n co,.map (some bd),.map (some bp)] 83);have HB0:=hid hb0;have HL:=(h.below hb0).lookp nm hn;cases hp:ic l nm 0 with
 |none=>
  rw[hp]at HL;clear hp h hb0;go_enter Tryz.func91,Tryz.ntmps91
  go_wp2
  go_ret
  exact⟨rfl,HB0.out⟩
 |some q=>
  rw[hp]at HL;clear hp h hb0;go_enter Tryz.func91,Tryz.ntmps91
  go_wp2
  go_ret
  exact⟨rfl,HB0.out⟩
theorem jH (h:kX w l A n O bd bp)(c co:Nat)(p:Nat)(hp:p<n)(nm:ByteArray)(hn:nm.size<=281474976710656):Calls Tryz.prog 89 #[fJ A n c O co bd bp,.int .i64 (p:Int),.string nm] w (Tr.az (a_ (eO l p nm)) w):=by
 unfold fJ;have hb0:=ag w (.cells #[.slice A n c,.slice O n co,.map (some bd),.map (some bp)] 83);have HB0:=hid hb0;obtain⟨b,off,rfl,hlt,hc⟩:=h.owner_at (w:=w.alloc (.cells #[.slice A n c,.slice O n co,.map (some bd),.map (some bp)] 83)) hb0 hp;have hpz:(p:Int)<(n:Int):=by omega
 have how:=EC l p (by rw[<- h.len];exact h.few);have HL:=(h.below hb0).lookd (eQ l p) nm how hn;have HM:=(h.below hb0).lookd (-1) nm (by decide) hn;unfold eO;clear h hb0;by_cases e:eQ l p = -1
 ·rw[if_pos e];rw[e]at hc;clear HL how e HM;go_enter Tryz.func89,Tryz.ntmps89
  go_wp2
  go_ret
  exact⟨rfl,HB0.out⟩
 ·rw[if_neg e];have he:(eQ l p == -1)=false:=beq_eq_false_iff_ne.2 e;generalize eQ l p=ow at *
  cases hd:qo l ow nm 0 with
  |some q=>
   rw[hd]at HL;clear hd how e HM;go_enter Tryz.func89,Tryz.ntmps89
   go_wp2
   go_ret
   exact⟨rfl,HB0.out⟩
  |none=>
   rw[hd]at HL;cases hd2:qo l (-1) nm 0 with
   |some q=>
    rw[hd2]at HM;clear hd hd2 how e;go_enter Tryz.func89,Tryz.ntmps89
    go_wp2
    go_ret
    exact⟨rfl,HB0.out⟩
   |none=>
    rw[hd2]at HM;clear hd hd2 how e;go_enter Tryz.func89,Tryz.ntmps89
    go_wp2
    go_ret
    exact⟨rfl,HB0.out⟩
end
theorem eU {s:ByteArray}{t:Array UInt8}(h:s≠⟨t⟩):(s.toList==t.toList)=false:=beq_eq_false_iff_ne.2 λe=>h (by
 rw[ByteArray.toList_eq]at e
 cases s;simp_all)
theorem vD (s:ByteArray)(w:World):Calls Tryz.prog 155 #[.string s] w (Tr.az (vo s) w):=by
 by_cases h0:s=⟨#[43]⟩
 ·subst h0;go_enter Tryz.func155,Tryz.ntmps155
  go_wp2
  go_ret
  exact⟨rfl,Below.refl _ _⟩
 have q0:(s.toList==[43])=false:=eU h0;by_cases h1:s=⟨#[45]⟩
 ·subst h1;go_enter Tryz.func155,Tryz.ntmps155
  go_wp2
  go_ret
  exact⟨rfl,Below.refl _ _⟩
 have q1:(s.toList==[45])=false:=eU h1;by_cases h2:s=⟨#[42]⟩
 ·subst h2;go_enter Tryz.func155,Tryz.ntmps155
  go_wp2
  go_ret
  exact⟨rfl,Below.refl _ _⟩
 have q2:(s.toList==[42])=false:=eU h2;by_cases h3:s=⟨#[47]⟩
 ·subst h3;go_enter Tryz.func155,Tryz.ntmps155
  go_wp2
  go_ret
  exact⟨rfl,Below.refl _ _⟩
 have q3:(s.toList==[47])=false:=eU h3;by_cases h4:s=⟨#[37]⟩
 ·subst h4;go_enter Tryz.func155,Tryz.ntmps155
  go_wp2
  go_ret
  exact⟨rfl,Below.refl _ _⟩
 have q4:(s.toList==[37])=false:=eU h4;have e:vo s=2:=by unfold vo;rw[if_neg (by simp[h0,h1,h2,h3,h4])]
 rw[e];clear e h0 h1 h2 h3 h4;go_enter Tryz.func155,Tryz.ntmps155
 go_wp2
 go_ret
 exact⟨rfl,Below.refl _ _⟩
section
variable {w:World} {l:List Tr.Nd} {A O:Option Addr} {n bd bp:Nat}
theorem lV (h:kX w l A n O bd bp)(c co:Nat)(p k:Nat)(hp:p<n){ks:List Int}(hks:(ae l p).ks=(k:Int) :: ks)(hk:k<n):Calls Tryz.prog 218 #[fJ A n c O co bd bp,.int .i64 (p:Int)] w (aG (.string (bC l p)) w):=by
 unfold fJ;have hb0:=ag w (.cells #[.slice A n c,.slice O n co,.map (some bd),.map (some bp)] 83);have HB0:=hid hb0;have hpl:p<l.length:=by rw[<- h.len];exact hp
 have hkl:k<l.length:=by rw[<- h.len];exact hk
 have hkz:(k:Int)<(n:Int):=by omega
 have hpz:(p:Int)<(n:Int):=by omega
 obtain⟨bA,off,K,cK,rfl,hlt,x0,x1,x2,x3,x4,hI⟩:=dE h.nds hb0 p hpl;obtain⟨bB,off2,K2,cK2,e2,hlt2,y0,y1,y2,y3,y4,hI2⟩:=dE h.nds hb0 k hkl;cases e2;rw[<- aH hpl]at x4 hI;rw[<- aH hkl]at y3;have he:bC l p=(ae l k).tx:=by unfold bC;rw[nu hks]
 rw[he];rw[hks]at x4 hI;have hlen:((k:Int) :: ks).length=ks.length+1:=rfl;rw[hlen]at x4;obtain⟨bk,ok,rfl,hbk,hck⟩:=hI (by simp);have hc0:(w.alloc (.cells #[.slice (some ⟨bA,off,none⟩) n c,.slice O n co,.map (some bd),.map (some bp)] 83)).cell? ⟨bk,ok,none⟩=some (.int .i64 (k:Int)):=(hb0.cell (p:=⟨bk,ok,none⟩) hbk).trans (hck 0 (by simp));have hml:(0:Int)<((ks.length+1:Nat):Int):=by omega
 generalize ks.length+1=m at *
 generalize (ae l (k:Int)).tx=tx at *
 clear h hI2 y0 y1 y2 y4 x0 x1 x2 x3 hks hck hb0 hI he;go_enter Tryz.func218,Tryz.ntmps218
 go_wp2
 go_upto_region 1 with(fail)
 go_quiet (fail)
 go_wp2
 go_ret
 exact⟨rfl,Tk.below_drewN HB0.out _⟩
end
end
end Go.Proofs.YteecfjhjllajlaaGreatDoor
