/- PROVED: Db Dc. No more condition. -/
import Derived.Test.YteecfjhjllajlaaGreatDoorG31
namespace Go.Proofs.YteecfjhjllajlaaGreatDoor
section
open Go
open Tr (nth dA aL bE ay nI kw bi gN vX lh aX dG dO sI iY aA gF ig)
theorem Io {S:Int->Int->Prop}:∀ {ks:List Int},ks.Pairwise (· < ·)->ks.Pairwise S->∀a ∈ ks,∀b ∈ ks,a<b->S a b
 | [],_,_,a,ha,_,_,_=>by cases ha
 |k :: ks,h1,h2,a,ha,b,hb,hab=>by
  obtain⟨p1,p2⟩:=List.pairwise_cons.1 h1;obtain⟨q1,q2⟩:=List.pairwise_cons.1 h2;rcases List.mem_cons.1 ha with e |ha
  ·rcases List.mem_cons.1 hb with e2 |hb
   ·omega
   ·rw[e];exact q1 b hb
  ·rcases List.mem_cons.1 hb with e2 |hb
   ·have:=p1 a ha;omega
   ·exact Io p2 q2 a ha b hb hab
theorem Bu {ks:List Int}(h:bi ks 2 3 0=true):ks.Pairwise λa b=>¬(a=3/\b=2):=by
 unfold bi at h;rw[if_pos rfl,decide_eq_true_eq]at h;unfold lh vX at h;rw[<- List.take_append_drop (gN 2 ks) ks];have h2:∀x ∈ ks.drop (gN 2 ks),x=3:=λx hx=>by
  refine iV 3 (ks.drop (gN 2 ks)) x ?_;rw[List.take_of_length_le (by rw[List.length_drop];omega)];exact hx
 refine List.pairwise_append.2 ⟨?_,?_,?_⟩
 ·refine List.Pairwise.imp_of_mem (R:=λ_ _=>True) (λ{a b} ha _ _ h3 =>?_) (List.pairwise_of_forall (λ_ _=>trivial));have:=iV 2 ks a ha;omega
 ·refine List.Pairwise.imp_of_mem (R:=λ_ _=>True) (λ{a b} _ hb _ h3 =>?_) (List.pairwise_of_forall (λ_ _=>trivial));have:=h2 b hb;omega
 ·intro a ha b hb h3;have:=iV 2 ks a ha;omega
theorem jP.order {l:List Tr.Nd}{b:Nat->Nat}(h:jP l b){g q:Nat}(hg:g<l.length)(hq:q<l.length)(h2:(ae l g).kd=2)(h3:(ae l q).kd=3):g<q:=by
 have hr:l.length-1<l.length:=by have:=h.len;omega
 have hk:=(dJ h.sh hr).kid;rw[h.root]at hk;have h4:=List.pairwise_map.1 (show((ae l ((l.length-1:Nat):Int)).ks.map λk=>(ae l k).kd).Pairwise _ from Bu (show bi (eH l ((l.length-1:Nat):Int)) 2 3 0=true from hk));rcases Nat.lt_trichotomy g q with e |e |e
 ·exact e
 ·rw[e]at h2;omega
 ·exact absurd ⟨h3,h2⟩ (Io (h.asc hr) h4 _ (h.inRoot hq (Or.inr h3)) _ (h.inRoot hg (Or.inl h2)) (by omega))
section
variable (l:List Tr.Nd)
def Ki (nm:ByteArray)(q:Nat):Bool:=(decide ((ae l q).kd=2) || decide ((ae l q).kd=3))&&decide ((ae l q).tx=nm)
def dM (b:Bool):Int:=if b then 0 else 5
def mG (p:Nat)(want kids:Int):Int:=if (eO l p (ae l p).tx).isNone then 3 else if (want≠0/\jo l p≠want)\/¬(kids=0\/dU l (ae l p).ks kids=true) then 5 else 0
def p9 (p:Nat):Bool:=
 if (ae l p).kd=4\/(ae l p).kd=5 then decide (vJ l (eQ l p) 4 5 (ae l p).tx<(p:Int)) else decide (vJ l ((l.length-1:Nat):Int) 2 3 (ae l p).tx<(p:Int))
def eZ (p:Nat)(want:List Int)(answer:Int):Int:=
 if (ae l p).ks.length≠want.length+1\/((ae l p).tx≠⟨#[]⟩/\(answer=0\/jo l p≠answer)) then 5 else if ((ae l p).ks.tail.map λk=>aC l k.toNat)=want then 0 else 5
def su (p:Nat):Int:=
 if ((eO l p (bC l p)).isNone=true/\(ic l (bC l p) 0).isNone=true)\/((ae l p).tx≠⟨#[]⟩/\(eO l p (ae l p).tx).isNone=true) then 3
 else match eO l p (bC l p) with
  |none=>eZ l p (rP l (a_ (ic l (bC l p) 0))) (ae l (a_ (ic l (bC l p) 0))).n
  |some d=>if (ae l d).n≠4 then 5 else eZ l p [1] 1
def EQ (p:Nat):Int:=
 if (ae l p).ks=[] then dM (decide ((ae l (eQ l p)).n=0)) else dM (decide ((ae l (eQ l p)).n≠0)&&decide (aC l (dH l p 0).toNat=(ae l (eQ l p)).n))
def iT (p:Nat):Int:=
 if (ae l p).kd=2\/(ae l p).kd=3\/(ae l p).kd=4\/(ae l p).kd=5 then (if p9 l p then 4 else 0)
 else if (ae l p).kd=22 then mG l p 0 0
 else if (ae l p).kd=23\/(ae l p).kd=8\/(ae l p).kd=17 then mG l p 3 1
 else if (ae l p).kd=24 then mG l p 3 0
 else if (ae l p).kd=9\/(ae l p).kd=16 then mG l p 1 0
 else if (ae l p).kd=25 then (if (ic l (ae l p).tx 0).isNone then 3 else dM (pR l (a_ (ic l (ae l p).tx 0))))
 else if (ae l p).kd=26\/(ae l p).kd=27 then dM (kQ l p)
 else if (ae l p).kd=7 then mG l p (aC l (dH l p 0).toNat) 0
 else if (ae l p).kd=10 then dM (decide (aC l (dH l p 1).toNat=1))
 else if (ae l p).kd=15 then dM (decide (aC l (dH l p 0).toNat=1))
 else if (ae l p).kd=11\/(ae l p).kd=12 then dM (decide (aC l (dH l p 0).toNat=2))
 else if (ae l p).kd=13 then su l p
 else if (ae l p).kd=14 then EQ l p
 else 0
end
theorem jP.of23 {l:List Tr.Nd}{b:Nat->Nat}(h:jP l b)(nm:ByteArray):vJ l ((l.length-1:Nat):Int) 2 3 nm=a_ (iH (Ki l nm) 0 l.length):=by
 have hl:=h.len;refine oH (h.asc (by omega)) (λk hk =>?_) (λj hj =>?_)
 ·obtain⟨m,e,hm⟩:=h.nat (p:=l.length-1) (by omega) k hk;exact⟨m,e,by omega⟩
 ·unfold Ki EZ;simp only[Bool.and_eq_true,decide_eq_true_eq,Bool.or_eq_true];constructor
  ·rintro⟨h1,h4⟩;exact⟨h.inRoot hj h1,h1,h4⟩
  ·rintro⟨h1,h2,h4⟩;exact⟨h2,h4⟩
theorem jP.twice {l:List Tr.Nd}{b:Nat->Nat}(h:jP l b){p:Nat}(hp:p<l.length)(hk:(ae l p).kd=2\/(ae l p).kd=3\/(ae l p).kd=4\/(ae l p).kd=5):p9 l p=nA l p:=by
 unfold p9 nA jy;by_cases h45:(ae l p).kd=4\/(ae l p).kd=5
 ·rw[if_pos h45,if_pos (by simp only[Bool.or_eq_true,decide_eq_true_eq];exact Or.inr h45)];obtain⟨o,ho,h3,_,how⟩:=h.inProc hp h45;rw[how,h.of45 ho h3];have hP:wU l (o:Int) (ae l p).tx p=true:=by
   unfold wU jy;rcases h45 with e |e<;>simp[e,how]
  obtain⟨d,hd,hle⟩:=j_ (P:=wU l (o:Int) (ae l p).tx) (p:=0) (n:=l.length) (Nat.zero_le _) hp hP;have hd2:qo l (o:Int) (ae l p).tx 0=some d:=hd;rw[hd2];show decide ((d:Int)<(p:Int)) = !decide (some d=some p);by_cases e:d=p
  ·subst e;simp
  ·have:d<p:=by omega
   simp[e,this]
 ·rw[if_neg h45,h.of23];have h23:(ae l p).kd=2\/(ae l p).kd=3:=by omega
  have hP:Ki l (ae l p).tx p=true:=by
   unfold Ki;rcases h23 with e |e<;>simp[e]
  obtain⟨r,hr,hrle⟩:=j_ (P:=Ki l (ae l p).tx) (p:=0) (n:=l.length) (Nat.zero_le _) hp hP;obtain⟨_,hrl,hrk,hrm⟩:=dQ hr;rw[hr];show decide ((r:Int)<(p:Int))=_;have hglb:∀j,j<l.length->wU l (-1) (ae l p).tx j=true->(ae l j).kd=2/\(ae l j).tx=(ae l p).tx:=λj hj hd=>by
   unfold wU jy at hd;simp only[Bool.and_eq_true,Bool.or_eq_true,decide_eq_true_eq]at hd;obtain⟨h1,h2,h4⟩:=hd;rcases h1 with e |e
   ·exact⟨e,h4⟩
   ·obtain⟨q,_,_,_,hw⟩:=h.inProc hj e;omega
  have hdcb:∀j,j<l.length->(ae l j).kd=2->(ae l j).tx=(ae l p).tx->wU l (-1) (ae l p).tx j=true:=λj hj h2 h4=>by
   unfold wU jy;simp[h2,h4,oI hj h2]
  have hgl:∀j,Ki l (ae l p).tx j=true↔((ae l j).kd=2\/(ae l j).kd=3)/\(ae l j).tx=(ae l p).tx:=λj=>by
   unfold Ki;simp only[Bool.and_eq_true,Bool.or_eq_true,decide_eq_true_eq]
  rcases h23 with e2 |e3
  ·rw[if_pos (by simp[e2]),oI hp e2];obtain⟨d,hd,hdle⟩:=j_ (P:=wU l (-1) (ae l p).tx) (p:=0) (n:=l.length) (Nat.zero_le _) hp (hdcb p hp e2 rfl);have hd2:qo l (-1) (ae l p).tx 0=some d:=hd;obtain⟨_,hdl,hdk,hdm⟩:=dQ hd;rw[hd2];by_cases e:d=p
   ·subst e;have:¬r<d:=λhlt=>by
     obtain⟨h5,h6⟩:=(hgl r).1 hrk;rcases h5 with h5 |h5
     ·have:=hdm r (Nat.zero_le _) hlt;rw[hdcb r hrl h5 h6]at this;cases this
     ·have:=h.order hp hrl e2 h5;omega
    simp[this]
   ·have hdp:d<p:=by omega
    obtain⟨h5,h6⟩:=hglb d hdl hdk;have:r<=d:=by
     rcases Nat.lt_or_ge d r with h7 |h7
     ·have:=hrm d (Nat.zero_le _) h7;rw[(hgl d).2 ⟨Or.inl h5,h6⟩]at this;cases this
     ·exact h7
    have:r<p:=by omega
    simp[e,this]
  ·rw[if_neg (by simp[e3]),if_pos e3];have hprb:∀j,Ev l (ae l p).tx j=true↔(ae l j).kd=3/\(ae l j).tx=(ae l p).tx:=λj=>by
    unfold Ev;simp only[Bool.and_eq_true,decide_eq_true_eq]
   obtain⟨q,hq,hqle⟩:=j_ (P:=Ev l (ae l p).tx) (p:=0) (n:=l.length) (Nat.zero_le _) hp ((hprb p).2 ⟨e3,rfl⟩);have hq2:ic l (ae l p).tx 0=some q:=hq;obtain⟨_,hql,hqk,hqm⟩:=dQ hq;rw[hq2];cases hd:qo l (-1) (ae l p).tx 0 with
   |some d=>
    obtain⟨_,hdl,hdk,hdm⟩:=dQ hd;obtain⟨h5,h6⟩:=hglb d hdl hdk;have h8:=h.order hdl hp h5 e3;have:r<=d:=by
     rcases Nat.lt_or_ge d r with h7 |h7
     ·have:=hrm d (Nat.zero_le _) h7;rw[(hgl d).2 ⟨Or.inl h5,h6⟩]at this;cases this
     ·exact h7
    have:r<p:=by omega
    simp[this]
   |none=>
    by_cases e:q=p
    ·subst e;have:¬r<q:=λhlt=>by
      obtain⟨h5,h6⟩:=(hgl r).1 hrk;rcases h5 with h5 |h5
      ·have:=pQ hd r (Nat.zero_le _) hrl;rw[hdcb r hrl h5 h6]at this;cases this
      ·have:=hqm r (Nat.zero_le _) hlt;rw[(hprb r).2 ⟨h5,h6⟩]at this;cases this
     simp[this]
    ·have:r<=q:=by
      rcases Nat.lt_or_ge q r with h7 |h7
      ·have:=hrm q (Nat.zero_le _) h7;obtain⟨h5,h6⟩:=(hprb q).1 hqk;rw[(hgl q).2 ⟨Or.inr h5,h6⟩]at this;cases this
      ·exact h7
     have:r<p:=by omega
     simp[e,this]
theorem ER {l:List Tr.Nd}(hs:kw l=true){p d:Nat}{nm:ByteArray}(h:eO l p nm=some d):1<=(ae l d).n:=by
 obtain⟨h1,h2,_⟩:=rU h;have h3:=(dJ hs h1).num;unfold jy at h2;simp only[Bool.or_eq_true,decide_eq_true_eq]at h2;unfold aX at h3;rw[if_pos h2]at h3;simp only[Bool.and_eq_true,decide_eq_true_eq]at h3;exact h3.1
theorem Ac {l:List Tr.Nd}(hs:kw l=true){p:Nat}(h:(eO l p (ae l p).tx).isNone=false):1<=jo l p:=by
 unfold jo;cases e:eO l p (ae l p).tx with
 |none=>rw[e]at h;cases h
 |some d=>exact ER hs e
theorem ES {l:List Tr.Nd}{p:Nat}(h:iR l p=0):nA l p=false/\eT l p=false/\f_ l p=false:=by
 unfold iR at h;cases h3:nA l p with
 |true=>rw[h3]at h;simp at h
 |false=>
  cases h4:eT l p with
  |true=>rw[h3,h4]at h;simp at h
  |false=>
   cases h5:f_ l p with
   |true=>rw[h3,h4,h5]at h;simp at h
   |false=>exact⟨rfl,rfl,rfl⟩
theorem G9 {l:List Tr.Nd}(hs:kw l=true){p:Nat}(he:aL (ae l p).kd=true)(h:iR l p=0):1<=aC l p:=by
 unfold aL at he;simp only[Bool.and_eq_true,decide_eq_true_eq]at he;have hu:=(ES h).2.1;unfold aC;by_cases c0:(ae l p).kd=20\/(ae l p).kd=23\/(ae l p).kd=24
 ·rw[if_pos c0];decide
 rw[if_neg c0];by_cases c1:(ae l p).kd=21
 ·rw[if_pos c1];decide
 rw[if_neg c1];by_cases c2:(ae l p).kd=22
 ·rw[if_pos c2];unfold eT at hu;rw[if_pos (Or.inl c2)]at hu;exact Ac hs hu
 rw[if_neg c2];by_cases c3:(ae l p).kd=25
 ·rw[if_pos c3];decide
 rw[if_neg c3,if_pos (by omega)];unfold vo;split<;>decide
end
section
open Go
open Tr (nth dA aL bE ay nI kw bi gN vX lh aX dG dO sI iY aA gF ig)
theorem sw {l:List Tr.Nd}{p:Nat}(h:nA l p=false):iR l p=if eT l p then 3 else if f_ l p then 5 else 0:=by unfold iR;rw[h];rfl
theorem xS {l:List Tr.Nd}{p:Nat}(ht:nA l p=false)(want kids:Int)(h1:eT l p=(eO l p (ae l p).tx).isNone)
  (h2:(eO l p (ae l p).tx).isNone=false->(f_ l p=true↔((want≠0/\jo l p≠want)\/¬(kids=0\/dU l (ae l p).ks kids=true)))):mG l p want kids=iR l p:=by
 rw[sw ht];unfold mG;rw[h1];cases e:(eO l p (ae l p).tx).isNone with
 |true=>rfl
 |false=>
  have h3:=h2 e;cases e2:f_ l p with
  |true=>rw[if_neg (by decide),if_pos (h3.1 e2)];rfl
  |false=>rw[if_neg (by decide),if_neg (λh4=>by have:=h3.2 h4;rw[e2]at this;cases this)];rfl
theorem oJ {l:List Tr.Nd}{p:Nat}(ht:nA l p=false)(B:Bool)(h1:eT l p=false)(h2:f_ l p = !B):dM B=iR l p:=by
 rw[sw ht,h1,h2];cases B<;>rfl
theorem Ad (B:Bool):dM B=if (false=true) then 3 else if (!B)=true then 5 else 0:=by cases B<;>rfl
theorem EU {l:List Tr.Nd}{p:Nat}{want:List Int}{answer:Int}{k:Int}{ks:List Int}(hks:(ae l p).ks=k :: ks)(hv:(ae l p).tx≠⟨#[]⟩->1<=jo l p) :
  eZ l p want answer=dM (decide (((ae l p).ks.tail.map λk=>aC l k.toNat)=want)&&(decide ((ae l p).tx=⟨#[]⟩) || decide (jo l p=answer))):=by
 unfold eZ;by_cases e1:((ae l p).ks.tail.map λk=>aC l k.toNat)=want
 ·have hl:(ae l p).ks.length=want.length+1:=by rw[<- e1,hks];simp
  rw[if_pos e1,decide_eq_true e1];by_cases e2:(ae l p).tx=⟨#[]⟩
  ·rw[if_neg (by rintro(h |h);exact h hl;exact h.1 e2),decide_eq_true e2];rfl
  ·have:=hv e2;rw[decide_eq_false e2];by_cases e3:jo l p=answer
   ·rw[if_neg (by rintro(h |h);exact h hl;rcases h.2 with h |h;omega;exact h e3),decide_eq_true e3];rfl
   ·rw[if_pos (Or.inr ⟨e2,Or.inr e3⟩),decide_eq_false e3];rfl
 ·rw[if_neg e1,decide_eq_false e1];split<;>rfl
theorem jP.wrong {l:List Tr.Nd}{b:Nat->Nat}(h:jP l b){p:Nat}(hp:p<l.length)(hpre:∀j,j<p->iR l j=0):iT l p=iR l p:=by
 have hF:=h.ndf hp;have hk:=(dJ h.sh hp).kid;have hlo:=(dJ h.sh hp).lo;have hhi:=(dJ h.sh hp).hi;unfold iT;by_cases c0:(ae l p).kd=2\/(ae l p).kd=3\/(ae l p).kd=4\/(ae l p).kd=5
 ·have hu:eT l p=false:=by unfold eT;rw[if_neg (by omega),if_neg (by omega),if_neg (by omega)]
  have hm:f_ l p=false:=by unfold f_;rw[if_neg (by omega),if_neg (by omega),if_neg (by omega),if_neg (by omega),if_neg (by omega),if_neg (by omega),if_neg (by omega),if_neg (by omega),if_neg (by omega),if_neg (by omega)]
  unfold iR;rw[if_pos c0,h.twice hp c0,hu,hm];cases nA l p<;>rfl
 rw[if_neg c0];have ht:nA l p=false:=by
  unfold nA jy;rw[if_neg (by simp only[Bool.or_eq_true,decide_eq_true_eq];omega),if_neg (by omega)]
 by_cases c1:(ae l p).kd=22
 ·rw[if_pos c1];refine xS ht 0 0 (by unfold eT;rw[if_pos (Or.inl c1)]) (λ_ =>?_);have hm:f_ l p=false:=by unfold f_;rw[if_neg (by omega),if_neg (by omega),if_neg (by omega),if_neg (by omega),if_neg (by omega),if_neg (by omega),if_neg (by omega),if_neg (by omega),if_neg (by omega),if_neg (by omega)]
  rw[hm];simp
 rw[if_neg c1];by_cases c2:(ae l p).kd=23\/(ae l p).kd=8\/(ae l p).kd=17
 ·rw[if_pos c2];refine xS ht 3 1 (by unfold eT;rw[if_pos (by omega)]) (λ_ =>?_);unfold f_;rw[if_pos (by omega)];simp
 rw[if_neg c2];by_cases c3:(ae l p).kd=24
 ·rw[if_pos c3];have hnil:(ae l p).ks=[]:=by
   rw[c3]at hk;have:eH l (p:Int)=[]:=by simpa [ay]using hk
   exact List.map_eq_nil_iff.1 this
  refine xS ht 3 0 (by unfold eT;rw[if_pos (by omega)]) (λ_ =>?_);unfold f_;rw[if_pos (by omega),hnil];simp[dU]
 rw[if_neg c3];by_cases c4:(ae l p).kd=9\/(ae l p).kd=16
 ·rw[if_pos c4];refine xS ht 1 0 (by unfold eT;rw[if_pos (by omega)]) (λ_ =>?_);unfold f_;rw[if_neg (by omega),if_neg (by omega),if_neg (by omega),if_neg (by omega),if_pos c4];simp
 rw[if_neg c4];by_cases c5:(ae l p).kd=25
 ·rw[if_pos c5,sw ht];have hu:eT l p=(ic l (ae l p).tx 0).isNone:=by unfold eT;rw[if_neg (by omega),if_pos c5]
  have hm:f_ l p = !(pR l (a_ (ic l (ae l p).tx 0))):=by unfold f_;rw[if_neg (by omega),if_pos c5]
  rw[hu,hm];cases(ic l (ae l p).tx 0).isNone with
  |true=>rfl
  |false=>cases pR l (a_ (ic l (ae l p).tx 0))<;>rfl
 rw[if_neg c5];by_cases c6:(ae l p).kd=26\/(ae l p).kd=27
 ·rw[if_pos c6];exact oJ ht _ (by unfold eT;rw[if_neg (by omega),if_neg (by omega),if_neg (by omega)]) (by unfold f_;rw[if_neg (by omega),if_neg (by omega),if_pos c6])
 rw[if_neg c6];by_cases c7:(ae l p).kd=7
 ·rw[if_pos c7];obtain⟨k,ks,hks⟩:=hF.one (Or.inl c7);have hk0:dH l p 0=k:=by unfold dH;rw[hks];rfl
  obtain⟨m,rfl,hm⟩:=h.nat hp k (by rw[hks];simp);have he:aL (ae l m).kd=true:=by
   rw[c7]at hk;simp[ay]at hk;refine List.all_eq_true.1 hk.2 _ (iq (k:=(m:Int)) (by rw[hks];simp))
  have hty:=G9 h.sh he (hpre m hm);refine xS ht _ 0 (by unfold eT;rw[if_pos (by omega)]) (λ_ =>?_);unfold f_;rw[if_neg (by omega),if_neg (by omega),if_neg (by omega),if_pos c7,hk0];simp;intro _;omega
 rw[if_neg c7];by_cases c8:(ae l p).kd=10
 ·rw[if_pos c8];exact oJ ht _ (by unfold eT;rw[if_neg (by omega),if_neg (by omega),if_neg (by omega)]) (by unfold f_;rw[if_neg (by omega),if_neg (by omega),if_neg (by omega),if_neg (by omega),if_neg (by omega),if_pos c8])
 rw[if_neg c8];by_cases c9:(ae l p).kd=15
 ·rw[if_pos c9];exact oJ ht _ (by unfold eT;rw[if_neg (by omega),if_neg (by omega),if_neg (by omega)]) (by unfold f_;rw[if_neg (by omega),if_neg (by omega),if_neg (by omega),if_neg (by omega),if_neg (by omega),if_neg (by omega),if_pos c9])
 rw[if_neg c9];by_cases ca:(ae l p).kd=11\/(ae l p).kd=12
 ·rw[if_pos ca];exact oJ ht _ (by unfold eT;rw[if_neg (by omega),if_neg (by omega),if_neg (by omega)]) (by unfold f_;rw[if_neg (by omega),if_neg (by omega),if_neg (by omega),if_neg (by omega),if_neg (by omega),if_neg (by omega),if_neg (by omega),if_pos ca])
 rw[if_neg ca];by_cases cb:(ae l p).kd=13
 ·rw[if_pos cb,sw ht];obtain⟨k,ks,hks⟩:=hF.one (by omega);have hu:eT l p=(((eO l p (bC l p)).isNone&&(ic l (bC l p) 0).isNone) || (!decide ((ae l p).tx=⟨#[]⟩)&&(eO l p (ae l p).tx).isNone)):=by
   unfold eT;rw[if_neg (by omega),if_neg (by omega),if_pos cb]
  have hm:f_ l p = !(yP l p):=by
   unfold f_;rw[if_neg (by omega),if_neg (by omega),if_neg (by omega),if_neg (by omega),if_neg (by omega),if_neg (by omega),if_neg (by omega),if_neg (by omega),if_pos cb]
  unfold su;by_cases cu:((eO l p (bC l p)).isNone=true/\(ic l (bC l p) 0).isNone=true)\/((ae l p).tx≠⟨#[]⟩/\(eO l p (ae l p).tx).isNone=true)
  ·have:eT l p=true:=by
    rw[hu];simp only[Bool.or_eq_true,Bool.and_eq_true,Bool.not_eq_true',decide_eq_false_iff_not];exact cu
   rw[if_pos cu,this];rfl
  ·have hun:eT l p=false:=by
    rw[hu,Bool.eq_false_iff];intro h2;simp only[Bool.or_eq_true,Bool.and_eq_true,Bool.not_eq_true',decide_eq_false_iff_not]at h2;exact cu h2
   have hv:(ae l p).tx≠⟨#[]⟩->1<=jo l p:=λh2=>by
    refine Ac h.sh ?_;cases e:(eO l p (ae l p).tx).isNone with
    |true=>exact absurd (Or.inr ⟨h2,e⟩) cu
    |false=>rfl
   rw[if_neg cu,hun,hm];unfold yP rQ;cases e:eO l p (bC l p) with
   |none=>
    show eZ l p _ _=_;rw[EU hks hv];simp only[Bool.true_and];exact Ad _
   |some d=>
    show(if (ae l d).n≠4 then 5 else eZ l p [1] 1)=_;by_cases e4:(ae l d).n=4
    ·rw[if_neg (λh2=>h2 e4),EU hks hv];simp only[decide_eq_true e4,Bool.true_and];exact Ad _
    ·rw[if_pos e4];simp[e4]
 rw[if_neg cb];by_cases cc:(ae l p).kd=14
 ·rw[if_pos cc];have hu:eT l p=false:=by unfold eT;rw[if_neg (by omega),if_neg (by omega),if_neg (by omega)]
  have hm:f_ l p = !(rR l p):=by
   unfold f_;rw[if_neg (by omega),if_neg (by omega),if_neg (by omega),if_neg (by omega),if_neg (by omega),if_neg (by omega),if_neg (by omega),if_neg (by omega),if_neg (by omega),if_pos cc]
  have:EQ l p=dM (rR l p):=by
   unfold EQ rR;by_cases e1:(ae l p).ks=[]
   ·rw[if_pos e1,if_pos (Or.inl e1),decide_eq_true e1,Bool.true_and]
   ·rw[if_neg e1];by_cases e2:(ae l (eQ l p)).n=0
    ·rw[if_pos (Or.inr e2),decide_eq_false e1,decide_eq_false (λh2=>h2 e2)];rfl
    ·rw[if_neg (by rintro(h2 |h2);exact e1 h2;exact e2 h2),decide_eq_true e2,Bool.true_and]
  rw[this];exact oJ ht _ hu hm
 rw[if_neg cc];have hu:eT l p=false:=by unfold eT;rw[if_neg (by omega),if_neg (by omega),if_neg (by omega)]
 have hm:f_ l p=false:=by unfold f_;rw[if_neg (by omega),if_neg (by omega),if_neg (by omega),if_neg (by omega),if_neg (by omega),if_neg (by omega),if_neg (by omega),if_neg (by omega),if_neg (by omega),if_neg (by omega)]
 rw[sw ht,hu,hm];rfl
end
end Go.Proofs.YteecfjhjllajlaaGreatDoor
