/- PROVED here: parts TyDb TyDc of the claim. No condition but those in each theorem's own head. -/
import Derived.Test.YtignojhijmamhaaGreatJ36
namespace Go.Proofs.YtignojhijmamhaaGreat.Ty
section
open Go
open Tr (nth stmB expB allB kidB ndB shB risB run1 ri1 ri2 numB txB idB sgB StU kidsAt Snd stK)
theorem pw_lt {S:Int→Int→Prop}:∀ {ks:List Int},ks.Pairwise (· < ·)→ks.Pairwise S→∀a ∈ ks,∀b ∈ ks,a<b→S a b
 | [],_,_,a,ha,_,_,_=>by cases ha
 |k :: ks,h1,h2,a,ha,b,hb,hab=>by
  obtain⟨p1,p2⟩:=List.pairwise_cons.1 h1
  obtain⟨q1,q2⟩:=List.pairwise_cons.1 h2
  rcases List.mem_cons.1 ha with e |ha
  ·rcases List.mem_cons.1 hb with e2 |hb
   ·omega
   ·rw[e];exact q1 b hb
  ·rcases List.mem_cons.1 hb with e2 |hb
   ·have:=p1 a ha;omega
   ·exact pw_lt p2 q2 a ha b hb hab
theorem ris_order {ks:List Int}(h:risB ks 2 3 0=true):ks.Pairwise fun a b=>¬(a=3∧b=2):=by
 unfold risB at h
 rw[if_pos rfl,decide_eq_true_eq]at h
 unfold ri2 ri1 at h
 rw[← List.take_append_drop (run1 2 ks) ks]
 have h2:∀x ∈ ks.drop (run1 2 ks),x=3:=fun x hx=>by
  refine run1_take 3 (ks.drop (run1 2 ks)) x ?_
  rw[List.take_of_length_le (by rw[List.length_drop];omega)]
  exact hx
 refine List.pairwise_append.2 ⟨?_,?_,?_⟩
 ·refine List.Pairwise.imp_of_mem (R:=fun _ _=>True) (fun {a b} ha _ _ h3 =>?_) (List.pairwise_of_forall (fun _ _=>trivial))
  have:=run1_take 2 ks a ha
  omega
 ·refine List.Pairwise.imp_of_mem (R:=fun _ _=>True) (fun {a b} _ hb _ h3 =>?_) (List.pairwise_of_forall (fun _ _=>trivial))
  have:=h2 b hb
  omega
 ·intro a ha b hb h3
  have:=run1_take 2 ks a ha
  omega
theorem RtN.order {l:List Tr.Nd}{b:Nat→Nat}(h:RtN l b){g q:Nat}(hg:g<l.length)(hq:q<l.length)(h2:(ndA l g).kd=2)(h3:(ndA l q).kd=3):g<q:=by
 have hr:l.length-1<l.length:=by have:=h.len;omega
 have hk:=(nd_ok h.sh hr).kid
 rw[h.root]at hk
 have h4:=List.pairwise_map.1 (show((ndA l ((l.length-1:Nat):Int)).ks.map fun k=>(ndA l k).kd).Pairwise _ from ris_order (show risB (kdsA l ((l.length-1:Nat):Int)) 2 3 0=true from hk))
 rcases Nat.lt_trichotomy g q with e |e |e
 ·exact e
 ·rw[e]at h2;omega
 ·exact absurd ⟨h3,h2⟩ (pw_lt (h.asc hr) h4 _ (h.inRoot hq (Or.inr h3)) _ (h.inRoot hg (Or.inl h2)) (by omega))
section
variable (l:List Tr.Nd)
def glB (nm:ByteArray)(q:Nat):Bool:=(decide ((ndA l q).kd=2) || decide ((ndA l q).kd=3))&&decide ((ndA l q).tx=nm)
def toldZ (b:Bool):Int:=if b then 0 else 5
def nmA (p:Nat)(want kids:Int):Int:=if (dnA l p (ndA l p).tx).isNone then 3 else if (want≠0∧vrT l p≠want)∨¬(kids=0∨areB l (ndA l p).ks kids=true) then 5 else 0
def twiA (p:Nat):Bool:=
 if (ndA l p).kd=4∨(ndA l p).kd=5 then decide (ofA l (owA l p) 4 5 (ndA l p).tx<(p:Int)) else decide (ofA l ((l.length-1:Nat):Int) 2 3 (ndA l p).tx<(p:Int))
def resA (p:Nat)(want:List Int)(answer:Int):Int:=
 if (ndA l p).ks.length≠want.length+1∨((ndA l p).tx≠⟨#[]⟩∧(answer=0∨vrT l p≠answer)) then 5 else if ((ndA l p).ks.tail.map fun k=>typA l k.toNat)=want then 0 else 5
def clA (p:Nat):Int:=
 if ((dnA l p (calN l p)).isNone=true∧(prF l (calN l p) 0).isNone=true)∨((ndA l p).tx≠⟨#[]⟩∧(dnA l p (ndA l p).tx).isNone=true) then 3
 else match dnA l p (calN l p) with
  |none=>resA l p (sgP l (optZ (prF l (calN l p) 0))) (ndA l (optZ (prF l (calN l p) 0))).n
  |some d=>if (ndA l d).n≠4 then 5 else resA l p [1] 1
def retA (p:Nat):Int:=
 if (ndA l p).ks=[] then toldZ (decide ((ndA l (owA l p)).n=0)) else toldZ (decide ((ndA l (owA l p)).n≠0)&&decide (typA l (kidA l p 0).toNat=(ndA l (owA l p)).n))
def wrA (p:Nat):Int:=
 if (ndA l p).kd=2∨(ndA l p).kd=3∨(ndA l p).kd=4∨(ndA l p).kd=5 then (if twiA l p then 4 else 0)
 else if (ndA l p).kd=22 then nmA l p 0 0
 else if (ndA l p).kd=23∨(ndA l p).kd=8∨(ndA l p).kd=17 then nmA l p 3 1
 else if (ndA l p).kd=24 then nmA l p 3 0
 else if (ndA l p).kd=9∨(ndA l p).kd=16 then nmA l p 1 0
 else if (ndA l p).kd=25 then (if (prF l (ndA l p).tx 0).isNone then 3 else toldZ (plnB l (optZ (prF l (ndA l p).tx 0))))
 else if (ndA l p).kd=26∨(ndA l p).kd=27 then toldZ (fitB l p)
 else if (ndA l p).kd=7 then nmA l p (typA l (kidA l p 0).toNat) 0
 else if (ndA l p).kd=10 then toldZ (decide (typA l (kidA l p 1).toNat=1))
 else if (ndA l p).kd=15 then toldZ (decide (typA l (kidA l p 0).toNat=1))
 else if (ndA l p).kd=11∨(ndA l p).kd=12 then toldZ (decide (typA l (kidA l p 0).toNat=2))
 else if (ndA l p).kd=13 then clA l p
 else if (ndA l p).kd=14 then retA l p
 else 0
end
theorem RtN.of23 {l:List Tr.Nd}{b:Nat→Nat}(h:RtN l b)(nm:ByteArray):ofA l ((l.length-1:Nat):Int) 2 3 nm=optZ (fstA (glB l nm) 0 l.length):=by
 have hl:=h.len
 refine find_fst (h.asc (by omega)) (fun k hk =>?_) (fun j hj =>?_)
 ·obtain⟨m,e,hm⟩:=h.nat (p:=l.length-1) (by omega) k hk
  exact⟨m,e,by omega⟩
 ·unfold glB ofP
  simp only[Bool.and_eq_true,decide_eq_true_eq,Bool.or_eq_true]
  constructor
  ·rintro⟨h1,h4⟩
   exact⟨h.inRoot hj h1,h1,h4⟩
  ·rintro⟨h1,h2,h4⟩
   exact⟨h2,h4⟩
theorem RtN.twice {l:List Tr.Nd}{b:Nat→Nat}(h:RtN l b){p:Nat}(hp:p<l.length)(hk:(ndA l p).kd=2∨(ndA l p).kd=3∨(ndA l p).kd=4∨(ndA l p).kd=5):twiA l p=takB l p:=by
 unfold twiA takB decB
 by_cases h45:(ndA l p).kd=4∨(ndA l p).kd=5
 ·rw[if_pos h45,if_pos (by simp only[Bool.or_eq_true,decide_eq_true_eq];exact Or.inr h45)]
  obtain⟨o,ho,h3,_,how⟩:=h.inProc hp h45
  rw[how,h.of45 ho h3]
  have hP:dcB l (o:Int) (ndA l p).tx p=true:=by
   unfold dcB decB
   rcases h45 with e |e<;>simp[e,how]
  obtain⟨d,hd,hle⟩:=fstA_mem (P:=dcB l (o:Int) (ndA l p).tx) (p:=0) (n:=l.length) (Nat.zero_le _) hp hP
  have hd2:dcF l (o:Int) (ndA l p).tx 0=some d:=hd
  rw[hd2]
  show decide ((d:Int)<(p:Int)) = !decide (some d=some p)
  by_cases e:d=p
  ·subst e;simp
  ·have:d<p:=by omega
   simp[e,this]
 ·rw[if_neg h45,h.of23]
  have h23:(ndA l p).kd=2∨(ndA l p).kd=3:=by omega
  have hP:glB l (ndA l p).tx p=true:=by
   unfold glB
   rcases h23 with e |e<;>simp[e]
  obtain⟨r,hr,hrle⟩:=fstA_mem (P:=glB l (ndA l p).tx) (p:=0) (n:=l.length) (Nat.zero_le _) hp hP
  obtain⟨_,hrl,hrk,hrm⟩:=fstA_some hr
  rw[hr]
  show decide ((r:Int)<(p:Int))=_
  have hglb:∀j,j<l.length→dcB l (-1) (ndA l p).tx j=true→(ndA l j).kd=2∧(ndA l j).tx=(ndA l p).tx:=fun j hj hd=>by
   unfold dcB decB at hd
   simp only[Bool.and_eq_true,Bool.or_eq_true,decide_eq_true_eq]at hd
   obtain⟨h1,h2,h4⟩:=hd
   rcases h1 with e |e
   ·exact⟨e,h4⟩
   ·obtain⟨q,_,_,_,hw⟩:=h.inProc hj e
    omega
  have hdcb:∀j,j<l.length→(ndA l j).kd=2→(ndA l j).tx=(ndA l p).tx→dcB l (-1) (ndA l p).tx j=true:=fun j hj h2 h4=>by
   unfold dcB decB
   simp[h2,h4,owA_glob hj h2]
  have hgl:∀j,glB l (ndA l p).tx j=true↔((ndA l j).kd=2∨(ndA l j).kd=3)∧(ndA l j).tx=(ndA l p).tx:=fun j=>by
   unfold glB
   simp only[Bool.and_eq_true,Bool.or_eq_true,decide_eq_true_eq]
  rcases h23 with e2 |e3
  ·rw[if_pos (by simp[e2]),owA_glob hp e2]
   obtain⟨d,hd,hdle⟩:=fstA_mem (P:=dcB l (-1) (ndA l p).tx) (p:=0) (n:=l.length) (Nat.zero_le _) hp (hdcb p hp e2 rfl)
   have hd2:dcF l (-1) (ndA l p).tx 0=some d:=hd
   obtain⟨_,hdl,hdk,hdm⟩:=fstA_some hd
   rw[hd2]
   by_cases e:d=p
   ·subst e
    have:¬r<d:=fun hlt=>by
     obtain⟨h5,h6⟩:=(hgl r).1 hrk
     rcases h5 with h5 |h5
     ·have:=hdm r (Nat.zero_le _) hlt
      rw[hdcb r hrl h5 h6]at this
      cases this
     ·have:=h.order hp hrl e2 h5
      omega
    simp[this]
   ·have hdp:d<p:=by omega
    obtain⟨h5,h6⟩:=hglb d hdl hdk
    have:r≤d:=by
     rcases Nat.lt_or_ge d r with h7 |h7
     ·have:=hrm d (Nat.zero_le _) h7
      rw[(hgl d).2 ⟨Or.inl h5,h6⟩]at this
      cases this
     ·exact h7
    have:r<p:=by omega
    simp[e,this]
  ·rw[if_neg (by simp[e3]),if_pos e3]
   have hprb:∀j,prB l (ndA l p).tx j=true↔(ndA l j).kd=3∧(ndA l j).tx=(ndA l p).tx:=fun j=>by
    unfold prB
    simp only[Bool.and_eq_true,decide_eq_true_eq]
   obtain⟨q,hq,hqle⟩:=fstA_mem (P:=prB l (ndA l p).tx) (p:=0) (n:=l.length) (Nat.zero_le _) hp ((hprb p).2 ⟨e3,rfl⟩)
   have hq2:prF l (ndA l p).tx 0=some q:=hq
   obtain⟨_,hql,hqk,hqm⟩:=fstA_some hq
   rw[hq2]
   cases hd:dcF l (-1) (ndA l p).tx 0 with
   |some d=>
    obtain⟨_,hdl,hdk,hdm⟩:=fstA_some hd
    obtain⟨h5,h6⟩:=hglb d hdl hdk
    have h8:=h.order hdl hp h5 e3
    have:r≤d:=by
     rcases Nat.lt_or_ge d r with h7 |h7
     ·have:=hrm d (Nat.zero_le _) h7
      rw[(hgl d).2 ⟨Or.inl h5,h6⟩]at this
      cases this
     ·exact h7
    have:r<p:=by omega
    simp[this]
   |none=>
    by_cases e:q=p
    ·subst e
     have:¬r<q:=fun hlt=>by
      obtain⟨h5,h6⟩:=(hgl r).1 hrk
      rcases h5 with h5 |h5
      ·have:=fstA_none hd r (Nat.zero_le _) hrl
       rw[hdcb r hrl h5 h6]at this
       cases this
      ·have:=hqm r (Nat.zero_le _) hlt
       rw[(hprb r).2 ⟨h5,h6⟩]at this
       cases this
     simp[this]
    ·have:r≤q:=by
      rcases Nat.lt_or_ge q r with h7 |h7
      ·have:=hrm q (Nat.zero_le _) h7
       obtain⟨h5,h6⟩:=(hprb q).1 hqk
       rw[(hgl q).2 ⟨Or.inr h5,h6⟩]at this
       cases this
      ·exact h7
     have:r<p:=by omega
     simp[e,this]
theorem decl_pos {l:List Tr.Nd}(hs:shB l=true){p d:Nat}{nm:ByteArray}(h:dnA l p nm=some d):1≤(ndA l d).n:=by
 obtain⟨h1,h2,_⟩:=dnA_lt h
 have h3:=(nd_ok hs h1).num
 unfold decB at h2
 simp only[Bool.or_eq_true,decide_eq_true_eq]at h2
 unfold numB at h3
 rw[if_pos h2]at h3
 simp only[Bool.and_eq_true,decide_eq_true_eq]at h3
 exact h3.1
theorem var_pos {l:List Tr.Nd}(hs:shB l=true){p:Nat}(h:(dnA l p (ndA l p).tx).isNone=false):1≤vrT l p:=by
 unfold vrT
 cases e:dnA l p (ndA l p).tx with
 |none=>rw[e]at h;cases h
 |some d=>exact decl_pos hs e
theorem fau_zero {l:List Tr.Nd}{p:Nat}(h:fauA l p=0):takB l p=false∧unkB l p=false∧misB l p=false:=by
 unfold fauA at h
 cases h3:takB l p with
 |true=>rw[h3]at h;simp at h
 |false=>
  cases h4:unkB l p with
  |true=>rw[h3,h4]at h;simp at h
  |false=>
   cases h5:misB l p with
   |true=>rw[h3,h4,h5]at h;simp at h
   |false=>exact⟨rfl,rfl,rfl⟩
theorem typ_pos {l:List Tr.Nd}(hs:shB l=true){p:Nat}(he:expB (ndA l p).kd=true)(h:fauA l p=0):1≤typA l p:=by
 unfold expB at he
 simp only[Bool.and_eq_true,decide_eq_true_eq]at he
 have hu:=(fau_zero h).2.1
 unfold typA
 by_cases c0:(ndA l p).kd=20∨(ndA l p).kd=23∨(ndA l p).kd=24
 ·rw[if_pos c0];decide
 rw[if_neg c0]
 by_cases c1:(ndA l p).kd=21
 ·rw[if_pos c1];decide
 rw[if_neg c1]
 by_cases c2:(ndA l p).kd=22
 ·rw[if_pos c2]
  unfold unkB at hu
  rw[if_pos (Or.inl c2)]at hu
  exact var_pos hs hu
 rw[if_neg c2]
 by_cases c3:(ndA l p).kd=25
 ·rw[if_pos c3];decide
 rw[if_neg c3,if_pos (by omega)]
 unfold sgnT
 split<;>decide
end
end Go.Proofs.YtignojhijmamhaaGreat.Ty
namespace Go.Proofs.YtignojhijmamhaaGreat.Ty
section
open Go
open Tr (nth stmB expB allB kidB ndB shB risB run1 ri1 ri2 numB txB idB sgB StU kidsAt Snd stK)
theorem fau_of {l:List Tr.Nd}{p:Nat}(h:takB l p=false):fauA l p=if unkB l p then 3 else if misB l p then 5 else 0:=by unfold fauA;rw[h];rfl
theorem nm_eq {l:List Tr.Nd}{p:Nat}(ht:takB l p=false)(want kids:Int)(h1:unkB l p=(dnA l p (ndA l p).tx).isNone)
  (h2:(dnA l p (ndA l p).tx).isNone=false→(misB l p=true↔((want≠0∧vrT l p≠want)∨¬(kids=0∨areB l (ndA l p).ks kids=true)))):nmA l p want kids=fauA l p:=by
 rw[fau_of ht]
 unfold nmA
 rw[h1]
 cases e:(dnA l p (ndA l p).tx).isNone with
 |true=>rfl
 |false=>
  have h3:=h2 e
  cases e2:misB l p with
  |true=>rw[if_neg (by decide),if_pos (h3.1 e2)];rfl
  |false=>rw[if_neg (by decide),if_neg (fun h4=>by have:=h3.2 h4;rw[e2]at this;cases this)];rfl
theorem told_eq {l:List Tr.Nd}{p:Nat}(ht:takB l p=false)(B:Bool)(h1:unkB l p=false)(h2:misB l p = !B):toldZ B=fauA l p:=by
 rw[fau_of ht,h1,h2]
 cases B<;>rfl
theorem told_if (B:Bool):toldZ B=if (false=true) then 3 else if (!B)=true then 5 else 0:=by cases B<;>rfl
theorem res_eq {l:List Tr.Nd}{p:Nat}{want:List Int}{answer:Int}{k:Int}{ks:List Int}(hks:(ndA l p).ks=k :: ks)(hv:(ndA l p).tx≠⟨#[]⟩→1≤vrT l p) :
  resA l p want answer=toldZ (decide (((ndA l p).ks.tail.map fun k=>typA l k.toNat)=want)&&(decide ((ndA l p).tx=⟨#[]⟩) || decide (vrT l p=answer))):=by
 unfold resA
 by_cases e1:((ndA l p).ks.tail.map fun k=>typA l k.toNat)=want
 ·have hl:(ndA l p).ks.length=want.length+1:=by rw[← e1,hks];simp
  rw[if_pos e1,decide_eq_true e1]
  by_cases e2:(ndA l p).tx=⟨#[]⟩
  ·rw[if_neg (by rintro(h |h);exact h hl;exact h.1 e2),decide_eq_true e2];rfl
  ·have:=hv e2
   rw[decide_eq_false e2]
   by_cases e3:vrT l p=answer
   ·rw[if_neg (by rintro(h |h);exact h hl;rcases h.2 with h |h;omega;exact h e3),decide_eq_true e3];rfl
   ·rw[if_pos (Or.inr ⟨e2,Or.inr e3⟩),decide_eq_false e3];rfl
 ·rw[if_neg e1,decide_eq_false e1]
  split<;>rfl
theorem RtN.wrong {l:List Tr.Nd}{b:Nat→Nat}(h:RtN l b){p:Nat}(hp:p<l.length)(hpre:∀j,j<p→fauA l j=0):wrA l p=fauA l p:=by
 have hF:=h.ndf hp
 have hk:=(nd_ok h.sh hp).kid
 have hlo:=(nd_ok h.sh hp).lo
 have hhi:=(nd_ok h.sh hp).hi
 unfold wrA
 by_cases c0:(ndA l p).kd=2∨(ndA l p).kd=3∨(ndA l p).kd=4∨(ndA l p).kd=5
 ·have hu:unkB l p=false:=by unfold unkB;rw[if_neg (by omega),if_neg (by omega),if_neg (by omega)]
  have hm:misB l p=false:=by unfold misB;rw[if_neg (by omega),if_neg (by omega),if_neg (by omega),if_neg (by omega),if_neg (by omega),if_neg (by omega),if_neg (by omega),if_neg (by omega),if_neg (by omega),if_neg (by omega)]
  unfold fauA
  rw[if_pos c0,h.twice hp c0,hu,hm]
  cases takB l p<;>rfl
 rw[if_neg c0]
 have ht:takB l p=false:=by
  unfold takB decB
  rw[if_neg (by simp only[Bool.or_eq_true,decide_eq_true_eq];omega),if_neg (by omega)]
 by_cases c1:(ndA l p).kd=22
 ·rw[if_pos c1]
  refine nm_eq ht 0 0 (by unfold unkB;rw[if_pos (Or.inl c1)]) (fun _ =>?_)
  have hm:misB l p=false:=by unfold misB;rw[if_neg (by omega),if_neg (by omega),if_neg (by omega),if_neg (by omega),if_neg (by omega),if_neg (by omega),if_neg (by omega),if_neg (by omega),if_neg (by omega),if_neg (by omega)]
  rw[hm];simp
 rw[if_neg c1]
 by_cases c2:(ndA l p).kd=23∨(ndA l p).kd=8∨(ndA l p).kd=17
 ·rw[if_pos c2]
  refine nm_eq ht 3 1 (by unfold unkB;rw[if_pos (by omega)]) (fun _ =>?_)
  unfold misB
  rw[if_pos (by omega)]
  simp
 rw[if_neg c2]
 by_cases c3:(ndA l p).kd=24
 ·rw[if_pos c3]
  have hnil:(ndA l p).ks=[]:=by
   rw[c3]at hk
   have:kdsA l (p:Int)=[]:=by simpa [kidB]using hk
   exact List.map_eq_nil_iff.1 this
  refine nm_eq ht 3 0 (by unfold unkB;rw[if_pos (by omega)]) (fun _ =>?_)
  unfold misB
  rw[if_pos (by omega),hnil]
  simp[areB]
 rw[if_neg c3]
 by_cases c4:(ndA l p).kd=9∨(ndA l p).kd=16
 ·rw[if_pos c4]
  refine nm_eq ht 1 0 (by unfold unkB;rw[if_pos (by omega)]) (fun _ =>?_)
  unfold misB
  rw[if_neg (by omega),if_neg (by omega),if_neg (by omega),if_neg (by omega),if_pos c4]
  simp
 rw[if_neg c4]
 by_cases c5:(ndA l p).kd=25
 ·rw[if_pos c5,fau_of ht]
  have hu:unkB l p=(prF l (ndA l p).tx 0).isNone:=by unfold unkB;rw[if_neg (by omega),if_pos c5]
  have hm:misB l p = !(plnB l (optZ (prF l (ndA l p).tx 0))):=by unfold misB;rw[if_neg (by omega),if_pos c5]
  rw[hu,hm]
  cases(prF l (ndA l p).tx 0).isNone with
  |true=>rfl
  |false=>cases plnB l (optZ (prF l (ndA l p).tx 0))<;>rfl
 rw[if_neg c5]
 by_cases c6:(ndA l p).kd=26∨(ndA l p).kd=27
 ·rw[if_pos c6]
  exact told_eq ht _ (by unfold unkB;rw[if_neg (by omega),if_neg (by omega),if_neg (by omega)]) (by unfold misB;rw[if_neg (by omega),if_neg (by omega),if_pos c6])
 rw[if_neg c6]
 by_cases c7:(ndA l p).kd=7
 ·rw[if_pos c7]
  obtain⟨k,ks,hks⟩:=hF.one (Or.inl c7)
  have hk0:kidA l p 0=k:=by unfold kidA;rw[hks];rfl
  obtain⟨m,rfl,hm⟩:=h.nat hp k (by rw[hks];simp)
  have he:expB (ndA l m).kd=true:=by
   rw[c7]at hk
   simp[kidB]at hk
   refine List.all_eq_true.1 hk.2 _ (kds_mem (k:=(m:Int)) (by rw[hks];simp))
  have hty:=typ_pos h.sh he (hpre m hm)
  refine nm_eq ht _ 0 (by unfold unkB;rw[if_pos (by omega)]) (fun _ =>?_)
  unfold misB
  rw[if_neg (by omega),if_neg (by omega),if_neg (by omega),if_pos c7,hk0]
  simp
  intro _
  omega
 rw[if_neg c7]
 by_cases c8:(ndA l p).kd=10
 ·rw[if_pos c8]
  exact told_eq ht _ (by unfold unkB;rw[if_neg (by omega),if_neg (by omega),if_neg (by omega)]) (by unfold misB;rw[if_neg (by omega),if_neg (by omega),if_neg (by omega),if_neg (by omega),if_neg (by omega),if_pos c8])
 rw[if_neg c8]
 by_cases c9:(ndA l p).kd=15
 ·rw[if_pos c9]
  exact told_eq ht _ (by unfold unkB;rw[if_neg (by omega),if_neg (by omega),if_neg (by omega)]) (by unfold misB;rw[if_neg (by omega),if_neg (by omega),if_neg (by omega),if_neg (by omega),if_neg (by omega),if_neg (by omega),if_pos c9])
 rw[if_neg c9]
 by_cases ca:(ndA l p).kd=11∨(ndA l p).kd=12
 ·rw[if_pos ca]
  exact told_eq ht _ (by unfold unkB;rw[if_neg (by omega),if_neg (by omega),if_neg (by omega)]) (by unfold misB;rw[if_neg (by omega),if_neg (by omega),if_neg (by omega),if_neg (by omega),if_neg (by omega),if_neg (by omega),if_neg (by omega),if_pos ca])
 rw[if_neg ca]
 by_cases cb:(ndA l p).kd=13
 ·rw[if_pos cb,fau_of ht]
  obtain⟨k,ks,hks⟩:=hF.one (by omega)
  have hu:unkB l p=(((dnA l p (calN l p)).isNone&&(prF l (calN l p) 0).isNone) || (!decide ((ndA l p).tx=⟨#[]⟩)&&(dnA l p (ndA l p).tx).isNone)):=by
   unfold unkB;rw[if_neg (by omega),if_neg (by omega),if_pos cb]
  have hm:misB l p = !(fitC l p):=by
   unfold misB;rw[if_neg (by omega),if_neg (by omega),if_neg (by omega),if_neg (by omega),if_neg (by omega),if_neg (by omega),if_neg (by omega),if_neg (by omega),if_pos cb]
  unfold clA
  by_cases cu:((dnA l p (calN l p)).isNone=true∧(prF l (calN l p) 0).isNone=true)∨((ndA l p).tx≠⟨#[]⟩∧(dnA l p (ndA l p).tx).isNone=true)
  ·have:unkB l p=true:=by
    rw[hu]
    simp only[Bool.or_eq_true,Bool.and_eq_true,Bool.not_eq_true',decide_eq_false_iff_not]
    exact cu
   rw[if_pos cu,this];rfl
  ·have hun:unkB l p=false:=by
    rw[hu,Bool.eq_false_iff]
    intro h2
    simp only[Bool.or_eq_true,Bool.and_eq_true,Bool.not_eq_true',decide_eq_false_iff_not]at h2
    exact cu h2
   have hv:(ndA l p).tx≠⟨#[]⟩→1≤vrT l p:=fun h2=>by
    refine var_pos h.sh ?_
    cases e:(dnA l p (ndA l p).tx).isNone with
    |true=>exact absurd (Or.inr ⟨h2,e⟩) cu
    |false=>rfl
   rw[if_neg cu,hun,hm]
   unfold fitC calS
   cases e:dnA l p (calN l p) with
   |none=>
    show resA l p _ _=_
    rw[res_eq hks hv]
    simp only[Bool.true_and]
    exact told_if _
   |some d=>
    show(if (ndA l d).n≠4 then 5 else resA l p [1] 1)=_
    by_cases e4:(ndA l d).n=4
    ·rw[if_neg (fun h2=>h2 e4),res_eq hks hv]
     simp only[decide_eq_true e4,Bool.true_and]
     exact told_if _
    ·rw[if_pos e4]
     simp[e4]
 rw[if_neg cb]
 by_cases cc:(ndA l p).kd=14
 ·rw[if_pos cc]
  have hu:unkB l p=false:=by unfold unkB;rw[if_neg (by omega),if_neg (by omega),if_neg (by omega)]
  have hm:misB l p = !(fitR l p):=by
   unfold misB;rw[if_neg (by omega),if_neg (by omega),if_neg (by omega),if_neg (by omega),if_neg (by omega),if_neg (by omega),if_neg (by omega),if_neg (by omega),if_neg (by omega),if_pos cc]
  have:retA l p=toldZ (fitR l p):=by
   unfold retA fitR
   by_cases e1:(ndA l p).ks=[]
   ·rw[if_pos e1,if_pos (Or.inl e1),decide_eq_true e1,Bool.true_and]
   ·rw[if_neg e1]
    by_cases e2:(ndA l (owA l p)).n=0
    ·rw[if_pos (Or.inr e2),decide_eq_false e1,decide_eq_false (fun h2=>h2 e2)];rfl
    ·rw[if_neg (by rintro(h2 |h2);exact e1 h2;exact e2 h2),decide_eq_true e2,Bool.true_and]
  rw[this]
  exact told_eq ht _ hu hm
 rw[if_neg cc]
 have hu:unkB l p=false:=by unfold unkB;rw[if_neg (by omega),if_neg (by omega),if_neg (by omega)]
 have hm:misB l p=false:=by unfold misB;rw[if_neg (by omega),if_neg (by omega),if_neg (by omega),if_neg (by omega),if_neg (by omega),if_neg (by omega),if_neg (by omega),if_neg (by omega),if_neg (by omega),if_neg (by omega)]
 rw[fau_of ht,hu,hm];rfl
end
end Go.Proofs.YtignojhijmamhaaGreat.Ty
