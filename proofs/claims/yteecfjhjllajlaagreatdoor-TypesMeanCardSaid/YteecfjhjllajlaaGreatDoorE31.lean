/- PROVED here: parts Ba of the claim. No condition but those in each theorem's own head. -/
import Derived.Test.YteecfjhjllajlaaGreatDoorE13
namespace Go.Proofs.YteecfjhjllajlaaGreatDoor
section
section
open Go
open Tr (nth stmB expB allB kidB ndB shB risB run1 ri1 ri2 numB txB idB sgB StU kidsAt Snd)
def fstA (P:Nat→Bool)(p n:Nat):Option Nat:=(List.range' p (n-p)).find? P
theorem fstA_step {P:Nat→Bool}{p n:Nat}(h:p<n):fstA P p n=if P p then some p else fstA P (p+1) n:=by
 unfold fstA
 rw[show n-p=(n-(p+1))+1 by omega,List.range'_succ,List.find?_cons]
 cases P p<;>rfl
theorem fstA_end {P:Nat→Bool}{p n:Nat}(h:n≤p):fstA P p n=none:=by
 unfold fstA
 rw[show n-p=0 by omega];rfl
theorem fstA_some {P:Nat→Bool}{p n q:Nat}(h:fstA P p n=some q):p≤q∧q<n∧P q=true∧∀j,p≤j→j<q→P j=false:=by
 unfold fstA at h
 rw[List.find?_eq_some_iff_append]at h
 obtain⟨h1,us,bs,h2,h3⟩:=h
 have hm:q ∈ List.range' p (n-p):=by rw[h2];simp
 rw[List.mem_range'_1]at hm
 refine⟨hm.1,by omega,h1,fun j h4 h5 =>?_⟩
 have hj:j ∈ List.range' p (n-p):=List.mem_range'_1.2 ⟨h4,by omega⟩
 rw[h2]at hj
 have hs:(us++q :: bs).Pairwise (· < ·):=by rw[← h2];exact List.pairwise_lt_range'
 rcases List.mem_append.1 hj with h6 |h6
 ·have:=h3 j h6
  simpa using this
 ·exfalso
  rcases List.mem_cons.1 h6 with e |h7
  ·omega
  ·have:=(List.pairwise_cons.1 (List.pairwise_append.1 hs).2.1).1 j h7
   omega
theorem fstA_none {P:Nat→Bool}{p n:Nat}(h:fstA P p n=none):∀j,p≤j→j<n→P j=false:=fun j h1 h2=>by
 unfold fstA at h
 have:=List.find?_eq_none.1 h j (List.mem_range'_1.2 ⟨h1,by omega⟩)
 simpa using this
theorem fstA_is {P:Nat→Bool}{p n q:Nat}(h1:p≤q)(h2:q<n)(h3:P q=true)(h4:∀j,p≤j→j<q→P j=false):fstA P p n=some q:=by
 cases e:fstA P p n with
 |none=>have:=fstA_none e q h1 h2;rw[h3]at this;cases this
 |some r=>
  obtain⟨a,b,c,d⟩:=fstA_some e
  rcases Nat.lt_trichotomy q r with h |h |h
  ·have:=d q h1 h;rw[h3]at this;cases this
  ·rw[h]
  ·have:=h4 r a h;rw[c]at this;cases this
theorem fstA_mem {P:Nat→Bool}{p n q:Nat}(h1:p≤q)(h2:q<n)(h3:P q=true):∃r,fstA P p n=some r∧r≤q:=by
 cases e:fstA P p n with
 |none=>have:=fstA_none e q h1 h2;rw[h3]at this;cases this
 |some r=>
  obtain⟨a,b,c,d⟩:=fstA_some e
  refine⟨r,rfl,?_⟩
  rcases Nat.lt_or_ge q r with h |h
  ·have:=d q h1 h;rw[h3]at this;cases this
  ·exact h
section
variable (l:List Tr.Nd)
def decB (k:Int):Bool:=decide (k=2) || (decide (k=4) || decide (k=5))
def owL:List Tr.Nd→Nat→Int
 | [],_ => -1
 |x :: r,p=>if x.kd=2 then -1 else if x.kd=3 then (p:Int) else owL r (p+1)
def owA (p:Nat):Int:=owL (l.drop p) p
def dcB (o:Int)(nm:ByteArray)(q:Nat):Bool:=decB (ndA l q).kd&&(decide (owA l q=o)&&decide ((ndA l q).tx=nm))
def prB (nm:ByteArray)(q:Nat):Bool:=decide ((ndA l q).kd=3)&&decide ((ndA l q).tx=nm)
def dcF (o:Int)(nm:ByteArray)(p:Nat):Option Nat:=fstA (dcB l o nm) p l.length
def prF (nm:ByteArray)(p:Nat):Option Nat:=fstA (prB l nm) p l.length
def optZ (o:Option Nat):Int:=match o with|none => -1 |some q=>(q:Int)
def dnA (p:Nat)(nm:ByteArray):Option Nat:=if owA l p = -1 then none else (dcF l (owA l p) nm 0).or (dcF l (-1) nm 0)
def vrT (p:Nat):Int:=match dnA l p (ndA l p).tx with|none=>0 |some d=>(ndA l d).n
def sgnT (s:ByteArray):Int:=if s=⟨#[43]⟩∨s=⟨#[45]⟩∨s=⟨#[42]⟩∨s=⟨#[47]⟩∨s=⟨#[37]⟩ then 1 else 2
def typA (p:Nat):Int:=
 if (ndA l p).kd=20∨(ndA l p).kd=23∨(ndA l p).kd=24 then 1
 else if (ndA l p).kd=21 then 2
 else if (ndA l p).kd=22 then vrT l p
 else if (ndA l p).kd=25 then 4
 else if (ndA l p).kd=26∨(ndA l p).kd=27 then sgnT (ndA l p).tx
 else 0
def sgP (q:Int):List Int:=((ndA l q).ks.filter fun k=>decide ((ndA l k).kd=4)).map fun k=>(ndA l k).n
def plnB (q:Int):Bool:=decide (sgP l q=[1])&&decide ((ndA l q).n=1)
def takB (p:Nat):Bool:=
 if decB (ndA l p).kd then !decide (dcF l (owA l p) (ndA l p).tx 0=some p)
 else if (ndA l p).kd=3 then (dcF l (-1) (ndA l p).tx 0).isSome || !decide (prF l (ndA l p).tx 0=some p) else false
def calN (p:Nat):ByteArray:=(ndA l (kidA l p 0)).tx
def unkB (p:Nat):Bool:=
 if (ndA l p).kd=22∨(ndA l p).kd=23∨(ndA l p).kd=24∨(ndA l p).kd=7∨(ndA l p).kd=8∨(ndA l p).kd=17∨(ndA l p).kd=9∨(ndA l p).kd=16 then (dnA l p (ndA l p).tx).isNone
 else if (ndA l p).kd=25 then (prF l (ndA l p).tx 0).isNone
 else if (ndA l p).kd=13 then ((dnA l p (calN l p)).isNone&&(prF l (calN l p) 0).isNone) || (!decide ((ndA l p).tx=⟨#[]⟩)&&(dnA l p (ndA l p).tx).isNone)
 else false
def areB (ks:List Int)(t:Int):Bool:=ks.all fun k=>decide (typA l k.toNat=t)
def fitB (p:Nat):Bool:=
 if (ndA l p).tx=⟨#[33]⟩∨(ndA l p).tx=⟨#[38,38]⟩∨(ndA l p).tx=⟨#[124,124]⟩ then areB l (ndA l p).ks 2
 else if (ndA l p).tx=⟨#[61,61]⟩∨(ndA l p).tx=⟨#[33,61]⟩ then areB l (ndA l p).ks 1 || areB l (ndA l p).ks 2
 else areB l (ndA l p).ks 1
def calS (p:Nat):(List Int × Int) × Bool:=
 match dnA l p (calN l p) with
 |none=>((sgP l (optZ (prF l (calN l p) 0)),(ndA l (optZ (prF l (calN l p) 0))).n),true)
 |some d=>(([1],1),decide ((ndA l d).n=4))
def fitC (p:Nat):Bool:=
 (calS l p).2&&(decide (((ndA l p).ks.tail.map fun k=>typA l k.toNat)=(calS l p).1.1)&&(decide ((ndA l p).tx=⟨#[]⟩) || decide (vrT l p=(calS l p).1.2)))
def fitR (p:Nat):Bool:=
 if (ndA l p).ks=[]∨(ndA l (owA l p)).n=0 then decide ((ndA l p).ks=[])&&decide ((ndA l (owA l p)).n=0)
 else decide (typA l (kidA l p 0).toNat=(ndA l (owA l p)).n)
def misB (p:Nat):Bool:=
 if (ndA l p).kd=23∨(ndA l p).kd=24∨(ndA l p).kd=8∨(ndA l p).kd=17 then !decide (vrT l p=3) || !(areB l (ndA l p).ks 1)
 else if (ndA l p).kd=25 then !(plnB l (optZ (prF l (ndA l p).tx 0)))
 else if (ndA l p).kd=26∨(ndA l p).kd=27 then !(fitB l p)
 else if (ndA l p).kd=7 then !decide (vrT l p=typA l (kidA l p 0).toNat)
 else if (ndA l p).kd=9∨(ndA l p).kd=16 then !decide (vrT l p=1)
 else if (ndA l p).kd=10 then !decide (typA l (kidA l p 1).toNat=1)
 else if (ndA l p).kd=15 then !decide (typA l (kidA l p 0).toNat=1)
 else if (ndA l p).kd=11∨(ndA l p).kd=12 then !decide (typA l (kidA l p 0).toNat=2)
 else if (ndA l p).kd=13 then !(fitC l p)
 else if (ndA l p).kd=14 then !(fitR l p)
 else false
def fauA (p:Nat):Int:=if takB l p then 4 else if unkB l p then 3 else if misB l p then 5 else 0
def manB:Bool:=match prF l ⟨#[109,97,105,110]⟩ 0 with|none=>false |some q=>decide (sgP l q=[])&&decide ((ndA l q).n=0)
end
def chkA (l:List Tr.Nd)(r:Int):Int × Int:=
 match fstA (fun p => !decide (fauA l p=0)) 0 l.length with
 |some p=>((p:Int),fauA l p)
 |none=>if manB l then (0,0) else (r,11)
theorem owA_end {l:List Tr.Nd}{p:Nat}(h:l.length≤p):owA l p = -1:=by
 unfold owA;rw[List.drop_eq_nil_of_le h];rfl
theorem owA_step {l:List Tr.Nd}{p:Nat}(h:p<l.length):owA l p=if (ndA l p).kd=2 then -1 else if (ndA l p).kd=3 then (p:Int) else owA l (p+1):=by
 unfold owA
 rw[List.drop_eq_getElem_cons h,ndA_eq h]
 rfl
theorem owA_lt {l:List Tr.Nd}:∀(k p:Nat),l.length-p=k→owA l p = -1∨∃q:Nat,owA l p=(q:Int)∧p≤q∧q<l.length∧(ndA l q).kd=3
 |0,p,h=>Or.inl (owA_end (l:=l) (by omega))
 |k+1,p,h=>by
  rw[owA_step (show p<l.length by omega)]
  by_cases h2:(ndA l p).kd=2
  ·rw[if_pos h2];exact Or.inl rfl
  rw[if_neg h2]
  by_cases h3:(ndA l p).kd=3
  ·rw[if_pos h3];exact Or.inr ⟨p,rfl,Nat.le_refl _,by omega,h3⟩
  rw[if_neg h3]
  rcases owA_lt (l:=l) k (p+1) (by omega)with h4 |⟨q,h4,h5,h6,h7⟩
  ·exact Or.inl h4
  ·exact Or.inr ⟨q,h4,by omega,h6,h7⟩
theorem owA_range (l:List Tr.Nd)(p:Nat):owA l p = -1∨∃q:Nat,owA l p=(q:Int)∧p≤q∧q<l.length∧(ndA l q).kd=3:=owA_lt _ p rfl
theorem owA_at {l:List Tr.Nd}{m:Nat}(hm:m<l.length)(h3:(ndA l m).kd=3):∀(k q:Nat),m-q=k→q≤m→(∀j,q≤j→j<m→4≤(ndA l j).kd)→owA l q=(m:Int)
 |0,q,h,hq,_=>by
  obtain rfl:q=m:=by omega
  rw[owA_step hm,if_neg (by omega),if_pos h3]
 |k+1,q,h,hq,hb=>by
  have:=hb q (Nat.le_refl _) (by omega)
  rw[owA_step (show q<l.length by omega),if_neg (by omega),if_neg (by omega)]
  exact owA_at hm h3 k (q+1) (by omega) (by omega) fun j h1 h2=>hb j (by omega) h2
theorem kid_low {k:Int}{ks:List Int}(hk:3≤k)(h:kidB k ks=true):∀x ∈ ks,4≤x:=fun x hx=>by
 have hex:∀y,expB y=true→4≤y:=fun y hy=>by unfold expB at hy;simp only[Bool.and_eq_true,decide_eq_true_eq]at hy;omega
 have hst:∀y,stmB y=true→4≤y:=fun y hy=>by unfold stmB at hy;simp only[Bool.and_eq_true,decide_eq_true_eq]at hy;omega
 have hal:∀ {ys:List Int},allB ys=true→∀y ∈ ys,4≤y:=fun hys y hy=>hex y (List.all_eq_true.1 hys y hy)
 unfold kidB at h
 rw[if_neg (by omega)]at h
 split at h
 ·obtain⟨l',e,h2⟩:=ris_last (by decide) h
  rw[e]at hx
  rcases List.mem_append.1 hx with h3 |h3
  ·rcases h2 x h3 with e |e<;>omega
  ·rw[List.mem_singleton.1 h3];decide
 split at h
 ·exact hst x (List.all_eq_true.1 h x hx)
 split at h
 ·exact hal (by simp only[Bool.and_eq_true]at h;exact h.2) x hx
 split at h
 ·exact hal (by simp only[Bool.and_eq_true]at h;exact h.2) x hx
 split at h
 ·simp only[Bool.and_eq_true,decide_eq_true_eq]at h
  obtain⟨a,rfl⟩:=len_one h.1
  rw[List.mem_singleton.1 hx]
  have:=h.2
  simp at this
  omega
 split at h
 ·simp only[Bool.and_eq_true,decide_eq_true_eq]at h
  obtain⟨a,b,rfl⟩:=len_two h.1.1
  have h2:=h.1.2
  have h3:=h.2
  simp at h2 h3
  simp at hx
  rcases hx with rfl |rfl
  ·omega
  ·exact hex _ h3
 split at h
 ·simp only[Bool.and_eq_true,decide_eq_true_eq]at h
  obtain⟨a,b,c,rfl⟩:=len_three h.1.1.1
  have h1:=h.1.1.2
  have h2:=h.1.2
  have h3:=h.2
  simp at h1 h2 h3
  simp at hx
  rcases hx with rfl |rfl |rfl
  ·exact hex _ h1
  ·omega
  ·omega
 split at h
 ·simp only[Bool.and_eq_true,decide_eq_true_eq]at h
  obtain⟨a,b,rfl⟩:=len_two h.1.1
  have h1:=h.1.2
  have h2:=h.2
  simp at h1 h2
  simp at hx
  rcases hx with rfl |rfl
  ·exact hex _ h1
  ·omega
 split at h
 ·simp only[Bool.and_eq_true,decide_eq_true_eq]at h
  rcases ks with _ |⟨a,ks⟩
  ·cases hx
  have h1:=h.1.2
  have h2:=h.2
  simp at h1 h2
  rcases List.mem_cons.1 hx with rfl |hx
  ·omega
  ·exact hal h2 x hx
 split at h
 ·exact hal (by simp only[Bool.and_eq_true]at h;exact h.2) x hx
 split at h
 ·simp only[Bool.and_eq_true,decide_eq_true_eq]at h
  obtain⟨a,b,rfl⟩:=len_two h.1.1
  have h1:=h.1.2
  have h2:=h.2
  simp at h1 h2
  simp at hx
  rcases hx with rfl |rfl<;>omega
 ·have:=of_decide_eq_true h
  rw[List.length_eq_zero_iff.1 this]at hx
  cases hx
theorem proc_down {l:List Tr.Nd}{b:Nat→Nat}(hS:StU l b l.length)(h:shB l=true):∀p:Nat,p<l.length→3≤(ndA l p).kd→∀q,b p≤q→q<p→4≤(ndA l q).kd:=by
 intro p
 induction p using Nat.strongRecOn with
 |_ p ih=>
  intro hp he q h1 h2
  have h3:=hS p hp
  rw[kidsAt_ks hp]at h3
  obtain⟨m,hm,h4,h5,h6⟩:=Tr.stK_in _ p (b p) q (fun q hq=>hS.le q (by omega)) h3 h1 (by omega)
  have hm2:=List.mem_reverse.1 hm
  have h7:4≤(ndA l (m:Int)).kd:=kid_low he (nd_ok h hp).kid _ (kds_mem hm2)
  by_cases e:q=m
  ·rw[e];exact h7
  exact ih m h6 (by omega) (by omega) q h4 (by omega)
theorem own_of {l:List Tr.Nd}{b:Nat→Nat}(hS:StU l b l.length)(h0:b (l.length-1)=0)(hl:1≤l.length)(h:shB l=true)(hr:(ndA l ((l.length-1:Nat):Int)).kd=1){p:Nat}(hp:p<l.length) :
  p=l.length-1∨(ndA l p).kd=2∨∃m:Nat,(m:Int) ∈ (ndA l ((l.length-1:Nat):Int)).ks∧(ndA l m).kd=3∧b m≤p∧p≤m∧m<l.length∧owA l p=(m:Int):=by
 by_cases e:p=l.length-1
 ·exact Or.inl e
 have hr1:l.length-1<l.length:=by omega
 have h3:=hS _ hr1
 rw[kidsAt_ks hr1,h0]at h3
 obtain⟨m,hm,h4,h5,h6⟩:=Tr.stK_in _ _ 0 p (fun q hq=>hS.le q (by omega)) h3 (by omega) (by omega)
 have hm2:=List.mem_reverse.1 hm
 have hk:=(nd_ok h hr1).kid
 rw[hr]at hk
 have hk2:=ris_all (show risB (kdsA l ((l.length-1:Nat):Int)) 2 3 0=true from hk) _ (kds_mem hm2)
 rcases hk2 with e2 |e3
 ·refine Or.inr (Or.inl ?_)
  have hml:m<l.length:=by omega
  have hkm:=(nd_ok h hml).kid
  rw[e2]at hkm
  have hnil:(ndA l (m:Int)).ks=[]:=by
   have:kdsA l (m:Int)=[]:=by simpa [kidB]using hkm
   exact List.map_eq_nil_iff.1 this
  have h7:=hS m hml
  rw[kidsAt_ks hml,hnil]at h7
  have h8:m=b m:=by simpa [Tr.stK]using h7
  obtain rfl:p=m:=by omega
  exact e2
 ·have hml:m<l.length:=by omega
  exact Or.inr (Or.inr ⟨m,hm2,e3,h4,h5,hml,owA_at hml e3 _ p rfl h5 fun j h7 h8=>proc_down hS h m hml (by omega) j (by omega) h8⟩)
end
section
open Go
open Tr (nth stmB expB allB kidB ndB shB risB run1 ri1 ri2 numB txB idB sgB StU kidsAt Snd)
theorem kid_of {l:List Tr.Nd}{b:Nat→Nat}(hS:StU l b l.length):∀p:Nat,p<l.length→∀q:Nat,b p≤q→q<p→∃p2:Nat,p2≤p∧q<p2∧(q:Int) ∈ (ndA l p2).ks:=by
 intro p
 induction p using Nat.strongRecOn with
 |_ p ih=>
  intro hp q h1 h2
  have h3:=hS p hp
  rw[kidsAt_ks hp]at h3
  obtain⟨m,hm,h4,h5,h6⟩:=Tr.stK_in _ p (b p) q (fun q hq=>hS.le q (by omega)) h3 h1 (by omega)
  have hm2:=List.mem_reverse.1 hm
  by_cases e:q=m
  ·subst e;exact⟨p,Nat.le_refl _,h2,hm2⟩
  obtain⟨p2,a,c,d⟩:=ih m h6 (by omega) q h4 (by omega)
  exact⟨p2,by omega,c,d⟩
theorem owA_same {l:List Tr.Nd}:∀(k q m:Nat),m-q=k→q≤m→m≤l.length→(∀j,q≤j→j<m→4≤(ndA l j).kd)→owA l q=owA l m
 |0,q,m,h,hq,_,_=>by
  have e:q=m:=by omega
  rw[e]
 |k+1,q,m,h,hq,hm,hb=>by
  have:=hb q (Nat.le_refl _) (by omega)
  rw[owA_step (l:=l) (p:=q) (by omega),if_neg (by omega),if_neg (by omega)]
  exact owA_same (l:=l) k (q+1) m (by omega) (by omega) hm fun j h1 h2=>hb j (by omega) h2
structure RtN (l:List Tr.Nd) (b:Nat→Nat):Prop where
 st:StU l b l.length
 zero:b (l.length-1)=0
 len:1≤l.length
 sh:shB l=true
 root:(ndA l ((l.length-1:Nat):Int)).kd=1
theorem RtN.only1 {l:List Tr.Nd}{b:Nat→Nat}(h:RtN l b){p:Nat}(hp:p<l.length)(h1:(ndA l p).kd=1):p=l.length-1:=by
 rcases own_of h.st h.zero h.len h.sh h.root hp with e |e |⟨m,_,e3,h4,h5,h6,_⟩
 ·exact e
 ·omega
 ·by_cases e:p=m
  ·subst e;omega
  have:=proc_down h.st h.sh m h6 (by omega) p h4 (by omega)
  omega
theorem RtN.par {l:List Tr.Nd}{b:Nat→Nat}(h:RtN l b){q:Nat}(hq:q<l.length-1):∃p:Nat,p<l.length∧q<p∧(q:Int) ∈ (ndA l p).ks:=by
 obtain⟨p,h1,h2,h3⟩:=kid_of h.st (l.length-1) (by omega) q (by rw[h.zero];omega) hq
 exact⟨p,by omega,h2,h3⟩
theorem RtN.kid {l:List Tr.Nd}{b:Nat→Nat}(h:RtN l b){p q:Nat}(hp:p<l.length)(hk:(q:Int) ∈ (ndA l p).ks)(h3:(ndA l q).kd≠3):owA l q=owA l p:=by
 have hS:=h.st p hp
 rw[kidsAt_ks hp]at hS
 obtain⟨m,e,h4,h5⟩:=Tr.stK_mem _ p (b p) (fun q hq=>h.st.le q (by omega)) hS q (List.mem_reverse.2 hk)
 obtain rfl:q=m:=by omega
 have hkd:=(nd_ok h.sh hp).lo
 by_cases e:3≤(ndA l p).kd
 ·exact owA_same _ q p rfl (by omega) (by omega) fun j h6 h7=>proc_down h.st h.sh p hp e j (by have:=h.st.le q (by omega);omega) h7
 by_cases e1:(ndA l p).kd=1
 ·have hk2:=(nd_ok h.sh hp).kid
  rw[e1]at hk2
  have:=ris_all (show risB (kdsA l p) 2 3 0=true from hk2) _ (kds_mem hk)
  rcases this with e2 |e2
  ·rw[owA_step (l:=l) (p:=q) (by omega),if_pos e2,owA_step hp,if_neg (by omega),if_neg (by omega),h.only1 hp e1,owA_end (by omega)]
  ·exact absurd e2 h3
 ·have e2:(ndA l p).kd=2:=by omega
  have hk2:=(nd_ok h.sh hp).kid
  rw[e2]at hk2
  have:kdsA l (p:Int)=[]:=by simpa [kidB]using hk2
  rw[List.map_eq_nil_iff.1 this]at hk
  cases hk
theorem RtN.rootow {l:List Tr.Nd}{b:Nat→Nat}(h:RtN l b):owA l (l.length-1) = -1:=by
 have:=h.len
 rw[owA_step (l:=l) (by omega),if_neg (by rw[h.root];decide),if_neg (by rw[h.root];decide),owA_end (by omega)]
theorem owA_proc {l:List Tr.Nd}{p:Nat}(hp:p<l.length)(h:(ndA l p).kd=3):owA l p=(p:Int):=by
 rw[owA_step hp,if_neg (by omega),if_pos h]
theorem RtN.owns {l:List Tr.Nd}{b:Nat→Nat}(h:RtN l b){p:Nat}(hp:p<l.length)(h4:3≤(ndA l p).kd):∃m:Nat,owA l p=(m:Int)∧p≤m∧m<l.length∧(ndA l m).kd=3:=by
 rcases own_of h.st h.zero h.len h.sh h.root hp with e |e |⟨m,_,e3,_,h5,h6,h7⟩
 ·rw[e,h.root]at h4;omega
 ·omega
 ·exact⟨m,h7,h5,h6,e3⟩
theorem RtN.decl {l:List Tr.Nd}{b:Nat→Nat}(h:RtN l b){p:Nat}(hp:p<l.length)(h4:(ndA l p).kd=4∨(ndA l p).kd=5):∃d,dnA l p (ndA l p).tx=some d∧d≤p∧(ndA l d).tx=(ndA l p).tx∧owA l d=owA l p:=by
 obtain⟨m,h5,h6,h7,h8⟩:=h.owns hp (by omega)
 have hP:dcB l (owA l p) (ndA l p).tx p=true:=by
  unfold dcB decB
  rcases h4 with e |e<;>simp[e]
 obtain⟨d,hd,hle⟩:=fstA_mem (P:=dcB l (owA l p) (ndA l p).tx) (p:=0) (n:=l.length) (Nat.zero_le _) hp hP
 obtain⟨_,_,hc,_⟩:=fstA_some hd
 unfold dcB at hc
 simp only[Bool.and_eq_true,decide_eq_true_eq]at hc
 refine⟨d,?_,hle,hc.2.2,hc.2.1⟩
 unfold dnA
 rw[if_neg (by omega)]
 have:dcF l (owA l p) (ndA l p).tx 0=some d:=hd
 rw[this];rfl
theorem dnA_lt {l:List Tr.Nd}{p d:Nat}{nm:ByteArray}(h:dnA l p nm=some d):d<l.length∧decB (ndA l d).kd=true∧(ndA l d).tx=nm:=by
 unfold dnA at h
 split at h
 ·cases h
 ·rw[Option.or_eq_some_iff]at h
  have hk:∀ {o:Int},dcF l o nm 0=some d→d<l.length∧decB (ndA l d).kd=true∧(ndA l d).tx=nm:=fun h0=>by
   obtain⟨_,h1,h2,_⟩:=fstA_some h0
   unfold dcB at h2
   simp only[Bool.and_eq_true,decide_eq_true_eq]at h2
   exact⟨h1,h2.1,h2.2.2⟩
  rcases h with h |⟨_,h⟩<;>exact hk h
theorem prF_lt {l:List Tr.Nd}{q:Nat}{nm:ByteArray}(h:prF l nm 0=some q):q<l.length∧(ndA l q).kd=3∧(ndA l q).tx=nm:=by
 obtain⟨_,h1,h2,_⟩:=fstA_some h
 unfold prB at h2
 simp only[Bool.and_eq_true,decide_eq_true_eq]at h2
 exact⟨h1,h2.1,h2.2⟩
theorem chk_ok {l:List Tr.Nd}{r:Int}(h:(chkA l r).2=0):(∀p,p<l.length→takB l p=false∧unkB l p=false∧misB l p=false)∧manB l=true:=by
 unfold chkA at h
 cases e:fstA (fun p => !decide (fauA l p=0)) 0 l.length with
 |some p=>
  rw[e]at h
  obtain⟨_,_,h1,_⟩:=fstA_some e
  exfalso
  have h2:fauA l p=0:=h
  simp[h2]at h1
 |none=>
  rw[e]at h
  refine⟨fun p hp =>?_,?_⟩
  ·have h1:=fstA_none e p (Nat.zero_le _) hp
   have h2:fauA l p=0:=by simpa using h1
   unfold fauA at h2
   cases h3:takB l p with
   |true=>rw[h3]at h2;simp at h2
   |false=>
    cases h4:unkB l p with
    |true=>rw[h3,h4]at h2;simp at h2
    |false=>
     cases h5:misB l p with
     |true=>rw[h3,h4,h5]at h2;simp at h2
     |false=>exact⟨rfl,rfl,rfl⟩
  ·cases h1:manB l with
   |true=>rfl
   |false=>rw[h1]at h;simp at h
theorem kid_ref {k:Int}{ks:List Int}(hkd:kidB k ks=true)(hin:(19:Int) ∈ ks):k=13:=by
 have hex:∀ {ys:List Int},allB ys=true→(19:Int) ∈ ys→False:=fun hys hy=>by have:=List.all_eq_true.1 hys _ hy;revert this;decide
 by_cases e:k=13
 ·exact e
 exfalso
 unfold kidB at hkd
 by_cases c0:k=1
 ·rw[if_pos c0]at hkd
  rcases ris_all hkd _ hin with e |e<;>omega
 rw[if_neg c0]at hkd
 by_cases c1:k=3
 ·rw[if_pos c1]at hkd
  obtain⟨l',e2,h2⟩:=ris_last (by decide) hkd
  rw[e2]at hin
  rcases List.mem_append.1 hin with h3 |h3
  ·rcases h2 _ h3 with e |e<;>omega
  ·simp at h3
 rw[if_neg c1]at hkd
 by_cases c2:k=6
 ·rw[if_pos c2]at hkd
  have:=List.all_eq_true.1 hkd _ hin;revert this;decide
 rw[if_neg c2]at hkd
 by_cases c3:k=7∨k=15∨k=17∨k=23∨k=26
 ·rw[if_pos c3]at hkd
  simp only[Bool.and_eq_true]at hkd;exact hex hkd.2 hin
 rw[if_neg c3]at hkd
 by_cases c4:k=8∨k=27
 ·rw[if_pos c4]at hkd
  simp only[Bool.and_eq_true]at hkd;exact hex hkd.2 hin
 rw[if_neg c4]at hkd
 by_cases c5:k=9
 ·rw[if_pos c5]at hkd
  simp only[Bool.and_eq_true,decide_eq_true_eq]at hkd
  obtain⟨a,e2⟩:=len_one hkd.1
  rw[e2]at hkd hin
  simp at hkd hin
  omega
 rw[if_neg c5]at hkd
 by_cases c6:k=10
 ·rw[if_pos c6]at hkd
  simp only[Bool.and_eq_true,decide_eq_true_eq]at hkd
  obtain⟨a,c,e2⟩:=len_two hkd.1.1
  rw[e2]at hkd hin
  simp at hkd hin
  rcases hin with rfl |rfl
  ·omega
  ·have:=hkd.2;revert this;decide
 rw[if_neg c6]at hkd
 by_cases c7:k=11
 ·rw[if_pos c7]at hkd
  simp only[Bool.and_eq_true,decide_eq_true_eq]at hkd
  obtain⟨a,c,d,e2⟩:=len_three hkd.1.1.1
  rw[e2]at hkd hin
  simp at hkd hin
  rcases hin with rfl |rfl |rfl
  ·have:=hkd.1.1;revert this;decide
  ·omega
  ·omega
 rw[if_neg c7]at hkd
 by_cases c8:k=12
 ·rw[if_pos c8]at hkd
  simp only[Bool.and_eq_true,decide_eq_true_eq]at hkd
  obtain⟨a,c,e2⟩:=len_two hkd.1.1
  rw[e2]at hkd hin
  simp at hkd hin
  rcases hin with rfl |rfl
  ·have:=hkd.1;revert this;decide
  ·omega
 rw[if_neg c8]at hkd
 by_cases c9:k=13
 ·rw[if_pos c9]at hkd
  omega
 rw[if_neg c9]at hkd
 by_cases c10:k=14
 ·rw[if_pos c10]at hkd
  simp only[Bool.and_eq_true]at hkd;exact hex hkd.2 hin
 rw[if_neg c10]at hkd
 by_cases c11:k=16
 ·rw[if_pos c11]at hkd
  simp only[Bool.and_eq_true,decide_eq_true_eq]at hkd
  obtain⟨a,c,e2⟩:=len_two hkd.1.1
  rw[e2]at hkd hin
  simp at hkd hin
  rcases hin with rfl |rfl<;>omega
 rw[if_neg c11]at hkd
 ·have:=of_decide_eq_true hkd
  rw[List.length_eq_zero_iff.1 this]at hin
  cases hin
theorem RtN.ref {l:List Tr.Nd}{b:Nat→Nat}(h:RtN l b){q:Nat}(hq:q<l.length)(h19:(ndA l q).kd=19):∃p:Nat,p<l.length∧(ndA l p).kd=13∧kidA l p 0=(q:Int)∧owA l q=owA l p:=by
 have hr:q<l.length-1:=by
  have:q≠l.length-1:=fun e=>by rw[e,h.root]at h19;omega
  omega
 obtain⟨p,hp,_,hk⟩:=h.par hr
 have hkd:=(nd_ok h.sh hp).kid
 have hin:(19:Int) ∈ kdsA l p:=by have:=kds_mem hk;rw[h19]at this;exact this
 have hex:∀ {ys:List Int},allB ys=true→(19:Int) ∈ ys→False:=fun hys hy=>by have:=List.all_eq_true.1 hys _ hy;revert this;decide
 have h13:(ndA l p).kd=13:=kid_ref hkd hin
 refine⟨p,hp,h13,?_,h.kid hp hk (by omega)⟩
 rw[h13]at hkd
 rcases hks:(ndA l p).ks with _ |⟨a,ks⟩
 ·rw[hks]at hk;cases hk
 unfold kidA
 rw[hks]
 rw[hks]at hk
 rcases List.mem_cons.1 hk with e |e
 ·exact e.symm
 ·exfalso
  have e2:kdsA l p=(ndA l a).kd :: ks.map fun k=>(ndA l k).kd:=by unfold kdsA;rw[hks];rfl
  rw[e2]at hkd
  simp[kidB]at hkd
  exact hex hkd.2 (List.mem_map.2 ⟨_,e,h19⟩)
theorem RtN.means {l:List Tr.Nd}{b:Nat→Nat}(h:RtN l b){r:Int}(hc:(chkA l r).2=0){p:Nat}(hp:p<l.length) :
  ((ndA l p).kd=22→∃d,dnA l p (ndA l p).tx=some d∧typA l p=(ndA l d).n) ∧
  ((ndA l p).kd=23∨(ndA l p).kd=24∨(ndA l p).kd=8∨(ndA l p).kd=17→∃d,dnA l p (ndA l p).tx=some d∧(ndA l d).n=3) ∧
  ((ndA l p).kd=9∨(ndA l p).kd=16→∃d,dnA l p (ndA l p).tx=some d∧(ndA l d).n=1) ∧
  ((ndA l p).kd=7→∃d,dnA l p (ndA l p).tx=some d∧(ndA l d).n=typA l (kidA l p 0).toNat) ∧
  ((ndA l p).kd=25→∃q,prF l (ndA l p).tx 0=some q∧plnB l (q:Int)=true) ∧
  ((ndA l p).kd=19→(∃d,dnA l p (ndA l p).tx=some d∧(ndA l d).n=4)∨(dnA l p (ndA l p).tx=none∧∃q,prF l (ndA l p).tx 0=some q)):=by
 obtain⟨hall,_⟩:=chk_ok hc
 obtain⟨_,hu,hm⟩:=hall p hp
 have hv:(dnA l p (ndA l p).tx).isNone=false→∃d,dnA l p (ndA l p).tx=some d∧vrT l p=(ndA l d).n:=fun h1=>by
  cases e:dnA l p (ndA l p).tx with
  |none=>rw[e]at h1;cases h1
  |some d=>exact⟨d,rfl,by unfold vrT;rw[e]⟩
 refine⟨fun e =>?_,fun e =>?_,fun e =>?_,fun e =>?_,fun e =>?_,fun e =>?_⟩
 ·unfold unkB at hu
  rw[if_pos (Or.inl e)]at hu
  obtain⟨d,h1,h2⟩:=hv hu
  refine⟨d,h1,?_⟩
  unfold typA
  rw[if_neg (by omega),if_neg (by omega),if_pos e,h2]
 ·unfold unkB at hu
  rw[if_pos (by omega)]at hu
  obtain⟨d,h1,h2⟩:=hv hu
  refine⟨d,h1,?_⟩
  unfold misB at hm
  rw[if_pos e]at hm
  simp only[Bool.or_eq_false_iff,Bool.not_eq_false',decide_eq_true_eq]at hm
  rw[← h2,hm.1]
 ·unfold unkB at hu
  rw[if_pos (by omega)]at hu
  obtain⟨d,h1,h2⟩:=hv hu
  refine⟨d,h1,?_⟩
  unfold misB at hm
  rw[if_neg (by omega),if_neg (by omega),if_neg (by omega),if_neg (by omega),if_pos e]at hm
  simp only[Bool.not_eq_false',decide_eq_true_eq]at hm
  rw[← h2,hm]
 ·unfold unkB at hu
  rw[if_pos (by omega)]at hu
  obtain⟨d,h1,h2⟩:=hv hu
  refine⟨d,h1,?_⟩
  unfold misB at hm
  rw[if_neg (by omega),if_neg (by omega),if_neg (by omega),if_pos e]at hm
  simp only[Bool.not_eq_false',decide_eq_true_eq]at hm
  rw[← h2,hm]
 ·unfold unkB at hu
  rw[if_neg (by omega),if_pos e]at hu
  cases e2:prF l (ndA l p).tx 0 with
  |none=>rw[e2]at hu;cases hu
  |some q=>
   refine⟨q,rfl,?_⟩
   unfold misB at hm
   rw[if_neg (by omega),if_pos e,e2,Bool.not_eq_false']at hm
   exact hm
 ·obtain⟨c,hc1,h13,hk0,how⟩:=h.ref hp e
  obtain⟨_,hu2,hm2⟩:=hall c hc1
  have hcal:calN l c=(ndA l p).tx:=by unfold calN;rw[hk0]
  have hdn:dnA l c (calN l c)=dnA l p (ndA l p).tx:=by rw[hcal];unfold dnA;rw[how]
  unfold unkB at hu2
  rw[if_neg (by omega),if_neg (by omega),if_pos h13,hdn,hcal]at hu2
  unfold misB at hm2
  rw[if_neg (by omega),if_neg (by omega),if_neg (by omega),if_neg (by omega),if_neg (by omega),if_neg (by omega),if_neg (by omega),if_neg (by omega),if_pos h13]at hm2
  cases e2:dnA l p (ndA l p).tx with
  |none=>
   refine Or.inr ⟨rfl,?_⟩
   rw[e2]at hu2
   cases e3:prF l (ndA l p).tx 0 with
   |none=>rw[e3]at hu2;simp at hu2
   |some q=>exact⟨q,rfl⟩
  |some d=>
   refine Or.inl ⟨d,rfl,?_⟩
   unfold fitC calS at hm2
   rw[hdn,e2]at hm2
   simp only[Bool.not_eq_false',Bool.and_eq_true,decide_eq_true_eq]at hm2
   exact hm2.1
end
end
end Go.Proofs.YteecfjhjllajlaaGreatDoor
