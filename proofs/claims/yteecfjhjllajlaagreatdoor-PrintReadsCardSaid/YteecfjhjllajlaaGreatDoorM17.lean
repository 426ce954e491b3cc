/- PROVED: Yd Xu. No more condition. -/
import Derived.Test.YteecfjhjllajlaaGreatDoorM16
import Derived.Test.YteecfjhjllajlaaGreatDoorM14
import Derived.Test.YteecfjhjllajlaaGreatDoorM15
namespace Go.Proofs.YteecfjhjllajlaaGreatDoor
open Go Go.RowKit
section
open Tr (nth dS aI fu bB kY iX iW eQ tK mW jZ rts Bi dpt gV tT uV kT lF)
def cz:Tr.Nd:=⟨22,0,0,⟨#[120]⟩,[]⟩
theorem iR:∀m,mW (List.replicate m ([cz],0))=List.replicate m cz
 |0=>rfl
 |m+1=>by rw[List.replicate_succ',Tr.uT,iR m,List.replicate_succ' (n:=m) (a:=cz)];rfl
theorem Bj (m:Nat)(hm:m<=3000):rts (List.replicate m ([cz],0))=(List.range m).map λj:Nat=>(j:Int):=by
 unfold rts;rw[List.length_replicate];refine List.map_congr_left λj hj =>?_
 rw[List.mem_range]at hj;unfold Bi;rw[List.take_replicate,iR,List.length_replicate,Nat.min_eq_left (by omega)];rw[List.getD_eq_getElem?_getD,List.getElem?_replicate,if_pos hj];show wrap64 ((j:Int)+0)=j;rw[Tr.wrap_small (by omega) (by omega)];omega
theorem ul (kd n pl:Int)(tx:ByteArray)(m:Nat)(hm:m<=3000):jZ kd n pl tx (List.replicate m ([cz],0))=List.replicate m cz++[⟨kd,n,pl,tx,(List.range m).map λj:Nat=>(j:Int)⟩]:=by
 unfold jZ;rw[iR,Bj m hm]
theorem uW:gV [cz] 0/\dpt [cz] 0=1:=by
 have:=kT (kd:=22) (n:=0) (pl:=0) (tx:=⟨#[120]⟩) (ts:=[]) (λt ht=>by cases ht) (Nat.zero_le _) (by decide);exact this
theorem CX {D:Nat}:∀(ts:List Tr.Tr) (a:Nat),a<=D->(∀t ∈ ts,dpt t.1 t.2<=D)->ts.foldl (λa t=>max a (dpt t.1 t.2)) a<=D
 | [],_,h,_=>h
 |t :: ts,a,h,hk=>by
  rw[List.foldl_cons];exact CX ts _ (Nat.max_le.2 ⟨h,hk t List.mem_cons_self⟩) λx hx=>hk x (List.mem_cons_of_mem _ hx)
theorem Bl (kd n pl:Int)(tx:ByteArray)(m:Nat)(hm:m<=3000):gV (jZ kd n pl tx (List.replicate m ([cz],0))) (m:Int)/\dpt (jZ kd n pl tx (List.replicate m ([cz],0))) (m:Int)<=2:=by
 have h1:=kT (kd:=kd) (n:=n) (pl:=pl) (tx:=tx) (ts:=List.replicate m ([cz],0)) (λt ht=>by rw[(List.mem_replicate.1 ht).2];exact uW.1) (by rw[iR,List.length_replicate];omega) (by rw[ul _ _ _ _ m hm];simp only[List.length_append,List.length_replicate,List.length_cons,List.length_nil];omega);rw[iR,List.length_replicate]at h1;refine⟨h1.1,?_⟩;rw[h1.2];refine Nat.succ_le_succ (CX _ _ (Nat.zero_le _) λt ht =>?_);rw[(List.mem_replicate.1 ht).2];exact Nat.le_of_eq uW.2
theorem jM {l:List Tr.Nd}{r:Int}(h:gV l r):Ahead l:=by
 obtain⟨b,_,_,_,hS,_⟩:=h;exact zI hS λq hq=>hS.le q hq
theorem jr {l:List Tr.Nd}{r:Int}(h:gV l r):1<=l.length/\l.length<=4000/\r=(l.length:Int)-1:=by
 obtain⟨b,h1,h2,h3,_,_⟩:=h;exact⟨h1,h2,h3⟩
theorem Sr {x:Tr.Nd}(h:∀k ∈ x.ks,0<=k/\k<=4000):tK 0 x=x:=by
 have:(x.ks.map λk=>wrap64 (k+0))=x.ks:=by
  conv=>rhs;rw[<- List.map_id x.ks]
  refine List.map_congr_left λk hk =>?_
  have:=h k hk;show wrap64 (k+0)=k;rw[Tr.wrap_small (by omega) (by omega)];omega
 unfold tK;rw[this]
theorem Q5 {l:List Tr.Nd}{r:Int}(h:gV l r):l.map (tK 0)=l:=by
 conv=>rhs;rw[<- List.map_id l]
 refine List.map_congr_left λx hx =>?_
 refine Sr λk hk =>?_
 obtain⟨i,hi,rfl⟩:=List.getElem_of_mem hx;have h1:=jM h i hi k hk;have h2:=jr h;omega
theorem zO {l:List Tr.Nd}{r:Int}(h:gV l r)(kd n pl:Int)(tx:ByteArray):jZ kd n pl tx [(l,r)]=l++[⟨kd,n,pl,tx,[r]⟩]/\mW [(l,r)]=l:=by
 have h1:mW [(l,r)]=l:=(show mW [(l,r)]=l.map (tK 0)from by simp[mW]).trans (Q5 h);have h2:=jr h;refine⟨?_,h1⟩;unfold jZ;rw[h1];have h3:rts [(l,r)]=[r]:=by
  show[wrap64 (0+r)]=[r];rw[Tr.wrap_small (by omega) (by omega)];congr 1;omega
 rw[h3]
theorem rE {l:List Tr.Nd}{r:Int}(h:gV l r)(hl:l.length<=3999)(kd n pl:Int)(tx:ByteArray):gV (l++[⟨kd,n,pl,tx,[r]⟩]) (l.length:Int)/\dpt (l++[⟨kd,n,pl,tx,[r]⟩]) (l.length:Int)=dpt l r+1:=by
 obtain⟨e1,e2⟩:=zO h kd n pl tx;have h1:=kT (kd:=kd) (n:=n) (pl:=pl) (tx:=tx) (ts:=[(l,r)]) (λt ht=>by rw[List.mem_singleton.1 ht];exact h) (by rw[e2];omega) (by rw[e1];simp only[List.length_append,List.length_cons,List.length_nil];omega);rw[e1,e2]at h1;refine⟨h1.1,h1.2.trans ?_⟩;show max 0 (dpt l r)+1=_;rw[Nat.max_eq_right (Nat.zero_le _)]
theorem uX {l r:List Tr.Nd}{i:Nat}(h:i<l.length):nth (l++r) i=nth l i:=by
 unfold nth;rw[List.getD_eq_getElem?_getD,List.getD_eq_getElem?_getD,List.getElem?_append_left h]
theorem Gx {l r:List Tr.Nd}{x:Tr.Nd}(h:∀k ∈ x.ks,k.toNat<l.length):kY (l++r) x=kY l x:=by
 unfold kY;rw[List.map_congr_left λk hk=>by rw[uX (h k hk)]]
theorem zP {l:List Tr.Nd}(hA:Ahead l)(x:Tr.Nd):iX (l++[x])=(iX l&&kY (l++[x]) x):=by
 unfold iX;rw[List.all_append];congr 1
 ·rw[Bool.eq_iff_iff,List.all_eq_true,List.all_eq_true];have:∀y ∈ l,kY (l++[x]) y=kY l y:=λy hy=>by
   obtain⟨i,hi,rfl⟩:=List.getElem_of_mem hy;exact Gx λk hk=>by have:=hA i hi k hk;omega
  exact⟨λh y hy=>by rw[<- this y hy];exact h y hy,λh y hy=>by rw[this y hy];exact h y hy⟩
 ·simp
def CY (kd n:Int)(tx:List UInt8)(ks:List Int):Bool:=decide (1<=kd)&&(decide (kd<=27)&&(iW kd tx&&(eQ kd n&&bB kd ks)))
theorem CZ {l:List Tr.Nd}{r:Int}(h:gV l r)(kd n pl:Int)(tx:ByteArray):iX (l++[⟨kd,n,pl,tx,[r]⟩])=(iX l&&CY kd n tx.data.toList [(nth l (l.length-1)).kd]):=by
 rw[zP (jM h)];congr 1;have h2:=jr h;have e:r.toNat=l.length-1:=by omega
 unfold kY CY;simp only[List.map_cons,List.map_nil];rw[e,uX (by omega)]
theorem om (l:List Tr.Nd)(x:Tr.Nd):nth (l++[x]) l.length=x:=by unfold nth;simp[List.getD]
def Fe (kd n:Int)(tx:List UInt8)(m:Nat):Bool:=aI kd&&(iW kd tx&&(eQ kd n&&bB kd (List.replicate m 22)))
theorem Su (k:Int):CY 15 0 [] [k]=aI k:=by simp[CY,iW,eQ,bB,fu]
theorem Q6 {l:List Tr.Nd}{k0:Nat}(hk:l.length=k0+1)(h:gV l (k0:Int))(hd:dpt l (k0:Int)<=30)(hl:k0<=3900):lF (jZ 1 0 0 ⟨#[]⟩ [(jZ 3 0 0 ⟨#[102]⟩ [(jZ 6 0 0 ⟨#[]⟩ [(jZ 15 0 0 ⟨#[]⟩ [(l,(k0:Int))],((k0+1:Nat):Int))],((k0+2:Nat):Int))],((k0+3:Nat):Int))]) ((k0+4:Nat):Int)=(iX l&&aI (nth l k0).kd):=by
 have a1:=rE h (by omega) 15 0 0 ⟨#[]⟩;have b1:=CZ h 15 0 0 ⟨#[]⟩;rw[(zO h 15 0 0 ⟨#[]⟩).1];rw[hk]at a1 b1;obtain⟨l1,hl1⟩:∃l1,l1=l++[(⟨15,0,0,⟨#[]⟩,[(k0:Int)]⟩:Tr.Nd)]:=⟨_,rfl⟩;have c1:l1.length=k0+2:=by rw[hl1];simp[hk]
 have d1:(nth l1 (k0+1)).kd=15:=by rw[hl1,<- hk,om]
 rw[<- hl1]at a1 b1 |-;have a2:=rE a1.1 (by omega) 6 0 0 ⟨#[]⟩;have b2:=CZ a1.1 6 0 0 ⟨#[]⟩;rw[(zO a1.1 6 0 0 ⟨#[]⟩).1];rw[c1]at a2 b2;obtain⟨l2,hl2⟩:∃l2,l2=l1++[(⟨6,0,0,⟨#[]⟩,[((k0+1:Nat):Int)]⟩:Tr.Nd)]:=⟨_,rfl⟩;have c2:l2.length=k0+3:=by rw[hl2];simp[c1]
 have d2:(nth l2 (k0+2)).kd=6:=by rw[hl2,<- c1,om]
 rw[<- hl2]at a2 b2 |-;have a3:=rE a2.1 (by omega) 3 0 0 ⟨#[102]⟩;have b3:=CZ a2.1 3 0 0 ⟨#[102]⟩;rw[(zO a2.1 3 0 0 ⟨#[102]⟩).1];rw[c2]at a3 b3;obtain⟨l3,hl3⟩:∃l3,l3=l2++[(⟨3,0,0,⟨#[102]⟩,[((k0+2:Nat):Int)]⟩:Tr.Nd)]:=⟨_,rfl⟩;have c3:l3.length=k0+4:=by rw[hl3];simp[c2]
 have d3:(nth l3 (k0+3)).kd=3:=by rw[hl3,<- c2,om]
 rw[<- hl3]at a3 b3 |-;have a4:=rE a3.1 (by omega) 1 0 0 ⟨#[]⟩;have b4:=CZ a3.1 1 0 0 ⟨#[]⟩;rw[(zO a3.1 1 0 0 ⟨#[]⟩).1];rw[c3]at a4 b4;obtain⟨l4,hl4⟩:∃l4,l4=l3++[(⟨1,0,0,⟨#[]⟩,[((k0+3:Nat):Int)]⟩:Tr.Nd)]:=⟨_,rfl⟩;have c4:l4.length=k0+5:=by rw[hl4];simp[c3]
 have d4:(nth l4 (k0+4)).kd=1:=by rw[hl4,<- c3,om]
 rw[<- hl4]at a4 b4 |-;unfold lF;rw[Tr.lX a4.1,a4.2,a3.2,a2.2,a1.2,c4,show k0+5-1=k0+4 from rfl,d4,b4,b3,b2,b1];rw[show k0+4-1=k0+3 from rfl,show k0+3-1=k0+2 from rfl,show k0+2-1=k0+1 from rfl,show k0+1-1=k0 from rfl,d3,d2,d1];have e1:CY 1 0 [] [3]=true:=by decide
 have e2:CY 3 0 [102] [6]=true:=by decide
 have e3:CY 6 0 [] [15]=true:=by decide
 have e4:=Su (nth l k0).kd;have e5:decide (dpt l (k0:Int)+1+1+1+1<=40)=true:=decide_eq_true (by omega);rw[e5];show(true&&(true&&(true&&(((_&&CY 15 0 [] _)&&CY 6 0 [] _)&&CY 3 0 [102] _&&CY 1 0 [] _))))=_;rw[e1,e2,e3,e4];simp
theorem KL (kd n pl:Int)(tx:ByteArray)(m:Nat):iX (List.replicate m cz++[⟨kd,n,pl,tx,(List.range m).map λj:Nat=>(j:Int)⟩])=CY kd n tx.data.toList (List.replicate m 22):=by
 have hg:∀i:Nat,i<m->nth (List.replicate m cz) i=cz:=λi hi=>by unfold nth;rw[List.getD_eq_getElem?_getD,List.getElem?_replicate,if_pos hi];rfl
 have hA:Ahead (List.replicate m cz):=λi hi k hk=>by rw[List.getElem_replicate]at hk;cases hk
 rw[zP hA];have h1:iX (List.replicate m cz)=true:=List.all_eq_true.2 λx hx=>by
  rw[(List.mem_replicate.1 hx).2];show kY (List.replicate m cz) ⟨22,0,0,⟨#[120]⟩,[]⟩=true;unfold kY;simp only[List.map_nil];decide
 rw[h1,Bool.true_and];unfold kY CY;have h2:((List.range m).map λj:Nat=>(j:Int)).map (λk=>(nth (List.replicate m cz++[(⟨kd,n,pl,tx,(List.range m).map λj:Nat=>(j:Int)⟩:Tr.Nd)]) k.toNat).kd)=List.replicate m 22:=by
  rw[List.map_map,List.eq_replicate_iff];refine⟨by simp,λb hb =>?_⟩;obtain⟨j,hj,rfl⟩:=List.mem_map.1 hb;rw[List.mem_range]at hj;show(nth _ ((j:Int)).toNat).kd=22;rw[Int.toNat_natCast,uX (by simpa using hj),hg j hj];rfl
 simp only[h2]
theorem Eo (kd n pl:Int)(tx:ByteArray)(m:Nat)(hm:m<=3000):lF (jZ 1 0 0 ⟨#[]⟩ [(jZ 3 0 0 ⟨#[102]⟩ [(jZ 6 0 0 ⟨#[]⟩ [(jZ 15 0 0 ⟨#[]⟩ [(jZ kd n pl tx (List.replicate m ([cz],0)),(m:Int))],((m+1:Nat):Int))],((m+2:Nat):Int))],((m+3:Nat):Int))]) ((m+4:Nat):Int)=Fe kd n tx.data.toList m:=by
 have hb:=Bl kd n pl tx m hm;have hl:(jZ kd n pl tx (List.replicate m ([cz],0))).length=m+1:=by rw[ul _ _ _ _ m hm];simp
 rw[Q6 hl hb.1 (by omega) (by omega)];rw[ul _ _ _ _ m hm,KL];have:nth (List.replicate m cz++[(⟨kd,n,pl,tx,(List.range m).map λj:Nat=>(j:Int)⟩:Tr.Nd)]) m=⟨kd,n,pl,tx,(List.range m).map λj:Nat=>(j:Int)⟩:=by
  have:=om (List.replicate m cz) ⟨kd,n,pl,tx,(List.range m).map λj:Nat=>(j:Int)⟩
  rwa [List.length_replicate]at this
 rw[this];unfold CY Fe;cases he:aI kd
 ·simp
 ·have h1:1<=kd/\kd<=27:=by
   unfold aI at he;simp only[Bool.and_eq_true,decide_eq_true_eq]at he;omega
  rw[decide_eq_true h1.1,decide_eq_true h1.2];simp
end
section
open Tr (nth dS aI fu bB kY iX iW eQ si tK mW jZ rts Bi dpt gV tT uV kT lF)
theorem gp {k:Int}(h:aI k=true):k=20\/k=21\/k=22\/k=23\/k=24\/k=25\/k=26\/k=27:=by
 unfold aI at h;simp only[Bool.and_eq_true,decide_eq_true_eq]at h;omega
theorem C8 {kd:Int}{l:List Int}(he:aI kd=true)(h:bB kd l=true):(∀x ∈ l,aI x=true)/\l.length<=2:=by
 rcases gp he with e |e |e |e |e |e |e |e<;>rw[e]at h<;>simp[bB]at h
 ·exact⟨λx hx=>(by rw[h]at hx;cases hx),by rw[h];decide⟩
 ·exact⟨λx hx=>(by rw[h]at hx;cases hx),by rw[h];decide⟩
 ·exact⟨λx hx=>(by rw[h]at hx;cases hx),by rw[h];decide⟩
 ·exact⟨dX h.2,by omega⟩
 ·exact⟨λx hx=>(by rw[h]at hx;cases hx),by rw[h];decide⟩
 ·exact⟨λx hx=>(by rw[h]at hx;cases hx),by rw[h];decide⟩
 ·exact⟨dX h.2,by omega⟩
 ·exact⟨dX h.2,by omega⟩
theorem Gy {kd:Int}{l:List Int}(he:aI kd=true)(hl:∀x ∈ l,aI x=true):bB kd l=bB kd (List.replicate l.length 22):=by
 have h1:fu l=true:=List.all_eq_true.2 hl;have h2:fu (List.replicate l.length 22)=true:=List.all_eq_true.2 λx hx=>by rw[(List.mem_replicate.1 hx).2];decide
 rcases gp he with e |e |e |e |e |e |e |e<;>rw[e]<;>simp[bB,h1,h2]
noncomputable def exB (l:List Tr.Nd)(r:Int):Bool:=tT l r&&(decide (dpt l r<=40)&&l.all λx=>Fe x.kd x.n x.tx.data.toList x.ks.length)
structure Bn (l:List Tr.Nd) (r:Int):Prop where
 snd:gV l r
 dep:dpt l r<=40
 exp:∀x ∈ l,aI x.kd=true
 sh:iX l=true
open Classical in
theorem rF {l:List Tr.Nd}{r:Int}:tT l r=true↔gV l r:=by
 unfold tT;exact decide_eq_true_iff
theorem KM {l:List Tr.Nd}{r:Int}(h:gV l r)(he:∀x ∈ l,aI x.kd=true){x:Tr.Nd}(hx:x ∈ l):∀k ∈ (x.ks.map λk=>(nth l k.toNat).kd),aI k=true:=λk hk=>by
 obtain⟨j,hj,rfl⟩:=List.mem_map.1 hk;obtain⟨i,hi,rfl⟩:=List.getElem_of_mem hx;have h1:=jM h i hi j hj;have h2:j.toNat<l.length:=by omega
 show aI (nth l j.toNat).kd=true;rw[Tr.jF h2];exact he _ (List.getElem_mem h2)
theorem Gz {l:List Tr.Nd}{r:Int}(h:gV l r)(he:∀x ∈ l,aI x.kd=true){x:Tr.Nd}(hx:x ∈ l):kY l x=Fe x.kd x.n x.tx.data.toList x.ks.length:=by
 have h1:=Gy (he x hx) (KM h he hx);have h2:1<=x.kd/\x.kd<=27:=by rcases gp (he x hx)with e |e |e |e |e |e |e |e<;>rw[e]<;>decide
 unfold kY Fe;rw[h1,he x hx,decide_eq_true h2.1,decide_eq_true h2.2,List.length_map];simp
theorem Bo {l:List Tr.Nd}{r:Int}(h:exB l r=true):Bn l r:=by
 unfold exB at h;simp only[Bool.and_eq_true,decide_eq_true_eq,List.all_eq_true]at h;obtain⟨h1,h2,h3⟩:=h;have hs:=rF.1 h1;have he:∀x ∈ l,aI x.kd=true:=λx hx=>by
  have:=h3 x hx;unfold Fe at this;simp only[Bool.and_eq_true]at this;exact this.1
 exact⟨hs,h2,he,List.all_eq_true.2 λx hx=>by rw[Gz hs he hx];exact h3 x hx⟩
theorem Bn.exB {l:List Tr.Nd}{r:Int}(h:Bn l r):exB l r=true:=by
 unfold Go.Proofs.YteecfjhjllajlaaGreatDoor.exB;rw[rF.2 h.snd,decide_eq_true h.dep,Bool.true_and,Bool.true_and,List.all_eq_true];intro x hx;rw[<- Gz h.snd h.exp hx];exact List.all_eq_true.1 h.sh x hx
theorem KN {l:List Tr.Nd}{r:Int}(h:exB l r=true):∀x ∈ l,Fe x.kd x.n x.tx.data.toList x.ks.length=true:=by
 unfold exB at h;simp only[Bool.and_eq_true,decide_eq_true_eq,List.all_eq_true]at h;exact h.2.2
noncomputable def fP (l:List Tr.Nd)(r:Int):List UInt8:=if exB l r then bE l l.length r else []
end
section
open Tr (nth dS aI fu bB kY iX kr gW aJ gV)
theorem rG (l:List Tr.Nd)(F f d:Nat)(p:Int):nL l F (f+1) d p=fK d++eF l F p ++
  (if (ag l p).kd=11 then fM l (nL l F f) d (aL l p 1) []++(if (ag l (aL l p 2)).ks=[] then [] else [32,101,108,115,101]++fM l (nL l F f) d (aL l p 2) [])
  else if (ag l p).kd=12 then fM l (nL l F f) d (aL l p 1) []
  else if (ag l p).kd=16 then fM l (nL l F f) d (aL l p 0) []++[32,99,97,116,99,104,32]++bu l p++fM l (nL l F f) d (aL l p 1) []
  else [59])++[10]:=rfl
end
section
open Tr (nth dS aI fu bB kY iX iW iB gV)
theorem KO (n:Int):Lib.itoa n≠[]:=by
 unfold Lib.itoa;split
 ·simp
 ·intro e;have h1:=congrArg List.length e;rw[Lib.decDigits_length]at h1;have h2:1<=Lib.nDigits n.toNat:=Lib.nDigits_pos _;simp at h1;omega
theorem Ow {l:List Tr.Nd}(hs:iX l=true){f p:Nat}(hp:p<l.length)(he:aI (ag l p).kd=true):bE l (f+1) p≠[]:=by
 have h:=bR hs hp;rw[mF];rcases gp he with e |e |e |e |e |e |e |e<;>rw[e]
 ·exact KO _
 ·simp only[reduceIte,Int.reduceEq];cases((ag l p).n==1)<;>decide
 ·simp only[reduceIte,Int.reduceEq];have h1:=h.tx;rw[e]at h1;intro e0;rw[e0]at h1;revert h1;decide
 ·simp
 ·simp
 ·simp
 ·have h1:=h.tx;rw[e]at h1;simp only[reduceIte,Int.reduceEq];intro e0;rw[(List.append_eq_nil_iff.1 e0).1]at h1;revert h1;decide
 ·simp
theorem KP (l:List Tr.Nd)(F:Nat)(p:Int):nQ l F p≠[]:=by unfold nQ;simp
theorem KQ (l:List Tr.Nd)(d:Nat)(p:Int):jg l d p≠[]:=by unfold jg;simp
theorem KR {l:List Tr.Nd}{F:Nat}{p:Int}(h:(ag l p).ks≠[]):lG l F p≠[]:=by
 unfold lG;rcases hks:(ag l p).ks with _ |⟨k,ks⟩
 ·exact absurd hks h
 ·rw[List.map_cons,List.flatten_cons];intro e;have:=(List.append_eq_nil_iff.1 e).1;split at this
  ·exact KQ l 0 k this
  ·exact KP l F k this
theorem GA {l:List Tr.Nd}{F:Nat}{p:Int}(h:(ag l p).ks=[]):lG l F p=[]:=by unfold lG;rw[h];rfl
end
section
open Tr (Bx aa bt eH Ints)
theorem GD {w0:World}{A:Option Addr}{l:List Tr.Nd}{n:Nat}(c b:Nat)(hx:nR w0 A l n)(hcp:uR w0 A l)(hs:sM l):∀(f d p:Nat) (t:List UInt8) (w:World),p<f->p<n->Tr.dS (ag l p).kd=true->d+p<=90000->Below w0.heap.size w0 w->Pg w0.heap.size b t w->t.length+(nL l n f d p).length<=140737488355328 ->
  Calls Tryz.prog 246 #[PV A n c b (d:Int),.int .i64 (p:Int)] w (aK w0.heap.size b (t++nL l n f d p) (.tuple #[]) w)
 |0,_,_,_,_,h0,_,_,_,_,_,_=>absurd h0 (Nat.not_lt_zero _)
 |f+1,d,p,t,w,hpf,hp,hk,hd,hb,h,hl=>by
  have hpl:p<l.length:=by rw[<- hx.len];exact hp
  have hlo:=hs.ln p hpl hk;rw[<- hx.len]at hlo;have hln:=λt' w' (q:Below w0.heap.size w0 w') (h':Pg w0.heap.size b t' w') (hl':t'.length+(eF l n p).length<=140737488355328)=>Kq c b n hx hcp (d:Int) p t' w' hp hlo q h' hl'
  have hblk:∀k:Nat,k<p->(ag l k).kd=6->∀t' w',Below w0.heap.size w0 w'->Pg w0.heap.size b t' w'->t'.length+(fM l (nL l n f) d k []).length<=140737488355328->Calls Tryz.prog 194 #[PV A n c b (d:Int),.int .i64 (k:Int),.slice none 0 0] w' (aK w0.heap.size b (t'++fM l (nL l n f) d k []) (.tuple #[]) w'):=λk hkp h6 t' w' q h' hl'=>
   zB c b d hx (nL l n f) k none 0 0 [] t' w' (by omega) (by omega) rfl (by omega) (by have:=hs.few k (by omega);omega) (λ_ _ h0=>absurd h0 (Nat.lt_irrefl 0)) (λ_ h0=>by cases h0)
    (λk' hk' t2 w2 q2 h2 hl2=>by
     obtain⟨k2,rfl,hlt,hst⟩:=hs.bl k (by omega) h6 k' hk'
     exact GD c b hx hcp hs f (d+1) k2 t2 w2 (by omega) (by omega) hst (by omega) q2 h2 hl2) q h' hl'
  rw[rG]at hl |-;by_cases e11:(ag l p).kd=11
  ·obtain⟨a,b2,c2,e1,hb2,hc2,h6,h7⟩:=hs.kif p hpl e11;rw[if_pos e11,dO e1,yo e1]at hl |-;by_cases he:(ag l c2).ks=[]
   ·rw[if_pos he,List.append_nil]at hl |-;exact Oh c b d hx p a b2 c2 _ _ t w hp (by omega) e11 e1 hln (hblk b2 hb2 h6) (by omega) he hb h hl
   ·rw[if_neg he]at hl |-;exact Oi c b d hx p a b2 c2 _ _ _ t w hp (by omega) e11 e1 hln (hblk b2 hb2 h6) (hblk c2 hc2 h7) (by omega) he hb h hl
  ·rw[if_neg e11]at hl |-;by_cases e12:(ag l p).kd=12
   ·obtain⟨a,b2,e1,hb2,h6⟩:=hs.wh p hpl e12;rw[if_pos e12,dO e1]at hl |-;exact QT c b d hx p a b2 _ _ t w hp (by omega) e12 e1 hln (hblk b2 hb2 h6) hb h hl
   ·rw[if_neg e12]at hl |-;by_cases e16:(ag l p).kd=16
    ·obtain⟨a,b2,e1,ha,hb2,h6,h7⟩:=hs.tr p hpl e16;rw[if_pos e16,aR e1,dO e1]at hl |-;exact QU c b d hx p a b2 _ _ _ t w hp (by omega) e16 e1 hln (hblk a ha h6) (hblk b2 hb2 h7) hb h hl
    ·rw[if_neg e16]at hl |-;exact Sq c b d hx p _ t w hp (by omega) e11 e12 e16 hln hb h hl
theorem Pg.grown {B b:Nat}{t:List UInt8}{w w':World}{row:Option Nat}(h:Pg B b t w)(hg:w.grownBy w' row)(hr:∀g,row=some g->∃cs,w.heap[g]?=some (.cells cs 3 (0,0))):Pg B b t w':=by
 have aux:∀p,Lib.BuilderAtF 118 5 B b p (Lib.byteCells t) w->Lib.BuilderAtF 118 5 B b p (Lib.byteCells t) w':=λp q=>by
  have hlt:=ui q;obtain⟨hB,v,hv,hown,hne⟩:=q;refine⟨hB,v,(hg.block b hlt λe =>?_).trans hv,hown.kept hg ?_,hne⟩
  ·obtain⟨cs,hcs⟩:=hr b e.symm;have:=hcs.symm.trans hv;simp at this
  ·rcases hown.2 with⟨e1,_⟩ |⟨g,cap,cur,fz,e1,_,e3,_⟩
   ·exact Or.inl (by rw[e1];rfl)
   ·refine Or.inr λe =>?_
    rw[e1]at e;obtain⟨cs,hcs⟩:=hr g (by rw[<- e];rfl);have:=hcs.symm.trans e3;simp at this
 rcases h with h |h
 ·exact .inl (aux _ h)
 ·exact .inr (aux _ h)
theorem lL {B b base n:Nat}{v:Value}{xs:List Value}{w w':World}(h:w.ownsRow base 3 1 v n xs)(q:Kp B b w w')(hb:b<base):w'.ownsRow base 3 1 v n xs:=
 ⟨h.1,h.2.imp id λ⟨g,cap,cur,h1,h2,h3,h4⟩=>⟨g,cap,cur,h1,h2,q.2 g _ h3 (λe=>by injection e with e;omega) (λc fz e=>by cases e),h4⟩⟩
theorem uY {base:Nat}{v:Value}{l:List Int}{w:World}(h:w.ownsRow base 3 1 v l.length (l.map (Value.int .i64))):∃A c,v=.slice A l.length c/\Ints w A l:=by
 rcases h.2 with⟨e,e2⟩ |⟨g,cap,cur,rfl,h2,h3,h4⟩
 ·exact⟨none,0,by rw[e,e2],λh0=>by omega⟩
 ·refine⟨_,_,rfl,λ_=>⟨g,0,rfl,(Array.getElem?_eq_some_iff.1 h3).1,λj hj =>?_⟩⟩;have:=h.cellAt j (by omega);rw[Nat.zero_add,this,List.getElem?_map,List.getElem?_eq_getElem hj];rfl
theorem sN {base n:Nat}{v:Value}{xs:List Value}{w:World}(h:w.ownsRow base 3 1 v n xs):∀g,v.ownBlock=some g->base<=g/\g<w.heap.size/\∃cs,w.heap[g]?=some (.cells cs 3 (0,0)):=λg hg=>by
 rcases h.2 with⟨e,_⟩ |⟨g',cap,cur,rfl,h2,h3,h4⟩
 ·rw[e]at hg;simp[Value.ownBlock]at hg
 ·simp only[Value.ownBlock,Option.some.injEq]at hg;subst hg;exact⟨h2,(Array.getElem?_eq_some_iff.1 h3).1,_,h3⟩
structure PL (B b:Nat) (t:List UInt8) (w:World) (PB NB:List Value) (v5 v6:Value) (l5 l6:List Int) (wr:World):Prop where
 pg:Pg B b t wr
 kp:Kp B b w wr
 bx:Bx wr w.heap.size 73 PB
 bn:Bx wr (w.heap.size+1) 37 NB
 o5:wr.ownsRow (w.heap.size+2) 3 1 v5 l5.length (l5.map (Value.int .i64))
 o6:wr.ownsRow (w.heap.size+2) 3 1 v6 l6.length (l6.map (Value.int .i64))
 ne:∀k,v5.ownBlock=some k->v6.ownBlock=some k->False
 sz:w.heap.size+2<=wr.heap.size
theorem C9 {B b:Nat}{t:List UInt8}{w wr w':World}{PB NB:List Value}{v:Value}{x:Int}{n:Nat}{xs:List Value}(hpg:Pg B b t wr)(hkp:Kp B b w wr)(hbx:Bx wr w.heap.size 73 PB)(hbn:Bx wr (w.heap.size+1) 37 NB)(ho:wr.ownsRow (w.heap.size+2) 3 1 v n xs)(hsz:w.heap.size+2<=wr.heap.size)(hBw:B<=w.heap.size)
  (hg:(wr.alloc (.cells #[.int .i64 x] 3)).grownBy w' v.ownBlock):Pg B b t w'/\Kp B b w w'/\Bx w' w.heap.size 73 PB/\Bx w' (w.heap.size+1) 37 NB/\w.heap.size+2<=w'.heap.size:=by
 have hsz1:(wr.alloc (.cells #[.int .i64 x] 3)).heap.size=wr.heap.size+1:=World.size_alloc _ _;have hbl:=sN ho;have h1:Below wr.heap.size wr (wr.alloc (.cells #[.int .i64 x] 3)):=aa _ _;have hs2:=hg.size;have hblk:∀(k:Nat) (o:Obj),wr.heap[k]?=some o->(∀c fz,o ≠ .cells c 3 fz)->w'.heap[k]?=some o:=λk o hk ho'=>by
  have hlt:k<wr.heap.size:=(Array.getElem?_eq_some_iff.1 hk).1;rw[hg.block k (by omega) (λe =>?_),h1.block k hlt,hk];obtain⟨_,_,cs,hcs⟩:=hbl k e.symm;rw[hcs]at hk;injection hk with hk
  exact ho' _ _ hk.symm
 have hlow:∀k,k<w.heap.size+2->w'.heap[k]?=wr.heap[k]?:=λk hk=>by
  rw[hg.block k (by omega) (λe =>?_),h1.block k (by omega)];have:=(hbl k e.symm).1;omega
 refine⟨(hpg.alloc _).grown hg λg e =>?_,⟨⟨hg.os.trans (h1.os.trans hkp.1.os),hg.tape.trans (h1.tape.trans hkp.1.tape),hg.output.trans (h1.output.trans hkp.1.output),by have:=hkp.1.size;omega,λk hk=>(hlow k (by omega)).trans (hkp.1.block k hk)⟩,λk o hk hb ho' =>?_⟩,hblk _ _ hbx (λc fz e=>by cases e),hblk _ _ hbn (λc fz e=>by cases e),by omega⟩
 ·obtain⟨_,hlt,cs,hcs⟩:=hbl g e;exact⟨cs,(h1.block g hlt).trans hcs⟩
 ·have hlt:k<w.heap.size:=(Array.getElem?_eq_some_iff.1 hk).1;exact(hlow k (by omega)).trans (hkp.2 k o hk hb ho')
theorem PL.app5 {B b:Nat}{t:List UInt8}{w wr w':World}{PB NB:List Value}{v5 v6 v':Value}{l5 l6:List Int}{x:Int}(h:PL B b t w PB NB v5 v6 l5 l6 wr)(hBw:B<=w.heap.size)(h2:w'.ownsRow (w.heap.size+2) 3 1 v' (l5++[x]).length ((l5++[x]).map (Value.int .i64)))(hg:(wr.alloc (.cells #[.int .i64 x] 3)).grownBy w' v5.ownBlock)
  (hv:∀k,v'.ownBlock=some k->v5.ownBlock=some k\/wr.heap.size+1<=k):PL B b t w PB NB v' v6 (l5++[x]) l6 w':=by
 obtain⟨a1,a2,a3,a4,a5⟩:=C9 h.pg h.kp h.bx h.bn h.o5 h.sz hBw hg;have h6:=sN h.o6;refine⟨a1,a2,a3,a4,h2,?_,λk e1 e2 =>?_,a5⟩
 ·have h1:=h.o6.kept (row:=none) (w':=wr.alloc (.cells #[.int .i64 x] 3)) (World.grownBy_alloc _ _ _) (Classical.em _);refine h1.kept hg ?_;rcases h.o6.2 with⟨e,_⟩ |⟨g,cap,cur,e,_⟩
  ·rw[e];exact Or.inl rfl
  ·refine Or.inr λe2 =>?_
   rw[e]at e2;exact h.ne g e2.symm (by rw[e];rfl)
 ·rcases hv k e1 with e |e
  ·exact h.ne k e e2
  ·have:=(h6 k e2).2.1;omega
theorem PL.app6 {B b:Nat}{t:List UInt8}{w wr w':World}{PB NB:List Value}{v5 v6 v':Value}{l5 l6:List Int}{x:Int}(h:PL B b t w PB NB v5 v6 l5 l6 wr)(hBw:B<=w.heap.size)(h2:w'.ownsRow (w.heap.size+2) 3 1 v' (l6++[x]).length ((l6++[x]).map (Value.int .i64)))(hg:(wr.alloc (.cells #[.int .i64 x] 3)).grownBy w' v6.ownBlock)
  (hv:∀k,v'.ownBlock=some k->v6.ownBlock=some k\/wr.heap.size+1<=k):PL B b t w PB NB v5 v' l5 (l6++[x]) w':=by
 obtain⟨a1,a2,a3,a4,a5⟩:=C9 h.pg h.kp h.bx h.bn h.o6 h.sz hBw hg;have h6:=sN h.o5;refine⟨a1,a2,a3,a4,?_,h2,λk e1 e2 =>?_,a5⟩
 ·have h1:=h.o5.kept (row:=none) (w':=wr.alloc (.cells #[.int .i64 x] 3)) (World.grownBy_alloc _ _ _) (Classical.em _);refine h1.kept hg ?_;rcases h.o5.2 with⟨e,_⟩ |⟨g,cap,cur,e,_⟩
  ·rw[e];exact Or.inl rfl
  ·refine Or.inr λe2 =>?_
   rw[e]at e2;exact h.ne g (by rw[e];rfl) e2.symm
 ·rcases hv k e2 with e |e
  ·exact h.ne k e1 e
  ·have:=(h6 k e1).2.1;omega
section
variable {ops:Array Oper} {rest:List Oper} {o:Oper} {a:Act} {Q:Exit->Act->World->Prop}
theorem wU (hgd:o.guard=none)(p x:Operand)(ho:o.op=.call {callee :=.builtin .append,args := #[p,x],argTypes := #[35,35]})(w:World)(base:Nat)(v:Value)(l:List Int)(k:Int)(hown:w.ownsRow base 3 1 v l.length (l.map (Value.int .i64)))(hbase:base<=w.heap.size)(hlen:l.length<=900000)(hs:a.eval p=v)
  (hx:a.eval x=.slice (some ⟨w.heap.size,0,none⟩) 1 1)
  (hk:∀v' w',w'.ownsRow base 3 1 v' (l++[k]).length ((l++[k]).map (Value.int .i64))->(w.alloc (.cells #[.int .i64 k] 3)).grownBy w' v.ownBlock->(∀j,v'.ownBlock=some j->v.ownBlock=some j\/w.heap.size+1<=j)->wpList Tryz.prog ops Q rest (a.put o.dst v') w'):wpList Tryz.prog ops Q (o :: rest) a (w.alloc (.cells #[.int .i64 k] 3)):=by
 obtain⟨i0,hi,hz0,hz1,hz2⟩:=info_parts info3;refine wpList_plain hgd λK hK =>?_
 refine gQ (w.alloc (.cells #[.int .i64 k] 3)) p x 35 ho base 3 i0 (.int .i64 0) 1 8 Tryz.underlying35 hi hz0 hz1 hz2 rfl (by decide) v l.length (l.map (Value.int .i64)) hs (hown.kept (row:=none) (World.grownBy_alloc _ _ _) (Classical.em _)) ⟨w.heap.size,0,none⟩ 1 1 [.int .i64 k] hx rfl (oW w [.int .i64 k] 3) ?_ (by unfold maxLen;omega) (by omega) (by rw[World.size_alloc];omega) ?_
 ·intro u hu;rw[List.mem_singleton.1 hu];rfl
 ·intro v' w' h2 h3 h4;refine hK _ _ (hk v' w' ?_ h3 (λj hj=>by have:=h4 j hj;rwa [World.size_alloc]at this));rw[List.length_append,List.map_append];exact h2
end
end
end Go.Proofs.YteecfjhjllajlaaGreatDoor
