/- PROVED: Bw By Bz. No more condition. -/
import Derived.Test.YteecfjhjllajlaaGreatDoorM35
namespace Go.Proofs.YteecfjhjllajlaaGreatDoor
open Go.Lib (hid)
open Go Go.RowKit
section
open Tr (nth aI gV dpt kr)
def wN (x:Nd):Nat:=x.tx.length+6+(if x.kd=20 then (Lib.itoa x.n).length else 0)
def mV (l:List Nd):Nat:=(l.map wN).sum
def JO (ts:List Tok)(n:Nat):Nat:=((ts.take n).map λt=>t.s.length).sum
theorem xz {kd n pl:Int}{tx:List UInt8}{ks:List Int}(h:kd≠20):wN ⟨kd,n,pl,tx,ks⟩=tx.length+6:=by
 show tx.length+6+(if kd=20 then _ else 0)=_;rw[if_neg h]
theorem R_ {n pl:Int}{tx:List UInt8}{ks:List Int}:wN ⟨20,n,pl,tx,ks⟩=tx.length+6+(Lib.itoa n).length:=by
 show tx.length+6+(if (20:Int)=20 then _ else 0)=_;rw[if_pos rfl]
theorem AL (a b:List Nd):mV (a++b)=mV a+mV b:=by unfold mV;rw[List.map_append,List.sum_append]
theorem AO (x:Nd):mV [x]=wN x:=by unfold mV;simp
theorem JD (ts:List Tok)(s:St):JO ts (ae s).nx=JO ts s.nx+(ah ts s).s.length:=by
 show JO ts (s.nx+1)=_;unfold JO ah;rw[List.take_add_one,List.map_append,List.sum_append,List.getD_eq_getElem?_getD];cases ts[s.nx]?<;>simp
theorem Qr (ts:List Tok)(n:Nat):JO ts n<=(ts.map λt=>t.s.length).sum:=by
 have h:=congrArg (λl:List Tok=>(l.map λt=>t.s.length).sum) (List.take_append_drop n ts);simp only[List.map_append,List.sum_append]at h;unfold JO;omega
def QB (ts:List Tok):Prop:=∀t ∈ ts,(t.k=1->1<=t.s.length)/\(t.k=2->1<=t.s.length/\(Lib.itoa t.n).length<=t.s.length)
theorem QB.tk {ts:List Tok}(h:QB ts)(s:St):((ah ts s).k=1->1<=(ah ts s).s.length)/\((ah ts s).k=2->1<=(ah ts s).s.length/\(Lib.itoa (ah ts s).n).length<=(ah ts s).s.length):=by
 unfold ah;rw[List.getD_eq_getElem?_getD];cases e:ts[s.nx]? with
 |none=>exact⟨(λq=>by cases q),(λq=>by cases q)⟩
 |some t=>exact h t (List.mem_of_getElem? e)
def Sz (ts:List Tok)(s:St)(k:Int)(r:Rs):Prop:=∀v s',r=.ok v s'->(mV s'.nd:Int)+7*(JO ts s.nx:Int)+k<=(mV s.nd:Int)+7*(JO ts s'.nx:Int)
section
variable {ts:List Tok}
theorem Sz.bind {s:St}{k k2:Int}{r:Rs}{f:List Int->St->Rs}(h:Sz ts s k r)(q:∀v s',Sz ts s' k2 (f v s'))(k3:Int)(hk:k3<=k+k2):Sz ts s k3 (r.bind f):=λv s' e=>by
 obtain⟨v1,s1,e1,e2⟩:=Rs.bind_ok e;have a:=h v1 s1 e1;have b:=q v1 s1 v s' e2;omega
theorem Sz.weak {s:St}{k k':Int}{r:Rs}(h:Sz ts s k r)(hk:k'<=k):Sz ts s k' r:=λv s' e=>by
 have a:=h v s' e;omega
theorem kH {s s':St}{v:List Int}(e1:s'.nd=s.nd)(e2:s'.nx=s.nx):Sz ts s 0 (.ok v s'):=λv2 s2 e=>by
 injection e with _ e
 subst e;rw[e1,e2];omega
theorem AP {s:St}{k:Int}{p e:Nat}:Sz ts s k (.no p e):=λv s' h=>by cases h
theorem Cg {s:St}{k:Int}:Sz ts s k .out:=λv s' h=>by cases h
theorem qI {s:St}(kd n pl:Int)(tx:List UInt8)(ks:List Int)(c:Int)(hc:c+(wN ⟨kd,n,pl,tx,ks⟩:Int)<=0):Sz ts s c (bv kd n pl tx ks s):=λv s' e=>by
 unfold bv at e;injection e with _ e
 subst e;show(mV (s.nd++[⟨kd,n,pl,tx,ks⟩]):Int)+7*(JO ts s.nx:Int)+c<=(mV s.nd:Int)+7*(JO ts s.nx:Int);rw[AL,AO];omega
theorem pF {s:St}{k:Int}{r:Rs}(h:Sz ts (ae s) k r):Sz ts s (k+7*((ah ts s).s.length:Int)) r:=λv s' e=>by
 have a:=h v s' e;rw[JD]at a;have e1:(ae s).nd=s.nd:=rfl;rw[e1]at a;omega
theorem JE (x:List UInt8)(s:St):Sz ts s (7*(x.length:Int)) (gI ts x s):=by
 unfold gI;split
 ·rename_i q;have e:(ah ts s).s=x:=by unfold sees at q;simpa using q
  have h:=pF (ts:=ts) (s:=s) (kH (s:=ae s) (v:=[]) rfl rfl);rw[e]at h;exact h.weak (by omega)
 ·exact AP
theorem DL (s:St):Sz ts s (7*((ah ts s).s.length:Int)) (eU ts s):=by
 unfold eU;split
 ·exact(pF (kH rfl rfl)).weak (by omega)
 ·exact AP
theorem Qs (s:St):Sz ts s 0 (kZ ts s):=by
 unfold kZ;split
 ·exact kH rfl rfl
 ·exact AP
theorem Ch (x:List UInt8)(s:St):Sz ts s (7*(x.length:Int)) (gL ts x s):=by
 unfold gL;split
 ·exact AP
 ·refine Sz.bind (k2:=0) (JE x s) (λ_ s =>?_) (7*(x.length:Int)) (by omega);exact kH rfl rfl
theorem JF (x:List UInt8)(s:St):Sz ts s (7*(x.length:Int)) (jd ts x s):=by
 unfold jd;refine Sz.bind (k2:=0) (JE x s) (λ_ s =>?_) (7*(x.length:Int)) (by omega);exact kH rfl rfl
theorem DN (kd:Nat)(hk:(kd:Int)≠20)(s:St)(c:Int)(hc:c+6<=7*((ah ts s).s.length:Int)):Sz ts s c (fO ts kd s):=by
 unfold fO;simp only;refine(pF ((DL (ae s)).bind (λ_ s2=>qI _ _ _ _ _ (-(6+((ah ts (ae s)).s.length:Int))) (by rw[xz hk];omega)) (-6) (by omega))).weak (by omega)
def NA (ts:List Tok)(rec:nM->St->Rs):Prop:=∀s,Sz ts s 0 (rec .una s)/\(∀r,1<=r->Sz ts s 0 (rec (.bin r) s))/\(∀r l,1<=r->Sz ts s 0 (rec (.loop r l) s))
end
section
variable {ts:List Tok} (hT:QB ts) {rec:nM->St->Rs} (hr:NA ts rec)
section
include hr
theorem DR (s:St):Sz ts s 0 (a_ rec s):=(hr s).2.1 1 (Nat.le_refl _)
theorem Qu (s:St):Sz ts s 0 (kN ts rec s):=by
 unfold kN;exact(Ch _ s).bind (λ_ s=>(DR hr s).bind (λ_ s=>(JF _ s).bind (λ_ s=>kH rfl rfl) 0 (by omega)) 0 (by omega)) 0 (by omega)
theorem JG (s:St):Sz ts s 0 ((gL ts [40] s).bind λ_ s=>(a_ rec s).bind λv s=>(jd ts [41] s).bind λ_ s =>.ok v s):=
 (Ch _ s).bind (λ_ s=>(DR hr s).bind (λ_ s=>(JF _ s).bind (λ_ s=>kH rfl rfl) 0 (by omega)) 0 (by omega)) 0 (by omega)
theorem MU (s:St)(h:(ah ts s).s=[45]\/(ah ts s).s=[33]):Sz ts s 0 (gN ts rec s):=by
 have hl:(ah ts s).s.length=1:=by rcases h with h |h<;>rw[h]<;>rfl
 unfold gN;simp only;refine(Ch _ s).bind (λ_ s2=>((hr s2).1).bind (λv s3 =>?_) (-7) (k2 := -7) (by omega)) 0 (by omega);intro v2 s' e;have a:=qI (ts:=ts) (s := {s3 with op:=s3.op-1}) 26 0 (ah ts s).p (ah ts s).s v (-7) (by rw[xz (by decide)];omega) v2 s' e;exact a
theorem Qv (r:Nat)(h:1<=r)(s:St):Sz ts s 0 (iF rec r s):=by
 unfold iF;split
 ·exact(hr s).1
 ·exact((hr s).2.1 _ (by omega)).bind (λ_ s=>(hr s).2.2 _ _ h) 0 (by omega)
theorem MV (r:Nat)(l:List Int)(h:1<=r)(s:St):Sz ts s 0 (iY ts rec r l s):=by
 unfold iY;simp only;split
 ·rename_i q;have hl:1<=(ah ts s).s.length:=by
   cases e:(ah ts s).s with
   |nil=>
    rw[e,show rowOf []=0 by decide]at q;omega
   |cons c t=>simp
  exact(pF (((hr _).2.1 _ (by omega)).bind (λ_ s2=>(qI _ _ _ _ _ (-((ah ts s).s.length+6:Int)) (by rw[xz (by decide)];omega)).bind (λ_ s3=>(hr s3).2.2 _ _ h) _ (Int.le_refl _)) (-((ah ts s).s.length+6:Int)) (by omega))).weak (by omega)
 ·exact kH rfl rfl
end
include hT hr
theorem MW (s:St)(h1:(ah ts s).k=1):Sz ts s 0 (gM ts rec s):=by
 have hl:=(hT.tk s).1 h1;unfold gM;simp only;refine(DL s).bind (λ_ s2 =>?_) 0 (k2 := -((ah ts s).s.length+6:Int)) (by omega);split
 ·exact(Qu hr s2).bind (λ_ s3=>qI _ _ _ _ _ (-((ah ts s).s.length+6:Int)) (by rw[xz (by decide)];omega)) _ (by omega)
 ·exact qI _ _ _ _ _ _ (by rw[xz (by decide)];omega)
theorem Qw (s:St):Sz ts s 0 (bg ts rec s):=by
 unfold bg;simp only;by_cases h1:(ah ts s).k=1
 ·rw[if_pos h1];exact MW hT hr s h1
 rw[if_neg h1];by_cases h2:(ah ts s).k=2
 ·rw[if_pos h2];have hl:=(hT.tk s).2 h2;exact(pF (qI _ _ _ _ _ (-(6+(Lib.itoa (ah ts s).n).length:Int)) (by rw[R_,List.length_nil];omega))).weak (by omega)
 rw[if_neg h2];by_cases h3:(ah ts s).s=[45]\/(ah ts s).s=[33]
 ·rw[if_pos h3];exact MU hr s h3
 rw[if_neg h3];by_cases h4:(ah ts s).s=fw\/(ah ts s).s=jh
 ·rw[if_pos h4];have hl:1<=(ah ts s).s.length:=by rcases h4 with h |h<;>rw[h]<;>decide
  exact(pF (qI _ _ _ _ _ (-6) (by rw[xz (by decide),List.length_nil];omega))).weak (by omega)
 rw[if_neg h4];by_cases h5:(ah ts s).s=tY
 ·rw[if_pos h5];exact DN 24 (by decide) s 0 (by rw[h5];decide)
 rw[if_neg h5];by_cases h6:(ah ts s).s=[38]
 ·rw[if_pos h6];exact DN 25 (by decide) s 0 (by rw[h6];decide)
 rw[if_neg h6];by_cases h7:(ah ts s).s=[40]
 ·rw[if_pos h7];exact JG hr s
 rw[if_neg h7];exact AP
end
theorem y8 {ts:List Tok}(hT:QB ts):∀f,NA ts (run ts f)
 |0=>λ_=>⟨Cg,λ_ _=>Cg,λ_ _ _=>Cg⟩
 |f+1=>λs=>⟨Qw hT (y8 hT f) s,λr h=>Qv (y8 hT f) r h s,λr l h=>MV (y8 hT f) r l h s⟩
theorem MX {ts:List Tok}(hT:QB ts){v:List Int}{s:St}(e:gP ts=.ok v s):mV s.nd<=7*(ts.map λt=>t.s.length).sum:=by
 have h:Sz ts st0 0 (gP ts):=((y8 hT (steps ts) st0).2.1 1 (Nat.le_refl _)).bind (λ_ s=>(Qs s).bind (λ_ s=>kH rfl rfl) 0 (by omega)) 0 (by omega);have a:=h v s e;have b:=Qr ts s.nx;have c:mV st0.nd=0:=rfl;omega
theorem NC:∀(l:List UInt8) (M acc u:Nat),Lib.parseUintM M acc l=.ok u->u<(acc+1)*10 ^ l.length
 | [],M,acc,u,h=>by
  unfold Lib.parseUintM at h;injection h with h
  subst h;show acc<(acc+1)*10 ^ 0;omega
 |c :: r,M,acc,u,h=>by
  unfold Lib.parseUintM at h;split at h
  case isFalse=>cases h
  case isTrue hc=>
   split at h
   ·cases h
   split at h
   ·cases h
   have ih:=NC r M _ u h;rw[List.length_cons,Nat.pow_succ,Nat.mul_comm (10 ^ r.length) 10,<- Nat.mul_assoc];exact Nat.lt_of_lt_of_le ih (Nat.mul_le_mul_right _ (by omega))
theorem DT:∀(k u:Nat),u<10 ^ k->1<=k->(Lib.decDigits u).length<=k
 |0,_,_,h=>absurd h (by omega)
 |k+1,u,h,_=>by
  rw[Lib.decDigits];split
  ·simp
  ·rename_i hu;rw[List.length_append,List.length_singleton];have hk:1<=k:=by
    rcases k with _ |k
    ·rw[Nat.zero_add,Nat.pow_one]at h;omega
    ·omega
   have:=DT k (u / 10) (by rw[Nat.pow_succ]at h;omega) hk;omega
theorem MZ {x:List UInt8}{v:Int}(h:Tk.nO x=some v):v.natAbs<10 ^ x.length:=by
 unfold Tk.nO at h;split at h
 ·cases h
 split at h
 case h_2=>cases h
 case h_1 u hu=>
  injection h with h
  subst h;cases x with
  |nil=>simp[Lib.parseIntB]at hu
  |cons c r=>
   have key:∀u:Nat,Lib.parseUintB 64 (if c.toNat=43\/c.toNat=45 then r else c :: r)=.ok u->u<10 ^ (c :: r).length:=by
    have gen:∀(y:List UInt8) (u:Nat),y.length<=(c :: r).length->Lib.parseUintB 64 y=.ok u->u<10 ^ (c :: r).length:=by
     intro y u hy hh;unfold Lib.parseUintB at hh;by_cases e:y=[]
     ·rw[if_pos e]at hh;cases hh
     ·rw[if_neg e]at hh;have:=NC _ _ _ _ hh;rw[Nat.zero_add,Nat.one_mul]at this;exact Nat.lt_of_lt_of_le this (Nat.pow_le_pow_right (by omega) hy)
    intro u hh;by_cases hc:c.toNat=43\/c.toNat=45
    ·rw[if_pos hc]at hh;exact gen _ _ (by simp) hh
    ·rw[if_neg hc]at hh;exact gen _ _ (Nat.le_refl _) hh
   unfold Lib.parseIntB at hu;simp only at hu;split at hu
   ·cases hu
   ·cases hu
   ·rename_i w hw;have:=key w hw;split at hu
    ·cases hu
    split at hu
    ·cases hu
    ·injection hu with hu
     subst hu;split<;>omega
theorem vY:∀(f:Nat) (l:List UInt8) (p:Nat) (us:List Tk.Tok),p<=l.length->Tk.lN f l p=.ok us->(us.map λt=>t.s.length).sum<=l.length-p/\∀t ∈ us,(t.k=1->1<=t.s.length)/\(t.k=2->1<=t.s.length/\Tk.cB t.s=2/\t.n=Tk.jA t.s)
 |0,l,p,us,_,h=>by
  simp only[Tk.lN]at h;injection h with h
  subst h;refine⟨Nat.zero_le _,λt ht =>?_⟩;rw[List.mem_singleton]at ht;subst ht;exact⟨(λq=>by cases q),(λq=>by cases q)⟩
 |f+1,l,p,us,hle,h=>by
  simp only[Tk.lN]at h;split at h
  case isFalse=>
   injection h with h
   subst h;refine⟨Nat.zero_le _,λt ht =>?_⟩;rw[List.mem_singleton]at ht;subst ht;exact⟨(λq=>by cases q),(λq=>by cases q)⟩
  case isTrue hp=>
   have hb:=Tk.eD hp;split at h
   ·have:=vY f l _ us hb.2 h;exact⟨by omega,this.2⟩
   split at h
   ·cases h
   ·rename_i hsc h0;cases h1:Tk.lN f l (Tk.jb l p) with
    |bad q=>rw[h1]at h;cases h
    |ok vs=>
     rw[h1]at h;have ih:=vY f l _ vs hb.2 h1;simp only[Tk.wX.pre]at h;injection h with h
     subst h;have hs:(Tk.sub l p (Tk.jb l p)).length=Tk.jb l p-p:=by unfold Tk.sub;rw[List.length_take,List.length_drop];omega
     refine⟨?_,λt ht =>?_⟩
     ·show(Tk.sub l p (Tk.jb l p)).length+(vs.map λt=>t.s.length).sum<=_;have:=ih.1;omega
     rcases List.mem_cons.1 ht with rfl |ht
     ·have h3:1<=(Tk.sub l p (Tk.jb l p)).length:=by omega
      exact⟨λ_=>h3,λq=>⟨h3,q,rfl⟩⟩
     ·exact ih.2 t ht
theorem M0 {l:List UInt8}{us:List Tk.Tok}(h:Tk.fT l 0=.ok us):QB (us.map um)/\((us.map um).map λt=>t.s.length).sum<=l.length:=by
 have hs:=vY _ _ _ _ (Nat.zero_le _) h;have hf:=(vJ h).1;refine⟨λt ht =>?_,?_⟩
 ·have hft:=hf t ht;obtain⟨u,hu,rfl⟩:=List.mem_map.1 ht;have h2:=hs.2 u hu;refine⟨h2.1,λq =>?_⟩;obtain⟨h3,h4,h5⟩:=h2.2 q;refine⟨h3,?_⟩;have h0:=(hft.2 q).1;show(Lib.itoa u.n).length<=u.s.length;have h0:0<=u.n:=h0;have hv:u.n=Tk.tQ u.s:=by rw[h5];unfold Tk.jA;rw[if_pos h4]
  have hlt:u.n.natAbs<10 ^ u.s.length:=by
   rw[hv];unfold Tk.tQ;cases e:Tk.nO u.s with
   |none=>exact Nat.pos_of_ne_zero (by simp)
   |some v=>exact MZ e
  unfold Lib.itoa;rw[if_neg (by omega)];exact DT _ _ (by omega) h3
 ·rw[List.map_map];have:=hs.1;rw[Nat.sub_zero]at this;exact this
end
section
open Tr (nth aI gV dpt kr eH lF)
theorem Sa (l:List Tr.Nd)(z:Int)(p:Int):wN (Ja z (ag l p))=(bu l p).length+6+(if (ag l p).kd=20 then (Lib.itoa (ag l p).n).length else 0):=rfl
theorem Qx {l:List Tr.Nd}{p:Nat}(h:p<l.length):mV (bf l 0 p (p+1))=(bu l p).length+6+(if (ag l p).kd=20 then (Lib.itoa (ag l p).n).length else 0):=by
 rw[yU 0 h,AO,Sa]
theorem JH (l:List Tr.Nd){a m e:Nat}(h1:a<=m)(h2:m<=e):mV (bf l 0 a e)=mV (bf l 0 a m)+mV (bf l 0 m e):=by
 rw[<- dG l 0 h1 h2,AL]
theorem Ci (l:List Tr.Nd)(ex:Int->List UInt8)(k:Int):(qW l ex k).length<=(ex k).length+2:=by
 unfold qW;split
 ·rw[List.length_append,List.length_append,List.length_singleton,List.length_singleton];omega
 ·omega
theorem JI {l:List Tr.Nd}{b d:Nat->Nat}(h:lD l b d)(hx:FH l):∀(f p:Nat),p<l.length->aI (ag l p).kd=true->(bE l f p).length<=mV (bf l 0 (b p) (p+1))
 |0,p,_,_=>Nat.zero_le _
 |f+1,p,hp,he=>by
  have ih:=JI h hx f;have hb:=h.st.le p hp;have hc:=JH l (a:=b p) (m:=p) (e:=p+1) hb (by omega);have ho:=Qx hp;rw[hc,ho,mF];clear hc ho;rcases gp he with e |e |e |e |e |e |e |e
  ·rw[if_pos e,if_pos e];omega
  ·rw[if_neg (by omega),if_pos e];have:∀q:Bool,(Lib.formatBool q).length<=5:=by intro q;cases q<;>decide
   have:=this ((ag l p).n==1);omega
  ·rw[if_neg (by omega),if_neg (by omega),if_pos e];omega
  ·rw[if_neg (by omega),if_neg (by omega),if_neg (by omega),if_pos e];obtain⟨k,hks,hlt,hke⟩:=hx.one p hp (Or.inl e);obtain⟨h1,h2⟩:=h.one hp hks;have hk:=ih k (by omega) hke;rw[aR hks,List.length_append,List.length_append,List.length_append,List.length_singleton,List.length_singleton];rw[h1,h2]at hk;omega
  ·rw[if_neg (by omega),if_neg (by omega),if_neg (by omega),if_neg (by omega),if_pos e,List.length_append];show 4+_<=_;omega
  ·rw[if_neg (by omega),if_neg (by omega),if_neg (by omega),if_neg (by omega),if_neg (by omega),if_pos e,List.length_append];show 1+_<=_;omega
  ·rw[if_neg (by omega),if_neg (by omega),if_neg (by omega),if_neg (by omega),if_neg (by omega),if_neg (by omega),if_pos e];obtain⟨k,hks,hlt,hke⟩:=hx.one p hp (Or.inr e);obtain⟨h1,h2⟩:=h.one hp hks;have hk:=ih k (by omega) hke;have hq:=Ci l (bE l f) k;rw[aR hks,List.length_append];rw[h1,h2]at hk;omega
  ·rw[if_neg (by omega),if_neg (by omega),if_neg (by omega),if_neg (by omega),if_neg (by omega),if_neg (by omega),if_neg (by omega),if_pos e];obtain⟨k,j,hks,hlt,hlt2,hke,hje⟩:=hx.two p hp e;obtain⟨h1,h2,h3⟩:=h.two hp hks;have hk:=ih k (by omega) hke;have hj:=ih j (by omega) hje;have hq:=Ci l (bE l f) k;have hq2:=Ci l (bE l f) j;have hb2:=h.st.le k (by omega);have hb3:=h.st.le j (by omega);have hc:=JH l (a:=b p) (m:=k+1) (e:=p) (by omega) (by omega);rw[aR hks,dO hks,List.length_append,List.length_append,List.length_append,List.length_append,List.length_singleton];rw[h1]at hk;rw[h2,h3]at hj;omega
theorem JJ {l:List Tr.Nd}{r:Int}(hx:Bn l r)(hnum:∀x ∈ l,x.n<=9223372036854775807)(hk:∀x ∈ l,x.ks.length<=2):∃b,lD l b (Tr.dpL l l.length)/\b (l.length-1)=0:=by
 obtain⟨b,h1,h2,h3,hS,h0⟩:=hx.snd;exact⟨b,⟨hS,hx.sh,Gp (jM hx.snd) hx.sh hnum (λx h=>by have:=hk x h;omega),Tr.zf hS⟩,h0⟩
theorem Qy (nd:List Nd):mV (bf (nd.map df) 0 0 nd.length)=mV nd:=by
 unfold bf mV;rw[List.drop_zero,Nat.sub_zero,List.take_of_length_le (by rw[List.length_map];exact Nat.le_refl _),List.map_map,List.map_map];congr 1
theorem Cj {t:List UInt8}{nd:List Nd}{k:Nat}(h:eG gP t=.good nd k):(fP (nd.map df) ((nd.length:Int)-1)).length<=7*t.length:=by
 have hR:=sV h;cases hc:Tk.fT t 0 with
 |bad q=>rw[kJ hc]at h;cases h
 |ok us=>
  obtain⟨hT,hs⟩:=M0 hc;rcases(q9 (w_ hc)).cases with⟨v,s',q,_⟩ |⟨p',e',q,_,_⟩
  case inr=>rw[oF hc q]at h;cases h
  rw[j5 hc q]at h;split at h
  ·cases h
  split at h
  ·cases h
  injection h with h _
  subst h;have h1:=MX hT q;obtain⟨b,hP,h0⟩:=JJ hR.ok hR.num hR.kids;have hpos:=hR.pos;have hlen:(s'.nd.map df).length=s'.nd.length:=List.length_map _;unfold fP;split
  ·have h2:=JI hP hP.ok.ex (s'.nd.map df).length (s'.nd.length-1) (by omega) (by
    rw[aS (by omega)]
    exact hR.ok.exp _ (List.getElem_mem _))
   rw[hlen]at h0;rw[h0,show s'.nd.length-1+1=s'.nd.length by omega,Qy]at h2;rw[show((s'.nd.length:Int)-1)=((s'.nd.length-1:Nat):Int)by omega];omega
  ·exact Nat.zero_le _
theorem xA {l:List Tr.Nd}{r:Int}(hx:Bn l r)(hnum:∀x ∈ l,x.n<=9223372036854775807)(hk:∀x ∈ l,x.ks.length<=2):∃nd k,eG gP (fP l r)=.good nd k/\bD (nd.map df) l/\(nd.length:Int)-1=r:=by
 obtain⟨b,hP,h0⟩:=JJ hx hnum hk;obtain⟨h1,h2,h3⟩:=jr hx.snd;have hrn:r=((l.length-1:Nat):Int):=by omega
 have hp:l.length-1<l.length:=by omega
 have hroot:aI (ag l ((l.length-1:Nat):Int)).kd=true:=by rw[aS hp];exact hx.exp _ (List.getElem_mem _)
 have hdep:Tr.dpL l l.length (l.length-1)<=40:=by
  have:=hx.dep
  rwa [Tr.jR hx.snd]at this
 have eT2:fP l r=bE l l.length ((l.length-1:Nat):Int):=by unfold fP;rw[hx.exB,hrn];rfl
 have hlex:=JA ((Jw hx.sh hP.ok.ex (l.length-1) hp hroot l.length hp).1) (show ug []from rfl);rw[<- eT2]at hlex;obtain⟨us,hc,hus⟩:=Tk.I9 hlex;have hrd:=(fV hP (l.length-1) hp hroot).2 (fq l l.length ((l.length-1:Nat):Int)++[eT]) l.length 0 st0 [eT] (steps (fq l l.length ((l.length-1:Nat):Int)++[eT])) hp rfl (by rw[h0];rfl) (by
  show 0+_<=_;split<;>omega) (by unfold steps;omega) (show([]:List UInt8)≠[91]by decide) (show rowOf []=0 by decide)
 obtain⟨n,m,e1,hd1⟩:=hrd;rw[h0,show l.length-1+1=l.length by omega]at e1;have hall:bf l 0 0 l.length=l.map (Ja 0):=by
  unfold bf;rw[List.drop_zero,Nat.sub_zero,List.take_of_length_le (Nat.le_refl _)]
 rw[hall]at e1;have hread:gP (fq l l.length ((l.length-1:Nat):Int)++[eT])=.ok [((l.length-1:Nat):Int)+0] ⟨n,l.map (Ja 0),0,m⟩:=by
  unfold gP jm a_;rw[e1,av];unfold kZ;rw[aY (s:=⟨n,st0.nd++l.map (Ja 0),st0.op,m⟩) hd1,if_pos (show eT.k=5 from rfl),av];rfl
 have her:(us.map um).map je=(fq l l.length ((l.length-1:Nat):Int)++[eT]).map je:=by
  rw[Nt,hus,List.map_map];rfl
 have h5:=Mw her;rw[hread]at h5;obtain⟨s',hs',hse⟩:=I_ h5;have hnd:s'.nd.map JM=(l.map (Ja 0)).map JM:=by
  have:=congrArg St.nd hse;exact this
 have hlen:s'.nd.length=l.length:=by have:=congrArg List.length hnd;simpa using this
 have hlike:bD (s'.nd.map df) l:=by
  have e2:(s'.nd.map JM).map (λx=>(x.kd,x.n,Tk.bs x.tx,x.ks))=l.map (λx=>(x.kd,x.n,x.tx,x.ks)):=by
   rw[hnd,List.map_map,List.map_map];refine List.map_congr_left λx _ =>?_
   show(x.kd,x.n,Tk.bs x.tx.data.toList,x.ks.map (· + 0))=_;rw[JB];simp
  unfold bD;rw[<- e2,List.map_map,List.map_map];rfl
 have hdp:dpt (s'.nd.map df) ((s'.nd.length:Int)-1)=dpt l r:=by rw[hlike.dpt,hlen,h3]
 refine⟨s'.nd,s'.mo,vX hc hs' (by omega) (by rw[hdp];exact hx.dep),hlike,by omega⟩
theorem bD.expr {l m:List Tr.Nd}(h:bD l m){r:Int}(h1:exB l r=true)(h2:exB m r=true):fP l r=fP m r:=by
 unfold fP;rw[h1,h2,if_pos rfl,if_pos rfl,h.ex,h.len]
end
section
set_option maxHeartbeats 4000000
set_option maxRecDepth 100000
open Tr (Bx aa bt eH dK gV lF dpt)
structure TF (l:List Tr.Nd):Prop where
 few:l.length<=4000
 kids:∀x ∈ l,x.ks.length<=4000
 text:∀x ∈ l,x.tx.size<=281474976710656
 num:∀x ∈ l,x.n<=9223372036854775807
theorem TF.nil:TF []:=⟨by decide,λ_ h=>(by cases h),λ_ h=>(by cases h),λ_ h=>(by cases h)⟩
theorem TF.tin {l:List Tr.Nd}(h:TF l){B:Nat}{w:World}{A:Option Addr}(hN:j3 B w A l)(hT:Tb w):BK w A l.length l:=⟨hN.nds,rfl,h.kids,h.text,h.num,hN.caps,hT⟩
theorem oU {a:t_}{w:World}{en:Ending}{w':World}(h:jw a w en w'):∃(A:Option Addr) (c:Nat) (l:List Tr.Nd) (r p er:Int),en=.returned (.tuple #[.agg #[.slice A l.length c,.int .i64 r],.int .i64 p,.int .i64 er])/\Below w.heap.size w w'/\j3 w.heap.size w' A l/\((∃nd k,a=.good nd k/\l=nd.map df/\r=(nd.length:Int)-1/\er=0)\/∃p' e':Nat,a=.bad p' e'/\l=[]/\r=0/\er=(e':Int)):=by
 cases a with
 |bad p e=>
  obtain⟨rfl,hb⟩:=IM h rfl;exact⟨none,0,[],0,_,_,rfl,hb,λh0=>absurd h0 (by decide),.inr ⟨p,e,rfl,rfl,rfl,rfl⟩⟩
 |good nd k=>
  obtain⟨A,c,rfl,hb,hN⟩:=sU h rfl;exact⟨A,c,nd.map df,_,0,0,by rw[List.length_map],hb,hN,.inl ⟨nd,k,rfl,rfl,rfl,rfl⟩⟩
theorem xB {l:List UInt8}{nd:List Nd}{k:Nat}(h:eG iH l=.good nd k):∃ts,SC ts nd:=by
 cases hc:Tk.fT l 0 with
 |bad q=>rw[kJ hc]at h;cases h
 |ok us=>exact⟨_,qw hc h⟩
theorem M3 {l:List UInt8}{p e:Nat}(h:eG iH l=.bad p e):e≠0:=by
 cases hc:Tk.fT l 0 with
 |bad q=>
  rw[kJ hc]at h;injection h with h1 h2
  subst h2;decide
 |ok us=>
  rcases(uI (w_ hc)).cases with⟨v,s',q,_⟩ |⟨p',e',q,⟨t,ht,hp⟩,he⟩
  ·rw[j5 hc q]at h;split at h
   ·injection h with h1 h2;subst h2;decide
   split at h
   ·injection h with h1 h2;subst h2;decide
   ·cases h
  ·rw[oF hc q]at h;injection h with h1 h2
   omega
theorem Ck:eZ [] 0=[]:=by
 unfold eZ;cases h:lF [] 0 with
 |false=>rfl
 |true=>
  have:=(jr (xg h).snd).1;exact absurd this (by decide)
theorem vZ:fP [] 0=[]:=by
 unfold fP;cases h:exB [] 0 with
 |false=>rfl
 |true=>
  have:=(jr (Bo h).snd).1;exact absurd this (by decide)
theorem DU {ts:List Tok}{nd:List Nd}(h:SC ts nd):TF (nd.map df):=⟨by rw[List.length_map];exact h.few,h.kids,h.text,h.num⟩
theorem DV {nd:List Nd}(h:Sb nd):TF (nd.map df):=⟨by rw[List.length_map];exact h.few,λx q=>by have:=h.kids x q;omega,λx q=>by have:=h.text x q;omega,h.num⟩
def M4 (F:List Tr.Nd->Int->Int->Prop)(w:World)(e:Ending)(w':World):Prop:=∃(A:Option Addr) (c:Nat) (l:List Tr.Nd) (r p er:Int),e=.returned (.tuple #[.agg #[.slice A l.length c,.int .i64 r],.int .i64 p,.int .i64 er])/\Below w.heap.size w w'/\j3 w.heap.size w' A l/\TF l/\F l r er
def Ta (l:List Tr.Nd)(r er:Int):Prop:=(er≠0->eZ l r=[])/\(er=0->lF l r=true/\sM l)
theorem JK (s:ByteArray)(w:World)(hE:Tk.mX w)(hs:s.size<=20000):Calls Tryz.prog 16 #[.string s] w (M4 Ta w):=
 (oD s w hE hs).mono λe w' q=>by
  obtain⟨A,c,l,r,p,er,rfl,hb,hN,hq⟩:=oU q;refine⟨A,c,l,r,p,er,rfl,hb,hN,?_⟩;rcases hq with⟨nd,k,ha,rfl,rfl,rfl⟩ |⟨p',e',ha,rfl,rfl,rfl⟩
  ·obtain⟨ts,hR⟩:=xB ha;exact⟨DU hR,λh=>absurd rfl h,λ_=>⟨hR.right,Gp (jM (xg hR.right).snd) (xg hR.right).sh hR.num hR.kids⟩⟩
  ·have:=M3 ha;exact⟨TF.nil,λ_=>Ck,λh=>by omega⟩
def Tq (l:List Tr.Nd)(r er:Int)(l2:List Tr.Nd)(r2 er2:Int):Prop:=er=0->(eZ l r).length<=20000->er2=0/\r2=r/\l2.length=l.length/\bD l l2
theorem Cm {l:List Tr.Nd}{r er:Int}(h:Ta l r er)(w:World)(hE:Tk.mX w):Calls Tryz.prog 16 #[.string (lZ (eZ l r))] w (M4 (Tq l r er) w):=by
 by_cases hl:20000<(eZ l r).length
 ·refine(y7 (lZ (eZ l r)) w (by rw[rQ];exact hl)).mono λe w' q =>?_
  obtain⟨A,c,l2,r2,p,er2,rfl,hb,hN,hq⟩:=oU q;refine⟨A,c,l2,r2,p,er2,rfl,hb,hN,?_⟩;rcases hq with⟨nd,k,ha,rfl,rfl,rfl⟩ |⟨p',e',ha,rfl,rfl,rfl⟩
  ·cases ha
  ·exact⟨TF.nil,λ_ h2=>absurd hl (by omega)⟩
 ·refine(oD (lZ (eZ l r)) w hE (by rw[rQ];omega)).mono λe w' q =>?_
  rw[vF]at q;obtain⟨A,c,l2,r2,p,er2,rfl,hb,hN,hq⟩:=oU q;refine⟨A,c,l2,r2,p,er2,rfl,hb,hN,?_⟩;rcases hq with⟨nd,k,ha,rfl,rfl,rfl⟩ |⟨p',e',ha,rfl,rfl,rfl⟩
  ·obtain⟨ts,hR⟩:=xB ha;refine⟨DU hR,λe0 _ =>?_⟩;obtain⟨hr,hx⟩:=h.2 e0;obtain⟨nd2,k2,ha2,hbk⟩:=AJ hr hx;rw[ha]at ha2;injection ha2 with ha2 _
   subst ha2;exact⟨rfl,hbk.root,by rw[List.length_map];exact hbk.len,hbk.like⟩
  ·refine⟨TF.nil,λe0 _ =>?_⟩;obtain⟨hr,hx⟩:=h.2 e0;obtain⟨nd2,k2,ha2,hbk⟩:=AJ hr hx;rw[ha]at ha2;cases ha2
def Tc (l:List Tr.Nd)(r er:Int):Prop:=(er≠0->fP l r=[])/\(fP l r).length<=20000/\(er=0->Bn l r)/\∀x ∈ l,x.ks.length<=2
theorem JL (s:ByteArray)(w:World)(hE:Tk.mX w)(hs:s.size<=1500):Calls Tryz.prog 29 #[.string s] w (M4 Tc w):=
 (vH s w hE (by omega)).mono λe w' q=>by
  obtain⟨A,c,l,r,p,er,rfl,hb,hN,hq⟩:=oU q;refine⟨A,c,l,r,p,er,rfl,hb,hN,?_⟩;rcases hq with⟨nd,k,ha,rfl,rfl,rfl⟩ |⟨p',e',ha,rfl,rfl,rfl⟩
  ·have hR:=sV ha;have h1:=Cj ha;have h2:s.data.toList.length=s.size:=by simp
   exact⟨DV hR,λh=>absurd rfl h,by omega,λ_=>hR.ok,hR.kids⟩
  ·have:=IQ ha;exact⟨TF.nil,λ_=>vZ,(by rw[vZ];decide),(λh=>by omega),λ_ h=>(by cases h)⟩
def Tt (l:List Tr.Nd)(r er:Int)(l2:List Tr.Nd)(r2 er2:Int):Prop:=(∀x ∈ l2,x.ks.length<=2)/\(er=0->er2=0/\r2=r/\l2.length=l.length/\bD l l2/\fP l2 r2=fP l r)
theorem Cn {l:List Tr.Nd}{r er:Int}(hF:TF l)(h:Tc l r er)(w:World)(hE:Tk.mX w):Calls Tryz.prog 29 #[.string (lZ (fP l r))] w (M4 (Tt l r er) w):=by
 refine(vH (lZ (fP l r)) w hE (by rw[rQ];exact h.2.1)).mono λe w' q =>?_
 rw[vF]at q;obtain⟨A,c,l2,r2,p,er2,rfl,hb,hN,hq⟩:=oU q;refine⟨A,c,l2,r2,p,er2,rfl,hb,hN,?_⟩;rcases hq with⟨nd,k,ha,rfl,rfl,rfl⟩ |⟨p',e',ha,rfl,rfl,rfl⟩
 ·have hR:=sV ha;refine⟨DV hR,hR.kids,λe0 =>?_⟩;obtain⟨nd2,k2,ha2,hlk,hrt⟩:=xA (h.2.2.1 e0) hF.num h.2.2.2;rw[ha]at ha2;injection ha2 with ha2 _
  subst ha2;refine⟨rfl,hrt,hlk.len,hlk.symm,?_⟩;have h1:=hR.ok.exB;rw[hrt]at h1 |-;exact hlk.expr h1 (h.2.2.1 e0).exB
 ·refine⟨TF.nil,λ_ h=>(by cases h),λe0 =>?_⟩;obtain⟨nd2,k2,ha2,hlk,hrt⟩:=xA (h.2.2.1 e0) hF.num h.2.2.2;rw[ha]at ha2;cases ha2
theorem v_ (s:ByteArray)(w:World)(hE:Tk.mX w)(hT:Tb w):Calls Tryz.prog 6 #[.string s] w (bP (.bool true) w):=by
 have HS:=hid (BS w hE hT);by_cases hs:1500<s.size
 ·have hz:(1500:Int)<(s.size:Int):=by omega
  clear hE hT;go_enter Tryz.func6,Tryz.ntmps6
  go_wp2_with (go_at_call 19;refine HS.out.mono ?_);rintro e w1 ⟨rfl,hb1⟩;have HB1:=hid hb1;clear hb1;go_wp2
  go_ret
  exact⟨rfl,HB1.out⟩
 have hz:¬(1500:Int)<(s.size:Int):=by omega
 have HET:=hid (And.intro hE hT);have H16:=hid (λw' (q:Below w.heap.size w w')=>JK s w' (hE.below q) (by omega));have H29:=hid (λw' (q:Below w.heap.size w w')=>JL s w' (hE.below q) (by omega));clear hE hT hs;go_enter Tryz.func6,Tryz.ntmps6
 go_wp2_with (go_at_call 19;refine HS.out.mono ?_);rintro e w1 ⟨rfl,hb1⟩;have HB1:=hid hb1;have HC1:=hid (H16.out w1 hb1);clear hb1 H16 HS;go_wp2_with (go_at_call 16;refine HC1.out.mono ?_);rintro e w2 ⟨A1,c1,l1,r1,p1,er1,rfl,hb2,hN,hF,hG⟩;have HB2:=hid (bt (bt HB1.out hb2) (aa w2 (.cells #[.slice A1 l1.length c1,.int .i64 r1] 25)));have HX1:=hid (Bx.new w2 25 [.slice A1 l1.length c1,.int .i64 r1]);have HN1:=hid (hN.below (aa w2 (.cells #[.slice A1 l1.length c1,.int .i64 r1] 25)));have HF1:=hid (And.intro hF hG);have HC2:=hid (mI A1 l1.length c1 l1 r1 _ (hF.tin HN1.out (HET.out.2.below HB2.out)));clear hb2 hN hF hG HC1;have e0:=(HX1.out.cell 0).trans rfl;have e1:=(HX1.out.cell 1).trans rfl;go_wp2_with (go_at_call 21;refine HC2.out.mono ?_);rintro e w3 ⟨rfl,hb3⟩;have HB3:=hid (bt HB2.out hb3);have HX13:=hid (HX1.out.below hb3 HX1.out.lt);have HN13:=hid (HN1.out.below hb3);have HC3:=hid (Cm HF1.out.2 w3 (HET.out.1.below HB3.out));clear hb3 e0 e1 HX1 HN1 HC2;go_wp2_with (go_at_call 16;refine HC3.out.mono ?_);rintro e w4 ⟨A2,c2,l2,r2,p2,er2,rfl,hb4,hN,hF,hG⟩;have HB34:=hid (bt hb4 (aa w4 (.cells #[.slice A2 l2.length c2,.int .i64 r2] 25)));have HB4:=hid (bt HB3.out HB34.out);have HX2:=hid (Bx.new w4 25 [.slice A2 l2.length c2,.int .i64 r2]);have HN2:=hid (hN.below (aa w4 (.cells #[.slice A2 l2.length c2,.int .i64 r2] 25)));have HF2:=hid (And.intro hF hG);have HX14:=hid (HX13.out.below HB34.out HX13.out.lt);have HN14:=hid (HN13.out.below HB34.out)
 have HC4:=hid (H29.out _ HB4.out);clear hb4 hN hF hG HC3 HX13 HN13 HB34 H29;go_wp2_with (go_at_call 29;refine HC4.out.mono ?_);rintro e w5 ⟨A3,c3,l3,r3,p3,er3,rfl,hb5,hN,hF,hG⟩;have HB45:=hid (bt hb5 (aa w5 (.cells #[.slice A3 l3.length c3,.int .i64 r3] 25)));have HB5:=hid (bt HB4.out HB45.out);have HX3:=hid (Bx.new w5 25 [.slice A3 l3.length c3,.int .i64 r3]);have HN3:=hid (hN.below (aa w5 (.cells #[.slice A3 l3.length c3,.int .i64 r3] 25)));have HF3:=hid (And.intro hF hG);have HX15:=hid (HX14.out.below HB45.out HX14.out.lt);have HN15:=hid (HN14.out.below HB45.out);have HX25:=hid (HX2.out.below HB45.out HX2.out.lt);have HN25:=hid (HN2.out.below HB45.out);have HC5:=hid (lS A3 l3.length c3 l3 r3 _ (hF.tin HN3.out (HET.out.2.below HB5.out)) (λx h=>by have:=hG.2.2.2 x h;omega));clear hb5 hN hF hG HC4 HX14 HN14 HX2 HN2 HB45;have e0:=(HX3.out.cell 0).trans rfl;have e1:=(HX3.out.cell 1).trans rfl;go_wp2_with (go_at_call 23;refine HC5.out.mono ?_);rintro e w6 ⟨rfl,hb6⟩;have HB6:=hid (bt HB5.out hb6);have HX16:=hid (HX15.out.below hb6 HX15.out.lt);have HN16:=hid (HN15.out.below hb6);have HX26:=hid (HX25.out.below hb6 HX25.out.lt);have HN26:=hid (HN25.out.below hb6);have HX36:=hid (HX3.out.below hb6 HX3.out.lt);have HN36:=hid (HN3.out.below hb6);have HC6:=hid (Cn HF3.out.1 HF3.out.2 w6 (HET.out.1.below HB6.out));clear hb6 e0 e1 HX15 HN15 HX25 HN25 HX3 HN3 HC5;go_wp2_with (go_at_call 29;refine HC6.out.mono ?_)
 rintro e w7 ⟨A4,c4,l4,r4,p4,er4,rfl,hb7,hN,hF,hG⟩;have HB67:=hid (bt hb7 (aa w7 (.cells #[.slice A4 l4.length c4,.int .i64 r4] 25)));have HB7:=hid (bt HB6.out HB67.out);have HX4:=hid (Bx.new w7 25 [.slice A4 l4.length c4,.int .i64 r4]);have HN4:=hid (hN.below (aa w7 (.cells #[.slice A4 l4.length c4,.int .i64 r4] 25)));have HF4:=hid (And.intro hF hG);have HX17:=hid (HX16.out.below HB67.out HX16.out.lt);have HN17:=hid (HN16.out.below HB67.out);have HX27:=hid (HX26.out.below HB67.out HX26.out.lt);have HN27:=hid (HN26.out.below HB67.out);have HX37:=hid (HX36.out.below HB67.out HX36.out.lt);have HN37:=hid (HN36.out.below HB67.out);clear hb7 hN hF hG HC6 HX16 HN16 HX26 HN26 HX36 HN36 HB67;have HSA:=hid (show er1=0->(eZ l1 r1).length<=20000->∀w',Below (w7.alloc (.cells #[.slice A4 l4.length c4,.int .i64 r4] 25)).heap.size (w7.alloc (.cells #[.slice A4 l4.length c4,.int .i64 r4] 25)) w'->Calls Tryz.prog 28 #[.agg #[.slice A1 l1.length c1,.int .i64 r1],.agg #[.slice A2 l2.length c2,.int .i64 r2]] w' (dK true w')from λh1 h2 w' q=>by
  obtain⟨_,q2,q3,q4⟩:=HF2.out.2 h1 h2;rw[q2,q3];exact Ai A1 A2 l1.length c1 c2 r1 l1 l2 w' (HN17.out.below q).nds (HN27.out.below q).nds q4 rfl HF1.out.1.few HF1.out.1.kids)
 have HSE:=hid (show er3=0->∀w',Below (w7.alloc (.cells #[.slice A4 l4.length c4,.int .i64 r4] 25)).heap.size (w7.alloc (.cells #[.slice A4 l4.length c4,.int .i64 r4] 25)) w'->Calls Tryz.prog 28 #[.agg #[.slice A3 l3.length c3,.int .i64 r3],.agg #[.slice A4 l4.length c4,.int .i64 r4]] w' (dK true w')from λh1 w' q=>by
  obtain⟨_,q2,q3,q4,_⟩:=HF4.out.2.2 h1
  rw[q2,q3]
  exact Ai A3 A4 l3.length c3 c4 r3 l3 l4 w' (HN37.out.below q).nds (HN4.out.below q).nds q4 rfl HF3.out.1.few HF3.out.1.kids)
 have HPE:=hid (show er3=0->∀w',Below (w7.alloc (.cells #[.slice A4 l4.length c4,.int .i64 r4] 25)).heap.size (w7.alloc (.cells #[.slice A4 l4.length c4,.int .i64 r4] 25)) w'->Calls Tryz.prog 23 #[.agg #[.slice A4 l4.length c4,.int .i64 r4]] w' (bP (.string (lZ (fP l3 r3))) w')from λh1 w' q=>by
  obtain⟨_,q2,q3,q4,q5⟩:=HF4.out.2.2 h1
  rw[<- q5]
  exact lS A4 l4.length c4 l4 r4 w' (HF4.out.1.tin (HN4.out.below q) (HET.out.2.below (bt HB7.out q))) (λx h=>by have:=HF4.out.2.1 x h;omega))
 have HW:=hid (Below.refl (w7.alloc (.cells #[.slice A4 l4.length c4,.int .i64 r4] 25)).heap.size (w7.alloc (.cells #[.slice A4 l4.length c4,.int .i64 r4] 25)));have HP0:=hid HF1.out.2.1;have HQ0:=hid HF3.out.2.1;have HE2:=hid (show er1=0->(eZ l1 r1).length<=20000->er2=0 from λh1 h2=>(HF2.out.2 h1 h2).1);have HE4:=hid (show er3=0->er4=0 from λh1=>(HF4.out.2.2 h1).1);clear HN17 HN27 HN37 HN4 HF1 HF2 HF3 HF4 HET;generalize eZ l1 r1=P at *
 generalize fP l3 r3=Q at *
 obtain⟨W,hW⟩:∃W,w7.alloc (.cells #[.slice A4 l4.length c4,.int .i64 r4] 25)=W:=⟨_,rfl⟩;rw[hW]at HX17 HX27 HX37 HX4 HB7 HSA HSE HPE HW;have HWW:=hid hW;clear hW;have hsz:(lZ P).size=P.length:=rQ P;by_cases h1:er1=0
 ·have HSA1:=hid (HSA.out h1);have HE21:=hid (HE2.out h1);subst h1;clear HSA HE2 HP0;by_cases h2:20000<P.length
  ·have hy:(20000:Int)<((lZ P).size:Int):=by rw[hsz];omega
   have hyd:decide ((20000:Int)<((lZ P).size:Int))=true:=decide_eq_true hy;clear hsz h2 HSA1 HE21;by_cases h3:er3=0
   ·have HSE1:=hid (HSE.out h3);have HPE1:=hid (HPE.out h3);have h44:=HE4.out h3;subst h3;subst h44;clear HSE HPE HE4 HQ0;have e0:=(HX37.out.cell 0).trans rfl;have e1:=(HX37.out.cell 1).trans rfl;have g0:=(HX4.out.cell 0).trans rfl;have g1:=(HX4.out.cell 1).trans rfl;rw[<- HWW.out]at e0 e1 g0 g1;go_wp2_with (go_at_call 28;rw[HWW.out];refine(HSE1.out _ HW.out).mono ?_);rintro e w9 ⟨rfl,hb9⟩;have HB9:=hid (bt HB7.out hb9);have HPE9:=hid (HPE1.out w9 (bt HW.out hb9));have HX49:=hid (HX4.out.below hb9 HX4.out.lt);clear hb9 e0 e1 g0 g1;have e0:=(HX49.out.cell 0).trans rfl;have e1:=(HX49.out.cell 1).trans rfl;go_wp2_with (go_at_call 23;refine HPE9.out.mono ?_);rintro e w10 ⟨rfl,hb10⟩;have HB10:=hid (bt HB9.out hb10);clear hb10 e0 e1;go_wp2
    go_ret
    exact⟨by simp,HB10.out⟩
   ·have hq:=HQ0.out h3;subst hq;have hem2:=uy;clear HSE HPE HE4 HQ0;go_wp2
    go_ret
    exact⟨by simp,by rw[HWW.out];exact HB7.out⟩
  ·have hy:¬(20000:Int)<((lZ P).size:Int):=by rw[hsz];omega
   have hyd:decide ((20000:Int)<((lZ P).size:Int))=false:=decide_eq_false hy;have h22:=HE21.out (by omega);have HSA2:=hid (HSA1.out (by omega));subst h22;clear hsz h2 HSA1 HE21;have e0:=(HX17.out.cell 0).trans rfl;have e1:=(HX17.out.cell 1).trans rfl;have g0:=(HX27.out.cell 0).trans rfl;have g1:=(HX27.out.cell 1).trans rfl;rw[<- HWW.out]at e0 e1 g0 g1;go_wp2_with (go_at_call 28;rw[HWW.out];refine(HSA2.out _ HW.out).mono ?_);rintro e w8 ⟨rfl,hb8⟩;have HB8:=hid (bt HB7.out hb8);have HW8:=hid hb8;have HX38:=hid (HX37.out.below hb8 HX37.out.lt);have HX48:=hid (HX4.out.below hb8 HX4.out.lt);clear hb8 e0 e1 g0 g1 HX17 HX27 HX37 HX4 HB7 HW HWW;by_cases h3:er3=0
   ·have HSE1:=hid (HSE.out h3);have HPE1:=hid (HPE.out h3);have h44:=HE4.out h3;subst h3;subst h44;clear HSE HPE HE4 HQ0;have e0:=(HX38.out.cell 0).trans rfl;have e1:=(HX38.out.cell 1).trans rfl;have g0:=(HX48.out.cell 0).trans rfl;have g1:=(HX48.out.cell 1).trans rfl;go_wp2_with (go_at_call 28;refine(HSE1.out _ HW8.out).mono ?_);rintro e w9 ⟨rfl,hb9⟩;have HB9:=hid (bt HB8.out hb9);have HPE9:=hid (HPE1.out w9 (bt HW8.out hb9));have HX49:=hid (HX48.out.below hb9 HX48.out.lt);clear hb9 e0 e1 g0 g1;have e0:=(HX49.out.cell 0).trans rfl;have e1:=(HX49.out.cell 1).trans rfl;go_wp2_with (go_at_call 23;refine HPE9.out.mono ?_);rintro e w10 ⟨rfl,hb10⟩;have HB10:=hid (bt HB9.out hb10);clear hb10 e0 e1;go_wp2
    go_ret
    exact⟨by simp,HB10.out⟩
   ·have hq:=HQ0.out h3;subst hq;have hem2:=uy;clear HSE HPE HE4 HQ0;go_wp2
    go_ret
    exact⟨by simp,HB8.out⟩
 ·have hp:=HP0.out h1;subst hp;have hem:=uy;clear hsz HSA HE2 HP0;by_cases h3:er3=0
  ·have HSE1:=hid (HSE.out h3);have HPE1:=hid (HPE.out h3);have h44:=HE4.out h3;subst h3;subst h44;clear HSE HPE HE4 HQ0;have e0:=(HX37.out.cell 0).trans rfl;have e1:=(HX37.out.cell 1).trans rfl;have g0:=(HX4.out.cell 0).trans rfl;have g1:=(HX4.out.cell 1).trans rfl;rw[<- HWW.out]at e0 e1 g0 g1;go_wp2_with (go_at_call 28;rw[HWW.out];refine(HSE1.out _ HW.out).mono ?_);rintro e w9 ⟨rfl,hb9⟩;have HB9:=hid (bt HB7.out hb9);have HPE9:=hid (HPE1.out w9 (bt HW.out hb9));have HX49:=hid (HX4.out.below hb9 HX4.out.lt);clear hb9 e0 e1 g0 g1;have e0:=(HX49.out.cell 0).trans rfl;have e1:=(HX49.out.cell 1).trans rfl;go_wp2_with (go_at_call 23;refine HPE9.out.mono ?_);rintro e w10 ⟨rfl,hb10⟩;have HB10:=hid (bt HB9.out hb10);clear hb10 e0 e1;go_wp2
   go_ret
   exact⟨by simp,HB10.out⟩
  ·have hq:=HQ0.out h3;subst hq;have hem2:=uy;clear HSE HPE HE4 HQ0;go_wp2
   go_ret
   exact⟨by simp,by rw[HWW.out];exact HB7.out⟩
end
end Go.Proofs.YteecfjhjllajlaaGreatDoor
