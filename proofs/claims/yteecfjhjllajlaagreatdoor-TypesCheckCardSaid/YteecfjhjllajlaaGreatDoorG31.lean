/- PROVED: Da. No more condition. -/
import Derived.Test.YteecfjhjllajlaaGreatDoorG27
namespace Go.Proofs.YteecfjhjllajlaaGreatDoor
section
open Go
open Tr (nth dA aL bE ay nI kw bi gN vX lh aX dG dO sI iY aA gF ig)
theorem Aa {b:Nat->Nat}:∀(ks:List Int) (s e:Nat),(∀q,q<s->b q<=q)->ig b ks s=some e->ks.Pairwise (· > ·)
 | [],_,_,_,_=>List.Pairwise.nil
 |k :: ks,s,e,hb,h=>by
  unfold ig at h;by_cases h0:s=0
  ·rw[if_pos h0]at h;cases h
  rw[if_neg h0]at h;have hb1:=hb (s-1) (by omega);by_cases hk:k=(s:Int)-1
  ·rw[if_pos hk]at h;refine List.pairwise_cons.2 ⟨λx hx =>?_,Aa ks (b (s-1)) e (λq hq=>hb q (by omega)) h⟩;obtain⟨m,hm,h1,_⟩:=Tr.iK ks (b (s-1)) e (λq hq=>hb q (by omega)) h x hx;show x<k;omega
  ·rw[if_neg hk]at h;cases h
theorem jP.asc {l:List Tr.Nd}{b:Nat->Nat}(h:jP l b){p:Nat}(hp:p<l.length):(ae l p).ks.Pairwise (· < ·):=by
 have h1:=h.st p hp;rw[gz hp]at h1;have h2:=Aa _ _ _ (λq hq=>h.st.le q (by omega)) h1;exact List.pairwise_reverse.1 h2
theorem jP.nat {l:List Tr.Nd}{b:Nat->Nat}(h:jP l b){p:Nat}(hp:p<l.length):∀k ∈ (ae l p).ks,∃m:Nat,k=(m:Int)/\m<p:=λk hk=>by
 have h1:=h.st p hp;rw[gz hp]at h1;obtain⟨m,e,h2,_⟩:=Tr.iK _ p (b p) (λq hq=>h.st.le q (by omega)) h1 k (List.mem_reverse.2 hk);exact⟨m,e,h2⟩
theorem oH {ks:List Int}{P:Int->Bool}{Q:Nat->Bool}{N:Nat}(hs:ks.Pairwise (· < ·))(hn:∀k ∈ ks,∃m:Nat,k=(m:Int)/\m<N)(hQ:∀j:Nat,j<N->(Q j=true↔(j:Int) ∈ ks/\P j=true)):(ks.find? P).getD (-1)=a_ (iH Q 0 N):=by
 cases e:ks.find? P with
 |none=>
  have h1:iH Q 0 N=none:=by
   cases e2:iH Q 0 N with
   |none=>rfl
   |some q=>
    obtain⟨_,h2,h3,_⟩:=dQ e2;obtain⟨h4,h5⟩:=(hQ q h2).1 h3;exact absurd h5 (List.find?_eq_none.1 e _ h4)
  rw[h1];rfl
 |some k=>
  rw[List.find?_eq_some_iff_append]at e;obtain⟨h1,us,bs,h2,h3⟩:=e;have hk:k ∈ ks:=by rw[h2];simp
  obtain⟨m,rfl,hm⟩:=hn k hk;have hf:iH Q 0 N=some m:=vg (Nat.zero_le m) hm ((hQ m hm).2 ⟨hk,h1⟩) (λj _ hj=>by
   cases e2:Q j with
   |false=>rfl
   |true=>
    obtain⟨h4,h5⟩:=(hQ j (by omega)).1 e2;exfalso;rw[h2]at h4 hs;rcases List.mem_append.1 h4 with h6 |h6
    ·have:=h3 _ h6;rw[h5]at this;simp at this
    ·rcases List.mem_cons.1 h6 with h7 |h7
     ·omega
     ·have:=(List.pairwise_cons.1 (List.pairwise_append.1 hs).2.1).1 _ h7;omega)
  rw[hf];rfl
theorem EM {k:Int}{ks:List Int}(hk:4<=k)(h:ay k ks=true):∀x ∈ ks,6<=x:=λx hx=>by
 have hex:∀y,aL y=true->6<=y:=λy hy=>by unfold aL at hy;simp only[Bool.and_eq_true,decide_eq_true_eq]at hy;omega
 have hst:∀y,dA y=true->6<=y:=λy hy=>by unfold dA at hy;simp only[Bool.and_eq_true,decide_eq_true_eq]at hy;omega
 have hal:∀ {ys:List Int},bE ys=true->∀y ∈ ys,6<=y:=λhys y hy=>hex y (List.all_eq_true.1 hys y hy)
 unfold ay at h;rw[if_neg (by omega),if_neg (by omega)]at h;split at h
 ·exact hst x (List.all_eq_true.1 h x hx)
 split at h
 ·exact hal (by simp only[Bool.and_eq_true]at h;exact h.2) x hx
 split at h
 ·exact hal (by simp only[Bool.and_eq_true]at h;exact h.2) x hx
 split at h
 ·simp only[Bool.and_eq_true,decide_eq_true_eq]at h;obtain⟨a,rfl⟩:=kJ h.1;rw[List.mem_singleton.1 hx];have:=h.2;simp at this;omega
 split at h
 ·simp only[Bool.and_eq_true,decide_eq_true_eq]at h;obtain⟨a,b,rfl⟩:=il h.1.1;have h2:=h.1.2;have h3:=h.2;simp at h2 h3;simp at hx;rcases hx with rfl |rfl
  ·omega
  ·exact hex _ h3
 split at h
 ·simp only[Bool.and_eq_true,decide_eq_true_eq]at h;obtain⟨a,b,c,rfl⟩:=ma h.1.1.1;have h1:=h.1.1.2;have h2:=h.1.2;have h3:=h.2;simp at h1 h2 h3;simp at hx;rcases hx with rfl |rfl |rfl
  ·exact hex _ h1
  ·omega
  ·omega
 split at h
 ·simp only[Bool.and_eq_true,decide_eq_true_eq]at h;obtain⟨a,b,rfl⟩:=il h.1.1;have h1:=h.1.2;have h2:=h.2;simp at h1 h2;simp at hx;rcases hx with rfl |rfl
  ·exact hex _ h1
  ·omega
 split at h
 ·simp only[Bool.and_eq_true,decide_eq_true_eq]at h;rcases ks with _ |⟨a,ks⟩
  ·cases hx
  have h1:=h.1.2;have h2:=h.2;simp at h1 h2;rcases List.mem_cons.1 hx with rfl |hx
  ·omega
  ·exact hal h2 x hx
 split at h
 ·exact hal (by simp only[Bool.and_eq_true]at h;exact h.2) x hx
 split at h
 ·simp only[Bool.and_eq_true,decide_eq_true_eq]at h;obtain⟨a,b,rfl⟩:=il h.1.1;have h1:=h.1.2;have h2:=h.2;simp at h1 h2;simp at hx;rcases hx with rfl |rfl<;>omega
 ·have:=of_decide_eq_true h;rw[List.length_eq_zero_iff.1 this]at hx;cases hx
theorem xH {ks:List Int}(h:ay 2 ks=true):ks=[]:=by simpa [ay]using h
theorem jP.inProc {l:List Tr.Nd}{b:Nat->Nat}(h:jP l b){q:Nat}(hq:q<l.length)(h45:(ae l q).kd=4\/(ae l q).kd=5):∃p:Nat,p<l.length/\(ae l p).kd=3/\(q:Int) ∈ (ae l p).ks/\eQ l q=(p:Int):=by
 have hr:q<l.length-1:=by
  have:q≠l.length-1:=λe=>by rw[e,h.root]at h45;omega
  omega
 obtain⟨p,hp,_,hk⟩:=h.par hr;have hkd:=(dJ h.sh hp).kid;have hlo:=(dJ h.sh hp).lo;have hin:=iq hk;have h3:(ae l p).kd=3:=by
  rcases Int.lt_or_le 3 (ae l p).kd with h4 |h4
  ·have:=EM (by omega) hkd _ hin;omega
  ·by_cases e1:(ae l p).kd=1
   ·rw[e1]at hkd;have:=ol (show bi (eH l p) 2 3 0=true from hkd) _ hin;omega
   by_cases e2:(ae l p).kd=2
   ·rw[e2]at hkd;rw[xH hkd]at hin;cases hin
   omega
 refine⟨p,hp,h3,hk,?_⟩;rw[h.kid hp hk (by omega),rT hp h3]
theorem jP.inRoot {l:List Tr.Nd}{b:Nat->Nat}(h:jP l b){q:Nat}(hq:q<l.length)(h23:(ae l q).kd=2\/(ae l q).kd=3):(q:Int) ∈ (ae l ((l.length-1:Nat):Int)).ks:=by
 have hr:q<l.length-1:=by
  have:q≠l.length-1:=λe=>by rw[e,h.root]at h23;omega
  omega
 obtain⟨p,hp,_,hk⟩:=h.par hr;have hkd:=(dJ h.sh hp).kid;have hlo:=(dJ h.sh hp).lo;have hin:=iq hk;have h1:(ae l p).kd=1:=by
  rcases Int.lt_or_le 2 (ae l p).kd with h4 |h4
  ·have:=zU (by omega) hkd _ hin;omega
  ·by_cases e2:(ae l p).kd=2
   ·rw[e2]at hkd;rw[xH hkd]at hin;cases hin
   omega
 have:=h.only1 hp h1;rw[<- this];exact hk
section
variable (l:List Tr.Nd)
def EZ (a b:Int)(nm:ByteArray)(k:Int):Bool:=(decide ((ae l k).kd=a) || decide ((ae l k).kd=b))&&decide ((ae l k).tx=nm)
def vJ (p a b:Int)(nm:ByteArray):Int:=((ae l p).ks.find? (EZ l a b nm)).getD (-1)
end
theorem oI {l:List Tr.Nd}{p:Nat}(hp:p<l.length)(h:(ae l p).kd=2):eQ l p = -1:=by rw[fI hp,if_pos h]
theorem jP.of45 {l:List Tr.Nd}{b:Nat->Nat}(h:jP l b){o:Nat}(ho:o<l.length)(h3:(ae l o).kd=3)(nm:ByteArray):vJ l o 4 5 nm=a_ (qo l o nm 0):=by
 refine oH (h.asc ho) (λk hk =>?_) (λj hj =>?_)
 ·obtain⟨m,e,hm⟩:=h.nat ho k hk;exact⟨m,e,by omega⟩
 ·unfold wU jy EZ;simp only[Bool.and_eq_true,Bool.or_eq_true,decide_eq_true_eq];constructor
  ·rintro⟨h1,h2,h4⟩;rcases h1 with e |e
   ·rw[oI hj e]at h2;omega
   ·obtain⟨p,hp,_,hk,hw⟩:=h.inProc hj e;have:p=o:=by omega
    subst this;exact⟨hk,e,h4⟩
  ·rintro⟨h1,h2,h4⟩;refine⟨Or.inr h2,?_,h4⟩;rw[h.kid ho h1 (by omega),rT ho h3]
theorem jP.of22 {l:List Tr.Nd}{b:Nat->Nat}(h:jP l b)(nm:ByteArray):vJ l ((l.length-1:Nat):Int) 2 2 nm=a_ (qo l (-1) nm 0):=by
 have hl:=h.len;refine oH (h.asc (by omega)) (λk hk =>?_) (λj hj =>?_)
 ·obtain⟨m,e,hm⟩:=h.nat (p:=l.length-1) (by omega) k hk;exact⟨m,e,by omega⟩
 ·unfold wU jy EZ;simp only[Bool.and_eq_true,Bool.or_eq_true,decide_eq_true_eq,or_self];constructor
  ·rintro⟨h1,h2,h4⟩;rcases h1 with e |e
   ·exact⟨h.inRoot hj (Or.inl e),e,h4⟩
   ·obtain⟨p,hp,_,hk,hw⟩:=h.inProc hj e;omega
  ·rintro⟨h1,h2,h4⟩;exact⟨Or.inl h2,oI hj h2,h4⟩
theorem jP.of33 {l:List Tr.Nd}{b:Nat->Nat}(h:jP l b)(nm:ByteArray):vJ l ((l.length-1:Nat):Int) 3 3 nm=a_ (ic l nm 0):=by
 have hl:=h.len;refine oH (h.asc (by omega)) (λk hk =>?_) (λj hj =>?_)
 ·obtain⟨m,e,hm⟩:=h.nat (p:=l.length-1) (by omega) k hk;exact⟨m,e,by omega⟩
 ·unfold Ev EZ;simp only[Bool.and_eq_true,decide_eq_true_eq,or_self,Bool.or_eq_true];constructor
  ·rintro⟨h1,h4⟩;exact⟨h.inRoot hj (Or.inr h1),h1,h4⟩
  ·rintro⟨h1,h2,h4⟩;exact⟨h2,h4⟩
theorem jP.mean {l:List Tr.Nd}{b:Nat->Nat}(h:jP l b){p o:Nat}(how:eQ l p=(o:Int))(nm:ByteArray):a_ (eO l p nm)=if vJ l o 4 5 nm<0 then vJ l ((l.length-1:Nat):Int) 2 2 nm else vJ l o 4 5 nm:=by
 have ho:o<l.length/\(ae l o).kd=3:=by
  rcases pU l p with e |⟨q,e,_,h2,h3⟩
  ·omega
  ·have:q=o:=by omega
   subst this;exact⟨h2,h3⟩
 rw[h.of45 ho.1 ho.2,h.of22];unfold eO;rw[if_neg (by omega),how];cases qo l (o:Int) nm 0 with
 |none=>rfl
 |some d=>
  rw[if_neg (by show¬((d:Nat):Int)<0;omega)];rfl
end
end Go.Proofs.YteecfjhjllajlaaGreatDoor
