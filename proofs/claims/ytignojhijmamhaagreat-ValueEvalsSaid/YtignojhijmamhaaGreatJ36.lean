/- PROVED here: parts TyDa of the claim. No condition but those in each theorem's own head. -/
import Derived.Test.YtignojhijmamhaaGreatJ07
import Derived.Test.YtignojhijmamhaaGreatJ18
namespace Go.Proofs.YtignojhijmamhaaGreat.Ty
section
open Go
open Tr (nth stmB expB allB kidB ndB shB risB run1 ri1 ri2 numB txB idB sgB StU kidsAt Snd stK)
theorem stK_asc {b:Nat→Nat}:∀(ks:List Int) (s e:Nat),(∀q,q<s→b q≤q)→stK b ks s=some e→ks.Pairwise (· > ·)
 | [],_,_,_,_=>List.Pairwise.nil
 |k :: ks,s,e,hb,h=>by
  unfold stK at h
  by_cases h0:s=0
  ·rw[if_pos h0]at h;cases h
  rw[if_neg h0]at h
  have hb1:=hb (s-1) (by omega)
  by_cases hk:k=(s:Int)-1
  ·rw[if_pos hk]at h
   refine List.pairwise_cons.2 ⟨fun x hx =>?_,stK_asc ks (b (s-1)) e (fun q hq=>hb q (by omega)) h⟩
   obtain⟨m,hm,h1,_⟩:=Tr.stK_mem ks (b (s-1)) e (fun q hq=>hb q (by omega)) h x hx
   show x<k
   omega
  ·rw[if_neg hk]at h;cases h
theorem RtN.asc {l:List Tr.Nd}{b:Nat→Nat}(h:RtN l b){p:Nat}(hp:p<l.length):(ndA l p).ks.Pairwise (· < ·):=by
 have h1:=h.st p hp
 rw[kidsAt_ks hp]at h1
 have h2:=stK_asc _ _ _ (fun q hq=>h.st.le q (by omega)) h1
 exact List.pairwise_reverse.1 h2
theorem RtN.nat {l:List Tr.Nd}{b:Nat→Nat}(h:RtN l b){p:Nat}(hp:p<l.length):∀k ∈ (ndA l p).ks,∃m:Nat,k=(m:Int)∧m<p:=fun k hk=>by
 have h1:=h.st p hp
 rw[kidsAt_ks hp]at h1
 obtain⟨m,e,h2,_⟩:=Tr.stK_mem _ p (b p) (fun q hq=>h.st.le q (by omega)) h1 k (List.mem_reverse.2 hk)
 exact⟨m,e,h2⟩
theorem find_fst {ks:List Int}{P:Int→Bool}{Q:Nat→Bool}{N:Nat}(hs:ks.Pairwise (· < ·))(hn:∀k ∈ ks,∃m:Nat,k=(m:Int)∧m<N)(hQ:∀j:Nat,j<N→(Q j=true↔(j:Int) ∈ ks∧P j=true)):(ks.find? P).getD (-1)=optZ (fstA Q 0 N):=by
 cases e:ks.find? P with
 |none=>
  have h1:fstA Q 0 N=none:=by
   cases e2:fstA Q 0 N with
   |none=>rfl
   |some q=>
    obtain⟨_,h2,h3,_⟩:=fstA_some e2
    obtain⟨h4,h5⟩:=(hQ q h2).1 h3
    exact absurd h5 (List.find?_eq_none.1 e _ h4)
  rw[h1];rfl
 |some k=>
  rw[List.find?_eq_some_iff_append]at e
  obtain⟨h1,us,bs,h2,h3⟩:=e
  have hk:k ∈ ks:=by rw[h2];simp
  obtain⟨m,rfl,hm⟩:=hn k hk
  have hf:fstA Q 0 N=some m:=fstA_is (Nat.zero_le m) hm ((hQ m hm).2 ⟨hk,h1⟩) (fun j _ hj=>by
   cases e2:Q j with
   |false=>rfl
   |true=>
    obtain⟨h4,h5⟩:=(hQ j (by omega)).1 e2
    exfalso
    rw[h2]at h4 hs
    rcases List.mem_append.1 h4 with h6 |h6
    ·have:=h3 _ h6
     rw[h5]at this
     simp at this
    ·rcases List.mem_cons.1 h6 with h7 |h7
     ·omega
     ·have:=(List.pairwise_cons.1 (List.pairwise_append.1 hs).2.1).1 _ h7
      omega)
  rw[hf];rfl
theorem kid_low6 {k:Int}{ks:List Int}(hk:4≤k)(h:kidB k ks=true):∀x ∈ ks,6≤x:=fun x hx=>by
 have hex:∀y,expB y=true→6≤y:=fun y hy=>by unfold expB at hy;simp only[Bool.and_eq_true,decide_eq_true_eq]at hy;omega
 have hst:∀y,stmB y=true→6≤y:=fun y hy=>by unfold stmB at hy;simp only[Bool.and_eq_true,decide_eq_true_eq]at hy;omega
 have hal:∀ {ys:List Int},allB ys=true→∀y ∈ ys,6≤y:=fun hys y hy=>hex y (List.all_eq_true.1 hys y hy)
 unfold kidB at h
 rw[if_neg (by omega),if_neg (by omega)]at h
 split at h
 ·exact hst x (List.all_eq_true.1 h x hx)
 split at h
 ·exact hal (by simp only[Bool.and_eq_true]at h;exact h.2) x hx
 split at h
 ·exact hal (by simp only[Bool.and_eq_true]at h;exact h.2) x hx
 split at h
 ·simp only[Bool.and_eq_true,decide_eq_true_eq]at h
  obtain⟨a,rfl⟩:=len_one h.1
  rw[List.mem_singleton.1 hx]
  have:=h.2
  simp at this
  omega
 split at h
 ·simp only[Bool.and_eq_true,decide_eq_true_eq]at h
  obtain⟨a,b,rfl⟩:=len_two h.1.1
  have h2:=h.1.2
  have h3:=h.2
  simp at h2 h3
  simp at hx
  rcases hx with rfl |rfl
  ·omega
  ·exact hex _ h3
 split at h
 ·simp only[Bool.and_eq_true,decide_eq_true_eq]at h
  obtain⟨a,b,c,rfl⟩:=len_three h.1.1.1
  have h1:=h.1.1.2
  have h2:=h.1.2
  have h3:=h.2
  simp at h1 h2 h3
  simp at hx
  rcases hx with rfl |rfl |rfl
  ·exact hex _ h1
  ·omega
  ·omega
 split at h
 ·simp only[Bool.and_eq_true,decide_eq_true_eq]at h
  obtain⟨a,b,rfl⟩:=len_two h.1.1
  have h1:=h.1.2
  have h2:=h.2
  simp at h1 h2
  simp at hx
  rcases hx with rfl |rfl
  ·exact hex _ h1
  ·omega
 split at h
 ·simp only[Bool.and_eq_true,decide_eq_true_eq]at h
  rcases ks with _ |⟨a,ks⟩
  ·cases hx
  have h1:=h.1.2
  have h2:=h.2
  simp at h1 h2
  rcases List.mem_cons.1 hx with rfl |hx
  ·omega
  ·exact hal h2 x hx
 split at h
 ·exact hal (by simp only[Bool.and_eq_true]at h;exact h.2) x hx
 split at h
 ·simp only[Bool.and_eq_true,decide_eq_true_eq]at h
  obtain⟨a,b,rfl⟩:=len_two h.1.1
  have h1:=h.1.2
  have h2:=h.2
  simp at h1 h2
  simp at hx
  rcases hx with rfl |rfl<;>omega
 ·have:=of_decide_eq_true h
  rw[List.length_eq_zero_iff.1 this]at hx
  cases hx
theorem kid_none {ks:List Int}(h:kidB 2 ks=true):ks=[]:=by simpa [kidB]using h
theorem RtN.inProc {l:List Tr.Nd}{b:Nat→Nat}(h:RtN l b){q:Nat}(hq:q<l.length)(h45:(ndA l q).kd=4∨(ndA l q).kd=5):∃p:Nat,p<l.length∧(ndA l p).kd=3∧(q:Int) ∈ (ndA l p).ks∧owA l q=(p:Int):=by
 have hr:q<l.length-1:=by
  have:q≠l.length-1:=fun e=>by rw[e,h.root]at h45;omega
  omega
 obtain⟨p,hp,_,hk⟩:=h.par hr
 have hkd:=(nd_ok h.sh hp).kid
 have hlo:=(nd_ok h.sh hp).lo
 have hin:=kds_mem hk
 have h3:(ndA l p).kd=3:=by
  rcases Int.lt_or_le 3 (ndA l p).kd with h4 |h4
  ·have:=kid_low6 (by omega) hkd _ hin
   omega
  ·by_cases e1:(ndA l p).kd=1
   ·rw[e1]at hkd
    have:=ris_all (show risB (kdsA l p) 2 3 0=true from hkd) _ hin
    omega
   by_cases e2:(ndA l p).kd=2
   ·rw[e2]at hkd
    rw[kid_none hkd]at hin
    cases hin
   omega
 refine⟨p,hp,h3,hk,?_⟩
 rw[h.kid hp hk (by omega),owA_proc hp h3]
theorem RtN.inRoot {l:List Tr.Nd}{b:Nat→Nat}(h:RtN l b){q:Nat}(hq:q<l.length)(h23:(ndA l q).kd=2∨(ndA l q).kd=3):(q:Int) ∈ (ndA l ((l.length-1:Nat):Int)).ks:=by
 have hr:q<l.length-1:=by
  have:q≠l.length-1:=fun e=>by rw[e,h.root]at h23;omega
  omega
 obtain⟨p,hp,_,hk⟩:=h.par hr
 have hkd:=(nd_ok h.sh hp).kid
 have hlo:=(nd_ok h.sh hp).lo
 have hin:=kds_mem hk
 have h1:(ndA l p).kd=1:=by
  rcases Int.lt_or_le 2 (ndA l p).kd with h4 |h4
  ·have:=kid_low (by omega) hkd _ hin
   omega
  ·by_cases e2:(ndA l p).kd=2
   ·rw[e2]at hkd
    rw[kid_none hkd]at hin
    cases hin
   omega
 have:=h.only1 hp h1
 rw[← this];exact hk
section
variable (l:List Tr.Nd)
def ofP (a b:Int)(nm:ByteArray)(k:Int):Bool:=(decide ((ndA l k).kd=a) || decide ((ndA l k).kd=b))&&decide ((ndA l k).tx=nm)
def ofA (p a b:Int)(nm:ByteArray):Int:=((ndA l p).ks.find? (ofP l a b nm)).getD (-1)
end
theorem owA_glob {l:List Tr.Nd}{p:Nat}(hp:p<l.length)(h:(ndA l p).kd=2):owA l p = -1:=by rw[owA_step hp,if_pos h]
theorem RtN.of45 {l:List Tr.Nd}{b:Nat→Nat}(h:RtN l b){o:Nat}(ho:o<l.length)(h3:(ndA l o).kd=3)(nm:ByteArray):ofA l o 4 5 nm=optZ (dcF l o nm 0):=by
 refine find_fst (h.asc ho) (fun k hk =>?_) (fun j hj =>?_)
 ·obtain⟨m,e,hm⟩:=h.nat ho k hk
  exact⟨m,e,by omega⟩
 ·unfold dcB decB ofP
  simp only[Bool.and_eq_true,Bool.or_eq_true,decide_eq_true_eq]
  constructor
  ·rintro⟨h1,h2,h4⟩
   rcases h1 with e |e
   ·rw[owA_glob hj e]at h2;omega
   ·obtain⟨p,hp,_,hk,hw⟩:=h.inProc hj e
    have:p=o:=by omega
    subst this
    exact⟨hk,e,h4⟩
  ·rintro⟨h1,h2,h4⟩
   refine⟨Or.inr h2,?_,h4⟩
   rw[h.kid ho h1 (by omega),owA_proc ho h3]
theorem RtN.of22 {l:List Tr.Nd}{b:Nat→Nat}(h:RtN l b)(nm:ByteArray):ofA l ((l.length-1:Nat):Int) 2 2 nm=optZ (dcF l (-1) nm 0):=by
 have hl:=h.len
 refine find_fst (h.asc (by omega)) (fun k hk =>?_) (fun j hj =>?_)
 ·obtain⟨m,e,hm⟩:=h.nat (p:=l.length-1) (by omega) k hk
  exact⟨m,e,by omega⟩
 ·unfold dcB decB ofP
  simp only[Bool.and_eq_true,Bool.or_eq_true,decide_eq_true_eq,or_self]
  constructor
  ·rintro⟨h1,h2,h4⟩
   rcases h1 with e |e
   ·exact⟨h.inRoot hj (Or.inl e),e,h4⟩
   ·obtain⟨p,hp,_,hk,hw⟩:=h.inProc hj e
    omega
  ·rintro⟨h1,h2,h4⟩
   exact⟨Or.inl h2,owA_glob hj h2,h4⟩
theorem RtN.of33 {l:List Tr.Nd}{b:Nat→Nat}(h:RtN l b)(nm:ByteArray):ofA l ((l.length-1:Nat):Int) 3 3 nm=optZ (prF l nm 0):=by
 have hl:=h.len
 refine find_fst (h.asc (by omega)) (fun k hk =>?_) (fun j hj =>?_)
 ·obtain⟨m,e,hm⟩:=h.nat (p:=l.length-1) (by omega) k hk
  exact⟨m,e,by omega⟩
 ·unfold prB ofP
  simp only[Bool.and_eq_true,decide_eq_true_eq,or_self,Bool.or_eq_true]
  constructor
  ·rintro⟨h1,h4⟩
   exact⟨h.inRoot hj (Or.inr h1),h1,h4⟩
  ·rintro⟨h1,h2,h4⟩
   exact⟨h2,h4⟩
theorem RtN.mean {l:List Tr.Nd}{b:Nat→Nat}(h:RtN l b){p o:Nat}(how:owA l p=(o:Int))(nm:ByteArray):optZ (dnA l p nm)=if ofA l o 4 5 nm<0 then ofA l ((l.length-1:Nat):Int) 2 2 nm else ofA l o 4 5 nm:=by
 have ho:o<l.length∧(ndA l o).kd=3:=by
  rcases owA_range l p with e |⟨q,e,_,h2,h3⟩
  ·omega
  ·have:q=o:=by omega
   subst this
   exact⟨h2,h3⟩
 rw[h.of45 ho.1 ho.2,h.of22]
 unfold dnA
 rw[if_neg (by omega),how]
 cases dcF l (o:Int) nm 0 with
 |none=>rfl
 |some d=>
  rw[if_neg (by show¬((d:Nat):Int)<0;omega)]
  rfl
end
end Go.Proofs.YtignojhijmamhaaGreat.Ty
