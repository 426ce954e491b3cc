/- PROVED: Bp. No more condition. -/
import Derived.Test.YteecfjhjllajlaaGreatDoorM33
namespace Go.Proofs.YteecfjhjllajlaaGreatDoor
section
set_option maxHeartbeats 1000000
section
open Go
open Tr (nth dS aI fu bB kY iX iE iD y9 qJ eQ iW iB si kr aJ xE r_ gW)
def jE (x:List UInt8):Tok:=⟨1,0,0,x⟩
def bC (x:List UInt8):Tok:=⟨3,0,0,x⟩
def iT (x:List UInt8):Tok:=⟨4,0,0,x⟩
def SF (n:Int):Tok:=⟨2,n,0,Lib.itoa n⟩
section
variable (l:List Tr.Nd)
def Am (ex:Int->List Tok)(k:Int):List Tok:=if (ag l k).kd=27 then [bC [40]]++ex k++[bC [41]] else ex k
def fq:Nat->Int->List Tok
 |0,_=>[]
 |f+1,p=>
  if (ag l p).kd=20 then [SF (ag l p).n]
  else if (ag l p).kd=21 then [iT (if (ag l p).n=1 then fw else jh)]
  else if (ag l p).kd=22 then [jE (bu l p)]
  else if (ag l p).kd=23 then [jE (bu l p),bC [91]]++fq f (aL l p 0)++[bC [93]]
  else if (ag l p).kd=24 then [iT tY,jE (bu l p)]
  else if (ag l p).kd=25 then [bC [38],jE (bu l p)]
  else if (ag l p).kd=26 then [bC (bu l p)]++Am l (fq f) (aL l p 0)
  else if (ag l p).kd=27 then Am l (fq f) (aL l p 0)++[bC (bu l p)]++Am l (fq f) (aL l p 1)
  else []
end
def Ja (z:Int)(x:Tr.Nd):Nd:=⟨x.kd,x.n,0,x.tx.data.toList,x.ks.map (· + z)⟩
def bf (l:List Tr.Nd)(z:Int)(a e:Nat):List Nd:=((l.drop a).take (e-a)).map (Ja z)
theorem rV (l:List Tr.Nd)(z:Int)(a:Nat):bf l z a a=[]:=by unfold bf;rw[Nat.sub_self];rfl
theorem dG (l:List Tr.Nd)(z:Int){a m e:Nat}(h1:a<=m)(h2:m<=e):bf l z a m++bf l z m e=bf l z a e:=by
 unfold bf;rw[<- List.map_append];congr 1;rw[show e-a=(m-a)+(e-m)by omega,List.take_add,List.drop_drop,show a+(m-a)=m by omega]
theorem yU {l:List Tr.Nd}(z:Int){p:Nat}(h:p<l.length):bf l z p (p+1)=[Ja z (ag l p)]:=by
 unfold bf;rw[show p+1-p=1 by omega,List.drop_eq_getElem_cons h,aS h];rfl
theorem dh {l:List Tr.Nd}(z:Int){a e:Nat}(h1:a<=e)(h2:e<=l.length):(bf l z a e).length=e-a:=by
 unfold bf;rw[List.length_map,List.length_take,List.length_drop];omega
def yV (b:Nat->Nat):List Int->Nat->Nat->Prop
 | [],a,e=>a=e
 |k :: ks,a,e=>∃m:Nat,k=(m:Int)/\b m=a/\a<=m/\m<e/\yV b ks (m+1) e
theorem yV.le {b:Nat->Nat}:∀ {ks:List Int} {a e:Nat},yV b ks a e->a<=e
 | [],a,e,h=>Nat.le_of_eq h
 |k :: ks,a,e,⟨m,_,_,h2,h3,_⟩=>by omega
theorem yV.snoc {b:Nat->Nat}:∀ {ks:List Int} {a:Nat} {m e:Nat},yV b ks a (b m)->b m<=m->e=m+1->yV b (ks++[(m:Int)]) a e
 | [],a,m,e,h,hb,he=>⟨m,rfl,h.symm,by rw[show a=b m from h];exact hb,by omega,by show m+1=e;omega⟩
 |k :: ks,a,m,e,⟨m2,h1,h2,h3,h4,h5⟩,hb,he=>⟨m2,h1,h2,h3,by omega,h5.snoc hb he⟩
theorem yV.app {b:Nat->Nat}:∀ {ks js:List Int} {a e:Nat},yV b (ks++js) a e->∃m,yV b ks a m/\yV b js m e
 | [],js,a,e,h=>⟨a,rfl,h⟩
 |k :: ks,js,a,e,⟨m2,h1,h2,h3,h4,h5⟩=>by
  obtain⟨m,h6,h7⟩:=yV.app h5;exact⟨m,⟨m2,h1,h2,h3,by have:=h6.le;omega,h6⟩,h7⟩
theorem Jb {b:Nat->Nat}:∀(ks:List Int) (s e:Nat),(∀q,q<s->b q<=q)->gW b ks s=some e->yV b ks.reverse e s
 | [],s,e,_,h=>by unfold gW at h;cases h;rfl
 |k :: ks,s,e,hb,h=>by
  unfold gW at h;split at h
  ·cases h
  split at h
  case isFalse=>cases h
  case isTrue h0 h1=>
   have h2:=hb (s-1) (by omega);have h3:=Jb ks _ e (λq hq=>hb q (by omega)) h;rw[List.reverse_cons,show k=((s-1:Nat):Int)by omega];exact h3.snoc h2 (by omega)
theorem jy {l:List Tr.Nd}{b:Nat->Nat}(hS:kr l b l.length){p:Nat}(hp:p<l.length):yV b (ag l p).ks (b p) p:=by
 have h:=hS p hp;rw[oZ hp]at h;have:=Jb _ p (b p) (λq hq=>hS.le q (by omega)) h
 rwa [List.reverse_reverse]at this
section
variable {ts:List Tok}
theorem aY {s:St}{t:Tok}{K:List Tok}(h:ts.drop s.nx=t :: K):ah ts s=t:=by
 unfold ah;rw[List.getD_eq_getElem?_getD];have:(ts.drop s.nx)[0]?=some t:=by rw[h];rfl
 rw[List.getElem?_drop]at this;rw[Nat.add_zero]at this;rw[this];rfl
theorem aF {s:St}{t:Tok}{K:List Tok}(h:ts.drop s.nx=t :: K):ts.drop (s.nx+1)=K:=by
 rw[<- List.drop_drop,h];rfl
theorem nJ {s:St}{t:Tok}{K:List Tok}(h:ts.drop s.nx=t :: K){x:List UInt8}(hx:t.s=x):gI ts x s=.ok [] (ae s):=by
 unfold gI sees;rw[aY h,hx,if_pos (by simp)]
theorem eu {s:St}{t:Tok}{K:List Tok}(h:ts.drop s.nx=t :: K)(x:List UInt8):sees ts x s=(t.s==x):=by unfold sees;rw[aY h]
theorem jY {s:St}{t:Tok}{K:List Tok}(h:ts.drop s.nx=t :: K)(hk:t.k=1):eU ts s=.ok [] (ae s):=by
 unfold eU;rw[aY h,if_pos hk]
theorem oJ {s:St}{t:Tok}{K:List Tok}(h:ts.drop s.nx=t :: K){x:List UInt8}(hx:t.s=x)(ho:s.op<=39):gL ts x s=.ok [] ⟨s.nx+1,s.nd,s.op+1,max s.mo (s.op+1)⟩:=by
 unfold gL;rw[if_neg (by omega),nJ h hx];rfl
theorem fin_at {s:St}{t:Tok}{K:List Tok}(h:ts.drop s.nx=t :: K){x:List UInt8}(hx:t.s=x):jd ts x s=.ok [] ⟨s.nx+1,s.nd,s.op-1,s.mo⟩:=by
 unfold jd;rw[nJ h hx];rfl
def ky (ts:List Tok)(s:St)(K:List Tok)(X:List Nd)(v:List Int)(r:Rs):Prop:=∃n m,r=.ok v ⟨n,s.nd++X,s.op,m⟩/\ts.drop n=K
theorem ky.add {s:St}{K:List Tok}(h:ts.drop s.nx=K)(kd n pl:Int)(tx:List UInt8)(ks:List Int):ky ts s K [⟨kd,n,pl,tx,ks⟩] [(s.nd.length:Int)] (bv kd n pl tx ks s):=⟨s.nx,s.mo,rfl,h⟩
end
structure lD (l:List Tr.Nd) (b d:Nat->Nat):Prop where
 st:kr l b l.length
 sh:iX l=true
 ok:sM l
 dp:xE l d l.length
theorem lD.ahead {l:List Tr.Nd}{b d:Nat->Nat}(h:lD l b d):Ahead l:=zI h.st λq hq=>h.st.le q hq
theorem lD.deep {l:List Tr.Nd}{b d:Nat->Nat}(h:lD l b d){p k:Nat}(hp:p<l.length)(hk:(k:Int) ∈ (ag l p).ks):d k+1<=d p:=by
 have h1:=h.dp p hp;have h2:=Tr.ND (d:=d) (ks:=aJ l p) (k:=(k:Int)) (by rw[oZ hp];exact hk);rw[Int.toNat_natCast]at h2;omega
theorem lD.pos {l:List Tr.Nd}{b d:Nat->Nat}(h:lD l b d){p:Nat}(hp:p<l.length):1<=d p:=h.dp.pos hp
theorem lD.leaf {l:List Tr.Nd}{b d:Nat->Nat}(h:lD l b d){p:Nat}(hp:p<l.length)(hk:(ag l p).ks=[]):b p=p:=by
 have:=jy h.st hp;rw[hk]at this;exact this
theorem lD.one {l:List Tr.Nd}{b d:Nat->Nat}(h:lD l b d){p k:Nat}(hp:p<l.length)(hk:(ag l p).ks=[(k:Int)]):b k=b p/\k+1=p:=by
 have:=jy h.st hp;rw[hk]at this;obtain⟨m,h1,h2,h3,h4,h5⟩:=this;obtain rfl:k=m:=by omega
 exact⟨h2,h5⟩
theorem lD.two {l:List Tr.Nd}{b d:Nat->Nat}(h:lD l b d){p k j:Nat}(hp:p<l.length)(hk:(ag l p).ks=[(k:Int),(j:Int)]):b k=b p/\b j=k+1/\j+1=p:=by
 have:=jy h.st hp;rw[hk]at this;obtain⟨m,h1,h2,h3,h4,m2,h6,h7,h8,h9,h10⟩:=this;obtain rfl:k=m:=by omega
 obtain rfl:j=m2:=by omega
 exact⟨h2,h7,h10⟩
theorem lD.three {l:List Tr.Nd}{b d:Nat->Nat}(h:lD l b d){p k j i:Nat}(hp:p<l.length)(hk:(ag l p).ks=[(k:Int),(j:Int),(i:Int)]):b k=b p/\b j=k+1/\b i=j+1/\i+1=p:=by
 have:=jy h.st hp;rw[hk]at this;obtain⟨m,h1,h2,h3,h4,m2,h6,h7,h8,h9,m3,h11,h12,h13,h14,h15⟩:=this;obtain rfl:k=m:=by omega
 obtain rfl:j=m2:=by omega
 obtain rfl:i=m3:=by omega
 exact⟨h2,h7,h12,h15⟩
theorem lD.split {l:List Tr.Nd}{b d:Nat->Nat}(h:lD l b d)(z:Int){p:Nat}(hp:p<l.length):bf l z (b p) (p+1)=bf l z (b p) p++[Ja z (ag l p)]:=by
 rw[<- yU z hp,dG l z (h.st.le p hp) (Nat.le_succ p)]
theorem oL (l:List Tr.Nd)(f:Nat)(p:Int):fq l (f+1) p=(if (ag l p).kd=20 then [SF (ag l p).n]
  else if (ag l p).kd=21 then [iT (if (ag l p).n=1 then fw else jh)]
  else if (ag l p).kd=22 then [jE (bu l p)]
  else if (ag l p).kd=23 then [jE (bu l p),bC [91]]++fq l f (aL l p 0)++[bC [93]]
  else if (ag l p).kd=24 then [iT tY,jE (bu l p)]
  else if (ag l p).kd=25 then [bC [38],jE (bu l p)]
  else if (ag l p).kd=26 then [bC (bu l p)]++Am l (fq l f) (aL l p 0)
  else if (ag l p).kd=27 then Am l (fq l f) (aL l p 0)++[bC (bu l p)]++Am l (fq l f) (aL l p 1)
  else []):=rfl
theorem Ao {l:List Tr.Nd}(h:iX l=true){p:Nat}(hp:p<l.length)(hk:(ag l p).kd≠2/\(ag l p).kd≠3/\(ag l p).kd≠4/\(ag l p).kd≠5/\(ag l p).kd≠20/\(ag l p).kd≠21):(ag l p).n=0:=by
 have:=(bR h hp).num;unfold eQ at this;rw[if_neg (by omega),if_neg (by omega),if_neg (by omega),if_neg (by omega)]at this;exact of_decide_eq_true this
theorem jc {l:List Tr.Nd}(h:iX l=true){p:Nat}(hp:p<l.length)(hk:(ag l p).kd=2\/(ag l p).kd=4\/(ag l p).kd=5\/18<=(ag l p).kd/\(ag l p).kd<=22\/(ag l p).kd=24\/(ag l p).kd=25):(ag l p).ks=[]:=by
 have h1:=(bR h hp).kid;have h2:iA l p=[]:=by
  have e:(ag l p).kd=2\/(ag l p).kd=4\/(ag l p).kd=5\/(ag l p).kd=18\/(ag l p).kd=19\/(ag l p).kd=20\/(ag l p).kd=21\/(ag l p).kd=22\/(ag l p).kd=24\/(ag l p).kd=25:=by omega
  rcases e with e |e |e |e |e |e |e |e |e |e<;>rw[e]at h1<;>simpa [bB]using h1
 exact List.map_eq_nil_iff.1 h2
theorem gU {l:List Tr.Nd}(h:iX l=true){p:Nat}(hp:p<l.length)(hk:(ag l p).kd=2\/(ag l p).kd=3\/(ag l p).kd=4\/(ag l p).kd=5\/(ag l p).kd=7\/(ag l p).kd=8\/(ag l p).kd=9\/(ag l p).kd=16\/(ag l p).kd=17\/(ag l p).kd=18\/(ag l p).kd=19\/(ag l p).kd=22\/(ag l p).kd=23\/(ag l p).kd=24\/(ag l p).kd=25):iB (bu l p)=true:=by
 have h1:=(bR h hp).tx;unfold iW at h1
 rwa [if_pos hk]at h1
theorem ig {l:List Tr.Nd}(h:iX l=true){p:Nat}(hp:p<l.length)(hk:(ag l p).kd=1\/(ag l p).kd=6\/(ag l p).kd=10\/(ag l p).kd=11\/(ag l p).kd=12\/(ag l p).kd=14\/(ag l p).kd=15\/(ag l p).kd=20\/(ag l p).kd=21):bu l p=[]:=by
 have h1:=(bR h hp).tx;unfold iW at h1;rw[if_neg (by omega),if_neg (by omega),if_neg (by omega),if_neg (by omega)]at h1;simpa using h1
theorem MC:∀ {x:List UInt8},si x=true->1<=rowOf x/\rowOf x<=5:=by
 intro x h;unfold si at h;simp only[Bool.or_eq_true,beq_iff_eq]at h;rcases h with((((((((((((h |h) |h) |h) |h) |h) |h) |h) |h) |h) |h) |h) |h)<;>rw[h]<;>decide
def uf (K:List Tok):Tok:=K.headD ⟨5,0,0,[]⟩
theorem rW {ts:List Tok}{s:St}{K:List Tok}(h:ts.drop s.nx=K):ah ts s=uf K:=by
 cases K with
 |nil=>
  unfold ah uf;have:ts.length<=s.nx:=List.drop_eq_nil_iff.1 h;rw[List.getD_eq_getElem?_getD,List.getElem?_eq_none this];rfl
 |cons t K=>rw[aY h];rfl
def BX (l:List Tr.Nd)(b d:Nat->Nat)(p:Nat):Prop:=∀(ts:List Tok) (f:Nat) (z:Int) (s:St) (K:List Tok) (g:Nat),p<f->ts.drop s.nx=Am l (fq l f) p++K->(s.nd.length:Int)=(b p:Int)+z->s.op+d p<=41->10*(Am l (fq l f) p++K).length+2<=g ->
 (uf K).s≠[91]->ky ts s K (bf l z (b p) (p+1)) [(p:Int)+z] (run ts g .una s)
def BZ (l:List Tr.Nd)(b d:Nat->Nat)(p:Nat):Prop:=∀(ts:List Tok) (f:Nat) (z:Int) (s:St) (K:List Tok) (g:Nat),p<f->ts.drop s.nx=fq l f p++K->(s.nd.length:Int)=(b p:Int)+z->s.op+d p<=41+(if (ag l p).kd=27 then 1 else 0)->10*(fq l f p++K).length+9<=g ->
 (uf K).s≠[91]->rowOf (uf K).s=0->ky ts s K (bf l z (b p) (p+1)) [(p:Int)+z] (run ts g (.bin 1) s)
theorem dY {l:List Tr.Nd}{b d:Nat->Nat}(h:lD l b d){ts:List Tok}{z:Int}{p:Nat}(hp:p<l.length){s s2:St}{K:List Tok}(hd:ts.drop s2.nx=K)(hnd:s2.nd=s.nd++bf l z (b p) p)(hop:s2.op=s.op)
  (hlen:(s.nd.length:Int)=(b p:Int)+z) {kd n pl:Int} {tx:List UInt8} {ks:List Int} (e1:kd=(ag l p).kd) (e2:n=(ag l p).n) (e3:tx=bu l p) (e4:ks=(ag l p).ks.map (· + z)) (e5:pl=0) :
  ky ts s K (bf l z (b p) (p+1)) [(p:Int)+z] (bv kd n pl tx ks s2):=by
 subst e1 e2 e3 e4 e5;refine⟨s2.nx,s2.mo,?_,hd⟩;have hb:=h.st.le p hp;unfold bv;rw[h.split z hp,hnd,hop,List.length_append,dh z hb (by omega),List.append_assoc];have:((s.nd.length+(p-b p):Nat):Int)=(p:Int)+z:=by omega
 rw[this];rfl
theorem iM {l:List Tr.Nd}{b d:Nat->Nat}(h:lD l b d){ts:List Tok}{z:Int}{p:Nat}(hp:p<l.length)(hk:(ag l p).ks=[]){s s2:St}{K:List Tok}(hd:ts.drop s2.nx=K)(hnd:s2.nd=s.nd)(hop:s2.op=s.op)
  (hlen:(s.nd.length:Int)=(b p:Int)+z) {kd n pl:Int} {tx:List UInt8} (e1:kd=(ag l p).kd) (e2:n=(ag l p).n) (e3:tx=bu l p) (e5:pl=0) :
  ky ts s K (bf l z (b p) (p+1)) [(p:Int)+z] (bv kd n pl tx [] s2):=
 dY h hp hd (by rw[h.leaf hp hk,rV,List.append_nil];exact hnd) hop hlen e1 e2 e3 (by rw[hk];rfl) e5
theorem PT {l:List Tr.Nd}{ex:Int->List Tok}{p:Int}(h:(ag l p).kd=27):Am l ex p=[bC [40]]++ex p++[bC [41]]:=if_pos h
theorem Jc {l:List Tr.Nd}{ex:Int->List Tok}{p:Int}(h:(ag l p).kd≠27):Am l ex p=ex p:=if_neg h
section
variable {ts:List Tok} {rec:nM->St->Rs} {s:St} {t:Tok} (h:ah ts s=t)
include h
theorem Jd (h1:t.k=1):bg ts rec s=gM ts rec s:=by
 unfold bg;simp only;rw[h,if_pos h1]
theorem PU (h1:t.k=2):bg ts rec s=bv 20 t.n t.p [] [] (ae s):=by
 unfold bg;simp only;rw[h,if_neg (by omega),if_pos h1]
theorem PW (h1:t.k=3)(h2:t.s=[45]\/t.s=[33]):bg ts rec s=gN ts rec s:=by
 unfold bg;simp only;rw[h,if_neg (by omega),if_neg (by omega),if_pos h2]
theorem Je (h1:t.k=4)(h2:t.s=fw\/t.s=jh):bg ts rec s=bv 21 (if t.s=fw then 1 else 0) t.p [] [] (ae s):=by
 unfold bg;simp only;rw[h,if_neg (by omega),if_neg (by omega),if_neg (by rcases h2 with e |e<;>rw[e]<;>decide),if_pos h2]
theorem ME (h1:t.k=4)(h2:t.s=tY):bg ts rec s=fO ts 24 s:=by
 unfold bg;simp only;rw[h,if_neg (by omega),if_neg (by omega),if_neg (by rw[h2];decide),if_neg (by rw[h2];decide),if_pos h2]
theorem MF (h1:t.k=3)(h2:t.s=[38]):bg ts rec s=fO ts 25 s:=by
 unfold bg;simp only;rw[h,if_neg (by omega),if_neg (by omega),if_neg (by rw[h2];decide),if_neg (by rw[h2];decide),if_neg (by rw[h2];decide),if_pos h2]
theorem MG (h1:t.k=3)(h2:t.s=[40]):bg ts rec s=(gL ts [40] s).bind λ_ s=>(a_ rec s).bind λv s=>(jd ts [41] s).bind λ_ s =>.ok v s:=by
 unfold bg;simp only;rw[h,if_neg (by omega),if_neg (by omega),if_neg (by rw[h2];decide),if_neg (by rw[h2];decide),if_neg (by rw[h2];decide),if_neg (by rw[h2];decide),if_pos h2]
end
theorem Jf {l:List Tr.Nd}{b d:Nat->Nat}(h:lD l b d)(p:Nat)(hp:p<l.length)(he:aI (ag l p).kd=true)(h27:(ag l p).kd≠27)(ih:∀k,k<p->aI (ag l k).kd=true->BX l b d k/\BZ l b d k):BX l b d p:=by
 intro ts f z s K g hf hd hlen hop hg hK;obtain⟨f,rfl⟩:∃f',f=f'+1:=⟨f-1,by omega⟩;obtain⟨g,rfl⟩:∃g',g=g'+1:=⟨g-1,by omega⟩;rw[Jc h27]at hd hg;rw[oL]at hd hg;show ky ts s K _ _ (bg ts (run ts g) s);have hn0:(ag l p).kd≠20->(ag l p).kd≠21->(0:Int)=(ag l p).n:=λh20 h21=>by
  have:20<=(ag l p).kd:=by unfold aI at he;simp only[Bool.and_eq_true,decide_eq_true_eq]at he;omega
  exact(Ao h.sh hp (by omega)).symm
 rcases gp he with e |e |e |e |e |e |e |e
 ·rw[if_pos e]at hd;rw[PU (aY hd) rfl];exact iM h hp (s2:=ae s) (jc h.sh hp (by omega)) (aF hd) rfl rfl hlen e.symm rfl (ig h.sh hp (by omega)).symm rfl
 ·rw[if_neg (by omega),if_pos e]at hd;have hn:(ag l p).n=0\/(ag l p).n=1:=by
   have:=(bR h.sh hp).num;rw[e]at this;simpa [eQ]using this
  rcases hn with e2 |e2
  ·rw[e2,if_neg (by decide)]at hd;rw[Je (aY hd) rfl (Or.inr rfl)];exact iM h hp (s2:=ae s) (jc h.sh hp (by omega)) (aF hd) rfl rfl hlen e.symm (by rw[e2];rfl) (ig h.sh hp (by omega)).symm rfl
  ·rw[e2,if_pos rfl]at hd;rw[Je (aY hd) rfl (Or.inl rfl)];exact iM h hp (s2:=ae s) (jc h.sh hp (by omega)) (aF hd) rfl rfl hlen e.symm (by rw[e2];rfl) (ig h.sh hp (by omega)).symm rfl
 ·rw[if_neg (by omega),if_neg (by omega),if_pos e]at hd;rw[Jd (aY hd) rfl];unfold gM;simp only;rw[jY hd rfl,av];have hd2:ts.drop (ae s).nx=K:=aF hd;unfold sees;rw[rW hd2,if_neg (by simpa using hK),aY hd];exact iM h hp (s2:=ae s) (jc h.sh hp (by omega)) hd2 rfl rfl hlen e.symm (hn0 (by omega) (by omega)) rfl rfl
 ·rw[if_neg (by omega),if_neg (by omega),if_neg (by omega),if_pos e]at hd hg;obtain⟨k,hks,hlt,hke⟩:=h.ok.ex.one p hp (Or.inl e);obtain⟨hb1,hb2⟩:=h.one hp hks;have hkid:aL l p 0=(k:Int):=aR hks;rw[hkid]at hd hg;simp only[List.cons_append,List.nil_append,List.append_assoc]at hd hg;rw[Jd (aY hd) rfl];unfold gM;simp only;rw[jY hd rfl,av];have hd2:ts.drop (ae s).nx=bC [91] :: (fq l f k++bC [93] :: K):=aF hd;rw[eu hd2,if_pos (by decide)];unfold kN;have hdp:=h.deep hp (k:=k) (by rw[hks];simp);have hkp:=h.pos (p:=k) (by omega);rw[oJ hd2 (x:=[91]) rfl (by show s.op<=39;omega),av];have hd3:ts.drop (⟨(ae s).nx+1,(ae s).nd,(ae s).op+1,max (ae s).mo ((ae s).op+1)⟩:St).nx=fq l f k++bC [93] :: K:=aF hd2;obtain⟨n3,m3,h3,hd4⟩:=(ih k (by omega) hke).2 ts f z _ (bC [93] :: K) g (by omega) hd3 (by rw[hb1];exact hlen) (by show s.op+1+d k<=_;split<;>omega) (by simp only[List.length_append,List.length_cons]at hg |-;omega) (show([93]:List UInt8)≠[91]by decide) (show rowOf [93]=0 by decide);unfold a_;rw[h3,av,fin_at (t:=bC [93]) (K:=K) (x:=[93]) hd4 rfl,av,av,aY hd];exact dY h hp (s2:=⟨n3+1,s.nd++bf l z (b k) (k+1),s.op+1-1,m3⟩) (aF (s:=⟨n3,[],0,0⟩) hd4) (by rw[hb1,hb2]) (by show s.op+1-1=s.op;omega) hlen e.symm (hn0 (by omega) (by omega)) rfl (by rw[hks];rfl) rfl
 ·rw[if_neg (by omega),if_neg (by omega),if_neg (by omega),if_neg (by omega),if_pos e]at hd;rw[ME (aY hd) rfl rfl];unfold fO;simp only;have hd2:ts.drop (ae s).nx=_:=aF hd;rw[jY hd2 rfl,av,aY hd,aY hd2];exact iM h hp (s2:=ae (ae s)) (jc h.sh hp (by omega)) (aF hd2) rfl rfl hlen e.symm (hn0 (by omega) (by omega)) rfl rfl
 ·rw[if_neg (by omega),if_neg (by omega),if_neg (by omega),if_neg (by omega),if_neg (by omega),if_pos e]at hd;rw[MF (aY hd) rfl rfl];unfold fO;simp only;have hd2:ts.drop (ae s).nx=_:=aF hd;rw[jY hd2 rfl,av,aY hd,aY hd2];exact iM h hp (s2:=ae (ae s)) (jc h.sh hp (by omega)) (aF hd2) rfl rfl hlen e.symm (hn0 (by omega) (by omega)) rfl rfl
 ·rw[if_neg (by omega),if_neg (by omega),if_neg (by omega),if_neg (by omega),if_neg (by omega),if_neg (by omega),if_pos e]at hd hg;obtain⟨k,hks,hlt,hke⟩:=h.ok.ex.one p hp (Or.inr e);obtain⟨hb1,hb2⟩:=h.one hp hks;have hkid:aL l p 0=(k:Int):=aR hks;rw[hkid]at hd hg;simp only[List.cons_append,List.nil_append]at hd hg;have htx:bu l p=[45]\/bu l p=[33]:=by
   have:=(bR h.sh hp).tx;rw[e]at this;simpa [iW]using this
  rw[PW (aY hd) rfl htx];unfold gN;simp only;have hdp:=h.deep hp (k:=k) (by rw[hks];simp);have hkp:=h.pos (p:=k) (by omega);rw[aY hd,oJ hd (x:=(bC (bu l p)).s) rfl (by omega),av];obtain⟨n3,m3,h3,hd4⟩:=(ih k (by omega) hke).1 ts f z ⟨s.nx+1,s.nd,s.op+1,max s.mo (s.op+1)⟩ K g (by omega) (aF hd) (by rw[hb1];exact hlen) (by show s.op+1+d k<=_;omega) (by simp only[List.length_append,List.length_cons]at hg |-;omega) hK;rw[h3,av];exact dY h hp (s2:=⟨n3,s.nd++bf l z (b k) (k+1),s.op+1-1,m3⟩) hd4 (by rw[hb1,hb2]) (by show s.op+1-1=s.op;omega) hlen e.symm (hn0 (by omega) (by omega)) rfl (by rw[hks];rfl) rfl
 ·exact absurd e h27
theorem yX {ts:List Tok}{s:St}{K:List Tok}(hd:ts.drop s.nx=K){r:Nat}(hr:rowOf (uf K).s≠r)(v:List Int)(g:Nat)(hg:1<=g):run ts g (.loop r v) s=.ok v s:=by
 obtain⟨g,rfl⟩:∃g',g=g'+1:=⟨g-1,by omega⟩;show iY ts (run ts g) r v s=_;unfold iY;simp only;rw[rW hd,if_neg hr]
theorem ut {ts:List Tok}{s:St}{K:List Tok}{X:List Nd}{v:List Int}:∀(k r g:Nat),r+k=6->1<=r->(∀q,r<=q->q<=5->rowOf (uf K).s≠q)->k+2<=g->ky ts s K X v (run ts (g-k-1) .una s)->ky ts s K X v (run ts g (.bin r) s)
 |0,r,g+1,hr,h1,_,hg,hU=>by
  show ky ts s K X v (iF (run ts g) r s);unfold iF;rw[if_pos (by omega)];exact hU
 |k+1,r,g+1,hr,h1,hq,hg,hU=>by
  show ky ts s K X v (iF (run ts g) r s);unfold iF;have hU2:ky ts s K X v (run ts (g-k-1) .una s):=by
   rw[show g-k-1=g+1-(k+1)-1 by omega];exact hU
  obtain⟨n,m,h2,h3⟩:=ut k (r+1) g (by omega) (by omega) (λq a b=>hq q (by omega) b) (by omega) hU2;rw[if_neg (by omega),h2,av,yX (s:=⟨n,_,_,m⟩) h3 (hq r (Nat.le_refl _) (by omega)) _ _ (by omega)];exact⟨n,m,rfl,h3⟩
theorem Dw {ts:List Tok}{s:St}{K:List Tok}{X:List Nd}{v:List Int}{r0:Nat}(h0:r0<=6):∀(k r g:Nat),r+k=r0->1<=r->(∀q,r<=q->q<r0->rowOf (uf K).s≠q)->k+2<=g->ky ts s K X v (run ts (g-k) (.bin r0) s)->ky ts s K X v (run ts g (.bin r) s)
 |0,r,g,hr,h1,_,hg,hU=>by
  obtain rfl:r=r0:=by omega
  exact hU
 |k+1,r,g+1,hr,h1,hq,hg,hU=>by
  show ky ts s K X v (iF (run ts g) r s);unfold iF;have hU2:ky ts s K X v (run ts (g-k) (.bin r0) s):=by
   rw[show g-k=g+1-(k+1)by omega];exact hU
  obtain⟨n,m,h2,h3⟩:=Dw h0 k (r+1) g (by omega) (by omega) (λq a b=>hq q (by omega) b) (by omega) hU2;rw[if_neg (by omega),h2,av,yX (s:=⟨n,_,_,m⟩) h3 (hq r (Nat.le_refl _) (by omega)) _ _ (by omega)];exact⟨n,m,rfl,h3⟩
theorem Jg {l:List Tr.Nd}{b d:Nat->Nat}{p:Nat}(h27:(ag l p).kd≠27)(hu:BX l b d p):BZ l b d p:=by
 intro ts f z s K g hf hd hlen hop hg hK hK2;have e:=Jc (ex:=fq l f) h27;rw[if_neg h27]at hop;refine ut 5 1 g rfl (Nat.le_refl _) (λq a b=>by omega) (by omega) (hu ts f z s K _ hf (by rw[e];exact hd) hlen (by omega) (by rw[e];omega) hK)
theorem MH {l:List Tr.Nd}{f p:Nat}(hf:p<f)(he:aI (ag l p).kd=true):1<=(Am l (fq l f) p).length:=by
 obtain⟨f,rfl⟩:∃f',f=f'+1:=⟨f-1,by omega⟩;unfold Am;split
 ·simp
 ·rename_i h;rw[oL];rcases gp he with e |e |e |e |e |e |e |e<;>first|exact absurd e h |simp[e]
theorem PX {l:List Tr.Nd}{b d:Nat->Nat}(h:lD l b d)(p:Nat)(hp:p<l.length)(e:(ag l p).kd=27)(ih:∀k,k<p->aI (ag l k).kd=true->BX l b d k/\BZ l b d k):BZ l b d p:=by
 intro ts f z s K g hf hd hlen hop hg hK hK2;rw[if_pos e]at hop;obtain⟨f,rfl⟩:∃f',f=f'+1:=⟨f-1,by omega⟩;obtain⟨k,j,hks,hlt,hlt2,hke,hje⟩:=h.ok.ex.two p hp e;obtain⟨hb1,hb2,hb3⟩:=h.two hp hks;have hdk:=h.deep hp (k:=k) (by rw[hks];simp);have hdj:=h.deep hp (k:=j) (by rw[hks];simp);have hpk:=MH (f:=f) (p:=k) (by omega) hke;have htx:si (bu l p)=true:=by
  have:=(bR h.sh hp).tx;rw[e]at this;simpa [iW]using this
 obtain⟨hr1,hr5⟩:=MC htx;generalize hrow:rowOf (bu l p)=r0 at hr1 hr5;rw[oL,if_neg (by omega),if_neg (by omega),if_neg (by omega),if_neg (by omega),if_neg (by omega),if_neg (by omega),if_neg (by omega),if_pos e,aR hks,dO hks]at hd hg;simp only[List.cons_append,List.nil_append,List.append_assoc]at hd hg;simp only[List.length_append,List.length_cons]at hg;have hx91:bu l p≠[91]:=λe2=>by rw[e2]at htx;revert htx;decide
 refine Dw (r0:=r0) (by omega) (r0-1) 1 g (by omega) (Nat.le_refl _) (λq a b=>by omega) (by omega) ?_;obtain⟨g1,hg1⟩:∃g1,g-(r0-1)=g1+2:=⟨g-(r0-1)-2,by omega⟩;rw[hg1];show ky ts s K _ _ (iF (run ts (g1+1)) r0 s);unfold iF;have hA:=(ih k (by omega) hke).1 ts f z s (bC (bu l p) :: (Am l (fq l f) j++K)) (g1+1-(5-r0)-1) (by omega) hd (by rw[hb1];exact hlen) (by omega) (by simp only[List.length_append,List.length_cons];omega) hx91;obtain⟨n1,m1,h1,hd1⟩:=ut (5-r0) (r0+1) (g1+1) (by omega) (by omega) (λq a b=>by show rowOf (bu l p)≠q;omega) (by omega) hA;rw[if_neg (by omega),h1,av];show ky ts s K _ _ (iY ts (run ts g1) r0 _ _);unfold iY;simp only;rw[aY (s:=⟨n1,_,_,m1⟩) hd1,if_pos (show rowOf (bC (bu l p)).s=r0 from hrow)];have hl2:(((s.nd++bf l z (b k) (k+1)).length:Nat):Int)=(b j:Int)+z:=by
  rw[List.length_append,dh z (by have:=h.st.le k (by omega);omega) (by omega),hb2];have:=h.st.le k (by omega);omega
 have hB:=(ih j (by omega) hje).1 ts f z (ae ⟨n1,s.nd++bf l z (b k) (k+1),s.op,m1⟩) K (g1-(5-r0)-1) (by omega) (aF (s:=⟨n1,[],0,0⟩) hd1) hl2 (by show s.op+d j<=41;omega) (by simp only[List.length_append];omega) hK;obtain⟨n2,m2,h2,hd2⟩:=ut (5-r0) (r0+1) g1 (by omega) (by omega) (λq a b=>by omega) (by omega) hB;rw[h2,av];have hG:=dY h hp (s:=s) (s2:=⟨n2,s.nd++bf l z (b k) (k+1)++bf l z (b j) (j+1),s.op,m2⟩) (z:=z) (kd:=27) (n:=0) (pl:=0) (tx:=bu l p) (ks:=[(k:Int)+z]++[(j:Int)+z]) hd2 (by
   have:=h.st.le k (by omega);have:=h.st.le j (by omega);rw[List.append_assoc,hb1,hb2,dG l z (by omega) (by omega),hb3]) rfl hlen e.symm (Ao h.sh hp (by omega)).symm rfl (by rw[hks];rfl) rfl
 obtain⟨n3,m3,h3,hd3⟩:=hG;show ky ts s K _ _ ((bv 27 0 0 (bu l p) ([(k:Int)+z]++[(j:Int)+z]) ⟨n2,s.nd++bf l z (b k) (k+1)++bf l z (b j) (j+1),s.op,m2⟩).bind λv s=>run ts g1 (.loop r0 v) s);rw[h3,av,yX (s:=⟨n3,_,_,m3⟩) hd3 (by omega) _ _ (by omega)];exact⟨n3,m3,rfl,hd3⟩
theorem PY {l:List Tr.Nd}{b d:Nat->Nat}(h:lD l b d)(p:Nat)(hp:p<l.length)(e:(ag l p).kd=27)(he:BZ l b d p):BX l b d p:=by
 intro ts f z s K g hf hd hlen hop hg hK;obtain⟨g,rfl⟩:∃g',g=g'+1:=⟨g-1,by omega⟩;rw[PT e]at hd hg;simp only[List.cons_append,List.nil_append,List.append_assoc]at hd hg;simp only[List.length_append,List.length_cons]at hg;obtain⟨k,j,hks,hlt,hlt2,hke,hje⟩:=h.ok.ex.two p hp e;have hdk:=h.deep hp (k:=k) (by rw[hks];simp);have hkp:=h.pos (p:=k) (by omega);show ky ts s K _ _ (bg ts (run ts g) s);rw[MG (aY hd) rfl rfl,oJ hd (x:=[40]) rfl (by omega),av];obtain⟨n,m,h1,hd1⟩:=he ts f z ⟨s.nx+1,s.nd,s.op+1,max s.mo (s.op+1)⟩ (bC [41] :: K) g hf (aF hd) hlen (by rw[if_pos e];show s.op+1+d p<=_;omega) (by simp only[List.length_append,List.length_cons];omega) (show([41]:List UInt8)≠[91]by decide) (show rowOf [41]=0 by decide);unfold a_;rw[h1,av,fin_at (t:=bC [41]) (K:=K) (x:=[41]) hd1 rfl,av];refine⟨n+1,m,?_,aF (s:=⟨n,[],0,0⟩) hd1⟩;show Rs.ok [(p:Int)+z] (⟨n+1,s.nd++bf l z (b p) (p+1),s.op+1-1,m⟩:St)=_;rw[Nat.add_sub_cancel]
theorem fV {l:List Tr.Nd}{b d:Nat->Nat}(h:lD l b d):∀p:Nat,p<l.length->aI (ag l p).kd=true->BX l b d p/\BZ l b d p:=by
 intro p;induction p using Nat.strongRecOn with
 |_ p ih=>
  intro hp he;have ih2:∀k,k<p->aI (ag l k).kd=true->BX l b d k/\BZ l b d k:=λk hk=>ih k hk (by omega)
  by_cases e:(ag l p).kd=27
  ·have h1:=PX h p hp e ih2;exact⟨PY h p hp e h1,h1⟩
  ·have h1:=Jf h p hp he e ih2;exact⟨h1,Jg e h1⟩
end
section
open Go
open Tr (nth dS aI fu bB kY iX iE iD y9 qJ eQ iW iB si kr aJ xE r_ gW)
section
variable (l:List Tr.Nd)
def oO (p:Int):List Tok:=[jE (bu l p),iT (qX (ag l p).n)]
def oP (p:Int):List Tok:=iT pG :: (oO l p++[bC [59]])
def eB (xs:List (List Tok)):List Tok:=(xs.map (bC [44] :: ·)).flatten
def Ar:List (List Tok)->List Tok
 | []=>[]
 |x :: r=>x++eB r
def qC (xs:List (List Tok)):List Tok:=bC [40] :: (Ar xs++[bC [41]])
def Au (f:Nat)(p:Int):List Tok:=
 if (ag l p).kd=7 then [jE (bu l p),bC [61]]++fq l f (aL l p 0)
 else if (ag l p).kd=8 then [jE (bu l p),bC [91]]++fq l f (aL l p 0)++[bC [93],bC [61]]++fq l f (aL l p 1)
 else if (ag l p).kd=9 then [jE (bu l p),bC [61],iT Cq,jE (bu l (aL l p 0))]
 else if (ag l p).kd=10 then [iT nU,jE (bu l (aL l p 0))]++fq l f (aL l p 1)
 else if (ag l p).kd=11 then [iT AR]++fq l f (aL l p 0)
 else if (ag l p).kd=12 then [iT iO]++fq l f (aL l p 0)
 else if (ag l p).kd=13 then (if bu l p=[] then [] else [jE (bu l p),bC [61]])++[iT dL,jE (bu l (aL l p 0))]++qC ((ag l p).ks.tail.map (fq l f))
 else if (ag l p).kd=14 then [iT dM]++((ag l p).ks.map (fq l f)).flatten
 else if (ag l p).kd=15 then [iT jG]++fq l f (aL l p 0)
 else if (ag l p).kd=16 then [iT tV]
 else if (ag l p).kd=17 then [jE (bu l p),bC [61],iT tX]++fq l f (aL l p 0)
 else []
def jQ (st:Int->List Tok)(p:Int)(locals:List Int):List Tok:=bC [123] :: ((locals.map (oP l)).flatten++((ag l p).ks.map st).flatten++[bC [125]])
def fe (F:Nat):Nat->Int->List Tok
 |0,_=>[]
 |f+1,p=>Au l F p ++
  (if (ag l p).kd=11 then jQ l (fe F f) (aL l p 1) []++(if (ag l (aL l p 2)).ks=[] then [] else iT ku :: jQ l (fe F f) (aL l p 2) [])
  else if (ag l p).kd=12 then jQ l (fe F f) (aL l p 1) []
  else if (ag l p).kd=16 then jQ l (fe F f) (aL l p 0) []++[iT mZ,jE (bu l p)]++jQ l (fe F f) (aL l p 1) []
  else [bC [59]])
def mR (F:Nat)(p:Int):List Tok:=
 [iT kM,jE (bu l p)]++qC (((ag l p).ks.filter λk=>(ag l k).kd==4).map (oO l))++(if (ag l p).n=0 then [] else [iT (qX (ag l p).n)]) ++
  jQ l (fe l F F) ((ag l p).ks.getLastD 0) ((ag l p).ks.filter λk=>(ag l k).kd==5)
def vO (F:Nat)(p:Int):List Tok:=((ag l p).ks.map λk=>if (ag l k).kd=2 then oP l k else mR l F k).flatten
end
def wB (ts:List Tok)(s:St)(K:List Tok)(X:List Nd)(v:List Int)(o:Nat)(r:Rs):Prop:=∃n m,r=.ok v ⟨n,s.nd++X,o,m⟩/\ts.drop n=K
def Jh (t:Tok):Prop:=t.s≠Cq/\t.s≠dL/\t.s≠tX/\t.s≠[59]/\t.s≠[41]/\t.s≠ku
def Ji (x:List UInt8):Bool:=match x with
 | []=>false
 |c :: _=>decide (48<=c.toNat)&&decide (c.toNat<=57)
theorem B_:∀u:Nat,Ji (Lib.decDigits u)=true:=by
 intro u;induction u using Nat.strongRecOn with
 |_ u ih=>
  rw[Lib.decDigits];split
  ·rename_i h;unfold Ji;have:(UInt8.ofNat (48+u)).toNat=48+u:=by
    rw[UInt8.toNat_ofNat'];omega
   first
    |(simp only[this,Bool.and_eq_true,decide_eq_true_eq];omega)
    |(simp;omega)
  ·rename_i h;have h2:=ih (u / 10) (by omega);revert h2;cases Lib.decDigits (u / 10) with
   |nil=>intro h2;cases h2
   |cons c r=>intro h2;exact h2
theorem Av {n:Int}(h:0<=n):Ji (Lib.itoa n)=true:=by
 unfold Lib.itoa;rw[if_neg (by omega)];exact B_ _
theorem PZ {t:Tok}(h:Ji t.s=true):Jh t:=by
 refine⟨?_,?_,?_,?_,?_,?_⟩<;>· intro e;rw[e]at h;revert h;decide
theorem Jj {t:Tok}(h:iB t.s=true):Jh t:=by
 refine⟨?_,?_,?_,?_,?_,?_⟩<;>· intro e;rw[e]at h;revert h;decide
theorem yY {l:List Tr.Nd}(h:iX l=true)(hx:FH l):∀(p:Nat),p<l.length->aI (ag l p).kd=true->∀(f:Nat) (K:List Tok),p<f->Jh (uf (fq l f p++K))/\Jh (uf (Am l (fq l f) p++K)):=by
 intro p;induction p using Nat.strongRecOn with
 |_ p ih=>
  intro hp he f K hf;obtain⟨f,rfl⟩:∃f',f=f'+1:=⟨f-1,by omega⟩;have h1:Jh (uf (fq l (f+1) p++K)):=by
   rw[oL];rcases gp he with e |e |e |e |e |e |e |e
   ·rw[if_pos e];exact PZ (Av (hx.num p hp e).1)
   ·rw[if_neg (by omega),if_pos e];show Jh (iT _);split<;>· refine⟨?_,?_,?_,?_,?_,?_⟩<;>decide
   ·rw[if_neg (by omega),if_neg (by omega),if_pos e];exact Jj (gU h hp (by omega))
   ·rw[if_neg (by omega),if_neg (by omega),if_neg (by omega),if_pos e];exact Jj (t:=jE (bu l p)) (gU h hp (by omega))
   ·rw[if_neg (by omega),if_neg (by omega),if_neg (by omega),if_neg (by omega),if_pos e];show Jh (iT tY);refine⟨?_,?_,?_,?_,?_,?_⟩<;>decide
   ·rw[if_neg (by omega),if_neg (by omega),if_neg (by omega),if_neg (by omega),if_neg (by omega),if_pos e];show Jh (bC [38]);refine⟨?_,?_,?_,?_,?_,?_⟩<;>decide
   ·rw[if_neg (by omega),if_neg (by omega),if_neg (by omega),if_neg (by omega),if_neg (by omega),if_neg (by omega),if_pos e];show Jh (bC (bu l p));have htx:bu l p=[45]\/bu l p=[33]:=by
     have:=(bR h hp).tx;rw[e]at this;simpa [iW]using this
    rcases htx with e2 |e2<;>rw[e2]<;>refine⟨?_,?_,?_,?_,?_,?_⟩<;>decide
   ·rw[if_neg (by omega),if_neg (by omega),if_neg (by omega),if_neg (by omega),if_neg (by omega),if_neg (by omega),if_neg (by omega),if_pos e];obtain⟨k,j,hks,hlt,hlt2,hke,hje⟩:=hx.two p hp e;rw[aR hks,List.append_assoc,List.append_assoc];exact(ih k hlt (by omega) hke f _ (by omega)).2
  refine⟨h1,?_⟩;unfold Am;split
  ·show Jh (bC [40]);refine⟨?_,?_,?_,?_,?_,?_⟩<;>decide
  ·exact h1
theorem MI {n:Int}(h1:1<=n)(h2:n<=4):(typeOf (qX n):Int)=n:=by
 have:n=1\/n=2\/n=3\/n=4:=by omega
 rcases this with e |e |e |e<;>rw[e]<;>decide
theorem Dx {ts:List Tok}{s:St}{n:Int}{K:List Tok}(h1:1<=n)(h2:n<=4)(h:ts.drop s.nx=iT (qX n) :: K):iG ts s=.ok [n] (ae s):=by
 have e:=MI h1 h2;unfold iG;simp only;rw[aY h];show(if typeOf (qX n)=0 then _ else Rs.ok [((typeOf (qX n):Nat):Int)] (ae s))=_;rw[if_neg (by omega),e]
theorem vP {l:List Tr.Nd}{b d:Nat->Nat}(h:lD l b d){ts:List Tok}{s:St}{K:List Tok}{z:Int}{p:Nat}(hp:p<l.length)(kd:Nat)(hk:(ag l p).kd=kd)(hkd:kd=2\/kd=4\/kd=5)(hd:ts.drop s.nx=oO l p++K)(hlen:(s.nd.length:Int)=(b p:Int)+z) :
  ky ts s K (bf l z (b p) (p+1)) [(p:Int)+z] (d9 ts kd 0 s):=by
 have hn:1<=(ag l p).n/\(ag l p).n<=4:=by
  have:=(bR h.sh hp).num;unfold eQ at this;rw[if_pos (by omega)]at this;simpa using this
 have hd1:ts.drop s.nx=jE (bu l p) :: iT (qX (ag l p).n) :: K:=hd;unfold d9;simp only;rw[jY hd1 rfl,av,Dx (s:=ae s) hn.1 hn.2 (aF hd1),av,aY hd1];exact iM h hp (jc h.sh hp (by omega)) (s2:=ae (ae s)) (aF (s:=ae s) (aF hd1)) rfl rfl hlen hk.symm rfl rfl rfl
theorem sW {l:List Tr.Nd}{b d:Nat->Nat}(h:lD l b d){ts:List Tok}{s:St}{K:List Tok}{z:Int}{p:Nat}(hp:p<l.length)(kd:Nat)(hk:(ag l p).kd=kd)(hkd:kd=18\/kd=19)(hd:ts.drop s.nx=jE (bu l p) :: K)(hlen:(s.nd.length:Int)=(b p:Int)+z) :
  ky ts s K (bf l z (b p) (p+1)) [(p:Int)+z] (gD ts kd s):=by
 unfold gD;simp only;rw[jY hd rfl,av,aY hd];exact iM h hp (jc h.sh hp (by omega)) (s2:=ae s) (aF hd) rfl rfl hlen hk.symm (Ao h.sh hp (by omega)).symm rfl rfl
theorem sZ {l:List Tr.Nd}{b d:Nat->Nat}(h:lD l b d)(kd:Nat)(hkd:kd=2\/kd=5){ts:List Tok}{K:List Tok}{z:Int}(hK:(uf K).s≠pG):∀(js:List Int) (a e:Nat) (acc:List Int) (s:St) (g:Nat),yV b js a e->e<=l.length->(∀j ∈ js,(ag l j).kd=kd) ->
  ts.drop s.nx=(js.map (oP l)).flatten++K->(s.nd.length:Int)=(a:Int)+z->10*((js.map (oP l)).flatten++K).length+1<=g->ky ts s K (bf l z a e) (acc++js.map (· + z)) (run ts g (.vars kd acc) s)
 | [],a,e,acc,s,g,hc,he,hj,hd,hlen,hg=>by
  obtain⟨g,rfl⟩:∃g',g=g'+1:=⟨g-1,by omega⟩;obtain rfl:a=e:=hc;show ky ts s K _ _ (jC ts (run ts g) kd acc s);unfold jC sees;rw[rW (K:=K) hd,if_neg (by simpa using hK)];exact⟨s.nx,s.mo,by rw[rV,List.append_nil,List.map_nil,List.append_nil],hd⟩
 |j :: js,a,e,acc,s,g,hc,he,hj,hd,hlen,hg=>by
  obtain⟨g,rfl⟩:∃g',g=g'+1:=⟨g-1,by omega⟩;obtain⟨m,rfl,h1,h2,h3,h4⟩:=hc;have hle:=h4.le;rw[List.map_cons,List.flatten_cons,List.append_assoc]at hd hg;have hd1:ts.drop s.nx=iT pG :: (oO l m++bC [59] :: ((js.map (oP l)).flatten++K)):=by rw[hd];unfold oP;simp only[List.cons_append,List.append_assoc,List.nil_append]
  show ky ts s K _ _ (jC ts (run ts g) kd acc s);unfold jC;rw[eu hd1,if_pos (by decide),aY hd1];obtain⟨n1,m1,e1,hd2⟩:=vP h (p:=m) (s:=ae s) (z:=z) (by omega) kd (hj _ List.mem_cons_self) (by omega) (aF hd1) (by rw[h1];exact hlen);show ky ts s K _ _ ((d9 ts kd 0 (ae s)).bind _);rw[e1,av,nJ (s:=⟨n1,_,_,m1⟩) (x:=[59]) hd2 rfl,av];have hl2:(((s.nd++bf l z (b m) (m+1)).length:Nat):Int)=((m+1:Nat):Int)+z:=by
   rw[List.length_append,dh z (by omega) (by omega)];omega
  have hlen2:(oP l m).length=4:=rfl;obtain⟨n2,m2,e2,hd3⟩:=sZ h kd hkd hK js (m+1) e (acc++[(m:Int)+z]) (ae ⟨n1,s.nd++bf l z (b m) (m+1),s.op,m1⟩) g h4 he (λj hj2=>hj j (List.mem_cons_of_mem _ hj2)) (aF (s:=⟨n1,[],0,0⟩) hd2) hl2 (by rw[List.length_append]at hg |-;rw[List.length_append,hlen2]at hg;omega);refine⟨n2,m2,?_,hd3⟩;show run ts g (.vars kd (acc++[(m:Int)+z])) (ae ⟨n1,s.nd++bf l z (b m) (m+1),s.op,m1⟩)=_;rw[e2,h1];show Rs.ok _ (⟨n2,s.nd++bf l z a (m+1)++bf l z (m+1) e,s.op,m2⟩:St)=_;rw[List.append_assoc s.nd,dG l z (by omega) (by omega),List.map_cons,List.append_assoc acc];rfl
theorem oQ {l:List Tr.Nd}{b d:Nat->Nat}(h:lD l b d){ts:List Tok}{K:List Tok}{z:Int}:∀(js:List Int) (a e:Nat) (acc:List Int) (s:St) (g:Nat),yV b js a e->e<=l.length->(∀j ∈ js,(ag l j).kd=4) ->
  ts.drop s.nx=eB (js.map (oO l))++bC [41] :: K->(s.nd.length:Int)=(a:Int)+z->10*(eB (js.map (oO l))++bC [41] :: K).length+1<=g->wB ts s K (bf l z a e) (acc++js.map (· + z)) (s.op-1) (run ts g (.params acc) s)
 | [],a,e,acc,s,g,hc,he,hj,hd,hlen,hg=>by
  obtain⟨g,rfl⟩:∃g',g=g'+1:=⟨g-1,by omega⟩;obtain rfl:a=e:=hc;have hd1:ts.drop s.nx=bC [41] :: K:=hd;show wB ts s K _ _ _ (dD ts (run ts g) acc s);unfold dD;rw[eu hd1,if_neg (by decide),fin_at hd1 (x:=[41]) rfl,av];exact⟨s.nx+1,s.mo,by rw[rV,List.append_nil,List.map_nil,List.append_nil],aF hd1⟩
 |j :: js,a,e,acc,s,g,hc,he,hj,hd,hlen,hg=>by
  obtain⟨g,rfl⟩:∃g',g=g'+1:=⟨g-1,by omega⟩;obtain⟨m,rfl,h1,h2,h3,h4⟩:=hc;have hle:=h4.le;have hd1:ts.drop s.nx=bC [44] :: (oO l m++(eB (js.map (oO l))++bC [41] :: K)):=by rw[hd];unfold eB;simp only[List.map_cons,List.flatten_cons,List.cons_append,List.append_assoc]
  show wB ts s K _ _ _ (dD ts (run ts g) acc s);unfold dD;rw[eu hd1,if_pos (by decide)];unfold iy;have hd1':ts.drop (ae s).nx=oO l m++(eB (js.map (oO l))++bC [41] :: K):=aF hd1;have hz:(ah ts (ae s)).p=0:=by rw[aY (show ts.drop (ae s).nx=jE (bu l m) :: iT (qX (ag l m).n) :: _ from hd1')];rfl
  rw[hz];obtain⟨n1,m1,e1,hd2⟩:=vP h (p:=m) (s:=ae s) (z:=z) (by omega) 4 (hj _ List.mem_cons_self) (by omega) hd1' (by rw[h1];exact hlen);show wB ts s K _ _ _ ((d9 ts 4 0 (ae s)).bind _);rw[e1,av];have hl2:(((s.nd++bf l z (b m) (m+1)).length:Nat):Int)=((m+1:Nat):Int)+z:=by
   rw[List.length_append,dh z (by omega) (by omega)];omega
  have hlen2:(oO l m).length=2:=rfl;have hg2:(eB (((m:Int) :: js).map (oO l))).length=3+(eB (js.map (oO l))).length:=by
   unfold eB;simp only[List.map_cons,List.flatten_cons,List.length_append,List.length_cons,hlen2]
  obtain⟨n2,m2,e2,hd3⟩:=oQ h js (m+1) e (acc++[(m:Int)+z]) ⟨n1,s.nd++bf l z (b m) (m+1),s.op,m1⟩ g h4 he (λj hj2=>hj j (List.mem_cons_of_mem _ hj2)) hd2 hl2 (by rw[List.length_append,hg2]at hg;rw[List.length_append];omega);refine⟨n2,m2,?_,hd3⟩;show run ts g (.params (acc++[(m:Int)+z])) ⟨n1,s.nd++bf l z (b m) (m+1),s.op,m1⟩=_;rw[e2,h1];show Rs.ok _ (⟨n2,s.nd++bf l z a (m+1)++bf l z (m+1) e,s.op-1,m2⟩:St)=_;rw[List.append_assoc s.nd,dG l z (by omega) (by omega),List.map_cons,List.append_assoc acc];rfl
theorem qD {l:List Tr.Nd}{b d:Nat->Nat}(h:lD l b d){ts:List Tok}{K:List Tok}{z:Int}{f:Nat}:∀(js:List Int) (a e:Nat) (acc:List Int) (s:St) (g:Nat),yV b js a e->e<=l.length->e<=f->(∀j ∈ js,aI (ag l j).kd=true/\s.op+d j.toNat<=41) ->
  ts.drop s.nx=eB (js.map (fq l f))++bC [41] :: K->(s.nd.length:Int)=(a:Int)+z->10*(eB (js.map (fq l f))++bC [41] :: K).length+1<=g->wB ts s K (bf l z a e) (acc++js.map (· + z)) (s.op-1) (run ts g (.exprs acc) s)
 | [],a,e,acc,s,g,hc,he,hf,hj,hd,hlen,hg=>by
  obtain⟨g,rfl⟩:∃g',g=g'+1:=⟨g-1,by omega⟩;obtain rfl:a=e:=hc;have hd1:ts.drop s.nx=bC [41] :: K:=hd;show wB ts s K _ _ _ (eY ts (run ts g) acc s);unfold eY;rw[eu hd1,if_neg (by decide),fin_at hd1 (x:=[41]) rfl,av];exact⟨s.nx+1,s.mo,by rw[rV,List.append_nil,List.map_nil,List.append_nil],aF hd1⟩
 |j :: js,a,e,acc,s,g,hc,he,hf,hj,hd,hlen,hg=>by
  obtain⟨g,rfl⟩:∃g',g=g'+1:=⟨g-1,by omega⟩;obtain⟨m,rfl,h1,h2,h3,h4⟩:=hc;have hle:=h4.le;obtain⟨hje,hjd⟩:=hj _ List.mem_cons_self;rw[Int.toNat_natCast]at hjd;have hd1:ts.drop s.nx=bC [44] :: (fq l f m++(eB (js.map (fq l f))++bC [41] :: K)):=by rw[hd];unfold eB;simp only[List.map_cons,List.flatten_cons,List.cons_append,List.append_assoc]
  have hg2:(eB (((m:Int) :: js).map (fq l f))).length=1+(fq l f m).length+(eB (js.map (fq l f))).length:=by
   unfold eB;simp only[List.map_cons,List.flatten_cons,List.length_append,List.length_cons];omega
  rw[List.length_append,hg2]at hg;have hhd:(uf (eB (js.map (fq l f))++bC [41] :: K)).s≠[91]/\rowOf (uf (eB (js.map (fq l f))++bC [41] :: K)).s=0:=by
   cases js with
   |nil=>exact⟨show([41]:List UInt8)≠[91]by decide,show rowOf [41]=0 by decide⟩
   |cons x r=>exact⟨show([44]:List UInt8)≠[91]by decide,show rowOf [44]=0 by decide⟩
  show wB ts s K _ _ _ (eY ts (run ts g) acc s);unfold eY;rw[eu hd1,if_pos (by decide)];unfold a_;obtain⟨n1,m1,e1,hd2⟩:=(fV h m (by omega) hje).2 ts f z (ae s) (eB (js.map (fq l f))++bC [41] :: K) g (by omega) (aF hd1) (by rw[h1];exact hlen) (by show s.op+d m<=_;omega) (by rw[List.length_append,List.length_append];omega) hhd.1 hhd.2;rw[e1,av];have hl2:(((s.nd++bf l z (b m) (m+1)).length:Nat):Int)=((m+1:Nat):Int)+z:=by
   rw[List.length_append,dh z (by omega) (by omega)];omega
  obtain⟨n2,m2,e2,hd3⟩:=qD h js (m+1) e (acc++[(m:Int)+z]) ⟨n1,s.nd++bf l z (b m) (m+1),s.op,m1⟩ g h4 he hf (λj hj2=>hj j (List.mem_cons_of_mem _ hj2)) hd2 hl2 (by rw[List.length_append];omega);refine⟨n2,m2,?_,hd3⟩;show run ts g (.exprs (acc++[(m:Int)+z])) ⟨n1,s.nd++bf l z (b m) (m+1),s.op,m1⟩=_;rw[e2,h1];show Rs.ok _ (⟨n2,s.nd++bf l z a (m+1)++bf l z (m+1) e,s.op-1,m2⟩:St)=_;rw[List.append_assoc s.nd,dG l z (by omega) (by omega),List.map_cons,List.append_assoc acc];rfl
end
section
open Go
open Tr (nth dS aI fu bB kY iX iE iD y9 qJ eQ iW iB si kr aJ xE r_ gW)
section
variable {l:List Tr.Nd} {b d:Nat->Nat} (h:lD l b d) {p:Nat} (hp:p<l.length)
include h hp
theorem xq (hk:(ag l p).kd=7\/(ag l p).kd=15\/(ag l p).kd=17):∃k:Nat,(ag l p).ks=[(k:Int)]/\k<p/\aI (ag l k).kd=true:=by
 have h1:=(bR h.sh hp).kid;have h2:(iA l p).length=1/\fu (iA l p)=true:=by
  rcases hk with hk |hk |hk<;>· rw[hk]at h1;simpa [bB]using h1
 obtain⟨k,e,hlt,e2⟩:=lv h.ahead hp h2.1;exact⟨k,e,hlt,dX h2.2 _ (by rw[e2];simp)⟩
theorem Nu (hk:(ag l p).kd=8):∃k j:Nat,(ag l p).ks=[(k:Int),(j:Int)]/\k<p/\j<p/\aI (ag l k).kd=true/\aI (ag l j).kd=true:=by
 have h1:=(bR h.sh hp).kid;rw[hk]at h1;have h2:(iA l p).length=2/\fu (iA l p)=true:=by simpa [bB]using h1
 obtain⟨k,j,e,hlt,hlt2,e2⟩:=iJ h.ahead hp h2.1;exact⟨k,j,e,hlt,hlt2,dX h2.2 _ (by rw[e2];simp),dX h2.2 _ (by rw[e2];simp)⟩
theorem Nv (hk:(ag l p).kd=9):∃k:Nat,(ag l p).ks=[(k:Int)]/\k<p/\(ag l k).kd=18:=by
 have h1:=(bR h.sh hp).kid;rw[hk]at h1;simp[bB]at h1;obtain⟨k,e,hlt,e2⟩:=lv h.ahead hp h1.1;rw[e2]at h1;exact⟨k,e,hlt,by simpa using h1.2⟩
theorem Jk (hk:(ag l p).kd=10):∃k j:Nat,(ag l p).ks=[(k:Int),(j:Int)]/\k<p/\j<p/\(ag l k).kd=18/\aI (ag l j).kd=true:=by
 have h1:=(bR h.sh hp).kid;rw[hk]at h1;simp[bB]at h1;obtain⟨k,j,e,hlt,hlt2,e2⟩:=iJ h.ahead hp h1.1.1;rw[e2]at h1;exact⟨k,j,e,hlt,hlt2,by simpa using h1.1.2,by simpa using h1.2⟩
theorem Ca (hk:(ag l p).kd=11):∃k j i:Nat,(ag l p).ks=[(k:Int),(j:Int),(i:Int)]/\k<p/\j<p/\i<p/\aI (ag l k).kd=true/\(ag l j).kd=6/\(ag l i).kd=6:=by
 have h1:=(bR h.sh hp).kid;rw[hk]at h1;simp[bB]at h1;obtain⟨k,j,i,e,hlt,hlt2,hlt3,e2⟩:=qh h.ahead hp h1.1.1.1;rw[e2]at h1;exact⟨k,j,i,e,hlt,hlt2,hlt3,by simpa using h1.1.1.2,by simpa using h1.1.2,by simpa using h1.2⟩
theorem Cb (hk:(ag l p).kd=12):∃k j:Nat,(ag l p).ks=[(k:Int),(j:Int)]/\k<p/\j<p/\aI (ag l k).kd=true/\(ag l j).kd=6:=by
 have h1:=(bR h.sh hp).kid;rw[hk]at h1;simp[bB]at h1;obtain⟨k,j,e,hlt,hlt2,e2⟩:=iJ h.ahead hp h1.1.1;rw[e2]at h1;exact⟨k,j,e,hlt,hlt2,by simpa using h1.1.2,by simpa using h1.2⟩
theorem Jl (hk:(ag l p).kd=16):∃k j:Nat,(ag l p).ks=[(k:Int),(j:Int)]/\k<p/\j<p/\(ag l k).kd=6/\(ag l j).kd=6:=by
 have h1:=(bR h.sh hp).kid;rw[hk]at h1;simp[bB]at h1;obtain⟨k,j,e,hlt,hlt2,e2⟩:=iJ h.ahead hp h1.1.1;rw[e2]at h1;exact⟨k,j,e,hlt,hlt2,by simpa using h1.1.2,by simpa using h1.2⟩
theorem Jm (hk:(ag l p).kd=13):∃(k:Nat) (js:List Int),(ag l p).ks=(k:Int) :: js/\k<p/\(ag l k).kd=19/\∀x ∈ js,∃x2:Nat,x=(x2:Int)/\x2<p/\aI (ag l x2).kd=true:=by
 have h1:=(bR h.sh hp).kid;rw[hk]at h1;simp[bB]at h1;rcases hks:(ag l p).ks with _ |⟨a,js⟩
 ·have:=n_ l p;rw[hks]at this;have h2:=h1.1.1;rw[this]at h2;simp at h2
 have e2:iA l p=(ag l a).kd :: js.map λk=>(ag l k).kd:=by unfold iA;rw[hks];rfl
 rw[e2]at h1;obtain⟨k,rfl,hlt⟩:=bU h.ahead hp a (by rw[hks];simp);refine⟨k,js,rfl,hlt,by simpa using h1.1.2,λx hx =>?_⟩;obtain⟨x2,rfl,hlt2⟩:=bU h.ahead hp x (by rw[hks];simp[hx]);refine⟨x2,rfl,hlt2,?_⟩;have h3:fu (js.map λk=>(ag l k).kd)=true:=by simpa using h1.2
 exact dX h3 _ (List.mem_map.2 ⟨_,hx,rfl⟩)
theorem Jn (hk:(ag l p).kd=14):(ag l p).ks=[]\/∃k:Nat,(ag l p).ks=[(k:Int)]/\k<p/\aI (ag l k).kd=true:=by
 have h1:=(bR h.sh hp).kid;rw[hk]at h1;simp[bB]at h1;by_cases e0:(iA l p).length=0
 ·left;have:=List.length_eq_zero_iff.1 e0;exact List.map_eq_nil_iff.1 this
 ·obtain⟨k,e,hlt,e2⟩:=lv h.ahead hp (by omega);exact Or.inr ⟨k,e,hlt,dX h1.2 _ (by rw[e2];simp)⟩
end
theorem pu (x:List Tok)(r:List (List Tok)):Ar (x :: r)=x++eB r:=rfl
theorem EU {l:List Tr.Nd}{b d:Nat->Nat}(h:lD l b d){ts:List Tok}{K:List Tok}{z:Int}{f:Nat}(js:List Int)(a e:Nat)(s:St)(g:Nat)(hc:yV b js a e)(he:e<=l.length)(hf:e<=f)(hj:∀j ∈ js,aI (ag l j).kd=true/\s.op+1+d j.toNat<=41)(ho:s.op<=39)
  (hd:ts.drop s.nx=qC (js.map (fq l f))++K) (hlen:(s.nd.length:Int)=(a:Int)+z) (hg:10*(qC (js.map (fq l f))++K).length<=g):ky ts s K (bf l z a e) (js.map (· + z)) (jk ts (run ts g) s):=by
 have hd1:ts.drop s.nx=bC [40] :: (Ar (js.map (fq l f))++bC [41] :: K):=by rw[hd];unfold qC;simp only[List.cons_append,List.append_assoc,List.nil_append]
 have hlk:(qC (js.map (fq l f))).length=(Ar (js.map (fq l f))).length+2:=by unfold qC;simp only[List.length_cons,List.length_append,List.length_nil]
 rw[List.length_append,hlk]at hg;unfold jk;rw[oJ hd1 (x:=[40]) rfl ho,av];have hd2:ts.drop (⟨s.nx+1,s.nd,s.op+1,max s.mo (s.op+1)⟩:St).nx=Ar (js.map (fq l f))++bC [41] :: K:=aF hd1;cases js with
 |nil=>
  have hd3:ts.drop (⟨s.nx+1,s.nd,s.op+1,max s.mo (s.op+1)⟩:St).nx=bC [41] :: K:=hd2;rw[eu hd3,if_pos (by decide)];obtain⟨n,m,e1,e2⟩:=qD h (K:=K) (z:=z) (f:=f) [] a e [] ⟨s.nx+1,s.nd,s.op+1,max s.mo (s.op+1)⟩ g hc he hf (λj hj=>by cases hj) hd3 hlen (by simp only[eB,List.map_nil,List.flatten_nil,List.nil_append,List.length_cons];omega);exact⟨n,m,e1,e2⟩
 |cons j js=>
  obtain⟨m,rfl,h1,h2,h3,h4⟩:=hc;have hle:=h4.le;obtain⟨hje,hjd⟩:=hj _ List.mem_cons_self;rw[Int.toNat_natCast]at hjd;rw[List.map_cons,pu,List.append_assoc]at hd2;rw[List.map_cons,pu,List.length_append]at hg;have hft:=(yY h.sh h.ok.ex m (by omega) hje f (eB (js.map (fq l f))++bC [41] :: K) (by omega)).1;unfold sees;rw[rW hd2,if_neg (by have:=hft.2.2.2.2.1;simpa using this)];have hhd:(uf (eB (js.map (fq l f))++bC [41] :: K)).s≠[91]/\rowOf (uf (eB (js.map (fq l f))++bC [41] :: K)).s=0:=by
   cases js with
   |nil=>exact⟨show([41]:List UInt8)≠[91]by decide,show rowOf [41]=0 by decide⟩
   |cons x r=>exact⟨show([44]:List UInt8)≠[91]by decide,show rowOf [44]=0 by decide⟩
  unfold a_;obtain⟨n1,m1,e1,hd3⟩:=(fV h m (by omega) hje).2 ts f z ⟨s.nx+1,s.nd,s.op+1,max s.mo (s.op+1)⟩ (eB (js.map (fq l f))++bC [41] :: K) g (by omega) hd2 (by rw[h1];exact hlen) (by show s.op+1+d m<=_;omega) (by simp only[List.length_append,List.length_cons];omega) hhd.1 hhd.2;rw[e1,av];have hl2:(((s.nd++bf l z (b m) (m+1)).length:Nat):Int)=((m+1:Nat):Int)+z:=by
   rw[List.length_append,dh z (by omega) (by omega)];omega
  obtain⟨n2,m2,e2,hd4⟩:=qD h (K:=K) (z:=z) (f:=f) js (m+1) e [(m:Int)+z] ⟨n1,s.nd++bf l z (b m) (m+1),s.op+1,m1⟩ g h4 he hf (λj hj2=>hj j (List.mem_cons_of_mem _ hj2)) hd3 hl2 (by simp only[List.length_append,List.length_cons];omega);refine⟨n2,m2,?_,hd4⟩;show run ts g (.exprs [(m:Int)+z]) ⟨n1,s.nd++bf l z (b m) (m+1),s.op+1,m1⟩=_;rw[e2,h1];show Rs.ok _ (⟨n2,s.nd++bf l z a (m+1)++bf l z (m+1) e,s.op+1-1,m2⟩:St)=_;rw[List.append_assoc s.nd,dG l z (by omega) (by omega),Nat.add_sub_cancel];rfl
theorem xu {l:List Tr.Nd}{b d:Nat->Nat}(h:lD l b d){ts:List Tok}{K:List Tok}{z:Int}{f:Nat}{p:Nat}(hp:p<l.length)(hk:(ag l p).kd=13)(s:St)(g:Nat)(hf:p<f)(ho:s.op+d p<=41)
  (hd:ts.drop s.nx=[iT dL,jE (bu l (aL l p 0))]++qC ((ag l p).ks.tail.map (fq l f))++K) (hlen:(s.nd.length:Int)=(b p:Int)+z) (hg:10*([iT dL,jE (bu l (aL l p 0))]++qC ((ag l p).ks.tail.map (fq l f))++K).length<=g) :
  ky ts s K (bf l z (b p) (p+1)) [(p:Int)+z] (gF ts (run ts g) (bu l p) 0 s):=by
 obtain⟨k,js,hks,hlt,hkk,hjs⟩:=Jm h hp hk;have hc:=jy h.st hp;rw[hks]at hc;obtain⟨k',hkk2,h1,h2,h3,h4⟩:=hc;obtain rfl:k=k':=by omega
 have hle:=h4.le;have hdk:=h.deep hp (k:=k) (by rw[hks];simp);have hkp:=h.pos (p:=k) (by omega);rw[aR hks,hks,List.tail_cons]at hd hg;simp only[List.cons_append,List.nil_append]at hd hg;simp only[List.length_cons]at hg;unfold gF;rw[nJ hd (x:=dL) rfl,av];obtain⟨n1,m1,e1,hd1⟩:=sW h (p:=k) (s:=ae s) (z:=z) (by omega) 19 (by omega) (by omega) (aF hd) (by rw[h1];exact hlen);rw[e1,av];have hl2:(((s.nd++bf l z (b k) (k+1)).length:Nat):Int)=((k+1:Nat):Int)+z:=by
  rw[List.length_append,dh z (by omega) (by omega)];omega
 obtain⟨n2,m2,e2,hd2⟩:=EU h (K:=K) (z:=z) (f:=f) js (k+1) p ⟨n1,s.nd++bf l z (b k) (k+1),s.op,m1⟩ g h4 (by omega) (by omega) (λj hj=>by
  obtain⟨x2,rfl,hx1,hx2⟩:=hjs j hj
  have:=h.deep hp (k:=x2) (by rw[hks];simp[hj])
  rw[Int.toNat_natCast]
  exact⟨hx2,by show s.op+1+d x2<=41;omega⟩) (by show s.op<=39;omega) hd1 hl2 (by omega)
 show ky ts s K _ _ ((jk ts (run ts g) ⟨n1,s.nd++bf l z (b k) (k+1),s.op,m1⟩).bind _);rw[e2,av];exact dY h hp (s:=s) (s2:=⟨n2,s.nd++bf l z (b k) (k+1)++bf l z (k+1) p,s.op,m2⟩) (z:=z) hd2 (by rw[List.append_assoc,h1,dG l z (by omega) (by omega)]) rfl hlen hk.symm (Ao h.sh hp (by omega)).symm rfl (by rw[hks];rfl) rfl
end
section
open Go
open Tr (nth dS aI fu bB kY iX iE iD y9 qJ eQ iW iB si kr aJ xE r_ gW)
def SG (t:Tok):Prop:=t.s≠[125]/\t.s≠ku/\t.s≠pG
theorem tq {t:Tok}(h:iB t.s=true):SG t:=by
 refine⟨?_,?_,?_⟩<;>· intro e;rw[e]at h;revert h;decide
theorem tu (l:List Tr.Nd)(F f:Nat)(p:Int):fe l F (f+1) p=Au l F p ++
  (if (ag l p).kd=11 then jQ l (fe l F f) (aL l p 1) []++(if (ag l (aL l p 2)).ks=[] then [] else iT ku :: jQ l (fe l F f) (aL l p 2) [])
  else if (ag l p).kd=12 then jQ l (fe l F f) (aL l p 1) []
  else if (ag l p).kd=16 then jQ l (fe l F f) (aL l p 0) []++[iT mZ,jE (bu l p)]++jQ l (fe l F f) (aL l p 1) []
  else [bC [59]]):=rfl
theorem Jo (l:List Tr.Nd)(f:Nat)(p:Int) :
  ((ag l p).kd=7->Au l f p=jE (bu l p) :: bC [61] :: fq l f (aL l p 0)) /\
  ((ag l p).kd=8->Au l f p=jE (bu l p) :: bC [91] :: (fq l f (aL l p 0)++bC [93] :: bC [61] :: fq l f (aL l p 1))) /\
  ((ag l p).kd=9->Au l f p=[jE (bu l p),bC [61],iT Cq,jE (bu l (aL l p 0))]) /\
  ((ag l p).kd=10->Au l f p=iT nU :: jE (bu l (aL l p 0)) :: fq l f (aL l p 1)) /\
  ((ag l p).kd=11->Au l f p=iT AR :: fq l f (aL l p 0)) /\
  ((ag l p).kd=12->Au l f p=iT iO :: fq l f (aL l p 0)) /\
  ((ag l p).kd=13->Au l f p=(if bu l p=[] then [] else [jE (bu l p),bC [61]])++([iT dL,jE (bu l (aL l p 0))]++qC ((ag l p).ks.tail.map (fq l f)))) /\
  ((ag l p).kd=14->Au l f p=iT dM :: ((ag l p).ks.map (fq l f)).flatten) /\
  ((ag l p).kd=15->Au l f p=iT jG :: fq l f (aL l p 0)) /\
  ((ag l p).kd=16->Au l f p=[iT tV]) /\
  ((ag l p).kd=17->Au l f p=jE (bu l p) :: bC [61] :: iT tX :: fq l f (aL l p 0)):=by
 refine⟨?_,?_,?_,?_,?_,?_,?_,?_,?_,?_,?_⟩<;>· intro e;unfold Au;rw[e];simp
theorem rX {l:List Tr.Nd}(h:iX l=true){p:Nat}(hp:p<l.length)(hk:dS (ag l p).kd=true)(F f:Nat)(K:List Tok)(hf:1<=f):SG (uf (fe l F f p++K)):=by
 obtain⟨f,rfl⟩:∃f',f=f'+1:=⟨f-1,by omega⟩;rw[tu,List.append_assoc];obtain⟨l7,l8,l9,l10,l11,l12,l13,l14,l15,l16,l17⟩:=Jo l F p;have hw:∀x:List UInt8,x=nU\/x=AR\/x=iO\/x=dM\/x=jG\/x=tV\/x=dL->SG (iT x):=λx hx=>by
  rcases hx with e |e |e |e |e |e |e<;>rw[e]<;>exact⟨by decide,by decide,by decide⟩
 rcases mE hk with e |e |e |e |e |e |e |e |e |e |e
 ·rw[l7 e];exact tq (t:=jE (bu l p)) (gU h hp (by omega))
 ·rw[l8 e];exact tq (t:=jE (bu l p)) (gU h hp (by omega))
 ·rw[l9 e];exact tq (t:=jE (bu l p)) (gU h hp (by omega))
 ·rw[l10 e];exact hw _ (by simp)
 ·rw[l11 e];exact hw _ (by simp)
 ·rw[l12 e];exact hw _ (by simp)
 ·rw[l13 e];have htx:=(bR h hp).tx;rw[e]at htx;split
  ·exact hw dL (by simp)
  ·rename_i h0;exact tq (t:=jE (bu l p)) (show iB (bu l p)=true by simpa [iW,h0]using htx)
 ·rw[l14 e];exact hw dM (by simp)
 ·rw[l15 e];exact hw jG (by simp)
 ·rw[l16 e];exact hw tV (by simp)
 ·rw[l17 e];exact tq (t:=jE (bu l p)) (gU h hp (by omega))
section
variable {ts:List Tok} {rec:nM->St->Rs} {s:St} {t:Tok} (h:ah ts s=t)
include h
theorem vQ (h1:t.k=1):aO ts rec s=dZ ts rec s:=by
 unfold aO;simp only;rw[h,if_pos h1]
theorem MJ (h1:t.k=4)(h2:t.s=nU):aO ts rec s=l_ ts rec s:=by
 unfold aO;simp only;rw[h,if_neg (by omega),if_pos h2]
theorem P5 (h1:t.k=4)(h2:t.s=AR):aO ts rec s=wI ts rec s:=by
 unfold aO;simp only;rw[h,if_neg (by omega),if_neg (by rw[h2];decide),if_pos h2]
theorem EW (h1:t.k=4)(h2:t.s=iO):aO ts rec s=iw ts rec s:=by
 unfold aO;simp only;rw[h,if_neg (by omega),if_neg (by rw[h2];decide),if_neg (by rw[h2];decide),if_pos h2]
theorem Jp (h1:t.k=4)(h2:t.s=dL):aO ts rec s=(gF ts rec [] t.p s).bind λv s=>bL ts v s:=by
 unfold aO;simp only;rw[h,if_neg (by omega),if_neg (by rw[h2];decide),if_neg (by rw[h2];decide),if_neg (by rw[h2];decide),if_pos h2]
theorem Dy (h1:t.k=4)(h2:t.s=dM):aO ts rec s=(cO ts rec s).bind λv s=>bL ts v s:=by
 unfold aO;simp only;rw[h,if_neg (by omega),if_neg (by rw[h2];decide),if_neg (by rw[h2];decide),if_neg (by rw[h2];decide),if_neg (by rw[h2];decide),if_pos h2]
theorem EX (h1:t.k=4)(h2:t.s=jG):aO ts rec s=(iP ts rec s).bind λv s=>bL ts v s:=by
 unfold aO;simp only;rw[h,if_neg (by omega),if_neg (by rw[h2];decide),if_neg (by rw[h2];decide),if_neg (by rw[h2];decide),if_neg (by rw[h2];decide),if_neg (by rw[h2];decide),if_pos h2]
theorem MK (h1:t.k=4)(h2:t.s=tV):aO ts rec s=ma ts rec s:=by
 unfold aO;simp only;rw[h,if_neg (by omega),if_neg (by rw[h2];decide),if_neg (by rw[h2];decide),if_neg (by rw[h2];decide),if_neg (by rw[h2];decide),if_neg (by rw[h2];decide),if_neg (by rw[h2];decide),if_pos h2]
theorem ML (h2:t.s=Cq)(u:Tok):bJ ts rec u s=(gD ts 18 (ae s)).bind λv s=>bv 9 0 u.p u.s v s:=by
 unfold bJ;simp only;rw[h,if_pos h2]
theorem EY (h2:t.s=dL)(u:Tok):bJ ts rec u s=gF ts rec u.s u.p s:=by
 unfold bJ;simp only;rw[h,if_neg (by rw[h2];decide),if_pos h2]
theorem Jq (h2:t.s=tX)(u:Tok):bJ ts rec u s=(a_ rec (ae s)).bind λv s=>bv 17 0 u.p u.s v s:=by
 unfold bJ;simp only;rw[h,if_neg (by rw[h2];decide),if_neg (by rw[h2];decide),if_pos h2]
theorem MM (h2:Jh t)(u:Tok):bJ ts rec u s=(a_ rec s).bind λv s=>bv 7 0 u.p u.s v s:=by
 unfold bJ;simp only;rw[h,if_neg h2.1,if_neg h2.2.1,if_neg h2.2.2.1]
end
theorem rY {ts:List Tok}{rec:nM->St->Rs}{s:St}{x:List UInt8}{K:List Tok}(hd:ts.drop s.nx=jE x :: bC [61] :: K):dZ ts rec s=(bJ ts rec (jE x) (ae (ae s))).bind λv s=>bL ts v s:=by
 have hd1:ts.drop (ae s).nx=bC [61] :: K:=aF hd;unfold dZ;simp only;rw[jY hd rfl,av,eu hd1,if_neg (by decide),nJ hd1 (x:=[61]) rfl,av,aY hd]
theorem iN {ts:List Tok}{s:St}{K:List Tok}{X:List Nd}{v:List Int}{r:Rs}(h:ky ts s (bC [59] :: K) X v r):ky ts s K X v (r.bind λv s=>bL ts v s):=by
 obtain⟨n,m,e,hd⟩:=h;rw[e,av];unfold bL;rw[nJ (s:=⟨n,_,_,m⟩) hd (x:=[59]) rfl,av];exact⟨n+1,m,rfl,aF (s:=⟨n,[],0,0⟩) hd⟩
def MN (l:List Tr.Nd)(b d:Nat->Nat)(p:Nat):Prop:=∀(ts:List Tok) (F f:Nat) (z:Int) (s:St) (K:List Tok) (g:Nat),p<f->l.length<=F->ts.drop s.nx=fe l F f p++K->(s.nd.length:Int)=(b p:Int)+z->s.op+d p<=41->10*(fe l F f p++K).length+2<=g ->
 (uf K).s≠ku->ky ts s K (bf l z (b p) (p+1)) [(p:Int)+z] (run ts g .stmt s)
theorem qE {l:List Tr.Nd}{b d:Nat->Nat}(h:lD l b d){ts:List Tok}{K:List Tok}{z:Int}{F f:Nat}(hF:l.length<=F){p:Nat}(hp:p<l.length)(hk:(ag l p).kd=6)(hpf:p<=f)(ih:∀q,q<p->dS (ag l q).kd=true->MN l b d q):∀(js:List Int) (a:Nat) (done:List Int) (s:St) (g:Nat),yV b js a p->(ag l p).ks=done++js->s.op+d p<=42 ->
  ts.drop s.nx=(js.map (fe l F f)).flatten++bC [125] :: K->(s.nd.length:Int)=(a:Int)+z->10*((js.map (fe l F f)).flatten++bC [125] :: K).length+4<=g ->
  wB ts s K (bf l z a (p+1)) [(p:Int)+z] (s.op-1) (run ts g (.stmts 0 (done.map (· + z))) s)
 | [],a,done,s,g,hc,hks,hop,hd,hlen,hg=>by
  obtain⟨g,rfl⟩:∃g',g=g'+1:=⟨g-1,by omega⟩;obtain rfl:a=p:=hc;have hd1:ts.drop s.nx=bC [125] :: K:=hd;show wB ts s K _ _ _ (gu ts (run ts g) 0 _ s);unfold gu;rw[eu hd1,if_pos (by decide),fin_at hd1 (x:=[125]) rfl,av];rw[List.append_nil]at hks;refine⟨s.nx+1,s.mo,?_,aF hd1⟩;unfold bv;rw[yU z hp,<- hks];have e1:(0:Int)=(ag l a).n:=(Ao h.sh hp (by omega)).symm;have e2:[]=bu l a:=(ig h.sh hp (by omega)).symm;show Rs.ok [(s.nd.length:Int)] _=Rs.ok _ (⟨s.nx+1,s.nd++[⟨(ag l a).kd,(ag l a).n,0,bu l a,(ag l a).ks.map (· + z)⟩],s.op-1,s.mo⟩:St);rw[hlen,hk,<- e1,<- e2]
 |j :: js,a,done,s,g,hc,hks,hop,hd,hlen,hg=>by
  obtain⟨g,rfl⟩:∃g',g=g'+1:=⟨g-1,by omega⟩;obtain⟨m,rfl,h1,h2,h3,h4⟩:=hc;have hle:=h4.le;have hst:dS (ag l m).kd=true:=by
   obtain⟨k2,e,_,hk2⟩:=h.ok.bl p hp hk (m:Int) (by rw[hks];simp);rw[e];exact hk2
  have hdm:=h.deep hp (k:=m) (by rw[hks];simp);rw[List.map_cons,List.flatten_cons,List.append_assoc]at hd hg;have hft:=rX h.sh (p:=m) (by omega) hst F f ((js.map (fe l F f)).flatten++bC [125] :: K) (by omega);show wB ts s K _ _ _ (gu ts (run ts g) 0 _ s);unfold gu sees;rw[rW hd,if_neg (by simpa using hft.1)];have hft2:(uf ((js.map (fe l F f)).flatten++bC [125] :: K)).s≠ku:=by
   cases js with
   |nil=>show([125]:List UInt8)≠ku;decide
   |cons j2 js=>
    obtain⟨m2,rfl,_,_,h8,_⟩:=h4;rw[List.map_cons,List.flatten_cons,List.append_assoc];have hst2:dS (ag l m2).kd=true:=by
     obtain⟨k2,e,_,hk2⟩:=h.ok.bl p hp hk (m2:Int) (by rw[hks];simp);rw[e];exact hk2
    exact(rX h.sh (p:=m2) (by omega) hst2 F f _ (by omega)).2.1
  rw[List.length_append]at hg;obtain⟨n1,m1,e1,hd2⟩:=ih m h3 hst ts F f z s _ g (by omega) hF hd (by rw[h1];exact hlen) (by omega) (by rw[List.length_append];omega) hft2;rw[e1,av];have hl2:(((s.nd++bf l z (b m) (m+1)).length:Nat):Int)=((m+1:Nat):Int)+z:=by
   rw[List.length_append,dh z (by omega) (by omega)];omega
  have hpos:1<=(fe l F f (m:Int)).length:=by
   have:=hft;rcases hx:fe l F f (m:Int)with _ |⟨t,r⟩
   ·exfalso;have h9:=rX h.sh (p:=m) (by omega) hst F f [bC [125]] (by omega);rw[hx]at h9;exact h9.1 rfl
   ·simp
  obtain⟨n2,m2,e2,hd3⟩:=qE h hF hp hk hpf ih js (m+1) (done++[(m:Int)]) ⟨n1,s.nd++bf l z (b m) (m+1),s.op,m1⟩ g h4 (by rw[hks,List.append_assoc];rfl) hop hd2 hl2 (by omega);refine⟨n2,m2,?_,hd3⟩;show run ts g (.stmts 0 (done.map (· + z)++[(m:Int)+z])) ⟨n1,s.nd++bf l z (b m) (m+1),s.op,m1⟩=_;rw[List.map_append]at e2;rw[show done.map (· + z)++[(m:Int)+z]=done.map (· + z)++[(m:Int)].map (· + z)from rfl,e2,h1];show Rs.ok _ (⟨n2,s.nd++bf l z a (m+1)++bf l z (m+1) (p+1),s.op-1,m2⟩:St)=_;rw[List.append_assoc s.nd,dG l z (by omega) (by omega)]
theorem rZ (l:List Tr.Nd)(st:Int->List Tok)(p:Int):jQ l st p []=bC [123] :: (((ag l p).ks.map st).flatten++[bC [125]]):=rfl
theorem kW {l:List Tr.Nd}{b d:Nat->Nat}(h:lD l b d){ts:List Tok}{K:List Tok}{z:Int}{F f:Nat}(hF:l.length<=F){p:Nat}(hp:p<l.length)(hk:(ag l p).kd=6)(hpf:p<=f)(ih:∀q,q<p->dS (ag l q).kd=true->MN l b d q)(s:St)(g:Nat)(hop:s.op+d p<=40)
  (hd:ts.drop s.nx=jQ l (fe l F f) p []++K) (hlen:(s.nd.length:Int)=(b p:Int)+z) (hg:10*(jQ l (fe l F f) p []++K).length<=g):ky ts s K (bf l z (b p) (p+1)) [(p:Int)+z] (dm ts (run ts g) s):=by
 have hdp:=h.pos hp;have hlk:(jQ l (fe l F f) p []).length=((ag l p).ks.map (fe l F f)).flatten.length+2:=by rw[rZ];simp only[List.length_cons,List.length_append,List.length_nil]
 rw[List.length_append,hlk]at hg;rw[rZ]at hd;simp only[List.cons_append,List.append_assoc,List.nil_append]at hd;unfold dm;simp only;rw[aY hd,oJ hd (x:=[123]) rfl (by omega),av];obtain⟨n,m,e,hd2⟩:=qE h hF hp hk hpf ih (ag l p).ks (b p) [] ⟨s.nx+1,s.nd,s.op+1,max s.mo (s.op+1)⟩ g (jy h.st hp) rfl (by show s.op+1+d p<=42;omega) (aF hd) hlen (by simp only[List.length_append,List.length_cons];omega);refine⟨n,m,?_,hd2⟩;refine Eq.trans e ?_;show Rs.ok _ (⟨n,s.nd++bf l z (b p) (p+1),s.op+1-1,m⟩:St)=_;rw[Nat.add_sub_cancel]
theorem Jr {l:List Tr.Nd}{b d:Nat->Nat}(h:lD l b d):∀p:Nat,p<l.length->dS (ag l p).kd=true->MN l b d p:=by
 intro p;induction p using Nat.strongRecOn with
 |_ p ih0=>
 intro hp hk ts F f z s K g hf hF hd hlen hop hg hK;have ih:∀q,q<p->dS (ag l q).kd=true->MN l b d q:=λq hq=>ih0 q hq (by omega)
 obtain⟨f,rfl⟩:∃f',f=f'+1:=⟨f-1,by omega⟩;obtain⟨g,rfl⟩:∃g',g=g'+1:=⟨g-1,by omega⟩;have hbp:=h.st.le p hp;rw[tu]at hd hg;show ky ts s K _ _ (aO ts (run ts g) s);obtain⟨l7,l8,l9,l10,l11,l12,l13,l14,l15,l16,l17⟩:=Jo l F p;have hlast:∀e:Int,(ag l p).kd=e->e≠11->e≠12->e≠16->ts.drop s.nx=Au l F p++bC [59] :: K/\10*((Au l F p).length+1+K.length)+2<=g+1:=λe he h1 h2 h3=>by
  rw[if_neg (by omega),if_neg (by omega),if_neg (by omega)]at hd hg;rw[List.append_assoc]at hd;refine⟨hd,?_⟩;simp only[List.length_append,List.length_cons,List.length_nil]at hg;omega
 have h0:(ag l p).n=0:=Ao h.sh hp (by have:=mE hk;omega);have h91:(uf (bC [59] :: K)).s≠[91]:=show([59]:List UInt8)≠[91]by decide
 have hr0:rowOf (uf (bC [59] :: K)).s=0:=show rowOf [59]=0 by decide
 rcases mE hk with e |e |e |e |e |e |e |e |e |e |e
 ·obtain⟨hd,hg⟩:=hlast _ e (by decide) (by decide) (by decide);obtain⟨k,hks,hlt,hke⟩:=xq h hp (by omega);obtain⟨hb1,hb2⟩:=h.one hp hks;have hdk:=h.deep hp (k:=k) (by rw[hks];simp);rw[l7 e,aR hks]at hd hg;simp only[List.cons_append,List.length_cons]at hd hg;rw[vQ (aY hd) rfl,rY hd];refine iN ?_;have hd2:ts.drop (ae (ae s)).nx=fq l F k++bC [59] :: K:=aF (s:=ae s) (aF hd);rw[MM (rW hd2) (yY h.sh h.ok.ex k (by omega) hke F _ (by omega)).1];obtain⟨n1,m1,e1,hd3⟩:=(fV h k (by omega) hke).2 ts F z (ae (ae s)) (bC [59] :: K) g (by omega) hd2 (by rw[hb1];exact hlen) (by show s.op+d k<=_;omega) (by simp only[List.length_append,List.length_cons];omega) h91 hr0;unfold a_;rw[e1,av];exact dY h hp (s:=s) (s2:=⟨n1,s.nd++bf l z (b k) (k+1),s.op,m1⟩) hd3 (by rw[hb1,hb2]) rfl hlen e.symm h0.symm rfl (by rw[hks];rfl) rfl
 ·obtain⟨hd,hg⟩:=hlast _ e (by decide) (by decide) (by decide);obtain⟨k,j,hks,hlt,hlt2,hke,hje⟩:=Nu h hp e;obtain⟨hb1,hb2,hb3⟩:=h.two hp hks;have hdk:=h.deep hp (k:=k) (by rw[hks];simp);have hdj:=h.deep hp (k:=j) (by rw[hks];simp);have hkp:=h.pos (p:=k) (by omega);rw[l8 e,aR hks,dO hks]at hd hg;simp only[List.cons_append,List.length_cons,List.append_assoc,List.length_append]at hd hg;rw[vQ (aY hd) rfl];have hd1:ts.drop (ae s).nx=bC [91] :: (fq l F k++bC [93] :: bC [61] :: (fq l F j++bC [59] :: K)):=aF hd;unfold dZ;simp only;rw[jY hd rfl,av,eu hd1,if_pos (by decide),aY hd];unfold kN;rw[oJ hd1 (x:=[91]) rfl (by show s.op<=39;omega),av];obtain⟨n1,m1,e1,hd3⟩:=(fV h k (by omega) hke).2 ts F z ⟨s.nx+1+1,s.nd,s.op+1,max s.mo (s.op+1)⟩ (bC [93] :: bC [61] :: (fq l F j++bC [59] :: K)) g (by omega) (aF hd1) (by rw[hb1];exact hlen) (by show s.op+1+d k<=_;omega) (by simp only[List.length_append,List.length_cons];omega) (show([93]:List UInt8)≠[91]by decide) (show rowOf [93]=0 by decide);unfold a_;show ky ts s K _ _ (((((run ts g (.bin 1) ⟨s.nx+1+1,s.nd,s.op+1,max s.mo (s.op+1)⟩).bind λv s=>(jd ts [93] s).bind λ_ s =>.ok v s)).bind λi s=>(gI ts [61] s).bind λ_ s=>(run ts g (.bin 1) s).bind λv s=>(bv 8 0 0 (bu l p) (i++v) s).bind λv s=>bL ts v s));rw[e1,av];show ky ts s K _ _ (((jd ts [93] ⟨n1,s.nd++bf l z (b k) (k+1),s.op+1,m1⟩).bind λ_ s =>.ok [(k:Int)+z] s).bind _)
  rw[fin_at (s:=⟨n1,_,_,_⟩) hd3 (x:=[93]) rfl,av,av];have hd4:ts.drop (n1+1)=bC [61] :: (fq l F j++bC [59] :: K):=aF (s:=⟨n1,[],0,0⟩) hd3;rw[nJ (s:=⟨n1+1,_,_,_⟩) hd4 (x:=[61]) rfl,av];have hd5:ts.drop (n1+1+1)=fq l F j++bC [59] :: K:=aF (s:=⟨n1+1,[],0,0⟩) hd4;have hl2:(((s.nd++bf l z (b k) (k+1)).length:Nat):Int)=(b j:Int)+z:=by
   have:=h.st.le k (by omega);rw[List.length_append,dh z (by omega) (by omega),hb2];omega
  obtain⟨n2,m2,e2,hd6⟩:=(fV h j (by omega) hje).2 ts F z ⟨n1+1+1,s.nd++bf l z (b k) (k+1),s.op+1-1,m1⟩ (bC [59] :: K) g (by omega) hd5 hl2 (by show s.op+1-1+d j<=_;omega) (by simp only[List.length_append,List.length_cons];omega) h91 hr0;show ky ts s K _ _ ((run ts g (.bin 1) ⟨n1+1+1,s.nd++bf l z (b k) (k+1),s.op+1-1,m1⟩).bind _);rw[e2,av];refine iN ?_;exact dY h hp (s:=s) (s2:=⟨n2,s.nd++bf l z (b k) (k+1)++bf l z (b j) (j+1),s.op+1-1,m2⟩) hd6 (by
   have:=h.st.le k (by omega);have:=h.st.le j (by omega);rw[List.append_assoc,hb1,hb2,dG l z (by omega) (by omega),hb3]) (by show s.op+1-1=s.op;omega) hlen e.symm h0.symm rfl (by rw[hks];rfl) rfl
 ·obtain⟨hd,hg⟩:=hlast _ e (by decide) (by decide) (by decide);obtain⟨k,hks,hlt,hke⟩:=Nv h hp e;obtain⟨hb1,hb2⟩:=h.one hp hks;rw[l9 e,aR hks]at hd;simp only[List.cons_append,List.nil_append]at hd;rw[vQ (aY hd) rfl,rY hd];refine iN ?_;have hd2:ts.drop (ae (ae s)).nx=iT Cq :: jE (bu l k) :: bC [59] :: K:=aF (s:=ae s) (aF hd);rw[ML (aY hd2) rfl];obtain⟨n1,m1,e1,hd3⟩:=sW h (p:=k) (s:=ae (ae (ae s))) (z:=z) (by omega) 18 (by omega) (by omega) (aF hd2) (by rw[hb1];exact hlen);rw[e1,av];exact dY h hp (s:=s) (s2:=⟨n1,s.nd++bf l z (b k) (k+1),s.op,m1⟩) hd3 (by rw[hb1,hb2]) rfl hlen e.symm h0.symm rfl (by rw[hks];rfl) rfl
 ·obtain⟨hd,hg⟩:=hlast _ e (by decide) (by decide) (by decide);obtain⟨k,j,hks,hlt,hlt2,hke,hje⟩:=Jk h hp e;obtain⟨hb1,hb2,hb3⟩:=h.two hp hks;have hdj:=h.deep hp (k:=j) (by rw[hks];simp);rw[l10 e,aR hks,dO hks]at hd hg;simp only[List.cons_append,List.length_cons]at hd hg;rw[MJ (aY hd) rfl rfl];unfold l_;simp only;obtain⟨n1,m1,e1,hd3⟩:=sW h (p:=k) (s:=ae s) (z:=z) (by omega) 18 (by omega) (by omega) (aF hd) (by rw[hb1];exact hlen);rw[e1,av,aY hd];have hl2:(((s.nd++bf l z (b k) (k+1)).length:Nat):Int)=(b j:Int)+z:=by
   have:=h.st.le k (by omega);rw[List.length_append,dh z (by omega) (by omega),hb2];omega
  obtain⟨n2,m2,e2,hd6⟩:=(fV h j (by omega) hje).2 ts F z ⟨n1,s.nd++bf l z (b k) (k+1),s.op,m1⟩ (bC [59] :: K) g (by omega) hd3 hl2 (by show s.op+d j<=_;omega) (by simp only[List.length_append,List.length_cons];omega) h91 hr0;unfold a_;show ky ts s K _ _ ((run ts g (.bin 1) ⟨n1,s.nd++bf l z (b k) (k+1),s.op,m1⟩).bind _);rw[e2,av];refine iN ?_;exact dY h hp (s:=s) (s2:=⟨n2,s.nd++bf l z (b k) (k+1)++bf l z (b j) (j+1),s.op,m2⟩) hd6 (by
   have:=h.st.le k (by omega);have:=h.st.le j (by omega);rw[List.append_assoc,hb1,hb2,dG l z (by omega) (by omega),hb3]) rfl hlen e.symm h0.symm (ig h.sh hp (by omega)).symm (by rw[hks];rfl) rfl
 ·
  rw[if_pos e]at hd hg;obtain⟨k,j,i,hks,hlt,hlt2,hlt3,hke,hj6,hi6⟩:=Ca h hp e;obtain⟨hb1,hb2,hb3,hb4⟩:=h.three hp hks;have hdk:=h.deep hp (k:=k) (by rw[hks];simp);have hdj:=h.deep hp (k:=j) (by rw[hks];simp);have hdi:=h.deep hp (k:=i) (by rw[hks];simp);have hbk:=h.st.le k (by omega);have hbj:=h.st.le j (by omega);have hbi:=h.st.le i (by omega);rw[l11 e,aR hks,dO hks,yo hks]at hd hg;have hlb:∀q:Int,2<=(jQ l (fe l F f) q []).length:=λq=>by rw[rZ];simp
  have hlj:=hlb j;simp only[List.cons_append,List.append_assoc]at hd;simp only[List.length_cons,List.length_append]at hg;rw[P5 (aY hd) rfl rfl];unfold wI;simp only;rw[aY hd];obtain⟨n1,m1,e1,hd1⟩:=(fV h k (by omega) hke).2 ts F z (ae s) _ g (by omega) (aF hd) (by rw[hb1];exact hlen) (by show s.op+d k<=_;omega) (by simp only[List.length_append];omega) (show([123]:List UInt8)≠[91]by decide) (show rowOf [123]=0 by decide);unfold a_;rw[e1,av];have hl2:(((s.nd++bf l z (b k) (k+1)).length:Nat):Int)=(b j:Int)+z:=by
   rw[List.length_append,dh z (by omega) (by omega),hb2];omega
  obtain⟨n2,m2,e2,hd2⟩:=kW h hF (p:=j) (by omega) hj6 (by omega) (λq hq=>ih q (by omega)) ⟨n1,s.nd++bf l z (b k) (k+1),s.op,m1⟩ g (by show s.op+d j<=40;omega) hd1 hl2 (by simp only[List.length_append];omega);show ky ts s K _ _ ((dm ts (run ts g) ⟨n1,s.nd++bf l z (b k) (k+1),s.op,m1⟩).bind _);rw[e2,av];have hl3:(((s.nd++bf l z (b k) (k+1)++bf l z (b j) (j+1)).length:Nat):Int)=(b i:Int)+z:=by
   rw[List.length_append,List.length_append,dh z (by omega) (by omega),dh z (by omega) (by omega),hb3];omega
  have hall:s.nd++bf l z (b k) (k+1)++bf l z (b j) (j+1)++bf l z (b i) (i+1)=s.nd++bf l z (b p) p:=by
   rw[List.append_assoc,List.append_assoc,hb3,dG l z (by omega) (by omega),hb2,dG l z (by omega) (by omega),hb1,hb4]
  by_cases hi0:(ag l (i:Int)).ks=[]
  ·rw[if_pos hi0]at hd2;unfold sees;have hd3:ts.drop n2=K:=hd2;rw[rW (s:=⟨n2,_,_,m2⟩) hd3,if_neg (by simpa using hK)];obtain⟨n3,m3,e3,hd4⟩:=iM h (p:=i) (by omega) hi0 (s:=⟨n2,s.nd++bf l z (b k) (k+1)++bf l z (b j) (j+1),s.op,m2⟩) (s2:=⟨n2,s.nd++bf l z (b k) (k+1)++bf l z (b j) (j+1),s.op,m2⟩) (z:=z) hd3 rfl rfl hl3 hi6.symm (Ao h.sh (p:=i) (by omega) (by omega)).symm (ig h.sh (p:=i) (by omega) (by omega)).symm rfl;show ky ts s K _ _ ((bv 6 0 0 [] [] ⟨n2,s.nd++bf l z (b k) (k+1)++bf l z (b j) (j+1),s.op,m2⟩).bind _);rw[e3,av];exact dY h hp (s:=s) (s2:=⟨n3,s.nd++bf l z (b k) (k+1)++bf l z (b j) (j+1)++bf l z (b i) (i+1),s.op,m3⟩) hd4 hall rfl hlen e.symm h0.symm (ig h.sh hp (by omega)).symm (by rw[hks];rfl) rfl
  ·rw[if_neg hi0]at hd2 hg;have hd3:ts.drop n2=iT ku :: (jQ l (fe l F f) i []++K):=by rw[hd2];rfl
   rw[eu (s:=⟨n2,_,_,m2⟩) hd3,if_pos (by decide)];have hli:=hlb i;simp only[List.length_cons]at hg;obtain⟨n3,m3,e3,hd4⟩:=kW h hF (p:=i) (by omega) hi6 (by omega) (λq hq=>ih q (by omega)) (ae ⟨n2,s.nd++bf l z (b k) (k+1)++bf l z (b j) (j+1),s.op,m2⟩) g (by show s.op+d i<=40;omega) (aF (s:=⟨n2,[],0,0⟩) hd3) hl3 (by simp only[List.length_append];omega);show ky ts s K _ _ ((dm ts (run ts g) (ae ⟨n2,s.nd++bf l z (b k) (k+1)++bf l z (b j) (j+1),s.op,m2⟩)).bind _);rw[e3,av];exact dY h hp (s:=s) (s2:=⟨n3,s.nd++bf l z (b k) (k+1)++bf l z (b j) (j+1)++bf l z (b i) (i+1),s.op,m3⟩) hd4 hall rfl hlen e.symm h0.symm (ig h.sh hp (by omega)).symm (by rw[hks];rfl) rfl
 ·
  rw[if_neg (by omega),if_pos e]at hd hg;obtain⟨k,j,hks,hlt,hlt2,hke,hj6⟩:=Cb h hp e;obtain⟨hb1,hb2,hb3⟩:=h.two hp hks;have hdk:=h.deep hp (k:=k) (by rw[hks];simp);have hdj:=h.deep hp (k:=j) (by rw[hks];simp);have hbk:=h.st.le k (by omega);have hbj:=h.st.le j (by omega);rw[l12 e,aR hks,dO hks]at hd hg;simp only[List.cons_append,List.append_assoc]at hd;simp only[List.length_cons,List.length_append]at hg;have hlj:2<=(jQ l (fe l F f) (j:Int) []).length:=by rw[rZ];simp
  rw[EW (aY hd) rfl rfl];unfold iw;simp only;rw[aY hd];obtain⟨n1,m1,e1,hd1⟩:=(fV h k (by omega) hke).2 ts F z (ae s) _ g (by omega) (aF hd) (by rw[hb1];exact hlen) (by show s.op+d k<=_;omega) (by simp only[List.length_append];omega) (show([123]:List UInt8)≠[91]by decide) (show rowOf [123]=0 by decide);unfold a_;rw[e1,av];have hl2:(((s.nd++bf l z (b k) (k+1)).length:Nat):Int)=(b j:Int)+z:=by
   rw[List.length_append,dh z (by omega) (by omega),hb2];omega
  obtain⟨n2,m2,e2,hd2⟩:=kW h hF (p:=j) (by omega) hj6 (by omega) (λq hq=>ih q (by omega)) ⟨n1,s.nd++bf l z (b k) (k+1),s.op,m1⟩ g (by show s.op+d j<=40;omega) hd1 hl2 (by simp only[List.length_append];omega);show ky ts s K _ _ ((dm ts (run ts g) ⟨n1,s.nd++bf l z (b k) (k+1),s.op,m1⟩).bind _);rw[e2,av];exact dY h hp (s:=s) (s2:=⟨n2,s.nd++bf l z (b k) (k+1)++bf l z (b j) (j+1),s.op,m2⟩) hd2 (by
   rw[List.append_assoc,hb1,hb2,dG l z (by omega) (by omega),hb3]) rfl hlen e.symm h0.symm (ig h.sh hp (by omega)).symm (by rw[hks];rfl) rfl
 ·
  obtain⟨hd,hg⟩:=hlast _ e (by decide) (by decide) (by decide);rw[l13 e]at hd hg;by_cases htx:bu l p=[]
  ·rw[if_pos htx,List.nil_append]at hd hg;have hd':ts.drop s.nx=iT dL :: (jE (bu l (aL l p 0)) :: (qC ((ag l p).ks.tail.map (fq l F))++bC [59] :: K)):=by rw[hd];simp only[List.cons_append,List.nil_append]
   rw[Jp (aY hd') rfl rfl];refine iN ?_;have:=xu h (K:=bC [59] :: K) (z:=z) (f:=F) hp e s g (by omega) hop hd hlen (by rw[List.length_append];simp only[List.length_cons];omega);rw[htx]at this;exact this
  ·rw[if_neg htx]at hd hg;have hd':ts.drop s.nx=jE (bu l p) :: bC [61] :: ([iT dL,jE (bu l (aL l p 0))]++qC ((ag l p).ks.tail.map (fq l F))++bC [59] :: K):=by rw[hd];simp only[List.cons_append,List.nil_append]
   simp only[List.length_append,List.length_cons,List.length_nil]at hg;rw[vQ (aY hd') rfl,rY hd'];refine iN ?_;have hd2:ts.drop (ae (ae s)).nx=_:=aF (s:=ae s) (aF hd');rw[EY (aY (t:=iT dL) hd2) rfl];exact xu h (K:=bC [59] :: K) (z:=z) (f:=F) hp e (ae (ae s)) g (by omega) hop hd2 hlen (by simp only[List.length_append,List.length_cons,List.length_nil];omega)
 ·
  obtain⟨hd,hg⟩:=hlast _ e (by decide) (by decide) (by decide);rw[l14 e]at hd hg;rcases Jn h hp e with hks |⟨k,hks,hlt,hke⟩
  ·rw[hks]at hd;have hd':ts.drop s.nx=iT dM :: bC [59] :: K:=hd;rw[Dy (aY hd') rfl rfl];refine iN ?_;unfold cO;simp only;have hd2:ts.drop (ae s).nx=bC [59] :: K:=aF hd';rw[eu hd2,if_pos (by decide),aY hd'];exact iM h hp hks (s2:=ae s) hd2 rfl rfl hlen e.symm h0.symm (ig h.sh hp (by omega)).symm rfl
  ·obtain⟨hb1,hb2⟩:=h.one hp hks;have hdk:=h.deep hp (k:=k) (by rw[hks];simp);rw[hks]at hd hg;simp only[List.map_cons,List.map_nil,List.flatten_cons,List.flatten_nil,List.append_nil,List.cons_append,List.length_cons]at hd hg;rw[Dy (aY hd) rfl rfl];refine iN ?_;unfold cO;simp only;have hd2:ts.drop (ae s).nx=fq l F k++bC [59] :: K:=aF hd;have hft:=(yY h.sh h.ok.ex k (by omega) hke F (bC [59] :: K) (by omega)).1;unfold sees;rw[rW hd2,if_neg (by have:=hft.2.2.2.1;simpa using this),aY hd];obtain⟨n1,m1,e1,hd3⟩:=(fV h k (by omega) hke).2 ts F z (ae s) (bC [59] :: K) g (by omega) hd2 (by rw[hb1];exact hlen) (by show s.op+d k<=_;omega) (by simp only[List.length_append,List.length_cons];omega) h91 hr0;unfold a_;rw[e1,av];exact dY h hp (s:=s) (s2:=⟨n1,s.nd++bf l z (b k) (k+1),s.op,m1⟩) hd3 (by rw[hb1,hb2]) rfl hlen e.symm h0.symm (ig h.sh hp (by omega)).symm (by rw[hks];rfl) rfl
 ·
  obtain⟨hd,hg⟩:=hlast _ e (by decide) (by decide) (by decide);obtain⟨k,hks,hlt,hke⟩:=xq h hp (by omega);obtain⟨hb1,hb2⟩:=h.one hp hks;have hdk:=h.deep hp (k:=k) (by rw[hks];simp);rw[l15 e,aR hks]at hd hg;simp only[List.cons_append,List.length_cons]at hd hg;rw[EX (aY hd) rfl rfl];refine iN ?_;unfold iP;simp only;rw[aY hd];obtain⟨n1,m1,e1,hd3⟩:=(fV h k (by omega) hke).2 ts F z (ae s) (bC [59] :: K) g (by omega) (aF hd) (by rw[hb1];exact hlen) (by show s.op+d k<=_;omega) (by simp only[List.length_append,List.length_cons];omega) h91 hr0;unfold a_;rw[e1,av];exact dY h hp (s:=s) (s2:=⟨n1,s.nd++bf l z (b k) (k+1),s.op,m1⟩) hd3 (by rw[hb1,hb2]) rfl hlen e.symm h0.symm (ig h.sh hp (by omega)).symm (by rw[hks];rfl) rfl
 ·
  rw[if_neg (by omega),if_neg (by omega),if_pos e]at hd hg;obtain⟨k,j,hks,hlt,hlt2,hk6,hj6⟩:=Jl h hp e;obtain⟨hb1,hb2,hb3⟩:=h.two hp hks;have hdk:=h.deep hp (k:=k) (by rw[hks];simp);have hdj:=h.deep hp (k:=j) (by rw[hks];simp);have hbk:=h.st.le k (by omega);have hbj:=h.st.le j (by omega);rw[l16 e,aR hks,dO hks]at hd hg;simp only[List.cons_append,List.append_assoc,List.nil_append]at hd;simp only[List.length_cons,List.length_append,List.length_nil]at hg;rw[MK (aY hd) rfl rfl];unfold ma;simp only;rw[aY hd];obtain⟨n1,m1,e1,hd1⟩:=kW h hF (p:=k) (by omega) hk6 (by omega) (λq hq=>ih q (by omega)) (ae s) g (by show s.op+d k<=40;omega) (aF hd) (by rw[hb1];exact hlen) (by simp only[List.length_append,List.length_cons];omega);rw[e1,av];rw[nJ (s:=⟨n1,_,_,m1⟩) hd1 (x:=mZ) rfl,av];have hd2:ts.drop (n1+1)=jE (bu l p) :: (jQ l (fe l F f) j []++K):=aF (s:=⟨n1,[],0,0⟩) hd1;have hd2':ts.drop (ae ⟨n1,(ae s).nd++bf l z (b k) (k+1),(ae s).op,m1⟩).nx=jE (bu l p) :: (jQ l (fe l F f) j []++K):=hd2;rw[jY hd2' rfl,av,aY hd2'];have hl2:(((s.nd++bf l z (b k) (k+1)).length:Nat):Int)=(b j:Int)+z:=by
   rw[List.length_append,dh z (by omega) (by omega),hb2];omega
  obtain⟨n2,m2,e2,hd3⟩:=kW h hF (p:=j) (by omega) hj6 (by omega) (λq hq=>ih q (by omega)) ⟨n1+1+1,s.nd++bf l z (b k) (k+1),s.op,m1⟩ g (by show s.op+d j<=40;omega) (aF (s:=⟨n1+1,[],0,0⟩) hd2) hl2 (by simp only[List.length_append];omega);show ky ts s K _ _ ((dm ts (run ts g) ⟨n1+1+1,s.nd++bf l z (b k) (k+1),s.op,m1⟩).bind _);rw[e2,av];exact dY h hp (s:=s) (s2:=⟨n2,s.nd++bf l z (b k) (k+1)++bf l z (b j) (j+1),s.op,m2⟩) hd3 (by
   rw[List.append_assoc,hb1,hb2,dG l z (by omega) (by omega),hb3]) rfl hlen e.symm h0.symm rfl (by rw[hks];rfl) rfl
 ·
  obtain⟨hd,hg⟩:=hlast _ e (by decide) (by decide) (by decide);obtain⟨k,hks,hlt,hke⟩:=xq h hp (by omega);obtain⟨hb1,hb2⟩:=h.one hp hks;have hdk:=h.deep hp (k:=k) (by rw[hks];simp);rw[l17 e,aR hks]at hd hg;simp only[List.cons_append,List.length_cons]at hd hg;rw[vQ (aY hd) rfl,rY hd];refine iN ?_;have hd2:ts.drop (ae (ae s)).nx=iT tX :: (fq l F k++bC [59] :: K):=aF (s:=ae s) (aF hd);rw[Jq (aY hd2) rfl];obtain⟨n1,m1,e1,hd3⟩:=(fV h k (by omega) hke).2 ts F z (ae (ae (ae s))) (bC [59] :: K) g (by omega) (aF hd2) (by rw[hb1];exact hlen) (by show s.op+d k<=_;omega) (by simp only[List.length_append,List.length_cons];omega) h91 hr0;unfold a_;rw[e1,av];exact dY h hp (s:=s) (s2:=⟨n1,s.nd++bf l z (b k) (k+1),s.op,m1⟩) hd3 (by rw[hb1,hb2]) rfl hlen e.symm h0.symm rfl (by rw[hks];rfl) rfl
end
section
open Go
open Tr (nth dS aI fu bB kY iX iE iD y9 qJ eQ iW iB si kr aJ xE r_ gW)
theorem xw {ks:List Int}{f:Int->Int}{a b c:Int}(h:iE (ks.map f) a b c=true):∃us bs cs,ks=us++bs++cs/\(∀x ∈ us,f x=a)/\(∀x ∈ bs,f x=b)/\(if c=0 then cs=[] else ∃x,cs=[x]/\f x=c):=by
 have h1:∀x ∈ ks.take (iD a (ks.map f)),f x=a:=λx hx=>mD a (ks.map f) _ (by rw[<- List.map_take];exact List.mem_map.2 ⟨x,hx,rfl⟩)
 have h2:∀x ∈ (ks.drop (iD a (ks.map f))).take (iD b ((ks.map f).drop (iD a (ks.map f)))),f x=b:=λx hx=>mD b ((ks.map f).drop (iD a (ks.map f))) _ (by rw[<- List.map_drop,<- List.map_take];exact List.mem_map.2 ⟨x,by rw[List.map_drop];exact hx,rfl⟩)
 refine⟨_,_,(ks.drop (iD a (ks.map f))).drop (iD b ((ks.map f).drop (iD a (ks.map f)))),?_,h1,h2,?_⟩
 ·rw[List.append_assoc,List.take_append_drop,List.take_append_drop]
 ·unfold iE at h;have hr:qJ (ks.map f) a b=iD a (ks.map f)+iD b ((ks.map f).drop (iD a (ks.map f))):=rfl;rw[List.drop_drop,<- hr];split at h
  ·rename_i hc;rw[if_pos hc];have:=of_decide_eq_true h;rw[this,List.length_map,List.drop_length]
  ·rename_i hc;rw[if_neg hc];simp only[Bool.and_eq_true,decide_eq_true_eq]at h;obtain⟨h3,h4⟩:=h;rw[List.length_map]at h3;have hlt:qJ (ks.map f) a b<ks.length:=by omega
   refine⟨ks[qJ (ks.map f) a b],?_,?_⟩
   ·rw[List.drop_eq_getElem_cons hlt,List.drop_eq_nil_of_le (by omega)]
   ·rw[List.getD_eq_getElem?_getD,List.getElem?_eq_getElem (by rw[List.length_map];exact hlt)]at h4;simpa using h4
theorem Aw {ks:List Int}{q:Int->Bool}(h:∀k ∈ ks,q k=true):ks.filter q=ks:=List.filter_eq_self.2 h
theorem pE {ks:List Int}{q:Int->Bool}(h:∀k ∈ ks,q k=false):ks.filter q=[]:=List.filter_eq_nil_iff.2 λk hk=>by rw[h k hk];simp
theorem EZ {l:List Tr.Nd}{b d:Nat->Nat}(h:lD l b d){ts:List Tok}{K:List Tok}{z:Int}{F:Nat}(hF:l.length<=F){p:Nat}(hp:p<l.length)(hk:(ag l p).kd=3)(s:St)(g:Nat)(hop:s.op+d p<=41)
  (hd:ts.drop s.nx=mR l F p++K) (hlen:(s.nd.length:Int)=(b p:Int)+z) (hg:10*(mR l F p++K).length<=g):ky ts s K (bf l z (b p) (p+1)) [(p:Int)+z] (jl ts (run ts g) s):=by
 have hkid:=(bR h.sh hp).kid;rw[hk]at hkid;have hkid2:iE (iA l p) 4 5 6=true:=hkid;obtain⟨us,bs,cs,hks,h4,h5,hc6⟩:=xw (f:=λk=>(ag l k).kd) hkid2;rw[if_neg (by decide)]at hc6;obtain⟨x,rfl,hx6⟩:=hc6;obtain⟨q,rfl,hq⟩:=bU h.ahead hp x (by rw[hks];simp);have hdq:=h.deep hp (k:=q) (by rw[hks];simp);have hqp:=h.pos (p:=q) (by omega);have hchn:=jy h.st hp;rw[hks]at hchn;obtain⟨e2,hcab,hcx⟩:=hchn.app;obtain⟨e1,hca,hcb⟩:=hcab.app;obtain⟨q',hqq,hx1,hx2,hx3,hx4⟩:=hcx;obtain rfl:q=q':=by omega
 have hx4:q+1=p:=hx4;have hle1:=hca.le;have hle2:=hcb.le;have hf4:(ag l p).ks.filter (λk=>(ag l k).kd==4)=us:=by
  rw[hks,List.filter_append,List.filter_append,Aw (λk hk2=>by simp[h4 k hk2]),pE (λk hk2=>by simp[h5 k hk2]),pE (λk hk2=>by rw[List.mem_singleton.1 hk2];simp[hx6])];simp
 have hf5:(ag l p).ks.filter (λk=>(ag l k).kd==5)=bs:=by
  rw[hks,List.filter_append,List.filter_append,pE (ks:=us) (λk hk2=>by simp[h4 k hk2]),Aw (ks:=bs) (λk hk2=>by simp[h5 k hk2]),pE (λk hk2=>by rw[List.mem_singleton.1 hk2];simp[hx6])];simp
 have hfl:(ag l p).ks.getLastD 0=(q:Int):=by rw[hks];simp
 have hn:0<=(ag l p).n/\(ag l p).n<=4:=by
  have:=(bR h.sh hp).num;unfold eQ at this;rw[if_neg (by omega),if_pos hk]at this;simpa using this
 have htoks:mR l F p++K=iT kM :: jE (bu l p) :: bC [40] :: (Ar (us.map (oO l))++bC [41] :: ((if (ag l p).n=0 then [] else [iT (qX (ag l p).n)])++bC [123] :: ((bs.map (oP l)).flatten++(((ag l q).ks.map (fe l F F)).flatten++bC [125] :: K)))):=by
  unfold mR qC jQ;rw[hf4,hf5,hfl];simp only[List.cons_append,List.append_assoc,List.nil_append]
 rw[htoks]at hd hg;simp only[List.length_cons,List.length_append]at hg;unfold jl;simp only;rw[nJ hd (x:=kM) rfl,av];have hd1:ts.drop (ae s).nx=_:=aF hd;rw[jY hd1 rfl,av,aY hd,aY hd1];have hP:∃n m,gy ts (run ts g) (ae (ae s))=.ok (us.map (· + z)) ⟨n,s.nd++bf l z (b p) e1,s.op,m⟩/\ts.drop n=(if (ag l p).n=0 then [] else [iT (qX (ag l p).n)])++bC [123] :: ((bs.map (oP l)).flatten++(((ag l q).ks.map (fe l F F)).flatten++bC [125] :: K)):=by
  have hd2:ts.drop (ae (ae s)).nx=_:=aF hd1;unfold gy;rw[oJ hd2 (x:=[40]) rfl (by show s.op<=39;omega),av];have hd3:ts.drop (ae (ae (ae s))).nx=_:=aF hd2;have hl0:(((ae (ae s)).nd.length:Nat):Int)=(b p:Int)+z:=hlen;cases us with
  |nil=>
   have hd4:ts.drop ((ae (ae s)).nx+1)=eB (([]:List Int).map (oO l))++bC [41] :: _:=hd3;rw[eu (s:=⟨(ae (ae s)).nx+1,_,_,_⟩) (t:=bC [41]) hd4,if_pos (by decide)];obtain⟨n,m,e3,hd5⟩:=oQ h (z:=z) [] (b p) e1 [] ⟨(ae (ae s)).nx+1,(ae (ae s)).nd,(ae (ae s)).op+1,max (ae (ae s)).mo ((ae (ae s)).op+1)⟩ g hca (by omega) (λj hj=>by cases hj) hd4 hl0 (by simp only[List.length_append,List.length_cons,eB,List.map_nil,List.flatten_nil,List.length_nil]at hg |-;omega);refine⟨n,m,Eq.trans e3 ?_,hd5⟩;show Rs.ok _ (⟨n,s.nd++bf l z (b p) e1,s.op+1-1,m⟩:St)=_;rw[Nat.add_sub_cancel];rfl
  |cons j js=>
   obtain⟨m0,rfl,h7,h8,h9,h10⟩:=hca;have hle:=h10.le;rw[List.map_cons,pu,List.append_assoc]at hd3;have hd3':ts.drop ((ae (ae s)).nx+1)=jE (bu l m0) :: (iT (qX (ag l m0).n) :: _):=hd3;rw[List.map_cons,pu,List.length_append]at hg;rw[eu (s:=⟨(ae (ae s)).nx+1,_,_,_⟩) (t:=jE (bu l m0)) hd3',if_neg (by
    have:=tq (t:=jE (bu l m0)) (gU h.sh (p:=m0) (by omega) (by have:=h4 (m0:Int) (by simp);omega));have h11:=Jj (t:=jE (bu l m0)) (gU h.sh (p:=m0) (by omega) (by have:=h4 (m0:Int) (by simp);omega));simpa using h11.2.2.2.2.1)]
   unfold iy;rw[aY (s:=⟨(ae (ae s)).nx+1,_,_,_⟩) hd3'];obtain⟨n1,m1,e3,hd4⟩:=vP h (p:=m0) (s:=⟨(ae (ae s)).nx+1,(ae (ae s)).nd,(ae (ae s)).op+1,max (ae (ae s)).mo ((ae (ae s)).op+1)⟩) (z:=z) (by omega) 4 (h4 _ (by simp)) (by omega) hd3 (by rw[h7];exact hl0);show∃n m,(d9 ts 4 0 _).bind _=_/\_;rw[e3,av];have hl2:(((s.nd++bf l z (b m0) (m0+1)).length:Nat):Int)=((m0+1:Nat):Int)+z:=by
    rw[List.length_append,dh z (by omega) (by omega)];omega
   obtain⟨n2,m2,e4,hd5⟩:=oQ h (z:=z) js (m0+1) e1 [(m0:Int)+z] ⟨n1,s.nd++bf l z (b m0) (m0+1),s.op+1,m1⟩ g h10 (by omega) (λj hj=>h4 j (by simp[hj])) hd4 hl2 (by simp only[List.length_append,List.length_cons]at hg |-;omega);refine⟨n2,m2,Eq.trans e4 ?_,hd5⟩;show Rs.ok _ (⟨n2,s.nd++bf l z (b m0) (m0+1)++bf l z (m0+1) e1,s.op+1-1,m2⟩:St)=_;rw[List.append_assoc s.nd,h7,dG l z (by omega) (by omega),Nat.add_sub_cancel];rfl
 obtain⟨n1,m1,e3,hd2⟩:=hP;rw[e3,av];have hT:∃n2,(if sees ts [123] ⟨n1,s.nd++bf l z (b p) e1,s.op,m1⟩=true then Rs.ok [0] ⟨n1,s.nd++bf l z (b p) e1,s.op,m1⟩ else iG ts ⟨n1,s.nd++bf l z (b p) e1,s.op,m1⟩)=.ok [(ag l p).n] ⟨n2,s.nd++bf l z (b p) e1,s.op,m1⟩/\ts.drop n2=bC [123] :: ((bs.map (oP l)).flatten++(((ag l q).ks.map (fe l F F)).flatten++bC [125] :: K)):=by
  by_cases h0:(ag l p).n=0
  ·rw[if_pos h0]at hd2;have hd3:ts.drop n1=bC [123] :: _:=hd2;rw[eu (s:=⟨n1,_,_,_⟩) hd3,if_pos (by decide),h0];exact⟨n1,rfl,hd3⟩
  ·rw[if_neg h0]at hd2;have hd3:ts.drop n1=iT (qX (ag l p).n) :: _:=hd2;have h1n:1<=(ag l p).n:=by omega
   rw[eu (s:=⟨n1,_,_,_⟩) hd3,if_neg (by
    have:(ag l p).n=1\/(ag l p).n=2\/(ag l p).n=3\/(ag l p).n=4:=by omega
    rcases this with e |e |e |e<;>rw[e]<;>decide),Dx (s:=⟨n1,_,_,_⟩) h1n hn.2 hd3]
   exact⟨n1+1,rfl,aF (s:=⟨n1,[],0,0⟩) hd3⟩
 obtain⟨n2,e4,hd3⟩:=hT;show ky ts s K _ _ ((if sees ts [123] ⟨n1,s.nd++bf l z (b p) e1,s.op,m1⟩=true then Rs.ok [0] ⟨n1,s.nd++bf l z (b p) e1,s.op,m1⟩ else iG ts ⟨n1,s.nd++bf l z (b p) e1,s.op,m1⟩).bind _);rw[e4,av,aY (s:=⟨n2,_,_,_⟩) hd3,oJ (s:=⟨n2,_,_,_⟩) hd3 (x:=[123]) rfl (by show s.op<=39;omega),av];have hl2:(((s.nd++bf l z (b p) e1).length:Nat):Int)=(e1:Int)+z:=by
  rw[List.length_append,dh z (by omega) (by omega)];omega
 have hv:(uf (((ag l q).ks.map (fe l F F)).flatten++bC [125] :: K)).s≠pG:=by
  rcases hqk:(ag l (q:Int)).ks with _ |⟨j,js⟩
  ·show([125]:List UInt8)≠pG;decide
  ·obtain⟨k2,rfl,hk1,hk2⟩:=h.ok.bl q (by omega) hx6 j (by rw[hqk];simp);rw[List.map_cons,List.flatten_cons,List.append_assoc];exact(rX h.sh (p:=k2) (by omega) hk2 F F _ (by omega)).2.2
 have hd4:ts.drop (n2+1)=(bs.map (oP l)).flatten++(((ag l q).ks.map (fe l F F)).flatten++bC [125] :: K):=aF (s:=⟨n2,[],0,0⟩) hd3;obtain⟨n3,m3,e5,hd5⟩:=sZ h 5 (Or.inr rfl) (z:=z) hv bs e1 e2 [] ⟨n2+1,s.nd++bf l z (b p) e1,s.op+1,max m1 (s.op+1)⟩ g hcb (by omega) (λj hj=>h5 j hj) hd4 hl2 (by simp only[List.length_append,List.length_cons];omega);show ky ts s K _ _ ((run ts g (.vars 5 []) ⟨n2+1,s.nd++bf l z (b p) e1,s.op+1,max m1 (s.op+1)⟩).bind _);rw[e5,av];have hl3:(((s.nd++bf l z (b p) e1++bf l z e1 e2).length:Nat):Int)=(b q:Int)+z:=by
  rw[List.length_append,List.length_append,dh z (by omega) (by omega),dh z (by omega) (by omega),hx1];omega
 obtain⟨n4,m4,e6,hd6⟩:=qE h hF (p:=q) (z:=z) (by omega) hx6 (by omega) (λk hk1 hk2=>Jr h k (by omega) hk2) (ag l q).ks (b q) [] ⟨n3,s.nd++bf l z (b p) e1++bf l z e1 e2,s.op+1,m3⟩ g (jy h.st (by omega)) rfl (by show s.op+1+d q<=42;omega) hd5 hl3 (by simp only[List.length_append,List.length_cons];omega);show ky ts s K _ _ ((run ts g (.stmts 0 ([].map (· + z))) ⟨n3,s.nd++bf l z (b p) e1++bf l z e1 e2,s.op+1,m3⟩).bind _);rw[e6,av];exact dY h hp (s:=s) (s2:=⟨n4,s.nd++bf l z (b p) e1++bf l z e1 e2++bf l z (b q) (q+1),s.op+1-1,m4⟩) hd6 (by
  rw[List.append_assoc,List.append_assoc,hx1,dG l z (by omega) (by omega),dG l z (by omega) (by omega),hx4]) (by show s.op+1-1=s.op;omega) hlen hk.symm rfl rfl (by rw[hks];simp) rfl
theorem vR {l:List Tr.Nd}{b d:Nat->Nat}(h:lD l b d){ts:List Tok}{K:List Tok}{z:Int}{F:Nat}(hF:l.length<=F)(hK:(uf K).s≠kM):∀(js:List Int) (a e:Nat) (acc:List Int) (s:St) (g:Nat),yV b js a e->e<=l.length->(∀j ∈ js,(ag l j).kd=3/\s.op+d j.toNat<=41) ->
  ts.drop s.nx=(js.map (mR l F)).flatten++K->(s.nd.length:Int)=(a:Int)+z->10*((js.map (mR l F)).flatten++K).length+1<=g->ky ts s K (bf l z a e) (acc++js.map (· + z)) (run ts g (.procs acc) s)
 | [],a,e,acc,s,g,hc,he,hj,hd,hlen,hg=>by
  obtain⟨g,rfl⟩:∃g',g=g'+1:=⟨g-1,by omega⟩;obtain rfl:a=e:=hc;show ky ts s K _ _ (gz ts (run ts g) acc s);unfold gz sees;rw[rW (K:=K) hd,if_neg (by simpa using hK)];exact⟨s.nx,s.mo,by rw[rV,List.append_nil,List.map_nil,List.append_nil],hd⟩
 |j :: js,a,e,acc,s,g,hc,he,hj,hd,hlen,hg=>by
  obtain⟨g,rfl⟩:∃g',g=g'+1:=⟨g-1,by omega⟩;obtain⟨m,rfl,h1,h2,h3,h4⟩:=hc;have hle:=h4.le;obtain⟨hj3,hjd⟩:=hj _ List.mem_cons_self;rw[Int.toNat_natCast]at hjd;rw[List.map_cons,List.flatten_cons,List.append_assoc]at hd hg;have hpos:∃r,mR l F (m:Int)=iT kM :: r:=by unfold mR;exact⟨_,rfl⟩
  obtain⟨r,hr⟩:=hpos;have hd1:ts.drop s.nx=iT kM :: (r++((js.map (mR l F)).flatten++K)):=by rw[hd,hr];rfl
  show ky ts s K _ _ (gz ts (run ts g) acc s);unfold gz;rw[eu hd1,if_pos (by decide)];obtain⟨n1,m1,e1,hd2⟩:=EZ h hF (p:=m) (z:=z) (by omega) hj3 s g hjd hd (by rw[h1];exact hlen) (by omega);rw[e1,av];have hl2:(((s.nd++bf l z (b m) (m+1)).length:Nat):Int)=((m+1:Nat):Int)+z:=by
   rw[List.length_append,dh z (by omega) (by omega)];omega
  have hlr:1<=(mR l F (m:Int)).length:=by rw[hr];simp
  obtain⟨n2,m2,e2,hd3⟩:=vR h hF hK js (m+1) e (acc++[(m:Int)+z]) ⟨n1,s.nd++bf l z (b m) (m+1),s.op,m1⟩ g h4 he (λj hj2=>hj j (List.mem_cons_of_mem _ hj2)) hd2 hl2 (by rw[List.length_append]at hg |-;rw[List.length_append]at hg;omega);refine⟨n2,m2,?_,hd3⟩;show run ts g (.procs (acc++[(m:Int)+z])) ⟨n1,s.nd++bf l z (b m) (m+1),s.op,m1⟩=_;rw[e2,h1];show Rs.ok _ (⟨n2,s.nd++bf l z a (m+1)++bf l z (m+1) e,s.op,m2⟩:St)=_;rw[List.append_assoc s.nd,dG l z (by omega) (by omega),List.map_cons,List.append_assoc acc];rfl
theorem E5 {l:List Tr.Nd}{b d:Nat->Nat}(h:lD l b d){F:Nat}(hF:l.length<=F)(h1:1<=l.length)(h0:b (l.length-1)=0)(hk:(ag l ((l.length-1:Nat):Int)).kd=1)(hdeep:d (l.length-1)<=42) :
  ∃n m,iH (vO l F ((l.length-1:Nat):Int)++[eT])=.ok [((l.length-1:Nat):Int)] ⟨n,l.map (Ja 0),0,m⟩:=by
 have hp:l.length-1<l.length:=by omega
 have hkid:=(bR h.sh hp).kid;rw[hk]at hkid;have hkid2:iE (iA l ((l.length-1:Nat):Int)) 2 3 0=true:=hkid;obtain⟨us,bs,cs,hks,h2,h3,hc⟩:=xw (f:=λk=>(ag l k).kd) hkid2;rw[if_pos rfl]at hc;subst hc;rw[List.append_nil]at hks;have hchn:=jy h.st hp;rw[hks,h0]at hchn;obtain⟨e1,hca,hcb⟩:=hchn.app;have hle1:=hca.le;have hle2:=hcb.le;have htoks:vO l F ((l.length-1:Nat):Int)++[eT]=(us.map (oP l)).flatten++((bs.map (mR l F)).flatten++[eT]):=by
  unfold vO;rw[hks,List.map_append,List.flatten_append,List.append_assoc];congr 1
  ·congr 1;exact List.map_congr_left λk hk2=>if_pos (h2 k hk2)
  ·congr 2;exact List.map_congr_left λk hk2=>if_neg (by rw[h3 k hk2];decide)
 unfold iH bT;have hd:(vO l F ((l.length-1:Nat):Int)++[eT]).drop st0.nx=(us.map (oP l)).flatten++((bs.map (mR l F)).flatten++[eT]):=htoks;have hlen0:((st0.nd.length:Nat):Int)=((0:Nat):Int)+0:=rfl;have hg:steps (vO l F ((l.length-1:Nat):Int)++[eT])=10*((us.map (oP l)).flatten++((bs.map (mR l F)).flatten++[eT])).length+10:=by unfold steps;rw[htoks]
 have hv:(uf ((bs.map (mR l F)).flatten++[eT])).s≠pG:=by
  cases bs with
  |nil=>show([]:List UInt8)≠pG;decide
  |cons j js=>
   show(uf ((mR l F j++_)++[eT])).s≠pG;unfold mR;show kM≠pG;decide
 obtain⟨n1,m1,e2,hd1⟩:=sZ h 2 (Or.inl rfl) (z:=0) hv us 0 e1 [] st0 (steps (vO l F ((l.length-1:Nat):Int)++[eT])) hca (by omega) (λj hj=>h2 j hj) hd hlen0 (by rw[hg];omega);rw[e2,av];have hl2:(((st0.nd++bf l 0 0 e1).length:Nat):Int)=(e1:Int)+0:=by
  rw[List.length_append,dh 0 (by omega) (by omega)];show((0+(e1-0):Nat):Int)=_;omega
 obtain⟨n2,m2,e3,hd2⟩:=vR h hF (z:=0) (K:=[eT]) (show([]:List UInt8)≠kM by decide) bs e1 (l.length-1) ([]++us.map (· + 0)) ⟨n1,st0.nd++bf l 0 0 e1,st0.op,m1⟩ (steps (vO l F ((l.length-1:Nat):Int)++[eT])) hcb (by omega) (λj hj=>by
  obtain⟨k2,rfl,hk2⟩:=bU h.ahead hp j (by rw[hks];simp[hj])
  have:=h.deep hp (k:=k2) (by rw[hks];simp[hj])
  rw[Int.toNat_natCast]
  exact⟨h3 _ hj,by show 0+d k2<=41;omega⟩) hd1 hl2 (by rw[hg];simp only[List.length_append];omega)
 rw[e3,av];unfold kZ;rw[aY (s:=⟨n2,_,_,m2⟩) hd2,if_pos (show eT.k=5 from rfl),av];have hG:=dY h hp (s:=st0) (ts:=vO l F ((l.length-1:Nat):Int)++[eT]) (s2:=⟨n2,st0.nd++bf l 0 0 e1++bf l 0 e1 (l.length-1),st0.op,m2⟩) (z:=0) (kd:=1) (n:=0) (pl:=0) (tx:=[]) (ks:=[]++us.map (· + 0)++bs.map (· + 0)) hd2 (by
  rw[List.append_assoc,h0,dG l 0 (by omega) (by omega)]) rfl (by rw[h0];rfl) hk.symm (Ao h.sh hp (by omega)).symm (ig h.sh hp (by omega)).symm (by rw[hks];simp) rfl
 obtain⟨n3,m3,e4,_⟩:=hG;refine⟨n3,m3,?_⟩;show bv 1 0 0 [] _ ⟨n2,st0.nd++bf l 0 0 e1++bf l 0 e1 (l.length-1),st0.op,m2⟩=_;rw[e4,h0];have:st0.nd++bf l 0 0 (l.length-1+1)=l.map (Ja 0):=by
  show[]++_=_;rw[List.nil_append,show l.length-1+1=l.length by omega];unfold bf;rw[List.drop_zero,Nat.sub_zero,List.take_length]
 rw[this];simp[st0]
end
end
end Go.Proofs.YteecfjhjllajlaaGreatDoor
