/- PROVED: Bp. No more condition. -/
import Derived.Test.YteecfjhjllajlaaGreatDoorM31
namespace Go.Proofs.YteecfjhjllajlaaGreatDoor
section
set_option maxHeartbeats 1000000
section
open Go
open Tr (nth dS aI eY bz kV iU iq il yG qz eP iT ig rR kD aJ wU rQ gI)
def jq (x:List UInt8):Tok:=⟨1,0,0,x⟩
def bB (x:List UInt8):Tok:=⟨3,0,0,x⟩
def iP (x:List UInt8):Tok:=⟨4,0,0,x⟩
def Ry (n:Int):Tok:=⟨2,n,0,Lib.itoa n⟩
section
variable (l:List Tr.Nd)
def zS (ex:Int->List Tok)(k:Int):List Tok:=if (ag l k).kd=27 then [bB [40]]++ex k++[bB [41]] else ex k
def fG:Nat->Int->List Tok
 |0,_=>[]
 |f+1,p=>
  if (ag l p).kd=20 then [Ry (ag l p).n]
  else if (ag l p).kd=21 then [iP (if (ag l p).n=1 then fK else jy)]
  else if (ag l p).kd=22 then [jq (bu l p)]
  else if (ag l p).kd=23 then [jq (bu l p),bB [91]]++fG f (aL l p 0)++[bB [93]]
  else if (ag l p).kd=24 then [iP um,jq (bu l p)]
  else if (ag l p).kd=25 then [bB [38],jq (bu l p)]
  else if (ag l p).kd=26 then [bB (bu l p)]++zS l (fG f) (aL l p 0)
  else if (ag l p).kd=27 then zS l (fG f) (aL l p 0)++[bB (bu l p)]++zS l (fG f) (aL l p 1)
  else []
end
def O9 (z:Int)(x:Tr.Nd):Nd:=⟨x.kd,x.n,0,x.tx.data.toList,x.ks.map (· + z)⟩
def bq (l:List Tr.Nd)(z:Int)(a e:Nat):List Nd:=((l.drop a).take (e-a)).map (O9 z)
theorem rG (l:List Tr.Nd)(z:Int)(a:Nat):bq l z a a=[]:=by unfold bq;rw[Nat.sub_self];rfl
theorem dO (l:List Tr.Nd)(z:Int){a m e:Nat}(h1:a<=m)(h2:m<=e):bq l z a m++bq l z m e=bq l z a e:=by
 unfold bq;rw[<- List.map_append];congr 1;rw[show e-a=(m-a)+(e-m)by omega,List.take_add,List.drop_drop,show a+(m-a)=m by omega]
theorem CL {l:List Tr.Nd}(z:Int){p:Nat}(h:p<l.length):bq l z p (p+1)=[O9 z (ag l p)]:=by
 unfold bq;rw[show p+1-p=1 by omega,List.drop_eq_getElem_cons h,aT h];rfl
theorem df {l:List Tr.Nd}(z:Int){a e:Nat}(h1:a<=e)(h2:e<=l.length):(bq l z a e).length=e-a:=by
 unfold bq;rw[List.length_map,List.length_take,List.length_drop];omega
def yx (b:Nat->Nat):List Int->Nat->Nat->Prop
 | [],a,e=>a=e
 |k :: ks,a,e=>∃m:Nat,k=(m:Int)/\b m=a/\a<=m/\m<e/\yx b ks (m+1) e
theorem yx.le {b:Nat->Nat}:∀ {ks:List Int} {a e:Nat},yx b ks a e->a<=e
 | [],a,e,h=>Nat.le_of_eq h
 |k :: ks,a,e,⟨m,_,_,h2,h3,_⟩=>by omega
theorem yx.snoc {b:Nat->Nat}:∀ {ks:List Int} {a:Nat} {m e:Nat},yx b ks a (b m)->b m<=m->e=m+1->yx b (ks++[(m:Int)]) a e
 | [],a,m,e,h,hb,he=>⟨m,rfl,h.symm,by rw[show a=b m from h];exact hb,by omega,by show m+1=e;omega⟩
 |k :: ks,a,m,e,⟨m2,h1,h2,h3,h4,h5⟩,hb,he=>⟨m2,h1,h2,h3,by omega,h5.snoc hb he⟩
theorem yx.app {b:Nat->Nat}:∀ {ks js:List Int} {a e:Nat},yx b (ks++js) a e->∃m,yx b ks a m/\yx b js m e
 | [],js,a,e,h=>⟨a,rfl,h⟩
 |k :: ks,js,a,e,⟨m2,h1,h2,h3,h4,h5⟩=>by
  obtain⟨m,h6,h7⟩:=yx.app h5;exact⟨m,⟨m2,h1,h2,h3,by have:=h6.le;omega,h6⟩,h7⟩
theorem Im {b:Nat->Nat}:∀(ks:List Int) (s e:Nat),(∀q,q<s->b q<=q)->gI b ks s=some e->yx b ks.reverse e s
 | [],s,e,_,h=>by unfold gI at h;cases h;rfl
 |k :: ks,s,e,hb,h=>by
  unfold gI at h;split at h
  ·cases h
  split at h
  case isFalse=>cases h
  case isTrue h0 h1=>
   have h2:=hb (s-1) (by omega);have h3:=Im ks _ e (λq hq=>hb q (by omega)) h;rw[List.reverse_cons,show k=((s-1:Nat):Int)by omega];exact h3.snoc h2 (by omega)
theorem jh {l:List Tr.Nd}{b:Nat->Nat}(hS:kD l b l.length){p:Nat}(hp:p<l.length):yx b (ag l p).ks (b p) p:=by
 have h:=hS p hp;rw[oJ hp]at h;have:=Im _ p (b p) (λq hq=>hS.le q (by omega)) h
 rwa [List.reverse_reverse]at this
section
variable {ts:List Tok}
theorem aY {s:St}{t:Tok}{K:List Tok}(h:ts.drop s.nx=t :: K):ah ts s=t:=by
 unfold ah;rw[List.getD_eq_getElem?_getD];have:(ts.drop s.nx)[0]?=some t:=by rw[h];rfl
 rw[List.getElem?_drop]at this;rw[Nat.add_zero]at this;rw[this];rfl
theorem aF {s:St}{t:Tok}{K:List Tok}(h:ts.drop s.nx=t :: K):ts.drop (s.nx+1)=K:=by
 rw[<- List.drop_drop,h];rfl
theorem nz {s:St}{t:Tok}{K:List Tok}(h:ts.drop s.nx=t :: K){x:List UInt8}(hx:t.s=x):gJ ts x s=.ok [] (ae s):=by
 unfold gJ sees;rw[aY h,hx,if_pos (by simp)]
theorem eB {s:St}{t:Tok}{K:List Tok}(h:ts.drop s.nx=t :: K)(x:List UInt8):sees ts x s=(t.s==x):=by unfold sees;rw[aY h]
theorem jS {s:St}{t:Tok}{K:List Tok}(h:ts.drop s.nx=t :: K)(hk:t.k=1):fJ ts s=.ok [] (ae s):=by
 unfold fJ;rw[aY h,if_pos hk]
theorem ow {s:St}{t:Tok}{K:List Tok}(h:ts.drop s.nx=t :: K){x:List UInt8}(hx:t.s=x)(ho:s.op<=39):iw ts x s=.ok [] ⟨s.nx+1,s.nd,s.op+1,max s.mo (s.op+1)⟩:=by
 unfold iw;rw[if_neg (by omega),nz h hx];rfl
theorem fin_at {s:St}{t:Tok}{K:List Tok}(h:ts.drop s.nx=t :: K){x:List UInt8}(hx:t.s=x):jv ts x s=.ok [] ⟨s.nx+1,s.nd,s.op-1,s.mo⟩:=by
 unfold jv;rw[nz h hx];rfl
def j6 (ts:List Tok)(s:St)(K:List Tok)(X:List Nd)(v:List Int)(r:Rs):Prop:=∃n m,r=.ok v ⟨n,s.nd++X,s.op,m⟩/\ts.drop n=K
theorem j6.add {s:St}{K:List Tok}(h:ts.drop s.nx=K)(kd n pl:Int)(tx:List UInt8)(ks:List Int):j6 ts s K [⟨kd,n,pl,tx,ks⟩] [(s.nd.length:Int)] (bC kd n pl tx ks s):=⟨s.nx,s.mo,rfl,h⟩
end
structure lL (l:List Tr.Nd) (b d:Nat->Nat):Prop where
 st:kD l b l.length
 sh:iU l=true
 ok:su l
 dp:wU l d l.length
theorem lL.ahead {l:List Tr.Nd}{b d:Nat->Nat}(h:lL l b d):Ahead l:=zk h.st λq hq=>h.st.le q hq
theorem lL.deep {l:List Tr.Nd}{b d:Nat->Nat}(h:lL l b d){p k:Nat}(hp:p<l.length)(hk:(k:Int) ∈ (ag l p).ks):d k+1<=d p:=by
 have h1:=h.dp p hp;have h2:=Tr.MH (d:=d) (ks:=aJ l p) (k:=(k:Int)) (by rw[oJ hp];exact hk);rw[Int.toNat_natCast]at h2;omega
theorem lL.pos {l:List Tr.Nd}{b d:Nat->Nat}(h:lL l b d){p:Nat}(hp:p<l.length):1<=d p:=h.dp.pos hp
theorem lL.leaf {l:List Tr.Nd}{b d:Nat->Nat}(h:lL l b d){p:Nat}(hp:p<l.length)(hk:(ag l p).ks=[]):b p=p:=by
 have:=jh h.st hp;rw[hk]at this;exact this
theorem lL.one {l:List Tr.Nd}{b d:Nat->Nat}(h:lL l b d){p k:Nat}(hp:p<l.length)(hk:(ag l p).ks=[(k:Int)]):b k=b p/\k+1=p:=by
 have:=jh h.st hp;rw[hk]at this;obtain⟨m,h1,h2,h3,h4,h5⟩:=this;obtain rfl:k=m:=by omega
 exact⟨h2,h5⟩
theorem lL.two {l:List Tr.Nd}{b d:Nat->Nat}(h:lL l b d){p k j:Nat}(hp:p<l.length)(hk:(ag l p).ks=[(k:Int),(j:Int)]):b k=b p/\b j=k+1/\j+1=p:=by
 have:=jh h.st hp;rw[hk]at this;obtain⟨m,h1,h2,h3,h4,m2,h6,h7,h8,h9,h10⟩:=this;obtain rfl:k=m:=by omega
 obtain rfl:j=m2:=by omega
 exact⟨h2,h7,h10⟩
theorem lL.three {l:List Tr.Nd}{b d:Nat->Nat}(h:lL l b d){p k j i:Nat}(hp:p<l.length)(hk:(ag l p).ks=[(k:Int),(j:Int),(i:Int)]):b k=b p/\b j=k+1/\b i=j+1/\i+1=p:=by
 have:=jh h.st hp;rw[hk]at this;obtain⟨m,h1,h2,h3,h4,m2,h6,h7,h8,h9,m3,h11,h12,h13,h14,h15⟩:=this;obtain rfl:k=m:=by omega
 obtain rfl:j=m2:=by omega
 obtain rfl:i=m3:=by omega
 exact⟨h2,h7,h12,h15⟩
theorem lL.split {l:List Tr.Nd}{b d:Nat->Nat}(h:lL l b d)(z:Int){p:Nat}(hp:p<l.length):bq l z (b p) (p+1)=bq l z (b p) p++[O9 z (ag l p)]:=by
 rw[<- CL z hp,dO l z (h.st.le p hp) (Nat.le_succ p)]
theorem oz (l:List Tr.Nd)(f:Nat)(p:Int):fG l (f+1) p=(if (ag l p).kd=20 then [Ry (ag l p).n]
  else if (ag l p).kd=21 then [iP (if (ag l p).n=1 then fK else jy)]
  else if (ag l p).kd=22 then [jq (bu l p)]
  else if (ag l p).kd=23 then [jq (bu l p),bB [91]]++fG l f (aL l p 0)++[bB [93]]
  else if (ag l p).kd=24 then [iP um,jq (bu l p)]
  else if (ag l p).kd=25 then [bB [38],jq (bu l p)]
  else if (ag l p).kd=26 then [bB (bu l p)]++zS l (fG l f) (aL l p 0)
  else if (ag l p).kd=27 then zS l (fG l f) (aL l p 0)++[bB (bu l p)]++zS l (fG l f) (aL l p 1)
  else []):=rfl
theorem zU {l:List Tr.Nd}(h:iU l=true){p:Nat}(hp:p<l.length)(hk:(ag l p).kd≠2/\(ag l p).kd≠3/\(ag l p).kd≠4/\(ag l p).kd≠5/\(ag l p).kd≠20/\(ag l p).kd≠21):(ag l p).n=0:=by
 have:=(bQ h hp).num;unfold eP at this;rw[if_neg (by omega),if_neg (by omega),if_neg (by omega),if_neg (by omega)]at this;exact of_decide_eq_true this
theorem iX {l:List Tr.Nd}(h:iU l=true){p:Nat}(hp:p<l.length)(hk:(ag l p).kd=2\/(ag l p).kd=4\/(ag l p).kd=5\/18<=(ag l p).kd/\(ag l p).kd<=22\/(ag l p).kd=24\/(ag l p).kd=25):(ag l p).ks=[]:=by
 have h1:=(bQ h hp).kid;have h2:ic l p=[]:=by
  have e:(ag l p).kd=2\/(ag l p).kd=4\/(ag l p).kd=5\/(ag l p).kd=18\/(ag l p).kd=19\/(ag l p).kd=20\/(ag l p).kd=21\/(ag l p).kd=22\/(ag l p).kd=24\/(ag l p).kd=25:=by omega
  rcases e with e |e |e |e |e |e |e |e |e |e<;>rw[e]at h1<;>simpa [bz]using h1
 exact List.map_eq_nil_iff.1 h2
theorem gG {l:List Tr.Nd}(h:iU l=true){p:Nat}(hp:p<l.length)(hk:(ag l p).kd=2\/(ag l p).kd=3\/(ag l p).kd=4\/(ag l p).kd=5\/(ag l p).kd=7\/(ag l p).kd=8\/(ag l p).kd=9\/(ag l p).kd=16\/(ag l p).kd=17\/(ag l p).kd=18\/(ag l p).kd=19\/(ag l p).kd=22\/(ag l p).kd=23\/(ag l p).kd=24\/(ag l p).kd=25):ig (bu l p)=true:=by
 have h1:=(bQ h hp).tx;unfold iT at h1
 rwa [if_pos hk]at h1
theorem gV {l:List Tr.Nd}(h:iU l=true){p:Nat}(hp:p<l.length)(hk:(ag l p).kd=1\/(ag l p).kd=6\/(ag l p).kd=10\/(ag l p).kd=11\/(ag l p).kd=12\/(ag l p).kd=14\/(ag l p).kd=15\/(ag l p).kd=20\/(ag l p).kd=21):bu l p=[]:=by
 have h1:=(bQ h hp).tx;unfold iT at h1;rw[if_neg (by omega),if_neg (by omega),if_neg (by omega),if_neg (by omega)]at h1;simpa using h1
theorem Lr:∀ {x:List UInt8},rR x=true->1<=rowOf x/\rowOf x<=5:=by
 intro x h;unfold rR at h;simp only[Bool.or_eq_true,beq_iff_eq]at h;rcases h with((((((((((((h |h) |h) |h) |h) |h) |h) |h) |h) |h) |h) |h) |h)<;>rw[h]<;>decide
def tJ (K:List Tok):Tok:=K.headD ⟨5,0,0,[]⟩
theorem rH {ts:List Tok}{s:St}{K:List Tok}(h:ts.drop s.nx=K):ah ts s=tJ K:=by
 cases K with
 |nil=>
  unfold ah tJ;have:ts.length<=s.nx:=List.drop_eq_nil_iff.1 h;rw[List.getD_eq_getElem?_getD,List.getElem?_eq_none this];rfl
 |cons t K=>rw[aY h];rfl
def Be (l:List Tr.Nd)(b d:Nat->Nat)(p:Nat):Prop:=∀(ts:List Tok) (f:Nat) (z:Int) (s:St) (K:List Tok) (g:Nat),p<f->ts.drop s.nx=zS l (fG l f) p++K->(s.nd.length:Int)=(b p:Int)+z->s.op+d p<=41->10*(zS l (fG l f) p++K).length+2<=g ->
 (tJ K).s≠[91]->j6 ts s K (bq l z (b p) (p+1)) [(p:Int)+z] (run ts g .una s)
def Bf (l:List Tr.Nd)(b d:Nat->Nat)(p:Nat):Prop:=∀(ts:List Tok) (f:Nat) (z:Int) (s:St) (K:List Tok) (g:Nat),p<f->ts.drop s.nx=fG l f p++K->(s.nd.length:Int)=(b p:Int)+z->s.op+d p<=41+(if (ag l p).kd=27 then 1 else 0)->10*(fG l f p++K).length+9<=g ->
 (tJ K).s≠[91]->rowOf (tJ K).s=0->j6 ts s K (bq l z (b p) (p+1)) [(p:Int)+z] (run ts g (.bin 1) s)
theorem dZ {l:List Tr.Nd}{b d:Nat->Nat}(h:lL l b d){ts:List Tok}{z:Int}{p:Nat}(hp:p<l.length){s s2:St}{K:List Tok}(hd:ts.drop s2.nx=K)(hnd:s2.nd=s.nd++bq l z (b p) p)(hop:s2.op=s.op)
  (hlen:(s.nd.length:Int)=(b p:Int)+z) {kd n pl:Int} {tx:List UInt8} {ks:List Int} (e1:kd=(ag l p).kd) (e2:n=(ag l p).n) (e3:tx=bu l p) (e4:ks=(ag l p).ks.map (· + z)) (e5:pl=0) :
  j6 ts s K (bq l z (b p) (p+1)) [(p:Int)+z] (bC kd n pl tx ks s2):=by
 subst e1 e2 e3 e4 e5;refine⟨s2.nx,s2.mo,?_,hd⟩;have hb:=h.st.le p hp;unfold bC;rw[h.split z hp,hnd,hop,List.length_append,df z hb (by omega),List.append_assoc];have:((s.nd.length+(p-b p):Nat):Int)=(p:Int)+z:=by omega
 rw[this];rfl
theorem iH {l:List Tr.Nd}{b d:Nat->Nat}(h:lL l b d){ts:List Tok}{z:Int}{p:Nat}(hp:p<l.length)(hk:(ag l p).ks=[]){s s2:St}{K:List Tok}(hd:ts.drop s2.nx=K)(hnd:s2.nd=s.nd)(hop:s2.op=s.op)
  (hlen:(s.nd.length:Int)=(b p:Int)+z) {kd n pl:Int} {tx:List UInt8} (e1:kd=(ag l p).kd) (e2:n=(ag l p).n) (e3:tx=bu l p) (e5:pl=0) :
  j6 ts s K (bq l z (b p) (p+1)) [(p:Int)+z] (bC kd n pl tx [] s2):=
 dZ h hp hd (by rw[h.leaf hp hk,rG,List.append_nil];exact hnd) hop hlen e1 e2 e3 (by rw[hk];rfl) e5
theorem OB {l:List Tr.Nd}{ex:Int->List Tok}{p:Int}(h:(ag l p).kd=27):zS l ex p=[bB [40]]++ex p++[bB [41]]:=if_pos h
theorem Io {l:List Tr.Nd}{ex:Int->List Tok}{p:Int}(h:(ag l p).kd≠27):zS l ex p=ex p:=if_neg h
section
variable {ts:List Tok} {rec:nI->St->Rs} {s:St} {t:Tok} (h:ah ts s=t)
include h
theorem Ip (h1:t.k=1):bf ts rec s=iy ts rec s:=by
 unfold bf;simp only;rw[h,if_pos h1]
theorem OC (h1:t.k=2):bf ts rec s=bC 20 t.n t.p [] [] (ae s):=by
 unfold bf;simp only;rw[h,if_neg (by omega),if_pos h1]
theorem OD (h1:t.k=3)(h2:t.s=[45]\/t.s=[33]):bf ts rec s=iA ts rec s:=by
 unfold bf;simp only;rw[h,if_neg (by omega),if_neg (by omega),if_pos h2]
theorem Iq (h1:t.k=4)(h2:t.s=fK\/t.s=jy):bf ts rec s=bC 21 (if t.s=fK then 1 else 0) t.p [] [] (ae s):=by
 unfold bf;simp only;rw[h,if_neg (by omega),if_neg (by omega),if_neg (by rcases h2 with e |e<;>rw[e]<;>decide),if_pos h2]
theorem Ls (h1:t.k=4)(h2:t.s=um):bf ts rec s=gD ts 24 s:=by
 unfold bf;simp only;rw[h,if_neg (by omega),if_neg (by omega),if_neg (by rw[h2];decide),if_neg (by rw[h2];decide),if_pos h2]
theorem Lt (h1:t.k=3)(h2:t.s=[38]):bf ts rec s=gD ts 25 s:=by
 unfold bf;simp only;rw[h,if_neg (by omega),if_neg (by omega),if_neg (by rw[h2];decide),if_neg (by rw[h2];decide),if_neg (by rw[h2];decide),if_pos h2]
theorem Lu (h1:t.k=3)(h2:t.s=[40]):bf ts rec s=(iw ts [40] s).bind λ_ s=>(a_ rec s).bind λv s=>(jv ts [41] s).bind λ_ s =>.ok v s:=by
 unfold bf;simp only;rw[h,if_neg (by omega),if_neg (by omega),if_neg (by rw[h2];decide),if_neg (by rw[h2];decide),if_neg (by rw[h2];decide),if_neg (by rw[h2];decide),if_pos h2]
end
theorem Ir {l:List Tr.Nd}{b d:Nat->Nat}(h:lL l b d)(p:Nat)(hp:p<l.length)(he:aI (ag l p).kd=true)(h27:(ag l p).kd≠27)(ih:∀k,k<p->aI (ag l k).kd=true->Be l b d k/\Bf l b d k):Be l b d p:=by
 intro ts f z s K g hf hd hlen hop hg hK;obtain⟨f,rfl⟩:∃f',f=f'+1:=⟨f-1,by omega⟩;obtain⟨g,rfl⟩:∃g',g=g'+1:=⟨g-1,by omega⟩;rw[Io h27]at hd hg;rw[oz]at hd hg;show j6 ts s K _ _ (bf ts (run ts g) s);have hn0:(ag l p).kd≠20->(ag l p).kd≠21->(0:Int)=(ag l p).n:=λh20 h21=>by
  have:20<=(ag l p).kd:=by unfold aI at he;simp only[Bool.and_eq_true,decide_eq_true_eq]at he;omega
  exact(zU h.sh hp (by omega)).symm
 rcases gM he with e |e |e |e |e |e |e |e
 ·rw[if_pos e]at hd;rw[OC (aY hd) rfl];exact iH h hp (s2:=ae s) (iX h.sh hp (by omega)) (aF hd) rfl rfl hlen e.symm rfl (gV h.sh hp (by omega)).symm rfl
 ·rw[if_neg (by omega),if_pos e]at hd;have hn:(ag l p).n=0\/(ag l p).n=1:=by
   have:=(bQ h.sh hp).num;rw[e]at this;simpa [eP]using this
  rcases hn with e2 |e2
  ·rw[e2,if_neg (by decide)]at hd;rw[Iq (aY hd) rfl (Or.inr rfl)];exact iH h hp (s2:=ae s) (iX h.sh hp (by omega)) (aF hd) rfl rfl hlen e.symm (by rw[e2];rfl) (gV h.sh hp (by omega)).symm rfl
  ·rw[e2,if_pos rfl]at hd;rw[Iq (aY hd) rfl (Or.inl rfl)];exact iH h hp (s2:=ae s) (iX h.sh hp (by omega)) (aF hd) rfl rfl hlen e.symm (by rw[e2];rfl) (gV h.sh hp (by omega)).symm rfl
 ·rw[if_neg (by omega),if_neg (by omega),if_pos e]at hd;rw[Ip (aY hd) rfl];unfold iy;simp only;rw[jS hd rfl,av];have hd2:ts.drop (ae s).nx=K:=aF hd;unfold sees;rw[rH hd2,if_neg (by simpa using hK),aY hd];exact iH h hp (s2:=ae s) (iX h.sh hp (by omega)) hd2 rfl rfl hlen e.symm (hn0 (by omega) (by omega)) rfl rfl
 ·rw[if_neg (by omega),if_neg (by omega),if_neg (by omega),if_pos e]at hd hg;obtain⟨k,hks,hlt,hke⟩:=h.ok.ex.one p hp (Or.inl e);obtain⟨hb1,hb2⟩:=h.one hp hks;have hkid:aL l p 0=(k:Int):=aV hks;rw[hkid]at hd hg;simp only[List.cons_append,List.nil_append,List.append_assoc]at hd hg;rw[Ip (aY hd) rfl];unfold iy;simp only;rw[jS hd rfl,av];have hd2:ts.drop (ae s).nx=bB [91] :: (fG l f k++bB [93] :: K):=aF hd;rw[eB hd2,if_pos (by decide)];unfold lv;have hdp:=h.deep hp (k:=k) (by rw[hks];simp);have hkp:=h.pos (p:=k) (by omega);rw[ow hd2 (x:=[91]) rfl (by show s.op<=39;omega),av];have hd3:ts.drop (⟨(ae s).nx+1,(ae s).nd,(ae s).op+1,max (ae s).mo ((ae s).op+1)⟩:St).nx=fG l f k++bB [93] :: K:=aF hd2;obtain⟨n3,m3,h3,hd4⟩:=(ih k (by omega) hke).2 ts f z _ (bB [93] :: K) g (by omega) hd3 (by rw[hb1];exact hlen) (by show s.op+1+d k<=_;split<;>omega) (by simp only[List.length_append,List.length_cons]at hg |-;omega) (show([93]:List UInt8)≠[91]by decide) (show rowOf [93]=0 by decide);unfold a_;rw[h3,av,fin_at (t:=bB [93]) (K:=K) (x:=[93]) hd4 rfl,av,av,aY hd];exact dZ h hp (s2:=⟨n3+1,s.nd++bq l z (b k) (k+1),s.op+1-1,m3⟩) (aF (s:=⟨n3,[],0,0⟩) hd4) (by rw[hb1,hb2]) (by show s.op+1-1=s.op;omega) hlen e.symm (hn0 (by omega) (by omega)) rfl (by rw[hks];rfl) rfl
 ·rw[if_neg (by omega),if_neg (by omega),if_neg (by omega),if_neg (by omega),if_pos e]at hd;rw[Ls (aY hd) rfl rfl];unfold gD;simp only;have hd2:ts.drop (ae s).nx=_:=aF hd;rw[jS hd2 rfl,av,aY hd,aY hd2];exact iH h hp (s2:=ae (ae s)) (iX h.sh hp (by omega)) (aF hd2) rfl rfl hlen e.symm (hn0 (by omega) (by omega)) rfl rfl
 ·rw[if_neg (by omega),if_neg (by omega),if_neg (by omega),if_neg (by omega),if_neg (by omega),if_pos e]at hd;rw[Lt (aY hd) rfl rfl];unfold gD;simp only;have hd2:ts.drop (ae s).nx=_:=aF hd;rw[jS hd2 rfl,av,aY hd,aY hd2];exact iH h hp (s2:=ae (ae s)) (iX h.sh hp (by omega)) (aF hd2) rfl rfl hlen e.symm (hn0 (by omega) (by omega)) rfl rfl
 ·rw[if_neg (by omega),if_neg (by omega),if_neg (by omega),if_neg (by omega),if_neg (by omega),if_neg (by omega),if_pos e]at hd hg;obtain⟨k,hks,hlt,hke⟩:=h.ok.ex.one p hp (Or.inr e);obtain⟨hb1,hb2⟩:=h.one hp hks;have hkid:aL l p 0=(k:Int):=aV hks;rw[hkid]at hd hg;simp only[List.cons_append,List.nil_append]at hd hg;have htx:bu l p=[45]\/bu l p=[33]:=by
   have:=(bQ h.sh hp).tx;rw[e]at this;simpa [iT]using this
  rw[OD (aY hd) rfl htx];unfold iA;simp only;have hdp:=h.deep hp (k:=k) (by rw[hks];simp);have hkp:=h.pos (p:=k) (by omega);rw[aY hd,ow hd (x:=(bB (bu l p)).s) rfl (by omega),av];obtain⟨n3,m3,h3,hd4⟩:=(ih k (by omega) hke).1 ts f z ⟨s.nx+1,s.nd,s.op+1,max s.mo (s.op+1)⟩ K g (by omega) (aF hd) (by rw[hb1];exact hlen) (by show s.op+1+d k<=_;omega) (by simp only[List.length_append,List.length_cons]at hg |-;omega) hK;rw[h3,av];exact dZ h hp (s2:=⟨n3,s.nd++bq l z (b k) (k+1),s.op+1-1,m3⟩) hd4 (by rw[hb1,hb2]) (by show s.op+1-1=s.op;omega) hlen e.symm (hn0 (by omega) (by omega)) rfl (by rw[hks];rfl) rfl
 ·exact absurd e h27
theorem yz {ts:List Tok}{s:St}{K:List Tok}(hd:ts.drop s.nx=K){r:Nat}(hr:rowOf (tJ K).s≠r)(v:List Int)(g:Nat)(hg:1<=g):run ts g (.loop r v) s=.ok v s:=by
 obtain⟨g,rfl⟩:∃g',g=g'+1:=⟨g-1,by omega⟩;show jl ts (run ts g) r v s=_;unfold jl;simp only;rw[rH hd,if_neg hr]
theorem tV {ts:List Tok}{s:St}{K:List Tok}{X:List Nd}{v:List Int}:∀(k r g:Nat),r+k=6->1<=r->(∀q,r<=q->q<=5->rowOf (tJ K).s≠q)->k+2<=g->j6 ts s K X v (run ts (g-k-1) .una s)->j6 ts s K X v (run ts g (.bin r) s)
 |0,r,g+1,hr,h1,_,hg,hU=>by
  show j6 ts s K X v (iY (run ts g) r s);unfold iY;rw[if_pos (by omega)];exact hU
 |k+1,r,g+1,hr,h1,hq,hg,hU=>by
  show j6 ts s K X v (iY (run ts g) r s);unfold iY;have hU2:j6 ts s K X v (run ts (g-k-1) .una s):=by
   rw[show g-k-1=g+1-(k+1)-1 by omega];exact hU
  obtain⟨n,m,h2,h3⟩:=tV k (r+1) g (by omega) (by omega) (λq a b=>hq q (by omega) b) (by omega) hU2;rw[if_neg (by omega),h2,av,yz (s:=⟨n,_,_,m⟩) h3 (hq r (Nat.le_refl _) (by omega)) _ _ (by omega)];exact⟨n,m,rfl,h3⟩
theorem CO {ts:List Tok}{s:St}{K:List Tok}{X:List Nd}{v:List Int}{r0:Nat}(h0:r0<=6):∀(k r g:Nat),r+k=r0->1<=r->(∀q,r<=q->q<r0->rowOf (tJ K).s≠q)->k+2<=g->j6 ts s K X v (run ts (g-k) (.bin r0) s)->j6 ts s K X v (run ts g (.bin r) s)
 |0,r,g,hr,h1,_,hg,hU=>by
  obtain rfl:r=r0:=by omega
  exact hU
 |k+1,r,g+1,hr,h1,hq,hg,hU=>by
  show j6 ts s K X v (iY (run ts g) r s);unfold iY;have hU2:j6 ts s K X v (run ts (g-k) (.bin r0) s):=by
   rw[show g-k=g+1-(k+1)by omega];exact hU
  obtain⟨n,m,h2,h3⟩:=CO h0 k (r+1) g (by omega) (by omega) (λq a b=>hq q (by omega) b) (by omega) hU2;rw[if_neg (by omega),h2,av,yz (s:=⟨n,_,_,m⟩) h3 (hq r (Nat.le_refl _) (by omega)) _ _ (by omega)];exact⟨n,m,rfl,h3⟩
theorem Iu {l:List Tr.Nd}{b d:Nat->Nat}{p:Nat}(h27:(ag l p).kd≠27)(hu:Be l b d p):Bf l b d p:=by
 intro ts f z s K g hf hd hlen hop hg hK hK2;have e:=Io (ex:=fG l f) h27;rw[if_neg h27]at hop;refine tV 5 1 g rfl (Nat.le_refl _) (λq a b=>by omega) (by omega) (hu ts f z s K _ hf (by rw[e];exact hd) hlen (by omega) (by rw[e];omega) hK)
theorem Lv {l:List Tr.Nd}{f p:Nat}(hf:p<f)(he:aI (ag l p).kd=true):1<=(zS l (fG l f) p).length:=by
 obtain⟨f,rfl⟩:∃f',f=f'+1:=⟨f-1,by omega⟩;unfold zS;split
 ·simp
 ·rename_i h;rw[oz];rcases gM he with e |e |e |e |e |e |e |e<;>first|exact absurd e h |simp[e]
theorem OE {l:List Tr.Nd}{b d:Nat->Nat}(h:lL l b d)(p:Nat)(hp:p<l.length)(e:(ag l p).kd=27)(ih:∀k,k<p->aI (ag l k).kd=true->Be l b d k/\Bf l b d k):Bf l b d p:=by
 intro ts f z s K g hf hd hlen hop hg hK hK2;rw[if_pos e]at hop;obtain⟨f,rfl⟩:∃f',f=f'+1:=⟨f-1,by omega⟩;obtain⟨k,j,hks,hlt,hlt2,hke,hje⟩:=h.ok.ex.two p hp e;obtain⟨hb1,hb2,hb3⟩:=h.two hp hks;have hdk:=h.deep hp (k:=k) (by rw[hks];simp);have hdj:=h.deep hp (k:=j) (by rw[hks];simp);have hpk:=Lv (f:=f) (p:=k) (by omega) hke;have htx:rR (bu l p)=true:=by
  have:=(bQ h.sh hp).tx;rw[e]at this;simpa [iT]using this
 obtain⟨hr1,hr5⟩:=Lr htx;generalize hrow:rowOf (bu l p)=r0 at hr1 hr5;rw[oz,if_neg (by omega),if_neg (by omega),if_neg (by omega),if_neg (by omega),if_neg (by omega),if_neg (by omega),if_neg (by omega),if_pos e,aV hks,dX hks]at hd hg;simp only[List.cons_append,List.nil_append,List.append_assoc]at hd hg;simp only[List.length_append,List.length_cons]at hg;have hx91:bu l p≠[91]:=λe2=>by rw[e2]at htx;revert htx;decide
 refine CO (r0:=r0) (by omega) (r0-1) 1 g (by omega) (Nat.le_refl _) (λq a b=>by omega) (by omega) ?_;obtain⟨g1,hg1⟩:∃g1,g-(r0-1)=g1+2:=⟨g-(r0-1)-2,by omega⟩;rw[hg1];show j6 ts s K _ _ (iY (run ts (g1+1)) r0 s);unfold iY;have hA:=(ih k (by omega) hke).1 ts f z s (bB (bu l p) :: (zS l (fG l f) j++K)) (g1+1-(5-r0)-1) (by omega) hd (by rw[hb1];exact hlen) (by omega) (by simp only[List.length_append,List.length_cons];omega) hx91;obtain⟨n1,m1,h1,hd1⟩:=tV (5-r0) (r0+1) (g1+1) (by omega) (by omega) (λq a b=>by show rowOf (bu l p)≠q;omega) (by omega) hA;rw[if_neg (by omega),h1,av];show j6 ts s K _ _ (jl ts (run ts g1) r0 _ _);unfold jl;simp only;rw[aY (s:=⟨n1,_,_,m1⟩) hd1,if_pos (show rowOf (bB (bu l p)).s=r0 from hrow)];have hl2:(((s.nd++bq l z (b k) (k+1)).length:Nat):Int)=(b j:Int)+z:=by
  rw[List.length_append,df z (by have:=h.st.le k (by omega);omega) (by omega),hb2];have:=h.st.le k (by omega);omega
 have hB:=(ih j (by omega) hje).1 ts f z (ae ⟨n1,s.nd++bq l z (b k) (k+1),s.op,m1⟩) K (g1-(5-r0)-1) (by omega) (aF (s:=⟨n1,[],0,0⟩) hd1) hl2 (by show s.op+d j<=41;omega) (by simp only[List.length_append];omega) hK;obtain⟨n2,m2,h2,hd2⟩:=tV (5-r0) (r0+1) g1 (by omega) (by omega) (λq a b=>by omega) (by omega) hB;rw[h2,av];have hG:=dZ h hp (s:=s) (s2:=⟨n2,s.nd++bq l z (b k) (k+1)++bq l z (b j) (j+1),s.op,m2⟩) (z:=z) (kd:=27) (n:=0) (pl:=0) (tx:=bu l p) (ks:=[(k:Int)+z]++[(j:Int)+z]) hd2 (by
   have:=h.st.le k (by omega);have:=h.st.le j (by omega);rw[List.append_assoc,hb1,hb2,dO l z (by omega) (by omega),hb3]) rfl hlen e.symm (zU h.sh hp (by omega)).symm rfl (by rw[hks];rfl) rfl
 obtain⟨n3,m3,h3,hd3⟩:=hG;show j6 ts s K _ _ ((bC 27 0 0 (bu l p) ([(k:Int)+z]++[(j:Int)+z]) ⟨n2,s.nd++bq l z (b k) (k+1)++bq l z (b j) (j+1),s.op,m2⟩).bind λv s=>run ts g1 (.loop r0 v) s);rw[h3,av,yz (s:=⟨n3,_,_,m3⟩) hd3 (by omega) _ _ (by omega)];exact⟨n3,m3,rfl,hd3⟩
theorem OG {l:List Tr.Nd}{b d:Nat->Nat}(h:lL l b d)(p:Nat)(hp:p<l.length)(e:(ag l p).kd=27)(he:Bf l b d p):Be l b d p:=by
 intro ts f z s K g hf hd hlen hop hg hK;obtain⟨g,rfl⟩:∃g',g=g'+1:=⟨g-1,by omega⟩;rw[OB e]at hd hg;simp only[List.cons_append,List.nil_append,List.append_assoc]at hd hg;simp only[List.length_append,List.length_cons]at hg;obtain⟨k,j,hks,hlt,hlt2,hke,hje⟩:=h.ok.ex.two p hp e;have hdk:=h.deep hp (k:=k) (by rw[hks];simp);have hkp:=h.pos (p:=k) (by omega);show j6 ts s K _ _ (bf ts (run ts g) s);rw[Lu (aY hd) rfl rfl,ow hd (x:=[40]) rfl (by omega),av];obtain⟨n,m,h1,hd1⟩:=he ts f z ⟨s.nx+1,s.nd,s.op+1,max s.mo (s.op+1)⟩ (bB [41] :: K) g hf (aF hd) hlen (by rw[if_pos e];show s.op+1+d p<=_;omega) (by simp only[List.length_append,List.length_cons];omega) (show([41]:List UInt8)≠[91]by decide) (show rowOf [41]=0 by decide);unfold a_;rw[h1,av,fin_at (t:=bB [41]) (K:=K) (x:=[41]) hd1 rfl,av];refine⟨n+1,m,?_,aF (s:=⟨n,[],0,0⟩) hd1⟩;show Rs.ok [(p:Int)+z] (⟨n+1,s.nd++bq l z (b p) (p+1),s.op+1-1,m⟩:St)=_;rw[Nat.add_sub_cancel]
theorem gH {l:List Tr.Nd}{b d:Nat->Nat}(h:lL l b d):∀p:Nat,p<l.length->aI (ag l p).kd=true->Be l b d p/\Bf l b d p:=by
 intro p;induction p using Nat.strongRecOn with
 |_ p ih=>
  intro hp he;have ih2:∀k,k<p->aI (ag l k).kd=true->Be l b d k/\Bf l b d k:=λk hk=>ih k hk (by omega)
  by_cases e:(ag l p).kd=27
  ·have h1:=OE h p hp e ih2;exact⟨OG h p hp e h1,h1⟩
  ·have h1:=Ir h p hp he e ih2;exact⟨h1,Iu e h1⟩
end
section
open Go
open Tr (nth dS aI eY bz kV iU iq il yG qz eP iT ig rR kD aJ wU rQ gI)
section
variable (l:List Tr.Nd)
def oC (p:Int):List Tok:=[jq (bu l p),iP (qN (ag l p).n)]
def oD (p:Int):List Tok:=iP oZ :: (oC l p++[bB [59]])
def eD (xs:List (List Tok)):List Tok:=(xs.map (bB [44] :: ·)).flatten
def zV:List (List Tok)->List Tok
 | []=>[]
 |x :: r=>x++eD r
def qm (xs:List (List Tok)):List Tok:=bB [40] :: (zV xs++[bB [41]])
def zW (f:Nat)(p:Int):List Tok:=
 if (ag l p).kd=7 then [jq (bu l p),bB [61]]++fG l f (aL l p 0)
 else if (ag l p).kd=8 then [jq (bu l p),bB [91]]++fG l f (aL l p 0)++[bB [93],bB [61]]++fG l f (aL l p 1)
 else if (ag l p).kd=9 then [jq (bu l p),bB [61],iP BH,jq (bu l (aL l p 0))]
 else if (ag l p).kd=10 then [iP nL,jq (bu l (aL l p 0))]++fG l f (aL l p 1)
 else if (ag l p).kd=11 then [iP Af]++fG l f (aL l p 0)
 else if (ag l p).kd=12 then [iP iL]++fG l f (aL l p 0)
 else if (ag l p).kd=13 then (if bu l p=[] then [] else [jq (bu l p),bB [61]])++[iP dK,jq (bu l (aL l p 0))]++qm ((ag l p).ks.tail.map (fG l f))
 else if (ag l p).kd=14 then [iP dL]++((ag l p).ks.map (fG l f)).flatten
 else if (ag l p).kd=15 then [iP jw]++fG l f (aL l p 0)
 else if (ag l p).kd=16 then [iP tC]
 else if (ag l p).kd=17 then [jq (bu l p),bB [61],iP tF]++fG l f (aL l p 0)
 else []
def jL (st:Int->List Tok)(p:Int)(locals:List Int):List Tok:=bB [123] :: ((locals.map (oD l)).flatten++((ag l p).ks.map st).flatten++[bB [125]])
def eU (F:Nat):Nat->Int->List Tok
 |0,_=>[]
 |f+1,p=>zW l F p ++
  (if (ag l p).kd=11 then jL l (eU F f) (aL l p 1) []++(if (ag l (aL l p 2)).ks=[] then [] else iP j4 :: jL l (eU F f) (aL l p 2) [])
  else if (ag l p).kd=12 then jL l (eU F f) (aL l p 1) []
  else if (ag l p).kd=16 then jL l (eU F f) (aL l p 0) []++[iP mO,jq (bu l p)]++jL l (eU F f) (aL l p 1) []
  else [bB [59]])
def mF (F:Nat)(p:Int):List Tok:=
 [iP kH,jq (bu l p)]++qm (((ag l p).ks.filter λk=>(ag l k).kd==4).map (oC l))++(if (ag l p).n=0 then [] else [iP (qN (ag l p).n)]) ++
  jL l (eU l F F) ((ag l p).ks.getLastD 0) ((ag l p).ks.filter λk=>(ag l k).kd==5)
def vo (F:Nat)(p:Int):List Tok:=((ag l p).ks.map λk=>if (ag l k).kd=2 then oD l k else mF l F k).flatten
end
def vO (ts:List Tok)(s:St)(K:List Tok)(X:List Nd)(v:List Int)(o:Nat)(r:Rs):Prop:=∃n m,r=.ok v ⟨n,s.nd++X,o,m⟩/\ts.drop n=K
def Iw (t:Tok):Prop:=t.s≠BH/\t.s≠dK/\t.s≠tF/\t.s≠[59]/\t.s≠[41]/\t.s≠j4
def Iy (x:List UInt8):Bool:=match x with
 | []=>false
 |c :: _=>decide (48<=c.toNat)&&decide (c.toNat<=57)
theorem Bg:∀u:Nat,Iy (Lib.decDigits u)=true:=by
 intro u;induction u using Nat.strongRecOn with
 |_ u ih=>
  rw[Lib.decDigits];split
  ·rename_i h;unfold Iy;have:(UInt8.ofNat (48+u)).toNat=48+u:=by
    rw[UInt8.toNat_ofNat'];omega
   first
    |(simp only[this,Bool.and_eq_true,decide_eq_true_eq];omega)
    |(simp;omega)
  ·rename_i h;have h2:=ih (u / 10) (by omega);revert h2;cases Lib.decDigits (u / 10) with
   |nil=>intro h2;cases h2
   |cons c r=>intro h2;exact h2
theorem zX {n:Int}(h:0<=n):Iy (Lib.itoa n)=true:=by
 unfold Lib.itoa;rw[if_neg (by omega)];exact Bg _
theorem OH {t:Tok}(h:Iy t.s=true):Iw t:=by
 refine⟨?_,?_,?_,?_,?_,?_⟩<;>· intro e;rw[e]at h;revert h;decide
theorem Iz {t:Tok}(h:ig t.s=true):Iw t:=by
 refine⟨?_,?_,?_,?_,?_,?_⟩<;>· intro e;rw[e]at h;revert h;decide
theorem yA {l:List Tr.Nd}(h:iU l=true)(hx:I9 l):∀(p:Nat),p<l.length->aI (ag l p).kd=true->∀(f:Nat) (K:List Tok),p<f->Iw (tJ (fG l f p++K))/\Iw (tJ (zS l (fG l f) p++K)):=by
 intro p;induction p using Nat.strongRecOn with
 |_ p ih=>
  intro hp he f K hf;obtain⟨f,rfl⟩:∃f',f=f'+1:=⟨f-1,by omega⟩;have h1:Iw (tJ (fG l (f+1) p++K)):=by
   rw[oz];rcases gM he with e |e |e |e |e |e |e |e
   ·rw[if_pos e];exact OH (zX (hx.num p hp e).1)
   ·rw[if_neg (by omega),if_pos e];show Iw (iP _);split<;>· refine⟨?_,?_,?_,?_,?_,?_⟩<;>decide
   ·rw[if_neg (by omega),if_neg (by omega),if_pos e];exact Iz (gG h hp (by omega))
   ·rw[if_neg (by omega),if_neg (by omega),if_neg (by omega),if_pos e];exact Iz (t:=jq (bu l p)) (gG h hp (by omega))
   ·rw[if_neg (by omega),if_neg (by omega),if_neg (by omega),if_neg (by omega),if_pos e];show Iw (iP um);refine⟨?_,?_,?_,?_,?_,?_⟩<;>decide
   ·rw[if_neg (by omega),if_neg (by omega),if_neg (by omega),if_neg (by omega),if_neg (by omega),if_pos e];show Iw (bB [38]);refine⟨?_,?_,?_,?_,?_,?_⟩<;>decide
   ·rw[if_neg (by omega),if_neg (by omega),if_neg (by omega),if_neg (by omega),if_neg (by omega),if_neg (by omega),if_pos e];show Iw (bB (bu l p));have htx:bu l p=[45]\/bu l p=[33]:=by
     have:=(bQ h hp).tx;rw[e]at this;simpa [iT]using this
    rcases htx with e2 |e2<;>rw[e2]<;>refine⟨?_,?_,?_,?_,?_,?_⟩<;>decide
   ·rw[if_neg (by omega),if_neg (by omega),if_neg (by omega),if_neg (by omega),if_neg (by omega),if_neg (by omega),if_neg (by omega),if_pos e];obtain⟨k,j,hks,hlt,hlt2,hke,hje⟩:=hx.two p hp e;rw[aV hks,List.append_assoc,List.append_assoc];exact(ih k hlt (by omega) hke f _ (by omega)).2
  refine⟨h1,?_⟩;unfold zS;split
  ·show Iw (bB [40]);refine⟨?_,?_,?_,?_,?_,?_⟩<;>decide
  ·exact h1
theorem LA {n:Int}(h1:1<=n)(h2:n<=4):(typeOf (qN n):Int)=n:=by
 have:n=1\/n=2\/n=3\/n=4:=by omega
 rcases this with e |e |e |e<;>rw[e]<;>decide
theorem CP {ts:List Tok}{s:St}{n:Int}{K:List Tok}(h1:1<=n)(h2:n<=4)(h:ts.drop s.nx=iP (qN n) :: K):iB ts s=.ok [n] (ae s):=by
 have e:=LA h1 h2;unfold iB;simp only;rw[aY h];show(if typeOf (qN n)=0 then _ else Rs.ok [((typeOf (qN n):Nat):Int)] (ae s))=_;rw[if_neg (by omega),e]
theorem vv {l:List Tr.Nd}{b d:Nat->Nat}(h:lL l b d){ts:List Tok}{s:St}{K:List Tok}{z:Int}{p:Nat}(hp:p<l.length)(kd:Nat)(hk:(ag l p).kd=kd)(hkd:kd=2\/kd=4\/kd=5)(hd:ts.drop s.nx=oC l p++K)(hlen:(s.nd.length:Int)=(b p:Int)+z) :
  j6 ts s K (bq l z (b p) (p+1)) [(p:Int)+z] (d_ ts kd 0 s):=by
 have hn:1<=(ag l p).n/\(ag l p).n<=4:=by
  have:=(bQ h.sh hp).num;unfold eP at this;rw[if_pos (by omega)]at this;simpa using this
 have hd1:ts.drop s.nx=jq (bu l p) :: iP (qN (ag l p).n) :: K:=hd;unfold d_;simp only;rw[jS hd1 rfl,av,CP (s:=ae s) hn.1 hn.2 (aF hd1),av,aY hd1];exact iH h hp (iX h.sh hp (by omega)) (s2:=ae (ae s)) (aF (s:=ae s) (aF hd1)) rfl rfl hlen hk.symm rfl rfl rfl
theorem sI {l:List Tr.Nd}{b d:Nat->Nat}(h:lL l b d){ts:List Tok}{s:St}{K:List Tok}{z:Int}{p:Nat}(hp:p<l.length)(kd:Nat)(hk:(ag l p).kd=kd)(hkd:kd=18\/kd=19)(hd:ts.drop s.nx=jq (bu l p) :: K)(hlen:(s.nd.length:Int)=(b p:Int)+z) :
  j6 ts s K (bq l z (b p) (p+1)) [(p:Int)+z] (gp ts kd s):=by
 unfold gp;simp only;rw[jS hd rfl,av,aY hd];exact iH h hp (iX h.sh hp (by omega)) (s2:=ae s) (aF hd) rfl rfl hlen hk.symm (zU h.sh hp (by omega)).symm rfl rfl
theorem sJ {l:List Tr.Nd}{b d:Nat->Nat}(h:lL l b d)(kd:Nat)(hkd:kd=2\/kd=5){ts:List Tok}{K:List Tok}{z:Int}(hK:(tJ K).s≠oZ):∀(js:List Int) (a e:Nat) (acc:List Int) (s:St) (g:Nat),yx b js a e->e<=l.length->(∀j ∈ js,(ag l j).kd=kd) ->
  ts.drop s.nx=(js.map (oD l)).flatten++K->(s.nd.length:Int)=(a:Int)+z->10*((js.map (oD l)).flatten++K).length+1<=g->j6 ts s K (bq l z a e) (acc++js.map (· + z)) (run ts g (.vars kd acc) s)
 | [],a,e,acc,s,g,hc,he,hj,hd,hlen,hg=>by
  obtain⟨g,rfl⟩:∃g',g=g'+1:=⟨g-1,by omega⟩;obtain rfl:a=e:=hc;show j6 ts s K _ _ (jm ts (run ts g) kd acc s);unfold jm sees;rw[rH (K:=K) hd,if_neg (by simpa using hK)];exact⟨s.nx,s.mo,by rw[rG,List.append_nil,List.map_nil,List.append_nil],hd⟩
 |j :: js,a,e,acc,s,g,hc,he,hj,hd,hlen,hg=>by
  obtain⟨g,rfl⟩:∃g',g=g'+1:=⟨g-1,by omega⟩;obtain⟨m,rfl,h1,h2,h3,h4⟩:=hc;have hle:=h4.le;rw[List.map_cons,List.flatten_cons,List.append_assoc]at hd hg;have hd1:ts.drop s.nx=iP oZ :: (oC l m++bB [59] :: ((js.map (oD l)).flatten++K)):=by rw[hd];unfold oD;simp only[List.cons_append,List.append_assoc,List.nil_append]
  show j6 ts s K _ _ (jm ts (run ts g) kd acc s);unfold jm;rw[eB hd1,if_pos (by decide),aY hd1];obtain⟨n1,m1,e1,hd2⟩:=vv h (p:=m) (s:=ae s) (z:=z) (by omega) kd (hj _ List.mem_cons_self) (by omega) (aF hd1) (by rw[h1];exact hlen);show j6 ts s K _ _ ((d_ ts kd 0 (ae s)).bind _);rw[e1,av,nz (s:=⟨n1,_,_,m1⟩) (x:=[59]) hd2 rfl,av];have hl2:(((s.nd++bq l z (b m) (m+1)).length:Nat):Int)=((m+1:Nat):Int)+z:=by
   rw[List.length_append,df z (by omega) (by omega)];omega
  have hlen2:(oD l m).length=4:=rfl;obtain⟨n2,m2,e2,hd3⟩:=sJ h kd hkd hK js (m+1) e (acc++[(m:Int)+z]) (ae ⟨n1,s.nd++bq l z (b m) (m+1),s.op,m1⟩) g h4 he (λj hj2=>hj j (List.mem_cons_of_mem _ hj2)) (aF (s:=⟨n1,[],0,0⟩) hd2) hl2 (by rw[List.length_append]at hg |-;rw[List.length_append,hlen2]at hg;omega);refine⟨n2,m2,?_,hd3⟩;show run ts g (.vars kd (acc++[(m:Int)+z])) (ae ⟨n1,s.nd++bq l z (b m) (m+1),s.op,m1⟩)=_;rw[e2,h1];show Rs.ok _ (⟨n2,s.nd++bq l z a (m+1)++bq l z (m+1) e,s.op,m2⟩:St)=_;rw[List.append_assoc s.nd,dO l z (by omega) (by omega),List.map_cons,List.append_assoc acc];rfl
theorem oF {l:List Tr.Nd}{b d:Nat->Nat}(h:lL l b d){ts:List Tok}{K:List Tok}{z:Int}:∀(js:List Int) (a e:Nat) (acc:List Int) (s:St) (g:Nat),yx b js a e->e<=l.length->(∀j ∈ js,(ag l j).kd=4) ->
  ts.drop s.nx=eD (js.map (oC l))++bB [41] :: K->(s.nd.length:Int)=(a:Int)+z->10*(eD (js.map (oC l))++bB [41] :: K).length+1<=g->vO ts s K (bq l z a e) (acc++js.map (· + z)) (s.op-1) (run ts g (.params acc) s)
 | [],a,e,acc,s,g,hc,he,hj,hd,hlen,hg=>by
  obtain⟨g,rfl⟩:∃g',g=g'+1:=⟨g-1,by omega⟩;obtain rfl:a=e:=hc;have hd1:ts.drop s.nx=bB [41] :: K:=hd;show vO ts s K _ _ _ (dD ts (run ts g) acc s);unfold dD;rw[eB hd1,if_neg (by decide),fin_at hd1 (x:=[41]) rfl,av];exact⟨s.nx+1,s.mo,by rw[rG,List.append_nil,List.map_nil,List.append_nil],aF hd1⟩
 |j :: js,a,e,acc,s,g,hc,he,hj,hd,hlen,hg=>by
  obtain⟨g,rfl⟩:∃g',g=g'+1:=⟨g-1,by omega⟩;obtain⟨m,rfl,h1,h2,h3,h4⟩:=hc;have hle:=h4.le;have hd1:ts.drop s.nx=bB [44] :: (oC l m++(eD (js.map (oC l))++bB [41] :: K)):=by rw[hd];unfold eD;simp only[List.map_cons,List.flatten_cons,List.cons_append,List.append_assoc]
  show vO ts s K _ _ _ (dD ts (run ts g) acc s);unfold dD;rw[eB hd1,if_pos (by decide)];unfold ib;have hd1':ts.drop (ae s).nx=oC l m++(eD (js.map (oC l))++bB [41] :: K):=aF hd1;have hz:(ah ts (ae s)).p=0:=by rw[aY (show ts.drop (ae s).nx=jq (bu l m) :: iP (qN (ag l m).n) :: _ from hd1')];rfl
  rw[hz];obtain⟨n1,m1,e1,hd2⟩:=vv h (p:=m) (s:=ae s) (z:=z) (by omega) 4 (hj _ List.mem_cons_self) (by omega) hd1' (by rw[h1];exact hlen);show vO ts s K _ _ _ ((d_ ts 4 0 (ae s)).bind _);rw[e1,av];have hl2:(((s.nd++bq l z (b m) (m+1)).length:Nat):Int)=((m+1:Nat):Int)+z:=by
   rw[List.length_append,df z (by omega) (by omega)];omega
  have hlen2:(oC l m).length=2:=rfl;have hg2:(eD (((m:Int) :: js).map (oC l))).length=3+(eD (js.map (oC l))).length:=by
   unfold eD;simp only[List.map_cons,List.flatten_cons,List.length_append,List.length_cons,hlen2]
  obtain⟨n2,m2,e2,hd3⟩:=oF h js (m+1) e (acc++[(m:Int)+z]) ⟨n1,s.nd++bq l z (b m) (m+1),s.op,m1⟩ g h4 he (λj hj2=>hj j (List.mem_cons_of_mem _ hj2)) hd2 hl2 (by rw[List.length_append,hg2]at hg;rw[List.length_append];omega);refine⟨n2,m2,?_,hd3⟩;show run ts g (.params (acc++[(m:Int)+z])) ⟨n1,s.nd++bq l z (b m) (m+1),s.op,m1⟩=_;rw[e2,h1];show Rs.ok _ (⟨n2,s.nd++bq l z a (m+1)++bq l z (m+1) e,s.op-1,m2⟩:St)=_;rw[List.append_assoc s.nd,dO l z (by omega) (by omega),List.map_cons,List.append_assoc acc];rfl
theorem qo {l:List Tr.Nd}{b d:Nat->Nat}(h:lL l b d){ts:List Tok}{K:List Tok}{z:Int}{f:Nat}:∀(js:List Int) (a e:Nat) (acc:List Int) (s:St) (g:Nat),yx b js a e->e<=l.length->e<=f->(∀j ∈ js,aI (ag l j).kd=true/\s.op+d j.toNat<=41) ->
  ts.drop s.nx=eD (js.map (fG l f))++bB [41] :: K->(s.nd.length:Int)=(a:Int)+z->10*(eD (js.map (fG l f))++bB [41] :: K).length+1<=g->vO ts s K (bq l z a e) (acc++js.map (· + z)) (s.op-1) (run ts g (.exprs acc) s)
 | [],a,e,acc,s,g,hc,he,hf,hj,hd,hlen,hg=>by
  obtain⟨g,rfl⟩:∃g',g=g'+1:=⟨g-1,by omega⟩;obtain rfl:a=e:=hc;have hd1:ts.drop s.nx=bB [41] :: K:=hd;show vO ts s K _ _ _ (eQ ts (run ts g) acc s);unfold eQ;rw[eB hd1,if_neg (by decide),fin_at hd1 (x:=[41]) rfl,av];exact⟨s.nx+1,s.mo,by rw[rG,List.append_nil,List.map_nil,List.append_nil],aF hd1⟩
 |j :: js,a,e,acc,s,g,hc,he,hf,hj,hd,hlen,hg=>by
  obtain⟨g,rfl⟩:∃g',g=g'+1:=⟨g-1,by omega⟩;obtain⟨m,rfl,h1,h2,h3,h4⟩:=hc;have hle:=h4.le;obtain⟨hje,hjd⟩:=hj _ List.mem_cons_self;rw[Int.toNat_natCast]at hjd;have hd1:ts.drop s.nx=bB [44] :: (fG l f m++(eD (js.map (fG l f))++bB [41] :: K)):=by rw[hd];unfold eD;simp only[List.map_cons,List.flatten_cons,List.cons_append,List.append_assoc]
  have hg2:(eD (((m:Int) :: js).map (fG l f))).length=1+(fG l f m).length+(eD (js.map (fG l f))).length:=by
   unfold eD;simp only[List.map_cons,List.flatten_cons,List.length_append,List.length_cons];omega
  rw[List.length_append,hg2]at hg;have hhd:(tJ (eD (js.map (fG l f))++bB [41] :: K)).s≠[91]/\rowOf (tJ (eD (js.map (fG l f))++bB [41] :: K)).s=0:=by
   cases js with
   |nil=>exact⟨show([41]:List UInt8)≠[91]by decide,show rowOf [41]=0 by decide⟩
   |cons x r=>exact⟨show([44]:List UInt8)≠[91]by decide,show rowOf [44]=0 by decide⟩
  show vO ts s K _ _ _ (eQ ts (run ts g) acc s);unfold eQ;rw[eB hd1,if_pos (by decide)];unfold a_;obtain⟨n1,m1,e1,hd2⟩:=(gH h m (by omega) hje).2 ts f z (ae s) (eD (js.map (fG l f))++bB [41] :: K) g (by omega) (aF hd1) (by rw[h1];exact hlen) (by show s.op+d m<=_;omega) (by rw[List.length_append,List.length_append];omega) hhd.1 hhd.2;rw[e1,av];have hl2:(((s.nd++bq l z (b m) (m+1)).length:Nat):Int)=((m+1:Nat):Int)+z:=by
   rw[List.length_append,df z (by omega) (by omega)];omega
  obtain⟨n2,m2,e2,hd3⟩:=qo h js (m+1) e (acc++[(m:Int)+z]) ⟨n1,s.nd++bq l z (b m) (m+1),s.op,m1⟩ g h4 he hf (λj hj2=>hj j (List.mem_cons_of_mem _ hj2)) hd2 hl2 (by rw[List.length_append];omega);refine⟨n2,m2,?_,hd3⟩;show run ts g (.exprs (acc++[(m:Int)+z])) ⟨n1,s.nd++bq l z (b m) (m+1),s.op,m1⟩=_;rw[e2,h1];show Rs.ok _ (⟨n2,s.nd++bq l z a (m+1)++bq l z (m+1) e,s.op-1,m2⟩:St)=_;rw[List.append_assoc s.nd,dO l z (by omega) (by omega),List.map_cons,List.append_assoc acc];rfl
end
section
open Go
open Tr (nth dS aI eY bz kV iU iq il yG qz eP iT ig rR kD aJ wU rQ gI)
section
variable {l:List Tr.Nd} {b d:Nat->Nat} (h:lL l b d) {p:Nat} (hp:p<l.length)
include h hp
theorem wN (hk:(ag l p).kd=7\/(ag l p).kd=15\/(ag l p).kd=17):∃k:Nat,(ag l p).ks=[(k:Int)]/\k<p/\aI (ag l k).kd=true:=by
 have h1:=(bQ h.sh hp).kid;have h2:(ic l p).length=1/\eY (ic l p)=true:=by
  rcases hk with hk |hk |hk<;>· rw[hk]at h1;simpa [bz]using h1
 obtain⟨k,e,hlt,e2⟩:=lg h.ahead hp h2.1;exact⟨k,e,hlt,dY h2.2 _ (by rw[e2];simp)⟩
theorem Mt (hk:(ag l p).kd=8):∃k j:Nat,(ag l p).ks=[(k:Int),(j:Int)]/\k<p/\j<p/\aI (ag l k).kd=true/\aI (ag l j).kd=true:=by
 have h1:=(bQ h.sh hp).kid;rw[hk]at h1;have h2:(ic l p).length=2/\eY (ic l p)=true:=by simpa [bz]using h1
 obtain⟨k,j,e,hlt,hlt2,e2⟩:=iD h.ahead hp h2.1;exact⟨k,j,e,hlt,hlt2,dY h2.2 _ (by rw[e2];simp),dY h2.2 _ (by rw[e2];simp)⟩
theorem Mv (hk:(ag l p).kd=9):∃k:Nat,(ag l p).ks=[(k:Int)]/\k<p/\(ag l k).kd=18:=by
 have h1:=(bQ h.sh hp).kid;rw[hk]at h1;simp[bz]at h1;obtain⟨k,e,hlt,e2⟩:=lg h.ahead hp h1.1;rw[e2]at h1;exact⟨k,e,hlt,by simpa using h1.2⟩
theorem IA (hk:(ag l p).kd=10):∃k j:Nat,(ag l p).ks=[(k:Int),(j:Int)]/\k<p/\j<p/\(ag l k).kd=18/\aI (ag l j).kd=true:=by
 have h1:=(bQ h.sh hp).kid;rw[hk]at h1;simp[bz]at h1;obtain⟨k,j,e,hlt,hlt2,e2⟩:=iD h.ahead hp h1.1.1;rw[e2]at h1;exact⟨k,j,e,hlt,hlt2,by simpa using h1.1.2,by simpa using h1.2⟩
theorem Bh (hk:(ag l p).kd=11):∃k j i:Nat,(ag l p).ks=[(k:Int),(j:Int),(i:Int)]/\k<p/\j<p/\i<p/\aI (ag l k).kd=true/\(ag l j).kd=6/\(ag l i).kd=6:=by
 have h1:=(bQ h.sh hp).kid;rw[hk]at h1;simp[bz]at h1;obtain⟨k,j,i,e,hlt,hlt2,hlt3,e2⟩:=p9 h.ahead hp h1.1.1.1;rw[e2]at h1;exact⟨k,j,i,e,hlt,hlt2,hlt3,by simpa using h1.1.1.2,by simpa using h1.1.2,by simpa using h1.2⟩
theorem Bi (hk:(ag l p).kd=12):∃k j:Nat,(ag l p).ks=[(k:Int),(j:Int)]/\k<p/\j<p/\aI (ag l k).kd=true/\(ag l j).kd=6:=by
 have h1:=(bQ h.sh hp).kid;rw[hk]at h1;simp[bz]at h1;obtain⟨k,j,e,hlt,hlt2,e2⟩:=iD h.ahead hp h1.1.1;rw[e2]at h1;exact⟨k,j,e,hlt,hlt2,by simpa using h1.1.2,by simpa using h1.2⟩
theorem IB (hk:(ag l p).kd=16):∃k j:Nat,(ag l p).ks=[(k:Int),(j:Int)]/\k<p/\j<p/\(ag l k).kd=6/\(ag l j).kd=6:=by
 have h1:=(bQ h.sh hp).kid;rw[hk]at h1;simp[bz]at h1;obtain⟨k,j,e,hlt,hlt2,e2⟩:=iD h.ahead hp h1.1.1;rw[e2]at h1;exact⟨k,j,e,hlt,hlt2,by simpa using h1.1.2,by simpa using h1.2⟩
theorem IC (hk:(ag l p).kd=13):∃(k:Nat) (js:List Int),(ag l p).ks=(k:Int) :: js/\k<p/\(ag l k).kd=19/\∀x ∈ js,∃x2:Nat,x=(x2:Int)/\x2<p/\aI (ag l x2).kd=true:=by
 have h1:=(bQ h.sh hp).kid;rw[hk]at h1;simp[bz]at h1;rcases hks:(ag l p).ks with _ |⟨a,js⟩
 ·have:=nR l p;rw[hks]at this;have h2:=h1.1.1;rw[this]at h2;simp at h2
 have e2:ic l p=(ag l a).kd :: js.map λk=>(ag l k).kd:=by unfold ic;rw[hks];rfl
 rw[e2]at h1;obtain⟨k,rfl,hlt⟩:=bV h.ahead hp a (by rw[hks];simp);refine⟨k,js,rfl,hlt,by simpa using h1.1.2,λx hx =>?_⟩;obtain⟨x2,rfl,hlt2⟩:=bV h.ahead hp x (by rw[hks];simp[hx]);refine⟨x2,rfl,hlt2,?_⟩;have h3:eY (js.map λk=>(ag l k).kd)=true:=by simpa using h1.2
 exact dY h3 _ (List.mem_map.2 ⟨_,hx,rfl⟩)
theorem IE (hk:(ag l p).kd=14):(ag l p).ks=[]\/∃k:Nat,(ag l p).ks=[(k:Int)]/\k<p/\aI (ag l k).kd=true:=by
 have h1:=(bQ h.sh hp).kid;rw[hk]at h1;simp[bz]at h1;by_cases e0:(ic l p).length=0
 ·left;have:=List.length_eq_zero_iff.1 e0;exact List.map_eq_nil_iff.1 this
 ·obtain⟨k,e,hlt,e2⟩:=lg h.ahead hp (by omega);exact Or.inr ⟨k,e,hlt,dY h1.2 _ (by rw[e2];simp)⟩
end
theorem oV (x:List Tok)(r:List (List Tok)):zV (x :: r)=x++eD r:=rfl
theorem Eg {l:List Tr.Nd}{b d:Nat->Nat}(h:lL l b d){ts:List Tok}{K:List Tok}{z:Int}{f:Nat}(js:List Int)(a e:Nat)(s:St)(g:Nat)(hc:yx b js a e)(he:e<=l.length)(hf:e<=f)(hj:∀j ∈ js,aI (ag l j).kd=true/\s.op+1+d j.toNat<=41)(ho:s.op<=39)
  (hd:ts.drop s.nx=qm (js.map (fG l f))++K) (hlen:(s.nd.length:Int)=(a:Int)+z) (hg:10*(qm (js.map (fG l f))++K).length<=g):j6 ts s K (bq l z a e) (js.map (· + z)) (jb ts (run ts g) s):=by
 have hd1:ts.drop s.nx=bB [40] :: (zV (js.map (fG l f))++bB [41] :: K):=by rw[hd];unfold qm;simp only[List.cons_append,List.append_assoc,List.nil_append]
 have hlk:(qm (js.map (fG l f))).length=(zV (js.map (fG l f))).length+2:=by unfold qm;simp only[List.length_cons,List.length_append,List.length_nil]
 rw[List.length_append,hlk]at hg;unfold jb;rw[ow hd1 (x:=[40]) rfl ho,av];have hd2:ts.drop (⟨s.nx+1,s.nd,s.op+1,max s.mo (s.op+1)⟩:St).nx=zV (js.map (fG l f))++bB [41] :: K:=aF hd1;cases js with
 |nil=>
  have hd3:ts.drop (⟨s.nx+1,s.nd,s.op+1,max s.mo (s.op+1)⟩:St).nx=bB [41] :: K:=hd2;rw[eB hd3,if_pos (by decide)];obtain⟨n,m,e1,e2⟩:=qo h (K:=K) (z:=z) (f:=f) [] a e [] ⟨s.nx+1,s.nd,s.op+1,max s.mo (s.op+1)⟩ g hc he hf (λj hj=>by cases hj) hd3 hlen (by simp only[eD,List.map_nil,List.flatten_nil,List.nil_append,List.length_cons];omega);exact⟨n,m,e1,e2⟩
 |cons j js=>
  obtain⟨m,rfl,h1,h2,h3,h4⟩:=hc;have hle:=h4.le;obtain⟨hje,hjd⟩:=hj _ List.mem_cons_self;rw[Int.toNat_natCast]at hjd;rw[List.map_cons,oV,List.append_assoc]at hd2;rw[List.map_cons,oV,List.length_append]at hg;have hft:=(yA h.sh h.ok.ex m (by omega) hje f (eD (js.map (fG l f))++bB [41] :: K) (by omega)).1;unfold sees;rw[rH hd2,if_neg (by have:=hft.2.2.2.2.1;simpa using this)];have hhd:(tJ (eD (js.map (fG l f))++bB [41] :: K)).s≠[91]/\rowOf (tJ (eD (js.map (fG l f))++bB [41] :: K)).s=0:=by
   cases js with
   |nil=>exact⟨show([41]:List UInt8)≠[91]by decide,show rowOf [41]=0 by decide⟩
   |cons x r=>exact⟨show([44]:List UInt8)≠[91]by decide,show rowOf [44]=0 by decide⟩
  unfold a_;obtain⟨n1,m1,e1,hd3⟩:=(gH h m (by omega) hje).2 ts f z ⟨s.nx+1,s.nd,s.op+1,max s.mo (s.op+1)⟩ (eD (js.map (fG l f))++bB [41] :: K) g (by omega) hd2 (by rw[h1];exact hlen) (by show s.op+1+d m<=_;omega) (by simp only[List.length_append,List.length_cons];omega) hhd.1 hhd.2;rw[e1,av];have hl2:(((s.nd++bq l z (b m) (m+1)).length:Nat):Int)=((m+1:Nat):Int)+z:=by
   rw[List.length_append,df z (by omega) (by omega)];omega
  obtain⟨n2,m2,e2,hd4⟩:=qo h (K:=K) (z:=z) (f:=f) js (m+1) e [(m:Int)+z] ⟨n1,s.nd++bq l z (b m) (m+1),s.op+1,m1⟩ g h4 he hf (λj hj2=>hj j (List.mem_cons_of_mem _ hj2)) hd3 hl2 (by simp only[List.length_append,List.length_cons];omega);refine⟨n2,m2,?_,hd4⟩;show run ts g (.exprs [(m:Int)+z]) ⟨n1,s.nd++bq l z (b m) (m+1),s.op+1,m1⟩=_;rw[e2,h1];show Rs.ok _ (⟨n2,s.nd++bq l z a (m+1)++bq l z (m+1) e,s.op+1-1,m2⟩:St)=_;rw[List.append_assoc s.nd,dO l z (by omega) (by omega),Nat.add_sub_cancel];rfl
theorem wO {l:List Tr.Nd}{b d:Nat->Nat}(h:lL l b d){ts:List Tok}{K:List Tok}{z:Int}{f:Nat}{p:Nat}(hp:p<l.length)(hk:(ag l p).kd=13)(s:St)(g:Nat)(hf:p<f)(ho:s.op+d p<=41)
  (hd:ts.drop s.nx=[iP dK,jq (bu l (aL l p 0))]++qm ((ag l p).ks.tail.map (fG l f))++K) (hlen:(s.nd.length:Int)=(b p:Int)+z) (hg:10*([iP dK,jq (bu l (aL l p 0))]++qm ((ag l p).ks.tail.map (fG l f))++K).length<=g) :
  j6 ts s K (bq l z (b p) (p+1)) [(p:Int)+z] (gq ts (run ts g) (bu l p) 0 s):=by
 obtain⟨k,js,hks,hlt,hkk,hjs⟩:=IC h hp hk;have hc:=jh h.st hp;rw[hks]at hc;obtain⟨k',hkk2,h1,h2,h3,h4⟩:=hc;obtain rfl:k=k':=by omega
 have hle:=h4.le;have hdk:=h.deep hp (k:=k) (by rw[hks];simp);have hkp:=h.pos (p:=k) (by omega);rw[aV hks,hks,List.tail_cons]at hd hg;simp only[List.cons_append,List.nil_append]at hd hg;simp only[List.length_cons]at hg;unfold gq;rw[nz hd (x:=dK) rfl,av];obtain⟨n1,m1,e1,hd1⟩:=sI h (p:=k) (s:=ae s) (z:=z) (by omega) 19 (by omega) (by omega) (aF hd) (by rw[h1];exact hlen);rw[e1,av];have hl2:(((s.nd++bq l z (b k) (k+1)).length:Nat):Int)=((k+1:Nat):Int)+z:=by
  rw[List.length_append,df z (by omega) (by omega)];omega
 obtain⟨n2,m2,e2,hd2⟩:=Eg h (K:=K) (z:=z) (f:=f) js (k+1) p ⟨n1,s.nd++bq l z (b k) (k+1),s.op,m1⟩ g h4 (by omega) (by omega) (λj hj=>by
  obtain⟨x2,rfl,hx1,hx2⟩:=hjs j hj
  have:=h.deep hp (k:=x2) (by rw[hks];simp[hj])
  rw[Int.toNat_natCast]
  exact⟨hx2,by show s.op+1+d x2<=41;omega⟩) (by show s.op<=39;omega) hd1 hl2 (by omega)
 show j6 ts s K _ _ ((jb ts (run ts g) ⟨n1,s.nd++bq l z (b k) (k+1),s.op,m1⟩).bind _);rw[e2,av];exact dZ h hp (s:=s) (s2:=⟨n2,s.nd++bq l z (b k) (k+1)++bq l z (k+1) p,s.op,m2⟩) (z:=z) hd2 (by rw[List.append_assoc,h1,dO l z (by omega) (by omega)]) rfl hlen hk.symm (zU h.sh hp (by omega)).symm rfl (by rw[hks];rfl) rfl
end
section
open Go
open Tr (nth dS aI eY bz kV iU iq il yG qz eP iT ig rR kD aJ wU rQ gI)
def RA (t:Tok):Prop:=t.s≠[125]/\t.s≠j4/\t.s≠oZ
theorem sK {t:Tok}(h:ig t.s=true):RA t:=by
 refine⟨?_,?_,?_⟩<;>· intro e;rw[e]at h;revert h;decide
theorem sM (l:List Tr.Nd)(F f:Nat)(p:Int):eU l F (f+1) p=zW l F p ++
  (if (ag l p).kd=11 then jL l (eU l F f) (aL l p 1) []++(if (ag l (aL l p 2)).ks=[] then [] else iP j4 :: jL l (eU l F f) (aL l p 2) [])
  else if (ag l p).kd=12 then jL l (eU l F f) (aL l p 1) []
  else if (ag l p).kd=16 then jL l (eU l F f) (aL l p 0) []++[iP mO,jq (bu l p)]++jL l (eU l F f) (aL l p 1) []
  else [bB [59]]):=rfl
theorem IG (l:List Tr.Nd)(f:Nat)(p:Int) :
  ((ag l p).kd=7->zW l f p=jq (bu l p) :: bB [61] :: fG l f (aL l p 0)) /\
  ((ag l p).kd=8->zW l f p=jq (bu l p) :: bB [91] :: (fG l f (aL l p 0)++bB [93] :: bB [61] :: fG l f (aL l p 1))) /\
  ((ag l p).kd=9->zW l f p=[jq (bu l p),bB [61],iP BH,jq (bu l (aL l p 0))]) /\
  ((ag l p).kd=10->zW l f p=iP nL :: jq (bu l (aL l p 0)) :: fG l f (aL l p 1)) /\
  ((ag l p).kd=11->zW l f p=iP Af :: fG l f (aL l p 0)) /\
  ((ag l p).kd=12->zW l f p=iP iL :: fG l f (aL l p 0)) /\
  ((ag l p).kd=13->zW l f p=(if bu l p=[] then [] else [jq (bu l p),bB [61]])++([iP dK,jq (bu l (aL l p 0))]++qm ((ag l p).ks.tail.map (fG l f)))) /\
  ((ag l p).kd=14->zW l f p=iP dL :: ((ag l p).ks.map (fG l f)).flatten) /\
  ((ag l p).kd=15->zW l f p=iP jw :: fG l f (aL l p 0)) /\
  ((ag l p).kd=16->zW l f p=[iP tC]) /\
  ((ag l p).kd=17->zW l f p=jq (bu l p) :: bB [61] :: iP tF :: fG l f (aL l p 0)):=by
 refine⟨?_,?_,?_,?_,?_,?_,?_,?_,?_,?_,?_⟩<;>· intro e;unfold zW;rw[e];simp
theorem rJ {l:List Tr.Nd}(h:iU l=true){p:Nat}(hp:p<l.length)(hk:dS (ag l p).kd=true)(F f:Nat)(K:List Tok)(hf:1<=f):RA (tJ (eU l F f p++K)):=by
 obtain⟨f,rfl⟩:∃f',f=f'+1:=⟨f-1,by omega⟩;rw[sM,List.append_assoc];obtain⟨l7,l8,l9,l10,l11,l12,l13,l14,l15,l16,l17⟩:=IG l F p;have hw:∀x:List UInt8,x=nL\/x=Af\/x=iL\/x=dL\/x=jw\/x=tC\/x=dK->RA (iP x):=λx hx=>by
  rcases hx with e |e |e |e |e |e |e<;>rw[e]<;>exact⟨by decide,by decide,by decide⟩
 rcases mf hk with e |e |e |e |e |e |e |e |e |e |e
 ·rw[l7 e];exact sK (t:=jq (bu l p)) (gG h hp (by omega))
 ·rw[l8 e];exact sK (t:=jq (bu l p)) (gG h hp (by omega))
 ·rw[l9 e];exact sK (t:=jq (bu l p)) (gG h hp (by omega))
 ·rw[l10 e];exact hw _ (by simp)
 ·rw[l11 e];exact hw _ (by simp)
 ·rw[l12 e];exact hw _ (by simp)
 ·rw[l13 e];have htx:=(bQ h hp).tx;rw[e]at htx;split
  ·exact hw dK (by simp)
  ·rename_i h0;exact sK (t:=jq (bu l p)) (show ig (bu l p)=true by simpa [iT,h0]using htx)
 ·rw[l14 e];exact hw dL (by simp)
 ·rw[l15 e];exact hw jw (by simp)
 ·rw[l16 e];exact hw tC (by simp)
 ·rw[l17 e];exact sK (t:=jq (bu l p)) (gG h hp (by omega))
section
variable {ts:List Tok} {rec:nI->St->Rs} {s:St} {t:Tok} (h:ah ts s=t)
include h
theorem vw (h1:t.k=1):aO ts rec s=d9 ts rec s:=by
 unfold aO;simp only;rw[h,if_pos h1]
theorem LB (h1:t.k=4)(h2:t.s=nL):aO ts rec s=lT ts rec s:=by
 unfold aO;simp only;rw[h,if_neg (by omega),if_pos h2]
theorem OI (h1:t.k=4)(h2:t.s=Af):aO ts rec s=vX ts rec s:=by
 unfold aO;simp only;rw[h,if_neg (by omega),if_neg (by rw[h2];decide),if_pos h2]
theorem Eh (h1:t.k=4)(h2:t.s=iL):aO ts rec s=h_ ts rec s:=by
 unfold aO;simp only;rw[h,if_neg (by omega),if_neg (by rw[h2];decide),if_neg (by rw[h2];decide),if_pos h2]
theorem II (h1:t.k=4)(h2:t.s=dK):aO ts rec s=(gq ts rec [] t.p s).bind λv s=>bJ ts v s:=by
 unfold aO;simp only;rw[h,if_neg (by omega),if_neg (by rw[h2];decide),if_neg (by rw[h2];decide),if_neg (by rw[h2];decide),if_pos h2]
theorem CQ (h1:t.k=4)(h2:t.s=dL):aO ts rec s=(cO ts rec s).bind λv s=>bJ ts v s:=by
 unfold aO;simp only;rw[h,if_neg (by omega),if_neg (by rw[h2];decide),if_neg (by rw[h2];decide),if_neg (by rw[h2];decide),if_neg (by rw[h2];decide),if_pos h2]
theorem Ei (h1:t.k=4)(h2:t.s=jw):aO ts rec s=(iM ts rec s).bind λv s=>bJ ts v s:=by
 unfold aO;simp only;rw[h,if_neg (by omega),if_neg (by rw[h2];decide),if_neg (by rw[h2];decide),if_neg (by rw[h2];decide),if_neg (by rw[h2];decide),if_neg (by rw[h2];decide),if_pos h2]
theorem LC (h1:t.k=4)(h2:t.s=tC):aO ts rec s=lU ts rec s:=by
 unfold aO;simp only;rw[h,if_neg (by omega),if_neg (by rw[h2];decide),if_neg (by rw[h2];decide),if_neg (by rw[h2];decide),if_neg (by rw[h2];decide),if_neg (by rw[h2];decide),if_neg (by rw[h2];decide),if_pos h2]
theorem LD (h2:t.s=BH)(u:Tok):bI ts rec u s=(gp ts 18 (ae s)).bind λv s=>bC 9 0 u.p u.s v s:=by
 unfold bI;simp only;rw[h,if_pos h2]
theorem Ej (h2:t.s=dK)(u:Tok):bI ts rec u s=gq ts rec u.s u.p s:=by
 unfold bI;simp only;rw[h,if_neg (by rw[h2];decide),if_pos h2]
theorem IJ (h2:t.s=tF)(u:Tok):bI ts rec u s=(a_ rec (ae s)).bind λv s=>bC 17 0 u.p u.s v s:=by
 unfold bI;simp only;rw[h,if_neg (by rw[h2];decide),if_neg (by rw[h2];decide),if_pos h2]
theorem LF (h2:Iw t)(u:Tok):bI ts rec u s=(a_ rec s).bind λv s=>bC 7 0 u.p u.s v s:=by
 unfold bI;simp only;rw[h,if_neg h2.1,if_neg h2.2.1,if_neg h2.2.2.1]
end
theorem rM {ts:List Tok}{rec:nI->St->Rs}{s:St}{x:List UInt8}{K:List Tok}(hd:ts.drop s.nx=jq x :: bB [61] :: K):d9 ts rec s=(bI ts rec (jq x) (ae (ae s))).bind λv s=>bJ ts v s:=by
 have hd1:ts.drop (ae s).nx=bB [61] :: K:=aF hd;unfold d9;simp only;rw[jS hd rfl,av,eB hd1,if_neg (by decide),nz hd1 (x:=[61]) rfl,av,aY hd]
theorem iI {ts:List Tok}{s:St}{K:List Tok}{X:List Nd}{v:List Int}{r:Rs}(h:j6 ts s (bB [59] :: K) X v r):j6 ts s K X v (r.bind λv s=>bJ ts v s):=by
 obtain⟨n,m,e,hd⟩:=h;rw[e,av];unfold bJ;rw[nz (s:=⟨n,_,_,m⟩) hd (x:=[59]) rfl,av];exact⟨n+1,m,rfl,aF (s:=⟨n,[],0,0⟩) hd⟩
def LG (l:List Tr.Nd)(b d:Nat->Nat)(p:Nat):Prop:=∀(ts:List Tok) (F f:Nat) (z:Int) (s:St) (K:List Tok) (g:Nat),p<f->l.length<=F->ts.drop s.nx=eU l F f p++K->(s.nd.length:Int)=(b p:Int)+z->s.op+d p<=41->10*(eU l F f p++K).length+2<=g ->
 (tJ K).s≠j4->j6 ts s K (bq l z (b p) (p+1)) [(p:Int)+z] (run ts g .stmt s)
theorem qp {l:List Tr.Nd}{b d:Nat->Nat}(h:lL l b d){ts:List Tok}{K:List Tok}{z:Int}{F f:Nat}(hF:l.length<=F){p:Nat}(hp:p<l.length)(hk:(ag l p).kd=6)(hpf:p<=f)(ih:∀q,q<p->dS (ag l q).kd=true->LG l b d q):∀(js:List Int) (a:Nat) (done:List Int) (s:St) (g:Nat),yx b js a p->(ag l p).ks=done++js->s.op+d p<=42 ->
  ts.drop s.nx=(js.map (eU l F f)).flatten++bB [125] :: K->(s.nd.length:Int)=(a:Int)+z->10*((js.map (eU l F f)).flatten++bB [125] :: K).length+4<=g ->
  vO ts s K (bq l z a (p+1)) [(p:Int)+z] (s.op-1) (run ts g (.stmts 0 (done.map (· + z))) s)
 | [],a,done,s,g,hc,hks,hop,hd,hlen,hg=>by
  obtain⟨g,rfl⟩:∃g',g=g'+1:=⟨g-1,by omega⟩;obtain rfl:a=p:=hc;have hd1:ts.drop s.nx=bB [125] :: K:=hd;show vO ts s K _ _ _ (fV ts (run ts g) 0 _ s);unfold fV;rw[eB hd1,if_pos (by decide),fin_at hd1 (x:=[125]) rfl,av];rw[List.append_nil]at hks;refine⟨s.nx+1,s.mo,?_,aF hd1⟩;unfold bC;rw[CL z hp,<- hks];have e1:(0:Int)=(ag l a).n:=(zU h.sh hp (by omega)).symm;have e2:[]=bu l a:=(gV h.sh hp (by omega)).symm;show Rs.ok [(s.nd.length:Int)] _=Rs.ok _ (⟨s.nx+1,s.nd++[⟨(ag l a).kd,(ag l a).n,0,bu l a,(ag l a).ks.map (· + z)⟩],s.op-1,s.mo⟩:St);rw[hlen,hk,<- e1,<- e2]
 |j :: js,a,done,s,g,hc,hks,hop,hd,hlen,hg=>by
  obtain⟨g,rfl⟩:∃g',g=g'+1:=⟨g-1,by omega⟩;obtain⟨m,rfl,h1,h2,h3,h4⟩:=hc;have hle:=h4.le;have hst:dS (ag l m).kd=true:=by
   obtain⟨k2,e,_,hk2⟩:=h.ok.bl p hp hk (m:Int) (by rw[hks];simp);rw[e];exact hk2
  have hdm:=h.deep hp (k:=m) (by rw[hks];simp);rw[List.map_cons,List.flatten_cons,List.append_assoc]at hd hg;have hft:=rJ h.sh (p:=m) (by omega) hst F f ((js.map (eU l F f)).flatten++bB [125] :: K) (by omega);show vO ts s K _ _ _ (fV ts (run ts g) 0 _ s);unfold fV sees;rw[rH hd,if_neg (by simpa using hft.1)];have hft2:(tJ ((js.map (eU l F f)).flatten++bB [125] :: K)).s≠j4:=by
   cases js with
   |nil=>show([125]:List UInt8)≠j4;decide
   |cons j2 js=>
    obtain⟨m2,rfl,_,_,h8,_⟩:=h4;rw[List.map_cons,List.flatten_cons,List.append_assoc];have hst2:dS (ag l m2).kd=true:=by
     obtain⟨k2,e,_,hk2⟩:=h.ok.bl p hp hk (m2:Int) (by rw[hks];simp);rw[e];exact hk2
    exact(rJ h.sh (p:=m2) (by omega) hst2 F f _ (by omega)).2.1
  rw[List.length_append]at hg;obtain⟨n1,m1,e1,hd2⟩:=ih m h3 hst ts F f z s _ g (by omega) hF hd (by rw[h1];exact hlen) (by omega) (by rw[List.length_append];omega) hft2;rw[e1,av];have hl2:(((s.nd++bq l z (b m) (m+1)).length:Nat):Int)=((m+1:Nat):Int)+z:=by
   rw[List.length_append,df z (by omega) (by omega)];omega
  have hpos:1<=(eU l F f (m:Int)).length:=by
   have:=hft;rcases hx:eU l F f (m:Int)with _ |⟨t,r⟩
   ·exfalso;have h9:=rJ h.sh (p:=m) (by omega) hst F f [bB [125]] (by omega);rw[hx]at h9;exact h9.1 rfl
   ·simp
  obtain⟨n2,m2,e2,hd3⟩:=qp h hF hp hk hpf ih js (m+1) (done++[(m:Int)]) ⟨n1,s.nd++bq l z (b m) (m+1),s.op,m1⟩ g h4 (by rw[hks,List.append_assoc];rfl) hop hd2 hl2 (by omega);refine⟨n2,m2,?_,hd3⟩;show run ts g (.stmts 0 (done.map (· + z)++[(m:Int)+z])) ⟨n1,s.nd++bq l z (b m) (m+1),s.op,m1⟩=_;rw[List.map_append]at e2;rw[show done.map (· + z)++[(m:Int)+z]=done.map (· + z)++[(m:Int)].map (· + z)from rfl,e2,h1];show Rs.ok _ (⟨n2,s.nd++bq l z a (m+1)++bq l z (m+1) (p+1),s.op-1,m2⟩:St)=_;rw[List.append_assoc s.nd,dO l z (by omega) (by omega)]
theorem rO (l:List Tr.Nd)(st:Int->List Tok)(p:Int):jL l st p []=bB [123] :: (((ag l p).ks.map st).flatten++[bB [125]]):=rfl
theorem kS {l:List Tr.Nd}{b d:Nat->Nat}(h:lL l b d){ts:List Tok}{K:List Tok}{z:Int}{F f:Nat}(hF:l.length<=F){p:Nat}(hp:p<l.length)(hk:(ag l p).kd=6)(hpf:p<=f)(ih:∀q,q<p->dS (ag l q).kd=true->LG l b d q)(s:St)(g:Nat)(hop:s.op+d p<=40)
  (hd:ts.drop s.nx=jL l (eU l F f) p []++K) (hlen:(s.nd.length:Int)=(b p:Int)+z) (hg:10*(jL l (eU l F f) p []++K).length<=g):j6 ts s K (bq l z (b p) (p+1)) [(p:Int)+z] (dm ts (run ts g) s):=by
 have hdp:=h.pos hp;have hlk:(jL l (eU l F f) p []).length=((ag l p).ks.map (eU l F f)).flatten.length+2:=by rw[rO];simp only[List.length_cons,List.length_append,List.length_nil]
 rw[List.length_append,hlk]at hg;rw[rO]at hd;simp only[List.cons_append,List.append_assoc,List.nil_append]at hd;unfold dm;simp only;rw[aY hd,ow hd (x:=[123]) rfl (by omega),av];obtain⟨n,m,e,hd2⟩:=qp h hF hp hk hpf ih (ag l p).ks (b p) [] ⟨s.nx+1,s.nd,s.op+1,max s.mo (s.op+1)⟩ g (jh h.st hp) rfl (by show s.op+1+d p<=42;omega) (aF hd) hlen (by simp only[List.length_append,List.length_cons];omega);refine⟨n,m,?_,hd2⟩;refine Eq.trans e ?_;show Rs.ok _ (⟨n,s.nd++bq l z (b p) (p+1),s.op+1-1,m⟩:St)=_;rw[Nat.add_sub_cancel]
theorem IK {l:List Tr.Nd}{b d:Nat->Nat}(h:lL l b d):∀p:Nat,p<l.length->dS (ag l p).kd=true->LG l b d p:=by
 intro p;induction p using Nat.strongRecOn with
 |_ p ih0=>
 intro hp hk ts F f z s K g hf hF hd hlen hop hg hK;have ih:∀q,q<p->dS (ag l q).kd=true->LG l b d q:=λq hq=>ih0 q hq (by omega)
 obtain⟨f,rfl⟩:∃f',f=f'+1:=⟨f-1,by omega⟩;obtain⟨g,rfl⟩:∃g',g=g'+1:=⟨g-1,by omega⟩;have hbp:=h.st.le p hp;rw[sM]at hd hg;show j6 ts s K _ _ (aO ts (run ts g) s);obtain⟨l7,l8,l9,l10,l11,l12,l13,l14,l15,l16,l17⟩:=IG l F p;have hlast:∀e:Int,(ag l p).kd=e->e≠11->e≠12->e≠16->ts.drop s.nx=zW l F p++bB [59] :: K/\10*((zW l F p).length+1+K.length)+2<=g+1:=λe he h1 h2 h3=>by
  rw[if_neg (by omega),if_neg (by omega),if_neg (by omega)]at hd hg;rw[List.append_assoc]at hd;refine⟨hd,?_⟩;simp only[List.length_append,List.length_cons,List.length_nil]at hg;omega
 have h0:(ag l p).n=0:=zU h.sh hp (by have:=mf hk;omega);have h91:(tJ (bB [59] :: K)).s≠[91]:=show([59]:List UInt8)≠[91]by decide
 have hr0:rowOf (tJ (bB [59] :: K)).s=0:=show rowOf [59]=0 by decide
 rcases mf hk with e |e |e |e |e |e |e |e |e |e |e
 ·obtain⟨hd,hg⟩:=hlast _ e (by decide) (by decide) (by decide);obtain⟨k,hks,hlt,hke⟩:=wN h hp (by omega);obtain⟨hb1,hb2⟩:=h.one hp hks;have hdk:=h.deep hp (k:=k) (by rw[hks];simp);rw[l7 e,aV hks]at hd hg;simp only[List.cons_append,List.length_cons]at hd hg;rw[vw (aY hd) rfl,rM hd];refine iI ?_;have hd2:ts.drop (ae (ae s)).nx=fG l F k++bB [59] :: K:=aF (s:=ae s) (aF hd);rw[LF (rH hd2) (yA h.sh h.ok.ex k (by omega) hke F _ (by omega)).1];obtain⟨n1,m1,e1,hd3⟩:=(gH h k (by omega) hke).2 ts F z (ae (ae s)) (bB [59] :: K) g (by omega) hd2 (by rw[hb1];exact hlen) (by show s.op+d k<=_;omega) (by simp only[List.length_append,List.length_cons];omega) h91 hr0;unfold a_;rw[e1,av];exact dZ h hp (s:=s) (s2:=⟨n1,s.nd++bq l z (b k) (k+1),s.op,m1⟩) hd3 (by rw[hb1,hb2]) rfl hlen e.symm h0.symm rfl (by rw[hks];rfl) rfl
 ·obtain⟨hd,hg⟩:=hlast _ e (by decide) (by decide) (by decide);obtain⟨k,j,hks,hlt,hlt2,hke,hje⟩:=Mt h hp e;obtain⟨hb1,hb2,hb3⟩:=h.two hp hks;have hdk:=h.deep hp (k:=k) (by rw[hks];simp);have hdj:=h.deep hp (k:=j) (by rw[hks];simp);have hkp:=h.pos (p:=k) (by omega);rw[l8 e,aV hks,dX hks]at hd hg;simp only[List.cons_append,List.length_cons,List.append_assoc,List.length_append]at hd hg;rw[vw (aY hd) rfl];have hd1:ts.drop (ae s).nx=bB [91] :: (fG l F k++bB [93] :: bB [61] :: (fG l F j++bB [59] :: K)):=aF hd;unfold d9;simp only;rw[jS hd rfl,av,eB hd1,if_pos (by decide),aY hd];unfold lv;rw[ow hd1 (x:=[91]) rfl (by show s.op<=39;omega),av];obtain⟨n1,m1,e1,hd3⟩:=(gH h k (by omega) hke).2 ts F z ⟨s.nx+1+1,s.nd,s.op+1,max s.mo (s.op+1)⟩ (bB [93] :: bB [61] :: (fG l F j++bB [59] :: K)) g (by omega) (aF hd1) (by rw[hb1];exact hlen) (by show s.op+1+d k<=_;omega) (by simp only[List.length_append,List.length_cons];omega) (show([93]:List UInt8)≠[91]by decide) (show rowOf [93]=0 by decide);unfold a_;show j6 ts s K _ _ (((((run ts g (.bin 1) ⟨s.nx+1+1,s.nd,s.op+1,max s.mo (s.op+1)⟩).bind λv s=>(jv ts [93] s).bind λ_ s =>.ok v s)).bind λi s=>(gJ ts [61] s).bind λ_ s=>(run ts g (.bin 1) s).bind λv s=>(bC 8 0 0 (bu l p) (i++v) s).bind λv s=>bJ ts v s));rw[e1,av];show j6 ts s K _ _ (((jv ts [93] ⟨n1,s.nd++bq l z (b k) (k+1),s.op+1,m1⟩).bind λ_ s =>.ok [(k:Int)+z] s).bind _)
  rw[fin_at (s:=⟨n1,_,_,_⟩) hd3 (x:=[93]) rfl,av,av];have hd4:ts.drop (n1+1)=bB [61] :: (fG l F j++bB [59] :: K):=aF (s:=⟨n1,[],0,0⟩) hd3;rw[nz (s:=⟨n1+1,_,_,_⟩) hd4 (x:=[61]) rfl,av];have hd5:ts.drop (n1+1+1)=fG l F j++bB [59] :: K:=aF (s:=⟨n1+1,[],0,0⟩) hd4;have hl2:(((s.nd++bq l z (b k) (k+1)).length:Nat):Int)=(b j:Int)+z:=by
   have:=h.st.le k (by omega);rw[List.length_append,df z (by omega) (by omega),hb2];omega
  obtain⟨n2,m2,e2,hd6⟩:=(gH h j (by omega) hje).2 ts F z ⟨n1+1+1,s.nd++bq l z (b k) (k+1),s.op+1-1,m1⟩ (bB [59] :: K) g (by omega) hd5 hl2 (by show s.op+1-1+d j<=_;omega) (by simp only[List.length_append,List.length_cons];omega) h91 hr0;show j6 ts s K _ _ ((run ts g (.bin 1) ⟨n1+1+1,s.nd++bq l z (b k) (k+1),s.op+1-1,m1⟩).bind _);rw[e2,av];refine iI ?_;exact dZ h hp (s:=s) (s2:=⟨n2,s.nd++bq l z (b k) (k+1)++bq l z (b j) (j+1),s.op+1-1,m2⟩) hd6 (by
   have:=h.st.le k (by omega);have:=h.st.le j (by omega);rw[List.append_assoc,hb1,hb2,dO l z (by omega) (by omega),hb3]) (by show s.op+1-1=s.op;omega) hlen e.symm h0.symm rfl (by rw[hks];rfl) rfl
 ·obtain⟨hd,hg⟩:=hlast _ e (by decide) (by decide) (by decide);obtain⟨k,hks,hlt,hke⟩:=Mv h hp e;obtain⟨hb1,hb2⟩:=h.one hp hks;rw[l9 e,aV hks]at hd;simp only[List.cons_append,List.nil_append]at hd;rw[vw (aY hd) rfl,rM hd];refine iI ?_;have hd2:ts.drop (ae (ae s)).nx=iP BH :: jq (bu l k) :: bB [59] :: K:=aF (s:=ae s) (aF hd);rw[LD (aY hd2) rfl];obtain⟨n1,m1,e1,hd3⟩:=sI h (p:=k) (s:=ae (ae (ae s))) (z:=z) (by omega) 18 (by omega) (by omega) (aF hd2) (by rw[hb1];exact hlen);rw[e1,av];exact dZ h hp (s:=s) (s2:=⟨n1,s.nd++bq l z (b k) (k+1),s.op,m1⟩) hd3 (by rw[hb1,hb2]) rfl hlen e.symm h0.symm rfl (by rw[hks];rfl) rfl
 ·obtain⟨hd,hg⟩:=hlast _ e (by decide) (by decide) (by decide);obtain⟨k,j,hks,hlt,hlt2,hke,hje⟩:=IA h hp e;obtain⟨hb1,hb2,hb3⟩:=h.two hp hks;have hdj:=h.deep hp (k:=j) (by rw[hks];simp);rw[l10 e,aV hks,dX hks]at hd hg;simp only[List.cons_append,List.length_cons]at hd hg;rw[LB (aY hd) rfl rfl];unfold lT;simp only;obtain⟨n1,m1,e1,hd3⟩:=sI h (p:=k) (s:=ae s) (z:=z) (by omega) 18 (by omega) (by omega) (aF hd) (by rw[hb1];exact hlen);rw[e1,av,aY hd];have hl2:(((s.nd++bq l z (b k) (k+1)).length:Nat):Int)=(b j:Int)+z:=by
   have:=h.st.le k (by omega);rw[List.length_append,df z (by omega) (by omega),hb2];omega
  obtain⟨n2,m2,e2,hd6⟩:=(gH h j (by omega) hje).2 ts F z ⟨n1,s.nd++bq l z (b k) (k+1),s.op,m1⟩ (bB [59] :: K) g (by omega) hd3 hl2 (by show s.op+d j<=_;omega) (by simp only[List.length_append,List.length_cons];omega) h91 hr0;unfold a_;show j6 ts s K _ _ ((run ts g (.bin 1) ⟨n1,s.nd++bq l z (b k) (k+1),s.op,m1⟩).bind _);rw[e2,av];refine iI ?_;exact dZ h hp (s:=s) (s2:=⟨n2,s.nd++bq l z (b k) (k+1)++bq l z (b j) (j+1),s.op,m2⟩) hd6 (by
   have:=h.st.le k (by omega);have:=h.st.le j (by omega);rw[List.append_assoc,hb1,hb2,dO l z (by omega) (by omega),hb3]) rfl hlen e.symm h0.symm (gV h.sh hp (by omega)).symm (by rw[hks];rfl) rfl
 ·
  rw[if_pos e]at hd hg;obtain⟨k,j,i,hks,hlt,hlt2,hlt3,hke,hj6,hi6⟩:=Bh h hp e;obtain⟨hb1,hb2,hb3,hb4⟩:=h.three hp hks;have hdk:=h.deep hp (k:=k) (by rw[hks];simp);have hdj:=h.deep hp (k:=j) (by rw[hks];simp);have hdi:=h.deep hp (k:=i) (by rw[hks];simp);have hbk:=h.st.le k (by omega);have hbj:=h.st.le j (by omega);have hbi:=h.st.le i (by omega);rw[l11 e,aV hks,dX hks,xL hks]at hd hg;have hlb:∀q:Int,2<=(jL l (eU l F f) q []).length:=λq=>by rw[rO];simp
  have hlj:=hlb j;simp only[List.cons_append,List.append_assoc]at hd;simp only[List.length_cons,List.length_append]at hg;rw[OI (aY hd) rfl rfl];unfold vX;simp only;rw[aY hd];obtain⟨n1,m1,e1,hd1⟩:=(gH h k (by omega) hke).2 ts F z (ae s) _ g (by omega) (aF hd) (by rw[hb1];exact hlen) (by show s.op+d k<=_;omega) (by simp only[List.length_append];omega) (show([123]:List UInt8)≠[91]by decide) (show rowOf [123]=0 by decide);unfold a_;rw[e1,av];have hl2:(((s.nd++bq l z (b k) (k+1)).length:Nat):Int)=(b j:Int)+z:=by
   rw[List.length_append,df z (by omega) (by omega),hb2];omega
  obtain⟨n2,m2,e2,hd2⟩:=kS h hF (p:=j) (by omega) hj6 (by omega) (λq hq=>ih q (by omega)) ⟨n1,s.nd++bq l z (b k) (k+1),s.op,m1⟩ g (by show s.op+d j<=40;omega) hd1 hl2 (by simp only[List.length_append];omega);show j6 ts s K _ _ ((dm ts (run ts g) ⟨n1,s.nd++bq l z (b k) (k+1),s.op,m1⟩).bind _);rw[e2,av];have hl3:(((s.nd++bq l z (b k) (k+1)++bq l z (b j) (j+1)).length:Nat):Int)=(b i:Int)+z:=by
   rw[List.length_append,List.length_append,df z (by omega) (by omega),df z (by omega) (by omega),hb3];omega
  have hall:s.nd++bq l z (b k) (k+1)++bq l z (b j) (j+1)++bq l z (b i) (i+1)=s.nd++bq l z (b p) p:=by
   rw[List.append_assoc,List.append_assoc,hb3,dO l z (by omega) (by omega),hb2,dO l z (by omega) (by omega),hb1,hb4]
  by_cases hi0:(ag l (i:Int)).ks=[]
  ·rw[if_pos hi0]at hd2;unfold sees;have hd3:ts.drop n2=K:=hd2;rw[rH (s:=⟨n2,_,_,m2⟩) hd3,if_neg (by simpa using hK)];obtain⟨n3,m3,e3,hd4⟩:=iH h (p:=i) (by omega) hi0 (s:=⟨n2,s.nd++bq l z (b k) (k+1)++bq l z (b j) (j+1),s.op,m2⟩) (s2:=⟨n2,s.nd++bq l z (b k) (k+1)++bq l z (b j) (j+1),s.op,m2⟩) (z:=z) hd3 rfl rfl hl3 hi6.symm (zU h.sh (p:=i) (by omega) (by omega)).symm (gV h.sh (p:=i) (by omega) (by omega)).symm rfl;show j6 ts s K _ _ ((bC 6 0 0 [] [] ⟨n2,s.nd++bq l z (b k) (k+1)++bq l z (b j) (j+1),s.op,m2⟩).bind _);rw[e3,av];exact dZ h hp (s:=s) (s2:=⟨n3,s.nd++bq l z (b k) (k+1)++bq l z (b j) (j+1)++bq l z (b i) (i+1),s.op,m3⟩) hd4 hall rfl hlen e.symm h0.symm (gV h.sh hp (by omega)).symm (by rw[hks];rfl) rfl
  ·rw[if_neg hi0]at hd2 hg;have hd3:ts.drop n2=iP j4 :: (jL l (eU l F f) i []++K):=by rw[hd2];rfl
   rw[eB (s:=⟨n2,_,_,m2⟩) hd3,if_pos (by decide)];have hli:=hlb i;simp only[List.length_cons]at hg;obtain⟨n3,m3,e3,hd4⟩:=kS h hF (p:=i) (by omega) hi6 (by omega) (λq hq=>ih q (by omega)) (ae ⟨n2,s.nd++bq l z (b k) (k+1)++bq l z (b j) (j+1),s.op,m2⟩) g (by show s.op+d i<=40;omega) (aF (s:=⟨n2,[],0,0⟩) hd3) hl3 (by simp only[List.length_append];omega);show j6 ts s K _ _ ((dm ts (run ts g) (ae ⟨n2,s.nd++bq l z (b k) (k+1)++bq l z (b j) (j+1),s.op,m2⟩)).bind _);rw[e3,av];exact dZ h hp (s:=s) (s2:=⟨n3,s.nd++bq l z (b k) (k+1)++bq l z (b j) (j+1)++bq l z (b i) (i+1),s.op,m3⟩) hd4 hall rfl hlen e.symm h0.symm (gV h.sh hp (by omega)).symm (by rw[hks];rfl) rfl
 ·
  rw[if_neg (by omega),if_pos e]at hd hg;obtain⟨k,j,hks,hlt,hlt2,hke,hj6⟩:=Bi h hp e;obtain⟨hb1,hb2,hb3⟩:=h.two hp hks;have hdk:=h.deep hp (k:=k) (by rw[hks];simp);have hdj:=h.deep hp (k:=j) (by rw[hks];simp);have hbk:=h.st.le k (by omega);have hbj:=h.st.le j (by omega);rw[l12 e,aV hks,dX hks]at hd hg;simp only[List.cons_append,List.append_assoc]at hd;simp only[List.length_cons,List.length_append]at hg;have hlj:2<=(jL l (eU l F f) (j:Int) []).length:=by rw[rO];simp
  rw[Eh (aY hd) rfl rfl];unfold h_;simp only;rw[aY hd];obtain⟨n1,m1,e1,hd1⟩:=(gH h k (by omega) hke).2 ts F z (ae s) _ g (by omega) (aF hd) (by rw[hb1];exact hlen) (by show s.op+d k<=_;omega) (by simp only[List.length_append];omega) (show([123]:List UInt8)≠[91]by decide) (show rowOf [123]=0 by decide);unfold a_;rw[e1,av];have hl2:(((s.nd++bq l z (b k) (k+1)).length:Nat):Int)=(b j:Int)+z:=by
   rw[List.length_append,df z (by omega) (by omega),hb2];omega
  obtain⟨n2,m2,e2,hd2⟩:=kS h hF (p:=j) (by omega) hj6 (by omega) (λq hq=>ih q (by omega)) ⟨n1,s.nd++bq l z (b k) (k+1),s.op,m1⟩ g (by show s.op+d j<=40;omega) hd1 hl2 (by simp only[List.length_append];omega);show j6 ts s K _ _ ((dm ts (run ts g) ⟨n1,s.nd++bq l z (b k) (k+1),s.op,m1⟩).bind _);rw[e2,av];exact dZ h hp (s:=s) (s2:=⟨n2,s.nd++bq l z (b k) (k+1)++bq l z (b j) (j+1),s.op,m2⟩) hd2 (by
   rw[List.append_assoc,hb1,hb2,dO l z (by omega) (by omega),hb3]) rfl hlen e.symm h0.symm (gV h.sh hp (by omega)).symm (by rw[hks];rfl) rfl
 ·
  obtain⟨hd,hg⟩:=hlast _ e (by decide) (by decide) (by decide);rw[l13 e]at hd hg;by_cases htx:bu l p=[]
  ·rw[if_pos htx,List.nil_append]at hd hg;have hd':ts.drop s.nx=iP dK :: (jq (bu l (aL l p 0)) :: (qm ((ag l p).ks.tail.map (fG l F))++bB [59] :: K)):=by rw[hd];simp only[List.cons_append,List.nil_append]
   rw[II (aY hd') rfl rfl];refine iI ?_;have:=wO h (K:=bB [59] :: K) (z:=z) (f:=F) hp e s g (by omega) hop hd hlen (by rw[List.length_append];simp only[List.length_cons];omega);rw[htx]at this;exact this
  ·rw[if_neg htx]at hd hg;have hd':ts.drop s.nx=jq (bu l p) :: bB [61] :: ([iP dK,jq (bu l (aL l p 0))]++qm ((ag l p).ks.tail.map (fG l F))++bB [59] :: K):=by rw[hd];simp only[List.cons_append,List.nil_append]
   simp only[List.length_append,List.length_cons,List.length_nil]at hg;rw[vw (aY hd') rfl,rM hd'];refine iI ?_;have hd2:ts.drop (ae (ae s)).nx=_:=aF (s:=ae s) (aF hd');rw[Ej (aY (t:=iP dK) hd2) rfl];exact wO h (K:=bB [59] :: K) (z:=z) (f:=F) hp e (ae (ae s)) g (by omega) hop hd2 hlen (by simp only[List.length_append,List.length_cons,List.length_nil];omega)
 ·
  obtain⟨hd,hg⟩:=hlast _ e (by decide) (by decide) (by decide);rw[l14 e]at hd hg;rcases IE h hp e with hks |⟨k,hks,hlt,hke⟩
  ·rw[hks]at hd;have hd':ts.drop s.nx=iP dL :: bB [59] :: K:=hd;rw[CQ (aY hd') rfl rfl];refine iI ?_;unfold cO;simp only;have hd2:ts.drop (ae s).nx=bB [59] :: K:=aF hd';rw[eB hd2,if_pos (by decide),aY hd'];exact iH h hp hks (s2:=ae s) hd2 rfl rfl hlen e.symm h0.symm (gV h.sh hp (by omega)).symm rfl
  ·obtain⟨hb1,hb2⟩:=h.one hp hks;have hdk:=h.deep hp (k:=k) (by rw[hks];simp);rw[hks]at hd hg;simp only[List.map_cons,List.map_nil,List.flatten_cons,List.flatten_nil,List.append_nil,List.cons_append,List.length_cons]at hd hg;rw[CQ (aY hd) rfl rfl];refine iI ?_;unfold cO;simp only;have hd2:ts.drop (ae s).nx=fG l F k++bB [59] :: K:=aF hd;have hft:=(yA h.sh h.ok.ex k (by omega) hke F (bB [59] :: K) (by omega)).1;unfold sees;rw[rH hd2,if_neg (by have:=hft.2.2.2.1;simpa using this),aY hd];obtain⟨n1,m1,e1,hd3⟩:=(gH h k (by omega) hke).2 ts F z (ae s) (bB [59] :: K) g (by omega) hd2 (by rw[hb1];exact hlen) (by show s.op+d k<=_;omega) (by simp only[List.length_append,List.length_cons];omega) h91 hr0;unfold a_;rw[e1,av];exact dZ h hp (s:=s) (s2:=⟨n1,s.nd++bq l z (b k) (k+1),s.op,m1⟩) hd3 (by rw[hb1,hb2]) rfl hlen e.symm h0.symm (gV h.sh hp (by omega)).symm (by rw[hks];rfl) rfl
 ·
  obtain⟨hd,hg⟩:=hlast _ e (by decide) (by decide) (by decide);obtain⟨k,hks,hlt,hke⟩:=wN h hp (by omega);obtain⟨hb1,hb2⟩:=h.one hp hks;have hdk:=h.deep hp (k:=k) (by rw[hks];simp);rw[l15 e,aV hks]at hd hg;simp only[List.cons_append,List.length_cons]at hd hg;rw[Ei (aY hd) rfl rfl];refine iI ?_;unfold iM;simp only;rw[aY hd];obtain⟨n1,m1,e1,hd3⟩:=(gH h k (by omega) hke).2 ts F z (ae s) (bB [59] :: K) g (by omega) (aF hd) (by rw[hb1];exact hlen) (by show s.op+d k<=_;omega) (by simp only[List.length_append,List.length_cons];omega) h91 hr0;unfold a_;rw[e1,av];exact dZ h hp (s:=s) (s2:=⟨n1,s.nd++bq l z (b k) (k+1),s.op,m1⟩) hd3 (by rw[hb1,hb2]) rfl hlen e.symm h0.symm (gV h.sh hp (by omega)).symm (by rw[hks];rfl) rfl
 ·
  rw[if_neg (by omega),if_neg (by omega),if_pos e]at hd hg;obtain⟨k,j,hks,hlt,hlt2,hk6,hj6⟩:=IB h hp e;obtain⟨hb1,hb2,hb3⟩:=h.two hp hks;have hdk:=h.deep hp (k:=k) (by rw[hks];simp);have hdj:=h.deep hp (k:=j) (by rw[hks];simp);have hbk:=h.st.le k (by omega);have hbj:=h.st.le j (by omega);rw[l16 e,aV hks,dX hks]at hd hg;simp only[List.cons_append,List.append_assoc,List.nil_append]at hd;simp only[List.length_cons,List.length_append,List.length_nil]at hg;rw[LC (aY hd) rfl rfl];unfold lU;simp only;rw[aY hd];obtain⟨n1,m1,e1,hd1⟩:=kS h hF (p:=k) (by omega) hk6 (by omega) (λq hq=>ih q (by omega)) (ae s) g (by show s.op+d k<=40;omega) (aF hd) (by rw[hb1];exact hlen) (by simp only[List.length_append,List.length_cons];omega);rw[e1,av];rw[nz (s:=⟨n1,_,_,m1⟩) hd1 (x:=mO) rfl,av];have hd2:ts.drop (n1+1)=jq (bu l p) :: (jL l (eU l F f) j []++K):=aF (s:=⟨n1,[],0,0⟩) hd1;have hd2':ts.drop (ae ⟨n1,(ae s).nd++bq l z (b k) (k+1),(ae s).op,m1⟩).nx=jq (bu l p) :: (jL l (eU l F f) j []++K):=hd2;rw[jS hd2' rfl,av,aY hd2'];have hl2:(((s.nd++bq l z (b k) (k+1)).length:Nat):Int)=(b j:Int)+z:=by
   rw[List.length_append,df z (by omega) (by omega),hb2];omega
  obtain⟨n2,m2,e2,hd3⟩:=kS h hF (p:=j) (by omega) hj6 (by omega) (λq hq=>ih q (by omega)) ⟨n1+1+1,s.nd++bq l z (b k) (k+1),s.op,m1⟩ g (by show s.op+d j<=40;omega) (aF (s:=⟨n1+1,[],0,0⟩) hd2) hl2 (by simp only[List.length_append];omega);show j6 ts s K _ _ ((dm ts (run ts g) ⟨n1+1+1,s.nd++bq l z (b k) (k+1),s.op,m1⟩).bind _);rw[e2,av];exact dZ h hp (s:=s) (s2:=⟨n2,s.nd++bq l z (b k) (k+1)++bq l z (b j) (j+1),s.op,m2⟩) hd3 (by
   rw[List.append_assoc,hb1,hb2,dO l z (by omega) (by omega),hb3]) rfl hlen e.symm h0.symm rfl (by rw[hks];rfl) rfl
 ·
  obtain⟨hd,hg⟩:=hlast _ e (by decide) (by decide) (by decide);obtain⟨k,hks,hlt,hke⟩:=wN h hp (by omega);obtain⟨hb1,hb2⟩:=h.one hp hks;have hdk:=h.deep hp (k:=k) (by rw[hks];simp);rw[l17 e,aV hks]at hd hg;simp only[List.cons_append,List.length_cons]at hd hg;rw[vw (aY hd) rfl,rM hd];refine iI ?_;have hd2:ts.drop (ae (ae s)).nx=iP tF :: (fG l F k++bB [59] :: K):=aF (s:=ae s) (aF hd);rw[IJ (aY hd2) rfl];obtain⟨n1,m1,e1,hd3⟩:=(gH h k (by omega) hke).2 ts F z (ae (ae (ae s))) (bB [59] :: K) g (by omega) (aF hd2) (by rw[hb1];exact hlen) (by show s.op+d k<=_;omega) (by simp only[List.length_append,List.length_cons];omega) h91 hr0;unfold a_;rw[e1,av];exact dZ h hp (s:=s) (s2:=⟨n1,s.nd++bq l z (b k) (k+1),s.op,m1⟩) hd3 (by rw[hb1,hb2]) rfl hlen e.symm h0.symm rfl (by rw[hks];rfl) rfl
end
section
open Go
open Tr (nth dS aI eY bz kV iU iq il yG qz eP iT ig rR kD aJ wU rQ gI)
theorem wP {ks:List Int}{f:Int->Int}{a b c:Int}(h:iq (ks.map f) a b c=true):∃us bs cs,ks=us++bs++cs/\(∀x ∈ us,f x=a)/\(∀x ∈ bs,f x=b)/\(if c=0 then cs=[] else ∃x,cs=[x]/\f x=c):=by
 have h1:∀x ∈ ks.take (il a (ks.map f)),f x=a:=λx hx=>ma a (ks.map f) _ (by rw[<- List.map_take];exact List.mem_map.2 ⟨x,hx,rfl⟩)
 have h2:∀x ∈ (ks.drop (il a (ks.map f))).take (il b ((ks.map f).drop (il a (ks.map f)))),f x=b:=λx hx=>ma b ((ks.map f).drop (il a (ks.map f))) _ (by rw[<- List.map_drop,<- List.map_take];exact List.mem_map.2 ⟨x,by rw[List.map_drop];exact hx,rfl⟩)
 refine⟨_,_,(ks.drop (il a (ks.map f))).drop (il b ((ks.map f).drop (il a (ks.map f)))),?_,h1,h2,?_⟩
 ·rw[List.append_assoc,List.take_append_drop,List.take_append_drop]
 ·unfold iq at h;have hr:qz (ks.map f) a b=il a (ks.map f)+il b ((ks.map f).drop (il a (ks.map f))):=rfl;rw[List.drop_drop,<- hr];split at h
  ·rename_i hc;rw[if_pos hc];have:=of_decide_eq_true h;rw[this,List.length_map,List.drop_length]
  ·rename_i hc;rw[if_neg hc];simp only[Bool.and_eq_true,decide_eq_true_eq]at h;obtain⟨h3,h4⟩:=h;rw[List.length_map]at h3;have hlt:qz (ks.map f) a b<ks.length:=by omega
   refine⟨ks[qz (ks.map f) a b],?_,?_⟩
   ·rw[List.drop_eq_getElem_cons hlt,List.drop_eq_nil_of_le (by omega)]
   ·rw[List.getD_eq_getElem?_getD,List.getElem?_eq_getElem (by rw[List.length_map];exact hlt)]at h4;simpa using h4
theorem zY {ks:List Int}{q:Int->Bool}(h:∀k ∈ ks,q k=true):ks.filter q=ks:=List.filter_eq_self.2 h
theorem oW {ks:List Int}{q:Int->Bool}(h:∀k ∈ ks,q k=false):ks.filter q=[]:=List.filter_eq_nil_iff.2 λk hk=>by rw[h k hk];simp
theorem El {l:List Tr.Nd}{b d:Nat->Nat}(h:lL l b d){ts:List Tok}{K:List Tok}{z:Int}{F:Nat}(hF:l.length<=F){p:Nat}(hp:p<l.length)(hk:(ag l p).kd=3)(s:St)(g:Nat)(hop:s.op+d p<=41)
  (hd:ts.drop s.nx=mF l F p++K) (hlen:(s.nd.length:Int)=(b p:Int)+z) (hg:10*(mF l F p++K).length<=g):j6 ts s K (bq l z (b p) (p+1)) [(p:Int)+z] (jc ts (run ts g) s):=by
 have hkid:=(bQ h.sh hp).kid;rw[hk]at hkid;have hkid2:iq (ic l p) 4 5 6=true:=hkid;obtain⟨us,bs,cs,hks,h4,h5,hc6⟩:=wP (f:=λk=>(ag l k).kd) hkid2;rw[if_neg (by decide)]at hc6;obtain⟨x,rfl,hx6⟩:=hc6;obtain⟨q,rfl,hq⟩:=bV h.ahead hp x (by rw[hks];simp);have hdq:=h.deep hp (k:=q) (by rw[hks];simp);have hqp:=h.pos (p:=q) (by omega);have hchn:=jh h.st hp;rw[hks]at hchn;obtain⟨e2,hcab,hcx⟩:=hchn.app;obtain⟨e1,hca,hcb⟩:=hcab.app;obtain⟨q',hqq,hx1,hx2,hx3,hx4⟩:=hcx;obtain rfl:q=q':=by omega
 have hx4:q+1=p:=hx4;have hle1:=hca.le;have hle2:=hcb.le;have hf4:(ag l p).ks.filter (λk=>(ag l k).kd==4)=us:=by
  rw[hks,List.filter_append,List.filter_append,zY (λk hk2=>by simp[h4 k hk2]),oW (λk hk2=>by simp[h5 k hk2]),oW (λk hk2=>by rw[List.mem_singleton.1 hk2];simp[hx6])];simp
 have hf5:(ag l p).ks.filter (λk=>(ag l k).kd==5)=bs:=by
  rw[hks,List.filter_append,List.filter_append,oW (ks:=us) (λk hk2=>by simp[h4 k hk2]),zY (ks:=bs) (λk hk2=>by simp[h5 k hk2]),oW (λk hk2=>by rw[List.mem_singleton.1 hk2];simp[hx6])];simp
 have hfl:(ag l p).ks.getLastD 0=(q:Int):=by rw[hks];simp
 have hn:0<=(ag l p).n/\(ag l p).n<=4:=by
  have:=(bQ h.sh hp).num;unfold eP at this;rw[if_neg (by omega),if_pos hk]at this;simpa using this
 have htoks:mF l F p++K=iP kH :: jq (bu l p) :: bB [40] :: (zV (us.map (oC l))++bB [41] :: ((if (ag l p).n=0 then [] else [iP (qN (ag l p).n)])++bB [123] :: ((bs.map (oD l)).flatten++(((ag l q).ks.map (eU l F F)).flatten++bB [125] :: K)))):=by
  unfold mF qm jL;rw[hf4,hf5,hfl];simp only[List.cons_append,List.append_assoc,List.nil_append]
 rw[htoks]at hd hg;simp only[List.length_cons,List.length_append]at hg;unfold jc;simp only;rw[nz hd (x:=kH) rfl,av];have hd1:ts.drop (ae s).nx=_:=aF hd;rw[jS hd1 rfl,av,aY hd,aY hd1];have hP:∃n m,fZ ts (run ts g) (ae (ae s))=.ok (us.map (· + z)) ⟨n,s.nd++bq l z (b p) e1,s.op,m⟩/\ts.drop n=(if (ag l p).n=0 then [] else [iP (qN (ag l p).n)])++bB [123] :: ((bs.map (oD l)).flatten++(((ag l q).ks.map (eU l F F)).flatten++bB [125] :: K)):=by
  have hd2:ts.drop (ae (ae s)).nx=_:=aF hd1;unfold fZ;rw[ow hd2 (x:=[40]) rfl (by show s.op<=39;omega),av];have hd3:ts.drop (ae (ae (ae s))).nx=_:=aF hd2;have hl0:(((ae (ae s)).nd.length:Nat):Int)=(b p:Int)+z:=hlen;cases us with
  |nil=>
   have hd4:ts.drop ((ae (ae s)).nx+1)=eD (([]:List Int).map (oC l))++bB [41] :: _:=hd3;rw[eB (s:=⟨(ae (ae s)).nx+1,_,_,_⟩) (t:=bB [41]) hd4,if_pos (by decide)];obtain⟨n,m,e3,hd5⟩:=oF h (z:=z) [] (b p) e1 [] ⟨(ae (ae s)).nx+1,(ae (ae s)).nd,(ae (ae s)).op+1,max (ae (ae s)).mo ((ae (ae s)).op+1)⟩ g hca (by omega) (λj hj=>by cases hj) hd4 hl0 (by simp only[List.length_append,List.length_cons,eD,List.map_nil,List.flatten_nil,List.length_nil]at hg |-;omega);refine⟨n,m,Eq.trans e3 ?_,hd5⟩;show Rs.ok _ (⟨n,s.nd++bq l z (b p) e1,s.op+1-1,m⟩:St)=_;rw[Nat.add_sub_cancel];rfl
  |cons j js=>
   obtain⟨m0,rfl,h7,h8,h9,h10⟩:=hca;have hle:=h10.le;rw[List.map_cons,oV,List.append_assoc]at hd3;have hd3':ts.drop ((ae (ae s)).nx+1)=jq (bu l m0) :: (iP (qN (ag l m0).n) :: _):=hd3;rw[List.map_cons,oV,List.length_append]at hg;rw[eB (s:=⟨(ae (ae s)).nx+1,_,_,_⟩) (t:=jq (bu l m0)) hd3',if_neg (by
    have:=sK (t:=jq (bu l m0)) (gG h.sh (p:=m0) (by omega) (by have:=h4 (m0:Int) (by simp);omega));have h11:=Iz (t:=jq (bu l m0)) (gG h.sh (p:=m0) (by omega) (by have:=h4 (m0:Int) (by simp);omega));simpa using h11.2.2.2.2.1)]
   unfold ib;rw[aY (s:=⟨(ae (ae s)).nx+1,_,_,_⟩) hd3'];obtain⟨n1,m1,e3,hd4⟩:=vv h (p:=m0) (s:=⟨(ae (ae s)).nx+1,(ae (ae s)).nd,(ae (ae s)).op+1,max (ae (ae s)).mo ((ae (ae s)).op+1)⟩) (z:=z) (by omega) 4 (h4 _ (by simp)) (by omega) hd3 (by rw[h7];exact hl0);show∃n m,(d_ ts 4 0 _).bind _=_/\_;rw[e3,av];have hl2:(((s.nd++bq l z (b m0) (m0+1)).length:Nat):Int)=((m0+1:Nat):Int)+z:=by
    rw[List.length_append,df z (by omega) (by omega)];omega
   obtain⟨n2,m2,e4,hd5⟩:=oF h (z:=z) js (m0+1) e1 [(m0:Int)+z] ⟨n1,s.nd++bq l z (b m0) (m0+1),s.op+1,m1⟩ g h10 (by omega) (λj hj=>h4 j (by simp[hj])) hd4 hl2 (by simp only[List.length_append,List.length_cons]at hg |-;omega);refine⟨n2,m2,Eq.trans e4 ?_,hd5⟩;show Rs.ok _ (⟨n2,s.nd++bq l z (b m0) (m0+1)++bq l z (m0+1) e1,s.op+1-1,m2⟩:St)=_;rw[List.append_assoc s.nd,h7,dO l z (by omega) (by omega),Nat.add_sub_cancel];rfl
 obtain⟨n1,m1,e3,hd2⟩:=hP;rw[e3,av];have hT:∃n2,(if sees ts [123] ⟨n1,s.nd++bq l z (b p) e1,s.op,m1⟩=true then Rs.ok [0] ⟨n1,s.nd++bq l z (b p) e1,s.op,m1⟩ else iB ts ⟨n1,s.nd++bq l z (b p) e1,s.op,m1⟩)=.ok [(ag l p).n] ⟨n2,s.nd++bq l z (b p) e1,s.op,m1⟩/\ts.drop n2=bB [123] :: ((bs.map (oD l)).flatten++(((ag l q).ks.map (eU l F F)).flatten++bB [125] :: K)):=by
  by_cases h0:(ag l p).n=0
  ·rw[if_pos h0]at hd2;have hd3:ts.drop n1=bB [123] :: _:=hd2;rw[eB (s:=⟨n1,_,_,_⟩) hd3,if_pos (by decide),h0];exact⟨n1,rfl,hd3⟩
  ·rw[if_neg h0]at hd2;have hd3:ts.drop n1=iP (qN (ag l p).n) :: _:=hd2;have h1n:1<=(ag l p).n:=by omega
   rw[eB (s:=⟨n1,_,_,_⟩) hd3,if_neg (by
    have:(ag l p).n=1\/(ag l p).n=2\/(ag l p).n=3\/(ag l p).n=4:=by omega
    rcases this with e |e |e |e<;>rw[e]<;>decide),CP (s:=⟨n1,_,_,_⟩) h1n hn.2 hd3]
   exact⟨n1+1,rfl,aF (s:=⟨n1,[],0,0⟩) hd3⟩
 obtain⟨n2,e4,hd3⟩:=hT;show j6 ts s K _ _ ((if sees ts [123] ⟨n1,s.nd++bq l z (b p) e1,s.op,m1⟩=true then Rs.ok [0] ⟨n1,s.nd++bq l z (b p) e1,s.op,m1⟩ else iB ts ⟨n1,s.nd++bq l z (b p) e1,s.op,m1⟩).bind _);rw[e4,av,aY (s:=⟨n2,_,_,_⟩) hd3,ow (s:=⟨n2,_,_,_⟩) hd3 (x:=[123]) rfl (by show s.op<=39;omega),av];have hl2:(((s.nd++bq l z (b p) e1).length:Nat):Int)=(e1:Int)+z:=by
  rw[List.length_append,df z (by omega) (by omega)];omega
 have hv:(tJ (((ag l q).ks.map (eU l F F)).flatten++bB [125] :: K)).s≠oZ:=by
  rcases hqk:(ag l (q:Int)).ks with _ |⟨j,js⟩
  ·show([125]:List UInt8)≠oZ;decide
  ·obtain⟨k2,rfl,hk1,hk2⟩:=h.ok.bl q (by omega) hx6 j (by rw[hqk];simp);rw[List.map_cons,List.flatten_cons,List.append_assoc];exact(rJ h.sh (p:=k2) (by omega) hk2 F F _ (by omega)).2.2
 have hd4:ts.drop (n2+1)=(bs.map (oD l)).flatten++(((ag l q).ks.map (eU l F F)).flatten++bB [125] :: K):=aF (s:=⟨n2,[],0,0⟩) hd3;obtain⟨n3,m3,e5,hd5⟩:=sJ h 5 (Or.inr rfl) (z:=z) hv bs e1 e2 [] ⟨n2+1,s.nd++bq l z (b p) e1,s.op+1,max m1 (s.op+1)⟩ g hcb (by omega) (λj hj=>h5 j hj) hd4 hl2 (by simp only[List.length_append,List.length_cons];omega);show j6 ts s K _ _ ((run ts g (.vars 5 []) ⟨n2+1,s.nd++bq l z (b p) e1,s.op+1,max m1 (s.op+1)⟩).bind _);rw[e5,av];have hl3:(((s.nd++bq l z (b p) e1++bq l z e1 e2).length:Nat):Int)=(b q:Int)+z:=by
  rw[List.length_append,List.length_append,df z (by omega) (by omega),df z (by omega) (by omega),hx1];omega
 obtain⟨n4,m4,e6,hd6⟩:=qp h hF (p:=q) (z:=z) (by omega) hx6 (by omega) (λk hk1 hk2=>IK h k (by omega) hk2) (ag l q).ks (b q) [] ⟨n3,s.nd++bq l z (b p) e1++bq l z e1 e2,s.op+1,m3⟩ g (jh h.st (by omega)) rfl (by show s.op+1+d q<=42;omega) hd5 hl3 (by simp only[List.length_append,List.length_cons];omega);show j6 ts s K _ _ ((run ts g (.stmts 0 ([].map (· + z))) ⟨n3,s.nd++bq l z (b p) e1++bq l z e1 e2,s.op+1,m3⟩).bind _);rw[e6,av];exact dZ h hp (s:=s) (s2:=⟨n4,s.nd++bq l z (b p) e1++bq l z e1 e2++bq l z (b q) (q+1),s.op+1-1,m4⟩) hd6 (by
  rw[List.append_assoc,List.append_assoc,hx1,dO l z (by omega) (by omega),dO l z (by omega) (by omega),hx4]) (by show s.op+1-1=s.op;omega) hlen hk.symm rfl rfl (by rw[hks];simp) rfl
theorem vz {l:List Tr.Nd}{b d:Nat->Nat}(h:lL l b d){ts:List Tok}{K:List Tok}{z:Int}{F:Nat}(hF:l.length<=F)(hK:(tJ K).s≠kH):∀(js:List Int) (a e:Nat) (acc:List Int) (s:St) (g:Nat),yx b js a e->e<=l.length->(∀j ∈ js,(ag l j).kd=3/\s.op+d j.toNat<=41) ->
  ts.drop s.nx=(js.map (mF l F)).flatten++K->(s.nd.length:Int)=(a:Int)+z->10*((js.map (mF l F)).flatten++K).length+1<=g->j6 ts s K (bq l z a e) (acc++js.map (· + z)) (run ts g (.procs acc) s)
 | [],a,e,acc,s,g,hc,he,hj,hd,hlen,hg=>by
  obtain⟨g,rfl⟩:∃g',g=g'+1:=⟨g-1,by omega⟩;obtain rfl:a=e:=hc;show j6 ts s K _ _ (f_ ts (run ts g) acc s);unfold f_ sees;rw[rH (K:=K) hd,if_neg (by simpa using hK)];exact⟨s.nx,s.mo,by rw[rG,List.append_nil,List.map_nil,List.append_nil],hd⟩
 |j :: js,a,e,acc,s,g,hc,he,hj,hd,hlen,hg=>by
  obtain⟨g,rfl⟩:∃g',g=g'+1:=⟨g-1,by omega⟩;obtain⟨m,rfl,h1,h2,h3,h4⟩:=hc;have hle:=h4.le;obtain⟨hj3,hjd⟩:=hj _ List.mem_cons_self;rw[Int.toNat_natCast]at hjd;rw[List.map_cons,List.flatten_cons,List.append_assoc]at hd hg;have hpos:∃r,mF l F (m:Int)=iP kH :: r:=by unfold mF;exact⟨_,rfl⟩
  obtain⟨r,hr⟩:=hpos;have hd1:ts.drop s.nx=iP kH :: (r++((js.map (mF l F)).flatten++K)):=by rw[hd,hr];rfl
  show j6 ts s K _ _ (f_ ts (run ts g) acc s);unfold f_;rw[eB hd1,if_pos (by decide)];obtain⟨n1,m1,e1,hd2⟩:=El h hF (p:=m) (z:=z) (by omega) hj3 s g hjd hd (by rw[h1];exact hlen) (by omega);rw[e1,av];have hl2:(((s.nd++bq l z (b m) (m+1)).length:Nat):Int)=((m+1:Nat):Int)+z:=by
   rw[List.length_append,df z (by omega) (by omega)];omega
  have hlr:1<=(mF l F (m:Int)).length:=by rw[hr];simp
  obtain⟨n2,m2,e2,hd3⟩:=vz h hF hK js (m+1) e (acc++[(m:Int)+z]) ⟨n1,s.nd++bq l z (b m) (m+1),s.op,m1⟩ g h4 he (λj hj2=>hj j (List.mem_cons_of_mem _ hj2)) hd2 hl2 (by rw[List.length_append]at hg |-;rw[List.length_append]at hg;omega);refine⟨n2,m2,?_,hd3⟩;show run ts g (.procs (acc++[(m:Int)+z])) ⟨n1,s.nd++bq l z (b m) (m+1),s.op,m1⟩=_;rw[e2,h1];show Rs.ok _ (⟨n2,s.nd++bq l z a (m+1)++bq l z (m+1) e,s.op,m2⟩:St)=_;rw[List.append_assoc s.nd,dO l z (by omega) (by omega),List.map_cons,List.append_assoc acc];rfl
theorem Em {l:List Tr.Nd}{b d:Nat->Nat}(h:lL l b d){F:Nat}(hF:l.length<=F)(h1:1<=l.length)(h0:b (l.length-1)=0)(hk:(ag l ((l.length-1:Nat):Int)).kd=1)(hdeep:d (l.length-1)<=42) :
  ∃n m,jd (vo l F ((l.length-1:Nat):Int)++[eT])=.ok [((l.length-1:Nat):Int)] ⟨n,l.map (O9 0),0,m⟩:=by
 have hp:l.length-1<l.length:=by omega
 have hkid:=(bQ h.sh hp).kid;rw[hk]at hkid;have hkid2:iq (ic l ((l.length-1:Nat):Int)) 2 3 0=true:=hkid;obtain⟨us,bs,cs,hks,h2,h3,hc⟩:=wP (f:=λk=>(ag l k).kd) hkid2;rw[if_pos rfl]at hc;subst hc;rw[List.append_nil]at hks;have hchn:=jh h.st hp;rw[hks,h0]at hchn;obtain⟨e1,hca,hcb⟩:=hchn.app;have hle1:=hca.le;have hle2:=hcb.le;have htoks:vo l F ((l.length-1:Nat):Int)++[eT]=(us.map (oD l)).flatten++((bs.map (mF l F)).flatten++[eT]):=by
  unfold vo;rw[hks,List.map_append,List.flatten_append,List.append_assoc];congr 1
  ·congr 1;exact List.map_congr_left λk hk2=>if_pos (h2 k hk2)
  ·congr 2;exact List.map_congr_left λk hk2=>if_neg (by rw[h3 k hk2];decide)
 unfold jd bT;have hd:(vo l F ((l.length-1:Nat):Int)++[eT]).drop st0.nx=(us.map (oD l)).flatten++((bs.map (mF l F)).flatten++[eT]):=htoks;have hlen0:((st0.nd.length:Nat):Int)=((0:Nat):Int)+0:=rfl;have hg:steps (vo l F ((l.length-1:Nat):Int)++[eT])=10*((us.map (oD l)).flatten++((bs.map (mF l F)).flatten++[eT])).length+10:=by unfold steps;rw[htoks]
 have hv:(tJ ((bs.map (mF l F)).flatten++[eT])).s≠oZ:=by
  cases bs with
  |nil=>show([]:List UInt8)≠oZ;decide
  |cons j js=>
   show(tJ ((mF l F j++_)++[eT])).s≠oZ;unfold mF;show kH≠oZ;decide
 obtain⟨n1,m1,e2,hd1⟩:=sJ h 2 (Or.inl rfl) (z:=0) hv us 0 e1 [] st0 (steps (vo l F ((l.length-1:Nat):Int)++[eT])) hca (by omega) (λj hj=>h2 j hj) hd hlen0 (by rw[hg];omega);rw[e2,av];have hl2:(((st0.nd++bq l 0 0 e1).length:Nat):Int)=(e1:Int)+0:=by
  rw[List.length_append,df 0 (by omega) (by omega)];show((0+(e1-0):Nat):Int)=_;omega
 obtain⟨n2,m2,e3,hd2⟩:=vz h hF (z:=0) (K:=[eT]) (show([]:List UInt8)≠kH by decide) bs e1 (l.length-1) ([]++us.map (· + 0)) ⟨n1,st0.nd++bq l 0 0 e1,st0.op,m1⟩ (steps (vo l F ((l.length-1:Nat):Int)++[eT])) hcb (by omega) (λj hj=>by
  obtain⟨k2,rfl,hk2⟩:=bV h.ahead hp j (by rw[hks];simp[hj])
  have:=h.deep hp (k:=k2) (by rw[hks];simp[hj])
  rw[Int.toNat_natCast]
  exact⟨h3 _ hj,by show 0+d k2<=41;omega⟩) hd1 hl2 (by rw[hg];simp only[List.length_append];omega)
 rw[e3,av];unfold mM;rw[aY (s:=⟨n2,_,_,m2⟩) hd2,if_pos (show eT.k=5 from rfl),av];have hG:=dZ h hp (s:=st0) (ts:=vo l F ((l.length-1:Nat):Int)++[eT]) (s2:=⟨n2,st0.nd++bq l 0 0 e1++bq l 0 e1 (l.length-1),st0.op,m2⟩) (z:=0) (kd:=1) (n:=0) (pl:=0) (tx:=[]) (ks:=[]++us.map (· + 0)++bs.map (· + 0)) hd2 (by
  rw[List.append_assoc,h0,dO l 0 (by omega) (by omega)]) rfl (by rw[h0];rfl) hk.symm (zU h.sh hp (by omega)).symm (gV h.sh hp (by omega)).symm (by rw[hks];simp) rfl
 obtain⟨n3,m3,e4,_⟩:=hG;refine⟨n3,m3,?_⟩;show bC 1 0 0 [] _ ⟨n2,st0.nd++bq l 0 0 e1++bq l 0 e1 (l.length-1),st0.op,m2⟩=_;rw[e4,h0];have:st0.nd++bq l 0 0 (l.length-1+1)=l.map (O9 0):=by
  show[]++_=_;rw[List.nil_append,show l.length-1+1=l.length by omega];unfold bq;rw[List.drop_zero,Nat.sub_zero,List.take_length]
 rw[this];simp[st0]
end
end
end Go.Proofs.YteecfjhjllajlaaGreatDoor
