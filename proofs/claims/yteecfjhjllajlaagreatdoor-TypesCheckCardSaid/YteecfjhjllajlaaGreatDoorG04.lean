/- PROVED: Pc. No more condition. -/
import Derived.Test.YteecfjhjllajlaaGreatDoorG02
namespace Go.Proofs.YteecfjhjllajlaaGreatDoor
structure Tok where
 k:Nat
 n:Int
 p:Nat
 s:List UInt8
deriving DecidableEq,Repr
structure Nd where
 kd:Int
 n:Int
 pl:Int
 tx:List UInt8
 ks:List Int
deriving DecidableEq,Repr
structure St where
 nx:Nat
 nd:List Nd
 op:Nat
 mo:Nat
deriving DecidableEq,Repr
inductive Rs where
 |out
 |no (p:Nat) (e:Nat)
 |ok (v:List Int) (s:St)
deriving DecidableEq,Repr
def Rs.bind (r:Rs)(f:List Int->St->Rs):Rs:=
 match r with
 | .out =>.out
 | .no p e =>.no p e
 | .ok v s=>f v s
theorem Rs.bind_ok {r:Rs}{f:List Int->St->Rs}{v:List Int}{s:St}(h:r.bind f=.ok v s):∃v' s',r=.ok v' s'/\f v' s' = .ok v s:=by
 cases r with
 |out=>cases h
 |no p e=>cases h
 |ok v' s'=>exact⟨v',s',rfl,h⟩
theorem Rs.bind_in {r:Rs}{f:List Int->St->Rs}(h:r.bind f ≠ .out):r ≠ .out:=λe=>h (by rw[e];rfl)
section
variable (ts:List Tok)
def ai (s:St):Tok:=ts.getD s.nx ⟨5,0,0,[]⟩
def sees (x:List UInt8)(s:St):Bool:=(ai ts s).s==x
def ax (s:St):St := {s with nx:=s.nx+1}
def iZ (x:List UInt8)(s:St):Rs:=if sees ts x s=true then .ok [] (ax s) else .no (ai ts s).p 2
def gP (s:St):Rs:=if (ai ts s).k=1 then .ok [] (ax s) else .no (ai ts s).p 2
def qm (s:St):Rs:=if (ai ts s).k=5 then .ok [] s else .no (ai ts s).p 2
def ja (x:List UInt8)(s:St):Rs:=
 if sees ts x s=true/\s.op=40 then .no (ai ts s).p 6 else (iZ ts x s).bind λ_ s =>.ok [] {s with op:=s.op+1,mo:=max s.mo (s.op+1)}
def ll (x:List UInt8)(s:St):Rs:=(iZ ts x s).bind λ_ s =>.ok [] {s with op:=s.op-1}
def bX (kd n pl:Int)(tx:List UInt8)(ks:List Int)(s:St):Rs :=.ok [(s.nd.length:Int)] {s with nd:=s.nd++[⟨kd,n,pl,tx,ks⟩]}
end
def BQ:List UInt8:=[118,97,114]
def tK:List UInt8:=[112,114,111,99]
def Kr:List UInt8:=[105,110,116]
def He:List UInt8:=[98,111,111,108]
def Kt:List UInt8:=[97,114,114]
def Ku:List UInt8:=[102,117,110]
def Kj:List UInt8:=[105,110]
def sJ:List UInt8:=[111,117,116]
def Fa:List UInt8:=[105,102]
def v_:List UInt8:=[101,108,115,101]
def lm:List UInt8:=[119,104,105,108,101]
def jb:List UInt8:=[99,97,108,108]
def l_:List UInt8:=[114,101,116,117,114,110]
def qP:List UInt8:=[116,104,114,111,119]
def Fb:List UInt8:=[116,114,121]
def yj:List UInt8:=[99,97,116,99,104]
def Fe:List UInt8:=[110,101,119]
def Ar:List UInt8:=[108,101,110]
def gu:List UInt8:=[116,114,117,101]
def ky:List UInt8:=[102,97,108,115,101]
def typeOf (x:List UInt8):Nat:=if x=Kr then 1 else if x=He then 2 else if x=Kt then 3 else if x=Ku then 4 else 0
def rowOf (x:List UInt8):Nat:=
 if x=[124,124] then 1 else if x=[38,38] then 2
 else if x=[61,61]\/x=[33,61]\/x=[60]\/x=[60,61]\/x=[62]\/x=[62,61] then 3
 else if x=[43]\/x=[45] then 4 else if x=[42]\/x=[47]\/x=[37] then 5 else 0
inductive oW where
 |una
 |bin (r:Nat)
 |loop (r:Nat) (left:List Int)
 |exprs (acc:List Int)
 |stmt
 |stmts (pl:Int) (acc:List Int)
 |vars (kd:Nat) (acc:List Int)
 |params (acc:List Int)
 |procs (acc:List Int)
section
variable (ts:List Tok) (rec:oW->St->Rs)
def bT (s:St):Rs:=rec (.bin 1) s
def nQ (s:St):Rs:=(ja ts [91] s).bind λ_ s=>(bT rec s).bind λv s=>(ll ts [93] s).bind λ_ s =>.ok v s
def iJ (kd:Nat)(s:St):Rs:=let t:=ai ts s;(gP ts s).bind λ_ s=>bX kd 0 t.p t.s [] s
def jS (s:St):Rs:=let t:=ai ts s;(gP ts s).bind λ_ s=>if sees ts [91] s=true then (nQ ts rec s).bind λv s=>bX 23 0 t.p t.s v s else bX 22 0 t.p t.s [] s
def jB (s:St):Rs:=let t:=ai ts s;(ja ts t.s s).bind λ_ s=>(rec .una s).bind λv s=>bX 26 0 t.p t.s v {s with op:=s.op-1}
def jC (kd:Nat)(s:St):Rs:=let t:=ai ts s;let s:=ax s;let u:=ai ts s;(gP ts s).bind λ_ s=>bX kd 0 t.p u.s [] s
def bq (s:St):Rs:=
 let t:=ai ts s
 if t.k=1 then jS ts rec s
 else if t.k=2 then bX 20 t.n t.p [] [] (ax s)
 else if t.s=[45]\/t.s=[33] then jB ts rec s
 else if t.s=gu\/t.s=ky then bX 21 (if t.s=gu then 1 else 0) t.p [] [] (ax s)
 else if t.s=Ar then jC ts 24 s
 else if t.s=[38] then jC ts 25 s
 else if t.s=[40] then (ja ts [40] s).bind λ_ s=>(bT rec s).bind λv s=>(ll ts [41] s).bind λ_ s =>.ok v s
 else .no t.p 2
def lq (r:Nat)(s:St):Rs:=if 5<r then rec .una s else (rec (.bin (r+1)) s).bind λv s=>rec (.loop r v) s
def nR (r:Nat)(left:List Int)(s:St):Rs:=
 let t:=ai ts s
 if rowOf t.s=r then (rec (.bin (r+1)) (ax s)).bind λv s=>(bX 27 0 t.p t.s (left++v) s).bind λv s=>rec (.loop r v) s else .ok left s
def jc (acc:List Int)(s:St):Rs:=
 if sees ts [44] s=true then (bT rec (ax s)).bind λv s=>rec (.exprs (acc++v)) s else (ll ts [41] s).bind λ_ s =>.ok acc s
def lu (s:St):Rs:=(ja ts [40] s).bind λ_ s=>if sees ts [41] s=true then rec (.exprs []) s else (bT rec s).bind λv s=>rec (.exprs v) s
def jd (tx:List UInt8)(pl:Int)(s:St):Rs:=(iZ ts jb s).bind λ_ s=>(iJ ts 19 s).bind λv s=>(lu ts rec s).bind λvs s=>bX 13 0 pl tx (v++vs) s
def fU (s:St):Rs:=let t:=ai ts s;(ja ts [123] s).bind λ_ s=>rec (.stmts t.p []) s
def kC (pl:Int)(acc:List Int)(s:St):Rs:=if sees ts [125] s=true then (ll ts [125] s).bind λ_ s=>bX 6 0 pl [] acc s else (rec .stmt s).bind λv s=>rec (.stmts pl (acc++v)) s
def dL (v:List Int)(s:St):Rs:=(iZ ts [59] s).bind λ_ s =>.ok v s
def dB (t:Tok)(s:St):Rs:=
 let x:=(ai ts s).s
 if x=Kj then (iJ ts 18 (ax s)).bind λv s=>bX 9 0 t.p t.s v s
 else if x=jb then jd ts rec t.s t.p s
 else if x=Fe then (bT rec (ax s)).bind λv s=>bX 17 0 t.p t.s v s
 else (bT rec s).bind λv s=>bX 7 0 t.p t.s v s
def gV (s:St):Rs:=
 let t:=ai ts s
 (gP ts s).bind λ_ s=>if sees ts [91] s=true
  then (nQ ts rec s).bind λi s=>(iZ ts [61] s).bind λ_ s=>(bT rec s).bind λv s=>(bX 8 0 t.p t.s (i++v) s).bind λv s=>dL ts v s
  else (iZ ts [61] s).bind λ_ s=>(dB ts rec t s).bind λv s=>dL ts v s
def o9 (s:St):Rs:=let t:=ai ts s;(iJ ts 18 (ax s)).bind λc s=>(bT rec s).bind λv s=>(bX 10 0 t.p [] (c++v) s).bind λv s=>dL ts v s
def Au (s:St):Rs:=
 let t:=ai ts s
 (bT rec (ax s)).bind λc s=>(fU ts rec s).bind λa s=>if sees ts v_ s=true
  then (fU ts rec (ax s)).bind λb s=>bX 11 0 t.p [] (c++a++b) s
  else (bX 6 0 t.p [] [] s).bind λb s=>bX 11 0 t.p [] (c++a++b) s
def kD (s:St):Rs:=let t:=ai ts s;(bT rec (ax s)).bind λc s=>(fU ts rec s).bind λa s=>bX 12 0 t.p [] (c++a) s
def fe (s:St):Rs:=let t:=ai ts s;let s:=ax s;if sees ts [59] s=true then bX 14 0 t.p [] [] s else (bT rec s).bind λv s=>bX 14 0 t.p [] v s
def lw (s:St):Rs:=let t:=ai ts s;(bT rec (ax s)).bind λv s=>bX 15 0 t.p [] v s
def o_ (s:St):Rs:=let t:=ai ts s;(fU ts rec (ax s)).bind λa s=>(iZ ts yj s).bind λ_ s=>let u:=ai ts s;(gP ts s).bind λ_ s=>(fU ts rec s).bind λb s=>bX 16 0 t.p u.s (a++b) s
def aK (s:St):Rs:=
 let t:=ai ts s
 if t.k=1 then gV ts rec s
 else if t.s=sJ then o9 ts rec s
 else if t.s=Fa then Au ts rec s
 else if t.s=lm then kD ts rec s
 else if t.s=jb then (jd ts rec [] t.p s).bind λv s=>dL ts v s
 else if t.s=l_ then (fe ts rec s).bind λv s=>dL ts v s
 else if t.s=qP then (lw ts rec s).bind λv s=>dL ts v s
 else if t.s=Fb then o_ ts rec s
 else .no t.p 2
def kT (s:St):Rs:=let n:=typeOf (ai ts s).s;if n=0 then .no (ai ts s).p 2 else .ok [(n:Int)] (ax s)
def iF (kd:Nat)(pl:Int)(s:St):Rs:=let t:=ai ts s;(gP ts s).bind λ_ s=>(kT ts s).bind λn s=>bX kd (n.headD 0) pl t.s [] s
def nS (kd:Nat)(acc:List Int)(s:St):Rs:=
 if sees ts BQ s=true then (iF ts kd (ai ts s).p (ax s)).bind λv s=>(iZ ts [59] s).bind λ_ s=>rec (.vars kd (acc++v)) s else .ok acc s
def kE (s:St):Rs:=iF ts 4 (ai ts s).p s
def gG (acc:List Int)(s:St):Rs:=
 if sees ts [44] s=true then (kE ts (ax s)).bind λv s=>rec (.params (acc++v)) s else (ll ts [41] s).bind λ_ s =>.ok acc s
def je (s:St):Rs:=(ja ts [40] s).bind λ_ s=>if sees ts [41] s=true then rec (.params []) s else (kE ts s).bind λv s=>rec (.params v) s
def kU (s:St):Rs:=
 let t:=ai ts s
 (iZ ts tK s).bind λ_ s=>let u:=ai ts s;(gP ts s).bind λ_ s=>(je ts rec s).bind λps s=>
  (if sees ts [123] s=true then .ok [0] s else kT ts s).bind λn s=>let b:=ai ts s;(ja ts [123] s).bind λ_ s=>
   (rec (.vars 5 []) s).bind λvs s=>(rec (.stmts b.p []) s).bind λbl s=>bX 3 (n.headD 0) t.p u.s (ps++vs++bl) s
def kF (acc:List Int)(s:St):Rs:=if sees ts tK s=true then (kU ts rec s).bind λv s=>rec (.procs (acc++v)) s else .ok acc s
def dI (s:St):Rs:=(rec (.vars 2 []) s).bind λvs s=>(rec (.procs vs) s).bind λps s=>(qm ts s).bind λ_ s=>bX 1 0 0 [] ps s
end
def run (ts:List Tok):Nat->oW->St->Rs
 |0,_,_ =>.out
 |f+1,j,s=>match j with
  | .una=>bq ts (run ts f) s
  | .bin r=>lq (run ts f) r s
  | .loop r l=>nR ts (run ts f) r l s
  | .exprs a=>jc ts (run ts f) a s
  | .stmt=>aK ts (run ts f) s
  | .stmts p a=>kC ts (run ts f) p a s
  | .vars k a=>nS ts (run ts f) k a s
  | .params a=>gG ts (run ts f) a s
  | .procs a=>kF ts (run ts f) a s
structure nT (ts:List Tok):Prop where
 pos:0<ts.length
 text:∀i (h:i<ts.length),i+1<ts.length->ts[i].s≠[]
 kind:∀i (h:i<ts.length),i+1<ts.length->ts[i].k≠5
 lastS:∀h:ts.length-1<ts.length,ts[ts.length-1].s=[]
 lastK:∀h:ts.length-1<ts.length,ts[ts.length-1].k=5
theorem uL {ts:List Tok}{s:St}(h:s.nx<ts.length):ai ts s=ts[s.nx]:=by unfold ai;simp[List.getD,h]
theorem Ff {ts:List Tok}{s:St}(h:s.nx<ts.length):ai ts s ∈ ts:=by rw[uL h];exact List.getElem_mem _
theorem nT.more {ts:List Tok}(ht:nT ts){s:St}(h:s.nx<ts.length)(hs:(ai ts s).s≠[]):s.nx+1<ts.length:=by
 by_cases e:s.nx+1=ts.length
 ·exfalso;apply hs;rw[uL h];have:=ht.lastS (by omega);have e2:ts.length-1=s.nx:=by omega
  simp only[e2]at this;exact this
 ·omega
theorem nT.moreK {ts:List Tok}(ht:nT ts){s:St}(h:s.nx<ts.length)(hs:(ai ts s).k≠5):s.nx+1<ts.length:=by
 by_cases e:s.nx+1=ts.length
 ·exfalso;apply hs;rw[uL h];have:=ht.lastK (by omega);have e2:ts.length-1=s.nx:=by omega
  simp only[e2]at this;exact this
 ·omega
def aS (ts:List Tok)(o:Prop)(s:St)(m n:Nat):Rs->Prop
 | .out=>o
 | .no p e=>(∃t ∈ ts,t.p=p)/\(e=2\/e=6)
 | .ok _ s'=>s.nx+m<=s'.nx/\s'.nx<ts.length/\s'.op=n
theorem aS.bind {ts:List Tok}{o:Prop}{s:St}{m n m2 n2:Nat}{r:Rs}{f:List Int->St->Rs}(h:aS ts o s m n r)(k:∀v s',s.nx+m<=s'.nx->s'.nx<ts.length->s'.op=n->aS ts o s' m2 n2 (f v s'))(m3:Nat)(hm:m3<=m+m2):aS ts o s m3 n2 (r.bind f):=by
 cases r with
 |out=>exact h
 |no p e=>exact h
 |ok v s'=>
  have h2:=k v s' h.1 h.2.1 h.2.2;show aS ts o s m3 n2 (f v s');cases hf:f v s' with
  |out=>rw[hf]at h2;exact h2
  |no p e=>rw[hf]at h2;exact h2
  |ok v2 s2=>rw[hf]at h2;exact⟨by have:=h.1;have:=h2.1;omega,h2.2.1,h2.2.2⟩
theorem aS.weak {ts:List Tok}{o:Prop}{s:St}{m m' n:Nat}{r:Rs}(h:aS ts o s m n r)(hm:m'<=m):aS ts o s m' n r:=by
 cases r with
 |out=>exact h
 |no p e=>exact h
 |ok v s'=>exact⟨by have:=h.1;omega,h.2.1,h.2.2⟩
section
variable {ts:List Tok} {o:Prop} {s:St} (h:s.nx<ts.length)
include h
theorem fq (v:List Int):aS ts o s 0 s.op (.ok v s):=⟨Nat.le_refl _,h,rfl⟩
theorem qQ (e:Nat)(he:e=2\/e=6)(m n:Nat):aS ts o s m n (.no (ai ts s).p e):=⟨⟨_,Ff h,rfl⟩,he⟩
theorem cB (kd n pl:Int)(tx:List UInt8)(ks:List Int):aS ts o s 0 s.op (bX kd n pl tx ks s):=⟨Nat.le_refl _,h,rfl⟩
theorem Iy:aS ts o s 0 s.op (qm ts s):=by
 unfold qm;split
 ·exact fq h _
 ·exact qQ h 2 (.inl rfl) _ _
variable (ht:nT ts)
include ht
theorem df {m n:Nat}{r:Rs}(hs:(ai ts s).k≠5\/(ai ts s).s≠[])(k:(ax s).nx<ts.length->aS ts o (ax s) m n r):aS ts o s (m+1) n r:=by
 have hl:s.nx+1<ts.length:=by
  rcases hs with q |q
  ·exact ht.moreK h q
  ·exact ht.more h q
 have h2:=k hl;cases r with
 |out=>exact h2
 |no p e=>exact h2
 |ok v s'=>exact⟨by have:=h2.1;have e:(ax s).nx=s.nx+1:=rfl;omega,h2.2.1,h2.2.2⟩
theorem kG (x:List UInt8)(hx:x≠[]):aS ts o s 1 s.op (iZ ts x s):=by
 unfold iZ;split
 ·rename_i q;have e:(ai ts s).s=x:=by simpa [sees]using q
  exact df (m:=0) h ht (.inr (by rw[e];exact hx)) (λhl=>fq hl _)
 ·exact qQ h 2 (.inl rfl) _ _
theorem kH:aS ts o s 1 s.op (gP ts s):=by
 unfold gP;split
 ·rename_i q;exact df (m:=0) h ht (.inl (by rw[q];decide)) (λhl=>fq hl _)
 ·exact qQ h 2 (.inl rfl) _ _
theorem lC (x:List UInt8)(hx:x≠[]):aS ts o s 1 (s.op+1) (ja ts x s):=by
 unfold ja;split
 ·exact qQ h 6 (.inr rfl) _ _
 ·refine aS.bind (m2:=0) (n2:=s.op+1) (kG h ht x hx) (λv s' h1 h2 h3 =>?_) 1 (by omega);exact⟨Nat.le_refl _,h2,by show s'.op+1=s.op+1;rw[h3]⟩
theorem qR (x:List UInt8)(hx:x≠[]):aS ts o s 1 (s.op-1) (ll ts x s):=by
 unfold ll;refine aS.bind (m2:=0) (n2:=s.op-1) (kG h ht x hx) (λv s' h1 h2 h3 =>?_) 1 (by omega);exact⟨Nat.le_refl _,h2,by show s'.op-1=s.op-1;rw[h3]⟩
theorem zk:aS ts o s 1 s.op (kT ts s):=by
 unfold kT;simp only;split
 ·exact qQ h 2 (.inl rfl) _ _
 ·rename_i q;refine df (m:=0) h ht (.inr (λe=>q ?_)) (λhl=>fq hl _);rw[e];decide
theorem uM (kd:Nat):aS ts o s 1 s.op (iJ ts kd s):=by
 unfold iJ;simp only;exact aS.bind (kH h ht) (λv s' h1 h2 h3=>h3▸cB h2 _ _ _ _ _) 1 (by omega)
theorem jT (kd:Nat)(pl:Int):aS ts o s 1 s.op (iF ts kd pl s):=by
 unfold iF;simp only;refine aS.bind (kH h ht) (λv s' h1 h2 h3 =>?_) 1 (by omega) (m2:=0);rw[<- h3];exact aS.bind (zk h2 ht) (λv s2 h4 h5 h6=>h6▸cB h5 _ _ _ _ _) 0 (by omega)
end
def BR (ts:List Tok)(o:Prop)(B:Nat)(rec:oW->St->Rs):Prop:=∀s:St,s.nx<ts.length ->
 (o\/10*(ts.length-s.nx)+2<=B->aS ts o s 1 s.op (rec .una s))/\(∀r,1<=r->r<=6->(o\/10*(ts.length-s.nx)+(10-r)<=B)->aS ts o s 1 s.op (rec (.bin r) s)) /\
 (∀r l,1<=r->r<=5->(o\/10*(ts.length-s.nx)+1<=B)->aS ts o s 0 s.op (rec (.loop r l) s))/\(∀a,(o\/10*(ts.length-s.nx)+1<=B)->aS ts o s 1 (s.op-1) (rec (.exprs a) s)) /\
 (o\/10*(ts.length-s.nx)+2<=B->aS ts o s 1 s.op (rec .stmt s))/\(∀p a,(o\/10*(ts.length-s.nx)+4<=B)->aS ts o s 1 (s.op-1) (rec (.stmts p a) s)) /\
 (∀k a,(o\/10*(ts.length-s.nx)+1<=B)->aS ts o s 0 s.op (rec (.vars k a) s))/\(∀a,(o\/10*(ts.length-s.nx)+1<=B)->aS ts o s 1 (s.op-1) (rec (.params a) s)) /\
 ∀a,(o\/10*(ts.length-s.nx)+1<=B)->aS ts o s 0 s.op (rec (.procs a) s)
section
variable {ts:List Tok} {o:Prop} {B:Nat} {rec:oW->St->Rs} (ht:nT ts) (hr:BR ts o B rec)
include ht hr
omit ht in
theorem fM {s:St}(h:s.nx<ts.length)(hB:o\/10*(ts.length-s.nx)+9<=B):aS ts o s 1 s.op (bT rec s):=(hr s h).2.1 1 (Nat.le_refl _) (by omega) hB
theorem BS {s:St}(h:s.nx<ts.length)(hB:o\/10*(ts.length-s.nx)+0<=B):aS ts o s 1 s.op (nQ ts rec s):=by
 unfold nQ;refine aS.bind (lC h ht [91] (by decide)) (λv s1 a1 a2 a3 =>?_) 1 (by omega) (m2:=0);refine aS.bind (fM hr a2 (hB.imp_right λq=>by omega)) (λv s2 b1 b2 b3 =>?_) 0 (by omega) (m2:=0);refine aS.bind (qR b2 ht [93] (by decide)) (λv s3 c1 c2 c3 =>?_) 0 (by omega) (m2:=0);have e:s3.op=s.op:=by omega
 exact e▸fq c2 _
theorem BU {s:St}(h:s.nx<ts.length)(hB:o\/10*(ts.length-s.nx)+0<=B):aS ts o s 1 s.op ((ja ts [40] s).bind λ_ s=>(bT rec s).bind λv s=>(ll ts [41] s).bind λ_ s =>.ok v s):=by
 refine aS.bind (lC h ht [40] (by decide)) (λv s1 a1 a2 a3 =>?_) 1 (by omega) (m2:=0);refine aS.bind (fM hr a2 (hB.imp_right λq=>by omega)) (λv s2 b1 b2 b3 =>?_) 0 (by omega) (m2:=0);refine aS.bind (qR b2 ht [41] (by decide)) (λv s3 c1 c2 c3 =>?_) 0 (by omega) (m2:=0);have e:s3.op=s.op:=by omega
 exact e▸fq c2 _
theorem Fg {s:St}(h:s.nx<ts.length)(hB:o\/10*(ts.length-s.nx)+0<=B):aS ts o s 1 s.op (jS ts rec s):=by
 unfold jS;simp only;refine aS.bind (kH h ht) (λv s1 a1 a2 a3 =>?_) 1 (by omega) (m2:=0);rw[<- a3];split
 ·exact aS.bind (BS ht hr a2 (hB.imp_right λq=>by omega)) (λv s2 b1 b2 b3=>b3▸cB b2 _ _ _ _ _) 0 (by omega)
 ·exact cB a2 _ _ _ _ _
theorem Fh {s:St}(h:s.nx<ts.length)(hx:(ai ts s).s≠[])(hB:o\/10*(ts.length-s.nx)+0<=B):aS ts o s 1 s.op (jB ts rec s):=by
 unfold jB;simp only;refine aS.bind (lC h ht _ hx) (λv s1 a1 a2 a3 =>?_) 1 (by omega) (m2:=0);refine aS.bind ((hr s1 a2).1 (hB.imp_right λq=>by omega)) (λv s2 b1 b2 b3 =>?_) 0 (by omega) (m2:=0);exact⟨Nat.le_refl _,b2,by show s2.op-1=s.op;omega⟩
omit hr in
theorem zl {s:St}(h:s.nx<ts.length)(kd:Nat)(hx:(ai ts s).s≠[]):aS ts o s 1 s.op (jC ts kd s):=by
 unfold jC;simp only;refine(df (m:=1) (n:=s.op) h ht (.inr hx) (λhl =>?_)).weak (by omega);exact aS.bind (kH hl ht) (λv s1 a1 a2 a3=>a3▸cB a2 _ _ _ _ _) 1 (by omega)
theorem Iz {s:St}(h:s.nx<ts.length)(hB:o\/10*(ts.length-s.nx)+1<=B):aS ts o s 1 s.op (bq ts rec s):=by
 have ek:(ax s).nx=s.nx+1:=rfl;unfold bq;simp only;split
 ·exact Fg ht hr h (hB.imp_right λq=>by omega)
 split
 ·rename_i q1 q2;exact df (m:=0) h ht (.inl (by rw[q2];decide)) (λhl=>cB hl _ _ _ _ _)
 split
 ·rename_i q;exact Fh ht hr h (by rcases q with q |q<;>rw[q]<;>decide) (hB.imp_right λq=>by omega)
 split
 ·rename_i q;exact df (m:=0) h ht (.inr (by rcases q with q |q<;>rw[q]<;>decide)) (λhl=>cB hl _ _ _ _ _)
 split
 ·rename_i q;exact zl ht h 24 (by rw[q];decide)
 split
 ·rename_i q;exact zl ht h 25 (by rw[q];decide)
 split
 ·exact BU ht hr h (hB.imp_right λq=>by omega)
 ·exact qQ h 2 (.inl rfl) _ _
omit ht in
theorem IA {s:St}(h:s.nx<ts.length)(r:Nat)(h1:1<=r)(h6:r<=6)(hB:o\/10*(ts.length-s.nx)+(9-r)<=B):aS ts o s 1 s.op (lq rec r s):=by
 unfold lq;split
 ·exact(hr s h).1 (hB.imp_right λq=>by omega)
 ·exact aS.bind ((hr s h).2.1 (r+1) (by omega) (by omega) (hB.imp_right λq=>by omega)) (λv s1 a1 a2 a3=>a3▸(hr s1 a2).2.2.1 r v h1 (by omega) (hB.imp_right λq=>by omega)) 1 (by omega)
omit ht hr in
theorem wm {x:List UInt8}(h:rowOf x≠0):x≠[]:=λe=>h (by rw[e];decide)
theorem Fj {s:St}(h:s.nx<ts.length)(r:Nat)(l:List Int)(h1:1<=r)(h5:r<=5)(hB:o\/10*(ts.length-s.nx)+0<=B):aS ts o s 0 s.op (nR ts rec r l s):=by
 have ek:(ax s).nx=s.nx+1:=rfl;unfold nR;simp only;split
 ·rename_i q;refine(df (m:=0) h ht (.inr (wm (by omega))) (λhl =>?_)).weak (Nat.zero_le _);refine aS.bind ((hr _ hl).2.1 (r+1) (by omega) (by omega) (hB.imp_right λq=>by omega)) (λv s1 a1 a2 a3 =>?_) 0 (by omega) (m2:=0);refine aS.bind (cB a2 _ _ _ _ _) (λv s2 b1 b2 b3 =>?_) 0 (by omega) (m2:=0);have e:s2.op=s.op:=by rw[b3,a3];rfl
  exact e▸(hr s2 b2).2.2.1 r v h1 h5 (hB.imp_right λq=>by omega)
 ·exact fq h _
theorem BV {s:St}(h:s.nx<ts.length)(a:List Int)(hB:o\/10*(ts.length-s.nx)+0<=B):aS ts o s 1 (s.op-1) (jc ts rec a s):=by
 have ek:(ax s).nx=s.nx+1:=rfl;unfold jc;split
 ·rename_i q;have e:(ai ts s).s=[44]:=by simpa [sees]using q
  refine(df (m:=1) h ht (.inr (by rw[e];decide)) (λhl =>?_)).weak (by omega);refine aS.bind (fM hr hl (hB.imp_right λq=>by omega)) (λv s1 a1 a2 a3 =>?_) 1 (by omega) (m2:=1);have e2:s1.op=s.op:=a3;exact e2▸(hr s1 a2).2.2.2.1 _ (hB.imp_right λq=>by omega)
 ·refine aS.bind (qR h ht [41] (by decide)) (λv s1 a1 a2 a3 =>?_) 1 (by omega) (m2:=0);rw[<- a3];exact fq a2 _
theorem Fp {s:St}(h:s.nx<ts.length)(hB:o\/10*(ts.length-s.nx)+0<=B):aS ts o s 1 s.op (lu ts rec s):=by
 unfold lu;refine aS.bind (lC h ht [40] (by decide)) (λv s1 a1 a2 a3 =>?_) 1 (by omega) (m2:=0);have e:s1.op-1=s.op:=by omega
 split
 ·exact(e▸(hr s1 a2).2.2.2.1 _ (hB.imp_right λq=>by omega)).weak (Nat.zero_le _)
 ·refine aS.bind (fM hr a2 (hB.imp_right λq=>by omega)) (λv s2 b1 b2 b3 =>?_) 0 (by omega) (m2:=1);have e2:s2.op-1=s.op:=by omega
  exact e2▸(hr s2 b2).2.2.2.1 _ (hB.imp_right λq=>by omega)
theorem zm {s:St}(h:s.nx<ts.length)(tx:List UInt8)(pl:Int)(hB:o\/10*(ts.length-s.nx)+0<=B):aS ts o s 1 s.op (jd ts rec tx pl s):=by
 unfold jd;refine aS.bind (kG h ht jb (by decide)) (λv s1 a1 a2 a3 =>?_) 1 (by omega) (m2:=0);rw[<- a3];refine aS.bind (uM a2 ht 19) (λv s2 b1 b2 b3 =>?_) 0 (by omega) (m2:=0);rw[<- b3];exact aS.bind (Fp ht hr b2 (hB.imp_right λq=>by omega)) (λv s3 c1 c2 c3=>c3▸cB c2 _ _ _ _ _) 0 (by omega)
theorem lD {s:St}(h:s.nx<ts.length)(hB:o\/10*(ts.length-s.nx)+0<=B):aS ts o s 1 s.op (fU ts rec s):=by
 unfold fU;simp only;refine aS.bind (lC h ht [123] (by decide)) (λv s1 a1 a2 a3 =>?_) 1 (by omega) (m2:=1);have e:s1.op-1=s.op:=by omega
 exact e▸(hr s1 a2).2.2.2.2.2.1 _ _ (hB.imp_right λq=>by omega)
theorem BX {s:St}(h:s.nx<ts.length)(pl:Int)(a:List Int)(hB:o\/10*(ts.length-s.nx)+3<=B):aS ts o s 1 (s.op-1) (kC ts rec pl a s):=by
 unfold kC;split
 ·refine aS.bind (qR h ht [125] (by decide)) (λv s1 a1 a2 a3 =>?_) 1 (by omega) (m2:=0);rw[<- a3];exact cB a2 _ _ _ _ _
 ·refine aS.bind ((hr s h).2.2.2.2.1 (hB.imp_right λq=>by omega)) (λv s1 a1 a2 a3 =>?_) 1 (by omega) (m2:=1);rw[<- a3];exact(hr s1 a2).2.2.2.2.2.1 _ _ (hB.imp_right λq=>by omega)
omit hr in
theorem nU {s:St}(h:s.nx<ts.length)(v:List Int):aS ts o s 1 s.op (dL ts v s):=by
 unfold dL;exact aS.bind (kG h ht [59] (by decide)) (λv s1 a1 a2 a3=>a3▸fq a2 _) 1 (by omega)
theorem Fq {s:St}(h:s.nx<ts.length)(t:Tok)(hB:o\/10*(ts.length-s.nx)+9<=B):aS ts o s 0 s.op (dB ts rec t s):=by
 have ek:(ax s).nx=s.nx+1:=rfl;unfold dB;simp only;split
 ·rename_i q;refine(df (m:=0) h ht (.inr (by rw[q];decide)) (λhl =>?_)).weak (Nat.zero_le _);exact aS.bind (uM hl ht 18) (λv s1 a1 a2 a3=>a3▸cB a2 _ _ _ _ _) 0 (by omega)
 split
 ·exact(zm ht hr h _ _ (hB.imp_right λq=>by omega)).weak (Nat.zero_le _)
 split
 ·rename_i q1 q2 q;refine(df (m:=0) h ht (.inr (by rw[q];decide)) (λhl =>?_)).weak (Nat.zero_le _);exact aS.bind (fM hr hl (hB.imp_right λq=>by omega)) (λv s1 a1 a2 a3=>a3▸cB a2 _ _ _ _ _) 0 (by omega)
 ·exact aS.bind (fM hr h (hB.imp_right λq=>by omega)) (λv s1 a1 a2 a3=>a3▸cB a2 _ _ _ _ _) 0 (by omega)
theorem BZ {s:St}(h:s.nx<ts.length)(hB:o\/10*(ts.length-s.nx)+0<=B):aS ts o s 1 s.op (gV ts rec s):=by
 unfold gV;simp only;refine aS.bind (kH h ht) (λv s1 a1 a2 a3 =>?_) 1 (by omega) (m2:=0);rw[<- a3];split
 ·refine aS.bind (BS ht hr a2 (hB.imp_right λq=>by omega)) (λv s2 b1 b2 b3 =>?_) 0 (by omega) (m2:=0);rw[<- b3];refine aS.bind (kG b2 ht [61] (by decide)) (λv s3 c1 c2 c3 =>?_) 0 (by omega) (m2:=0);rw[<- c3];refine aS.bind (fM hr c2 (hB.imp_right λq=>by omega)) (λv s4 d1 d2 d3 =>?_) 0 (by omega) (m2:=0);rw[<- d3];refine aS.bind (cB d2 _ _ _ _ _) (λv s5 e1 e2 e3 =>?_) 0 (by omega) (m2:=0);rw[<- e3];exact(nU ht e2 _).weak (Nat.zero_le _)
 ·refine aS.bind (kG a2 ht [61] (by decide)) (λv s3 c1 c2 c3 =>?_) 0 (by omega) (m2:=0);rw[<- c3];refine aS.bind (Fq ht hr c2 _ (hB.imp_right λq=>by omega)) (λv s4 d1 d2 d3 =>?_) 0 (by omega) (m2:=0);rw[<- d3];exact(nU ht d2 _).weak (Nat.zero_le _)
theorem IB {s:St}(h:s.nx<ts.length)(hx:(ai ts s).s≠[])(hB:o\/10*(ts.length-s.nx)+0<=B):aS ts o s 1 s.op (o9 ts rec s):=by
 have ek:(ax s).nx=s.nx+1:=rfl;unfold o9;simp only;refine df (m:=0) h ht (.inr hx) (λhl =>?_);refine aS.bind (uM hl ht 18) (λv s1 a1 a2 a3 =>?_) 0 (by omega) (m2:=0);have e:s1.op=s.op:=a3;rw[<- e];refine aS.bind (fM hr a2 (hB.imp_right λq=>by omega)) (λv s4 d1 d2 d3 =>?_) 0 (by omega) (m2:=0);rw[<- d3];refine aS.bind (cB d2 _ _ _ _ _) (λv s5 e1 e2 e3 =>?_) 0 (by omega) (m2:=0);rw[<- e3];exact(nU ht e2 _).weak (Nat.zero_le _)
theorem Kv {s:St}(h:s.nx<ts.length)(hx:(ai ts s).s≠[])(hB:o\/10*(ts.length-s.nx)+0<=B):aS ts o s 1 s.op (Au ts rec s):=by
 have ek:(ax s).nx=s.nx+1:=rfl;unfold Au;simp only;refine df (m:=0) h ht (.inr hx) (λhl =>?_);refine aS.bind (fM hr hl (hB.imp_right λq=>by omega)) (λv s1 a1 a2 a3 =>?_) 0 (by omega) (m2:=0);have e:s1.op=s.op:=a3;rw[<- e];refine aS.bind (lD ht hr a2 (hB.imp_right λq=>by omega)) (λv s2 b1 b2 b3 =>?_) 0 (by omega) (m2:=0);rw[<- b3];split
 ·rename_i q;have e2:(ai ts s2).s=v_:=by simpa [sees]using q
  have ek2:(ax s2).nx=s2.nx+1:=rfl;refine(df (m:=0) b2 ht (.inr (by rw[e2];decide)) (λhl2 =>?_)).weak (Nat.zero_le _);exact aS.bind (lD ht hr hl2 (hB.imp_right λq=>by omega)) (λv s3 c1 c2 c3=>c3▸cB c2 _ _ _ _ _) 0 (by omega)
 ·exact aS.bind (cB b2 _ _ _ _ _) (λv s3 c1 c2 c3=>c3▸cB c2 _ _ _ _ _) 0 (by omega)
theorem B_ {s:St}(h:s.nx<ts.length)(hx:(ai ts s).s≠[])(hB:o\/10*(ts.length-s.nx)+0<=B):aS ts o s 1 s.op (kD ts rec s):=by
 have ek:(ax s).nx=s.nx+1:=rfl;unfold kD;simp only;refine df (m:=0) h ht (.inr hx) (λhl =>?_);refine aS.bind (fM hr hl (hB.imp_right λq=>by omega)) (λv s1 a1 a2 a3 =>?_) 0 (by omega) (m2:=0);have e:s1.op=s.op:=a3;rw[<- e];exact aS.bind (lD ht hr a2 (hB.imp_right λq=>by omega)) (λv s3 c1 c2 c3=>c3▸cB c2 _ _ _ _ _) 0 (by omega)
theorem Av {s:St}(h:s.nx<ts.length)(hx:(ai ts s).s≠[])(hB:o\/10*(ts.length-s.nx)+0<=B):aS ts o s 1 s.op (fe ts rec s):=by
 have ek:(ax s).nx=s.nx+1:=rfl;unfold fe;simp only;refine df (m:=0) h ht (.inr hx) (λhl =>?_);split
 ·exact cB hl _ _ _ _ _
 ·exact aS.bind (fM hr hl (hB.imp_right λq=>by omega)) (λv s3 c1 c2 c3=>c3▸cB c2 _ _ _ _ _) 0 (by omega)
theorem Ct {s:St}(h:s.nx<ts.length)(hx:(ai ts s).s≠[])(hB:o\/10*(ts.length-s.nx)+0<=B):aS ts o s 1 s.op (lw ts rec s):=by
 have ek:(ax s).nx=s.nx+1:=rfl;unfold lw;simp only;refine df (m:=0) h ht (.inr hx) (λhl =>?_);exact aS.bind (fM hr hl (hB.imp_right λq=>by omega)) (λv s3 c1 c2 c3=>c3▸cB c2 _ _ _ _ _) 0 (by omega)
theorem IC {s:St}(h:s.nx<ts.length)(hx:(ai ts s).s≠[])(hB:o\/10*(ts.length-s.nx)+0<=B):aS ts o s 1 s.op (o_ ts rec s):=by
 have ek:(ax s).nx=s.nx+1:=rfl;unfold o_;simp only;refine df (m:=0) h ht (.inr hx) (λhl =>?_);refine aS.bind (lD ht hr hl (hB.imp_right λq=>by omega)) (λv s1 a1 a2 a3 =>?_) 0 (by omega) (m2:=0);have e:s1.op=s.op:=a3;rw[<- e];refine aS.bind (kG a2 ht yj (by decide)) (λv s2 b1 b2 b3 =>?_) 0 (by omega) (m2:=0);rw[<- b3];refine aS.bind (kH b2 ht) (λv s3 c1 c2 c3 =>?_) 0 (by omega) (m2:=0);rw[<- c3];exact aS.bind (lD ht hr c2 (hB.imp_right λq=>by omega)) (λv s4 d1 d2 d3=>d3▸cB d2 _ _ _ _ _) 0 (by omega)
omit hr in
theorem uN {s:St}{r:Rs}(hq:aS ts o s 1 s.op r):aS ts o s 1 s.op (r.bind λv s=>dL ts v s):=by
 refine aS.bind hq (λv s1 a1 a2 a3 =>?_) 1 (by omega) (m2:=0);rw[<- a3];exact(nU ht a2 _).weak (Nat.zero_le _)
theorem Fs {s:St}(h:s.nx<ts.length)(hB:o\/10*(ts.length-s.nx)+0<=B):aS ts o s 1 s.op (aK ts rec s):=by
 unfold aK;simp only;split
 ·exact BZ ht hr h (hB.imp_right λq=>by omega)
 split
 ·rename_i q;exact IB ht hr h (by rw[q];decide) (hB.imp_right λq=>by omega)
 split
 ·rename_i q;exact Kv ht hr h (by rw[q];decide) (hB.imp_right λq=>by omega)
 split
 ·rename_i q;exact B_ ht hr h (by rw[q];decide) (hB.imp_right λq=>by omega)
 split
 ·exact uN ht (zm ht hr h _ _ (hB.imp_right λq=>by omega))
 split
 ·rename_i q;exact uN ht (Av ht hr h (by rw[q];decide) (hB.imp_right λq=>by omega))
 split
 ·rename_i q;exact uN ht (Ct ht hr h (by rw[q];decide) (hB.imp_right λq=>by omega))
 split
 ·rename_i q;exact IC ht hr h (by rw[q];decide) (hB.imp_right λq=>by omega)
 ·exact qQ h 2 (.inl rfl) _ _
theorem Fu {s:St}(h:s.nx<ts.length)(k:Nat)(a:List Int)(hB:o\/10*(ts.length-s.nx)+0<=B):aS ts o s 0 s.op (nS ts rec k a s):=by
 have ek:(ax s).nx=s.nx+1:=rfl;unfold nS;split
 ·rename_i q;have e:(ai ts s).s=BQ:=by simpa [sees]using q
  refine(df (m:=0) h ht (.inr (by rw[e];decide)) (λhl =>?_)).weak (Nat.zero_le _);refine aS.bind (jT hl ht k _) (λv s1 a1 a2 a3 =>?_) 0 (by omega) (m2:=0);have e2:s1.op=s.op:=a3;rw[<- e2];exact aS.bind (kG a2 ht [59] (by decide)) (λv s2 b1 b2 b3=>b3▸(hr s2 b2).2.2.2.2.2.2.1 k _ (hB.imp_right λq=>by omega)) 0 (by omega)
 ·exact fq h _
theorem Aw {s:St}(h:s.nx<ts.length)(a:List Int)(hB:o\/10*(ts.length-s.nx)+0<=B):aS ts o s 1 (s.op-1) (gG ts rec a s):=by
 have ek:(ax s).nx=s.nx+1:=rfl;unfold gG;split
 ·rename_i q;have e:(ai ts s).s=[44]:=by simpa [sees]using q
  refine(df (m:=1) h ht (.inr (by rw[e];decide)) (λhl =>?_)).weak (by omega);refine aS.bind (jT hl ht 4 _) (λv s1 a1 a2 a3 =>?_) 1 (by omega) (m2:=1);have e2:s1.op=s.op:=a3;exact e2▸(hr s1 a2).2.2.2.2.2.2.2.1 _ (hB.imp_right λq=>by omega)
 ·refine aS.bind (qR h ht [41] (by decide)) (λv s1 a1 a2 a3 =>?_) 1 (by omega) (m2:=0);rw[<- a3];exact fq a2 _
theorem Cu {s:St}(h:s.nx<ts.length)(hB:o\/10*(ts.length-s.nx)+0<=B):aS ts o s 1 s.op (je ts rec s):=by
 unfold je;refine aS.bind (lC h ht [40] (by decide)) (λv s1 a1 a2 a3 =>?_) 1 (by omega) (m2:=0);have e:s1.op-1=s.op:=by omega
 split
 ·exact(e▸(hr s1 a2).2.2.2.2.2.2.2.1 _ (hB.imp_right λq=>by omega)).weak (Nat.zero_le _)
 ·refine aS.bind (jT a2 ht 4 _) (λv s2 b1 b2 b3 =>?_) 0 (by omega) (m2:=1);have e2:s2.op-1=s.op:=by omega
  exact e2▸(hr s2 b2).2.2.2.2.2.2.2.1 _ (hB.imp_right λq=>by omega)
theorem zn {s:St}(h:s.nx<ts.length)(hB:o\/10*(ts.length-s.nx)+0<=B):aS ts o s 1 s.op (kU ts rec s):=by
 unfold kU;simp only;refine aS.bind (kG h ht tK (by decide)) (λv s1 a1 a2 a3 =>?_) 1 (by omega) (m2:=0);rw[<- a3];refine aS.bind (kH a2 ht) (λv s2 b1 b2 b3 =>?_) 0 (by omega) (m2:=0);rw[<- b3];refine aS.bind (Cu ht hr b2 (hB.imp_right λq=>by omega)) (λv s3 c1 c2 c3 =>?_) 0 (by omega) (m2:=0);rw[<- c3];refine aS.bind (m:=0) (n:=s3.op) ?_ (λv s4 d1 d2 d3 =>?_) 0 (by omega) (m2:=0)
 ·split
  ·exact fq c2 _
  ·exact(zk c2 ht).weak (Nat.zero_le _)
 ·refine aS.bind (lC d2 ht [123] (by decide)) (λv s5 e1 e2 e3 =>?_) 0 (by omega) (m2:=0);refine aS.bind ((hr s5 e2).2.2.2.2.2.2.1 5 [] (hB.imp_right λq=>by omega)) (λv s6 f1 f2 f3 =>?_) 0 (by omega) (m2:=0);refine aS.bind ((hr s6 f2).2.2.2.2.2.1 _ [] (hB.imp_right λq=>by omega)) (λv s7 g1 g2 g3 =>?_) 0 (by omega) (m2:=0);have e:s7.op=s3.op:=by omega
  exact e▸cB g2 _ _ _ _ _
theorem Cv {s:St}(h:s.nx<ts.length)(a:List Int)(hB:o\/10*(ts.length-s.nx)+0<=B):aS ts o s 0 s.op (kF ts rec a s):=by
 unfold kF;split
 ·exact aS.bind (zn ht hr h (hB.imp_right λq=>by omega)) (λv s1 a1 a2 a3=>a3▸(hr s1 a2).2.2.2.2.2.2.2.2 _ (hB.imp_right λq=>by omega)) 0 (by omega)
 ·exact fq h _
omit ht in
theorem yl {s:St}(h:s.nx<ts.length)(hB:o\/10*(ts.length-s.nx)+1<=B):aS ts o s 0 s.op (dI ts rec s):=by
 unfold dI;refine aS.bind ((hr s h).2.2.2.2.2.2.1 2 [] (hB.imp_right λq=>by omega)) (λv s1 a1 a2 a3 =>?_) 0 (by omega) (m2:=0);rw[<- a3];refine aS.bind ((hr s1 a2).2.2.2.2.2.2.2.2 _ (hB.imp_right λq=>by omega)) (λv s2 b1 b2 b3 =>?_) 0 (by omega) (m2:=0);rw[<- b3];exact aS.bind (Iy b2) (λv s3 c1 c2 c3=>c3▸cB c2 _ _ _ _ _) 0 (by omega)
end
theorem ym {ts:List Tok}(ht:nT ts)(o:Prop):∀f,BR ts o f (run ts f)
 |0=>λ_ _=>⟨λh=>h.elim id (λq=>by omega),λr _ h6 h=>h.elim id (λq=>by omega),λ_ _ _ _ h=>h.elim id (λq=>by omega),λ_ h=>h.elim id (λq=>by omega),λh=>h.elim id (λq=>by omega),λ_ _ h=>h.elim id (λq=>by omega),λ_ _ h=>h.elim id (λq=>by omega),λ_ h=>h.elim id (λq=>by omega),λ_ h=>h.elim id (λq=>by omega)⟩
 |f+1=>λ_ h=>
  have hr:=ym ht o f
  ⟨λhb=>Iz ht hr h (hb.imp_right λq=>by omega),λr h1 h6 hb=>IA hr h r h1 h6 (hb.imp_right λq=>by omega),λr l h1 h5 hb=>Fj ht hr h r l h1 h5 (hb.imp_right λq=>by omega),λa hb=>BV ht hr h a (hb.imp_right λq=>by omega),
   λhb=>Fs ht hr h (hb.imp_right λq=>by omega),λp a hb=>BX ht hr h p a (hb.imp_right λq=>by omega),λk a hb=>Fu ht hr h k a (hb.imp_right λq=>by omega),λa hb=>Aw ht hr h a (hb.imp_right λq=>by omega),λa hb=>Cv ht hr h a (hb.imp_right λq=>by omega)⟩
def st0:St:=⟨0,[],0,0⟩
def steps (ts:List Tok):Nat:=10*ts.length+10
def lF (ts:List Tok):Rs:=dI ts (run ts (steps ts)) st0
theorem Cw {ts:List Tok}(ht:nT ts):aS ts False st0 0 0 (lF ts):=
 yl (ym ht False (steps ts)) (s:=st0) ht.pos (.inr (by show 10*(ts.length-0)+1<=10*ts.length+10;omega))
theorem aS.cases {ts:List Tok}{s:St}{m n:Nat}{r:Rs}(h:aS ts False s m n r):(∃v s',r=.ok v s'/\s'.nx<ts.length/\s'.op=n)\/∃p e,r=.no p e/\(∃t ∈ ts,t.p=p)/\(e=2\/e=6):=by
 cases r with
 |out=>exact h.elim
 |no p e=>exact .inr ⟨p,e,rfl,h⟩
 |ok v s'=>exact .inl ⟨v,s',rfl,h.2.1,h.2.2⟩
end Go.Proofs.YteecfjhjllajlaaGreatDoor
