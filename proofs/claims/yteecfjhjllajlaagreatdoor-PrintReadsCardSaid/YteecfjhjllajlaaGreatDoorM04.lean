/- PROVED: Pc. No more condition. -/
import Derived.Test.YteecfjhjllajlaaGreatDoorM02
namespace Go.Proofs.YteecfjhjllajlaaGreatDoor
structure Tok where
 k:Nat
 n:Int
 p:Nat
 s:List UInt8
deriving DecidableEq,Repr
structure Nd where
 kd:Int
 n:Int
 pl:Int
 tx:List UInt8
 ks:List Int
deriving DecidableEq,Repr
structure St where
 nx:Nat
 nd:List Nd
 op:Nat
 mo:Nat
deriving DecidableEq,Repr
inductive Rs where
 |out
 |no (p:Nat) (e:Nat)
 |ok (v:List Int) (s:St)
deriving DecidableEq,Repr
def Rs.bind (r:Rs)(f:List Int->St->Rs):Rs:=
 match r with
 | .out =>.out
 | .no p e =>.no p e
 | .ok v s=>f v s
theorem Rs.bind_ok {r:Rs}{f:List Int->St->Rs}{v:List Int}{s:St}(h:r.bind f=.ok v s):∃v' s',r=.ok v' s'/\f v' s' = .ok v s:=by
 cases r with
 |out=>cases h
 |no p e=>cases h
 |ok v' s'=>exact⟨v',s',rfl,h⟩
theorem Rs.bind_in {r:Rs}{f:List Int->St->Rs}(h:r.bind f ≠ .out):r ≠ .out:=λe=>h (by rw[e];rfl)
section
variable (ts:List Tok)
def ah (s:St):Tok:=ts.getD s.nx ⟨5,0,0,[]⟩
def sees (x:List UInt8)(s:St):Bool:=(ah ts s).s==x
def ae (s:St):St := {s with nx:=s.nx+1}
def gI (x:List UInt8)(s:St):Rs:=if sees ts x s=true then .ok [] (ae s) else .no (ah ts s).p 2
def eU (s:St):Rs:=if (ah ts s).k=1 then .ok [] (ae s) else .no (ah ts s).p 2
def kZ (s:St):Rs:=if (ah ts s).k=5 then .ok [] s else .no (ah ts s).p 2
def gL (x:List UInt8)(s:St):Rs:=
 if sees ts x s=true/\s.op=40 then .no (ah ts s).p 6 else (gI ts x s).bind λ_ s =>.ok [] {s with op:=s.op+1,mo:=max s.mo (s.op+1)}
def jd (x:List UInt8)(s:St):Rs:=(gI ts x s).bind λ_ s =>.ok [] {s with op:=s.op-1}
def bv (kd n pl:Int)(tx:List UInt8)(ks:List Int)(s:St):Rs :=.ok [(s.nd.length:Int)] {s with nd:=s.nd++[⟨kd,n,pl,tx,ks⟩]}
end
def pG:List UInt8:=[118,97,114]
def kM:List UInt8:=[112,114,111,99]
def QH:List UInt8:=[105,110,116]
def M5:List UInt8:=[98,111,111,108]
def QI:List UInt8:=[97,114,114]
def QJ:List UInt8:=[102,117,110]
def Cq:List UInt8:=[105,110]
def nU:List UInt8:=[111,117,116]
def AR:List UInt8:=[105,102]
def ku:List UInt8:=[101,108,115,101]
def iO:List UInt8:=[119,104,105,108,101]
def dL:List UInt8:=[99,97,108,108]
def dM:List UInt8:=[114,101,116,117,114,110]
def jG:List UInt8:=[116,104,114,111,119]
def tV:List UInt8:=[116,114,121]
def mZ:List UInt8:=[99,97,116,99,104]
def tX:List UInt8:=[110,101,119]
def tY:List UInt8:=[108,101,110]
def fw:List UInt8:=[116,114,117,101]
def jh:List UInt8:=[102,97,108,115,101]
def typeOf (x:List UInt8):Nat:=if x=QH then 1 else if x=M5 then 2 else if x=QI then 3 else if x=QJ then 4 else 0
def rowOf (x:List UInt8):Nat:=
 if x=[124,124] then 1 else if x=[38,38] then 2
 else if x=[61,61]\/x=[33,61]\/x=[60]\/x=[60,61]\/x=[62]\/x=[62,61] then 3
 else if x=[43]\/x=[45] then 4 else if x=[42]\/x=[47]\/x=[37] then 5 else 0
inductive nM where
 |una
 |bin (r:Nat)
 |loop (r:Nat) (left:List Int)
 |exprs (acc:List Int)
 |stmt
 |stmts (pl:Int) (acc:List Int)
 |vars (kd:Nat) (acc:List Int)
 |params (acc:List Int)
 |procs (acc:List Int)
section
variable (ts:List Tok) (rec:nM->St->Rs)
def a_ (s:St):Rs:=rec (.bin 1) s
def kN (s:St):Rs:=(gL ts [91] s).bind λ_ s=>(a_ rec s).bind λv s=>(jd ts [93] s).bind λ_ s =>.ok v s
def gD (kd:Nat)(s:St):Rs:=let t:=ah ts s;(eU ts s).bind λ_ s=>bv kd 0 t.p t.s [] s
def gM (s:St):Rs:=let t:=ah ts s;(eU ts s).bind λ_ s=>if sees ts [91] s=true then (kN ts rec s).bind λv s=>bv 23 0 t.p t.s v s else bv 22 0 t.p t.s [] s
def gN (s:St):Rs:=let t:=ah ts s;(gL ts t.s s).bind λ_ s=>(rec .una s).bind λv s=>bv 26 0 t.p t.s v {s with op:=s.op-1}
def fO (kd:Nat)(s:St):Rs:=let t:=ah ts s;let s:=ae s;let u:=ah ts s;(eU ts s).bind λ_ s=>bv kd 0 t.p u.s [] s
def bg (s:St):Rs:=
 let t:=ah ts s
 if t.k=1 then gM ts rec s
 else if t.k=2 then bv 20 t.n t.p [] [] (ae s)
 else if t.s=[45]\/t.s=[33] then gN ts rec s
 else if t.s=fw\/t.s=jh then bv 21 (if t.s=fw then 1 else 0) t.p [] [] (ae s)
 else if t.s=tY then fO ts 24 s
 else if t.s=[38] then fO ts 25 s
 else if t.s=[40] then (gL ts [40] s).bind λ_ s=>(a_ rec s).bind λv s=>(jd ts [41] s).bind λ_ s =>.ok v s
 else .no t.p 2
def iF (r:Nat)(s:St):Rs:=if 5<r then rec .una s else (rec (.bin (r+1)) s).bind λv s=>rec (.loop r v) s
def iY (r:Nat)(left:List Int)(s:St):Rs:=
 let t:=ah ts s
 if rowOf t.s=r then (rec (.bin (r+1)) (ae s)).bind λv s=>(bv 27 0 t.p t.s (left++v) s).bind λv s=>rec (.loop r v) s else .ok left s
def eY (acc:List Int)(s:St):Rs:=
 if sees ts [44] s=true then (a_ rec (ae s)).bind λv s=>rec (.exprs (acc++v)) s else (jd ts [41] s).bind λ_ s =>.ok acc s
def jk (s:St):Rs:=(gL ts [40] s).bind λ_ s=>if sees ts [41] s=true then rec (.exprs []) s else (a_ rec s).bind λv s=>rec (.exprs v) s
def gF (tx:List UInt8)(pl:Int)(s:St):Rs:=(gI ts dL s).bind λ_ s=>(gD ts 19 s).bind λv s=>(jk ts rec s).bind λvs s=>bv 13 0 pl tx (v++vs) s
def dm (s:St):Rs:=let t:=ah ts s;(gL ts [123] s).bind λ_ s=>rec (.stmts t.p []) s
def gu (pl:Int)(acc:List Int)(s:St):Rs:=if sees ts [125] s=true then (jd ts [125] s).bind λ_ s=>bv 6 0 pl [] acc s else (rec .stmt s).bind λv s=>rec (.stmts pl (acc++v)) s
def bL (v:List Int)(s:St):Rs:=(gI ts [59] s).bind λ_ s =>.ok v s
def bJ (t:Tok)(s:St):Rs:=
 let x:=(ah ts s).s
 if x=Cq then (gD ts 18 (ae s)).bind λv s=>bv 9 0 t.p t.s v s
 else if x=dL then gF ts rec t.s t.p s
 else if x=tX then (a_ rec (ae s)).bind λv s=>bv 17 0 t.p t.s v s
 else (a_ rec s).bind λv s=>bv 7 0 t.p t.s v s
def dZ (s:St):Rs:=
 let t:=ah ts s
 (eU ts s).bind λ_ s=>if sees ts [91] s=true
  then (kN ts rec s).bind λi s=>(gI ts [61] s).bind λ_ s=>(a_ rec s).bind λv s=>(bv 8 0 t.p t.s (i++v) s).bind λv s=>bL ts v s
  else (gI ts [61] s).bind λ_ s=>(bJ ts rec t s).bind λv s=>bL ts v s
def l_ (s:St):Rs:=let t:=ah ts s;(gD ts 18 (ae s)).bind λc s=>(a_ rec s).bind λv s=>(bv 10 0 t.p [] (c++v) s).bind λv s=>bL ts v s
def wI (s:St):Rs:=
 let t:=ah ts s
 (a_ rec (ae s)).bind λc s=>(dm ts rec s).bind λa s=>if sees ts ku s=true
  then (dm ts rec (ae s)).bind λb s=>bv 11 0 t.p [] (c++a++b) s
  else (bv 6 0 t.p [] [] s).bind λb s=>bv 11 0 t.p [] (c++a++b) s
def iw (s:St):Rs:=let t:=ah ts s;(a_ rec (ae s)).bind λc s=>(dm ts rec s).bind λa s=>bv 12 0 t.p [] (c++a) s
def cO (s:St):Rs:=let t:=ah ts s;let s:=ae s;if sees ts [59] s=true then bv 14 0 t.p [] [] s else (a_ rec s).bind λv s=>bv 14 0 t.p [] v s
def iP (s:St):Rs:=let t:=ah ts s;(a_ rec (ae s)).bind λv s=>bv 15 0 t.p [] v s
def ma (s:St):Rs:=let t:=ah ts s;(dm ts rec (ae s)).bind λa s=>(gI ts mZ s).bind λ_ s=>let u:=ah ts s;(eU ts s).bind λ_ s=>(dm ts rec s).bind λb s=>bv 16 0 t.p u.s (a++b) s
def aO (s:St):Rs:=
 let t:=ah ts s
 if t.k=1 then dZ ts rec s
 else if t.s=nU then l_ ts rec s
 else if t.s=AR then wI ts rec s
 else if t.s=iO then iw ts rec s
 else if t.s=dL then (gF ts rec [] t.p s).bind λv s=>bL ts v s
 else if t.s=dM then (cO ts rec s).bind λv s=>bL ts v s
 else if t.s=jG then (iP ts rec s).bind λv s=>bL ts v s
 else if t.s=tV then ma ts rec s
 else .no t.p 2
def iG (s:St):Rs:=let n:=typeOf (ah ts s).s;if n=0 then .no (ah ts s).p 2 else .ok [(n:Int)] (ae s)
def d9 (kd:Nat)(pl:Int)(s:St):Rs:=let t:=ah ts s;(eU ts s).bind λ_ s=>(iG ts s).bind λn s=>bv kd (n.headD 0) pl t.s [] s
def jC (kd:Nat)(acc:List Int)(s:St):Rs:=
 if sees ts pG s=true then (d9 ts kd (ah ts s).p (ae s)).bind λv s=>(gI ts [59] s).bind λ_ s=>rec (.vars kd (acc++v)) s else .ok acc s
def iy (s:St):Rs:=d9 ts 4 (ah ts s).p s
def dD (acc:List Int)(s:St):Rs:=
 if sees ts [44] s=true then (iy ts (ae s)).bind λv s=>rec (.params (acc++v)) s else (jd ts [41] s).bind λ_ s =>.ok acc s
def gy (s:St):Rs:=(gL ts [40] s).bind λ_ s=>if sees ts [41] s=true then rec (.params []) s else (iy ts s).bind λv s=>rec (.params v) s
def jl (s:St):Rs:=
 let t:=ah ts s
 (gI ts kM s).bind λ_ s=>let u:=ah ts s;(eU ts s).bind λ_ s=>(gy ts rec s).bind λps s=>
  (if sees ts [123] s=true then .ok [0] s else iG ts s).bind λn s=>let b:=ah ts s;(gL ts [123] s).bind λ_ s=>
   (rec (.vars 5 []) s).bind λvs s=>(rec (.stmts b.p []) s).bind λbl s=>bv 3 (n.headD 0) t.p u.s (ps++vs++bl) s
def gz (acc:List Int)(s:St):Rs:=if sees ts kM s=true then (jl ts rec s).bind λv s=>rec (.procs (acc++v)) s else .ok acc s
def bT (s:St):Rs:=(rec (.vars 2 []) s).bind λvs s=>(rec (.procs vs) s).bind λps s=>(kZ ts s).bind λ_ s=>bv 1 0 0 [] ps s
def jm (s:St):Rs:=(a_ rec s).bind λv s=>(kZ ts s).bind λ_ s =>.ok v s
end
def run (ts:List Tok):Nat->nM->St->Rs
 |0,_,_ =>.out
 |f+1,j,s=>match j with
  | .una=>bg ts (run ts f) s
  | .bin r=>iF (run ts f) r s
  | .loop r l=>iY ts (run ts f) r l s
  | .exprs a=>eY ts (run ts f) a s
  | .stmt=>aO ts (run ts f) s
  | .stmts p a=>gu ts (run ts f) p a s
  | .vars k a=>jC ts (run ts f) k a s
  | .params a=>dD ts (run ts f) a s
  | .procs a=>gz ts (run ts f) a s
structure p9 (ts:List Tok):Prop where
 pos:0<ts.length
 text:∀i (h:i<ts.length),i+1<ts.length->ts[i].s≠[]
 kind:∀i (h:i<ts.length),i+1<ts.length->ts[i].k≠5
 lastS:∀h:ts.length-1<ts.length,ts[ts.length-1].s=[]
 lastK:∀h:ts.length-1<ts.length,ts[ts.length-1].k=5
theorem xP {ts:List Tok}{s:St}(h:s.nx<ts.length):ah ts s=ts[s.nx]:=by unfold ah;simp[List.getD,h]
theorem Cr {ts:List Tok}{s:St}(h:s.nx<ts.length):ah ts s ∈ ts:=by rw[xP h];exact List.getElem_mem _
theorem p9.more {ts:List Tok}(ht:p9 ts){s:St}(h:s.nx<ts.length)(hs:(ah ts s).s≠[]):s.nx+1<ts.length:=by
 by_cases e:s.nx+1=ts.length
 ·exfalso;apply hs;rw[xP h];have:=ht.lastS (by omega);have e2:ts.length-1=s.nx:=by omega
  simp only[e2]at this;exact this
 ·omega
theorem p9.moreK {ts:List Tok}(ht:p9 ts){s:St}(h:s.nx<ts.length)(hs:(ah ts s).k≠5):s.nx+1<ts.length:=by
 by_cases e:s.nx+1=ts.length
 ·exfalso;apply hs;rw[xP h];have:=ht.lastK (by omega);have e2:ts.length-1=s.nx:=by omega
  simp only[e2]at this;exact this
 ·omega
def bF (ts:List Tok)(o:Prop)(s:St)(m n:Nat):Rs->Prop
 | .out=>o
 | .no p e=>(∃t ∈ ts,t.p=p)/\(e=2\/e=6)
 | .ok _ s'=>s.nx+m<=s'.nx/\s'.nx<ts.length/\s'.op=n
theorem bF.bind {ts:List Tok}{o:Prop}{s:St}{m n m2 n2:Nat}{r:Rs}{f:List Int->St->Rs}(h:bF ts o s m n r)(k:∀v s',s.nx+m<=s'.nx->s'.nx<ts.length->s'.op=n->bF ts o s' m2 n2 (f v s'))(m3:Nat)(hm:m3<=m+m2):bF ts o s m3 n2 (r.bind f):=by
 cases r with
 |out=>exact h
 |no p e=>exact h
 |ok v s'=>
  have h2:=k v s' h.1 h.2.1 h.2.2;show bF ts o s m3 n2 (f v s');cases hf:f v s' with
  |out=>rw[hf]at h2;exact h2
  |no p e=>rw[hf]at h2;exact h2
  |ok v2 s2=>rw[hf]at h2;exact⟨by have:=h.1;have:=h2.1;omega,h2.2.1,h2.2.2⟩
theorem bF.weak {ts:List Tok}{o:Prop}{s:St}{m m' n:Nat}{r:Rs}(h:bF ts o s m n r)(hm:m'<=m):bF ts o s m' n r:=by
 cases r with
 |out=>exact h
 |no p e=>exact h
 |ok v s'=>exact⟨by have:=h.1;omega,h.2.1,h.2.2⟩
section
variable {ts:List Tok} {o:Prop} {s:St} (h:s.nx<ts.length)
include h
theorem gG (v:List Int):bF ts o s 0 s.op (.ok v s):=⟨Nat.le_refl _,h,rfl⟩
theorem uG (e:Nat)(he:e=2\/e=6)(m n:Nat):bF ts o s m n (.no (ah ts s).p e):=⟨⟨_,Cr h,rfl⟩,he⟩
theorem dH (kd n pl:Int)(tx:List UInt8)(ks:List Int):bF ts o s 0 s.op (bv kd n pl tx ks s):=⟨Nat.le_refl _,h,rfl⟩
theorem FI:bF ts o s 0 s.op (kZ ts s):=by
 unfold kZ;split
 ·exact gG h _
 ·exact uG h 2 (.inl rfl) _ _
variable (ht:p9 ts)
include ht
theorem dN {m n:Nat}{r:Rs}(hs:(ah ts s).k≠5\/(ah ts s).s≠[])(k:(ae s).nx<ts.length->bF ts o (ae s) m n r):bF ts o s (m+1) n r:=by
 have hl:s.nx+1<ts.length:=by
  rcases hs with q |q
  ·exact ht.moreK h q
  ·exact ht.more h q
 have h2:=k hl;cases r with
 |out=>exact h2
 |no p e=>exact h2
 |ok v s'=>exact⟨by have:=h2.1;have e:(ae s).nx=s.nx+1:=rfl;omega,h2.2.1,h2.2.2⟩
theorem m_ (x:List UInt8)(hx:x≠[]):bF ts o s 1 s.op (gI ts x s):=by
 unfold gI;split
 ·rename_i q;have e:(ah ts s).s=x:=by simpa [sees]using q
  exact dN (m:=0) h ht (.inr (by rw[e];exact hx)) (λhl=>gG hl _)
 ·exact uG h 2 (.inl rfl) _ _
theorem ng:bF ts o s 1 s.op (eU ts s):=by
 unfold eU;split
 ·rename_i q;exact dN (m:=0) h ht (.inl (by rw[q];decide)) (λhl=>gG hl _)
 ·exact uG h 2 (.inl rfl) _ _
theorem nV (x:List UInt8)(hx:x≠[]):bF ts o s 1 (s.op+1) (gL ts x s):=by
 unfold gL;split
 ·exact uG h 6 (.inr rfl) _ _
 ·refine bF.bind (m2:=0) (n2:=s.op+1) (m_ h ht x hx) (λv s' h1 h2 h3 =>?_) 1 (by omega);exact⟨Nat.le_refl _,h2,by show s'.op+1=s.op+1;rw[h3]⟩
theorem uH (x:List UInt8)(hx:x≠[]):bF ts o s 1 (s.op-1) (jd ts x s):=by
 unfold jd;refine bF.bind (m2:=0) (n2:=s.op-1) (m_ h ht x hx) (λv s' h1 h2 h3 =>?_) 1 (by omega);exact⟨Nat.le_refl _,h2,by show s'.op-1=s.op-1;rw[h3]⟩
theorem Cs:bF ts o s 1 s.op (iG ts s):=by
 unfold iG;simp only;split
 ·exact uG h 2 (.inl rfl) _ _
 ·rename_i q;refine dN (m:=0) h ht (.inr (λe=>q ?_)) (λhl=>gG hl _);rw[e];decide
theorem xQ (kd:Nat):bF ts o s 1 s.op (gD ts kd s):=by
 unfold gD;simp only;exact bF.bind (ng h ht) (λv s' h1 h2 h3=>h3▸dH h2 _ _ _ _ _) 1 (by omega)
theorem mf (kd:Nat)(pl:Int):bF ts o s 1 s.op (d9 ts kd pl s):=by
 unfold d9;simp only;refine bF.bind (ng h ht) (λv s' h1 h2 h3 =>?_) 1 (by omega) (m2:=0);rw[<- h3];exact bF.bind (Cs h2 ht) (λv s2 h4 h5 h6=>h6▸dH h5 _ _ _ _ _) 0 (by omega)
end
def FJ (ts:List Tok)(o:Prop)(B:Nat)(rec:nM->St->Rs):Prop:=∀s:St,s.nx<ts.length ->
 (o\/10*(ts.length-s.nx)+2<=B->bF ts o s 1 s.op (rec .una s))/\(∀r,1<=r->r<=6->(o\/10*(ts.length-s.nx)+(10-r)<=B)->bF ts o s 1 s.op (rec (.bin r) s)) /\
 (∀r l,1<=r->r<=5->(o\/10*(ts.length-s.nx)+1<=B)->bF ts o s 0 s.op (rec (.loop r l) s))/\(∀a,(o\/10*(ts.length-s.nx)+1<=B)->bF ts o s 1 (s.op-1) (rec (.exprs a) s)) /\
 (o\/10*(ts.length-s.nx)+2<=B->bF ts o s 1 s.op (rec .stmt s))/\(∀p a,(o\/10*(ts.length-s.nx)+4<=B)->bF ts o s 1 (s.op-1) (rec (.stmts p a) s)) /\
 (∀k a,(o\/10*(ts.length-s.nx)+1<=B)->bF ts o s 0 s.op (rec (.vars k a) s))/\(∀a,(o\/10*(ts.length-s.nx)+1<=B)->bF ts o s 1 (s.op-1) (rec (.params a) s)) /\
 ∀a,(o\/10*(ts.length-s.nx)+1<=B)->bF ts o s 0 s.op (rec (.procs a) s)
section
variable {ts:List Tok} {o:Prop} {B:Nat} {rec:nM->St->Rs} (ht:p9 ts) (hr:FJ ts o B rec)
include ht hr
omit ht in
theorem gY {s:St}(h:s.nx<ts.length)(hB:o\/10*(ts.length-s.nx)+9<=B):bF ts o s 1 s.op (a_ rec s):=(hr s h).2.1 1 (Nat.le_refl _) (by omega) hB
theorem FK {s:St}(h:s.nx<ts.length)(hB:o\/10*(ts.length-s.nx)+0<=B):bF ts o s 1 s.op (kN ts rec s):=by
 unfold kN;refine bF.bind (nV h ht [91] (by decide)) (λv s1 a1 a2 a3 =>?_) 1 (by omega) (m2:=0);refine bF.bind (gY hr a2 (hB.imp_right λq=>by omega)) (λv s2 b1 b2 b3 =>?_) 0 (by omega) (m2:=0);refine bF.bind (uH b2 ht [93] (by decide)) (λv s3 c1 c2 c3 =>?_) 0 (by omega) (m2:=0);have e:s3.op=s.op:=by omega
 exact e▸gG c2 _
theorem FL {s:St}(h:s.nx<ts.length)(hB:o\/10*(ts.length-s.nx)+0<=B):bF ts o s 1 s.op ((gL ts [40] s).bind λ_ s=>(a_ rec s).bind λv s=>(jd ts [41] s).bind λ_ s =>.ok v s):=by
 refine bF.bind (nV h ht [40] (by decide)) (λv s1 a1 a2 a3 =>?_) 1 (by omega) (m2:=0);refine bF.bind (gY hr a2 (hB.imp_right λq=>by omega)) (λv s2 b1 b2 b3 =>?_) 0 (by omega) (m2:=0);refine bF.bind (uH b2 ht [41] (by decide)) (λv s3 c1 c2 c3 =>?_) 0 (by omega) (m2:=0);have e:s3.op=s.op:=by omega
 exact e▸gG c2 _
theorem J2 {s:St}(h:s.nx<ts.length)(hB:o\/10*(ts.length-s.nx)+0<=B):bF ts o s 1 s.op (gM ts rec s):=by
 unfold gM;simp only;refine bF.bind (ng h ht) (λv s1 a1 a2 a3 =>?_) 1 (by omega) (m2:=0);rw[<- a3];split
 ·exact bF.bind (FK ht hr a2 (hB.imp_right λq=>by omega)) (λv s2 b1 b2 b3=>b3▸dH b2 _ _ _ _ _) 0 (by omega)
 ·exact dH a2 _ _ _ _ _
theorem J3 {s:St}(h:s.nx<ts.length)(hx:(ah ts s).s≠[])(hB:o\/10*(ts.length-s.nx)+0<=B):bF ts o s 1 s.op (gN ts rec s):=by
 unfold gN;simp only;refine bF.bind (nV h ht _ hx) (λv s1 a1 a2 a3 =>?_) 1 (by omega) (m2:=0);refine bF.bind ((hr s1 a2).1 (hB.imp_right λq=>by omega)) (λv s2 b1 b2 b3 =>?_) 0 (by omega) (m2:=0);exact⟨Nat.le_refl _,b2,by show s2.op-1=s.op;omega⟩
omit hr in
theorem Ct {s:St}(h:s.nx<ts.length)(kd:Nat)(hx:(ah ts s).s≠[]):bF ts o s 1 s.op (fO ts kd s):=by
 unfold fO;simp only;refine(dN (m:=1) (n:=s.op) h ht (.inr hx) (λhl =>?_)).weak (by omega);exact bF.bind (ng hl ht) (λv s1 a1 a2 a3=>a3▸dH a2 _ _ _ _ _) 1 (by omega)
theorem NL {s:St}(h:s.nx<ts.length)(hB:o\/10*(ts.length-s.nx)+1<=B):bF ts o s 1 s.op (bg ts rec s):=by
 have ek:(ae s).nx=s.nx+1:=rfl;unfold bg;simp only;split
 ·exact J2 ht hr h (hB.imp_right λq=>by omega)
 split
 ·rename_i q1 q2;exact dN (m:=0) h ht (.inl (by rw[q2];decide)) (λhl=>dH hl _ _ _ _ _)
 split
 ·rename_i q;exact J3 ht hr h (by rcases q with q |q<;>rw[q]<;>decide) (hB.imp_right λq=>by omega)
 split
 ·rename_i q;exact dN (m:=0) h ht (.inr (by rcases q with q |q<;>rw[q]<;>decide)) (λhl=>dH hl _ _ _ _ _)
 split
 ·rename_i q;exact Ct ht h 24 (by rw[q];decide)
 split
 ·rename_i q;exact Ct ht h 25 (by rw[q];decide)
 split
 ·exact FL ht hr h (hB.imp_right λq=>by omega)
 ·exact uG h 2 (.inl rfl) _ _
omit ht in
theorem NM {s:St}(h:s.nx<ts.length)(r:Nat)(h1:1<=r)(h6:r<=6)(hB:o\/10*(ts.length-s.nx)+(9-r)<=B):bF ts o s 1 s.op (iF rec r s):=by
 unfold iF;split
 ·exact(hr s h).1 (hB.imp_right λq=>by omega)
 ·exact bF.bind ((hr s h).2.1 (r+1) (by omega) (by omega) (hB.imp_right λq=>by omega)) (λv s1 a1 a2 a3=>a3▸(hr s1 a2).2.2.1 r v h1 (by omega) (hB.imp_right λq=>by omega)) 1 (by omega)
omit ht hr in
theorem zm {x:List UInt8}(h:rowOf x≠0):x≠[]:=λe=>h (by rw[e];decide)
theorem J4 {s:St}(h:s.nx<ts.length)(r:Nat)(l:List Int)(h1:1<=r)(h5:r<=5)(hB:o\/10*(ts.length-s.nx)+0<=B):bF ts o s 0 s.op (iY ts rec r l s):=by
 have ek:(ae s).nx=s.nx+1:=rfl;unfold iY;simp only;split
 ·rename_i q;refine(dN (m:=0) h ht (.inr (zm (by omega))) (λhl =>?_)).weak (Nat.zero_le _);refine bF.bind ((hr _ hl).2.1 (r+1) (by omega) (by omega) (hB.imp_right λq=>by omega)) (λv s1 a1 a2 a3 =>?_) 0 (by omega) (m2:=0);refine bF.bind (dH a2 _ _ _ _ _) (λv s2 b1 b2 b3 =>?_) 0 (by omega) (m2:=0);have e:s2.op=s.op:=by rw[b3,a3];rfl
  exact e▸(hr s2 b2).2.2.1 r v h1 h5 (hB.imp_right λq=>by omega)
 ·exact gG h _
theorem FM {s:St}(h:s.nx<ts.length)(a:List Int)(hB:o\/10*(ts.length-s.nx)+0<=B):bF ts o s 1 (s.op-1) (eY ts rec a s):=by
 have ek:(ae s).nx=s.nx+1:=rfl;unfold eY;split
 ·rename_i q;have e:(ah ts s).s=[44]:=by simpa [sees]using q
  refine(dN (m:=1) h ht (.inr (by rw[e];decide)) (λhl =>?_)).weak (by omega);refine bF.bind (gY hr hl (hB.imp_right λq=>by omega)) (λv s1 a1 a2 a3 =>?_) 1 (by omega) (m2:=1);have e2:s1.op=s.op:=a3;exact e2▸(hr s1 a2).2.2.2.1 _ (hB.imp_right λq=>by omega)
 ·refine bF.bind (uH h ht [41] (by decide)) (λv s1 a1 a2 a3 =>?_) 1 (by omega) (m2:=0);rw[<- a3];exact gG a2 _
theorem J5 {s:St}(h:s.nx<ts.length)(hB:o\/10*(ts.length-s.nx)+0<=B):bF ts o s 1 s.op (jk ts rec s):=by
 unfold jk;refine bF.bind (nV h ht [40] (by decide)) (λv s1 a1 a2 a3 =>?_) 1 (by omega) (m2:=0);have e:s1.op-1=s.op:=by omega
 split
 ·exact(e▸(hr s1 a2).2.2.2.1 _ (hB.imp_right λq=>by omega)).weak (Nat.zero_le _)
 ·refine bF.bind (gY hr a2 (hB.imp_right λq=>by omega)) (λv s2 b1 b2 b3 =>?_) 0 (by omega) (m2:=1);have e2:s2.op-1=s.op:=by omega
  exact e2▸(hr s2 b2).2.2.2.1 _ (hB.imp_right λq=>by omega)
theorem Cu {s:St}(h:s.nx<ts.length)(tx:List UInt8)(pl:Int)(hB:o\/10*(ts.length-s.nx)+0<=B):bF ts o s 1 s.op (gF ts rec tx pl s):=by
 unfold gF;refine bF.bind (m_ h ht dL (by decide)) (λv s1 a1 a2 a3 =>?_) 1 (by omega) (m2:=0);rw[<- a3];refine bF.bind (xQ a2 ht 19) (λv s2 b1 b2 b3 =>?_) 0 (by omega) (m2:=0);rw[<- b3];exact bF.bind (J5 ht hr b2 (hB.imp_right λq=>by omega)) (λv s3 c1 c2 c3=>c3▸dH c2 _ _ _ _ _) 0 (by omega)
theorem nW {s:St}(h:s.nx<ts.length)(hB:o\/10*(ts.length-s.nx)+0<=B):bF ts o s 1 s.op (dm ts rec s):=by
 unfold dm;simp only;refine bF.bind (nV h ht [123] (by decide)) (λv s1 a1 a2 a3 =>?_) 1 (by omega) (m2:=1);have e:s1.op-1=s.op:=by omega
 exact e▸(hr s1 a2).2.2.2.2.2.1 _ _ (hB.imp_right λq=>by omega)
theorem FN {s:St}(h:s.nx<ts.length)(pl:Int)(a:List Int)(hB:o\/10*(ts.length-s.nx)+3<=B):bF ts o s 1 (s.op-1) (gu ts rec pl a s):=by
 unfold gu;split
 ·refine bF.bind (uH h ht [125] (by decide)) (λv s1 a1 a2 a3 =>?_) 1 (by omega) (m2:=0);rw[<- a3];exact dH a2 _ _ _ _ _
 ·refine bF.bind ((hr s h).2.2.2.2.1 (hB.imp_right λq=>by omega)) (λv s1 a1 a2 a3 =>?_) 1 (by omega) (m2:=1);rw[<- a3];exact(hr s1 a2).2.2.2.2.2.1 _ _ (hB.imp_right λq=>by omega)
omit hr in
theorem qZ {s:St}(h:s.nx<ts.length)(v:List Int):bF ts o s 1 s.op (bL ts v s):=by
 unfold bL;exact bF.bind (m_ h ht [59] (by decide)) (λv s1 a1 a2 a3=>a3▸gG a2 _) 1 (by omega)
theorem J6 {s:St}(h:s.nx<ts.length)(t:Tok)(hB:o\/10*(ts.length-s.nx)+9<=B):bF ts o s 0 s.op (bJ ts rec t s):=by
 have ek:(ae s).nx=s.nx+1:=rfl;unfold bJ;simp only;split
 ·rename_i q;refine(dN (m:=0) h ht (.inr (by rw[q];decide)) (λhl =>?_)).weak (Nat.zero_le _);exact bF.bind (xQ hl ht 18) (λv s1 a1 a2 a3=>a3▸dH a2 _ _ _ _ _) 0 (by omega)
 split
 ·exact(Cu ht hr h _ _ (hB.imp_right λq=>by omega)).weak (Nat.zero_le _)
 split
 ·rename_i q1 q2 q;refine(dN (m:=0) h ht (.inr (by rw[q];decide)) (λhl =>?_)).weak (Nat.zero_le _);exact bF.bind (gY hr hl (hB.imp_right λq=>by omega)) (λv s1 a1 a2 a3=>a3▸dH a2 _ _ _ _ _) 0 (by omega)
 ·exact bF.bind (gY hr h (hB.imp_right λq=>by omega)) (λv s1 a1 a2 a3=>a3▸dH a2 _ _ _ _ _) 0 (by omega)
theorem FO {s:St}(h:s.nx<ts.length)(hB:o\/10*(ts.length-s.nx)+0<=B):bF ts o s 1 s.op (dZ ts rec s):=by
 unfold dZ;simp only;refine bF.bind (ng h ht) (λv s1 a1 a2 a3 =>?_) 1 (by omega) (m2:=0);rw[<- a3];split
 ·refine bF.bind (FK ht hr a2 (hB.imp_right λq=>by omega)) (λv s2 b1 b2 b3 =>?_) 0 (by omega) (m2:=0);rw[<- b3];refine bF.bind (m_ b2 ht [61] (by decide)) (λv s3 c1 c2 c3 =>?_) 0 (by omega) (m2:=0);rw[<- c3];refine bF.bind (gY hr c2 (hB.imp_right λq=>by omega)) (λv s4 d1 d2 d3 =>?_) 0 (by omega) (m2:=0);rw[<- d3];refine bF.bind (dH d2 _ _ _ _ _) (λv s5 e1 e2 e3 =>?_) 0 (by omega) (m2:=0);rw[<- e3];exact(qZ ht e2 _).weak (Nat.zero_le _)
 ·refine bF.bind (m_ a2 ht [61] (by decide)) (λv s3 c1 c2 c3 =>?_) 0 (by omega) (m2:=0);rw[<- c3];refine bF.bind (J6 ht hr c2 _ (hB.imp_right λq=>by omega)) (λv s4 d1 d2 d3 =>?_) 0 (by omega) (m2:=0);rw[<- d3];exact(qZ ht d2 _).weak (Nat.zero_le _)
theorem NN {s:St}(h:s.nx<ts.length)(hx:(ah ts s).s≠[])(hB:o\/10*(ts.length-s.nx)+0<=B):bF ts o s 1 s.op (l_ ts rec s):=by
 have ek:(ae s).nx=s.nx+1:=rfl;unfold l_;simp only;refine dN (m:=0) h ht (.inr hx) (λhl =>?_);refine bF.bind (xQ hl ht 18) (λv s1 a1 a2 a3 =>?_) 0 (by omega) (m2:=0);have e:s1.op=s.op:=a3;rw[<- e];refine bF.bind (gY hr a2 (hB.imp_right λq=>by omega)) (λv s4 d1 d2 d3 =>?_) 0 (by omega) (m2:=0);rw[<- d3];refine bF.bind (dH d2 _ _ _ _ _) (λv s5 e1 e2 e3 =>?_) 0 (by omega) (m2:=0);rw[<- e3];exact(qZ ht e2 _).weak (Nat.zero_le _)
theorem QK {s:St}(h:s.nx<ts.length)(hx:(ah ts s).s≠[])(hB:o\/10*(ts.length-s.nx)+0<=B):bF ts o s 1 s.op (wI ts rec s):=by
 have ek:(ae s).nx=s.nx+1:=rfl;unfold wI;simp only;refine dN (m:=0) h ht (.inr hx) (λhl =>?_);refine bF.bind (gY hr hl (hB.imp_right λq=>by omega)) (λv s1 a1 a2 a3 =>?_) 0 (by omega) (m2:=0);have e:s1.op=s.op:=a3;rw[<- e];refine bF.bind (nW ht hr a2 (hB.imp_right λq=>by omega)) (λv s2 b1 b2 b3 =>?_) 0 (by omega) (m2:=0);rw[<- b3];split
 ·rename_i q;have e2:(ah ts s2).s=ku:=by simpa [sees]using q
  have ek2:(ae s2).nx=s2.nx+1:=rfl;refine(dN (m:=0) b2 ht (.inr (by rw[e2];decide)) (λhl2 =>?_)).weak (Nat.zero_le _);exact bF.bind (nW ht hr hl2 (hB.imp_right λq=>by omega)) (λv s3 c1 c2 c3=>c3▸dH c2 _ _ _ _ _) 0 (by omega)
 ·exact bF.bind (dH b2 _ _ _ _ _) (λv s3 c1 c2 c3=>c3▸dH c2 _ _ _ _ _) 0 (by omega)
theorem FP {s:St}(h:s.nx<ts.length)(hx:(ah ts s).s≠[])(hB:o\/10*(ts.length-s.nx)+0<=B):bF ts o s 1 s.op (iw ts rec s):=by
 have ek:(ae s).nx=s.nx+1:=rfl;unfold iw;simp only;refine dN (m:=0) h ht (.inr hx) (λhl =>?_);refine bF.bind (gY hr hl (hB.imp_right λq=>by omega)) (λv s1 a1 a2 a3 =>?_) 0 (by omega) (m2:=0);have e:s1.op=s.op:=a3;rw[<- e];exact bF.bind (nW ht hr a2 (hB.imp_right λq=>by omega)) (λv s3 c1 c2 c3=>c3▸dH c2 _ _ _ _ _) 0 (by omega)
theorem D9 {s:St}(h:s.nx<ts.length)(hx:(ah ts s).s≠[])(hB:o\/10*(ts.length-s.nx)+0<=B):bF ts o s 1 s.op (cO ts rec s):=by
 have ek:(ae s).nx=s.nx+1:=rfl;unfold cO;simp only;refine dN (m:=0) h ht (.inr hx) (λhl =>?_);split
 ·exact dH hl _ _ _ _ _
 ·exact bF.bind (gY hr hl (hB.imp_right λq=>by omega)) (λv s3 c1 c2 c3=>c3▸dH c2 _ _ _ _ _) 0 (by omega)
theorem FQ {s:St}(h:s.nx<ts.length)(hx:(ah ts s).s≠[])(hB:o\/10*(ts.length-s.nx)+0<=B):bF ts o s 1 s.op (iP ts rec s):=by
 have ek:(ae s).nx=s.nx+1:=rfl;unfold iP;simp only;refine dN (m:=0) h ht (.inr hx) (λhl =>?_);exact bF.bind (gY hr hl (hB.imp_right λq=>by omega)) (λv s3 c1 c2 c3=>c3▸dH c2 _ _ _ _ _) 0 (by omega)
theorem NQ {s:St}(h:s.nx<ts.length)(hx:(ah ts s).s≠[])(hB:o\/10*(ts.length-s.nx)+0<=B):bF ts o s 1 s.op (ma ts rec s):=by
 have ek:(ae s).nx=s.nx+1:=rfl;unfold ma;simp only;refine dN (m:=0) h ht (.inr hx) (λhl =>?_);refine bF.bind (nW ht hr hl (hB.imp_right λq=>by omega)) (λv s1 a1 a2 a3 =>?_) 0 (by omega) (m2:=0);have e:s1.op=s.op:=a3;rw[<- e];refine bF.bind (m_ a2 ht mZ (by decide)) (λv s2 b1 b2 b3 =>?_) 0 (by omega) (m2:=0);rw[<- b3];refine bF.bind (ng b2 ht) (λv s3 c1 c2 c3 =>?_) 0 (by omega) (m2:=0);rw[<- c3];exact bF.bind (nW ht hr c2 (hB.imp_right λq=>by omega)) (λv s4 d1 d2 d3=>d3▸dH d2 _ _ _ _ _) 0 (by omega)
omit hr in
theorem xR {s:St}{r:Rs}(hq:bF ts o s 1 s.op r):bF ts o s 1 s.op (r.bind λv s=>bL ts v s):=by
 refine bF.bind hq (λv s1 a1 a2 a3 =>?_) 1 (by omega) (m2:=0);rw[<- a3];exact(qZ ht a2 _).weak (Nat.zero_le _)
theorem J7 {s:St}(h:s.nx<ts.length)(hB:o\/10*(ts.length-s.nx)+0<=B):bF ts o s 1 s.op (aO ts rec s):=by
 unfold aO;simp only;split
 ·exact FO ht hr h (hB.imp_right λq=>by omega)
 split
 ·rename_i q;exact NN ht hr h (by rw[q];decide) (hB.imp_right λq=>by omega)
 split
 ·rename_i q;exact QK ht hr h (by rw[q];decide) (hB.imp_right λq=>by omega)
 split
 ·rename_i q;exact FP ht hr h (by rw[q];decide) (hB.imp_right λq=>by omega)
 split
 ·exact xR ht (Cu ht hr h _ _ (hB.imp_right λq=>by omega))
 split
 ·rename_i q;exact xR ht (D9 ht hr h (by rw[q];decide) (hB.imp_right λq=>by omega))
 split
 ·rename_i q;exact xR ht (FQ ht hr h (by rw[q];decide) (hB.imp_right λq=>by omega))
 split
 ·rename_i q;exact NQ ht hr h (by rw[q];decide) (hB.imp_right λq=>by omega)
 ·exact uG h 2 (.inl rfl) _ _
theorem J8 {s:St}(h:s.nx<ts.length)(k:Nat)(a:List Int)(hB:o\/10*(ts.length-s.nx)+0<=B):bF ts o s 0 s.op (jC ts rec k a s):=by
 have ek:(ae s).nx=s.nx+1:=rfl;unfold jC;split
 ·rename_i q;have e:(ah ts s).s=pG:=by simpa [sees]using q
  refine(dN (m:=0) h ht (.inr (by rw[e];decide)) (λhl =>?_)).weak (Nat.zero_le _);refine bF.bind (mf hl ht k _) (λv s1 a1 a2 a3 =>?_) 0 (by omega) (m2:=0);have e2:s1.op=s.op:=a3;rw[<- e2];exact bF.bind (m_ a2 ht [59] (by decide)) (λv s2 b1 b2 b3=>b3▸(hr s2 b2).2.2.2.2.2.2.1 k _ (hB.imp_right λq=>by omega)) 0 (by omega)
 ·exact gG h _
theorem D_ {s:St}(h:s.nx<ts.length)(a:List Int)(hB:o\/10*(ts.length-s.nx)+0<=B):bF ts o s 1 (s.op-1) (dD ts rec a s):=by
 have ek:(ae s).nx=s.nx+1:=rfl;unfold dD;split
 ·rename_i q;have e:(ah ts s).s=[44]:=by simpa [sees]using q
  refine(dN (m:=1) h ht (.inr (by rw[e];decide)) (λhl =>?_)).weak (by omega);refine bF.bind (mf hl ht 4 _) (λv s1 a1 a2 a3 =>?_) 1 (by omega) (m2:=1);have e2:s1.op=s.op:=a3;exact e2▸(hr s1 a2).2.2.2.2.2.2.2.1 _ (hB.imp_right λq=>by omega)
 ·refine bF.bind (uH h ht [41] (by decide)) (λv s1 a1 a2 a3 =>?_) 1 (by omega) (m2:=0);rw[<- a3];exact gG a2 _
theorem FR {s:St}(h:s.nx<ts.length)(hB:o\/10*(ts.length-s.nx)+0<=B):bF ts o s 1 s.op (gy ts rec s):=by
 unfold gy;refine bF.bind (nV h ht [40] (by decide)) (λv s1 a1 a2 a3 =>?_) 1 (by omega) (m2:=0);have e:s1.op-1=s.op:=by omega
 split
 ·exact(e▸(hr s1 a2).2.2.2.2.2.2.2.1 _ (hB.imp_right λq=>by omega)).weak (Nat.zero_le _)
 ·refine bF.bind (mf a2 ht 4 _) (λv s2 b1 b2 b3 =>?_) 0 (by omega) (m2:=1);have e2:s2.op-1=s.op:=by omega
  exact e2▸(hr s2 b2).2.2.2.2.2.2.2.1 _ (hB.imp_right λq=>by omega)
theorem Cv {s:St}(h:s.nx<ts.length)(hB:o\/10*(ts.length-s.nx)+0<=B):bF ts o s 1 s.op (jl ts rec s):=by
 unfold jl;simp only;refine bF.bind (m_ h ht kM (by decide)) (λv s1 a1 a2 a3 =>?_) 1 (by omega) (m2:=0);rw[<- a3];refine bF.bind (ng a2 ht) (λv s2 b1 b2 b3 =>?_) 0 (by omega) (m2:=0);rw[<- b3];refine bF.bind (FR ht hr b2 (hB.imp_right λq=>by omega)) (λv s3 c1 c2 c3 =>?_) 0 (by omega) (m2:=0);rw[<- c3];refine bF.bind (m:=0) (n:=s3.op) ?_ (λv s4 d1 d2 d3 =>?_) 0 (by omega) (m2:=0)
 ·split
  ·exact gG c2 _
  ·exact(Cs c2 ht).weak (Nat.zero_le _)
 ·refine bF.bind (nV d2 ht [123] (by decide)) (λv s5 e1 e2 e3 =>?_) 0 (by omega) (m2:=0);refine bF.bind ((hr s5 e2).2.2.2.2.2.2.1 5 [] (hB.imp_right λq=>by omega)) (λv s6 f1 f2 f3 =>?_) 0 (by omega) (m2:=0);refine bF.bind ((hr s6 f2).2.2.2.2.2.1 _ [] (hB.imp_right λq=>by omega)) (λv s7 g1 g2 g3 =>?_) 0 (by omega) (m2:=0);have e:s7.op=s3.op:=by omega
  exact e▸dH g2 _ _ _ _ _
theorem FT {s:St}(h:s.nx<ts.length)(a:List Int)(hB:o\/10*(ts.length-s.nx)+0<=B):bF ts o s 0 s.op (gz ts rec a s):=by
 unfold gz;split
 ·exact bF.bind (Cv ht hr h (hB.imp_right λq=>by omega)) (λv s1 a1 a2 a3=>a3▸(hr s1 a2).2.2.2.2.2.2.2.2 _ (hB.imp_right λq=>by omega)) 0 (by omega)
 ·exact gG h _
omit ht in
theorem A_ {s:St}(h:s.nx<ts.length)(hB:o\/10*(ts.length-s.nx)+1<=B):bF ts o s 0 s.op (bT ts rec s):=by
 unfold bT;refine bF.bind ((hr s h).2.2.2.2.2.2.1 2 [] (hB.imp_right λq=>by omega)) (λv s1 a1 a2 a3 =>?_) 0 (by omega) (m2:=0);rw[<- a3];refine bF.bind ((hr s1 a2).2.2.2.2.2.2.2.2 _ (hB.imp_right λq=>by omega)) (λv s2 b1 b2 b3 =>?_) 0 (by omega) (m2:=0);rw[<- b3];exact bF.bind (FI b2) (λv s3 c1 c2 c3=>c3▸dH c2 _ _ _ _ _) 0 (by omega)
omit ht in
theorem J9 {s:St}(h:s.nx<ts.length)(hB:o\/10*(ts.length-s.nx)+9<=B):bF ts o s 0 s.op (jm ts rec s):=by
 unfold jm;refine bF.bind (gY hr h (hB.imp_right λq=>by omega)) (λv s1 a1 a2 a3 =>?_) 0 (by omega) (m2:=0);rw[<- a3];exact bF.bind (FI a2) (λv s3 c1 c2 c3=>c3▸gG c2 _) 0 (by omega)
end
theorem xS {ts:List Tok}(ht:p9 ts)(o:Prop):∀f,FJ ts o f (run ts f)
 |0=>λ_ _=>⟨λh=>h.elim id (λq=>by omega),λr _ h6 h=>h.elim id (λq=>by omega),λ_ _ _ _ h=>h.elim id (λq=>by omega),λ_ h=>h.elim id (λq=>by omega),λh=>h.elim id (λq=>by omega),λ_ _ h=>h.elim id (λq=>by omega),λ_ _ h=>h.elim id (λq=>by omega),λ_ h=>h.elim id (λq=>by omega),λ_ h=>h.elim id (λq=>by omega)⟩
 |f+1=>λ_ h=>
  have hr:=xS ht o f
  ⟨λhb=>NL ht hr h (hb.imp_right λq=>by omega),λr h1 h6 hb=>NM hr h r h1 h6 (hb.imp_right λq=>by omega),λr l h1 h5 hb=>J4 ht hr h r l h1 h5 (hb.imp_right λq=>by omega),λa hb=>FM ht hr h a (hb.imp_right λq=>by omega),
   λhb=>J7 ht hr h (hb.imp_right λq=>by omega),λp a hb=>FN ht hr h p a (hb.imp_right λq=>by omega),λk a hb=>J8 ht hr h k a (hb.imp_right λq=>by omega),λa hb=>D_ ht hr h a (hb.imp_right λq=>by omega),λa hb=>FT ht hr h a (hb.imp_right λq=>by omega)⟩
def st0:St:=⟨0,[],0,0⟩
def steps (ts:List Tok):Nat:=10*ts.length+10
def iH (ts:List Tok):Rs:=bT ts (run ts (steps ts)) st0
def gP (ts:List Tok):Rs:=jm ts (run ts (steps ts)) st0
theorem uI {ts:List Tok}(ht:p9 ts):bF ts False st0 0 0 (iH ts):=
 A_ (xS ht False (steps ts)) (s:=st0) ht.pos (.inr (by show 10*(ts.length-0)+1<=10*ts.length+10;omega))
theorem q9 {ts:List Tok}(ht:p9 ts):bF ts False st0 0 0 (gP ts):=
 J9 (xS ht False (steps ts)) (s:=st0) ht.pos (.inr (by show 10*(ts.length-0)+9<=10*ts.length+10;omega))
theorem bF.cases {ts:List Tok}{s:St}{m n:Nat}{r:Rs}(h:bF ts False s m n r):(∃v s',r=.ok v s'/\s'.nx<ts.length/\s'.op=n)\/∃p e,r=.no p e/\(∃t ∈ ts,t.p=p)/\(e=2\/e=6):=by
 cases r with
 |out=>exact h.elim
 |no p e=>exact .inr ⟨p,e,rfl,h⟩
 |ok v s'=>exact .inl ⟨v,s',rfl,h.2.1,h.2.2⟩
end Go.Proofs.YteecfjhjllajlaaGreatDoor
