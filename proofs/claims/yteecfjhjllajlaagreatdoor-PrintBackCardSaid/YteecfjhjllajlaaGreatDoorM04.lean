/- PROVED: Pc. No more condition. -/
import Derived.Test.YteecfjhjllajlaaGreatDoorM02
namespace Go.Proofs.YteecfjhjllajlaaGreatDoor
structure Tok where
 k:Nat
 n:Int
 p:Nat
 s:List UInt8
deriving DecidableEq,Repr
structure Nd where
 kd:Int
 n:Int
 pl:Int
 tx:List UInt8
 ks:List Int
deriving DecidableEq,Repr
structure St where
 nx:Nat
 nd:List Nd
 op:Nat
 mo:Nat
deriving DecidableEq,Repr
inductive Rs where
 |out
 |no (p:Nat) (e:Nat)
 |ok (v:List Int) (s:St)
deriving DecidableEq,Repr
def Rs.bind (r:Rs)(f:List Int->St->Rs):Rs:=
 match r with
 | .out =>.out
 | .no p e =>.no p e
 | .ok v s=>f v s
theorem Rs.bind_ok {r:Rs}{f:List Int->St->Rs}{v:List Int}{s:St}(h:r.bind f=.ok v s):∃v' s',r=.ok v' s'/\f v' s' = .ok v s:=by
 cases r with
 |out=>cases h
 |no p e=>cases h
 |ok v' s'=>exact⟨v',s',rfl,h⟩
theorem Rs.bind_in {r:Rs}{f:List Int->St->Rs}(h:r.bind f ≠ .out):r ≠ .out:=λe=>h (by rw[e];rfl)
section
variable (ts:List Tok)
def ah (s:St):Tok:=ts.getD s.nx ⟨5,0,0,[]⟩
def sees (x:List UInt8)(s:St):Bool:=(ah ts s).s==x
def ae (s:St):St := {s with nx:=s.nx+1}
def gJ (x:List UInt8)(s:St):Rs:=if sees ts x s=true then .ok [] (ae s) else .no (ah ts s).p 2
def fJ (s:St):Rs:=if (ah ts s).k=1 then .ok [] (ae s) else .no (ah ts s).p 2
def mM (s:St):Rs:=if (ah ts s).k=5 then .ok [] s else .no (ah ts s).p 2
def iw (x:List UInt8)(s:St):Rs:=
 if sees ts x s=true/\s.op=40 then .no (ah ts s).p 6 else (gJ ts x s).bind λ_ s =>.ok [] {s with op:=s.op+1,mo:=max s.mo (s.op+1)}
def jv (x:List UInt8)(s:St):Rs:=(gJ ts x s).bind λ_ s =>.ok [] {s with op:=s.op-1}
def bC (kd n pl:Int)(tx:List UInt8)(ks:List Int)(s:St):Rs :=.ok [(s.nd.length:Int)] {s with nd:=s.nd++[⟨kd,n,pl,tx,ks⟩]}
end
def oZ:List UInt8:=[118,97,114]
def kH:List UInt8:=[112,114,111,99]
def Py:List UInt8:=[105,110,116]
def Mc:List UInt8:=[98,111,111,108]
def PD:List UInt8:=[97,114,114]
def PG:List UInt8:=[102,117,110]
def BH:List UInt8:=[105,110]
def nL:List UInt8:=[111,117,116]
def Af:List UInt8:=[105,102]
def j4:List UInt8:=[101,108,115,101]
def iL:List UInt8:=[119,104,105,108,101]
def dK:List UInt8:=[99,97,108,108]
def dL:List UInt8:=[114,101,116,117,114,110]
def jw:List UInt8:=[116,104,114,111,119]
def tC:List UInt8:=[116,114,121]
def mO:List UInt8:=[99,97,116,99,104]
def tF:List UInt8:=[110,101,119]
def um:List UInt8:=[108,101,110]
def fK:List UInt8:=[116,114,117,101]
def jy:List UInt8:=[102,97,108,115,101]
def typeOf (x:List UInt8):Nat:=if x=Py then 1 else if x=Mc then 2 else if x=PD then 3 else if x=PG then 4 else 0
def rowOf (x:List UInt8):Nat:=
 if x=[124,124] then 1 else if x=[38,38] then 2
 else if x=[61,61]\/x=[33,61]\/x=[60]\/x=[60,61]\/x=[62]\/x=[62,61] then 3
 else if x=[43]\/x=[45] then 4 else if x=[42]\/x=[47]\/x=[37] then 5 else 0
inductive nI where
 |una
 |bin (r:Nat)
 |loop (r:Nat) (left:List Int)
 |exprs (acc:List Int)
 |stmt
 |stmts (pl:Int) (acc:List Int)
 |vars (kd:Nat) (acc:List Int)
 |params (acc:List Int)
 |procs (acc:List Int)
section
variable (ts:List Tok) (rec:nI->St->Rs)
def a_ (s:St):Rs:=rec (.bin 1) s
def lv (s:St):Rs:=(iw ts [91] s).bind λ_ s=>(a_ rec s).bind λv s=>(jv ts [93] s).bind λ_ s =>.ok v s
def gp (kd:Nat)(s:St):Rs:=let t:=ah ts s;(fJ ts s).bind λ_ s=>bC kd 0 t.p t.s [] s
def iy (s:St):Rs:=let t:=ah ts s;(fJ ts s).bind λ_ s=>if sees ts [91] s=true then (lv ts rec s).bind λv s=>bC 23 0 t.p t.s v s else bC 22 0 t.p t.s [] s
def iA (s:St):Rs:=let t:=ah ts s;(iw ts t.s s).bind λ_ s=>(rec .una s).bind λv s=>bC 26 0 t.p t.s v {s with op:=s.op-1}
def gD (kd:Nat)(s:St):Rs:=let t:=ah ts s;let s:=ae s;let u:=ah ts s;(fJ ts s).bind λ_ s=>bC kd 0 t.p u.s [] s
def bf (s:St):Rs:=
 let t:=ah ts s
 if t.k=1 then iy ts rec s
 else if t.k=2 then bC 20 t.n t.p [] [] (ae s)
 else if t.s=[45]\/t.s=[33] then iA ts rec s
 else if t.s=fK\/t.s=jy then bC 21 (if t.s=fK then 1 else 0) t.p [] [] (ae s)
 else if t.s=um then gD ts 24 s
 else if t.s=[38] then gD ts 25 s
 else if t.s=[40] then (iw ts [40] s).bind λ_ s=>(a_ rec s).bind λv s=>(jv ts [41] s).bind λ_ s =>.ok v s
 else .no t.p 2
def iY (r:Nat)(s:St):Rs:=if 5<r then rec .una s else (rec (.bin (r+1)) s).bind λv s=>rec (.loop r v) s
def jl (r:Nat)(left:List Int)(s:St):Rs:=
 let t:=ah ts s
 if rowOf t.s=r then (rec (.bin (r+1)) (ae s)).bind λv s=>(bC 27 0 t.p t.s (left++v) s).bind λv s=>rec (.loop r v) s else .ok left s
def eQ (acc:List Int)(s:St):Rs:=
 if sees ts [44] s=true then (a_ rec (ae s)).bind λv s=>rec (.exprs (acc++v)) s else (jv ts [41] s).bind λ_ s =>.ok acc s
def jb (s:St):Rs:=(iw ts [40] s).bind λ_ s=>if sees ts [41] s=true then rec (.exprs []) s else (a_ rec s).bind λv s=>rec (.exprs v) s
def gq (tx:List UInt8)(pl:Int)(s:St):Rs:=(gJ ts dK s).bind λ_ s=>(gp ts 19 s).bind λv s=>(jb ts rec s).bind λvs s=>bC 13 0 pl tx (v++vs) s
def dm (s:St):Rs:=let t:=ah ts s;(iw ts [123] s).bind λ_ s=>rec (.stmts t.p []) s
def fV (pl:Int)(acc:List Int)(s:St):Rs:=if sees ts [125] s=true then (jv ts [125] s).bind λ_ s=>bC 6 0 pl [] acc s else (rec .stmt s).bind λv s=>rec (.stmts pl (acc++v)) s
def bJ (v:List Int)(s:St):Rs:=(gJ ts [59] s).bind λ_ s =>.ok v s
def bI (t:Tok)(s:St):Rs:=
 let x:=(ah ts s).s
 if x=BH then (gp ts 18 (ae s)).bind λv s=>bC 9 0 t.p t.s v s
 else if x=dK then gq ts rec t.s t.p s
 else if x=tF then (a_ rec (ae s)).bind λv s=>bC 17 0 t.p t.s v s
 else (a_ rec s).bind λv s=>bC 7 0 t.p t.s v s
def d9 (s:St):Rs:=
 let t:=ah ts s
 (fJ ts s).bind λ_ s=>if sees ts [91] s=true
  then (lv ts rec s).bind λi s=>(gJ ts [61] s).bind λ_ s=>(a_ rec s).bind λv s=>(bC 8 0 t.p t.s (i++v) s).bind λv s=>bJ ts v s
  else (gJ ts [61] s).bind λ_ s=>(bI ts rec t s).bind λv s=>bJ ts v s
def lT (s:St):Rs:=let t:=ah ts s;(gp ts 18 (ae s)).bind λc s=>(a_ rec s).bind λv s=>(bC 10 0 t.p [] (c++v) s).bind λv s=>bJ ts v s
def vX (s:St):Rs:=
 let t:=ah ts s
 (a_ rec (ae s)).bind λc s=>(dm ts rec s).bind λa s=>if sees ts j4 s=true
  then (dm ts rec (ae s)).bind λb s=>bC 11 0 t.p [] (c++a++b) s
  else (bC 6 0 t.p [] [] s).bind λb s=>bC 11 0 t.p [] (c++a++b) s
def h_ (s:St):Rs:=let t:=ah ts s;(a_ rec (ae s)).bind λc s=>(dm ts rec s).bind λa s=>bC 12 0 t.p [] (c++a) s
def cO (s:St):Rs:=let t:=ah ts s;let s:=ae s;if sees ts [59] s=true then bC 14 0 t.p [] [] s else (a_ rec s).bind λv s=>bC 14 0 t.p [] v s
def iM (s:St):Rs:=let t:=ah ts s;(a_ rec (ae s)).bind λv s=>bC 15 0 t.p [] v s
def lU (s:St):Rs:=let t:=ah ts s;(dm ts rec (ae s)).bind λa s=>(gJ ts mO s).bind λ_ s=>let u:=ah ts s;(fJ ts s).bind λ_ s=>(dm ts rec s).bind λb s=>bC 16 0 t.p u.s (a++b) s
def aO (s:St):Rs:=
 let t:=ah ts s
 if t.k=1 then d9 ts rec s
 else if t.s=nL then lT ts rec s
 else if t.s=Af then vX ts rec s
 else if t.s=iL then h_ ts rec s
 else if t.s=dK then (gq ts rec [] t.p s).bind λv s=>bJ ts v s
 else if t.s=dL then (cO ts rec s).bind λv s=>bJ ts v s
 else if t.s=jw then (iM ts rec s).bind λv s=>bJ ts v s
 else if t.s=tC then lU ts rec s
 else .no t.p 2
def iB (s:St):Rs:=let n:=typeOf (ah ts s).s;if n=0 then .no (ah ts s).p 2 else .ok [(n:Int)] (ae s)
def d_ (kd:Nat)(pl:Int)(s:St):Rs:=let t:=ah ts s;(fJ ts s).bind λ_ s=>(iB ts s).bind λn s=>bC kd (n.headD 0) pl t.s [] s
def jm (kd:Nat)(acc:List Int)(s:St):Rs:=
 if sees ts oZ s=true then (d_ ts kd (ah ts s).p (ae s)).bind λv s=>(gJ ts [59] s).bind λ_ s=>rec (.vars kd (acc++v)) s else .ok acc s
def ib (s:St):Rs:=d_ ts 4 (ah ts s).p s
def dD (acc:List Int)(s:St):Rs:=
 if sees ts [44] s=true then (ib ts (ae s)).bind λv s=>rec (.params (acc++v)) s else (jv ts [41] s).bind λ_ s =>.ok acc s
def fZ (s:St):Rs:=(iw ts [40] s).bind λ_ s=>if sees ts [41] s=true then rec (.params []) s else (ib ts s).bind λv s=>rec (.params v) s
def jc (s:St):Rs:=
 let t:=ah ts s
 (gJ ts kH s).bind λ_ s=>let u:=ah ts s;(fJ ts s).bind λ_ s=>(fZ ts rec s).bind λps s=>
  (if sees ts [123] s=true then .ok [0] s else iB ts s).bind λn s=>let b:=ah ts s;(iw ts [123] s).bind λ_ s=>
   (rec (.vars 5 []) s).bind λvs s=>(rec (.stmts b.p []) s).bind λbl s=>bC 3 (n.headD 0) t.p u.s (ps++vs++bl) s
def f_ (acc:List Int)(s:St):Rs:=if sees ts kH s=true then (jc ts rec s).bind λv s=>rec (.procs (acc++v)) s else .ok acc s
def bT (s:St):Rs:=(rec (.vars 2 []) s).bind λvs s=>(rec (.procs vs) s).bind λps s=>(mM ts s).bind λ_ s=>bC 1 0 0 [] ps s
def kI (s:St):Rs:=(a_ rec s).bind λv s=>(mM ts s).bind λ_ s =>.ok v s
end
def run (ts:List Tok):Nat->nI->St->Rs
 |0,_,_ =>.out
 |f+1,j,s=>match j with
  | .una=>bf ts (run ts f) s
  | .bin r=>iY (run ts f) r s
  | .loop r l=>jl ts (run ts f) r l s
  | .exprs a=>eQ ts (run ts f) a s
  | .stmt=>aO ts (run ts f) s
  | .stmts p a=>fV ts (run ts f) p a s
  | .vars k a=>jm ts (run ts f) k a s
  | .params a=>dD ts (run ts f) a s
  | .procs a=>f_ ts (run ts f) a s
structure pV (ts:List Tok):Prop where
 pos:0<ts.length
 text:∀i (h:i<ts.length),i+1<ts.length->ts[i].s≠[]
 kind:∀i (h:i<ts.length),i+1<ts.length->ts[i].k≠5
 lastS:∀h:ts.length-1<ts.length,ts[ts.length-1].s=[]
 lastK:∀h:ts.length-1<ts.length,ts[ts.length-1].k=5
theorem xh {ts:List Tok}{s:St}(h:s.nx<ts.length):ah ts s=ts[s.nx]:=by unfold ah;simp[List.getD,h]
theorem BI {ts:List Tok}{s:St}(h:s.nx<ts.length):ah ts s ∈ ts:=by rw[xh h];exact List.getElem_mem _
theorem pV.more {ts:List Tok}(ht:pV ts){s:St}(h:s.nx<ts.length)(hs:(ah ts s).s≠[]):s.nx+1<ts.length:=by
 by_cases e:s.nx+1=ts.length
 ·exfalso;apply hs;rw[xh h];have:=ht.lastS (by omega);have e2:ts.length-1=s.nx:=by omega
  simp only[e2]at this;exact this
 ·omega
theorem pV.moreK {ts:List Tok}(ht:pV ts){s:St}(h:s.nx<ts.length)(hs:(ah ts s).k≠5):s.nx+1<ts.length:=by
 by_cases e:s.nx+1=ts.length
 ·exfalso;apply hs;rw[xh h];have:=ht.lastK (by omega);have e2:ts.length-1=s.nx:=by omega
  simp only[e2]at this;exact this
 ·omega
def bD (ts:List Tok)(o:Prop)(s:St)(m n:Nat):Rs->Prop
 | .out=>o
 | .no p e=>(∃t ∈ ts,t.p=p)/\(e=2\/e=6)
 | .ok _ s'=>s.nx+m<=s'.nx/\s'.nx<ts.length/\s'.op=n
theorem bD.bind {ts:List Tok}{o:Prop}{s:St}{m n m2 n2:Nat}{r:Rs}{f:List Int->St->Rs}(h:bD ts o s m n r)(k:∀v s',s.nx+m<=s'.nx->s'.nx<ts.length->s'.op=n->bD ts o s' m2 n2 (f v s'))(m3:Nat)(hm:m3<=m+m2):bD ts o s m3 n2 (r.bind f):=by
 cases r with
 |out=>exact h
 |no p e=>exact h
 |ok v s'=>
  have h2:=k v s' h.1 h.2.1 h.2.2;show bD ts o s m3 n2 (f v s');cases hf:f v s' with
  |out=>rw[hf]at h2;exact h2
  |no p e=>rw[hf]at h2;exact h2
  |ok v2 s2=>rw[hf]at h2;exact⟨by have:=h.1;have:=h2.1;omega,h2.2.1,h2.2.2⟩
theorem bD.weak {ts:List Tok}{o:Prop}{s:St}{m m' n:Nat}{r:Rs}(h:bD ts o s m n r)(hm:m'<=m):bD ts o s m' n r:=by
 cases r with
 |out=>exact h
 |no p e=>exact h
 |ok v s'=>exact⟨by have:=h.1;omega,h.2.1,h.2.2⟩
section
variable {ts:List Tok} {o:Prop} {s:St} (h:s.nx<ts.length)
include h
theorem gu (v:List Int):bD ts o s 0 s.op (.ok v s):=⟨Nat.le_refl _,h,rfl⟩
theorem uo (e:Nat)(he:e=2\/e=6)(m n:Nat):bD ts o s m n (.no (ah ts s).p e):=⟨⟨_,BI h,rfl⟩,he⟩
theorem dG (kd n pl:Int)(tx:List UInt8)(ks:List Int):bD ts o s 0 s.op (bC kd n pl tx ks s):=⟨Nat.le_refl _,h,rfl⟩
theorem ES:bD ts o s 0 s.op (mM ts s):=by
 unfold mM;split
 ·exact gu h _
 ·exact uo h 2 (.inl rfl) _ _
variable (ht:pV ts)
include ht
theorem dM {m n:Nat}{r:Rs}(hs:(ah ts s).k≠5\/(ah ts s).s≠[])(k:(ae s).nx<ts.length->bD ts o (ae s) m n r):bD ts o s (m+1) n r:=by
 have hl:s.nx+1<ts.length:=by
  rcases hs with q |q
  ·exact ht.moreK h q
  ·exact ht.more h q
 have h2:=k hl;cases r with
 |out=>exact h2
 |no p e=>exact h2
 |ok v s'=>exact⟨by have:=h2.1;have e:(ae s).nx=s.nx+1:=rfl;omega,h2.2.1,h2.2.2⟩
theorem mP (x:List UInt8)(hx:x≠[]):bD ts o s 1 s.op (gJ ts x s):=by
 unfold gJ;split
 ·rename_i q;have e:(ah ts s).s=x:=by simpa [sees]using q
  exact dM (m:=0) h ht (.inr (by rw[e];exact hx)) (λhl=>gu hl _)
 ·exact uo h 2 (.inl rfl) _ _
theorem mQ:bD ts o s 1 s.op (fJ ts s):=by
 unfold fJ;split
 ·rename_i q;exact dM (m:=0) h ht (.inl (by rw[q];decide)) (λhl=>gu hl _)
 ·exact uo h 2 (.inl rfl) _ _
theorem nM (x:List UInt8)(hx:x≠[]):bD ts o s 1 (s.op+1) (iw ts x s):=by
 unfold iw;split
 ·exact uo h 6 (.inr rfl) _ _
 ·refine bD.bind (m2:=0) (n2:=s.op+1) (mP h ht x hx) (λv s' h1 h2 h3 =>?_) 1 (by omega);exact⟨Nat.le_refl _,h2,by show s'.op+1=s.op+1;rw[h3]⟩
theorem uq (x:List UInt8)(hx:x≠[]):bD ts o s 1 (s.op-1) (jv ts x s):=by
 unfold jv;refine bD.bind (m2:=0) (n2:=s.op-1) (mP h ht x hx) (λv s' h1 h2 h3 =>?_) 1 (by omega);exact⟨Nat.le_refl _,h2,by show s'.op-1=s.op-1;rw[h3]⟩
theorem BJ:bD ts o s 1 s.op (iB ts s):=by
 unfold iB;simp only;split
 ·exact uo h 2 (.inl rfl) _ _
 ·rename_i q;refine dM (m:=0) h ht (.inr (λe=>q ?_)) (λhl=>gu hl _);rw[e];decide
theorem xm (kd:Nat):bD ts o s 1 s.op (gp ts kd s):=by
 unfold gp;simp only;exact bD.bind (mQ h ht) (λv s' h1 h2 h3=>h3▸dG h2 _ _ _ _ _) 1 (by omega)
theorem lV (kd:Nat)(pl:Int):bD ts o s 1 s.op (d_ ts kd pl s):=by
 unfold d_;simp only;refine bD.bind (mQ h ht) (λv s' h1 h2 h3 =>?_) 1 (by omega) (m2:=0);rw[<- h3];exact bD.bind (BJ h2 ht) (λv s2 h4 h5 h6=>h6▸dG h5 _ _ _ _ _) 0 (by omega)
end
def ET (ts:List Tok)(o:Prop)(B:Nat)(rec:nI->St->Rs):Prop:=∀s:St,s.nx<ts.length ->
 (o\/10*(ts.length-s.nx)+2<=B->bD ts o s 1 s.op (rec .una s))/\(∀r,1<=r->r<=6->(o\/10*(ts.length-s.nx)+(10-r)<=B)->bD ts o s 1 s.op (rec (.bin r) s)) /\
 (∀r l,1<=r->r<=5->(o\/10*(ts.length-s.nx)+1<=B)->bD ts o s 0 s.op (rec (.loop r l) s))/\(∀a,(o\/10*(ts.length-s.nx)+1<=B)->bD ts o s 1 (s.op-1) (rec (.exprs a) s)) /\
 (o\/10*(ts.length-s.nx)+2<=B->bD ts o s 1 s.op (rec .stmt s))/\(∀p a,(o\/10*(ts.length-s.nx)+4<=B)->bD ts o s 1 (s.op-1) (rec (.stmts p a) s)) /\
 (∀k a,(o\/10*(ts.length-s.nx)+1<=B)->bD ts o s 0 s.op (rec (.vars k a) s))/\(∀a,(o\/10*(ts.length-s.nx)+1<=B)->bD ts o s 1 (s.op-1) (rec (.params a) s)) /\
 ∀a,(o\/10*(ts.length-s.nx)+1<=B)->bD ts o s 0 s.op (rec (.procs a) s)
section
variable {ts:List Tok} {o:Prop} {B:Nat} {rec:nI->St->Rs} (ht:pV ts) (hr:ET ts o B rec)
include ht hr
omit ht in
theorem gL {s:St}(h:s.nx<ts.length)(hB:o\/10*(ts.length-s.nx)+9<=B):bD ts o s 1 s.op (a_ rec s):=(hr s h).2.1 1 (Nat.le_refl _) (by omega) hB
theorem EU {s:St}(h:s.nx<ts.length)(hB:o\/10*(ts.length-s.nx)+0<=B):bD ts o s 1 s.op (lv ts rec s):=by
 unfold lv;refine bD.bind (nM h ht [91] (by decide)) (λv s1 a1 a2 a3 =>?_) 1 (by omega) (m2:=0);refine bD.bind (gL hr a2 (hB.imp_right λq=>by omega)) (λv s2 b1 b2 b3 =>?_) 0 (by omega) (m2:=0);refine bD.bind (uq b2 ht [93] (by decide)) (λv s3 c1 c2 c3 =>?_) 0 (by omega) (m2:=0);have e:s3.op=s.op:=by omega
 exact e▸gu c2 _
theorem EW {s:St}(h:s.nx<ts.length)(hB:o\/10*(ts.length-s.nx)+0<=B):bD ts o s 1 s.op ((iw ts [40] s).bind λ_ s=>(a_ rec s).bind λv s=>(jv ts [41] s).bind λ_ s =>.ok v s):=by
 refine bD.bind (nM h ht [40] (by decide)) (λv s1 a1 a2 a3 =>?_) 1 (by omega) (m2:=0);refine bD.bind (gL hr a2 (hB.imp_right λq=>by omega)) (λv s2 b1 b2 b3 =>?_) 0 (by omega) (m2:=0);refine bD.bind (uq b2 ht [41] (by decide)) (λv s3 c1 c2 c3 =>?_) 0 (by omega) (m2:=0);have e:s3.op=s.op:=by omega
 exact e▸gu c2 _
theorem Jk {s:St}(h:s.nx<ts.length)(hB:o\/10*(ts.length-s.nx)+0<=B):bD ts o s 1 s.op (iy ts rec s):=by
 unfold iy;simp only;refine bD.bind (mQ h ht) (λv s1 a1 a2 a3 =>?_) 1 (by omega) (m2:=0);rw[<- a3];split
 ·exact bD.bind (EU ht hr a2 (hB.imp_right λq=>by omega)) (λv s2 b1 b2 b3=>b3▸dG b2 _ _ _ _ _) 0 (by omega)
 ·exact dG a2 _ _ _ _ _
theorem Jl {s:St}(h:s.nx<ts.length)(hx:(ah ts s).s≠[])(hB:o\/10*(ts.length-s.nx)+0<=B):bD ts o s 1 s.op (iA ts rec s):=by
 unfold iA;simp only;refine bD.bind (nM h ht _ hx) (λv s1 a1 a2 a3 =>?_) 1 (by omega) (m2:=0);refine bD.bind ((hr s1 a2).1 (hB.imp_right λq=>by omega)) (λv s2 b1 b2 b3 =>?_) 0 (by omega) (m2:=0);exact⟨Nat.le_refl _,b2,by show s2.op-1=s.op;omega⟩
omit hr in
theorem BK {s:St}(h:s.nx<ts.length)(kd:Nat)(hx:(ah ts s).s≠[]):bD ts o s 1 s.op (gD ts kd s):=by
 unfold gD;simp only;refine(dM (m:=1) (n:=s.op) h ht (.inr hx) (λhl =>?_)).weak (by omega);exact bD.bind (mQ hl ht) (λv s1 a1 a2 a3=>a3▸dG a2 _ _ _ _ _) 1 (by omega)
theorem MP {s:St}(h:s.nx<ts.length)(hB:o\/10*(ts.length-s.nx)+1<=B):bD ts o s 1 s.op (bf ts rec s):=by
 have ek:(ae s).nx=s.nx+1:=rfl;unfold bf;simp only;split
 ·exact Jk ht hr h (hB.imp_right λq=>by omega)
 split
 ·rename_i q1 q2;exact dM (m:=0) h ht (.inl (by rw[q2];decide)) (λhl=>dG hl _ _ _ _ _)
 split
 ·rename_i q;exact Jl ht hr h (by rcases q with q |q<;>rw[q]<;>decide) (hB.imp_right λq=>by omega)
 split
 ·rename_i q;exact dM (m:=0) h ht (.inr (by rcases q with q |q<;>rw[q]<;>decide)) (λhl=>dG hl _ _ _ _ _)
 split
 ·rename_i q;exact BK ht h 24 (by rw[q];decide)
 split
 ·rename_i q;exact BK ht h 25 (by rw[q];decide)
 split
 ·exact EW ht hr h (hB.imp_right λq=>by omega)
 ·exact uo h 2 (.inl rfl) _ _
omit ht in
theorem MQ {s:St}(h:s.nx<ts.length)(r:Nat)(h1:1<=r)(h6:r<=6)(hB:o\/10*(ts.length-s.nx)+(9-r)<=B):bD ts o s 1 s.op (iY rec r s):=by
 unfold iY;split
 ·exact(hr s h).1 (hB.imp_right λq=>by omega)
 ·exact bD.bind ((hr s h).2.1 (r+1) (by omega) (by omega) (hB.imp_right λq=>by omega)) (λv s1 a1 a2 a3=>a3▸(hr s1 a2).2.2.1 r v h1 (by omega) (hB.imp_right λq=>by omega)) 1 (by omega)
omit ht hr in
theorem yQ {x:List UInt8}(h:rowOf x≠0):x≠[]:=λe=>h (by rw[e];decide)
theorem Jm {s:St}(h:s.nx<ts.length)(r:Nat)(l:List Int)(h1:1<=r)(h5:r<=5)(hB:o\/10*(ts.length-s.nx)+0<=B):bD ts o s 0 s.op (jl ts rec r l s):=by
 have ek:(ae s).nx=s.nx+1:=rfl;unfold jl;simp only;split
 ·rename_i q;refine(dM (m:=0) h ht (.inr (yQ (by omega))) (λhl =>?_)).weak (Nat.zero_le _);refine bD.bind ((hr _ hl).2.1 (r+1) (by omega) (by omega) (hB.imp_right λq=>by omega)) (λv s1 a1 a2 a3 =>?_) 0 (by omega) (m2:=0);refine bD.bind (dG a2 _ _ _ _ _) (λv s2 b1 b2 b3 =>?_) 0 (by omega) (m2:=0);have e:s2.op=s.op:=by rw[b3,a3];rfl
  exact e▸(hr s2 b2).2.2.1 r v h1 h5 (hB.imp_right λq=>by omega)
 ·exact gu h _
theorem EX {s:St}(h:s.nx<ts.length)(a:List Int)(hB:o\/10*(ts.length-s.nx)+0<=B):bD ts o s 1 (s.op-1) (eQ ts rec a s):=by
 have ek:(ae s).nx=s.nx+1:=rfl;unfold eQ;split
 ·rename_i q;have e:(ah ts s).s=[44]:=by simpa [sees]using q
  refine(dM (m:=1) h ht (.inr (by rw[e];decide)) (λhl =>?_)).weak (by omega);refine bD.bind (gL hr hl (hB.imp_right λq=>by omega)) (λv s1 a1 a2 a3 =>?_) 1 (by omega) (m2:=1);have e2:s1.op=s.op:=a3;exact e2▸(hr s1 a2).2.2.2.1 _ (hB.imp_right λq=>by omega)
 ·refine bD.bind (uq h ht [41] (by decide)) (λv s1 a1 a2 a3 =>?_) 1 (by omega) (m2:=0);rw[<- a3];exact gu a2 _
theorem Jn {s:St}(h:s.nx<ts.length)(hB:o\/10*(ts.length-s.nx)+0<=B):bD ts o s 1 s.op (jb ts rec s):=by
 unfold jb;refine bD.bind (nM h ht [40] (by decide)) (λv s1 a1 a2 a3 =>?_) 1 (by omega) (m2:=0);have e:s1.op-1=s.op:=by omega
 split
 ·exact(e▸(hr s1 a2).2.2.2.1 _ (hB.imp_right λq=>by omega)).weak (Nat.zero_le _)
 ·refine bD.bind (gL hr a2 (hB.imp_right λq=>by omega)) (λv s2 b1 b2 b3 =>?_) 0 (by omega) (m2:=1);have e2:s2.op-1=s.op:=by omega
  exact e2▸(hr s2 b2).2.2.2.1 _ (hB.imp_right λq=>by omega)
theorem BL {s:St}(h:s.nx<ts.length)(tx:List UInt8)(pl:Int)(hB:o\/10*(ts.length-s.nx)+0<=B):bD ts o s 1 s.op (gq ts rec tx pl s):=by
 unfold gq;refine bD.bind (mP h ht dK (by decide)) (λv s1 a1 a2 a3 =>?_) 1 (by omega) (m2:=0);rw[<- a3];refine bD.bind (xm a2 ht 19) (λv s2 b1 b2 b3 =>?_) 0 (by omega) (m2:=0);rw[<- b3];exact bD.bind (Jn ht hr b2 (hB.imp_right λq=>by omega)) (λv s3 c1 c2 c3=>c3▸dG c2 _ _ _ _ _) 0 (by omega)
theorem nN {s:St}(h:s.nx<ts.length)(hB:o\/10*(ts.length-s.nx)+0<=B):bD ts o s 1 s.op (dm ts rec s):=by
 unfold dm;simp only;refine bD.bind (nM h ht [123] (by decide)) (λv s1 a1 a2 a3 =>?_) 1 (by omega) (m2:=1);have e:s1.op-1=s.op:=by omega
 exact e▸(hr s1 a2).2.2.2.2.2.1 _ _ (hB.imp_right λq=>by omega)
theorem EY {s:St}(h:s.nx<ts.length)(pl:Int)(a:List Int)(hB:o\/10*(ts.length-s.nx)+3<=B):bD ts o s 1 (s.op-1) (fV ts rec pl a s):=by
 unfold fV;split
 ·refine bD.bind (uq h ht [125] (by decide)) (λv s1 a1 a2 a3 =>?_) 1 (by omega) (m2:=0);rw[<- a3];exact dG a2 _ _ _ _ _
 ·refine bD.bind ((hr s h).2.2.2.2.1 (hB.imp_right λq=>by omega)) (λv s1 a1 a2 a3 =>?_) 1 (by omega) (m2:=1);rw[<- a3];exact(hr s1 a2).2.2.2.2.2.1 _ _ (hB.imp_right λq=>by omega)
omit hr in
theorem qP {s:St}(h:s.nx<ts.length)(v:List Int):bD ts o s 1 s.op (bJ ts v s):=by
 unfold bJ;exact bD.bind (mP h ht [59] (by decide)) (λv s1 a1 a2 a3=>a3▸gu a2 _) 1 (by omega)
theorem Jo {s:St}(h:s.nx<ts.length)(t:Tok)(hB:o\/10*(ts.length-s.nx)+9<=B):bD ts o s 0 s.op (bI ts rec t s):=by
 have ek:(ae s).nx=s.nx+1:=rfl;unfold bI;simp only;split
 ·rename_i q;refine(dM (m:=0) h ht (.inr (by rw[q];decide)) (λhl =>?_)).weak (Nat.zero_le _);exact bD.bind (xm hl ht 18) (λv s1 a1 a2 a3=>a3▸dG a2 _ _ _ _ _) 0 (by omega)
 split
 ·exact(BL ht hr h _ _ (hB.imp_right λq=>by omega)).weak (Nat.zero_le _)
 split
 ·rename_i q1 q2 q;refine(dM (m:=0) h ht (.inr (by rw[q];decide)) (λhl =>?_)).weak (Nat.zero_le _);exact bD.bind (gL hr hl (hB.imp_right λq=>by omega)) (λv s1 a1 a2 a3=>a3▸dG a2 _ _ _ _ _) 0 (by omega)
 ·exact bD.bind (gL hr h (hB.imp_right λq=>by omega)) (λv s1 a1 a2 a3=>a3▸dG a2 _ _ _ _ _) 0 (by omega)
theorem EZ {s:St}(h:s.nx<ts.length)(hB:o\/10*(ts.length-s.nx)+0<=B):bD ts o s 1 s.op (d9 ts rec s):=by
 unfold d9;simp only;refine bD.bind (mQ h ht) (λv s1 a1 a2 a3 =>?_) 1 (by omega) (m2:=0);rw[<- a3];split
 ·refine bD.bind (EU ht hr a2 (hB.imp_right λq=>by omega)) (λv s2 b1 b2 b3 =>?_) 0 (by omega) (m2:=0);rw[<- b3];refine bD.bind (mP b2 ht [61] (by decide)) (λv s3 c1 c2 c3 =>?_) 0 (by omega) (m2:=0);rw[<- c3];refine bD.bind (gL hr c2 (hB.imp_right λq=>by omega)) (λv s4 d1 d2 d3 =>?_) 0 (by omega) (m2:=0);rw[<- d3];refine bD.bind (dG d2 _ _ _ _ _) (λv s5 e1 e2 e3 =>?_) 0 (by omega) (m2:=0);rw[<- e3];exact(qP ht e2 _).weak (Nat.zero_le _)
 ·refine bD.bind (mP a2 ht [61] (by decide)) (λv s3 c1 c2 c3 =>?_) 0 (by omega) (m2:=0);rw[<- c3];refine bD.bind (Jo ht hr c2 _ (hB.imp_right λq=>by omega)) (λv s4 d1 d2 d3 =>?_) 0 (by omega) (m2:=0);rw[<- d3];exact(qP ht d2 _).weak (Nat.zero_le _)
theorem MR {s:St}(h:s.nx<ts.length)(hx:(ah ts s).s≠[])(hB:o\/10*(ts.length-s.nx)+0<=B):bD ts o s 1 s.op (lT ts rec s):=by
 have ek:(ae s).nx=s.nx+1:=rfl;unfold lT;simp only;refine dM (m:=0) h ht (.inr hx) (λhl =>?_);refine bD.bind (xm hl ht 18) (λv s1 a1 a2 a3 =>?_) 0 (by omega) (m2:=0);have e:s1.op=s.op:=a3;rw[<- e];refine bD.bind (gL hr a2 (hB.imp_right λq=>by omega)) (λv s4 d1 d2 d3 =>?_) 0 (by omega) (m2:=0);rw[<- d3];refine bD.bind (dG d2 _ _ _ _ _) (λv s5 e1 e2 e3 =>?_) 0 (by omega) (m2:=0);rw[<- e3];exact(qP ht e2 _).weak (Nat.zero_le _)
theorem PH {s:St}(h:s.nx<ts.length)(hx:(ah ts s).s≠[])(hB:o\/10*(ts.length-s.nx)+0<=B):bD ts o s 1 s.op (vX ts rec s):=by
 have ek:(ae s).nx=s.nx+1:=rfl;unfold vX;simp only;refine dM (m:=0) h ht (.inr hx) (λhl =>?_);refine bD.bind (gL hr hl (hB.imp_right λq=>by omega)) (λv s1 a1 a2 a3 =>?_) 0 (by omega) (m2:=0);have e:s1.op=s.op:=a3;rw[<- e];refine bD.bind (nN ht hr a2 (hB.imp_right λq=>by omega)) (λv s2 b1 b2 b3 =>?_) 0 (by omega) (m2:=0);rw[<- b3];split
 ·rename_i q;have e2:(ah ts s2).s=j4:=by simpa [sees]using q
  have ek2:(ae s2).nx=s2.nx+1:=rfl;refine(dM (m:=0) b2 ht (.inr (by rw[e2];decide)) (λhl2 =>?_)).weak (Nat.zero_le _);exact bD.bind (nN ht hr hl2 (hB.imp_right λq=>by omega)) (λv s3 c1 c2 c3=>c3▸dG c2 _ _ _ _ _) 0 (by omega)
 ·exact bD.bind (dG b2 _ _ _ _ _) (λv s3 c1 c2 c3=>c3▸dG c2 _ _ _ _ _) 0 (by omega)
theorem E5 {s:St}(h:s.nx<ts.length)(hx:(ah ts s).s≠[])(hB:o\/10*(ts.length-s.nx)+0<=B):bD ts o s 1 s.op (h_ ts rec s):=by
 have ek:(ae s).nx=s.nx+1:=rfl;unfold h_;simp only;refine dM (m:=0) h ht (.inr hx) (λhl =>?_);refine bD.bind (gL hr hl (hB.imp_right λq=>by omega)) (λv s1 a1 a2 a3 =>?_) 0 (by omega) (m2:=0);have e:s1.op=s.op:=a3;rw[<- e];exact bD.bind (nN ht hr a2 (hB.imp_right λq=>by omega)) (λv s3 c1 c2 c3=>c3▸dG c2 _ _ _ _ _) 0 (by omega)
theorem Dk {s:St}(h:s.nx<ts.length)(hx:(ah ts s).s≠[])(hB:o\/10*(ts.length-s.nx)+0<=B):bD ts o s 1 s.op (cO ts rec s):=by
 have ek:(ae s).nx=s.nx+1:=rfl;unfold cO;simp only;refine dM (m:=0) h ht (.inr hx) (λhl =>?_);split
 ·exact dG hl _ _ _ _ _
 ·exact bD.bind (gL hr hl (hB.imp_right λq=>by omega)) (λv s3 c1 c2 c3=>c3▸dG c2 _ _ _ _ _) 0 (by omega)
theorem E8 {s:St}(h:s.nx<ts.length)(hx:(ah ts s).s≠[])(hB:o\/10*(ts.length-s.nx)+0<=B):bD ts o s 1 s.op (iM ts rec s):=by
 have ek:(ae s).nx=s.nx+1:=rfl;unfold iM;simp only;refine dM (m:=0) h ht (.inr hx) (λhl =>?_);exact bD.bind (gL hr hl (hB.imp_right λq=>by omega)) (λv s3 c1 c2 c3=>c3▸dG c2 _ _ _ _ _) 0 (by omega)
theorem MS {s:St}(h:s.nx<ts.length)(hx:(ah ts s).s≠[])(hB:o\/10*(ts.length-s.nx)+0<=B):bD ts o s 1 s.op (lU ts rec s):=by
 have ek:(ae s).nx=s.nx+1:=rfl;unfold lU;simp only;refine dM (m:=0) h ht (.inr hx) (λhl =>?_);refine bD.bind (nN ht hr hl (hB.imp_right λq=>by omega)) (λv s1 a1 a2 a3 =>?_) 0 (by omega) (m2:=0);have e:s1.op=s.op:=a3;rw[<- e];refine bD.bind (mP a2 ht mO (by decide)) (λv s2 b1 b2 b3 =>?_) 0 (by omega) (m2:=0);rw[<- b3];refine bD.bind (mQ b2 ht) (λv s3 c1 c2 c3 =>?_) 0 (by omega) (m2:=0);rw[<- c3];exact bD.bind (nN ht hr c2 (hB.imp_right λq=>by omega)) (λv s4 d1 d2 d3=>d3▸dG d2 _ _ _ _ _) 0 (by omega)
omit hr in
theorem xq {s:St}{r:Rs}(hq:bD ts o s 1 s.op r):bD ts o s 1 s.op (r.bind λv s=>bJ ts v s):=by
 refine bD.bind hq (λv s1 a1 a2 a3 =>?_) 1 (by omega) (m2:=0);rw[<- a3];exact(qP ht a2 _).weak (Nat.zero_le _)
theorem Jp {s:St}(h:s.nx<ts.length)(hB:o\/10*(ts.length-s.nx)+0<=B):bD ts o s 1 s.op (aO ts rec s):=by
 unfold aO;simp only;split
 ·exact EZ ht hr h (hB.imp_right λq=>by omega)
 split
 ·rename_i q;exact MR ht hr h (by rw[q];decide) (hB.imp_right λq=>by omega)
 split
 ·rename_i q;exact PH ht hr h (by rw[q];decide) (hB.imp_right λq=>by omega)
 split
 ·rename_i q;exact E5 ht hr h (by rw[q];decide) (hB.imp_right λq=>by omega)
 split
 ·exact xq ht (BL ht hr h _ _ (hB.imp_right λq=>by omega))
 split
 ·rename_i q;exact xq ht (Dk ht hr h (by rw[q];decide) (hB.imp_right λq=>by omega))
 split
 ·rename_i q;exact xq ht (E8 ht hr h (by rw[q];decide) (hB.imp_right λq=>by omega))
 split
 ·rename_i q;exact MS ht hr h (by rw[q];decide) (hB.imp_right λq=>by omega)
 ·exact uo h 2 (.inl rfl) _ _
theorem Jq {s:St}(h:s.nx<ts.length)(k:Nat)(a:List Int)(hB:o\/10*(ts.length-s.nx)+0<=B):bD ts o s 0 s.op (jm ts rec k a s):=by
 have ek:(ae s).nx=s.nx+1:=rfl;unfold jm;split
 ·rename_i q;have e:(ah ts s).s=oZ:=by simpa [sees]using q
  refine(dM (m:=0) h ht (.inr (by rw[e];decide)) (λhl =>?_)).weak (Nat.zero_le _);refine bD.bind (lV hl ht k _) (λv s1 a1 a2 a3 =>?_) 0 (by omega) (m2:=0);have e2:s1.op=s.op:=a3;rw[<- e2];exact bD.bind (mP a2 ht [59] (by decide)) (λv s2 b1 b2 b3=>b3▸(hr s2 b2).2.2.2.2.2.2.1 k _ (hB.imp_right λq=>by omega)) 0 (by omega)
 ·exact gu h _
theorem Dl {s:St}(h:s.nx<ts.length)(a:List Int)(hB:o\/10*(ts.length-s.nx)+0<=B):bD ts o s 1 (s.op-1) (dD ts rec a s):=by
 have ek:(ae s).nx=s.nx+1:=rfl;unfold dD;split
 ·rename_i q;have e:(ah ts s).s=[44]:=by simpa [sees]using q
  refine(dM (m:=1) h ht (.inr (by rw[e];decide)) (λhl =>?_)).weak (by omega);refine bD.bind (lV hl ht 4 _) (λv s1 a1 a2 a3 =>?_) 1 (by omega) (m2:=1);have e2:s1.op=s.op:=a3;exact e2▸(hr s1 a2).2.2.2.2.2.2.2.1 _ (hB.imp_right λq=>by omega)
 ·refine bD.bind (uq h ht [41] (by decide)) (λv s1 a1 a2 a3 =>?_) 1 (by omega) (m2:=0);rw[<- a3];exact gu a2 _
theorem E9 {s:St}(h:s.nx<ts.length)(hB:o\/10*(ts.length-s.nx)+0<=B):bD ts o s 1 s.op (fZ ts rec s):=by
 unfold fZ;refine bD.bind (nM h ht [40] (by decide)) (λv s1 a1 a2 a3 =>?_) 1 (by omega) (m2:=0);have e:s1.op-1=s.op:=by omega
 split
 ·exact(e▸(hr s1 a2).2.2.2.2.2.2.2.1 _ (hB.imp_right λq=>by omega)).weak (Nat.zero_le _)
 ·refine bD.bind (lV a2 ht 4 _) (λv s2 b1 b2 b3 =>?_) 0 (by omega) (m2:=1);have e2:s2.op-1=s.op:=by omega
  exact e2▸(hr s2 b2).2.2.2.2.2.2.2.1 _ (hB.imp_right λq=>by omega)
theorem BM {s:St}(h:s.nx<ts.length)(hB:o\/10*(ts.length-s.nx)+0<=B):bD ts o s 1 s.op (jc ts rec s):=by
 unfold jc;simp only;refine bD.bind (mP h ht kH (by decide)) (λv s1 a1 a2 a3 =>?_) 1 (by omega) (m2:=0);rw[<- a3];refine bD.bind (mQ a2 ht) (λv s2 b1 b2 b3 =>?_) 0 (by omega) (m2:=0);rw[<- b3];refine bD.bind (E9 ht hr b2 (hB.imp_right λq=>by omega)) (λv s3 c1 c2 c3 =>?_) 0 (by omega) (m2:=0);rw[<- c3];refine bD.bind (m:=0) (n:=s3.op) ?_ (λv s4 d1 d2 d3 =>?_) 0 (by omega) (m2:=0)
 ·split
  ·exact gu c2 _
  ·exact(BJ c2 ht).weak (Nat.zero_le _)
 ·refine bD.bind (nM d2 ht [123] (by decide)) (λv s5 e1 e2 e3 =>?_) 0 (by omega) (m2:=0);refine bD.bind ((hr s5 e2).2.2.2.2.2.2.1 5 [] (hB.imp_right λq=>by omega)) (λv s6 f1 f2 f3 =>?_) 0 (by omega) (m2:=0);refine bD.bind ((hr s6 f2).2.2.2.2.2.1 _ [] (hB.imp_right λq=>by omega)) (λv s7 g1 g2 g3 =>?_) 0 (by omega) (m2:=0);have e:s7.op=s3.op:=by omega
  exact e▸dG g2 _ _ _ _ _
theorem E_ {s:St}(h:s.nx<ts.length)(a:List Int)(hB:o\/10*(ts.length-s.nx)+0<=B):bD ts o s 0 s.op (f_ ts rec a s):=by
 unfold f_;split
 ·exact bD.bind (BM ht hr h (hB.imp_right λq=>by omega)) (λv s1 a1 a2 a3=>a3▸(hr s1 a2).2.2.2.2.2.2.2.2 _ (hB.imp_right λq=>by omega)) 0 (by omega)
 ·exact gu h _
omit ht in
theorem Aw {s:St}(h:s.nx<ts.length)(hB:o\/10*(ts.length-s.nx)+1<=B):bD ts o s 0 s.op (bT ts rec s):=by
 unfold bT;refine bD.bind ((hr s h).2.2.2.2.2.2.1 2 [] (hB.imp_right λq=>by omega)) (λv s1 a1 a2 a3 =>?_) 0 (by omega) (m2:=0);rw[<- a3];refine bD.bind ((hr s1 a2).2.2.2.2.2.2.2.2 _ (hB.imp_right λq=>by omega)) (λv s2 b1 b2 b3 =>?_) 0 (by omega) (m2:=0);rw[<- b3];exact bD.bind (ES b2) (λv s3 c1 c2 c3=>c3▸dG c2 _ _ _ _ _) 0 (by omega)
omit ht in
theorem Jr {s:St}(h:s.nx<ts.length)(hB:o\/10*(ts.length-s.nx)+9<=B):bD ts o s 0 s.op (kI ts rec s):=by
 unfold kI;refine bD.bind (gL hr h (hB.imp_right λq=>by omega)) (λv s1 a1 a2 a3 =>?_) 0 (by omega) (m2:=0);rw[<- a3];exact bD.bind (ES a2) (λv s3 c1 c2 c3=>c3▸gu c2 _) 0 (by omega)
end
theorem xu {ts:List Tok}(ht:pV ts)(o:Prop):∀f,ET ts o f (run ts f)
 |0=>λ_ _=>⟨λh=>h.elim id (λq=>by omega),λr _ h6 h=>h.elim id (λq=>by omega),λ_ _ _ _ h=>h.elim id (λq=>by omega),λ_ h=>h.elim id (λq=>by omega),λh=>h.elim id (λq=>by omega),λ_ _ h=>h.elim id (λq=>by omega),λ_ _ h=>h.elim id (λq=>by omega),λ_ h=>h.elim id (λq=>by omega),λ_ h=>h.elim id (λq=>by omega)⟩
 |f+1=>λ_ h=>
  have hr:=xu ht o f
  ⟨λhb=>MP ht hr h (hb.imp_right λq=>by omega),λr h1 h6 hb=>MQ hr h r h1 h6 (hb.imp_right λq=>by omega),λr l h1 h5 hb=>Jm ht hr h r l h1 h5 (hb.imp_right λq=>by omega),λa hb=>EX ht hr h a (hb.imp_right λq=>by omega),
   λhb=>Jp ht hr h (hb.imp_right λq=>by omega),λp a hb=>EY ht hr h p a (hb.imp_right λq=>by omega),λk a hb=>Jq ht hr h k a (hb.imp_right λq=>by omega),λa hb=>Dl ht hr h a (hb.imp_right λq=>by omega),λa hb=>E_ ht hr h a (hb.imp_right λq=>by omega)⟩
def st0:St:=⟨0,[],0,0⟩
def steps (ts:List Tok):Nat:=10*ts.length+10
def jd (ts:List Tok):Rs:=bT ts (run ts (steps ts)) st0
def pq (ts:List Tok):Rs:=kI ts (run ts (steps ts)) st0
theorem yR {ts:List Tok}(ht:pV ts):bD ts False st0 0 0 (jd ts):=
 Aw (xu ht False (steps ts)) (s:=st0) ht.pos (.inr (by show 10*(ts.length-0)+1<=10*ts.length+10;omega))
theorem yS {ts:List Tok}(ht:pV ts):bD ts False st0 0 0 (pq ts):=
 Jr (xu ht False (steps ts)) (s:=st0) ht.pos (.inr (by show 10*(ts.length-0)+9<=10*ts.length+10;omega))
theorem bD.cases {ts:List Tok}{s:St}{m n:Nat}{r:Rs}(h:bD ts False s m n r):(∃v s',r=.ok v s'/\s'.nx<ts.length/\s'.op=n)\/∃p e,r=.no p e/\(∃t ∈ ts,t.p=p)/\(e=2\/e=6):=by
 cases r with
 |out=>exact h.elim
 |no p e=>exact .inr ⟨p,e,rfl,h⟩
 |ok v s'=>exact .inl ⟨v,s',rfl,h.2.1,h.2.2⟩
end Go.Proofs.YteecfjhjllajlaaGreatDoor
