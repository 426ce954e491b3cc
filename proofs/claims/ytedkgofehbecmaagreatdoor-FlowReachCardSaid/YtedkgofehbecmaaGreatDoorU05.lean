/- PROVED here: parts N05 of the claim. No condition but those in each theorem's own head. -/
import Derived.Test.YtedkgofehbecmaaGreatDoorU02
namespace Go.Proofs.YtedkgofehbecmaaGreatDoor
section
structure Tok where
 k:Nat
 n:Int
 p:Nat
 s:List UInt8
deriving DecidableEq,Repr
structure Nd where
 kd:Int
 n:Int
 pl:Int
 tx:List UInt8
 ks:List Int
deriving DecidableEq,Repr
structure St where
 nx:Nat
 nd:List Nd
 op:Nat
 mo:Nat
deriving DecidableEq,Repr
inductive Rs where
 |out
 |no (p:Nat) (e:Nat)
 |ok (v:List Int) (s:St)
deriving DecidableEq,Repr
def Rs.bind (r:Rs)(f:List Int->St->Rs):Rs:=
 match r with
 | .out =>.out
 | .no p e =>.no p e
 | .ok v s=>f v s
theorem Rs.bind_ok {r:Rs}{f:List Int->St->Rs}{v:List Int}{s:St}(h:r.bind f = .ok v s):∃v' s',r = .ok v' s'/\f v' s' = .ok v s:=by
 cases r with
 |out=>cases h
 |no p e=>cases h
 |ok v' s'=>exact⟨v',s',rfl,h⟩
theorem Rs.bind_in {r:Rs}{f:List Int->St->Rs}(h:r.bind f ≠ .out):r ≠ .out:=λe=>h (by rw[e];rfl)
section
variable (ts:List Tok)
def tkn (s:St):Tok:=ts.getD s.nx ⟨5,0,0,[]⟩
def sees (x:List UInt8)(s:St):Bool:=(tkn ts s).s==x
def takeS (s:St):St := { s with nx:=s.nx+1 }
def expM (x:List UInt8)(s:St):Rs:=if sees ts x s=true then .ok [] (takeS s) else .no (tkn ts s).p 2
def nameM (s:St):Rs:=if (tkn ts s).k=1 then .ok [] (takeS s) else .no (tkn ts s).p 2
def endM (s:St):Rs:=if (tkn ts s).k=5 then .ok [] s else .no (tkn ts s).p 2
def begM (x:List UInt8)(s:St):Rs:=
 if sees ts x s=true/\s.op=40 then .no (tkn ts s).p 6 else (expM ts x s).bind λ_ s =>.ok [] { s with op:=s.op+1,mo:=max s.mo (s.op+1) }
def finM (x:List UInt8)(s:St):Rs:=(expM ts x s).bind λ_ s =>.ok [] { s with op:=s.op-1 }
def addM (kd n pl:Int)(tx:List UInt8)(ks:List Int)(s:St):Rs :=.ok [(s.nd.length:Int)] { s with nd:=s.nd++[⟨kd,n,pl,tx,ks⟩] }
end
def wVar:List UInt8:=[118,97,114]
def wProc:List UInt8:=[112,114,111,99]
def wInt:List UInt8:=[105,110,116]
def wBool:List UInt8:=[98,111,111,108]
def wArr:List UInt8:=[97,114,114]
def wFun:List UInt8:=[102,117,110]
def wIn:List UInt8:=[105,110]
def wOut:List UInt8:=[111,117,116]
def wIf:List UInt8:=[105,102]
def wElse:List UInt8:=[101,108,115,101]
def wWhile:List UInt8:=[119,104,105,108,101]
def wCall:List UInt8:=[99,97,108,108]
def wReturn:List UInt8:=[114,101,116,117,114,110]
def wThrow:List UInt8:=[116,104,114,111,119]
def wTry:List UInt8:=[116,114,121]
def wCatch:List UInt8:=[99,97,116,99,104]
def wNew:List UInt8:=[110,101,119]
def wLen:List UInt8:=[108,101,110]
def wTrue:List UInt8:=[116,114,117,101]
def wFalse:List UInt8:=[102,97,108,115,101]
def typeOf (x:List UInt8):Nat:=if x=wInt then 1 else if x=wBool then 2 else if x=wArr then 3 else if x=wFun then 4 else 0
def rowOf (x:List UInt8):Nat:=
 if x=[124,124] then 1 else if x=[38,38] then 2
 else if x=[61,61]\/x=[33,61]\/x=[60]\/x=[60,61]\/x=[62]\/x=[62,61] then 3
 else if x=[43]\/x=[45] then 4 else if x=[42]\/x=[47]\/x=[37] then 5 else 0
inductive Job where
 |una
 |bin (r:Nat)
 |loop (r:Nat) (left:List Int)
 |exprs (acc:List Int)
 |stmt
 |stmts (pl:Int) (acc:List Int)
 |vars (kd:Nat) (acc:List Int)
 |params (acc:List Int)
 |procs (acc:List Int)
section
variable (ts:List Tok) (rec:Job->St->Rs)
def exprM (s:St):Rs:=rec (.bin 1) s
def idxM (s:St):Rs:=(begM ts [91] s).bind λ_ s=>(exprM rec s).bind λv s=>(finM ts [93] s).bind λ_ s =>.ok v s
def leafM (kd:Nat)(s:St):Rs:=let t:=tkn ts s;(nameM ts s).bind λ_ s=>addM kd 0 t.p t.s [] s
def variM (s:St):Rs:=let t:=tkn ts s;(nameM ts s).bind λ_ s=>if sees ts [91] s=true then (idxM ts rec s).bind λv s=>addM 23 0 t.p t.s v s else addM 22 0 t.p t.s [] s
def signM (s:St):Rs:=let t:=tkn ts s;(begM ts t.s s).bind λ_ s=>(rec .una s).bind λv s=>addM 26 0 t.p t.s v { s with op:=s.op-1 }
def markM (kd:Nat)(s:St):Rs:=let t:=tkn ts s;let s:=takeS s;let u:=tkn ts s;(nameM ts s).bind λ_ s=>addM kd 0 t.p u.s [] s
def unaM (s:St):Rs:=
 let t:=tkn ts s
 if t.k=1 then variM ts rec s
 else if t.k=2 then addM 20 t.n t.p [] [] (takeS s)
 else if t.s=[45]\/t.s=[33] then signM ts rec s
 else if t.s=wTrue\/t.s=wFalse then addM 21 (if t.s=wTrue then 1 else 0) t.p [] [] (takeS s)
 else if t.s=wLen then markM ts 24 s
 else if t.s=[38] then markM ts 25 s
 else if t.s=[40] then (begM ts [40] s).bind λ_ s=>(exprM rec s).bind λv s=>(finM ts [41] s).bind λ_ s =>.ok v s
 else .no t.p 2
def binM (r:Nat)(s:St):Rs:=if 5<r then rec .una s else (rec (.bin (r+1)) s).bind λv s=>rec (.loop r v) s
def loopM (r:Nat)(left:List Int)(s:St):Rs:=
 let t:=tkn ts s
 if rowOf t.s=r then (rec (.bin (r+1)) (takeS s)).bind λv s=>(addM 27 0 t.p t.s (left++v) s).bind λv s=>rec (.loop r v) s else .ok left s
def exprsM (acc:List Int)(s:St):Rs:=
 if sees ts [44] s=true then (exprM rec (takeS s)).bind λv s=>rec (.exprs (acc++v)) s else (finM ts [41] s).bind λ_ s =>.ok acc s
def listM (s:St):Rs:=(begM ts [40] s).bind λ_ s=>if sees ts [41] s=true then rec (.exprs []) s else (exprM rec s).bind λv s=>rec (.exprs v) s
def callM (tx:List UInt8)(pl:Int)(s:St):Rs:=(expM ts wCall s).bind λ_ s=>(leafM ts 19 s).bind λv s=>(listM ts rec s).bind λvs s=>addM 13 0 pl tx (v++vs) s
def blockM (s:St):Rs:=let t:=tkn ts s;(begM ts [123] s).bind λ_ s=>rec (.stmts t.p []) s
def stmtsM (pl:Int)(acc:List Int)(s:St):Rs:=if sees ts [125] s=true then (finM ts [125] s).bind λ_ s=>addM 6 0 pl [] acc s else (rec .stmt s).bind λv s=>rec (.stmts pl (acc++v)) s
def endedM (v:List Int)(s:St):Rs:=(expM ts [59] s).bind λ_ s =>.ok v s
def restM (t:Tok)(s:St):Rs:=
 let x:=(tkn ts s).s
 if x=wIn then (leafM ts 18 (takeS s)).bind λv s=>addM 9 0 t.p t.s v s
 else if x=wCall then callM ts rec t.s t.p s
 else if x=wNew then (exprM rec (takeS s)).bind λv s=>addM 17 0 t.p t.s v s
 else (exprM rec s).bind λv s=>addM 7 0 t.p t.s v s
def namedM (s:St):Rs:=
 let t:=tkn ts s
 (nameM ts s).bind λ_ s=>if sees ts [91] s=true
  then (idxM ts rec s).bind λi s=>(expM ts [61] s).bind λ_ s=>(exprM rec s).bind λv s=>(addM 8 0 t.p t.s (i++v) s).bind λv s=>endedM ts v s
  else (expM ts [61] s).bind λ_ s=>(restM ts rec t s).bind λv s=>endedM ts v s
def outM (s:St):Rs:=let t:=tkn ts s;(leafM ts 18 (takeS s)).bind λc s=>(exprM rec s).bind λv s=>(addM 10 0 t.p [] (c++v) s).bind λv s=>endedM ts v s
def ifM (s:St):Rs:=
 let t:=tkn ts s
 (exprM rec (takeS s)).bind λc s=>(blockM ts rec s).bind λa s=>if sees ts wElse s=true
  then (blockM ts rec (takeS s)).bind λb s=>addM 11 0 t.p [] (c++a++b) s
  else (addM 6 0 t.p [] [] s).bind λb s=>addM 11 0 t.p [] (c++a++b) s
def whileM (s:St):Rs:=let t:=tkn ts s;(exprM rec (takeS s)).bind λc s=>(blockM ts rec s).bind λa s=>addM 12 0 t.p [] (c++a) s
def returnM (s:St):Rs:=let t:=tkn ts s;let s:=takeS s;if sees ts [59] s=true then addM 14 0 t.p [] [] s else (exprM rec s).bind λv s=>addM 14 0 t.p [] v s
def throwM (s:St):Rs:=let t:=tkn ts s;(exprM rec (takeS s)).bind λv s=>addM 15 0 t.p [] v s
def tryM (s:St):Rs:=let t:=tkn ts s;(blockM ts rec (takeS s)).bind λa s=>(expM ts wCatch s).bind λ_ s=>let u:=tkn ts s;(nameM ts s).bind λ_ s=>(blockM ts rec s).bind λb s=>addM 16 0 t.p u.s (a++b) s
def stmtM (s:St):Rs:=
 let t:=tkn ts s
 if t.k=1 then namedM ts rec s
 else if t.s=wOut then outM ts rec s
 else if t.s=wIf then ifM ts rec s
 else if t.s=wWhile then whileM ts rec s
 else if t.s=wCall then (callM ts rec [] t.p s).bind λv s=>endedM ts v s
 else if t.s=wReturn then (returnM ts rec s).bind λv s=>endedM ts v s
 else if t.s=wThrow then (throwM ts rec s).bind λv s=>endedM ts v s
 else if t.s=wTry then tryM ts rec s
 else .no t.p 2
def typeM (s:St):Rs:=let n:=typeOf (tkn ts s).s;if n=0 then .no (tkn ts s).p 2 else .ok [(n:Int)] (takeS s)
def typedM (kd:Nat)(pl:Int)(s:St):Rs:=let t:=tkn ts s;(nameM ts s).bind λ_ s=>(typeM ts s).bind λn s=>addM kd (n.headD 0) pl t.s [] s
def varsM (kd:Nat)(acc:List Int)(s:St):Rs:=
 if sees ts wVar s=true then (typedM ts kd (tkn ts s).p (takeS s)).bind λv s=>(expM ts [59] s).bind λ_ s=>rec (.vars kd (acc++v)) s else .ok acc s
def paramM (s:St):Rs:=typedM ts 4 (tkn ts s).p s
def paramsM (acc:List Int)(s:St):Rs:=
 if sees ts [44] s=true then (paramM ts (takeS s)).bind λv s=>rec (.params (acc++v)) s else (finM ts [41] s).bind λ_ s =>.ok acc s
def plistM (s:St):Rs:=(begM ts [40] s).bind λ_ s=>if sees ts [41] s=true then rec (.params []) s else (paramM ts s).bind λv s=>rec (.params v) s
def procM (s:St):Rs:=
 let t:=tkn ts s
 (expM ts wProc s).bind λ_ s=>let u:=tkn ts s;(nameM ts s).bind λ_ s=>(plistM ts rec s).bind λps s=>
  (if sees ts [123] s=true then .ok [0] s else typeM ts s).bind λn s=>let b:=tkn ts s;(begM ts [123] s).bind λ_ s=>
   (rec (.vars 5 []) s).bind λvs s=>(rec (.stmts b.p []) s).bind λbl s=>addM 3 (n.headD 0) t.p u.s (ps++vs++bl) s
def procsM (acc:List Int)(s:St):Rs:=if sees ts wProc s=true then (procM ts rec s).bind λv s=>rec (.procs (acc++v)) s else .ok acc s
def programM (s:St):Rs:=(rec (.vars 2 []) s).bind λvs s=>(rec (.procs vs) s).bind λps s=>(endM ts s).bind λ_ s=>addM 1 0 0 [] ps s
end
def run (ts:List Tok):Nat->Job->St->Rs
 |0,_,_ =>.out
 |f+1,j,s=>match j with
  | .una=>unaM ts (run ts f) s
  | .bin r=>binM (run ts f) r s
  | .loop r l=>loopM ts (run ts f) r l s
  | .exprs a=>exprsM ts (run ts f) a s
  | .stmt=>stmtM ts (run ts f) s
  | .stmts p a=>stmtsM ts (run ts f) p a s
  | .vars k a=>varsM ts (run ts f) k a s
  | .params a=>paramsM ts (run ts f) a s
  | .procs a=>procsM ts (run ts f) a s
end
section
structure TsOk (ts:List Tok):Prop where
 pos:0<ts.length
 text:∀i (h:i<ts.length),i+1<ts.length->ts[i].s≠[]
 kind:∀i (h:i<ts.length),i+1<ts.length->ts[i].k≠5
 lastS:∀h:ts.length-1<ts.length,ts[ts.length-1].s=[]
 lastK:∀h:ts.length-1<ts.length,ts[ts.length-1].k=5
theorem tkn_eq {ts:List Tok}{s:St}(h:s.nx<ts.length):tkn ts s=ts[s.nx]:=by unfold tkn;simp[List.getD,h]
theorem tkn_mem {ts:List Tok}{s:St}(h:s.nx<ts.length):tkn ts s ∈ ts:=by rw[tkn_eq h];exact List.getElem_mem _
theorem TsOk.more {ts:List Tok}(ht:TsOk ts){s:St}(h:s.nx<ts.length)(hs:(tkn ts s).s≠[]):s.nx+1<ts.length:=by
 by_cases e:s.nx+1=ts.length
 ·exfalso
  apply hs
  rw[tkn_eq h]
  have:=ht.lastS (by omega)
  have e2:ts.length-1=s.nx:=by omega
  simp only[e2]at this
  exact this
 ·omega
theorem TsOk.moreK {ts:List Tok}(ht:TsOk ts){s:St}(h:s.nx<ts.length)(hs:(tkn ts s).k≠5):s.nx+1<ts.length:=by
 by_cases e:s.nx+1=ts.length
 ·exfalso
  apply hs
  rw[tkn_eq h]
  have:=ht.lastK (by omega)
  have e2:ts.length-1=s.nx:=by omega
  simp only[e2]at this
  exact this
 ·omega
def Okr (ts:List Tok)(o:Prop)(s:St)(m n:Nat):Rs->Prop
 | .out=>o
 | .no p e=>(∃t ∈ ts,t.p=p)/\(e=2\/e=6)
 | .ok _ s'=>s.nx+m<=s'.nx/\s'.nx<ts.length/\s'.op=n
theorem Okr.bind {ts:List Tok}{o:Prop}{s:St}{m n m2 n2:Nat}{r:Rs}{f:List Int->St->Rs}(h:Okr ts o s m n r)(k:∀v s',s.nx+m<=s'.nx->s'.nx<ts.length->s'.op=n->Okr ts o s' m2 n2 (f v s'))(m3:Nat)(hm:m3<=m+m2):Okr ts o s m3 n2 (r.bind f):=by
 cases r with
 |out=>exact h
 |no p e=>exact h
 |ok v s'=>
  have h2:=k v s' h.1 h.2.1 h.2.2
  show Okr ts o s m3 n2 (f v s')
  cases hf:f v s' with
  |out=>rw[hf]at h2;exact h2
  |no p e=>rw[hf]at h2;exact h2
  |ok v2 s2=>rw[hf]at h2;exact⟨by have:=h.1;have:=h2.1;omega,h2.2.1,h2.2.2⟩
theorem Okr.weak {ts:List Tok}{o:Prop}{s:St}{m m' n:Nat}{r:Rs}(h:Okr ts o s m n r)(hm:m'<=m):Okr ts o s m' n r:=by
 cases r with
 |out=>exact h
 |no p e=>exact h
 |ok v s'=>exact⟨by have:=h.1;omega,h.2.1,h.2.2⟩
section
variable {ts:List Tok} {o:Prop} {s:St} (h:s.nx<ts.length)
include h
theorem ok_here (v:List Int):Okr ts o s 0 s.op (.ok v s):=⟨Nat.le_refl _,h,rfl⟩
theorem ok_no (e:Nat)(he:e=2\/e=6)(m n:Nat):Okr ts o s m n (.no (tkn ts s).p e):=⟨⟨_,tkn_mem h,rfl⟩,he⟩
theorem ok_add (kd n pl:Int)(tx:List UInt8)(ks:List Int):Okr ts o s 0 s.op (addM kd n pl tx ks s):=⟨Nat.le_refl _,h,rfl⟩
theorem ok_end:Okr ts o s 0 s.op (endM ts s):=by
 unfold endM;split
 ·exact ok_here h _
 ·exact ok_no h 2 (.inl rfl) _ _
variable (ht:TsOk ts)
include ht
theorem ok_take {m n:Nat}{r:Rs}(hs:(tkn ts s).k≠5\/(tkn ts s).s≠[])(k:(takeS s).nx<ts.length->Okr ts o (takeS s) m n r):Okr ts o s (m+1) n r:=by
 have hl:s.nx+1<ts.length:=by
  rcases hs with q |q
  ·exact ht.moreK h q
  ·exact ht.more h q
 have h2:=k hl
 cases r with
 |out=>exact h2
 |no p e=>exact h2
 |ok v s'=>exact⟨by have:=h2.1;have e:(takeS s).nx=s.nx+1:=rfl;omega,h2.2.1,h2.2.2⟩
theorem ok_exp (x:List UInt8)(hx:x≠[]):Okr ts o s 1 s.op (expM ts x s):=by
 unfold expM;split
 ·rename_i q
  have e:(tkn ts s).s=x:=by simpa [sees]using q
  exact ok_take (m:=0) h ht (.inr (by rw[e];exact hx)) (λhl=>ok_here hl _)
 ·exact ok_no h 2 (.inl rfl) _ _
theorem ok_name:Okr ts o s 1 s.op (nameM ts s):=by
 unfold nameM;split
 ·rename_i q
  exact ok_take (m:=0) h ht (.inl (by rw[q];decide)) (λhl=>ok_here hl _)
 ·exact ok_no h 2 (.inl rfl) _ _
theorem ok_beg (x:List UInt8)(hx:x≠[]):Okr ts o s 1 (s.op+1) (begM ts x s):=by
 unfold begM;split
 ·exact ok_no h 6 (.inr rfl) _ _
 ·refine Okr.bind (m2:=0) (n2:=s.op+1) (ok_exp h ht x hx) (λv s' h1 h2 h3 =>?_) 1 (by omega)
  exact⟨Nat.le_refl _,h2,by show s'.op+1=s.op+1;rw[h3]⟩
theorem ok_fin (x:List UInt8)(hx:x≠[]):Okr ts o s 1 (s.op-1) (finM ts x s):=by
 unfold finM
 refine Okr.bind (m2:=0) (n2:=s.op-1) (ok_exp h ht x hx) (λv s' h1 h2 h3 =>?_) 1 (by omega)
 exact⟨Nat.le_refl _,h2,by show s'.op-1=s.op-1;rw[h3]⟩
theorem ok_type:Okr ts o s 1 s.op (typeM ts s):=by
 unfold typeM;simp only;split
 ·exact ok_no h 2 (.inl rfl) _ _
 ·rename_i q
  refine ok_take (m:=0) h ht (.inr (λe=>q ?_)) (λhl=>ok_here hl _)
  rw[e];decide
theorem ok_leaf (kd:Nat):Okr ts o s 1 s.op (leafM ts kd s):=by
 unfold leafM;simp only
 exact Okr.bind (ok_name h ht) (λv s' h1 h2 h3=>h3▸ok_add h2 _ _ _ _ _) 1 (by omega)
theorem ok_typed (kd:Nat)(pl:Int):Okr ts o s 1 s.op (typedM ts kd pl s):=by
 unfold typedM;simp only
 refine Okr.bind (ok_name h ht) (λv s' h1 h2 h3 =>?_) 1 (by omega) (m2:=0)
 rw[<- h3]
 exact Okr.bind (ok_type h2 ht) (λv s2 h4 h5 h6=>h6▸ok_add h5 _ _ _ _ _) 0 (by omega)
end
def JobOk (ts:List Tok)(o:Prop)(B:Nat)(rec:Job->St->Rs):Prop:=∀s:St,s.nx<ts.length ->
 (o\/10*(ts.length-s.nx)+2<=B->Okr ts o s 1 s.op (rec .una s))/\(∀r,1<=r->r<=6->(o\/10*(ts.length-s.nx)+(10-r)<=B)->Okr ts o s 1 s.op (rec (.bin r) s)) /\
 (∀r l,1<=r->r<=5->(o\/10*(ts.length-s.nx)+1<=B)->Okr ts o s 0 s.op (rec (.loop r l) s))/\(∀a,(o\/10*(ts.length-s.nx)+1<=B)->Okr ts o s 1 (s.op-1) (rec (.exprs a) s)) /\
 (o\/10*(ts.length-s.nx)+2<=B->Okr ts o s 1 s.op (rec .stmt s))/\(∀p a,(o\/10*(ts.length-s.nx)+4<=B)->Okr ts o s 1 (s.op-1) (rec (.stmts p a) s)) /\
 (∀k a,(o\/10*(ts.length-s.nx)+1<=B)->Okr ts o s 0 s.op (rec (.vars k a) s))/\(∀a,(o\/10*(ts.length-s.nx)+1<=B)->Okr ts o s 1 (s.op-1) (rec (.params a) s)) /\
 ∀a,(o\/10*(ts.length-s.nx)+1<=B)->Okr ts o s 0 s.op (rec (.procs a) s)
section
variable {ts:List Tok} {o:Prop} {B:Nat} {rec:Job->St->Rs} (ht:TsOk ts) (hr:JobOk ts o B rec)
include ht hr
omit ht in
theorem ok_expr {s:St}(h:s.nx<ts.length)(hB:o\/10*(ts.length-s.nx)+9<=B):Okr ts o s 1 s.op (exprM rec s):=(hr s h).2.1 1 (Nat.le_refl _) (by omega) hB
theorem ok_idx {s:St}(h:s.nx<ts.length)(hB:o\/10*(ts.length-s.nx)+0<=B):Okr ts o s 1 s.op (idxM ts rec s):=by
 unfold idxM
 refine Okr.bind (ok_beg h ht [91] (by decide)) (λv s1 a1 a2 a3 =>?_) 1 (by omega) (m2:=0)
 refine Okr.bind (ok_expr hr a2 (hB.imp_right λq=>by omega)) (λv s2 b1 b2 b3 =>?_) 0 (by omega) (m2:=0)
 refine Okr.bind (ok_fin b2 ht [93] (by decide)) (λv s3 c1 c2 c3 =>?_) 0 (by omega) (m2:=0)
 have e:s3.op=s.op:=by omega
 exact e▸ok_here c2 _
theorem ok_paren {s:St}(h:s.nx<ts.length)(hB:o\/10*(ts.length-s.nx)+0<=B):Okr ts o s 1 s.op ((begM ts [40] s).bind λ_ s=>(exprM rec s).bind λv s=>(finM ts [41] s).bind λ_ s =>.ok v s):=by
 refine Okr.bind (ok_beg h ht [40] (by decide)) (λv s1 a1 a2 a3 =>?_) 1 (by omega) (m2:=0)
 refine Okr.bind (ok_expr hr a2 (hB.imp_right λq=>by omega)) (λv s2 b1 b2 b3 =>?_) 0 (by omega) (m2:=0)
 refine Okr.bind (ok_fin b2 ht [41] (by decide)) (λv s3 c1 c2 c3 =>?_) 0 (by omega) (m2:=0)
 have e:s3.op=s.op:=by omega
 exact e▸ok_here c2 _
theorem ok_vari {s:St}(h:s.nx<ts.length)(hB:o\/10*(ts.length-s.nx)+0<=B):Okr ts o s 1 s.op (variM ts rec s):=by
 unfold variM;simp only
 refine Okr.bind (ok_name h ht) (λv s1 a1 a2 a3 =>?_) 1 (by omega) (m2:=0)
 rw[<- a3]
 split
 ·exact Okr.bind (ok_idx ht hr a2 (hB.imp_right λq=>by omega)) (λv s2 b1 b2 b3=>b3▸ok_add b2 _ _ _ _ _) 0 (by omega)
 ·exact ok_add a2 _ _ _ _ _
theorem ok_sign {s:St}(h:s.nx<ts.length)(hx:(tkn ts s).s≠[])(hB:o\/10*(ts.length-s.nx)+0<=B):Okr ts o s 1 s.op (signM ts rec s):=by
 unfold signM;simp only
 refine Okr.bind (ok_beg h ht _ hx) (λv s1 a1 a2 a3 =>?_) 1 (by omega) (m2:=0)
 refine Okr.bind ((hr s1 a2).1 (hB.imp_right λq=>by omega)) (λv s2 b1 b2 b3 =>?_) 0 (by omega) (m2:=0)
 exact⟨Nat.le_refl _,b2,by show s2.op-1=s.op;omega⟩
omit hr in
theorem ok_mark {s:St}(h:s.nx<ts.length)(kd:Nat)(hx:(tkn ts s).s≠[]):Okr ts o s 1 s.op (markM ts kd s):=by
 unfold markM;simp only
 refine(ok_take (m:=1) (n:=s.op) h ht (.inr hx) (λhl =>?_)).weak (by omega)
 exact Okr.bind (ok_name hl ht) (λv s1 a1 a2 a3=>a3▸ok_add a2 _ _ _ _ _) 1 (by omega)
theorem ok_una {s:St}(h:s.nx<ts.length)(hB:o\/10*(ts.length-s.nx)+1<=B):Okr ts o s 1 s.op (unaM ts rec s):=by
 have ek:(takeS s).nx=s.nx+1:=rfl
 unfold unaM;simp only
 split
 ·exact ok_vari ht hr h (hB.imp_right λq=>by omega)
 split
 ·rename_i q1 q2
  exact ok_take (m:=0) h ht (.inl (by rw[q2];decide)) (λhl=>ok_add hl _ _ _ _ _)
 split
 ·rename_i q
  exact ok_sign ht hr h (by rcases q with q |q<;>rw[q]<;>decide) (hB.imp_right λq=>by omega)
 split
 ·rename_i q
  exact ok_take (m:=0) h ht (.inr (by rcases q with q |q<;>rw[q]<;>decide)) (λhl=>ok_add hl _ _ _ _ _)
 split
 ·rename_i q;exact ok_mark ht h 24 (by rw[q];decide)
 split
 ·rename_i q;exact ok_mark ht h 25 (by rw[q];decide)
 split
 ·exact ok_paren ht hr h (hB.imp_right λq=>by omega)
 ·exact ok_no h 2 (.inl rfl) _ _
omit ht in
theorem ok_bin {s:St}(h:s.nx<ts.length)(r:Nat)(h1:1<=r)(h6:r<=6)(hB:o\/10*(ts.length-s.nx)+(9-r)<=B):Okr ts o s 1 s.op (binM rec r s):=by
 unfold binM
 split
 ·exact(hr s h).1 (hB.imp_right λq=>by omega)
 ·exact Okr.bind ((hr s h).2.1 (r+1) (by omega) (by omega) (hB.imp_right λq=>by omega)) (λv s1 a1 a2 a3=>a3▸(hr s1 a2).2.2.1 r v h1 (by omega) (hB.imp_right λq=>by omega)) 1 (by omega)
omit ht hr in
theorem rowOf_ne {x:List UInt8}(h:rowOf x≠0):x≠[]:=λe=>h (by rw[e];decide)
theorem ok_loop {s:St}(h:s.nx<ts.length)(r:Nat)(l:List Int)(h1:1<=r)(h5:r<=5)(hB:o\/10*(ts.length-s.nx)+0<=B):Okr ts o s 0 s.op (loopM ts rec r l s):=by
 have ek:(takeS s).nx=s.nx+1:=rfl
 unfold loopM;simp only
 split
 ·rename_i q
  refine(ok_take (m:=0) h ht (.inr (rowOf_ne (by omega))) (λhl =>?_)).weak (Nat.zero_le _)
  refine Okr.bind ((hr _ hl).2.1 (r+1) (by omega) (by omega) (hB.imp_right λq=>by omega)) (λv s1 a1 a2 a3 =>?_) 0 (by omega) (m2:=0)
  refine Okr.bind (ok_add a2 _ _ _ _ _) (λv s2 b1 b2 b3 =>?_) 0 (by omega) (m2:=0)
  have e:s2.op=s.op:=by rw[b3,a3];rfl
  exact e▸(hr s2 b2).2.2.1 r v h1 h5 (hB.imp_right λq=>by omega)
 ·exact ok_here h _
theorem ok_exprs {s:St}(h:s.nx<ts.length)(a:List Int)(hB:o\/10*(ts.length-s.nx)+0<=B):Okr ts o s 1 (s.op-1) (exprsM ts rec a s):=by
 have ek:(takeS s).nx=s.nx+1:=rfl
 unfold exprsM
 split
 ·rename_i q
  have e:(tkn ts s).s=[44]:=by simpa [sees]using q
  refine(ok_take (m:=1) h ht (.inr (by rw[e];decide)) (λhl =>?_)).weak (by omega)
  refine Okr.bind (ok_expr hr hl (hB.imp_right λq=>by omega)) (λv s1 a1 a2 a3 =>?_) 1 (by omega) (m2:=1)
  have e2:s1.op=s.op:=a3
  exact e2▸(hr s1 a2).2.2.2.1 _ (hB.imp_right λq=>by omega)
 ·refine Okr.bind (ok_fin h ht [41] (by decide)) (λv s1 a1 a2 a3 =>?_) 1 (by omega) (m2:=0)
  rw[<- a3];exact ok_here a2 _
theorem ok_list {s:St}(h:s.nx<ts.length)(hB:o\/10*(ts.length-s.nx)+0<=B):Okr ts o s 1 s.op (listM ts rec s):=by
 unfold listM
 refine Okr.bind (ok_beg h ht [40] (by decide)) (λv s1 a1 a2 a3 =>?_) 1 (by omega) (m2:=0)
 have e:s1.op-1=s.op:=by omega
 split
 ·exact(e▸(hr s1 a2).2.2.2.1 _ (hB.imp_right λq=>by omega)).weak (Nat.zero_le _)
 ·refine Okr.bind (ok_expr hr a2 (hB.imp_right λq=>by omega)) (λv s2 b1 b2 b3 =>?_) 0 (by omega) (m2:=1)
  have e2:s2.op-1=s.op:=by omega
  exact e2▸(hr s2 b2).2.2.2.1 _ (hB.imp_right λq=>by omega)
theorem ok_call {s:St}(h:s.nx<ts.length)(tx:List UInt8)(pl:Int)(hB:o\/10*(ts.length-s.nx)+0<=B):Okr ts o s 1 s.op (callM ts rec tx pl s):=by
 unfold callM
 refine Okr.bind (ok_exp h ht wCall (by decide)) (λv s1 a1 a2 a3 =>?_) 1 (by omega) (m2:=0)
 rw[<- a3]
 refine Okr.bind (ok_leaf a2 ht 19) (λv s2 b1 b2 b3 =>?_) 0 (by omega) (m2:=0)
 rw[<- b3]
 exact Okr.bind (ok_list ht hr b2 (hB.imp_right λq=>by omega)) (λv s3 c1 c2 c3=>c3▸ok_add c2 _ _ _ _ _) 0 (by omega)
theorem ok_block {s:St}(h:s.nx<ts.length)(hB:o\/10*(ts.length-s.nx)+0<=B):Okr ts o s 1 s.op (blockM ts rec s):=by
 unfold blockM;simp only
 refine Okr.bind (ok_beg h ht [123] (by decide)) (λv s1 a1 a2 a3 =>?_) 1 (by omega) (m2:=1)
 have e:s1.op-1=s.op:=by omega
 exact e▸(hr s1 a2).2.2.2.2.2.1 _ _ (hB.imp_right λq=>by omega)
theorem ok_stmts {s:St}(h:s.nx<ts.length)(pl:Int)(a:List Int)(hB:o\/10*(ts.length-s.nx)+3<=B):Okr ts o s 1 (s.op-1) (stmtsM ts rec pl a s):=by
 unfold stmtsM
 split
 ·refine Okr.bind (ok_fin h ht [125] (by decide)) (λv s1 a1 a2 a3 =>?_) 1 (by omega) (m2:=0)
  rw[<- a3];exact ok_add a2 _ _ _ _ _
 ·refine Okr.bind ((hr s h).2.2.2.2.1 (hB.imp_right λq=>by omega)) (λv s1 a1 a2 a3 =>?_) 1 (by omega) (m2:=1)
  rw[<- a3];exact(hr s1 a2).2.2.2.2.2.1 _ _ (hB.imp_right λq=>by omega)
omit hr in
theorem ok_ended {s:St}(h:s.nx<ts.length)(v:List Int):Okr ts o s 1 s.op (endedM ts v s):=by
 unfold endedM
 exact Okr.bind (ok_exp h ht [59] (by decide)) (λv s1 a1 a2 a3=>a3▸ok_here a2 _) 1 (by omega)
theorem ok_rest {s:St}(h:s.nx<ts.length)(t:Tok)(hB:o\/10*(ts.length-s.nx)+9<=B):Okr ts o s 0 s.op (restM ts rec t s):=by
 have ek:(takeS s).nx=s.nx+1:=rfl
 unfold restM;simp only
 split
 ·rename_i q
  refine(ok_take (m:=0) h ht (.inr (by rw[q];decide)) (λhl =>?_)).weak (Nat.zero_le _)
  exact Okr.bind (ok_leaf hl ht 18) (λv s1 a1 a2 a3=>a3▸ok_add a2 _ _ _ _ _) 0 (by omega)
 split
 ·exact(ok_call ht hr h _ _ (hB.imp_right λq=>by omega)).weak (Nat.zero_le _)
 split
 ·rename_i q1 q2 q
  refine(ok_take (m:=0) h ht (.inr (by rw[q];decide)) (λhl =>?_)).weak (Nat.zero_le _)
  exact Okr.bind (ok_expr hr hl (hB.imp_right λq=>by omega)) (λv s1 a1 a2 a3=>a3▸ok_add a2 _ _ _ _ _) 0 (by omega)
 ·exact Okr.bind (ok_expr hr h (hB.imp_right λq=>by omega)) (λv s1 a1 a2 a3=>a3▸ok_add a2 _ _ _ _ _) 0 (by omega)
theorem ok_named {s:St}(h:s.nx<ts.length)(hB:o\/10*(ts.length-s.nx)+0<=B):Okr ts o s 1 s.op (namedM ts rec s):=by
 unfold namedM;simp only
 refine Okr.bind (ok_name h ht) (λv s1 a1 a2 a3 =>?_) 1 (by omega) (m2:=0)
 rw[<- a3]
 split
 ·refine Okr.bind (ok_idx ht hr a2 (hB.imp_right λq=>by omega)) (λv s2 b1 b2 b3 =>?_) 0 (by omega) (m2:=0)
  rw[<- b3]
  refine Okr.bind (ok_exp b2 ht [61] (by decide)) (λv s3 c1 c2 c3 =>?_) 0 (by omega) (m2:=0)
  rw[<- c3]
  refine Okr.bind (ok_expr hr c2 (hB.imp_right λq=>by omega)) (λv s4 d1 d2 d3 =>?_) 0 (by omega) (m2:=0)
  rw[<- d3]
  refine Okr.bind (ok_add d2 _ _ _ _ _) (λv s5 e1 e2 e3 =>?_) 0 (by omega) (m2:=0)
  rw[<- e3]
  exact(ok_ended ht e2 _).weak (Nat.zero_le _)
 ·refine Okr.bind (ok_exp a2 ht [61] (by decide)) (λv s3 c1 c2 c3 =>?_) 0 (by omega) (m2:=0)
  rw[<- c3]
  refine Okr.bind (ok_rest ht hr c2 _ (hB.imp_right λq=>by omega)) (λv s4 d1 d2 d3 =>?_) 0 (by omega) (m2:=0)
  rw[<- d3]
  exact(ok_ended ht d2 _).weak (Nat.zero_le _)
theorem ok_out {s:St}(h:s.nx<ts.length)(hx:(tkn ts s).s≠[])(hB:o\/10*(ts.length-s.nx)+0<=B):Okr ts o s 1 s.op (outM ts rec s):=by
 have ek:(takeS s).nx=s.nx+1:=rfl
 unfold outM;simp only
 refine ok_take (m:=0) h ht (.inr hx) (λhl =>?_)
 refine Okr.bind (ok_leaf hl ht 18) (λv s1 a1 a2 a3 =>?_) 0 (by omega) (m2:=0)
 have e:s1.op=s.op:=a3
 rw[<- e]
 refine Okr.bind (ok_expr hr a2 (hB.imp_right λq=>by omega)) (λv s4 d1 d2 d3 =>?_) 0 (by omega) (m2:=0)
 rw[<- d3]
 refine Okr.bind (ok_add d2 _ _ _ _ _) (λv s5 e1 e2 e3 =>?_) 0 (by omega) (m2:=0)
 rw[<- e3]
 exact(ok_ended ht e2 _).weak (Nat.zero_le _)
theorem ok_if {s:St}(h:s.nx<ts.length)(hx:(tkn ts s).s≠[])(hB:o\/10*(ts.length-s.nx)+0<=B):Okr ts o s 1 s.op (ifM ts rec s):=by
 have ek:(takeS s).nx=s.nx+1:=rfl
 unfold ifM;simp only
 refine ok_take (m:=0) h ht (.inr hx) (λhl =>?_)
 refine Okr.bind (ok_expr hr hl (hB.imp_right λq=>by omega)) (λv s1 a1 a2 a3 =>?_) 0 (by omega) (m2:=0)
 have e:s1.op=s.op:=a3
 rw[<- e]
 refine Okr.bind (ok_block ht hr a2 (hB.imp_right λq=>by omega)) (λv s2 b1 b2 b3 =>?_) 0 (by omega) (m2:=0)
 rw[<- b3]
 split
 ·rename_i q
  have e2:(tkn ts s2).s=wElse:=by simpa [sees]using q
  have ek2:(takeS s2).nx=s2.nx+1:=rfl
  refine(ok_take (m:=0) b2 ht (.inr (by rw[e2];decide)) (λhl2 =>?_)).weak (Nat.zero_le _)
  exact Okr.bind (ok_block ht hr hl2 (hB.imp_right λq=>by omega)) (λv s3 c1 c2 c3=>c3▸ok_add c2 _ _ _ _ _) 0 (by omega)
 ·exact Okr.bind (ok_add b2 _ _ _ _ _) (λv s3 c1 c2 c3=>c3▸ok_add c2 _ _ _ _ _) 0 (by omega)
theorem ok_while {s:St}(h:s.nx<ts.length)(hx:(tkn ts s).s≠[])(hB:o\/10*(ts.length-s.nx)+0<=B):Okr ts o s 1 s.op (whileM ts rec s):=by
 have ek:(takeS s).nx=s.nx+1:=rfl
 unfold whileM;simp only
 refine ok_take (m:=0) h ht (.inr hx) (λhl =>?_)
 refine Okr.bind (ok_expr hr hl (hB.imp_right λq=>by omega)) (λv s1 a1 a2 a3 =>?_) 0 (by omega) (m2:=0)
 have e:s1.op=s.op:=a3
 rw[<- e]
 exact Okr.bind (ok_block ht hr a2 (hB.imp_right λq=>by omega)) (λv s3 c1 c2 c3=>c3▸ok_add c2 _ _ _ _ _) 0 (by omega)
theorem ok_return {s:St}(h:s.nx<ts.length)(hx:(tkn ts s).s≠[])(hB:o\/10*(ts.length-s.nx)+0<=B):Okr ts o s 1 s.op (returnM ts rec s):=by
 have ek:(takeS s).nx=s.nx+1:=rfl
 unfold returnM;simp only
 refine ok_take (m:=0) h ht (.inr hx) (λhl =>?_)
 split
 ·exact ok_add hl _ _ _ _ _
 ·exact Okr.bind (ok_expr hr hl (hB.imp_right λq=>by omega)) (λv s3 c1 c2 c3=>c3▸ok_add c2 _ _ _ _ _) 0 (by omega)
theorem ok_throw {s:St}(h:s.nx<ts.length)(hx:(tkn ts s).s≠[])(hB:o\/10*(ts.length-s.nx)+0<=B):Okr ts o s 1 s.op (throwM ts rec s):=by
 have ek:(takeS s).nx=s.nx+1:=rfl
 unfold throwM;simp only
 refine ok_take (m:=0) h ht (.inr hx) (λhl =>?_)
 exact Okr.bind (ok_expr hr hl (hB.imp_right λq=>by omega)) (λv s3 c1 c2 c3=>c3▸ok_add c2 _ _ _ _ _) 0 (by omega)
theorem ok_try {s:St}(h:s.nx<ts.length)(hx:(tkn ts s).s≠[])(hB:o\/10*(ts.length-s.nx)+0<=B):Okr ts o s 1 s.op (tryM ts rec s):=by
 have ek:(takeS s).nx=s.nx+1:=rfl
 unfold tryM;simp only
 refine ok_take (m:=0) h ht (.inr hx) (λhl =>?_)
 refine Okr.bind (ok_block ht hr hl (hB.imp_right λq=>by omega)) (λv s1 a1 a2 a3 =>?_) 0 (by omega) (m2:=0)
 have e:s1.op=s.op:=a3
 rw[<- e]
 refine Okr.bind (ok_exp a2 ht wCatch (by decide)) (λv s2 b1 b2 b3 =>?_) 0 (by omega) (m2:=0)
 rw[<- b3]
 refine Okr.bind (ok_name b2 ht) (λv s3 c1 c2 c3 =>?_) 0 (by omega) (m2:=0)
 rw[<- c3]
 exact Okr.bind (ok_block ht hr c2 (hB.imp_right λq=>by omega)) (λv s4 d1 d2 d3=>d3▸ok_add d2 _ _ _ _ _) 0 (by omega)
omit hr in
theorem ok_then {s:St}{r:Rs}(hq:Okr ts o s 1 s.op r):Okr ts o s 1 s.op (r.bind λv s=>endedM ts v s):=by
 refine Okr.bind hq (λv s1 a1 a2 a3 =>?_) 1 (by omega) (m2:=0)
 rw[<- a3];exact(ok_ended ht a2 _).weak (Nat.zero_le _)
theorem ok_stmt {s:St}(h:s.nx<ts.length)(hB:o\/10*(ts.length-s.nx)+0<=B):Okr ts o s 1 s.op (stmtM ts rec s):=by
 unfold stmtM;simp only
 split
 ·exact ok_named ht hr h (hB.imp_right λq=>by omega)
 split
 ·rename_i q;exact ok_out ht hr h (by rw[q];decide) (hB.imp_right λq=>by omega)
 split
 ·rename_i q;exact ok_if ht hr h (by rw[q];decide) (hB.imp_right λq=>by omega)
 split
 ·rename_i q;exact ok_while ht hr h (by rw[q];decide) (hB.imp_right λq=>by omega)
 split
 ·exact ok_then ht (ok_call ht hr h _ _ (hB.imp_right λq=>by omega))
 split
 ·rename_i q;exact ok_then ht (ok_return ht hr h (by rw[q];decide) (hB.imp_right λq=>by omega))
 split
 ·rename_i q;exact ok_then ht (ok_throw ht hr h (by rw[q];decide) (hB.imp_right λq=>by omega))
 split
 ·rename_i q;exact ok_try ht hr h (by rw[q];decide) (hB.imp_right λq=>by omega)
 ·exact ok_no h 2 (.inl rfl) _ _
theorem ok_vars {s:St}(h:s.nx<ts.length)(k:Nat)(a:List Int)(hB:o\/10*(ts.length-s.nx)+0<=B):Okr ts o s 0 s.op (varsM ts rec k a s):=by
 have ek:(takeS s).nx=s.nx+1:=rfl
 unfold varsM
 split
 ·rename_i q
  have e:(tkn ts s).s=wVar:=by simpa [sees]using q
  refine(ok_take (m:=0) h ht (.inr (by rw[e];decide)) (λhl =>?_)).weak (Nat.zero_le _)
  refine Okr.bind (ok_typed hl ht k _) (λv s1 a1 a2 a3 =>?_) 0 (by omega) (m2:=0)
  have e2:s1.op=s.op:=a3
  rw[<- e2]
  exact Okr.bind (ok_exp a2 ht [59] (by decide)) (λv s2 b1 b2 b3=>b3▸(hr s2 b2).2.2.2.2.2.2.1 k _ (hB.imp_right λq=>by omega)) 0 (by omega)
 ·exact ok_here h _
theorem ok_params {s:St}(h:s.nx<ts.length)(a:List Int)(hB:o\/10*(ts.length-s.nx)+0<=B):Okr ts o s 1 (s.op-1) (paramsM ts rec a s):=by
 have ek:(takeS s).nx=s.nx+1:=rfl
 unfold paramsM
 split
 ·rename_i q
  have e:(tkn ts s).s=[44]:=by simpa [sees]using q
  refine(ok_take (m:=1) h ht (.inr (by rw[e];decide)) (λhl =>?_)).weak (by omega)
  refine Okr.bind (ok_typed hl ht 4 _) (λv s1 a1 a2 a3 =>?_) 1 (by omega) (m2:=1)
  have e2:s1.op=s.op:=a3
  exact e2▸(hr s1 a2).2.2.2.2.2.2.2.1 _ (hB.imp_right λq=>by omega)
 ·refine Okr.bind (ok_fin h ht [41] (by decide)) (λv s1 a1 a2 a3 =>?_) 1 (by omega) (m2:=0)
  rw[<- a3];exact ok_here a2 _
theorem ok_plist {s:St}(h:s.nx<ts.length)(hB:o\/10*(ts.length-s.nx)+0<=B):Okr ts o s 1 s.op (plistM ts rec s):=by
 unfold plistM
 refine Okr.bind (ok_beg h ht [40] (by decide)) (λv s1 a1 a2 a3 =>?_) 1 (by omega) (m2:=0)
 have e:s1.op-1=s.op:=by omega
 split
 ·exact(e▸(hr s1 a2).2.2.2.2.2.2.2.1 _ (hB.imp_right λq=>by omega)).weak (Nat.zero_le _)
 ·refine Okr.bind (ok_typed a2 ht 4 _) (λv s2 b1 b2 b3 =>?_) 0 (by omega) (m2:=1)
  have e2:s2.op-1=s.op:=by omega
  exact e2▸(hr s2 b2).2.2.2.2.2.2.2.1 _ (hB.imp_right λq=>by omega)
theorem ok_proc {s:St}(h:s.nx<ts.length)(hB:o\/10*(ts.length-s.nx)+0<=B):Okr ts o s 1 s.op (procM ts rec s):=by
 unfold procM;simp only
 refine Okr.bind (ok_exp h ht wProc (by decide)) (λv s1 a1 a2 a3 =>?_) 1 (by omega) (m2:=0)
 rw[<- a3]
 refine Okr.bind (ok_name a2 ht) (λv s2 b1 b2 b3 =>?_) 0 (by omega) (m2:=0)
 rw[<- b3]
 refine Okr.bind (ok_plist ht hr b2 (hB.imp_right λq=>by omega)) (λv s3 c1 c2 c3 =>?_) 0 (by omega) (m2:=0)
 rw[<- c3]
 refine Okr.bind (m:=0) (n:=s3.op) ?_ (λv s4 d1 d2 d3 =>?_) 0 (by omega) (m2:=0)
 ·split
  ·exact ok_here c2 _
  ·exact(ok_type c2 ht).weak (Nat.zero_le _)
 ·refine Okr.bind (ok_beg d2 ht [123] (by decide)) (λv s5 e1 e2 e3 =>?_) 0 (by omega) (m2:=0)
  refine Okr.bind ((hr s5 e2).2.2.2.2.2.2.1 5 [] (hB.imp_right λq=>by omega)) (λv s6 f1 f2 f3 =>?_) 0 (by omega) (m2:=0)
  refine Okr.bind ((hr s6 f2).2.2.2.2.2.1 _ [] (hB.imp_right λq=>by omega)) (λv s7 g1 g2 g3 =>?_) 0 (by omega) (m2:=0)
  have e:s7.op=s3.op:=by omega
  exact e▸ok_add g2 _ _ _ _ _
theorem ok_procs {s:St}(h:s.nx<ts.length)(a:List Int)(hB:o\/10*(ts.length-s.nx)+0<=B):Okr ts o s 0 s.op (procsM ts rec a s):=by
 unfold procsM
 split
 ·exact Okr.bind (ok_proc ht hr h (hB.imp_right λq=>by omega)) (λv s1 a1 a2 a3=>a3▸(hr s1 a2).2.2.2.2.2.2.2.2 _ (hB.imp_right λq=>by omega)) 0 (by omega)
 ·exact ok_here h _
omit ht in
theorem ok_program {s:St}(h:s.nx<ts.length)(hB:o\/10*(ts.length-s.nx)+1<=B):Okr ts o s 0 s.op (programM ts rec s):=by
 unfold programM
 refine Okr.bind ((hr s h).2.2.2.2.2.2.1 2 [] (hB.imp_right λq=>by omega)) (λv s1 a1 a2 a3 =>?_) 0 (by omega) (m2:=0)
 rw[<- a3]
 refine Okr.bind ((hr s1 a2).2.2.2.2.2.2.2.2 _ (hB.imp_right λq=>by omega)) (λv s2 b1 b2 b3 =>?_) 0 (by omega) (m2:=0)
 rw[<- b3]
 exact Okr.bind (ok_end b2) (λv s3 c1 c2 c3=>c3▸ok_add c2 _ _ _ _ _) 0 (by omega)
end
theorem run_ok {ts:List Tok}(ht:TsOk ts)(o:Prop):∀f,JobOk ts o f (run ts f)
 |0=>λ_ _=>⟨λh=>h.elim id (λq=>by omega),λr _ h6 h=>h.elim id (λq=>by omega),λ_ _ _ _ h=>h.elim id (λq=>by omega),λ_ h=>h.elim id (λq=>by omega),λh=>h.elim id (λq=>by omega),λ_ _ h=>h.elim id (λq=>by omega),λ_ _ h=>h.elim id (λq=>by omega),λ_ h=>h.elim id (λq=>by omega),λ_ h=>h.elim id (λq=>by omega)⟩
 |f+1=>λ_ h=>
  have hr:=run_ok ht o f
  ⟨λhb=>ok_una ht hr h (hb.imp_right λq=>by omega),λr h1 h6 hb=>ok_bin hr h r h1 h6 (hb.imp_right λq=>by omega),λr l h1 h5 hb=>ok_loop ht hr h r l h1 h5 (hb.imp_right λq=>by omega),λa hb=>ok_exprs ht hr h a (hb.imp_right λq=>by omega),
   λhb=>ok_stmt ht hr h (hb.imp_right λq=>by omega),λp a hb=>ok_stmts ht hr h p a (hb.imp_right λq=>by omega),λk a hb=>ok_vars ht hr h k a (hb.imp_right λq=>by omega),λa hb=>ok_params ht hr h a (hb.imp_right λq=>by omega),λa hb=>ok_procs ht hr h a (hb.imp_right λq=>by omega)⟩
end
section
def st0:St:=⟨0,[],0,0⟩
def steps (ts:List Tok):Nat:=10*ts.length+10
def progR (ts:List Tok):Rs:=programM ts (run ts (steps ts)) st0
theorem progR_ok {ts:List Tok}(ht:TsOk ts):Okr ts False st0 0 0 (progR ts):=
 ok_program (run_ok ht False (steps ts)) (s:=st0) ht.pos (.inr (by show 10*(ts.length-0)+1<=10*ts.length+10;omega))
end
end Go.Proofs.YtedkgofehbecmaaGreatDoor
