/- PROVED here: parts N16 of the claim. No condition but those in each theorem's own head. -/
import Derived.Test.YtedkgofehbecmaaGreatDoorU08
namespace Go.Proofs.YtedkgofehbecmaaGreatDoor
def KI (s:St):Prop:=∀x ∈ s.nd,x.ks.length<=s.nd.length
def Kc (n:Nat)(s:St)(b:Nat)(r:Rs):Prop:=∀v s',r = .ok v s'->(v.length+n<=s'.nd.length+b/\s.nd.length<=s'.nd.length)/\(KI s->KI s')
theorem Kc.bind {n n0 b b0:Nat}{s:St}{r:Rs}{f:List Int->St->Rs}(h:Kc n s b r)(q:∀v s',v.length+n<=s'.nd.length+b->s.nd.length<=s'.nd.length->Kc n0 s' b0 (f v s')):Kc n0 s b0 (r.bind f):=λv s' e=>by
 obtain⟨v1,s1,e1,e2⟩:=Rs.bind_ok e
 have a:=h v1 s1 e1
 have c:=q v1 s1 a.1.1 a.1.2 v s' e2
 exact⟨⟨c.1.1,Nat.le_trans a.1.2 c.1.2⟩,λk=>c.2 (a.2 k)⟩
theorem kc_add {n b:Nat}{s:St}{kd m pl:Int}{tx:List UInt8}{ks:List Int}(hk:ks.length<=s.nd.length)(hn:n<=s.nd.length+b):Kc n s b (addM kd m pl tx ks s):=λv s' e=>by
 unfold addM at e;injection e with e1 e2;subst e1;subst e2
 refine⟨⟨by simp only[List.length_cons,List.length_nil,List.length_append];omega,by simp only[List.length_append];omega⟩,λh x hx =>?_⟩
 have hx:x ∈ s.nd++[⟨kd,m,pl,tx,ks⟩]:=hx
 show x.ks.length<=(s.nd++[(⟨kd,m,pl,tx,ks⟩:Nd)]).length
 rw[List.length_append]
 rcases List.mem_append.1 hx with hx |hx
 ·have:=h x hx;omega
 ·obtain rfl:=List.mem_singleton.1 hx
  show ks.length<=_
  omega
theorem kc_here {n b:Nat}{s:St}{v:List Int}(h:v.length+n<=s.nd.length+b):Kc n s b (.ok v s):=λv' s' e=>by
 injection e with e1 e2;subst e1;subst e2;exact⟨⟨h,Nat.le_refl _⟩,id⟩
theorem kc_no {n b:Nat}{s:St}{p e:Nat}:Kc n s b (.no p e):=λv s' h=>by cases h
theorem kc_out {n b:Nat}{s:St}:Kc n s b .out:=λv s' h=>by cases h
theorem kc_same {s s':St}{b:Nat}(e:s'.nd=s.nd):Kc s.nd.length s b (.ok [] s'):=λv s2 h=>by
 injection h with e1 e2;subst e1;subst e2
 exact⟨⟨by rw[e];simp,by rw[e];exact Nat.le_refl _⟩,λk x hx=>by rw[e]at hx |-;exact k x hx⟩
section
variable {ts:List Tok} {s:St} {x:List UInt8}
theorem kc_exp:Kc s.nd.length s 0 (expM ts x s):=by
 unfold expM;split
 ·exact kc_same rfl
 ·exact kc_no
theorem kc_name:Kc s.nd.length s 0 (nameM ts s):=by
 unfold nameM;split
 ·exact kc_same rfl
 ·exact kc_no
theorem kc_end:Kc s.nd.length s 0 (endM ts s):=by
 unfold endM;split
 ·exact kc_same rfl
 ·exact kc_no
theorem kc_beg:Kc s.nd.length s 0 (begM ts x s):=by
 unfold begM;split
 ·exact kc_no
 ·exact kc_exp.bind λv s' a b=>(show Kc s.nd.length s' 0 _ from kc_here (by rw[List.length_nil];show 0+s.nd.length<=s'.nd.length+0;omega))
theorem kc_fin:Kc s.nd.length s 0 (finM ts x s):=by
 unfold finM
 exact kc_exp.bind λv s' a b=>(show Kc s.nd.length s' 0 _ from kc_here (by rw[List.length_nil];show 0+s.nd.length<=s'.nd.length+0;omega))
theorem kc_type:Kc s.nd.length s 1 (typeM ts s):=by
 unfold typeM;simp only;split
 ·exact kc_no
 ·exact kc_here (s:=takeS s) (by rw[List.length_singleton];show 1+s.nd.length<=s.nd.length+1;omega)
theorem kc_leaf {kd:Nat}:Kc s.nd.length s 0 (leafM ts kd s):=by
 unfold leafM;simp only
 exact kc_name.bind λv s1 a b=>kc_add (Nat.zero_le _) (by omega)
theorem kc_typed {kd:Nat}{pl:Int}:Kc s.nd.length s 0 (typedM ts kd pl s):=by
 unfold typedM;simp only
 exact kc_name.bind λv s1 a b=>kc_type.bind λv2 s2 a2 b2=>kc_add (Nat.zero_le _) (by omega)
theorem kc_mark {kd:Nat}:Kc s.nd.length s 0 (markM ts kd s):=by
 unfold markM;simp only
 exact(show Kc s.nd.length (takeS s) 0 _ from(kc_name (s:=takeS s)).bind λv s1 a b=>kc_add (Nat.zero_le _) (by have c:(takeS s).nd.length=s.nd.length:=rfl;omega))
theorem kc_ended {v:List Int}{n:Nat}(h:v.length+n<=s.nd.length):Kc n s 0 (endedM ts v s):=by
 unfold endedM
 exact kc_exp.bind λ_ s1 a b=>kc_here (by omega)
end
def JobKc (rec:Job->St->Rs):Prop:=∀s,Kc s.nd.length s 0 (rec .una s)/\(∀r,Kc s.nd.length s 0 (rec (.bin r) s))/\(∀r (l:List Int) n,l.length+n<=s.nd.length->Kc n s 0 (rec (.loop r l) s))/\(∀(a:List Int) n,a.length+n<=s.nd.length->Kc n s 0 (rec (.exprs a) s))/\Kc s.nd.length s 0 (rec .stmt s)/\(∀p (a:List Int) n,a.length+n<=s.nd.length->Kc n s 0 (rec (.stmts p a) s))/\(∀k (a:List Int) n,a.length+n<=s.nd.length->Kc n s 0 (rec (.vars k a) s))/\(∀(a:List Int) n,a.length+n<=s.nd.length->Kc n s 0 (rec (.params a) s))/\∀(a:List Int) n,a.length+n<=s.nd.length->Kc n s 0 (rec (.procs a) s)
theorem kc_take {n b:Nat}{s:St}{r:Rs}(h:Kc n (takeS s) b r):Kc n s b r:=h
theorem tk_nd (s:St):(takeS s).nd.length=s.nd.length:=rfl
section
variable {ts:List Tok} {rec:Job->St->Rs} (hr:JobKc rec) {s:St}
include hr
theorem kc_expr:Kc s.nd.length s 0 (exprM rec s):=(hr s).2.1 1
theorem kc_idx:Kc s.nd.length s 0 (idxM ts rec s):=by
 unfold idxM
 exact kc_beg.bind λ_ s1 a b=>(kc_expr hr).bind λv s2 a2 b2=>kc_fin.bind λ_ s3 a3 b3=>kc_here (by omega)
theorem kc_vari:Kc s.nd.length s 0 (variM ts rec s):=by
 unfold variM;simp only
 refine kc_name.bind λ_ s1 a b =>?_
 split
 ·exact(kc_idx hr).bind λv s2 a2 b2=>kc_add (by omega) (by omega)
 ·exact kc_add (Nat.zero_le _) (by omega)
theorem kc_sign:Kc s.nd.length s 0 (signM ts rec s):=by
 unfold signM;simp only
 exact kc_beg.bind λ_ s1 a b=>(hr s1).1.bind λv s2 a2 b2=>(show Kc s.nd.length s2 0 _ from kc_add (s := { s2 with op:=s2.op-1 }) (show v.length<=s2.nd.length by omega) (show s.nd.length<=s2.nd.length+0 by omega))
theorem kc_una:Kc s.nd.length s 0 (unaM ts rec s):=by
 unfold unaM;simp only
 split
 ·exact kc_vari hr
 split
 ·exact kc_take (kc_add (Nat.zero_le _) (Nat.le_refl _))
 split
 ·exact kc_sign hr
 split
 ·exact kc_take (kc_add (Nat.zero_le _) (Nat.le_refl _))
 split
 ·exact kc_mark
 split
 ·exact kc_mark
 split
 ·exact kc_beg.bind λ_ s1 a b=>(kc_expr hr).bind λv s2 a2 b2=>kc_fin.bind λ_ s3 a3 b3=>kc_here (by omega)
 ·exact kc_no
theorem kc_bin {r:Nat}:Kc s.nd.length s 0 (binM rec r s):=by
 unfold binM;split
 ·exact(hr s).1
 ·exact((hr s).2.1 _).bind λv s1 a b=>(hr s1).2.2.1 _ _ _ (by omega)
theorem kc_loop {r n:Nat}{l:List Int}(h:l.length+n<=s.nd.length):Kc n s 0 (loopM ts rec r l s):=by
 unfold loopM;simp only;split
 ·refine kc_take (((hr (takeS s)).2.1 _).bind λv s1 a b=>(kc_add (n:=n) (b:=0) (by rw[List.length_append];have:=tk_nd s;omega) (by have:=tk_nd s;omega)).bind λv2 s2 a2 b2=>(hr s2).2.2.1 _ _ _ (by omega))
 ·exact kc_here (by omega)
theorem kc_exprs {a:List Int}{n:Nat}(h:a.length+n<=s.nd.length):Kc n s 0 (exprsM ts rec a s):=by
 unfold exprsM;split
 ·exact kc_take ((kc_expr hr).bind λv s1 c d=>(hr s1).2.2.2.1 _ _ (by rw[List.length_append];have:=tk_nd s;omega))
 ·exact kc_fin.bind λ_ s1 c d=>kc_here (by omega)
theorem kc_list:Kc s.nd.length s 0 (listM ts rec s):=by
 unfold listM
 refine kc_beg.bind λ_ s1 a b =>?_
 split
 ·exact(hr s1).2.2.2.1 _ _ (by rw[List.length_nil];omega)
 ·exact(kc_expr hr).bind λv s2 c d=>(hr s2).2.2.2.1 _ _ (by omega)
theorem kc_call {tx:List UInt8}{pl:Int}:Kc s.nd.length s 0 (callM ts rec tx pl s):=by
 unfold callM
 exact kc_exp.bind λ_ s1 a b=>kc_leaf.bind λv s2 c d=>(kc_list hr).bind λv3 s3 e f=>kc_add (by rw[List.length_append];omega) (by omega)
theorem kc_block:Kc s.nd.length s 0 (blockM ts rec s):=by
 unfold blockM;simp only
 exact kc_beg.bind λ_ s1 a b=>(hr s1).2.2.2.2.2.1 _ _ _ (by rw[List.length_nil];omega)
theorem kc_stmts {pl:Int}{a:List Int}{n:Nat}(h:a.length+n<=s.nd.length):Kc n s 0 (stmtsM ts rec pl a s):=by
 unfold stmtsM;split
 ·exact kc_fin.bind λ_ s1 c d=>kc_add (by omega) (by omega)
 ·exact(hr s).2.2.2.2.1.bind λv s1 c d=>(hr s1).2.2.2.2.2.1 _ _ _ (by rw[List.length_append];omega)
theorem kc_rest {t:Tok}:Kc s.nd.length s 0 (restM ts rec t s):=by
 unfold restM;simp only
 split
 ·exact kc_take (kc_leaf.bind λv s1 a b=>kc_add (by have:=tk_nd s;omega) (by have:=tk_nd s;omega))
 split
 ·exact kc_call hr
 split
 ·exact kc_take ((kc_expr hr).bind λv s1 a b=>kc_add (by have:=tk_nd s;omega) (by have:=tk_nd s;omega))
 ·exact(kc_expr hr).bind λv s1 a b=>kc_add (by omega) (by omega)
theorem kc_named:Kc s.nd.length s 0 (namedM ts rec s):=by
 unfold namedM;simp only
 refine kc_name.bind λ_ s1 a b =>?_
 split
 ·exact(kc_idx hr).bind λi s2 c d=>kc_exp.bind λ_ s3 e f=>(kc_expr hr).bind λv s4 g h=>(kc_add (n:=s4.nd.length) (b:=0) (by rw[List.length_append];omega) (by omega)).bind λv5 s5 k l=>kc_ended (by omega)
 ·exact kc_exp.bind λ_ s3 e f=>(kc_rest hr).bind λv s4 g h=>kc_ended (by omega)
theorem kc_outM:Kc s.nd.length s 0 (outM ts rec s):=by
 unfold outM;simp only
 exact kc_take (kc_leaf.bind λi s2 c d=>(kc_expr hr).bind λv s4 g h=>(kc_add (n:=s4.nd.length) (b:=0) (by rw[List.length_append];have:=tk_nd s;omega) (by omega)).bind λv5 s5 k l=>kc_ended (by have:=tk_nd s;omega))
theorem kc_if:Kc s.nd.length s 0 (ifM ts rec s):=by
 unfold ifM;simp only
 refine kc_take ((kc_expr hr).bind λv s1 a b=>(kc_block hr).bind λv2 s2 c d =>?_)
 split
 ·exact kc_take ((kc_block hr).bind λv3 s3 e f=>kc_add (by rw[List.length_append,List.length_append];have:=tk_nd s;have:=tk_nd s2;omega) (by have:=tk_nd s;have:=tk_nd s2;omega))
 ·exact(kc_add (n:=s2.nd.length) (b:=0) (Nat.zero_le _) (by omega)).bind λv3 s3 e f=>kc_add (by rw[List.length_append,List.length_append];have:=tk_nd s;omega) (by have:=tk_nd s;omega)
theorem kc_while:Kc s.nd.length s 0 (whileM ts rec s):=by
 unfold whileM;simp only
 exact kc_take ((kc_expr hr).bind λv s1 a b=>(kc_block hr).bind λv2 s2 c d=>kc_add (by rw[List.length_append];have:=tk_nd s;omega) (by have:=tk_nd s;omega))
theorem kc_return:Kc s.nd.length s 0 (returnM ts rec s):=by
 unfold returnM;simp only
 refine kc_take ?_
 split
 ·exact kc_add (Nat.zero_le _) (Nat.le_refl _)
 ·exact(kc_expr hr).bind λv s1 a b=>kc_add (by have:=tk_nd s;omega) (by have:=tk_nd s;omega)
theorem kc_throw:Kc s.nd.length s 0 (throwM ts rec s):=by
 unfold throwM;simp only
 exact kc_take ((kc_expr hr).bind λv s1 a b=>kc_add (by have:=tk_nd s;omega) (by have:=tk_nd s;omega))
theorem kc_try:Kc s.nd.length s 0 (tryM ts rec s):=by
 unfold tryM;simp only
 exact kc_take ((kc_block hr).bind λv s1 a b=>kc_exp.bind λ_ s2 c d=>kc_name.bind λ_ s3 e f=>(kc_block hr).bind λv4 s4 g h=>kc_add (by rw[List.length_append];have:=tk_nd s;omega) (by have:=tk_nd s;omega))
theorem kc_stmt:Kc s.nd.length s 0 (stmtM ts rec s):=by
 unfold stmtM;simp only
 split
 ·exact kc_named hr
 split
 ·exact kc_outM hr
 split
 ·exact kc_if hr
 split
 ·exact kc_while hr
 split
 ·exact(kc_call hr).bind λv s1 a b=>kc_ended (by omega)
 split
 ·exact(kc_return hr).bind λv s1 a b=>kc_ended (by omega)
 split
 ·exact(kc_throw hr).bind λv s1 a b=>kc_ended (by omega)
 split
 ·exact kc_try hr
 ·exact kc_no
theorem kc_vars {k:Nat}{a:List Int}{n:Nat}(h:a.length+n<=s.nd.length):Kc n s 0 (varsM ts rec k a s):=by
 unfold varsM;split
 ·exact kc_take (kc_typed.bind λv s1 c d=>kc_exp.bind λ_ s2 e f=>(hr s2).2.2.2.2.2.2.1 _ _ _ (by rw[List.length_append];have:=tk_nd s;omega))
 ·exact kc_here (by omega)
theorem kc_params {a:List Int}{n:Nat}(h:a.length+n<=s.nd.length):Kc n s 0 (paramsM ts rec a s):=by
 unfold paramsM paramM;split
 ·exact kc_take (kc_typed.bind λv s1 c d=>(hr s1).2.2.2.2.2.2.2.1 _ _ (by rw[List.length_append];have:=tk_nd s;omega))
 ·exact kc_fin.bind λ_ s1 c d=>kc_here (by omega)
theorem kc_plist:Kc s.nd.length s 0 (plistM ts rec s):=by
 unfold plistM paramM
 refine kc_beg.bind λ_ s1 a b =>?_
 split
 ·exact(hr s1).2.2.2.2.2.2.2.1 _ _ (by rw[List.length_nil];omega)
 ·exact kc_typed.bind λv s2 c d=>(hr s2).2.2.2.2.2.2.2.1 _ _ (by omega)
theorem kc_proc:Kc s.nd.length s 0 (procM ts rec s):=by
 unfold procM;simp only
 refine kc_exp.bind λ_ s1 a b=>kc_name.bind λ_ s2 c d=>(kc_plist hr).bind λv3 s3 e f=>Kc.bind (n:=s3.nd.length) (b:=1) ?_ λv4 s4 g h=>kc_beg.bind λ_ s5 i j=>((hr s5).2.2.2.2.2.2.1 _ _ s5.nd.length (by rw[List.length_nil];omega)).bind λv6 s6 k l=>((hr s6).2.2.2.2.2.1 _ _ s6.nd.length (by rw[List.length_nil];omega)).bind λv7 s7 m n=>kc_add (by rw[List.length_append,List.length_append];omega) (by omega)
 split
 ·exact kc_here (by rw[List.length_singleton];omega)
 ·exact kc_type
theorem kc_procs {a:List Int}{n:Nat}(h:a.length+n<=s.nd.length):Kc n s 0 (procsM ts rec a s):=by
 unfold procsM;split
 ·exact(kc_proc hr).bind λv s1 c d=>(hr s1).2.2.2.2.2.2.2.2 _ _ (by rw[List.length_append];omega)
 ·exact kc_here (by omega)
theorem kc_program:Kc s.nd.length s 0 (programM ts rec s):=by
 unfold programM
 exact((hr s).2.2.2.2.2.2.1 _ _ s.nd.length (by rw[List.length_nil];omega)).bind λv s1 a b=>((hr s1).2.2.2.2.2.2.2.2 _ s.nd.length (by omega)).bind λv2 s2 c d=>kc_end.bind λ_ s3 e f=>kc_add (by omega) (by omega)
end
theorem run_kc (ts:List Tok):∀f,JobKc (run ts f)
 |0=>λ_=>⟨kc_out,λ_=>kc_out,λ_ _ _ _=>kc_out,λ_ _ _=>kc_out,kc_out,λ_ _ _ _=>kc_out,λ_ _ _ _=>kc_out,λ_ _ _=>kc_out,λ_ _ _=>kc_out⟩
 |f+1=>λ_=>
  have hr:=run_kc ts f
  ⟨kc_una hr,λ_=>kc_bin hr,λ_ _ _ h=>kc_loop hr h,λ_ _ h=>kc_exprs hr h,kc_stmt hr,λ_ _ _ h=>kc_stmts hr h,λ_ _ _ h=>kc_vars hr h,λ_ _ h=>kc_params hr h,λ_ _ h=>kc_procs hr h⟩
theorem prog_kids {ts:List Tok}{v:List Int}{s:St}(h:progR ts = .ok v s):∀x ∈ s.nd,x.ks.length<=s.nd.length:=(kc_program (run_kc ts _) v s h).2 (λx hx=>by cases hx)
end Go.Proofs.YtedkgofehbecmaaGreatDoor
