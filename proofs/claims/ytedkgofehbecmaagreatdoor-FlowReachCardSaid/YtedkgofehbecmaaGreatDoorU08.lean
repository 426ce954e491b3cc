/- PROVED here: parts N08 of the claim. No condition but those in each theorem's own head. -/
import Derived.Test.YtedkgofehbecmaaGreatDoorU05
import Derived.Test.YtedkgofehbecmaaGreatDoorU07
namespace Go.Proofs.YtedkgofehbecmaaGreatDoor
open Go.Lib (hid)
def Nk (s:St)(k:Int)(r:Rs):Prop:=∀v s',r = .ok v s'->((s'.nd.length:Int)+s.nx+k<=s.nd.length+s'.nx/\s.nx<=s'.nx)/\(s.op<=40->s.mo<=40->s'.op<=40/\s'.mo<=40)
theorem Nk.bind {s:St}{k k2:Int}{r:Rs}{f:List Int->St->Rs}(h:Nk s k r)(q:∀v s',Nk s' k2 (f v s'))(k3:Int)(hk:k3<=k+k2):Nk s k3 (r.bind f):=λv s' e=>by
 obtain⟨v1,s1,e1,e2⟩:=Rs.bind_ok e
 have a:=h v1 s1 e1
 have b:=q v1 s1 v s' e2
 exact⟨⟨by have:=a.1;have:=b.1;omega,by have:=a.1;have:=b.1;omega⟩,λh1 h2=>b.2 (a.2 h1 h2).1 (a.2 h1 h2).2⟩
theorem Nk.weak {s:St}{k k':Int}{r:Rs}(h:Nk s k r)(hk:k'<=k):Nk s k' r:=λv s' e=>⟨⟨by have:=(h v s' e).1;omega,(h v s' e).1.2⟩,(h v s' e).2⟩
theorem nk_here (s:St)(v:List Int):Nk s 0 (.ok v s):=λv s' e=>by injection e with _ e;subst e;exact⟨⟨by omega,Nat.le_refl _⟩,λh1 h2=>⟨h1,h2⟩⟩
theorem nk_no (s:St)(k:Int)(p e:Nat):Nk s k (.no p e):=λv s' e=>by cases e
theorem nk_add (s:St)(kd n pl:Int)(tx:List UInt8)(ks:List Int):Nk s (-1) (addM kd n pl tx ks s):=λv s' e=>by
 unfold addM at e;injection e with _ e;subst e
 exact⟨⟨by simp;omega,Nat.le_refl _⟩,λh1 h2=>⟨h1,h2⟩⟩
theorem nk_take {s:St}{k:Int}{r:Rs}(h:Nk (takeS s) k r):Nk s (k+1) r:=λv s' e=>by
 have a:=h v s' e
 have e1:(takeS s).nd=s.nd:=rfl
 have e2:(takeS s).nx=s.nx+1:=rfl
 rw[e1,e2]at a
 exact⟨⟨by have:=a.1;omega,by have:=a.1;omega⟩,a.2⟩
section
variable (ts:List Tok) (s:St)
theorem nk_exp (x:List UInt8):Nk s 1 (expM ts x s):=by
 unfold expM;split
 ·exact(nk_take (nk_here _ _)).weak (by omega)
 ·exact nk_no _ _ _ _
theorem nk_name:Nk s 1 (nameM ts s):=by
 unfold nameM;split
 ·exact(nk_take (nk_here _ _)).weak (by omega)
 ·exact nk_no _ _ _ _
theorem nk_end:Nk s 0 (endM ts s):=by
 unfold endM;split
 ·exact nk_here _ _
 ·exact nk_no _ _ _ _
theorem nk_beg (x:List UInt8):Nk s 1 (begM ts x s):=by
 unfold begM;split
 ·exact nk_no _ _ _ _
 ·rename_i q
  intro v s' e
  obtain⟨v1,s1,e1,e2⟩:=Rs.bind_ok e
  have a:=nk_exp ts s x v1 s1 e1
  injection e2 with _ e2;subst e2
  have hs:sees ts x s=true/\s1.op=s.op:=by
   unfold expM at e1;split at e1
   ·rename_i q1;injection e1 with _ e1;subst e1;exact⟨q1,rfl⟩
   ·cases e1
  refine⟨⟨a.1.1,a.1.2⟩,λh1 h2 =>?_⟩
  have b:=a.2 h1 h2
  have:s.op≠40:=λh=>q ⟨hs.1,h⟩
  have:=hs.2
  show s1.op+1<=40/\max s1.mo (s1.op+1)<=40
  omega
theorem nk_fin (x:List UInt8):Nk s 1 (finM ts x s):=by
 unfold finM
 intro v s' e
 obtain⟨v1,s1,e1,e2⟩:=Rs.bind_ok e
 have a:=nk_exp ts s x v1 s1 e1
 injection e2 with _ e2;subst e2
 refine⟨⟨a.1.1,a.1.2⟩,λh1 h2 =>?_⟩
 have b:=a.2 h1 h2
 show s1.op-1<=40/\s1.mo<=40
 omega
theorem nk_type:Nk s 1 (typeM ts s):=by
 unfold typeM;simp only;split
 ·exact nk_no _ _ _ _
 ·exact(nk_take (nk_here _ _)).weak (by omega)
theorem nk_leaf (kd:Nat):Nk s 0 (leafM ts kd s):=by
 unfold leafM;simp only
 exact(nk_name ts s).bind (λ_ s=>nk_add _ _ _ _ _ _) 0 (by omega)
theorem nk_typed (kd:Nat)(pl:Int):Nk s 1 (typedM ts kd pl s):=by
 unfold typedM;simp only
 exact(nk_name ts s).bind (λ_ s=>(nk_type ts s).bind (λ_ s=>nk_add _ _ _ _ _ _) 0 (by omega)) 1 (by omega)
theorem nk_mark (kd:Nat):Nk s 1 (markM ts kd s):=by
 unfold markM;simp only
 exact nk_take ((nk_name ts _).bind (λ_ s=>nk_add _ _ _ _ _ _) 0 (by omega))
theorem nk_ended (v:List Int):Nk s 1 (endedM ts v s):=by
 unfold endedM
 exact(nk_exp ts s _).bind (λ_ s=>nk_here _ _) 1 (by omega)
theorem nk_param:Nk s 1 (paramM ts s):=by unfold paramM;exact nk_typed ts s _ _
end
def JobNk (rec:Job->St->Rs):Prop:=∀s,Nk s 0 (rec .una s)/\(∀r,Nk s 0 (rec (.bin r) s))/\(∀r l,Nk s 0 (rec (.loop r l) s))/\(∀a,Nk s 1 (rec (.exprs a) s))/\Nk s 0 (rec .stmt s)/\(∀p a,Nk s 0 (rec (.stmts p a) s))/\(∀k a,Nk s 0 (rec (.vars k a) s))/\(∀a,Nk s 1 (rec (.params a) s))/\∀a,Nk s 0 (rec (.procs a) s)
section
variable (ts:List Tok) {rec:Job->St->Rs} (hr:JobNk rec) (s:St)
include hr
theorem nk_expr:Nk s 0 (exprM rec s):=(hr s).2.1 1
theorem nk_idx:Nk s 2 (idxM ts rec s):=by
 unfold idxM
 exact(nk_beg ts s _).bind (λ_ s=>(nk_expr hr s).bind (λ_ s=>(nk_fin ts s _).bind (λ_ s=>nk_here _ _) 1 (by omega)) 1 (by omega)) 2 (by omega)
theorem nk_paren:Nk s 2 ((begM ts [40] s).bind λ_ s=>(exprM rec s).bind λv s=>(finM ts [41] s).bind λ_ s =>.ok v s):=
 (nk_beg ts s _).bind (λ_ s=>(nk_expr hr s).bind (λ_ s=>(nk_fin ts s _).bind (λ_ s=>nk_here _ _) 1 (by omega)) 1 (by omega)) 2 (by omega)
theorem nk_vari:Nk s 0 (variM ts rec s):=by
 unfold variM;simp only
 refine(nk_name ts s).bind (λ_ s =>?_) 0 (k2 := -1) (by omega)
 split
 ·exact(nk_idx ts hr s).bind (λ_ s=>nk_add _ _ _ _ _ _) _ (by omega)
 ·exact nk_add _ _ _ _ _ _
theorem nk_sign:Nk s 0 (signM ts rec s):=by
 unfold signM;simp only
 refine(nk_beg ts s _).bind (λ_ s=>(hr s).1.bind (λ_ s =>?_) (-1) (k2 := -1) (by omega)) 0 (by omega)
 intro v s' e
 have a:=nk_add _ _ _ _ _ _ v s' e
 exact⟨a.1,λh1 h2=>a.2 (by show s.op-1<=40;omega) h2⟩
theorem nk_una:Nk s 0 (unaM ts rec s):=by
 unfold unaM;simp only
 split
 ·exact nk_vari ts hr s
 split
 ·exact(nk_take (nk_add _ _ _ _ _ _)).weak (by omega)
 split
 ·exact nk_sign ts hr s
 split
 ·exact(nk_take (nk_add _ _ _ _ _ _)).weak (by omega)
 split
 ·exact(nk_mark ts s _).weak (by omega)
 split
 ·exact(nk_mark ts s _).weak (by omega)
 split
 ·exact(nk_paren ts hr s).weak (by omega)
 ·exact nk_no _ _ _ _
theorem nk_bin (r:Nat):Nk s 0 (binM rec r s):=by
 unfold binM;split
 ·exact(hr s).1
 ·exact((hr s).2.1 _).bind (λ_ s=>(hr s).2.2.1 _ _) 0 (by omega)
theorem nk_loop (r:Nat)(l:List Int):Nk s 0 (loopM ts rec r l s):=by
 unfold loopM;simp only;split
 ·exact(nk_take (((hr _).2.1 _).bind (λ_ s=>(nk_add _ _ _ _ _ _).bind (λ_ s=>(hr s).2.2.1 _ _) (-1) (by omega)) (-1) (by omega))).weak (by omega)
 ·exact nk_here _ _
theorem nk_exprs (a:List Int):Nk s 1 (exprsM ts rec a s):=by
 unfold exprsM;split
 ·exact(nk_take ((nk_expr hr _).bind (λ_ s=>(hr s).2.2.2.1 _) 1 (by omega))).weak (by omega)
 ·exact(nk_fin ts s _).bind (λ_ s=>nk_here _ _) 1 (by omega)
theorem nk_list:Nk s 2 (listM ts rec s):=by
 unfold listM
 refine(nk_beg ts s _).bind (λ_ s =>?_) 2 (k2:=1) (by omega)
 split
 ·exact(hr s).2.2.2.1 _
 ·exact(nk_expr hr s).bind (λ_ s=>(hr s).2.2.2.1 _) 1 (by omega)
theorem nk_call (tx:List UInt8)(pl:Int):Nk s 1 (callM ts rec tx pl s):=by
 unfold callM
 exact(nk_exp ts s _).bind (λ_ s=>(nk_leaf ts s _).bind (λ_ s=>(nk_list ts hr s).bind (λ_ s=>nk_add _ _ _ _ _ _) 1 (by omega)) 1 (by omega)) 1 (by omega)
theorem nk_block:Nk s 1 (blockM ts rec s):=by
 unfold blockM;simp only
 exact(nk_beg ts s _).bind (λ_ s=>(hr s).2.2.2.2.2.1 _ _) 1 (by omega)
theorem nk_stmts (pl:Int)(a:List Int):Nk s 0 (stmtsM ts rec pl a s):=by
 unfold stmtsM;split
 ·exact(nk_fin ts s _).bind (λ_ s=>nk_add _ _ _ _ _ _) 0 (by omega)
 ·exact(hr s).2.2.2.2.1.bind (λ_ s=>(hr s).2.2.2.2.2.1 _ _) 0 (by omega)
theorem nk_rest (t:Tok):Nk s (-1) (restM ts rec t s):=by
 unfold restM;simp only
 split
 ·exact(nk_take ((nk_leaf ts _ _).bind (λ_ s=>nk_add _ _ _ _ _ _) (-1) (by omega))).weak (by omega)
 split
 ·exact(nk_call ts hr s _ _).weak (by omega)
 split
 ·exact(nk_take ((nk_expr hr _).bind (λ_ s=>nk_add _ _ _ _ _ _) (-1) (by omega))).weak (by omega)
 ·exact(nk_expr hr _).bind (λ_ s=>nk_add _ _ _ _ _ _) (-1) (by omega)
theorem nk_named:Nk s 0 (namedM ts rec s):=by
 unfold namedM;simp only
 refine(nk_name ts s).bind (λ_ s =>?_) 0 (k2:=0) (by omega)
 split
 ·exact(nk_idx ts hr s).bind (λ_ s=>(nk_exp ts s _).bind (λ_ s=>(nk_expr hr s).bind (λ_ s=>(nk_add _ _ _ _ _ _).bind (λ_ s=>nk_ended ts s _) 0 (by omega)) 0 (by omega)) 0 (by omega)) 0 (by omega)
 ·exact(nk_exp ts s _).bind (λ_ s=>(nk_rest ts hr s _).bind (λ_ s=>nk_ended ts s _) 0 (by omega)) 0 (by omega)
theorem nk_outM:Nk s 0 (outM ts rec s):=by
 unfold outM;simp only
 exact(nk_take ((nk_leaf ts _ _).bind (λ_ s=>(nk_expr hr s).bind (λ_ s=>(nk_add _ _ _ _ _ _).bind (λ_ s=>nk_ended ts s _) 0 (by omega)) 0 (by omega)) 0 (by omega))).weak (by omega)
theorem nk_if:Nk s 0 (ifM ts rec s):=by
 unfold ifM;simp only
 refine(nk_take (k := -1) ((nk_expr hr _).bind (λ_ s=>(nk_block ts hr s).bind (λ_ s =>?_) (-1) (k2 := -2) (by omega)) (-1) (by omega))).weak (by omega)
 split
 ·exact(nk_take (k:=0) ((nk_block ts hr _).bind (λ_ s=>nk_add _ _ _ _ _ _) 0 (by omega))).weak (by omega)
 ·exact(nk_add _ _ _ _ _ _).bind (λ_ s=>nk_add _ _ _ _ _ _) _ (by omega)
theorem nk_while:Nk s 0 (whileM ts rec s):=by
 unfold whileM;simp only
 exact(nk_take ((nk_expr hr _).bind (λ_ s=>(nk_block ts hr s).bind (λ_ s=>nk_add _ _ _ _ _ _) 0 (by omega)) 0 (by omega))).weak (by omega)
theorem nk_return:Nk s 0 (returnM ts rec s):=by
 unfold returnM;simp only
 refine(nk_take (k := -1) ?_).weak (by omega)
 split
 ·exact nk_add _ _ _ _ _ _
 ·exact(nk_expr hr _).bind (λ_ s=>nk_add _ _ _ _ _ _) _ (by omega)
theorem nk_throw:Nk s 0 (throwM ts rec s):=by
 unfold throwM;simp only
 exact(nk_take (k := -1) ((nk_expr hr _).bind (λ_ s=>nk_add _ _ _ _ _ _) _ (by omega))).weak (by omega)
theorem nk_try:Nk s 0 (tryM ts rec s):=by
 unfold tryM;simp only
 exact(nk_take ((nk_block ts hr _).bind (λ_ s=>(nk_exp ts s _).bind (λ_ s=>(nk_name ts s).bind (λ_ s=>(nk_block ts hr s).bind (λ_ s=>nk_add _ _ _ _ _ _) 0 (by omega)) 0 (by omega)) 0 (by omega)) 0 (by omega))).weak (by omega)
theorem nk_stmt:Nk s 0 (stmtM ts rec s):=by
 unfold stmtM;simp only
 split
 ·exact nk_named ts hr s
 split
 ·exact nk_outM ts hr s
 split
 ·exact nk_if ts hr s
 split
 ·exact nk_while ts hr s
 split
 ·exact(nk_call ts hr s _ _).bind (λ_ s=>nk_ended ts s _) 0 (by omega)
 split
 ·exact(nk_return ts hr s).bind (λ_ s=>nk_ended ts s _) 0 (by omega)
 split
 ·exact(nk_throw ts hr s).bind (λ_ s=>nk_ended ts s _) 0 (by omega)
 split
 ·exact nk_try ts hr s
 ·exact nk_no _ _ _ _
theorem nk_vars (k:Nat)(a:List Int):Nk s 0 (varsM ts rec k a s):=by
 unfold varsM;split
 ·exact(nk_take ((nk_typed ts _ _ _).bind (λ_ s=>(nk_exp ts s _).bind (λ_ s=>(hr s).2.2.2.2.2.2.1 _ _) 0 (by omega)) 0 (by omega))).weak (by omega)
 ·exact nk_here _ _
theorem nk_params (a:List Int):Nk s 1 (paramsM ts rec a s):=by
 unfold paramsM;split
 ·exact(nk_take ((nk_param ts _).bind (λ_ s=>(hr s).2.2.2.2.2.2.2.1 _) 1 (by omega))).weak (by omega)
 ·exact(nk_fin ts s _).bind (λ_ s=>nk_here _ _) 1 (by omega)
theorem nk_plist:Nk s 2 (plistM ts rec s):=by
 unfold plistM
 refine(nk_beg ts s _).bind (λ_ s =>?_) 2 (k2:=1) (by omega)
 split
 ·exact(hr s).2.2.2.2.2.2.2.1 _
 ·exact(nk_param ts s).bind (λ_ s=>(hr s).2.2.2.2.2.2.2.1 _) 1 (by omega)
theorem nk_proc:Nk s 0 (procM ts rec s):=by
 unfold procM;simp only
 refine(nk_exp ts s _).bind (λ_ s=>(nk_name ts s).bind (λ_ s=>(nk_plist ts hr s).bind (λ_ s =>?_) 0 (k2 := -1) (by omega)) 0 (by omega)) 0 (by omega)
 refine Nk.bind (k:=0) ?_ (λ_ s=>(nk_beg ts s _).bind (λ_ s=>((hr s).2.2.2.2.2.2.1 _ _).bind (λ_ s=>((hr s).2.2.2.2.2.1 _ _).bind (λ_ s=>nk_add _ _ _ _ _ _) (-1) (by omega)) (-1) (by omega)) (-1) (by omega)) _ (by omega)
 split
 ·exact nk_here _ _
 ·exact(nk_type ts s).weak (by omega)
theorem nk_procs (a:List Int):Nk s 0 (procsM ts rec a s):=by
 unfold procsM;split
 ·exact(nk_proc ts hr s).bind (λ_ s=>(hr s).2.2.2.2.2.2.2.2 _) 0 (by omega)
 ·exact nk_here _ _
theorem nk_program:Nk s (-1) (programM ts rec s):=by
 unfold programM
 exact((hr s).2.2.2.2.2.2.1 _ _).bind (λ_ s=>((hr s).2.2.2.2.2.2.2.2 _).bind (λ_ s=>(nk_end ts s).bind (λ_ s=>nk_add _ _ _ _ _ _) (-1) (by omega)) (-1) (by omega)) (-1) (by omega)
end
theorem nk_out (s:St)(k:Int):Nk s k .out:=λv s' e=>by cases e
theorem run_nk (ts:List Tok):∀f,JobNk (run ts f)
 |0=>λ_=>⟨nk_out _ _,λ_=>nk_out _ _,λ_ _=>nk_out _ _,λ_=>nk_out _ _,nk_out _ _,λ_ _=>nk_out _ _,λ_ _=>nk_out _ _,λ_=>nk_out _ _,λ_=>nk_out _ _⟩
 |f+1=>λs=>
  have hr:=run_nk ts f
  ⟨nk_una ts hr s,nk_bin hr s,nk_loop ts hr s,nk_exprs ts hr s,nk_stmt ts hr s,nk_stmts ts hr s,nk_vars ts hr s,nk_params ts hr s,nk_procs ts hr s⟩
end Go.Proofs.YtedkgofehbecmaaGreatDoor
namespace Go.Proofs.YtedkgofehbecmaaGreatDoor
open Go.Lib (hid)
open Go Go.RowKit
open Tr (Bx heap1 bt gen_world ret_int ret_bool cell_same)
theorem Fr.mono {E E':Nat->Prop}{w w':World}(h:Fr E w w')(k:∀b,E b->E' b):Fr E' w w':=⟨h.os,h.tape,h.output,h.size,λb hb hE=>h.block b hb (λe=>hE (k b e))⟩
theorem Nodes.fr {X:Nat->Prop}{w w':World}{base g:Nat}{V:Value}{nd:List Nd}{l:List Value}(h:Nodes w X base V nd)(k:Fr (λb=>b=g) w w')(hg:Bx w g 151 l)(hgb:g<base):Nodes w' X base V nd:=by
 obtain⟨xs,h1,h2⟩:=h
 refine⟨xs,own_fr h1 k (λb e=>by omega),λj hj =>?_⟩
 obtain⟨K,c,e,hk,hkc⟩:=h2 j hj
 refine⟨K,c,e,hk.fr k (λb cs hb e =>?_),hkc⟩
 subst e
 have:=hb.symm.trans hg
 simp at this
def PE (g:Nat)(V:Value)(b:Nat):Prop:=b=g\/V.ownBlock=some b
structure Fo (w w':World) (g:Nat) (V V':Value):Prop where
 fr:Fr (PE g V) w w'
 own:∀b,V'.ownBlock=some b->V.ownBlock=some b\/w.heap.size<=b
theorem Fo.refl (w:World)(g:Nat)(V:Value):Fo w w g V V:=⟨Fr.refl _ _,λ_ h =>.inl h⟩
theorem Fo.below {w w':World}{g:Nat}{V:Value}(h:Below w.heap.size w w'):Fo w w' g V V:=⟨Fr.of h,λ_ h =>.inl h⟩
theorem Fo.box {w w':World}{g:Nat}{V:Value}(h:Fr (λb=>b=g) w w'):Fo w w' g V V:=⟨h.mono (λ_ e =>.inl e),λ_ h =>.inl h⟩
theorem Fo.trans {a b c:World}{g:Nat}{V V1 V2:Value}(h:Fo a b g V V1)(k:Fo b c g V1 V2):Fo a c g V V2:=
 ⟨⟨k.fr.os.trans h.fr.os,k.fr.tape.trans h.fr.tape,k.fr.output.trans h.fr.output,Nat.le_trans h.fr.size k.fr.size,λi hi hE=>(k.fr.block i (Nat.lt_of_lt_of_le hi h.fr.size) (λe=>hE (e.elim .inl (λq=>(h.own i q).elim .inr (λq=>by omega))))).trans (h.fr.block i hi hE)⟩,
  λi hi=>(k.own i hi).elim (h.own i) (λq =>.inr (Nat.le_trans h.fr.size q))⟩
theorem Fo.bx {w w':World}{g b:Nat}{V V':Value}{t:TypeId}{l:List Value}(k:Fo w w' g V V')(h:Bx w b t l)(hg:b≠g)(hV:V.ownBlock≠some b):Bx w' b t l/\V'.ownBlock≠some b:=
 ⟨Bx.fr h k.fr (λe=>e.elim hg hV),λe=>(k.own b e).elim hV (λq=>by have:=h.lt;omega)⟩
structure Pz (X:Nat->Prop) (w:World) (base g:Nat) (A:Option Addr) (c:Nat) (ts:List Tok) (V:Value) (s:St):Prop where
 px:Px w g A c ts V s
 nd:Nodes w X base V s.nd
 hb:base<=w.heap.size
 gb:g<base
 hA:∀a,A=some a->a.block<base
 hn:s.nd.length<=s.nx
 h40:s.op<=40/\s.mo<=40
 ok:TsOk ts
 hX:∀b,X b->b<w.heap.size
section
variable {X:Nat->Prop} {w w':World} {base g c:Nat} {A:Option Addr} {ts:List Tok} {V V':Value} {s s':St}
theorem Pz.move (h:Pz X w base g A c ts V s)(hF:Fr (λb=>b=g) w w')(hx:Px w' g A c ts V s')(hnd:s'.nd=s.nd)(hnx:s.nx<=s'.nx)(h40:s'.op<=40/\s'.mo<=40):Pz X w' base g A c ts V s':=
 ⟨hx,by rw[hnd];exact h.nd.fr hF h.px.box h.gb,Nat.le_trans h.hb hF.size,h.gb,h.hA,by rw[hnd];exact Nat.le_trans h.hn hnx,h40,h.ok,λb hb=>Nat.lt_of_lt_of_le (h.hX b hb) hF.size⟩
theorem Pz.below (h:Pz X w base g A c ts V s)(hb:Below w.heap.size w w'):Pz X w' base g A c ts V s:=h.move (Fr.of hb) (h.px.below hb) rfl (Nat.le_refl _) h.h40
theorem Pz.lt (h:Pz X w base g A c ts V s):g<w.heap.size:=Nat.lt_of_lt_of_le h.gb h.hb
theorem Pz.own (h:Pz X w base g A c ts V s):V.ownBlock≠some w.heap.size:=λe=>by
 obtain⟨xs,ho,_⟩:=h.nd
 have:=(ho.lt _ e).2
 omega
theorem Pz.new (h:Pz X w base g A c ts V s):w.heap.size≠g/\V.ownBlock≠some w.heap.size:=⟨by have:=h.lt;omega,h.own⟩
theorem Pz.len (h:Pz X w base g A c ts V s):s.nx<ts.length/\ts.length<=100000:=⟨h.px.nx,h.px.len⟩
def NP (g:Nat)(V:Value)(w:World)(R:Rs)(e:Ending)(w':World):Prop:=∃p er,R = .no p er/\e = .panicked [{ v:=refV p (er:Int),recovered:=false }]/\Fr (PE g V) w w'
def EPost (X:Nat->Prop)(base g:Nat)(A:Option Addr)(c:Nat)(ts:List Tok)(V v:Value)(w:World)(R:Rs)(e:Ending)(w':World):Prop:=
 NP g V w R e w'\/∃s',R = .ok [] s'/\e = .returned v/\Pz X w' base g A c ts V s'/\Fo w w' g V V
def IPost (X:Nat->Prop)(base g:Nat)(A:Option Addr)(c:Nat)(ts:List Tok)(V:Value)(w:World)(R:Rs)(e:Ending)(w':World):Prop:=
 NP g V w R e w'\/∃x s' V',R = .ok [x] s'/\e = .returned (.int .i64 x)/\Pz X w' base g A c ts V' s'/\Fo w w' g V V'
theorem NP.of {p q:Nat}{er:Int}{e:Ending}{R:Rs}(h:NPost p er w e w')(hq:er=(q:Int))(hR:R = .no p q):NP g V w R e w':=⟨p,q,hR,by rw[<- hq];exact h.1,Fr.of h.2⟩
theorem Rs.step {R r:Rs}{f:List Int->St->Rs}{v:List Int}{s':St}(HR:R=r.bind f)(hr:r = .ok v s'):R=f v s':=by rw[HR,hr];rfl
theorem Rs.step_no {R r:Rs}{f:List Int->St->Rs}{p e:Nat}(HR:R=r.bind f)(hr:r = .no p e):R = .no p e:=by rw[HR,hr];rfl
theorem Rs.step_in {R r:Rs}{f:List Int->St->Rs}(HR:R=r.bind f)(hne:R ≠ .out):r ≠ .out:=Rs.bind_in (f:=f) (by rw[<- HR];exact hne)
theorem token_z (h:Pz X w base g A c ts V s):Calls Tryz.prog 176 #[.pointer (some ⟨g,0,none⟩)] w (VPost (tokV (tkn ts s)) w):=token_any h.px
theorem sees_z (h:Pz X w base g A c ts V s)(x:List UInt8):Calls Tryz.prog 128 #[.pointer (some ⟨g,0,none⟩),.string (bs x)] w (VPost (.bool (sees ts x s)) w):=sees_any x h.px
def TPost (X:Nat->Prop)(base g:Nat)(A:Option Addr)(c:Nat)(ts:List Tok)(V v:Value)(s':St)(w:World)(e:Ending)(w':World):Prop:=e = .returned v/\Pz X w' base g A c ts V s'/\Fo w w' g V V
theorem take_z (h:Pz X w base g A c ts V s)(hs:(tkn ts s).k≠5\/(tkn ts s).s≠[]):Calls Tryz.prog 173 #[.pointer (some ⟨g,0,none⟩)] w (TPost X base g A c ts V (tokV (tkn ts s)) (takeS s) w):=by
 have hn:s.nx+1<ts.length:=hs.elim (h.ok.moreK h.px.nx) (h.ok.more h.px.nx)
 exact(take_any h.px hn).mono λe w' ⟨he,hx,hF⟩=>⟨he,h.move hF hx rfl (Nat.le_succ _) h.h40,Fo.box hF⟩
theorem expect_z (h:Pz X w base g A c ts V s)(x:List UInt8)(hx:x≠[]):Calls Tryz.prog 175 #[.pointer (some ⟨g,0,none⟩),.string (bs x)] w (EPost X base g A c ts V (tokV (tkn ts s)) w (expM ts x s)):=by
 cases hs:sees ts x s with
 |false=>exact(expect_no x h.px hs).mono λe w' q =>.inl (NP.of q (q:=2) rfl (by unfold expM;rw[hs];rfl))
 |true=>
  have e1:(tkn ts s).s=x:=by simpa [sees]using hs
  exact(expect_yes x h.px hs (h.ok.more h.px.nx (by rw[e1];exact hx))).mono λe w' ⟨he,hx,hF⟩ =>.inr ⟨takeS s,by unfold expM;rw[if_pos hs],he,h.move hF hx rfl (Nat.le_succ _) h.h40,Fo.box hF⟩
theorem name_z (h:Pz X w base g A c ts V s):Calls Tryz.prog 177 #[.pointer (some ⟨g,0,none⟩)] w (EPost X base g A c ts V (tokV (tkn ts s)) w (nameM ts s)):=by
 by_cases hs:(tkn ts s).k=1
 ·exact(name_yes h.px hs (h.ok.moreK h.px.nx (by rw[hs];decide))).mono λe w' ⟨he,hx,hF⟩ =>.inr ⟨takeS s,by unfold nameM;rw[if_pos hs],he,h.move hF hx rfl (Nat.le_succ _) h.h40,Fo.box hF⟩
 ·exact(name_no h.px hs).mono λe w' q =>.inl (NP.of q (q:=2) rfl (by unfold nameM;rw[if_neg hs]))
theorem end_z (h:Pz X w base g A c ts V s):Calls Tryz.prog 130 #[.pointer (some ⟨g,0,none⟩)] w (EPost X base g A c ts V (.tuple #[]) w (endM ts s)):=by
 by_cases hs:(tkn ts s).k=5
 ·exact(end_yes h.px hs).mono λe w' ⟨he,hb⟩ =>.inr ⟨s,by unfold endM;rw[if_pos hs],he,h.below hb,Fo.below hb⟩
 ·exact(end_no h.px hs).mono λe w' q =>.inl (NP.of q (q:=2) rfl (by unfold endM;rw[if_neg hs]))
theorem begin_z (h:Pz X w base g A c ts V s)(x:List UInt8)(hx:x≠[]):Calls Tryz.prog 181 #[.pointer (some ⟨g,0,none⟩),.string (bs x)] w (EPost X base g A c ts V (tokV (tkn ts s)) w (begM ts x s)):=by
 cases hs:sees ts x s with
 |false=>exact(begin_no x h.px hs).mono λe w' q =>.inl (NP.of q (q:=2) rfl (by unfold begM expM;rw[hs];rfl))
 |true=>
  by_cases ho:s.op=40
  ·exact(begin_deep x h.px hs ho).mono λe w' q =>.inl (NP.of q (q:=6) rfl (by unfold begM;rw[if_pos ⟨hs,ho⟩]))
  ·have e1:(tkn ts s).s=x:=by simpa [sees]using hs
   have h40:=h.h40
   exact(begin_yes x h.px hs (h.ok.more h.px.nx (by rw[e1];exact hx)) (by omega) h40.2).mono λe w' ⟨he,hx,hF⟩ =>.inr ⟨_,by unfold begM expM;rw[if_neg (λq=>ho q.2),if_pos hs];rfl,he,h.move hF hx rfl (Nat.le_succ _) (by show s.op+1<=40/\max s.mo (s.op+1)<=40;omega),Fo.box hF⟩
theorem finish_z (h:Pz X w base g A c ts V s)(x:List UInt8)(hx:x≠[])(ho:1<=s.op):Calls Tryz.prog 211 #[.pointer (some ⟨g,0,none⟩),.string (bs x)] w (EPost X base g A c ts V (.tuple #[]) w (finM ts x s)):=by
 cases hs:sees ts x s with
 |false=>exact(finish_no x h.px hs).mono λe w' q =>.inl (NP.of q (q:=2) rfl (by unfold finM expM;rw[hs];rfl))
 |true=>
  have e1:(tkn ts s).s=x:=by simpa [sees]using hs
  have h40:=h.h40
  exact(finish_yes x h.px hs (h.ok.more h.px.nx (by rw[e1];exact hx)) ho).mono λe w' ⟨he,hx,hF⟩ =>.inr ⟨_,by unfold finM expM;rw[if_pos hs];rfl,he,h.move hF hx rfl (Nat.le_succ _) (by show s.op-1<=40/\s.mo<=40;omega),Fo.box hF⟩
theorem typeWord_z (h:Pz X w base g A c ts V s):Calls Tryz.prog 180 #[.pointer (some ⟨g,0,none⟩)] w (IPost X base g A c ts V w (typeM ts s)):=by
 by_cases hs:typeOf (tkn ts s).s=0
 ·exact(typeWord_no h.px hs).mono λe w' q =>.inl (NP.of q (q:=2) rfl (by unfold typeM;simp only;rw[if_pos hs]))
 ·exact(typeWord_yes h.px hs (h.ok.more h.px.nx (λe=>hs (by rw[e];decide)))).mono λe w' ⟨he,hx,hF⟩ =>.inr ⟨_,takeS s,V,by unfold typeM;simp only;rw[if_neg hs],he,h.move hF hx rfl (Nat.le_succ _) h.h40,Fo.box hF⟩
theorem refuse_z (h:Pz X w base g A c ts V s)(er:Int):Calls Tryz.prog 183 #[.pointer (some ⟨g,0,none⟩),.int .i64 er] w (VPost (.agg #[.int .i64 ((tkn ts s).p:Int),.int .i64 er]) w):=refuse_any er h.px
theorem kd_new (hX:∀b,X b->b<w.heap.size)(ks:List Int):Kd (w.alloc (.cells (ks.map (Value.int .i64)).toArray 3)) X (some ⟨w.heap.size,0,none⟩) ks:=λh0=>
 ⟨w.heap.size,_,rfl,World.alloc_heap_new _ _,λj hj=>by simp[hj],λq=>by have:=hX _ q;omega⟩
theorem kd_nil (w:World)(K:Option Addr):Kd w X K []:=λh0=>absurd h0 (by simp)
theorem add_z (h:Pz X w base g A c ts V s)(kd nn pl:Int)(tx:List UInt8)(K0 KK:Option Addr)(n0 c0 kn kc:Nat)(ks:List Int)(hK:Kd w X KK ks)(hkn:kn=ks.length/\kn<=kc){s0:St}{R:Rs}(HR:R = .ok [(s.nd.length:Int)] { s with nd:=s.nd++[⟨kd,nn,pl,tx,ks⟩] })(hk:Nk s0 0 R)(h0:s0.nd.length<=s0.nx) :
  Calls Tryz.prog 131 #[.pointer (some ⟨g,0,none⟩),.agg #[.int .i64 kd,.int .i64 nn,.int .i64 pl,.string (bs tx),.slice K0 n0 c0],.slice KK kn kc] w (IPost X base g A c ts V w R):=by
 have hl:=h.px.len
 have hx:=h.px.nx
 have hn:=h.hn
 have hq:=(hk _ _ HR).1.1
 refine(add_any h.px h.nd kd nn pl tx K0 KK n0 c0 kn kc ks hK hkn h.hb h.gb h.hA (by omega)).mono ?_
 rintro e w' ⟨V',rfl,hX,hN,hF,hO⟩
 refine .inr ⟨_,_,V',HR,rfl,⟨hX,hN,Nat.le_trans h.hb hF.size,h.gb,h.hA,?_,h.h40,h.ok,λb hb=>Nat.lt_of_lt_of_le (h.hX b hb) hF.size⟩,⟨hF,hO⟩⟩
 simp only[List.length_append,List.length_cons,List.length_nil]at hq |-
 omega
theorem IPost.after {w0 w1:World}{V0 V1:Value}{R:Rs}{e:Ending}(f:Fo w0 w1 g V0 V1)(h:IPost X base g A c ts V1 w1 R e w'):IPost X base g A c ts V0 w0 R e w':=by
 rcases h with⟨p,er,hr,he,hF⟩ |⟨x,s',V',hr,he,hz,hF⟩
 ·exact .inl ⟨p,er,hr,he,(f.trans ⟨hF,λ_ h =>.inl h⟩).fr⟩
 ·exact .inr ⟨x,s',V',hr,he,hz,f.trans hF⟩
theorem np_after {w0 w1:World}{V0 V1:Value}{R:Rs}{p er:Nat}(f:Fo w0 w1 g V0 V1)(hr:R = .no p er)(hF:Fr (PE g V1) w1 w'):NP g V0 w0 R (.panicked [{ v:=refV p (er:Int),recovered:=false }]) w':=⟨p,er,hr,rfl,(f.trans ⟨hF,λ_ h =>.inl h⟩).fr⟩
end
end Go.Proofs.YtedkgofehbecmaaGreatDoor
namespace Go.Proofs.YtedkgofehbecmaaGreatDoor
open Go.Lib (hid)
open Go Go.RowKit
open Tr (Bx heap1 bt gen_world ret_int ret_bool cell_same)
theorem add_s1 {X:Nat->Prop}{w:World}{base g c:Nat}{A:Option Addr}{ts:List Tok}{V:Value}{s:St}(h:Pz X w base g A c ts V s)(kd nn pl:Int)(tx:List UInt8)(K0:Option Addr)(n0 c0:Nat)(x1:Int){s0:St}{R:Rs}(HR:R = .ok [(s.nd.length:Int)] { s with nd:=s.nd++[⟨kd,nn,pl,tx,[x1]⟩] })(hk:Nk s0 0 R)(h0:s0.nd.length<=s0.nx) :
  Calls Tryz.prog 131 #[.pointer (some ⟨g,0,none⟩),.agg #[.int .i64 kd,.int .i64 nn,.int .i64 pl,.string (bs tx),.slice K0 n0 c0],.slice (some ⟨w.heap.size,0,none⟩) 1 1] (w.alloc (.cells #[.int .i64 x1] 3)) (IPost X base g A c ts V w R):=
 (add_z (h.below (heap1 w (.cells #[.int .i64 x1] 3))) kd nn pl tx K0 (some ⟨w.heap.size,0,none⟩) n0 c0 1 1 [x1] (kd_new h.hX [x1]) ⟨rfl,Nat.le_refl _⟩ HR hk h0).mono λ_ _ q=>q.after (Fo.below (heap1 _ _))
theorem add_s2 {X:Nat->Prop}{w:World}{base g c:Nat}{A:Option Addr}{ts:List Tok}{V:Value}{s:St}(h:Pz X w base g A c ts V s)(kd nn pl:Int)(tx:List UInt8)(K0:Option Addr)(n0 c0:Nat)(x1 x2:Int){s0:St}{R:Rs}(HR:R = .ok [(s.nd.length:Int)] { s with nd:=s.nd++[⟨kd,nn,pl,tx,[x1,x2]⟩] })(hk:Nk s0 0 R)(h0:s0.nd.length<=s0.nx) :
  Calls Tryz.prog 131 #[.pointer (some ⟨g,0,none⟩),.agg #[.int .i64 kd,.int .i64 nn,.int .i64 pl,.string (bs tx),.slice K0 n0 c0],.slice (some ⟨w.heap.size,0,none⟩) 2 2] (w.alloc (.cells #[.int .i64 x1,.int .i64 x2] 3)) (IPost X base g A c ts V w R):=
 (add_z (h.below (heap1 w (.cells #[.int .i64 x1,.int .i64 x2] 3))) kd nn pl tx K0 (some ⟨w.heap.size,0,none⟩) n0 c0 2 2 [x1,x2] (kd_new h.hX [x1,x2]) ⟨rfl,Nat.le_refl _⟩ HR hk h0).mono λ_ _ q=>q.after (Fo.below (heap1 _ _))
theorem add_s3 {X:Nat->Prop}{w:World}{base g c:Nat}{A:Option Addr}{ts:List Tok}{V:Value}{s:St}(h:Pz X w base g A c ts V s)(kd nn pl:Int)(tx:List UInt8)(K0:Option Addr)(n0 c0:Nat)(x1 x2 x3:Int){s0:St}{R:Rs}(HR:R = .ok [(s.nd.length:Int)] { s with nd:=s.nd++[⟨kd,nn,pl,tx,[x1,x2,x3]⟩] })(hk:Nk s0 0 R)(h0:s0.nd.length<=s0.nx) :
  Calls Tryz.prog 131 #[.pointer (some ⟨g,0,none⟩),.agg #[.int .i64 kd,.int .i64 nn,.int .i64 pl,.string (bs tx),.slice K0 n0 c0],.slice (some ⟨w.heap.size,0,none⟩) 3 3] (w.alloc (.cells #[.int .i64 x1,.int .i64 x2,.int .i64 x3] 3)) (IPost X base g A c ts V w R):=
 (add_z (h.below (heap1 w (.cells #[.int .i64 x1,.int .i64 x2,.int .i64 x3] 3))) kd nn pl tx K0 (some ⟨w.heap.size,0,none⟩) n0 c0 3 3 [x1,x2,x3] (kd_new h.hX [x1,x2,x3]) ⟨rfl,Nat.le_refl _⟩ HR hk h0).mono λ_ _ q=>q.after (Fo.below (heap1 _ _))
set_option maxRecDepth 100000 in
set_option maxHeartbeats 1500000 in
theorem leaf_z {X:Nat->Prop}{w:World}{base g c:Nat}{A:Option Addr}{ts:List Tok}{V:Value}{s:St}(h:Pz X w base g A c ts V s)(kd:Nat):Calls Tryz.prog 271 #[.pointer (some ⟨g,0,none⟩),.int .i64 (kd:Int)] w (IPost X base g A c ts V w (leafM ts kd s)):=by
 have hk:Nk s 0 (leafM ts kd s):=nk_leaf ts s kd
 obtain⟨R,HR⟩:∃R,R=leafM ts kd s:=⟨_,rfl⟩
 rw[<- HR]at hk |-
 unfold leafM at HR
 dsimp only at HR
 have HC:=hid (name_z h)
 generalize tkn ts s=t at *
 have HK:=hid (And.intro HR (And.intro hk h.hn))
 clear HR hk h
 unfold tokV at *
 go_enter Tryz.func271,Tryz.ntmps271
 go_wp2_with (go_at_call 177;refine(HC.out).mono ?_;rintro e w1 (⟨p,er,hr,rfl,hF⟩ |⟨s1,hr,rfl,hz,hF⟩)<;>replace hr:=hid hr)
 ·exact⟨rfl,.inl ⟨p,er,Rs.step_no HK.out.1 hr.out,rfl,hF⟩⟩
 ·have HR1:=Rs.step HK.out.1 hr.out
  obtain⟨W2,hW2⟩:∃W2,w1.alloc (.cells #[.int .i64 (t.k:Int),.int .i64 t.n,.int .i64 (t.p:Int),.string (bs t.s)] 186)=W2:=⟨_,rfl⟩
  rw[hW2]
  have hb2:Below w1.heap.size w1 W2:=by rw[<- hW2];exact heap1 _ _
  have hT:Bx W2 w1.heap.size 186 [.int .i64 (t.k:Int),.int .i64 t.n,.int .i64 (t.p:Int),.string (bs t.s)]:=by rw[<- hW2];exact Bx.new w1 186 _
  have hz2:=hz.below hb2
  have HA:=hid (add_z hz2 (kd:Int) 0 (t.p:Int) t.s none none 0 0 0 0 [] (kd_nil _ _) ⟨rfl,Nat.le_refl _⟩ HR1 HK.out.2.1 HK.out.2.2)
  have HF:=hid (hF.trans (Fo.below (V:=V) hb2))
  have t2:=(hT.cell 2).trans rfl
  have t3:=(hT.cell 3).trans rfl
  clear hz hF hr HR1 hz2 hT hb2 HC HK
  go_wp2_with (go_at_call 131;refine(HA.out).mono ?_;rintro e w3 (⟨p,er,hr,rfl,hF⟩ |⟨x,s3,V3,hr,rfl,hz,hF⟩)<;>replace hr:=hid hr)
  ·exact⟨rfl,.inl (np_after HF.out hr.out hF)⟩
  ·go_ret
   exact .inr ⟨x,s3,V3,hr.out,rfl,hz,HF.out.trans hF⟩
set_option maxRecDepth 100000 in
set_option maxHeartbeats 1500000 in
theorem mark_z {X:Nat->Prop}{w:World}{base g c:Nat}{A:Option Addr}{ts:List Tok}{V:Value}{s:St}(h:Pz X w base g A c ts V s)(kd:Nat)(hs:(tkn ts s).s≠[]):Calls Tryz.prog 288 #[.pointer (some ⟨g,0,none⟩),.int .i64 (kd:Int)] w (IPost X base g A c ts V w (markM ts kd s)):=by
 have hk:Nk s 0 (markM ts kd s):=(nk_mark ts s kd).weak (by omega)
 obtain⟨R,HR⟩:∃R,R=markM ts kd s:=⟨_,rfl⟩
 rw[<- HR]at hk |-
 unfold markM at HR
 dsimp only at HR
 have HT:=hid (take_z h (.inr hs))
 have hf:=field36_2 (tkn ts s)
 have hf2:=field36_3 (tkn ts (takeS s))
 have HC:=hid (λw' (q:Pz X w' base g A c ts V (takeS s))=>name_z q)
 have HK:=hid (And.intro HR (And.intro hk h.hn))
 have HA:=hid (λ(w':World) (s2:St) (q:Pz X w' base g A c ts V s2) (hr:nameM ts (takeS s) = .ok [] s2)=>add_z q (kd:Int) 0 ((tkn ts s).p:Int) (tkn ts (takeS s)).s none none 0 0 0 0 [] (kd_nil _ _) ⟨rfl,Nat.le_refl _⟩ (Rs.step HR hr :) hk h.hn)
 generalize tokV (tkn ts (takeS s))=v2 at *
 generalize tokV (tkn ts s)=v at *
 generalize (tkn ts (takeS s)).s=a at *
 generalize ((tkn ts s).p:Int)=p0 at *
 clear hs HR hk h
 go_enter Tryz.func288,Tryz.ntmps288
 go_wp2_with (first|(go_at_call 173;refine HT.out.mono ?_;rintro e w1 ⟨rfl,hz1,hF1⟩) |(go_at_call 177;refine(HC.out _ hz1).mono ?_;rintro e w2 (⟨p,er,hr,rfl,hF⟩ |⟨s2,hr,rfl,hz2,hF2⟩)<;>replace hr:=hid hr) |(go_at_call 131;refine(HA.out _ _ hz2 hr.out).mono ?_;rintro e w3 (⟨p,er,hr,rfl,hF⟩ |⟨x,s3,V3,hr,rfl,hz3,hF3⟩)<;>replace hr:=hid hr))
 ·exact⟨rfl,.inl (np_after hF1 (Rs.step_no HK.out.1 hr.out) hF)⟩
 ·exact⟨rfl,.inl (np_after (hF1.trans hF2) hr.out hF)⟩
 ·go_ret
  exact .inr ⟨x,s3,V3,hr.out,rfl,hz3,(hF1.trans hF2).trans hF3⟩
set_option maxRecDepth 100000 in
set_option maxHeartbeats 1500000 in
theorem typed_z {X:Nat->Prop}{w:World}{base g c:Nat}{A:Option Addr}{ts:List Tok}{V:Value}{s:St}(h:Pz X w base g A c ts V s)(kd:Nat)(pl:Int):Calls Tryz.prog 174 #[.pointer (some ⟨g,0,none⟩),.int .i64 (kd:Int),.int .i64 pl] w (IPost X base g A c ts V w (typedM ts kd pl s)):=by
 have hk:Nk s 0 (typedM ts kd pl s):=(nk_typed ts s kd pl).weak (by omega)
 obtain⟨R,HR⟩:∃R,R=typedM ts kd pl s:=⟨_,rfl⟩
 rw[<- HR]at hk |-
 unfold typedM at HR
 dsimp only at HR
 have HT:=hid (name_z h)
 have hf:=field36_3 (tkn ts s)
 have HC:=hid (λw' s' (q:Pz X w' base g A c ts V s')=>typeWord_z q)
 have HK:=hid (And.intro HR (And.intro hk h.hn))
 have HA:=hid (λ(w':World) (V':Value) (x:Int) (s1 s2:St) (q:Pz X w' base g A c ts V' s2) (hr1:nameM ts s = .ok [] s1) (hr:typeM ts s1 = .ok [x] s2)=>add_z q (kd:Int) x pl (tkn ts s).s none none 0 0 0 0 [] (kd_nil _ _) ⟨rfl,Nat.le_refl _⟩ (Rs.step (Rs.step HR hr1) hr :) hk h.hn)
 generalize tokV (tkn ts s)=v at *
 generalize (tkn ts s).s=a at *
 clear HR hk h
 go_enter Tryz.func174,Tryz.ntmps174
 go_wp2_with (first|(go_at_call 177;refine(HT.out).mono ?_;rintro e w1 (⟨p,er,hr,rfl,hF⟩ |⟨s1,hr1,rfl,hz1,hF1⟩)<;>first|replace hr:=hid hr |replace hr1:=hid hr1) |(go_at_call 180;refine(HC.out _ _ hz1).mono ?_;rintro e w2 (⟨p,er,hr,rfl,hF⟩ |⟨n,s2,V2,hr2,rfl,hz2,hF2⟩)<;>first|replace hr:=hid hr |replace hr2:=hid hr2) |(go_at_call 131;refine(HA.out _ _ _ _ _ hz2 hr1.out hr2.out).mono ?_;rintro e w3 (⟨p,er,hr,rfl,hF⟩ |⟨x,s3,V3,hr,rfl,hz3,hF3⟩)<;>replace hr:=hid hr))
 ·exact⟨rfl,.inl ⟨p,er,Rs.step_no HK.out.1 hr.out,rfl,hF⟩⟩
 ·exact⟨rfl,.inl (np_after hF1 (Rs.step_no (Rs.step HK.out.1 hr1.out) hr.out) hF)⟩
 ·exact⟨rfl,.inl (np_after (hF1.trans hF2) hr.out hF)⟩
 ·go_ret
  exact .inr ⟨x,s3,V3,hr.out,rfl,hz3,(hF1.trans hF2).trans hF3⟩
set_option maxRecDepth 100000 in
set_option maxHeartbeats 1500000 in
theorem param_z {X:Nat->Prop}{w:World}{base g c:Nat}{A:Option Addr}{ts:List Tok}{V:Value}{s:St}(h:Pz X w base g A c ts V s):Calls Tryz.prog 179 #[.pointer (some ⟨g,0,none⟩)] w (IPost X base g A c ts V w (paramM ts s)):=by
 have HT:=hid (token_z h)
 have hf:=field36_2 (tkn ts s)
 have HC:=hid (λw' (q:Below w.heap.size w w')=>typed_z (h.below q) 4 ((tkn ts s).p:Int))
 obtain⟨R,HR⟩:∃R,R=paramM ts s:=⟨_,rfl⟩
 rw[<- HR]
 unfold paramM at HR
 rw[<- HR]at HC
 generalize tokV (tkn ts s)=v at *
 generalize ((tkn ts s).p:Int)=p0 at *
 clear h HR
 go_enter Tryz.func179,Tryz.ntmps179
 go_wp2_with (first|(go_at_call 176;refine HT.out.mono ?_;rintro e w1 ⟨rfl,hb1⟩) |(go_at_call 174;refine(HC.out _ hb1).mono ?_;rintro e w3 (⟨p,er,hr,rfl,hF⟩ |⟨x,s3,V3,hr,rfl,hz3,hF3⟩)<;>replace hr:=hid hr))
 ·exact⟨rfl,.inl (np_after (Fo.below hb1) hr.out hF)⟩
 ·go_ret
  exact .inr ⟨x,s3,V3,hr.out,rfl,hz3,(Fo.below hb1).trans hF3⟩
end Go.Proofs.YtedkgofehbecmaaGreatDoor
