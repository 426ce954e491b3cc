/- PROVED: TrTr Xa Xb Xc Xd. No more condition. -/
import Derived.Test.YteecfjhjllajlaaGreatDoorM02
import Derived.Laws.AppendOwnNone
import Derived.Shelf.Strconv.Itoa3
import Derived.Shelf.Small.Wraps
import Derived.ProofKit
import Derived.Shelf.Strings.BuilderK
import Derived.RangeFuncRecord
import Derived.Deep.LoopGhost
import Derived.Deep.Light
set_option maxHeartbeats 2000000
set_option maxRecDepth 100000
namespace Go.Proofs.YteecfjhjllajlaaGreatDoor
open Go.Lib (hid)
open Go Go.RowKit
namespace Tr
def nth (l:List Nd)(j:Nat):Nd:=l.getD j ⟨0,0,0,⟨#[]⟩,[]⟩
theorem jF {l:List Nd}{j:Nat}(h:j<l.length):nth l j=l[j]:=by unfold nth;simp[List.getD,h]
def Co (b:Nat->Option Nat):List Int->Nat->Option Nat
 | [],s=>some s
 |k :: ks,s=>if s=0 then none else if k=(s:Int)-1 then (match b (s-1) with|none=>none |some e=>Co b ks e) else none
def JS (l:List Nd):Nat->Nat->Option Nat
 |0=>λ_=>none
 |n+1=>λj=>if j=n then Co (JS l n) (aJ l n).reverse n else JS l n j
def AQ (l:List Nd)(p:Nat):Option Nat:=JS l (p+1) p
theorem NG (l:List Nd):∀(m j:Nat),j<m->JS l m j=AQ l j:=by
 intro m;induction m with
 |zero=>intro j hj;omega
 |succ m ih=>
  intro j hj;by_cases e:j=m
  ·subst e;rfl
  ·show(if j=m then _ else JS l m j)=_;rw[if_neg e];exact ih j (by omega)
theorem wG {b c:Nat->Option Nat}:∀(ks:List Int) (s:Nat),(∀q,q<s->b q=c q)->(∀q e,b q=some e->e<=q)->Co b ks s=Co c ks s
 | [],_,_,_=>rfl
 |k :: ks,s,h,hb=>by
  unfold Co;by_cases h0:s=0
  ·rw[if_pos h0,if_pos h0]
  ·rw[if_neg h0,if_neg h0];by_cases h1:k=(s:Int)-1
   ·rw[if_pos h1,if_pos h1,<- h (s-1) (by omega)];cases h2:b (s-1) with
    |none=>rfl
    |some e=>
     have:=hb _ _ h2;exact wG ks e (λq hq=>h q (by omega)) hb
   ·rw[if_neg h1,if_neg h1]
theorem Fv {b:Nat->Option Nat}(hb:∀q e,b q=some e->e<=q):∀(ks:List Int) (s e:Nat),Co b ks s=some e->e<=s
 | [],s,e,h=>by
  have h':some s=some e:=h;have:=Option.some.inj h';omega
 |k :: ks,s,e,h=>by
  unfold Co at h;split at h
  ·cases h
  split at h
  ·split at h
   ·cases h
   ·rename_i e1 he;have:=hb _ _ he;have:=Fv hb ks e1 e h;omega
  ·cases h
theorem xJ (l:List Nd):∀(n q e:Nat),JS l n q=some e->e<=q
 |0,_,_,h=>by cases h
 |n+1,q,e,h=>by
  have h':(if q=n then Co (JS l n) (aJ l n).reverse n else JS l n q)=some e:=h;by_cases h1:q=n
  ·rw[if_pos h1]at h';have:=Fv (xJ l n) _ _ _ h';omega
  ·rw[if_neg h1]at h';exact xJ l n q e h'
theorem Fw (l:List Nd)(q e:Nat)(h:AQ l q=some e):e<=q:=xJ l _ q e h
theorem AY (l:List Nd)(p:Nat):AQ l p=Co (AQ l) (aJ l p).reverse p:=by
 have h1:AQ l p=Co (JS l p) (aJ l p).reverse p:=if_pos rfl;rw[h1];exact wG _ p (λq hq=>NG l p q hq) (xJ l p)
theorem xK {b:Nat->Option Nat}{c:Nat->Nat}:∀(ks:List Int) (s:Nat),(∀q,q<s->b q=some (c q))->(∀q,q<s->c q<=q)->Co b ks s=gW c ks s
 | [],_,_,_=>rfl
 |k :: ks,s,h,hc=>by
  unfold Co gW;by_cases h0:s=0
  ·rw[if_pos h0,if_pos h0]
  ·rw[if_neg h0,if_neg h0];by_cases h1:k=(s:Int)-1
   ·rw[if_pos h1,if_pos h1,h (s-1) (by omega)];have:=hc (s-1) (by omega);exact xK ks _ (λq hq=>h q (by omega)) (λq hq=>hc q (by omega))
   ·rw[if_neg h1,if_neg h1]
theorem QE {l:List Nd}{b:Nat->Nat}{n:Nat}(hS:kr l b n):∀q,q<n->AQ l q=some (b q):=by
 intro q;induction q using Nat.strongRecOn with
 |_ q ih=>
  intro hq;rw[AY,xK _ q (λr hr=>ih r hr (by omega)) (λr hr=>hS.le r (by omega))];exact hS q hq
theorem Fx {b:Nat->Option Nat}(hb:∀q e,b q=some e->e<=q):∀(ks:List Int) (s e q:Nat),Co b ks s=some e->e<=q->q<s->∃m e',b m=some e'/\e'<=q/\q<=m/\m<s
 | [],s,e,q,h,h1,h2=>by
  have h':some s=some e:=h;have:=Option.some.inj h';omega
 |k :: ks,s,e,q,h,h1,h2=>by
  unfold Co at h;split at h
  ·cases h
  split at h
  ·split at h
   ·cases h
   ·rename_i e1 he;have h5:=hb _ _ he;by_cases hq:e1<=q
    ·exact⟨s-1,e1,he,hq,by omega,by omega⟩
    ·obtain⟨m,e',a1,a2,a3,a4⟩:=Fx hb ks e1 e q h h1 (by omega);exact⟨m,e',a1,a2,a3,by omega⟩
  ·cases h
theorem NH (l:List Nd):∀(p e:Nat),AQ l p=some e->∀q,e<=q->q<=p->∃e',AQ l q=some e':=by
 intro p;induction p using Nat.strongRecOn with
 |_ p ih=>
  intro e h q h1 h2;by_cases h3:q=p
  ·subst h3;exact⟨e,h⟩
  ·rw[AY]at h;obtain⟨m,e',a1,a2,a3,a4⟩:=Fx (Fw l) _ _ _ q h h1 (by omega);exact ih m a4 e' a1 q a2 a3
theorem Fy {l:List Nd}{n:Nat}(hn:1<=n)(h:AQ l (n-1)=some 0):kr l (λq=>(AQ l q).getD 0) n/\(AQ l (n-1)).getD 0=0:=by
 have hall:∀q,q<n->AQ l q=some ((AQ l q).getD 0):=λq hq=>by
  obtain⟨e,he⟩:=NH l (n-1) 0 h q (by omega) (by omega);rw[he];rfl
 refine⟨λq hq =>?_,by rw[h];rfl⟩;have h1:=xK (b:=AQ l) (c:=λq=>(AQ l q).getD 0) (aJ l q).reverse q (λr hr=>hall r (by omega)) (λr hr=>Fw l r _ (hall r (by omega)));rw[<- h1,<- AY];exact hall q hq
def SY (l:List Nd)(n:Nat):Prop:=∀p,p<n->∀k ∈ aJ l p,0<=k/\k<(p:Int)
theorem NI {l:List Nd}{b:Nat->Nat}{n:Nat}(hS:kr l b n):SY l n:=λp hp k hk=>by
 obtain⟨m,rfl,hm,_⟩:=hS.kid hp hk;omega
theorem JU {l:List Nd}{r:Int}:gV l r↔(1<=l.length/\l.length<=4000/\r=(l.length:Int)-1)/\SY l l.length/\AQ l (l.length-1)=some 0:=by
 constructor
 ·rintro⟨b,h1,h2,h3,h4,h5⟩;exact⟨⟨h1,h2,h3⟩,NI h4,by rw[QE h4 _ (by omega),h5]⟩
 ·rintro⟨⟨h1,h2,h3⟩,_,h5⟩;obtain⟨h6,h7⟩:=Fy h1 h5;exact⟨_,h1,h2,h3,h6,h7⟩
theorem dW {k:Nat}{w a:World}(h:Below k w a):Below k w a.drew:=⟨h.1,h.2,h.3,h.4,h.5⟩
theorem Fz (A:Option Addr)(c n:Nat)(l:List Nd)(r:Int)(w:World)(hN:eH w A l)(hn:n=l.length)(hk:∀x ∈ l,x.ks.length<=4000)(h:¬gV l r):Calls Tryz.prog 27 #[.agg #[.slice A n c,.int .i64 r]] w (dK false w):=by
 have hb:Below w.heap.size w (w.alloc (.cells #[.slice A n c,.int .i64 r] 25)):=aa _ _;have HS:=hid (zg A c n l r _ (hN.below hb) hn hk h);clear hN hk h hn;go_enter Tryz.func27,Tryz.ntmps27
 go_wp2_with (go_at_call 31;refine HS.out.mono ?_;rintro e w1 ⟨rfl,hb1⟩)
 go_ret
 exact⟨rfl,bt hb hb1⟩
def Cl (w w':World):Prop:=Below w.heap.size w w'
theorem Cl.trans {w a b:World}(h:Cl w a)(k:Below a.heap.size a b):Cl w b:=Below.trans (b:=a) h (k.mono h.size)
def Own (F:Nat):Prop:=∃fn,Tryz.prog.funcs[F]?=some fn/\(fn.name == "runtime.NumGoroutine")=false/\fn.body.isNone=false
theorem oV {F:Nat}(h:Own F)(args:Array Value)(w:World):(callFunc F args).run Tryz.prog w=.ok (.enter F args) w:=by
 obtain⟨fn,h1,h2,h3⟩:=h;simp only[callFunc,Sem.run_bind,run_program,Result.andThen_ok,h1,h2,h3,Bool.false_eq_true,if_false,Sem.run_pure]
theorem aB {w:World}{b off:Nat}{n:Int}(h:w.cell? ⟨b,off,none⟩=some (.int .i64 n)):(Instr.loadAt 3 (.pointer (some ⟨b,off,none⟩))).run Tryz.prog w=.ok (.int .i64 n) w:=by
 simp[go_sem,h]
theorem JV {t e:TypeId}{sz:Nat}(ht:Tryz.prog.underlying t=some (.slice (Tryz.prog.elem t)))(he:Tryz.prog.elem t=e)(hz:(Tryz.prog.info? e).map (·.size)=some sz)(b off n c k:Nat)(hk:k<n)(w:World):(Instr.indexAt t (.slice (some ⟨b,off,none⟩) n c) (.int .i64 (k:Int))).run Tryz.prog w=.ok (.pointer (some ⟨b,off+k*sz,none⟩)) w:=by
 have hlt:(k:Int)<(n:Int):=by omega
 rw[run_indexAt_slice w t _ n c .i64 _ ht,he];cases hq:Tryz.prog.info? e with
 |none=>rw[hq]at hz;cases hz
 |some i=>
  rw[hq]at hz;have hz':i.size=sz:=by simpa using hz
  simp[go_sem,sizeOf,typeInfo,hq,hz',hlt]
theorem zh (b off n c k:Nat)(hk:k<n)(w:World):(Instr.indexAt 35 (.slice (some ⟨b,off,none⟩) n c) (.int .i64 (k:Int))).run Tryz.prog w=.ok (.pointer (some ⟨b,off+k,none⟩)) w:=by
 have:=JV (t:=35) (e:=3) (sz:=1) (by kernel_rfl) (by kernel_rfl) (by kernel_rfl) b off n c k hk w;rw[Nat.mul_one]at this;exact this
section
variable {ops:Array Oper} {C:World->Prop} {Q:Act->Prop} {rest:List Oper} {d:Option Tmp} {ty:TypeId} {p:String} {af:Array Edge} {gd:Option (Nat × Bool)} {a:Act}
theorem q_op {op:Op}{v:Value}(hw:Region.wanted ⟨d,op,ty,p,af,gd⟩ (yielded ops a.tmps)=true)(hr:∀w,C w->Oper.quietAt Tryz.prog ⟨d,op,ty,p,af,gd⟩ a C w v)
  (h:wpQuiet Tryz.prog ops C Q rest (a.put d v)):wpQuiet Tryz.prog ops C Q (⟨d,op,ty,p,af,gd⟩ :: rest) a:=by
 unfold wpQuiet;rw[if_pos hw];exact⟨v,hr,h⟩
theorem il {x:Operand}{v:Value}(hw:Region.wanted ⟨d,.move x,ty,p,af,gd⟩ (yielded ops a.tmps)=true)(hx:a.eval x=v)
  (h:wpQuiet Tryz.prog ops C Q rest (a.put d v)):wpQuiet Tryz.prog ops C Q (⟨d,.move x,ty,p,af,gd⟩ :: rest) a:=
 q_op hw (λw _=>by unfold Oper.quietAt execOp;simp only[hx,Sem.run_pure];exact⟨rfl,rfl⟩) h
theorem AZ {c x y:Operand}{v:Value}(hw:Region.wanted ⟨d,.pick c x y,ty,p,af,gd⟩ (yielded ops a.tmps)=true)(hc:a.eval c=.bool true)(hx:a.eval x=v)
  (h:wpQuiet Tryz.prog ops C Q rest (a.put d v)):wpQuiet Tryz.prog ops C Q (⟨d,.pick c x y,ty,p,af,gd⟩ :: rest) a:=
 q_op hw (λw _=>by unfold Oper.quietAt execOp;simp[hc,hx,asBool,Oper.quietUpon]) h
theorem QF {op:BinOp}{t:TypeId}{x y:Operand}{u v r:Value}(hw:Region.wanted ⟨d,.binOp op t x y t,ty,p,af,gd⟩ (yielded ops a.tmps)=true)(hx:a.eval x=u)(hy:a.eval y=v)
  (hg:∀w,(eqGuard op t x y u v).run Tryz.prog w=.ok () w) (hr:∀w,(binOp op t u v).run Tryz.prog w=.ok r w)
  (h:wpQuiet Tryz.prog ops C Q rest (a.put d r)):wpQuiet Tryz.prog ops C Q (⟨d,.binOp op t x y t,ty,p,af,gd⟩ :: rest) a:=
 q_op hw (λw _=>by unfold Oper.quietAt execOp;simp only[hx,hy,Sem.run_bind,hg,hr,Sem.run_pure,Result.andThen_ok];exact⟨rfl,rfl⟩) h
theorem xL {t:TypeId}{x:Operand}{ad:Addr}{v:Value}(hw:Region.wanted ⟨d,.load t x,ty,p,af,gd⟩ (yielded ops a.tmps)=true)(hx:a.eval x=.pointer (some ad))(hl:∀w,C w->(Instr.loadAt t (.pointer (some ad))).run Tryz.prog w=.ok v w)
  (h:wpQuiet Tryz.prog ops C Q rest (a.put d v)):wpQuiet Tryz.prog ops C Q (⟨d,.load t x,ty,p,af,gd⟩ :: rest) a:=
 q_op hw (λw hC=>by unfold Oper.quietAt execOp;simp only[hx,Sem.run_bind,hl w hC,Sem.run_pure,Result.andThen_ok];exact⟨rfl,rfl⟩) h
theorem xM {t:TypeId}{k:Nat}{x:Operand}{ad ad':Addr}(hw:Region.wanted ⟨d,.fieldAddr t x k,ty,p,af,gd⟩ (yielded ops a.tmps)=true)(hx:a.eval x=.pointer (some ad))(hl:∀w,(Instr.fieldAt t (.pointer (some ad)) k).run Tryz.prog w=.ok (.pointer (some ad')) w)
  (h:wpQuiet Tryz.prog ops C Q rest (a.put d (.pointer (some ad')))):wpQuiet Tryz.prog ops C Q (⟨d,.fieldAddr t x k,ty,p,af,gd⟩ :: rest) a:=
 q_op hw (λw _=>by unfold Oper.quietAt execOp;simp only[hx,Sem.run_bind,hl w,Sem.run_pure,Result.andThen_ok];exact⟨rfl,rfl⟩) h
theorem JW {t:TypeId}{x y:Operand}{u v r:Value}(hw:Region.wanted ⟨d,.indexAddr t x y,ty,p,af,gd⟩ (yielded ops a.tmps)=true)(hx:a.eval x=u)(hy:a.eval y=v)(hl:∀w,(Instr.indexAt t u v).run Tryz.prog w=.ok r w)
  (h:wpQuiet Tryz.prog ops C Q rest (a.put d r)):wpQuiet Tryz.prog ops C Q (⟨d,.indexAddr t x y,ty,p,af,gd⟩ :: rest) a:=
 q_op hw (λw _=>by unfold Oper.quietAt execOp;simp only[hx,hy,Sem.run_bind,hl w,Sem.run_pure,Result.andThen_ok];exact⟨rfl,rfl⟩) h
theorem q_len {t:TypeId}{x:Operand}{A:Option Addr}{n c:Nat}(ht:t=35\/t=23)(hw:Region.wanted ⟨d,.call {callee :=.builtin .len,args := #[x],argTypes := #[t]},3,p,af,gd⟩ (yielded ops a.tmps)=true)(hx:a.eval x=.slice A n c)
  (h:wpQuiet Tryz.prog ops C Q rest (a.put d (.int .i64 (n:Int)))):wpQuiet Tryz.prog ops C Q (⟨d,.call {callee :=.builtin .len,args := #[x],argTypes := #[t]},3,p,af,gd⟩ :: rest) a:=
 q_op hw (λw _=>by
  have hl:(Builtin.len_ #[t] 3 #[.slice A n c]).run Tryz.prog w=.ok (.int .i64 (n:Int)) w:=by
   rcases ht with rfl |rfl<;>simp[go_sem]
  unfold Oper.quietAt execOp
  simp only[resolve,invoke,builtin,List.map_toArray,List.map_cons,List.map_nil,hx,Sem.run_bind,Sem.run_pure,Result.andThen_ok,hl]
  exact⟨rfl,rfl⟩) h
end
section
variable {ops:Array Oper} {Q:Exit->Act->World->Prop} {S:World->Prop} {fuel:Nat} {listed:Array Bool} {a:Act} {w:World} {o:Oper}
theorem A7 (i:Nat)(o:Oper)(v:Value)(hs:Region.noSelect ops=true)(hi:ops[i]?=some o)(hf:Region.free .any ops listed i=true)(hr:(Region.ready .any ops listed).contains i=true)
  (hQ:∀c a w,Q (.panic c) (a.put o.dst v) w->Q (.panic c) a w) (hw:Region.wanted o (yielded ops a.tmps)=true) (hy:∀w,S w->(execOp a.eval o).run Tryz.prog w=.ok (.value v) w) (hS:S w)
  (h:wpAnyH Tryz.prog .any ops Q S fuel (listed.setIfInBounds i true) (a.put o.dst v) w):wpAnyH Tryz.prog .any ops Q S (fuel+1) listed a w:=
 wpAnyH_take hi hs hf hr hQ (.inl ⟨hw,hy⟩) hS h
theorem aG (i:Nat)(v:Value){o:Oper}{t:Tmp}(hc:(Region.noSelect ops&&(Region.free .any ops listed i&&(Region.ready .any ops listed).contains i))=true)(hi:ops[i]?=some o)(hd:o.dst=some t)
  (hQ:∀c a w,Q (.panic c) (a.put (some t) v) w->Q (.panic c) a w) (hw:Region.wanted o (yielded ops a.tmps)=true) (hy:∀w,S w->(execOp a.eval o).run Tryz.prog w=.ok (.value v) w) (hS:S w)
  (h:wpAnyH Tryz.prog .any ops Q S fuel (listed.setIfInBounds i true) (a.put (some t) v) w):wpAnyH Tryz.prog .any ops Q S (fuel+1) listed a w:=by
 simp only[Bool.and_eq_true]at hc;rw[<- hd]at hQ h;exact A7 i o v hc.1 hi hc.2.1 hc.2.2 hQ hw hy hS h
theorem dQ (i:Nat)(o:Oper)(hi:ops[i]?=some o)(hr:Region.ready .any ops listed=[i])(hw:Region.wanted o (yielded ops a.tmps)=true)
  (h:o.wp Tryz.prog a w (λa' w'=>S w'/\wpAnyH Tryz.prog .any ops Q S fuel (listed.setIfInBounds i true) a' w') Q):wpAnyH Tryz.prog .any ops Q S (fuel+1) listed a w:=
 wpAnyH_all hr (by simp) λj hj=>by
  obtain rfl:j=i:=by simpa using hj
  unfold wpOp;simp only[hi,hw,if_true];exact .inl h
theorem nT (i:Nat)(o:Oper){F:Nat}{xs:Array Operand}{ts:Array TypeId}{args:Array Value}{C:Value->World->Prop}(hF:Own F)(ho:o.op=.call {callee :=.value (.func F),args:=xs,argTypes:=ts})(hi:ops[i]?=some o)(hr:Region.ready .any ops listed=[i])
  (hw:Region.wanted o (yielded ops a.tmps)=true) (ha':(xs.toList.map a.eval).toArray=args) (hc:Calls Tryz.prog F args w λe w'=>∃v,e=.returned v/\C v w')
  (h:∀v w',C v w'->S w'/\wpAnyH Tryz.prog .any ops Q S fuel (listed.setIfInBounds i true) (a.put o.dst v) w'):wpAnyH Tryz.prog .any ops Q S (fuel+1) listed a w:=
 dQ i o hi hr hw (by
  have ha:xs.map a.eval=args:=by rw[<- ha'];exact Array.ext' (by rw[Array.toList_map])
  unfold Oper.wp execOp
  have e:a.eval (.func F)=.func (.func F) #[] #[]:=rfl
  have e2:(#[]++args:Array Value) ++ #[]=args:=by simp
  simp only[ho,resolve,e,ha,Deferred.ofValue,invoke,Sem.run_bind,Sem.run_pure,Result.andThen_ok]
  rw[e2,oV hF]
  exact hc.mono λe w' ⟨v,he,hR⟩=>by subst he;exact h v w' hR)
theorem ak {t:TypeId}{x:Operand}{ad:Addr}{v:Value}(ho:o.op=.load t x)(hx:a.eval x=.pointer (some ad))(hl:∀w,S w->(Instr.loadAt t (.pointer (some ad))).run Tryz.prog w=.ok v w):∀w,S w->(execOp a.eval o).run Tryz.prog w=.ok (.value v) w:=λw hS=>by
 unfold execOp;simp only[ho,hx,Sem.run_bind,hl w hS,Sem.run_pure,Result.andThen_ok]
end
def dS (k:Int):Bool:=decide (7<=k)&&decide (k<=17)
def aI (k:Int):Bool:=decide (20<=k)&&decide (k<=27)
def fu (l:List Int):Bool:=l.all aI
def eQ (kd n:Int):Bool:=if kd=2\/kd=4\/kd=5 then decide (1<=n)&&decide (n<=4) else if kd=3 then decide (0<=n)&&decide (n<=4) else if kd=20 then decide (0<=n) else if kd=21 then decide (n=0) || decide (n=1) else decide (n=0)
def iD (a:Int):List Int->Nat
 | []=>0
 |x :: l=>if x=a then iD a l+1 else 0
def y9 (l:List Int)(a:Int):Nat:=iD a l
def qJ (l:List Int)(a b:Int):Nat:=y9 l a+iD b (l.drop (y9 l a))
def iE (l:List Int)(a b c:Int):Bool:=if c=0 then decide (qJ l a b=l.length) else decide (qJ l a b+1=l.length)&&decide (l.getD (qJ l a b) 0=c)
def bB (kd:Int)(l:List Int):Bool:=
 if kd=1 then iE l 2 3 0 else if kd=3 then iE l 4 5 6 else if kd=6 then l.all dS
 else if kd=7\/kd=15\/kd=17\/kd=23\/kd=26 then decide (l.length=1)&&fu l
 else if kd=8\/kd=27 then decide (l.length=2)&&fu l
 else if kd=9 then decide (l.length=1)&&decide (l.getD 0 0=18)
 else if kd=10 then decide (l.length=2)&&decide (l.getD 0 0=18)&&aI (l.getD 1 0)
 else if kd=11 then decide (l.length=3)&&aI (l.getD 0 0)&&decide (l.getD 1 0=6)&&decide (l.getD 2 0=6)
 else if kd=12 then decide (l.length=2)&&aI (l.getD 0 0)&&decide (l.getD 1 0=6)
 else if kd=13 then decide (1<=l.length)&&decide (l.getD 0 0=19)&&fu (l.drop 1)
 else if kd=14 then decide (l.length<=1)&&fu l
 else if kd=16 then decide (l.length=2)&&decide (l.getD 0 0=6)&&decide (l.getD 1 0=6)
 else decide (l.length=0)
def j6 (c:UInt8):Bool:=decide (48<=c.toNat)&&decide (c.toNat<=57)
def wdB (c:UInt8):Bool:=decide (97<=c.toNat)&&decide (c.toNat<=122) || decide (65<=c.toNat)&&decide (c.toNat<=90) || j6 c || c.toNat==95
theorem bW (c:UInt8)(w:World):Calls Tryz.prog 251 #[.int .u8 (c.toNat:Int)] w λe w'=>e=.returned (.bool (j6 c))/\w=w':=by
 by_cases h1:48<=(c.toNat:Int)
 ·have q1:decide (48<=(c.toNat:Int))=true:=by simpa using h1
  have hb:j6 c=decide ((c.toNat:Int)<=57):=by unfold j6;rw[Bool.eq_iff_iff];simp;omega
  rw[hb];clear hb;by_cases h2:(c.toNat:Int)<=57
  ·rw[decide_eq_true h2];go_enter Tryz.func251,Tryz.ntmps251
   go_wp2
   go_ret
   simp
  ·rw[decide_eq_false h2];go_enter Tryz.func251,Tryz.ntmps251
   go_wp2
   go_ret
   simp
 ·have hb:j6 c=false:=by unfold j6;rw[decide_eq_false (by omega)];rfl
  rw[hb];clear hb;go_enter Tryz.func251,Tryz.ntmps251
  go_wp2
  go_ret
  simp
theorem five (c:UInt8):(97<=(c.toNat:Int)/\(c.toNat:Int)<=122)\/122<(c.toNat:Int)\/(65<=(c.toNat:Int)/\(c.toNat:Int)<=90)\/(c.toNat:Int)<65\/(90<(c.toNat:Int)/\(c.toNat:Int)<97):=by omega
theorem iC (c:UInt8)(w:World):Calls Tryz.prog 252 #[.int .u8 (c.toNat:Int)] w λe w'=>e=.returned (.bool (wdB c))/\w=w':=by
 rcases five c with h |h |h |h |h
 ·have hb:wdB c=true:=by unfold wdB j6;simp;omega
  rw[hb];clear hb;obtain⟨h1,h2⟩:=h;go_enter Tryz.func252,Tryz.ntmps252
  go_wp2
  go_ret
  simp
 ·have hb:wdB c=false:=by unfold wdB j6;simp;omega
  have hd:j6 c=false:=by unfold j6;simp;omega
  have q:((c.toNat:Int)==95)=false:=by simp;omega
  rw[hb];clear hb;have h1:97<=(c.toNat:Int):=by omega
  have h2:¬(c.toNat:Int)<=122:=by omega
  have h3:65<=(c.toNat:Int):=by omega
  have h4:¬(c.toNat:Int)<=90:=by omega
  go_enter Tryz.func252,Tryz.ntmps252
  go_wp2_with (go_at_call 251;refine(bW _ _).mono ?_;rintro e w' ⟨rfl,rfl⟩)
  go_ret
  simp
 ·have hb:wdB c=true:=by unfold wdB j6;simp;omega
  rw[hb];clear hb;obtain⟨h3,h4⟩:=h;have h1:¬97<=(c.toNat:Int):=by omega
  go_enter Tryz.func252,Tryz.ntmps252
  go_wp2
  go_ret
  simp
 ·have hb:wdB c=j6 c:=by rw[Bool.eq_iff_iff];unfold wdB j6;simp;omega
  rw[hb];clear hb;have h1:¬97<=(c.toNat:Int):=by omega
  have h3:¬65<=(c.toNat:Int):=by omega
  have q:((c.toNat:Int)==95)=false:=by simp;omega
  cases hd:j6 c
  ·go_enter Tryz.func252,Tryz.ntmps252
   go_wp2_with (go_at_call 251;refine(bW _ _).mono ?_;rintro e w' ⟨rfl,rfl⟩)
   go_ret
   simp
  ·go_enter Tryz.func252,Tryz.ntmps252
   go_wp2_with (go_at_call 251;refine(bW _ _).mono ?_;rintro e w' ⟨rfl,rfl⟩)
   go_ret
   simp
 ·have hb:wdB c=((c.toNat:Int)==95):=by rw[Bool.eq_iff_iff];unfold wdB j6;simp;omega
  have hd:j6 c=false:=by unfold j6;simp;omega
  rw[hb];clear hb;have h1:¬97<=(c.toNat:Int):=by omega
  have h3:65<=(c.toNat:Int):=by omega
  have h4:¬(c.toNat:Int)<=90:=by omega
  generalize hq:((c.toNat:Int)==95)=b at *
  go_enter Tryz.func252,Tryz.ntmps252
  go_wp2_with (go_at_call 251;refine(bW _ _).mono ?_;rintro e w' ⟨rfl,rfl⟩)
  go_ret
  simp
def ko (l:List UInt8):Bool:=l==[118,97,114] || l==[112,114,111,99] || l==[105,110,116] || l==[98,111,111,108] || l==[97,114,114] || l==[102,117,110] || l==[105,110] || l==[111,117,116] || l==[105,102] || l==[101,108,115,101] || l==[119,104,105,108,101] || l==[99,97,108,108] || l==[114,101,116,117,114,110] || l==[116,104,114,111,119] || l==[116,114,121] || l==[99,97,116,99,104] || l==[110,101,119] || l==[108,101,110] || l==[116,114,117,101] || l==[102,97,108,115,101]
theorem uz (s:ByteArray)(w:World):Calls Tryz.prog 236 #[.string s] w λe w'=>e=.returned (.bool (ko s.toList))/\w=w':=by
 go_enter Tryz.func236,Tryz.ntmps236
 go_wp2
 all_goals
  first
  |(exfalso;simp_all only[Bool.false_eq_true];done)
  |(go_ret;exact⟨ax (by simp only[ko, *,Bool.true_or,Bool.or_true,Bool.or_self]),rfl⟩)
theorem j_ (s:ByteArray)(w:World):Calls Tryz.prog 236 #[.string s] w λe w'=>e=.returned (.bool (ko s.data.toList))/\w=w':=by
 rw[<- ByteArray.toList_eq];exact uz s w
theorem su (s:ByteArray)(k:Nat)(h:k<s.size):s.data.toList.take (k+1)=s.data.toList.take k++[s[k]]:=by
 rw[List.take_succ_eq_append_getElem (by simpa using h)];rfl
def kC (l:List UInt8):Bool:=l.all wdB
def iB (l:List UInt8):Bool:=decide (1<=l.length)&&decide (l.length<=20) && !(j6 (l.headD 0)) && !(ko l)&&kC l
theorem sw {l l':List UInt8}{c:UInt8}(e:l'=l++[c])(h:kC l=true)(hc:wdB c=true):kC l'=true:=by
 subst e;unfold kC at *;rw[List.all_append,h];simp[hc]
theorem qM (s:ByteArray)(h:0<s.size):s.data.toList.headD 0=s[0]:=by
 obtain⟨⟨l⟩⟩:=s;cases l with
 |nil=>simp[ByteArray.size]at h
 |cons a l=>rfl
theorem jf {l:List UInt8}(h:l.length=0\/20<l.length):iB l=false:=by
 unfold iB;rcases h with h |h
 ·rw[decide_eq_false (by omega:¬1<=l.length)];rfl
 ·rw[decide_eq_false (by omega:¬l.length<=20)];simp
theorem iV (s:ByteArray)(w:World)(hmax:s.size<=281474976710656):Calls Tryz.prog 209 #[.string s] w λe w'=>e=.returned (.bool (iB s.data.toList))/\w=w':=by
 have hlen:s.data.toList.length=s.size:=by simp
 by_cases h0:s.size=0
 ·rw[jf (.inl (by omega))];have q0:((s.size:Int)==0)=true:=beq_iff_eq.2 (by omega);clear h0 hlen;go_enter Tryz.func209,Tryz.ntmps209
  go_wp2
  go_ret
  simp
 ·have q0:((s.size:Int)==0)=false:=beq_eq_false_iff_ne.2 (by omega);by_cases h1:20<s.size
  ·rw[jf (.inr (by omega))];have q1:(20:Int)<(s.size:Int):=by omega
   clear h0 hlen;go_enter Tryz.func209,Tryz.ntmps209
   go_wp2
   go_ret
   simp
  ·have hp:0<s.size:=by omega
   have hh:=qM s hp;have q1:¬(20:Int)<(s.size:Int):=by omega
   cases hd:j6 s[0]
   ·cases hk:ko s.data.toList
    ·have hE:iB s.data.toList=kC s.data.toList:=by
      unfold iB;rw[hh,hd,hk,decide_eq_true (by omega),decide_eq_true (by omega)];simp
     rw[hE];clear hE hh;have HL:=hid hlen;clear h0 hlen;go_enter Tryz.func209,Tryz.ntmps209
     go_wp2_with (first|(go_at_call 251;refine(bW _ _).mono ?_;rintro e w' ⟨rfl,rfl⟩) |(go_at_call 236;refine(j_ _ _).mono ?_;rintro e w' ⟨rfl,rfl⟩))
     go_loop [23] (λi=>∃k:Nat,k<=s.size/\i=.int .i64 k/\kC (s.data.toList.take k)=true) (λi=>s.size-(intOf i).toNat)
     case atStart=>exact⟨0,Nat.zero_le _,rfl,rfl⟩
     case round=>
      obtain⟨k,hk,rfl,ha⟩:=hrel;have HA:=hid ha;clear ha;by_cases hlt:k<s.size
      ·have hts:=hid (su s k hlt);have hlz:(k:Int)<(s.size:Int):=by omega
       cases hw:wdB s[k]
       ·go_wp2_with (go_at_call 252;refine(iC _ _).mono ?_;rintro e w' ⟨rfl,rfl⟩)
        go_ret
        refine⟨ax ?_,rfl⟩;symm;unfold kC;rw[List.all_eq_false];exact⟨s[k],by simp[ByteArray.getElem_eq_getElem_data],by simp[hw]⟩
       ·go_wp2_with (go_at_call 252;refine(iC _ _).mono ?_;rintro e w' ⟨rfl,rfl⟩)
        go_round
        case rel=>exact⟨k+1,by omega,by go_num,sw hts.out HA.out hw⟩
        case measure=>simp[intOf];omega
      ·have hlz:¬(k:Int)<(s.size:Int):=by omega
       go_wp2
       go_ret
       refine⟨ax ?_,rfl⟩;have:=HA.out;rw[List.take_of_length_le (by rw[HL.out];omega)]at this;exact this.symm
    ·have hE:iB s.data.toList=false:=by
      unfold iB;rw[hk];simp
     rw[hE];clear hE hh h0 hlen;go_enter Tryz.func209,Tryz.ntmps209
     go_wp2_with (first|(go_at_call 251;refine(bW _ _).mono ?_;rintro e w' ⟨rfl,rfl⟩) |(go_at_call 236;refine(j_ _ _).mono ?_;rintro e w' ⟨rfl,rfl⟩))
     go_ret
     simp
   ·have hE:iB s.data.toList=false:=by
     unfold iB;rw[hh,hd];simp
    rw[hE];clear hE hh h0 hlen;go_enter Tryz.func209,Tryz.ntmps209
    go_wp2_with (first|(go_at_call 251;refine(bW _ _).mono ?_;rintro e w' ⟨rfl,rfl⟩) |(go_at_call 236;refine(j_ _ _).mono ?_;rintro e w' ⟨rfl,rfl⟩))
    go_ret
    simp
def si (l:List UInt8):Bool:=l==[43] || l==[45] || l==[42] || l==[47] || l==[37] || l==[61,61] || l==[33,61] || l==[60] || l==[60,61] || l==[62] || l==[62,61] || l==[38,38] || l==[124,124]
def iW (kd:Int)(l:List UInt8):Bool:=
 if kd=2\/kd=3\/kd=4\/kd=5\/kd=7\/kd=8\/kd=9\/kd=16\/kd=17\/kd=18\/kd=19\/kd=22\/kd=23\/kd=24\/kd=25 then iB l
 else if kd=13 then iB l || l==[] else if kd=26 then l==[45] || l==[33] else if kd=27 then si l else l==[]
def kY (l:List Nd)(x:Nd):Bool:=decide (1<=x.kd)&&(decide (x.kd<=27)&&(iW x.kd x.tx.data.toList&&(eQ x.kd x.n&&bB x.kd (x.ks.map λk=>(nth l k.toNat).kd))))
def iX (l:List Nd):Bool:=l.all (kY l)
section
variable {Q:Exit->Act->World->Prop} {a:Act} {w:World} {o:Oper}
theorem di {S:World->Prop}{x:Operand}{v:Value}(ho:o.op=.assign x)(hx:a.eval x=v):∀w,S w->(execOp a.eval o).run Tryz.prog w=.ok (.value v) w:=λw _=>by unfold execOp;simp only[ho,hx,Sem.run_pure]
end
noncomputable def lF (l:List Nd)(r:Int):Bool:=tT l r&&(decide (dpt l r<=40)&&(decide ((nth l (l.length-1)).kd=1)&&iX l))
theorem zi (s:ByteArray)(w:World):Calls Tryz.prog 206 #[.string s] w (dK (s.data.toList==[]) w):=by
 by_cases g:s.data.toList=[]
 ·have qg:(s.toList==[])=true:=by rw[ByteArray.toList_eq];exact beq_iff_eq.2 g
  have HE:=hid (show(s.data.toList==[])=true from beq_iff_eq.2 g);clear g;go_enter Tryz.func206,Tryz.ntmps206
  go_wp2
  go_ret
  exact⟨ax HE.out.symm,Below.refl _ _⟩
 ·have qg:(s.toList==[])=false:=by rw[ByteArray.toList_eq];exact beq_eq_false_iff_ne.2 g
  have HE:=hid (show(s.data.toList==[])=false from beq_eq_false_iff_ne.2 g);clear g;go_enter Tryz.func206,Tryz.ntmps206
  go_wp2
  go_ret
  exact⟨ax HE.out.symm,Below.refl _ _⟩
theorem zk (s:ByteArray)(w:World):Calls Tryz.prog 213 #[.string s] w (dK (s.data.toList==[45] || s.data.toList==[33]) w):=by
 by_cases g:s.data.toList=[45]
 ·have qg:(s.toList==[45])=true:=by rw[ByteArray.toList_eq];exact beq_iff_eq.2 g
  have HE:=hid (show(s.data.toList==[45] || s.data.toList==[33])=true by rw[beq_iff_eq.2 g];rfl);clear g;go_enter Tryz.func213,Tryz.ntmps213
  go_wp2
  go_ret
  exact⟨ax HE.out.symm,Below.refl _ _⟩
 ·have qg:(s.toList==[45])=false:=by rw[ByteArray.toList_eq];exact beq_eq_false_iff_ne.2 g
  by_cases g2:s.data.toList=[33]
  ·have qg2:(s.toList==[33])=true:=by rw[ByteArray.toList_eq];exact beq_iff_eq.2 g2
   have HE:=hid (show(s.data.toList==[45] || s.data.toList==[33])=true by rw[beq_iff_eq.2 g2];simp);clear g g2;go_enter Tryz.func213,Tryz.ntmps213
   go_wp2
   go_ret
   exact⟨ax HE.out.symm,Below.refl _ _⟩
  ·have qg2:(s.toList==[33])=false:=by rw[ByteArray.toList_eq];exact beq_eq_false_iff_ne.2 g2
   have HE:=hid (show(s.data.toList==[45] || s.data.toList==[33])=false by rw[beq_eq_false_iff_ne.2 g,beq_eq_false_iff_ne.2 g2];rfl);clear g g2;go_enter Tryz.func213,Tryz.ntmps213
   go_wp2
   go_ret
   exact⟨ax HE.out.symm,Below.refl _ _⟩
theorem qV (s:ByteArray)(w:World)(hmax:s.size<=281474976710656):Calls Tryz.prog 211 #[.string s] w (dK (iB s.data.toList || s.data.toList==[]) w):=by
 by_cases g:s.data.toList=[]
 ·have qg:(s.toList==[])=true:=by rw[ByteArray.toList_eq];exact beq_iff_eq.2 g
  have HE:=hid (show(iB s.data.toList || s.data.toList==[])=true by rw[beq_iff_eq.2 g];simp);clear g;go_enter Tryz.func211,Tryz.ntmps211
  go_wp2
  go_ret
  exact⟨ax HE.out.symm,Below.refl _ _⟩
 ·have qg:(s.toList==[])=false:=by rw[ByteArray.toList_eq];exact beq_eq_false_iff_ne.2 g
  have HC:=hid (iV s w hmax);have HE:=hid (show(iB s.data.toList || s.data.toList==[])=iB s.data.toList by rw[beq_eq_false_iff_ne.2 g];simp);clear g;generalize iB s.data.toList=v at *
  go_enter Tryz.func211,Tryz.ntmps211
  go_wp2_with (go_at_call 209;refine HC.out.mono ?_;rintro e w1 ⟨rfl,rfl⟩)
  go_ret
  exact⟨ax HE.out.symm,Below.refl _ _⟩
theorem A8 (s:ByteArray)(w:World):Calls Tryz.prog 214 #[.string s] w λe w'=>e=.returned (.bool (si s.toList))/\w=w':=by
 go_enter Tryz.func214,Tryz.ntmps214
 go_wp2
 all_goals
  first
  |(exfalso;simp_all only[Bool.false_eq_true];done)
  |(go_ret;exact⟨ax (by simp only[si, *,Bool.true_or,Bool.or_true,Bool.or_self]),rfl⟩)
theorem xN (s:ByteArray)(w:World):Calls Tryz.prog 214 #[.string s] w (dK (si s.data.toList) w):=by
 rw[<- ByteArray.toList_eq];exact(A8 s w).mono λe w' ⟨h1,h2⟩=>⟨h1,by subst h2;exact Below.refl _ _⟩
end Tr
section
open Tr (nth)
section
variable (l:List Tr.Nd)
def ag (k:Int):Tr.Nd:=Tr.nth l k.toNat
def bu (k:Int):List UInt8:=(ag l k).tx.data.toList
def aL (k:Int)(i:Nat):Int:=(ag l k).ks.getD i 0
def qW (ex:Int->List UInt8)(k:Int):List UInt8:=if (ag l k).kd=27 then [40]++ex k++[41] else ex k
def bE:Nat->Int->List UInt8
 |0,_=>[]
 |f+1,p=>
  if (ag l p).kd=20 then Lib.itoa (ag l p).n
  else if (ag l p).kd=21 then Lib.formatBool ((ag l p).n==1)
  else if (ag l p).kd=22 then bu l p
  else if (ag l p).kd=23 then bu l p++[91]++bE f (aL l p 0)++[93]
  else if (ag l p).kd=24 then [108,101,110,32]++bu l p
  else if (ag l p).kd=25 then [38]++bu l p
  else if (ag l p).kd=26 then bu l p++qW l (bE f) (aL l p 0)
  else if (ag l p).kd=27 then qW l (bE f) (aL l p 0)++[32]++bu l p++[32]++qW l (bE f) (aL l p 1)
  else []
def qX (n:Int):List UInt8:=if n=1 then [105,110,116] else if n=2 then [98,111,111,108] else if n=3 then [97,114,114] else [102,117,110]
def fK (d:Nat):List UInt8:=(List.replicate d [(32:UInt8),32]).flatten
def lY (p:Int):List UInt8:=bu l p++[32]++qX (ag l p).n
def jg (d:Nat)(p:Int):List UInt8:=fK d++[118,97,114,32]++lY l p++[59,10]
def fD:List (List UInt8)->List UInt8
 | []=>[]
 | [x]=>x
 |x :: y :: r=>x++[44,32]++fD (y :: r)
def nP (xs:List (List UInt8)):List UInt8:=[40]++fD xs++[41]
def eF (f:Nat)(p:Int):List UInt8:=
 if (ag l p).kd=7 then bu l p++[32,61,32]++bE l f (aL l p 0)
 else if (ag l p).kd=8 then bu l p++[91]++bE l f (aL l p 0)++[93]++[32,61,32]++bE l f (aL l p 1)
 else if (ag l p).kd=9 then bu l p++[32,61,32,105,110,32]++bu l (aL l p 0)
 else if (ag l p).kd=10 then [111,117,116,32]++bu l (aL l p 0)++[32]++bE l f (aL l p 1)
 else if (ag l p).kd=11 then [105,102,32]++bE l f (aL l p 0)
 else if (ag l p).kd=12 then [119,104,105,108,101,32]++bE l f (aL l p 0)
 else if (ag l p).kd=13 then (if bu l p=[] then [] else bu l p++[32,61,32])++[99,97,108,108,32]++bu l (aL l p 0)++nP ((ag l p).ks.tail.map (bE l f))
 else if (ag l p).kd=14 then [114,101,116,117,114,110]++((ag l p).ks.map λk=>[32]++bE l f k).flatten
 else if (ag l p).kd=15 then [116,104,114,111,119,32]++bE l f (aL l p 0)
 else if (ag l p).kd=16 then [116,114,121]
 else if (ag l p).kd=17 then bu l p++[32,61,32,110,101,119,32]++bE l f (aL l p 0)
 else []
def fM (st:Nat->Int->List UInt8)(d:Nat)(p:Int)(locals:List Int):List UInt8:=
 [32,123,10]++(locals.map (jg l (d+1))).flatten++((ag l p).ks.map (st (d+1))).flatten++fK d++[125]
def nL (F:Nat):Nat->Nat->Int->List UInt8
 |0,_,_=>[]
 |f+1,d,p=>fK d++eF l F p ++
  (if (ag l p).kd=11 then fM l (nL F f) d (aL l p 1) []++(if (ag l (aL l p 2)).ks=[] then [] else [32,101,108,115,101]++fM l (nL F f) d (aL l p 2) [])
  else if (ag l p).kd=12 then fM l (nL F f) d (aL l p 1) []
  else if (ag l p).kd=16 then fM l (nL F f) d (aL l p 0) []++[32,99,97,116,99,104,32]++bu l p++fM l (nL F f) d (aL l p 1) []
  else [59])++[10]
def nQ (F:Nat)(p:Int):List UInt8:=
 [112,114,111,99,32]++bu l p++nP (((ag l p).ks.filter λk=>(ag l k).kd==4).map (lY l))++(if (ag l p).n=0 then [] else [32]++qX (ag l p).n) ++
  fM l (nL l F F) 0 ((ag l p).ks.getLastD 0) ((ag l p).ks.filter λk=>(ag l k).kd==5)++[10]
def lG (F:Nat)(p:Int):List UInt8:=((ag l p).ks.map λk=>if (ag l k).kd=2 then jg l 0 k else nQ l F k).flatten
end
def Ahead (l:List Tr.Nd):Prop:=∀i (hi:i<l.length),∀k ∈ l[i].ks,0<=k/\k<(i:Int)
theorem aS {l:List Tr.Nd}{i:Nat}(hi:i<l.length):ag l (i:Int)=l[i]:=by unfold ag;rw[Int.toNat_natCast];exact Tr.jF hi
end
theorem JX:∃j,Tryz.prog.info? 116=some j/\j.size=2:=Option.map_eq_some_iff.1 (by kernel_rfl)
theorem uE:Tryz.prog.underlying 113=some (.pointer 116):=by kernel_rfl
theorem zl:Tryz.prog.underlying 207=some .unsafePointer:=by kernel_rfl
theorem JY:liesAt Tryz.prog Tryz.prog.depth 118 (2 / Tryz.prog.cellsOf 118) 0 116 1=true:=by kernel_rfl
theorem xO (B b:Nat)(bs:List Value)(w:World)(h:Lib.IsBuilderF 118 5 B b bs w) :
  Calls Tryz.prog 244 #[.pointer (some ⟨b,0,none⟩)] w λe w'=>e=.returned (.tuple #[])/\(Lib.BuilderAtF 118 5 B b (.pointer (some ⟨b,0,none⟩)) bs w'/\Below B w w'/\Lib.OthersKept 5 (some b) w w'):=by
 obtain⟨j,hj,hjs⟩:=JX;rcases h with h |h
 ·have h0:=h.cell0;have hsh:=h.shape;have hfz:=h.frozen0;go_enter Tryz.func244,Tryz.ntmps244
  go_wp2;rw[Lib.run_to_unsafe w ⟨b,0,none⟩ uE zl hj (by rw[hjs];decide) hsh (Nat.zero_lt_succ 1)];simp only[Result.andThen];rw[Oper.upon_value];go_wp2;rw[run_callFunc_extern Tryz.func282 (by kernel_rfl) (by kernel_rfl) (by kernel_rfl) (e:=Extern.AbiNoEscape.same) (by kernel_rfl)];rw[Lib.run_noEscape];simp only[Result.andThen];rw[Oper.upon_value];go_wp2;rw[Lib.run_from_unsafe w ⟨b,0,none⟩ zl uE hj hsh JY];simp only[Result.andThen];rw[Oper.upon_value];go_wp2
  go_end0
  exact⟨rfl,h.used _,(Below.refl B w).setCell (p:=⟨b,0,none⟩) h.1 _,(Lib.OthersKept.refl _ _ w).setCell ⟨b,0,none⟩ rfl _⟩
 ·have h0:=h.cell0;go_enter Tryz.func244,Tryz.ntmps244
  go_wp2;rw[Lib.run_neq_ptr_same w _ uE hj];go_wp2
  go_end0
  exact⟨rfl,h,Below.refl B _,Lib.OthersKept.refl _ _ _⟩
theorem NJ:(Tryz.prog.info? 5).map (λi=>(i.zero,i.size,i.bytes))=some (some (.int .u8 0),1,1):=by kernel_rfl
theorem FB:Tryz.prog.underlying 114=some (.slice 5):=by kernel_rfl
def Pg (B b:Nat)(t:List UInt8)(w:World):Prop:=Lib.IsBuilderF 118 5 B b (Lib.byteCells t) w
def Kp (B b:Nat)(w w':World):Prop:=Below B w w'/\Lib.OthersKept 5 (some b) w w'
theorem Kp.refl (B b:Nat)(w:World):Kp B b w w:=⟨Below.refl _ _,Lib.OthersKept.refl _ _ _⟩
theorem Kp.trans {B b:Nat}{u v w:World}(h:Kp B b u v)(k:Kp B b v w):Kp B b u w:=⟨h.1.trans k.1,h.2.trans k.2⟩
def aK (B b:Nat)(t:List UInt8)(v:Value)(w:World)(e:Ending)(w':World):Prop:=e=.returned v/\Pg B b t w'/\Kp B b w w'
theorem ui {T e:TypeId}{B b:Nat}{p:Value}{bs:List Value}{w:World}(h:Lib.BuilderAtF T e B b p bs w):b<w.heap.size:=by
 obtain⟨_,v,hb,_⟩:=h;exact(Array.getElem?_eq_some_iff.1 hb).1
theorem Pg.lt {B b:Nat}{t:List UInt8}{w:World}(h:Pg B b t w):b<w.heap.size:=by
 rcases h with h |h<;>exact ui h
theorem uF (B b:Nat)(t:List UInt8)(s:ByteArray)(w:World)(h:Pg B b t w)(hlen:t.length+s.size<=140737488355328) :
  Calls Tryz.prog 189 #[.pointer (some ⟨b,0,none⟩),.string s] w (aK B b (t++s.data.toList) (.tuple #[.int .i64 s.size,.nilIface]) w):=by
 obtain⟨i0,hi,hz0,hz1,hz2⟩:=info_parts NJ;have hBw:B<=w.heap.size:=by
  have h1:=h.lt;rcases h with h |h<;>(have:=h.1;omega)
 have HC:=hid (xO B b (Lib.byteCells t) w h);have HT:=hid (show(Lib.byteCells t).length=t.length from Lib.byteCells_length t);clear h;go_enter Tryz.func189,Tryz.ntmps189
 go_wp2_with (go_at_call 244;refine HC.out.mono ?_);rintro e w1 ⟨rfl,h1,hb1,hk1⟩;have hlt:=ui h1;obtain⟨hB,v,hbk,hown,hne⟩:=h1;have c0:w1.cell? ⟨b,0,none⟩=some (.pointer (some ⟨b,0,none⟩)):=by rw[Lib.cell_of_heap hbk];rfl
 have c1:w1.cell? ⟨b,1,none⟩=some v:=by rw[Lib.cell_of_heap hbk];rfl
 go_wp2_with (at_builtin;refine Lib.wpList_append_own_stringF _ rfl _ _ 114 9 rfl B 5 i0 FB Tryz.underlying9 hi hz0 hz1 hz2 _ _ _ rfl hown s rfl ?c3 ?c4 ?c5 ?_)
 case c3=>unfold maxLen;have:=HT.out;omega
 case c4=>have:=HT.out;omega
 case c5=>have:=hb1.size;omega
 intro v' w2 hown' hgrow _;have hb2:w2.heap[b]?=some (.cells #[.pointer (some ⟨b,0,none⟩),v] 118 (0,0)):=by
  rw[hgrow.block b hlt (λe=>hne e.symm)];exact hbk
 have d0:w2.cell? ⟨b,0,none⟩=some (.pointer (some ⟨b,0,none⟩)):=by rw[Lib.cell_of_heap hb2];rfl
 have d1:w2.cell? ⟨b,1,none⟩=some v:=by rw[Lib.cell_of_heap hb2];rfl
 have f1:w2.frozen? ⟨b,1,none⟩=false:=Lib.frozen_of_heap hb2 1;obtain⟨ao,n',cap,rfl⟩:∃ao n' cap,v' = .slice ao n' cap:=by
  rcases hown'.2 with⟨hv,_⟩ |⟨g,cap,cur,fz,hv,_⟩
  ·exact⟨_,_,_,hv⟩
  ·exact⟨_,_,_,hv⟩
 have HF:=hid (And.intro hB (And.intro hb2 (And.intro hown' (And.intro hgrow (And.intro hown (And.intro hb1 hk1))))));clear hb2 hown' hgrow hown hb1 hk1 hbk c0 c1;go_wp2
 go_ret2
 obtain⟨hB,hb2,hown',hgrow,hown,hb1,hk1⟩:=HF.out;refine⟨rfl,.inr ?_,?_,(hk1.grown hgrow (Lib.ownsRowF_kind hown)).setCell ⟨b,1,none⟩ rfl _⟩
 ·have:=Lib.BuilderAtF.put (T:=118) (e:=5) hB hb2 (bs':=Lib.byteCells t++Lib.strCells s) (by simpa [Lib.strCells_length]using hown') (by decide);rw[Lib.byteCells_append];exact this
 ·exact(hb1.grown hgrow (by have:=hb1.size;omega) (λk hk=>(hown.lt k hk).1)).setCell (p:=⟨b,1,none⟩) hB _
theorem FC:Tryz.prog.underlying 163=some (.pointer 5):=by kernel_rfl
theorem JZ:Tryz.prog.cellsOf 5=1:=by kernel_rfl
theorem wH (B b:Nat)(t:List UInt8)(w:World)(h:Pg B b t w)(h0:t≠[]):Calls Tryz.prog 118 #[.pointer (some ⟨b,0,none⟩)] w (aK B b t (.string ⟨t.toArray⟩) w):=by
 obtain⟨p,hp,hAt⟩:∃p,(p=.pointer none\/p=.pointer (some ⟨b,0,none⟩))/\Lib.BuilderAtF 118 5 B b p (Lib.byteCells t) w:=by
  rcases h with h |h
  ·exact⟨_,.inl rfl,h⟩
  ·exact⟨_,.inr rfl,h⟩
 obtain⟨hB,v,hbk,hown,hne⟩:=hAt;have hl0:t.length≠0:=by simpa using h0
 rw[Lib.byteCells_length]at hown;obtain⟨g,cap,cur,fz,rfl,hbg,hg,hcm,hcs,hnc⟩:∃g cap cur fz,v=.slice (some ⟨g,0,none⟩) t.length cap/\B<=g/\w.heap[g]?=some (.cells cur 5 fz)/\cap<=maxLen/\cur.size=cap*1/\t.length<=cap:=by
  rcases hown.2 with⟨_,hz⟩ |⟨g,cap,cur,fz,hv,r1,r2,_,r4,r5,r6,_⟩
  ·exact absurd hz hl0
  ·exact⟨g,cap,cur,fz,hv,r1,r2,r5,r6,r4⟩
 have c1:w.drew.cell? ⟨b,1,none⟩=some (.slice (some ⟨g,0,none⟩) t.length cap):=by
  have:w.drew.heap[b]?=some (.cells #[p,.slice (some ⟨g,0,none⟩) t.length cap] 118 (0,0)):=hbk;rw[Lib.cell_of_heap this];rfl
 have hSD:(Builtin.unsafeSliceData_ #[114] 163 #[.slice (some ⟨g,0,none⟩) t.length cap]).run Tryz.prog w.drew=.ok (.pointer (some ⟨g,0,none⟩)) w.drew:=
  Lib.run_unsafeSliceData_row _ _ _ _ _ _ (by omega)
 have hUS:(Builtin.unsafeString_ #[163,3] 9 #[.pointer (some ⟨g,0,none⟩),.int .i64 t.length]).run Tryz.prog w.drew=.ok (.string ⟨t.toArray⟩) (w.drew.freeze ⟨g,0,none⟩ t.length):=by
  refine Lib.run_unsafeString_row w.drew 163 3 9 5 FC JZ g cur.size (by have hg':w.drew.heap[g]?=some (.cells cur 5 fz):=hg;simp[World.shape?,hg']) t h0 (by omega) (by unfold maxLen at hcm;omega) ?_;intro j x hx;exact hown.cells (g:=g) rfl j (.int .u8 x.toNat) (by simp[Lib.byteCells,hx])
 have hkeep:Pg B b t (w.drew.freeze ⟨g,0,none⟩ t.length):=by
  have hA:Lib.BuilderAtF 118 5 B b p (Lib.byteCells t) w.drew:=⟨hB,_,hbk,by rw[Lib.byteCells_length];exact hown,hne⟩;have hF:=hA.froze (g:=g) (cap:=cap) (by rw[Lib.byteCells_length];exact c1);rw[Lib.byteCells_length]at hF;rcases hp with rfl |rfl
  ·exact .inl hF
  ·exact .inr hF
 have mixed:Tryz.prog.follows .mixedOrders=true:=by kernel_rfl
 go_enter Tryz.func118,Tryz.ntmps118
 go_wp2
 go_region_o
 all_goals (go_wp2;go_ret;exact⟨rfl,hkeep,Lib.below_freeze (Below.drew (Below.refl B w)) (p:=⟨g,0,none⟩) hbg _,((Lib.OthersKept.refl _ _ w).drew).freeze ⟨g,0,none⟩ _ ⟨cur,fz,hg⟩⟩)
theorem FD (w:World):Pg w.heap.size w.heap.size [] (w.alloc (.cells #[.pointer none,.slice none 0 0] 118)):=by
 refine .inl ⟨Nat.le_refl _,.slice none 0 0,?_,⟨rfl,.inl ⟨rfl,rfl⟩⟩,by intro q;cases q⟩;exact(World.alloc_heap_new w _ :)
theorem A9 (b:Nat)(w:World)(hbk:w.heap[b]?=some (.cells #[.pointer none,.slice none 0 0] 118 (0,0))):Calls Tryz.prog 118 #[.pointer (some ⟨b,0,none⟩)] w λe w'=>e=.returned (.string ⟨#[]⟩)/\Below w.heap.size w w':=by
 have c1:w.drew.cell? ⟨b,1,none⟩=some (.slice none 0 0):=by
  have:w.drew.heap[b]?=some (.cells #[.pointer none,.slice none 0 0] 118 (0,0)):=hbk;rw[Lib.cell_of_heap this];rfl
 have hSD:(Builtin.unsafeSliceData_ #[114] 163 #[.slice none 0 0]).run Tryz.prog w.drew=.ok (.pointer none) w.drew:=rfl;have hUS:=λW q=>Lib.run_unsafeString_none (P:=Tryz.prog) W 163 3 9 q
 have mixed:Tryz.prog.follows .mixedOrders=true:=by kernel_rfl
 go_enter Tryz.func118,Tryz.ntmps118
 go_wp2
 go_region_o
 all_goals (go_wp2;go_ret;exact⟨rfl,Below.drew (Below.refl _ w)⟩)
section
open Tr (Bx aa bt)
def lZ (l:List UInt8):ByteArray:=⟨l.toArray⟩
theorem FE (l:List UInt8):(lZ l).data.toList=l:=by simp[lZ]
def Sx (w:World)(k:Nat)(ps:List (List UInt8)):Prop:=Bx w k 9 (ps.map λx=>Value.string (lZ x))
theorem Bx.kp {w w':World}{B b k:Nat}{t:TypeId}{l:List Value}(h:Bx w k t l)(hk:Kp B b w w')(hb:k≠b)(ht:t≠5):Bx w' k t l:=
 hk.2 k _ h (λq=>hb (Option.some.inj q)) (λc fz q=>ht (by injection q))
theorem qY (ps:List (List UInt8))(i:Nat)(h:i<ps.length):ps.flatten.length=(ps.take i).flatten.length+ps[i].length+(ps.drop (i+1)).flatten.length:=by
 have e:ps=ps.take i++ps[i] :: ps.drop (i+1):=by rw[<- List.drop_eq_getElem_cons h,List.take_append_drop]
 have:=congrArg (λz=>z.flatten.length) e;simp only[List.flatten_append,List.flatten_cons,List.length_append]at this;omega
def QG (B b:Nat)(t:List UInt8)(w:World)(e:Ending)(w':World):Prop:=aK B b t (.tuple #[]) w e w'
theorem NK (B b k n c:Nat)(t:List UInt8)(ps:List (List UInt8))(w:World)(h:Pg B b t w)(hS:Sx w k ps)(hn:n=ps.length)(hk:k≠b)(hl:t.length+ps.flatten.length<=140737488355328)(hn2:n<=1000000) :
  Calls Tryz.prog 117 #[.pointer (some ⟨b,0,none⟩),.slice (some ⟨k,0,none⟩) n c] w (QG B b (t++ps.flatten) w):=by
 have H:=hid h;have HS:=hid hS;have HN:=hid hn;have HL:=hid hl;have HK:=hid hk;clear h hS hn hl hk;go_enter Tryz.func117,Tryz.ntmps117
 go_wp2
 go_loopg [5,8] n (λg _ a8 wr=>∃i:Nat,a8=.int .i64 (i:Int)/\i<=n/\g=n-i/\Pg B b (t++(ps.take i).flatten) wr/\Kp B b w wr)
 case atStart=>exact⟨0,rfl,Nat.zero_le _,rfl,by simpa using H.out,Kp.refl _ _ _⟩
 case round=>
  obtain⟨i,rfl,hi,rfl,hp,hkp⟩:=hrel;have HP:=hid hp;have HQ:=hid hkp;by_cases hlt:i<n
  ·have hlz:(i:Int)<(n:Int):=by omega
   have hip:i<ps.length:=by rw[<- HN.out];exact hlt
   have hb:=Bx.kp HS.out hkp HK.out (by decide);obtain⟨y,hy⟩:∃y,y=lZ ps[i]:=⟨_,rfl⟩;have c0:wr.cell? ⟨k,i,none⟩=some (.string y):=(hb.cell i).trans (by rw[List.getElem?_map,List.getElem?_eq_getElem hip,hy];rfl);have hfl:=qY ps i hip;have hx:(lZ ps[i]).size=ps[i].length:=rfl;have HC:=uF B b (t++(ps.take i).flatten) (lZ ps[i]) wr hp (by rw[hx,List.length_append];have:=HL.out;omega);rw[FE,List.append_assoc,show(ps.take i).flatten++ps[i]=(ps.take (i+1)).flatten by rw[List.take_succ_eq_append_getElem hip,List.flatten_append];simp,<- hy]at HC;have HC:=hid HC;clear hp hkp hb hfl hx hy hip;go_wp2_with (go_at_call 189;refine HC.out.mono ?_);rintro e w1 ⟨rfl,hp1,hk1⟩;have HP1:=hid hp1;have HK1:=hid hk1;clear hp1 hk1;go_wp2
   go_roundg (n-(i+1))
   case measure=>go_light;omega
   case rel=>
    go_light
    exact⟨i+1,by go_num,by omega,rfl,HP1.out,HQ.out.trans HK1.out⟩
  ·obtain rfl:i=n:=by omega
   have hlz:¬(i:Int)<(i:Int):=by omega
   clear hp hkp;go_wp2
   go_end0
   have:=HP.out;rw[List.take_of_length_le (by rw[<- HN.out];exact Nat.le_refl _)]at this;exact⟨rfl,this,HQ.out⟩
end
section
open Tr (Bx aa bt eH Ints)
theorem Pg.alloc {B b:Nat}{t:List UInt8}{w:World}(h:Pg B b t w)(o:Obj):Pg B b t (w.alloc o):=Lib.IsBuilderF.alloc h o
theorem Pg.base {B b:Nat}{t:List UInt8}{w:World}(h:Pg B b t w):B<=b:=by rcases h with h |h<;>exact h.1
theorem Pg.bw {B b:Nat}{t:List UInt8}{w:World}(h:Pg B b t w):B<=w.heap.size:=by have:=h.lt;have:=h.base;omega
theorem Kp.alloc {B b:Nat}{w w':World}(h:Kp B b w w')(hB:B<=w'.heap.size)(o:Obj):Kp B b w (w'.alloc o):=⟨h.1.alloc hB o,h.2.alloc o⟩
theorem iq (s:ByteArray):lZ s.data.toList=s:=by cases s;simp[lZ]
def PV (A:Option Addr)(n c b:Nat)(d:Int):Value :=.agg #[.slice A n c,.func (.func 117) #[.pointer (some ⟨b,0,none⟩)] #[],.int .i64 d]
theorem aC (B b:Nat)(t:List UInt8)(ps:List (List UInt8))(w:World)(h:Pg B b t w)(hl:t.length+ps.flatten.length<=140737488355328)(hn:ps.length<=1000000)(n:Nat)(hnn:n=ps.length)(vs:Array Value)(hv:vs=(ps.map λx=>Value.string (lZ x)).toArray)(g:Nat)(hg:g=w.heap.size) :
  Calls Tryz.prog 117 #[.pointer (some ⟨b,0,none⟩),.slice (some ⟨g,0,none⟩) n n] (w.alloc (.cells vs 9)) λe w'=>e=.returned (.tuple #[])/\Pg B b (t++ps.flatten) w'/\Kp B b w w':=by
 subst hv hg;have hS:Sx (w.alloc (.cells (ps.map λx=>Value.string (lZ x)).toArray 9)) w.heap.size ps:=Bx.new w 9 _;refine(NK B b w.heap.size n n t ps _ (h.alloc _) hS hnn (by have:=h.lt;omega) hl (by omega)).mono ?_;rintro e w' ⟨h1,h2,h3⟩;exact⟨h1,h2,((Kp.refl B b w).alloc h.bw _).trans h3⟩
theorem aZ {w0 w:World}{A:Option Addr}{l:List Tr.Nd}(hN:eH w0 A l)(hb:Below w0.heap.size w0 w)(p:Nat)(hp:p<l.length):∃bA off K c,A=some ⟨bA,off,none⟩/\bA<w.heap.size/\w.cell? ⟨bA,off+p*5,none⟩=some (.int .i64 l[p].kd)/\w.cell? ⟨bA,off+p*5+1,none⟩=some (.int .i64 l[p].n) /\
  w.cell? ⟨bA,off+p*5+2,none⟩=some (.int .i64 l[p].pl)/\w.cell? ⟨bA,off+p*5+3,none⟩=some (.string l[p].tx)/\w.cell? ⟨bA,off+p*5+4,none⟩=some (.slice K l[p].ks.length c)/\Ints w0 K l[p].ks:=by
 obtain⟨bA,off,rfl,hl,hc⟩:=hN (by omega);obtain⟨K,c,c0,c1,c2,c3,c4,hK⟩:=hc p hp;exact⟨bA,off,K,c,rfl,Nat.lt_of_lt_of_le hl hb.size,(hb.cell (p:=⟨bA,off+p*5,none⟩) hl).trans c0,(hb.cell (p:=⟨bA,off+p*5+1,none⟩) hl).trans c1,(hb.cell (p:=⟨bA,off+p*5+2,none⟩) hl).trans c2,(hb.cell (p:=⟨bA,off+p*5+3,none⟩) hl).trans c3,(hb.cell (p:=⟨bA,off+p*5+4,none⟩) hl).trans c4,hK⟩
structure FH (l:List Tr.Nd):Prop where
 one:∀p:Nat,p<l.length->(ag l p).kd=23\/(ag l p).kd=26->∃k:Nat,(ag l p).ks=[(k:Int)]/\k<p/\Tr.aI (ag l k).kd=true
 two:∀p:Nat,p<l.length->(ag l p).kd=27->∃k j:Nat,(ag l p).ks=[(k:Int),(j:Int)]/\k<p/\j<p/\Tr.aI (ag l k).kd=true/\Tr.aI (ag l j).kd=true
 num:∀p:Nat,p<l.length->(ag l p).kd=20->0<=(ag l p).n/\(ag l p).n<=9223372036854775807
structure nR (w0:World) (A:Option Addr) (l:List Tr.Nd) (n:Nat):Prop where
 nds:eH w0 A l
 len:n=l.length
 few:n<=4000
 ex:FH l
 tab:∀w',Below w0.heap.size w0 w'->Lib.TabIs Tryz.prog w' "internal/strconv.uint64pow10" .u64 Lib.pow10Tab
def lH (w0:World)(A:Option Addr)(l:List Tr.Nd)(n c b:Nat)(f:Nat):Prop:=∀(p:Nat) (d:Int) (t:List UInt8) (w:World),p<f->p<n->Tr.aI (ag l p).kd=true->Below w0.heap.size w0 w->Pg w0.heap.size b t w->t.length+(bE l f p).length<=140737488355328 ->
 Calls Tryz.prog 66 #[PV A n c b d,.int .i64 (p:Int)] w (aK w0.heap.size b (t++bE l f p) (.tuple #[]) w)
theorem Kp.w0 {w0 w w':World}{b:Nat}(h:Below w0.heap.size w0 w)(k:Kp w0.heap.size b w w'):Below w0.heap.size w0 w':=h.trans k.1
theorem p8 {w0:World}{A:Option Addr}{l:List Tr.Nd}{n c b f:Nat}(hx:nR w0 A l n)(hr:lH w0 A l n c b f)(d:Int)(p:Nat)(t:List UInt8)(w:World)(hpf:p<f)(hp:p<n)(he:Tr.aI (ag l p).kd=true)(hb:Below w0.heap.size w0 w)(h:Pg w0.heap.size b t w)
  (hl:t.length+(qW l (bE l f) p).length<=140737488355328):Calls Tryz.prog 126 #[PV A n c b d,.int .i64 (p:Int)] w (aK w0.heap.size b (t++qW l (bE l f) p) (.tuple #[]) w):=by
 have hpl:p<l.length:=by rw[<- hx.len];exact hp
 obtain⟨bA,off,K,cK,rfl,hlt,c0,z1,z2,z3,z4,z5⟩:=aZ hx.nds hb p hpl;clear z1 z2 z3 z4 z5;rw[<- aS hpl]at c0;have hpz:(p:Int)<(n:Int):=by omega
 obtain⟨PB,hPB⟩:∃PB:List Value,PB=[.slice (some ⟨bA,off,none⟩) n c,.func (.func 117) #[.pointer (some ⟨b,0,none⟩)] #[],.int .i64 d]:=⟨_,rfl⟩;have H:=hid h;have HB:=hid hb;have hbw:=h.bw;have hbl:=h.lt;unfold qW at hl |-;by_cases hk:(ag l p).kd=27
 ·rw[if_pos hk]at hl |-;rw[hk]at c0;have HR:=hid (λt' w' (q:Below w0.heap.size w0 w') (h':Pg w0.heap.size b t' w') (hl':t'.length+(bE l f p).length<=140737488355328)=>hr p d t' w' hpf hp he q h' hl');generalize bE l f p=y at *
  have HL:=hid hl;have HW1:=hid ((Kp.refl w0.heap.size b w).alloc hbw (.cells PB.toArray 73));have HX1:=hid (Bx.new w 73 PB);unfold PV at HR;unfold PV;clear hk he hr hx hb h hl hpl hpf;rw[hPB]at HW1 HX1;clear hPB;go_enter Tryz.func126,Tryz.ntmps126
  go_wp2_with (go_at_call 117;refine(aC w0.heap.size b t [[40]] _ (H.out.alloc _) (by simp;have:=HL.out;simp at this;omega) (by simp) 1 rfl _ (by rfl) _ (by simp[World.size_alloc])).mono ?_);rintro e w1 ⟨rfl,hp1,hk1⟩;have HX2:=hid (Bx.kp HX1.out hk1 (by omega) (by decide));have HP2:=hid hp1;have HW2:=hid (HW1.out.trans hk1);clear HX1 HW1 hp1 hk1;have e0:=(HX2.out.cell 0).trans rfl;have e1:=(HX2.out.cell 1).trans rfl;have e2:=(HX2.out.cell 2).trans rfl;go_wp2_with (go_at_call 66;refine(HR.out _ _ (Kp.w0 HB.out HW2.out) HP2.out (by simp;have:=HL.out;simp at this;omega)).mono ?_);rintro e w2 ⟨rfl,hp2,hk2⟩;have HX3:=hid (Bx.kp HX2.out hk2 (by omega) (by decide));have HP3:=hid hp2;have HW3:=hid (HW2.out.trans hk2);clear HX2 HW2 HP2 hp2 hk2 e0 e1 e2;have e1:=(HX3.out.cell 1).trans rfl;go_wp2_with (go_at_call 117;refine(aC w0.heap.size b _ [[41]] _ HP3.out (by simp;have:=HL.out;simp at this;omega) (by simp) 1 rfl _ (by rfl) _ rfl).mono ?_);rintro e w3 ⟨rfl,hp3,hk3⟩;have HP4:=hid hp3;have HW4:=hid (HW3.out.trans hk3);clear HX3 HW3 HP3 hp3 hk3 e1;go_wp2
  go_end0
  exact⟨rfl,by simpa using HP4.out,HW4.out⟩
 ·rw[if_neg hk]at hl |-;have HR:=hid (λw' (q:Below w0.heap.size w0 w') (h':Pg w0.heap.size b t w')=>hr p d t w' hpf hp he q h' hl);have HW1:=hid ((Kp.refl w0.heap.size b w).alloc hbw (.cells PB.toArray 73));have dk:((ag l p).kd != 27)=true:=by rw[bne_iff_ne];exact hk
  have dk2:((ag l p).kd==27)=false:=by rw[beq_eq_false_iff_ne];exact hk
  generalize (ag l p).kd=kd at *
  unfold PV at HR;unfold PV;clear hk he hr hx hb h hl hpl hpf;rw[hPB]at HW1;clear hPB;go_enter Tryz.func126,Tryz.ntmps126
  go_wp2_with (go_at_call 66;refine(HR.out _ (Kp.w0 HB.out HW1.out) (H.out.alloc _)).mono ?_);rintro e w2 ⟨rfl,hp2,hk2⟩;have HP:=hid hp2;have HK:=hid (HW1.out.trans hk2);clear hp2 hk2;go_wp2
  go_end0
  exact⟨rfl,HP.out,HK.out⟩
end
end Go.Proofs.YteecfjhjllajlaaGreatDoor
