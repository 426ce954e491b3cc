/- PROVED here: parts N04 of the claim. No condition but those in each theorem's own head. -/
import Derived.Test.YtedkgofehbecmaaGreatDoorU03
import Derived.Laws.AppendOwnNone
import Derived.Shelf.Strconv.Itoa3
import Derived.Shelf.Small.Wraps
import Derived.Test.YtedkgofehbecmaaGreatDoorProg
import Derived.ProofKit
import Derived.Shelf.Strings.BuilderK
import Derived.Lib.Hide
import Derived.RangeFuncRecord
import Derived.Test.YtedkgofehbecmaaGreatDoorU02
import Derived.Deep.LoopGhost
import Derived.Deep.Light
import Derived.BigQuiet
namespace Go.Proofs.YtedkgofehbecmaaGreatDoor.Tr
open Go.Lib (hid)
section
open Go Go.RowKit
def nth (l:List Nd)(j:Nat):Nd:=l.getD j ⟨0,0,0,⟨#[]⟩,[]⟩
theorem nth_eq {l:List Nd}{j:Nat}(h:j<l.length):nth l j=l[j]:=by unfold nth;simp[List.getD,h]
def stO (b:Nat->Option Nat):List Int->Nat->Option Nat
 | [],s=>some s
 |k :: ks,s=>if s=0 then none else if k=(s:Int)-1 then (match b (s-1) with|none=>none |some e=>stO b ks e) else none
def bgF (l:List Nd):Nat->Nat->Option Nat
 |0=>λ_=>none
 |n+1=>λj=>if j=n then stO (bgF l n) (kidsAt l n).reverse n else bgF l n j
def bgA (l:List Nd)(p:Nat):Option Nat:=bgF l (p+1) p
theorem bgF_lt (l:List Nd):∀(m j:Nat),j<m->bgF l m j=bgA l j:=by
 intro m
 induction m with
 |zero=>intro j hj;omega
 |succ m ih=>
  intro j hj
  by_cases e:j=m
  ·subst e;rfl
  ·show(if j=m then _ else bgF l m j)=_
   rw[if_neg e]
   exact ih j (by omega)
theorem stO_congr {b c:Nat->Option Nat}:∀(ks:List Int) (s:Nat),(∀q,q<s->b q=c q)->(∀q e,b q=some e->e<=q)->stO b ks s=stO c ks s
 | [],_,_,_=>rfl
 |k :: ks,s,h,hb=>by
  unfold stO
  by_cases h0:s=0
  ·rw[if_pos h0,if_pos h0]
  ·rw[if_neg h0,if_neg h0]
   by_cases h1:k=(s:Int)-1
   ·rw[if_pos h1,if_pos h1,<- h (s-1) (by omega)]
    cases h2:b (s-1) with
    |none=>rfl
    |some e=>
     have:=hb _ _ h2
     exact stO_congr ks e (λq hq=>h q (by omega)) hb
   ·rw[if_neg h1,if_neg h1]
theorem stO_le {b:Nat->Option Nat}(hb:∀q e,b q=some e->e<=q):∀(ks:List Int) (s e:Nat),stO b ks s=some e->e<=s
 | [],s,e,h=>by
  have h':some s=some e:=h
  have:=Option.some.inj h'
  omega
 |k :: ks,s,e,h=>by
  unfold stO at h
  split at h
  ·cases h
  split at h
  ·split at h
   ·cases h
   ·rename_i e1 he
    have:=hb _ _ he
    have:=stO_le hb ks e1 e h
    omega
  ·cases h
theorem bgF_le (l:List Nd):∀(n q e:Nat),bgF l n q=some e->e<=q
 |0,_,_,h=>by cases h
 |n+1,q,e,h=>by
  have h':(if q=n then stO (bgF l n) (kidsAt l n).reverse n else bgF l n q)=some e:=h
  by_cases h1:q=n
  ·rw[if_pos h1]at h'
   have:=stO_le (bgF_le l n) _ _ _ h'
   omega
  ·rw[if_neg h1]at h'
   exact bgF_le l n q e h'
theorem bgA_le (l:List Nd)(q e:Nat)(h:bgA l q=some e):e<=q:=bgF_le l _ q e h
theorem bgA_eq (l:List Nd)(p:Nat):bgA l p=stO (bgA l) (kidsAt l p).reverse p:=by
 have h1:bgA l p=stO (bgF l p) (kidsAt l p).reverse p:=if_pos rfl
 rw[h1]
 exact stO_congr _ p (λq hq=>bgF_lt l p q hq) (bgF_le l p)
theorem stO_stK {b:Nat->Option Nat}{c:Nat->Nat}:∀(ks:List Int) (s:Nat),(∀q,q<s->b q=some (c q))->(∀q,q<s->c q<=q)->stO b ks s=stK c ks s
 | [],_,_,_=>rfl
 |k :: ks,s,h,hc=>by
  unfold stO stK
  by_cases h0:s=0
  ·rw[if_pos h0,if_pos h0]
  ·rw[if_neg h0,if_neg h0]
   by_cases h1:k=(s:Int)-1
   ·rw[if_pos h1,if_pos h1,h (s-1) (by omega)]
    have:=hc (s-1) (by omega)
    exact stO_stK ks _ (λq hq=>h q (by omega)) (λq hq=>hc q (by omega))
   ·rw[if_neg h1,if_neg h1]
theorem bg_of {l:List Nd}{b:Nat->Nat}{n:Nat}(hS:StU l b n):∀q,q<n->bgA l q=some (b q):=by
 intro q
 induction q using Nat.strongRecOn with
 |_ q ih=>
  intro hq
  rw[bgA_eq,stO_stK _ q (λr hr=>ih r hr (by omega)) (λr hr=>hS.le r (by omega))]
  exact hS q hq
theorem stO_in {b:Nat->Option Nat}(hb:∀q e,b q=some e->e<=q):∀(ks:List Int) (s e q:Nat),stO b ks s=some e->e<=q->q<s->∃m e',b m=some e'/\e'<=q/\q<=m/\m<s
 | [],s,e,q,h,h1,h2=>by
  have h':some s=some e:=h
  have:=Option.some.inj h'
  omega
 |k :: ks,s,e,q,h,h1,h2=>by
  unfold stO at h
  split at h
  ·cases h
  split at h
  ·split at h
   ·cases h
   ·rename_i e1 he
    have h5:=hb _ _ he
    by_cases hq:e1<=q
    ·exact⟨s-1,e1,he,hq,by omega,by omega⟩
    ·obtain⟨m,e',a1,a2,a3,a4⟩:=stO_in hb ks e1 e q h h1 (by omega)
     exact⟨m,e',a1,a2,a3,by omega⟩
  ·cases h
theorem bg_all (l:List Nd):∀(p e:Nat),bgA l p=some e->∀q,e<=q->q<=p->∃e',bgA l q=some e':=by
 intro p
 induction p using Nat.strongRecOn with
 |_ p ih=>
  intro e h q h1 h2
  by_cases h3:q=p
  ·subst h3;exact⟨e,h⟩
  ·rw[bgA_eq]at h
   obtain⟨m,e',a1,a2,a3,a4⟩:=stO_in (bgA_le l) _ _ _ q h h1 (by omega)
   exact ih m a4 e' a1 q a2 a3
theorem st_of_bg {l:List Nd}{n:Nat}(hn:1<=n)(h:bgA l (n-1)=some 0):StU l (λq=>(bgA l q).getD 0) n/\(bgA l (n-1)).getD 0=0:=by
 have hall:∀q,q<n->bgA l q=some ((bgA l q).getD 0):=λq hq=>by
  obtain⟨e,he⟩:=bg_all l (n-1) 0 h q (by omega) (by omega)
  rw[he];rfl
 refine⟨λq hq =>?_,by rw[h];rfl⟩
 have h1:=stO_stK (b:=bgA l) (c:=λq=>(bgA l q).getD 0) (kidsAt l q).reverse q (λr hr=>hall r (by omega)) (λr hr=>bgA_le l r _ (hall r (by omega)))
 rw[<- h1,<- bgA_eq]
 exact hall q hq
def Kin (l:List Nd)(n:Nat):Prop:=∀p,p<n->∀k ∈ kidsAt l p,0<=k/\k<(p:Int)
theorem kin_of {l:List Nd}{b:Nat->Nat}{n:Nat}(hS:StU l b n):Kin l n:=λp hp k hk=>by
 obtain⟨m,rfl,hm,_⟩:=hS.kid hp hk
 omega
theorem snd_iff {l:List Nd}{r:Int}:Snd l r↔(1<=l.length/\l.length<=4000/\r=(l.length:Int)-1)/\Kin l l.length/\bgA l (l.length-1)=some 0:=by
 constructor
 ·rintro⟨b,h1,h2,h3,h4,h5⟩
  exact⟨⟨h1,h2,h3⟩,kin_of h4,by rw[bg_of h4 _ (by omega),h5]⟩
 ·rintro⟨⟨h1,h2,h3⟩,_,h5⟩
  obtain⟨h6,h7⟩:=st_of_bg h1 h5
  exact⟨_,h1,h2,h3,h6,h7⟩
theorem bdrew {k:Nat}{w a:World}(h:Below k w a):Below k w a.drew:=⟨h.1,h.2,h.3,h.4,h.5⟩
set_option maxRecDepth 100000 in
set_option maxHeartbeats 1500000 in
theorem right_no (A:Option Addr)(c n:Nat)(l:List Nd)(r:Int)(w:World)(hN:Nds w A l)(hn:n=l.length)(hk:∀x ∈ l,x.ks.length<=4000)(h:¬Snd l r):Calls Tryz.prog 103 #[.agg #[.slice A n c,.int .i64 r]] w (BPost false w):=by
 have hb:Below w.heap.size w (w.alloc (.cells #[.slice A n c,.int .i64 r] 24)):=heap1 _ _
 have HS:=hid (depth_no A c n l r _ (hN.below hb) hn hk h)
 clear hN hk h hn
 go_enter Tryz.func103,Tryz.ntmps103
 go_wp2_with (go_at_call 34;refine HS.out.mono ?_;rintro e w1 ⟨rfl,hb1⟩)
 go_ret
 exact⟨rfl,bt hb hb1⟩
end
section
open Go Go.RowKit
def Cl (w w':World):Prop:=Below w.heap.size w w'
def Own (F:Nat):Prop:=∃fn,Tryz.prog.funcs[F]?=some fn/\(fn.name == "runtime.NumGoroutine")=false/\fn.body.isNone=false
theorem run_own {F:Nat}(h:Own F)(args:Array Value)(w:World):(callFunc F args).run Tryz.prog w = .ok (.enter F args) w:=by
 obtain⟨fn,h1,h2,h3⟩:=h
 simp only[callFunc,Sem.run_bind,run_program,Result.andThen_ok,h1,h2,h3,Bool.false_eq_true,if_false,Sem.run_pure]
theorem run_load3 {w:World}{b off:Nat}{n:Int}(h:w.cell? ⟨b,off,none⟩=some (.int .i64 n)):(Instr.loadAt 3 (.pointer (some ⟨b,off,none⟩))).run Tryz.prog w = .ok (.int .i64 n) w:=by
 simp[go_sem,h]
theorem run_idx {t e:TypeId}{sz:Nat}(ht:Tryz.prog.underlying t=some (.slice (Tryz.prog.elem t)))(he:Tryz.prog.elem t=e)(hz:(Tryz.prog.info? e).map (·.size)=some sz)(b off n c k:Nat)(hk:k<n)(w:World):(Instr.indexAt t (.slice (some ⟨b,off,none⟩) n c) (.int .i64 (k:Int))).run Tryz.prog w = .ok (.pointer (some ⟨b,off+k*sz,none⟩)) w:=by
 have hlt:(k:Int)<(n:Int):=by omega
 rw[run_indexAt_slice w t _ n c .i64 _ ht,he]
 cases hq:Tryz.prog.info? e with
 |none=>rw[hq]at hz;cases hz
 |some i=>
  rw[hq]at hz
  have hz':i.size=sz:=by simpa using hz
  simp[go_sem,sizeOf,typeInfo,hq,hz',hlt]
theorem run_index22 (b off n c k:Nat)(hk:k<n)(w:World):(Instr.indexAt 28 (.slice (some ⟨b,off,none⟩) n c) (.int .i64 (k:Int))).run Tryz.prog w = .ok (.pointer (some ⟨b,off+k,none⟩)) w:=by
 have:=run_idx (t:=28) (e:=3) (sz:=1) (by kernel_rfl) (by kernel_rfl) (by kernel_rfl) b off n c k hk w
 rw[Nat.mul_one]at this;exact this
section
variable {ops:Array Oper} {C:World->Prop} {Q:Act->Prop} {rest:List Oper} {d:Option Tmp} {ty:TypeId} {p:String} {af:Array Edge} {gd:Option (Nat × Bool)} {a:Act}
theorem q_op {op:Op}{v:Value}(hw:Region.wanted ⟨d,op,ty,p,af,gd⟩ (yielded ops a.tmps)=true)(hr:∀w,C w->Oper.quietAt Tryz.prog ⟨d,op,ty,p,af,gd⟩ a C w v)
  (h:wpQuiet Tryz.prog ops C Q rest (a.put d v)):wpQuiet Tryz.prog ops C Q (⟨d,op,ty,p,af,gd⟩ :: rest) a:=by
 unfold wpQuiet;rw[if_pos hw];exact⟨v,hr,h⟩
theorem q_move {x:Operand}{v:Value}(hw:Region.wanted ⟨d,.move x,ty,p,af,gd⟩ (yielded ops a.tmps)=true)(hx:a.eval x=v)
  (h:wpQuiet Tryz.prog ops C Q rest (a.put d v)):wpQuiet Tryz.prog ops C Q (⟨d,.move x,ty,p,af,gd⟩ :: rest) a:=
 q_op hw (λw _=>by unfold Oper.quietAt execOp;simp only[hx,Sem.run_pure];exact⟨rfl,rfl⟩) h
theorem q_pick {c x y:Operand}{v:Value}(hw:Region.wanted ⟨d,.pick c x y,ty,p,af,gd⟩ (yielded ops a.tmps)=true)(hc:a.eval c = .bool true)(hx:a.eval x=v)
  (h:wpQuiet Tryz.prog ops C Q rest (a.put d v)):wpQuiet Tryz.prog ops C Q (⟨d,.pick c x y,ty,p,af,gd⟩ :: rest) a:=
 q_op hw (λw _=>by unfold Oper.quietAt execOp;simp[hc,hx,asBool,Oper.quietUpon]) h
theorem q_bin {op:BinOp}{t:TypeId}{x y:Operand}{u v r:Value}(hw:Region.wanted ⟨d,.binOp op t x y t,ty,p,af,gd⟩ (yielded ops a.tmps)=true)(hx:a.eval x=u)(hy:a.eval y=v)
  (hg:∀w,(eqGuard op t x y u v).run Tryz.prog w = .ok () w) (hr:∀w,(binOp op t u v).run Tryz.prog w = .ok r w)
  (h:wpQuiet Tryz.prog ops C Q rest (a.put d r)):wpQuiet Tryz.prog ops C Q (⟨d,.binOp op t x y t,ty,p,af,gd⟩ :: rest) a:=
 q_op hw (λw _=>by unfold Oper.quietAt execOp;simp only[hx,hy,Sem.run_bind,hg,hr,Sem.run_pure,Result.andThen_ok];exact⟨rfl,rfl⟩) h
theorem q_load {t:TypeId}{x:Operand}{ad:Addr}{v:Value}(hw:Region.wanted ⟨d,.load t x,ty,p,af,gd⟩ (yielded ops a.tmps)=true)(hx:a.eval x = .pointer (some ad))(hl:∀w,C w->(Instr.loadAt t (.pointer (some ad))).run Tryz.prog w = .ok v w)
  (h:wpQuiet Tryz.prog ops C Q rest (a.put d v)):wpQuiet Tryz.prog ops C Q (⟨d,.load t x,ty,p,af,gd⟩ :: rest) a:=
 q_op hw (λw hC=>by unfold Oper.quietAt execOp;simp only[hx,Sem.run_bind,hl w hC,Sem.run_pure,Result.andThen_ok];exact⟨rfl,rfl⟩) h
theorem q_field {t:TypeId}{k:Nat}{x:Operand}{ad ad':Addr}(hw:Region.wanted ⟨d,.fieldAddr t x k,ty,p,af,gd⟩ (yielded ops a.tmps)=true)(hx:a.eval x = .pointer (some ad))(hl:∀w,(Instr.fieldAt t (.pointer (some ad)) k).run Tryz.prog w = .ok (.pointer (some ad')) w)
  (h:wpQuiet Tryz.prog ops C Q rest (a.put d (.pointer (some ad')))):wpQuiet Tryz.prog ops C Q (⟨d,.fieldAddr t x k,ty,p,af,gd⟩ :: rest) a:=
 q_op hw (λw _=>by unfold Oper.quietAt execOp;simp only[hx,Sem.run_bind,hl w,Sem.run_pure,Result.andThen_ok];exact⟨rfl,rfl⟩) h
theorem q_index {t:TypeId}{x y:Operand}{u v r:Value}(hw:Region.wanted ⟨d,.indexAddr t x y,ty,p,af,gd⟩ (yielded ops a.tmps)=true)(hx:a.eval x=u)(hy:a.eval y=v)(hl:∀w,(Instr.indexAt t u v).run Tryz.prog w = .ok r w)
  (h:wpQuiet Tryz.prog ops C Q rest (a.put d r)):wpQuiet Tryz.prog ops C Q (⟨d,.indexAddr t x y,ty,p,af,gd⟩ :: rest) a:=
 q_op hw (λw _=>by unfold Oper.quietAt execOp;simp only[hx,hy,Sem.run_bind,hl w,Sem.run_pure,Result.andThen_ok];exact⟨rfl,rfl⟩) h
theorem q_len {t:TypeId}{x:Operand}{A:Option Addr}{n c:Nat}(ht:t=28\/t=22)(hw:Region.wanted ⟨d,.call { callee :=.builtin .len,args := #[x],argTypes := #[t] },3,p,af,gd⟩ (yielded ops a.tmps)=true)(hx:a.eval x = .slice A n c)
  (h:wpQuiet Tryz.prog ops C Q rest (a.put d (.int .i64 (n:Int)))):wpQuiet Tryz.prog ops C Q (⟨d,.call { callee :=.builtin .len,args := #[x],argTypes := #[t] },3,p,af,gd⟩ :: rest) a:=
 q_op hw (λw _=>by
  have hl:(Builtin.len_ #[t] 3 #[.slice A n c]).run Tryz.prog w = .ok (.int .i64 (n:Int)) w:=by
   rcases ht with rfl |rfl<;>simp[go_sem]
  unfold Oper.quietAt execOp
  simp only[resolve,invoke,builtin,List.map_toArray,List.map_cons,List.map_nil,hx,Sem.run_bind,Sem.run_pure,Result.andThen_ok,hl]
  exact⟨rfl,rfl⟩) h
end
section
variable {ops:Array Oper} {Q:Exit->Act->World->Prop} {S:World->Prop} {fuel:Nat} {listed:Array Bool} {a:Act} {w:World} {o:Oper}
theorem h_pure (i:Nat)(o:Oper)(v:Value)(hs:Region.noSelect ops=true)(hi:ops[i]?=some o)(hf:Region.free .any ops listed i=true)(hr:(Region.ready .any ops listed).contains i=true)
  (hQ:∀c a w,Q (.panic c) (a.put o.dst v) w->Q (.panic c) a w) (hw:Region.wanted o (yielded ops a.tmps)=true) (hy:∀w,S w->(execOp a.eval o).run Tryz.prog w = .ok (.value v) w) (hS:S w)
  (h:wpAnyH Tryz.prog .any ops Q S fuel (listed.setIfInBounds i true) (a.put o.dst v) w):wpAnyH Tryz.prog .any ops Q S (fuel+1) listed a w:=
 wpAnyH_take hi hs hf hr hQ (.inl ⟨hw,hy⟩) hS h
theorem hpu (i:Nat)(v:Value){o:Oper}{t:Tmp}(hc:(Region.noSelect ops&&(Region.free .any ops listed i&&(Region.ready .any ops listed).contains i))=true)(hi:ops[i]?=some o)(hd:o.dst=some t)
  (hQ:∀c a w,Q (.panic c) (a.put (some t) v) w->Q (.panic c) a w) (hw:Region.wanted o (yielded ops a.tmps)=true) (hy:∀w,S w->(execOp a.eval o).run Tryz.prog w = .ok (.value v) w) (hS:S w)
  (h:wpAnyH Tryz.prog .any ops Q S fuel (listed.setIfInBounds i true) (a.put (some t) v) w):wpAnyH Tryz.prog .any ops Q S (fuel+1) listed a w:=by
 simp only[Bool.and_eq_true]at hc
 rw[<- hd]at hQ h
 exact h_pure i o v hc.1 hi hc.2.1 hc.2.2 hQ hw hy hS h
theorem h_one (i:Nat)(o:Oper)(hi:ops[i]?=some o)(hr:Region.ready .any ops listed=[i])(hw:Region.wanted o (yielded ops a.tmps)=true)
  (h:o.wp Tryz.prog a w (λa' w'=>S w'/\wpAnyH Tryz.prog .any ops Q S fuel (listed.setIfInBounds i true) a' w') Q):wpAnyH Tryz.prog .any ops Q S (fuel+1) listed a w:=
 wpAnyH_all hr (by simp) λj hj=>by
  obtain rfl:j=i:=by simpa using hj
  unfold wpOp
  simp only[hi,hw,if_true]
  exact .inl h
theorem h_call (i:Nat)(o:Oper){F:Nat}{xs:Array Operand}{ts:Array TypeId}{args:Array Value}{C:Value->World->Prop}(hF:Own F)(ho:o.op = .call { callee :=.value (.func F),args:=xs,argTypes:=ts })(hi:ops[i]?=some o)(hr:Region.ready .any ops listed=[i])
  (hw:Region.wanted o (yielded ops a.tmps)=true) (ha':(xs.toList.map a.eval).toArray=args) (hc:Calls Tryz.prog F args w λe w'=>∃v,e = .returned v/\C v w')
  (h:∀v w',C v w'->S w'/\wpAnyH Tryz.prog .any ops Q S fuel (listed.setIfInBounds i true) (a.put o.dst v) w'):wpAnyH Tryz.prog .any ops Q S (fuel+1) listed a w:=
 h_one i o hi hr hw (by
  have ha:xs.map a.eval=args:=by rw[<- ha'];exact Array.ext' (by rw[Array.toList_map])
  unfold Oper.wp execOp
  have e:a.eval (.func F) = .func (.func F) #[] #[]:=rfl
  have e2:(#[]++args:Array Value) ++ #[]=args:=by simp
  simp only[ho,resolve,e,ha,Deferred.ofValue,invoke,Sem.run_bind,Sem.run_pure,Result.andThen_ok]
  rw[e2,run_own hF]
  exact hc.mono λe w' ⟨v,he,hR⟩=>by subst he;exact h v w' hR)
theorem y_load {t:TypeId}{x:Operand}{ad:Addr}{v:Value}(ho:o.op = .load t x)(hx:a.eval x = .pointer (some ad))(hl:∀w,S w->(Instr.loadAt t (.pointer (some ad))).run Tryz.prog w = .ok v w):∀w,S w->(execOp a.eval o).run Tryz.prog w = .ok (.value v) w:=λw hS=>by
 unfold execOp;simp only[ho,hx,Sem.run_bind,hl w hS,Sem.run_pure,Result.andThen_ok]
end
def stmB (k:Int):Bool:=decide (7<=k)&&decide (k<=17)
def expB (k:Int):Bool:=decide (20<=k)&&decide (k<=27)
def allB (l:List Int):Bool:=l.all expB
def numB (kd n:Int):Bool:=if kd=2\/kd=4\/kd=5 then decide (1<=n)&&decide (n<=4) else if kd=3 then decide (0<=n)&&decide (n<=4) else if kd=20 then decide (0<=n) else if kd=21 then decide (n=0) || decide (n=1) else decide (n=0)
def run1 (a:Int):List Int->Nat
 | []=>0
 |x :: l=>if x=a then run1 a l+1 else 0
def ri1 (l:List Int)(a:Int):Nat:=run1 a l
def ri2 (l:List Int)(a b:Int):Nat:=ri1 l a+run1 b (l.drop (ri1 l a))
def risB (l:List Int)(a b c:Int):Bool:=if c=0 then decide (ri2 l a b=l.length) else decide (ri2 l a b+1=l.length)&&decide (l.getD (ri2 l a b) 0=c)
def kidB (kd:Int)(l:List Int):Bool:=
 if kd=1 then risB l 2 3 0 else if kd=3 then risB l 4 5 6 else if kd=6 then l.all stmB
 else if kd=7\/kd=15\/kd=17\/kd=23\/kd=26 then decide (l.length=1)&&allB l
 else if kd=8\/kd=27 then decide (l.length=2)&&allB l
 else if kd=9 then decide (l.length=1)&&decide (l.getD 0 0=18)
 else if kd=10 then decide (l.length=2)&&decide (l.getD 0 0=18)&&expB (l.getD 1 0)
 else if kd=11 then decide (l.length=3)&&expB (l.getD 0 0)&&decide (l.getD 1 0=6)&&decide (l.getD 2 0=6)
 else if kd=12 then decide (l.length=2)&&expB (l.getD 0 0)&&decide (l.getD 1 0=6)
 else if kd=13 then decide (1<=l.length)&&decide (l.getD 0 0=19)&&allB (l.drop 1)
 else if kd=14 then decide (l.length<=1)&&allB l
 else if kd=16 then decide (l.length=2)&&decide (l.getD 0 0=6)&&decide (l.getD 1 0=6)
 else decide (l.length=0)
end
section
open Go Go.RowKit
def dgB (c:UInt8):Bool:=decide (48<=c.toNat)&&decide (c.toNat<=57)
def wdB (c:UInt8):Bool:=decide (97<=c.toNat)&&decide (c.toNat<=122) || decide (65<=c.toNat)&&decide (c.toNat<=90) || dgB c || c.toNat==95
theorem digit_any (c:UInt8)(w:World):Calls Tryz.prog 247 #[.int .u8 (c.toNat:Int)] w λe w'=>e = .returned (.bool (dgB c))/\w=w':=by
 by_cases h1:48<=(c.toNat:Int)
 ·have q1:decide (48<=(c.toNat:Int))=true:=by simpa using h1
  have hb:dgB c=decide ((c.toNat:Int)<=57):=by unfold dgB;rw[Bool.eq_iff_iff];simp;omega
  rw[hb];clear hb
  by_cases h2:(c.toNat:Int)<=57
  ·rw[decide_eq_true h2]
   go_enter Tryz.func247,Tryz.ntmps247
   go_wp2
   go_ret
   simp
  ·rw[decide_eq_false h2]
   go_enter Tryz.func247,Tryz.ntmps247
   go_wp2
   go_ret
   simp
 ·have hb:dgB c=false:=by unfold dgB;rw[decide_eq_false (by omega)];rfl
  rw[hb];clear hb
  go_enter Tryz.func247,Tryz.ntmps247
  go_wp2
  go_ret
  simp
theorem five (c:UInt8):(97<=(c.toNat:Int)/\(c.toNat:Int)<=122)\/122<(c.toNat:Int)\/(65<=(c.toNat:Int)/\(c.toNat:Int)<=90)\/(c.toNat:Int)<65\/(90<(c.toNat:Int)/\(c.toNat:Int)<97):=by omega
theorem word_any (c:UInt8)(w:World):Calls Tryz.prog 244 #[.int .u8 (c.toNat:Int)] w λe w'=>e = .returned (.bool (wdB c))/\w=w':=by
 rcases five c with h |h |h |h |h
 ·have hb:wdB c=true:=by unfold wdB dgB;simp;omega
  rw[hb];clear hb
  obtain⟨h1,h2⟩:=h
  go_enter Tryz.func244,Tryz.ntmps244
  go_wp2
  go_ret
  simp
 ·have hb:wdB c=false:=by unfold wdB dgB;simp;omega
  have hd:dgB c=false:=by unfold dgB;simp;omega
  have q:((c.toNat:Int)==95)=false:=by simp;omega
  rw[hb];clear hb
  have h1:97<=(c.toNat:Int):=by omega
  have h2:¬(c.toNat:Int)<=122:=by omega
  have h3:65<=(c.toNat:Int):=by omega
  have h4:¬(c.toNat:Int)<=90:=by omega
  go_enter Tryz.func244,Tryz.ntmps244
  go_wp2_with (go_at_call 247;refine(digit_any _ _).mono ?_;rintro e w' ⟨rfl,rfl⟩)
  go_ret
  simp
 ·have hb:wdB c=true:=by unfold wdB dgB;simp;omega
  rw[hb];clear hb
  obtain⟨h3,h4⟩:=h
  have h1:¬97<=(c.toNat:Int):=by omega
  go_enter Tryz.func244,Tryz.ntmps244
  go_wp2
  go_ret
  simp
 ·have hb:wdB c=dgB c:=by rw[Bool.eq_iff_iff];unfold wdB dgB;simp;omega
  rw[hb];clear hb
  have h1:¬97<=(c.toNat:Int):=by omega
  have h3:¬65<=(c.toNat:Int):=by omega
  have q:((c.toNat:Int)==95)=false:=by simp;omega
  cases hd:dgB c
  ·go_enter Tryz.func244,Tryz.ntmps244
   go_wp2_with (go_at_call 247;refine(digit_any _ _).mono ?_;rintro e w' ⟨rfl,rfl⟩)
   go_ret
   simp
  ·go_enter Tryz.func244,Tryz.ntmps244
   go_wp2_with (go_at_call 247;refine(digit_any _ _).mono ?_;rintro e w' ⟨rfl,rfl⟩)
   go_ret
   simp
 ·have hb:wdB c=((c.toNat:Int)==95):=by rw[Bool.eq_iff_iff];unfold wdB dgB;simp;omega
  have hd:dgB c=false:=by unfold dgB;simp;omega
  rw[hb];clear hb
  have h1:¬97<=(c.toNat:Int):=by omega
  have h3:65<=(c.toNat:Int):=by omega
  have h4:¬(c.toNat:Int)<=90:=by omega
  generalize hq:((c.toNat:Int)==95)=b at *
  go_enter Tryz.func244,Tryz.ntmps244
  go_wp2_with (go_at_call 247;refine(digit_any _ _).mono ?_;rintro e w' ⟨rfl,rfl⟩)
  go_ret
  simp
def keptB (l:List UInt8):Bool:=l==[118,97,114] || l==[112,114,111,99] || l==[105,110,116] || l==[98,111,111,108] || l==[97,114,114] || l==[102,117,110] || l==[105,110] || l==[111,117,116] || l==[105,102] || l==[101,108,115,101] || l==[119,104,105,108,101] || l==[99,97,108,108] || l==[114,101,116,117,114,110] || l==[116,104,114,111,119] || l==[116,114,121] || l==[99,97,116,99,104] || l==[110,101,119] || l==[108,101,110] || l==[116,114,117,101] || l==[102,97,108,115,101]
set_option maxHeartbeats 2000000 in
theorem kept_any (s:ByteArray)(w:World):Calls Tryz.prog 207 #[.string s] w λe w'=>e = .returned (.bool (keptB s.toList))/\w=w':=by
 go_enter Tryz.func207,Tryz.ntmps207
 go_wp2
 all_goals
  first
  |(exfalso;simp_all only[Bool.false_eq_true];done)
  |(go_ret;exact⟨ret_bool (by simp only[keptB, *,Bool.true_or,Bool.or_true,Bool.or_self]),rfl⟩)
theorem kept_l (s:ByteArray)(w:World):Calls Tryz.prog 207 #[.string s] w λe w'=>e = .returned (.bool (keptB s.data.toList))/\w=w':=by
 rw[<- ByteArray.toList_eq];exact kept_any s w
theorem take_snoc (s:ByteArray)(k:Nat)(h:k<s.size):s.data.toList.take (k+1)=s.data.toList.take k++[s[k]]:=by
 rw[List.take_succ_eq_append_getElem (by simpa using h)];rfl
def allW (l:List UInt8):Bool:=l.all wdB
def idB (l:List UInt8):Bool:=decide (1<=l.length)&&decide (l.length<=20) && !(dgB (l.headD 0)) && !(keptB l)&&allW l
theorem allW_snoc {l l':List UInt8}{c:UInt8}(e:l'=l++[c])(h:allW l=true)(hc:wdB c=true):allW l'=true:=by
 subst e;unfold allW at *;rw[List.all_append,h];simp[hc]
theorem head_get (s:ByteArray)(h:0<s.size):s.data.toList.headD 0=s[0]:=by
 obtain⟨⟨l⟩⟩:=s
 cases l with
 |nil=>simp[ByteArray.size]at h
 |cons a l=>rfl
theorem id_false_len {l:List UInt8}(h:l.length=0\/20<l.length):idB l=false:=by
 unfold idB
 rcases h with h |h
 ·rw[decide_eq_false (by omega:¬1<=l.length)];rfl
 ·rw[decide_eq_false (by omega:¬l.length<=20)];simp
set_option maxHeartbeats 1000000 in
theorem ident_any (s:ByteArray)(w:World)(hmax:s.size<=281474976710656):Calls Tryz.prog 208 #[.string s] w λe w'=>e = .returned (.bool (idB s.data.toList))/\w=w':=by
 have hlen:s.data.toList.length=s.size:=by simp
 by_cases h0:s.size=0
 ·rw[id_false_len (.inl (by omega))]
  have q0:((s.size:Int)==0)=true:=beq_iff_eq.2 (by omega)
  clear h0 hlen
  go_enter Tryz.func208,Tryz.ntmps208
  go_wp2
  go_ret
  simp
 ·have q0:((s.size:Int)==0)=false:=beq_eq_false_iff_ne.2 (by omega)
  by_cases h1:20<s.size
  ·rw[id_false_len (.inr (by omega))]
   have q1:(20:Int)<(s.size:Int):=by omega
   clear h0 hlen
   go_enter Tryz.func208,Tryz.ntmps208
   go_wp2
   go_ret
   simp
  ·have hp:0<s.size:=by omega
   have hh:=head_get s hp
   have q1:¬(20:Int)<(s.size:Int):=by omega
   cases hd:dgB s[0]
   ·cases hk:keptB s.data.toList
    ·have hE:idB s.data.toList=allW s.data.toList:=by
      unfold idB
      rw[hh,hd,hk,decide_eq_true (by omega),decide_eq_true (by omega)];simp
     rw[hE]
     clear hE hh
     have HL:=hid hlen
     clear h0 hlen
     go_enter Tryz.func208,Tryz.ntmps208
     go_wp2_with (first|(go_at_call 247;refine(digit_any _ _).mono ?_;rintro e w' ⟨rfl,rfl⟩) |(go_at_call 207;refine(kept_l _ _).mono ?_;rintro e w' ⟨rfl,rfl⟩))
     go_loop [23] (λi=>∃k:Nat,k<=s.size/\i = .int .i64 k/\allW (s.data.toList.take k)=true) (λi=>s.size-(intOf i).toNat)
     case atStart=>exact⟨0,Nat.zero_le _,rfl,rfl⟩
     case round=>
      obtain⟨k,hk,rfl,ha⟩:=hrel
      have HA:=hid ha
      clear ha
      by_cases hlt:k<s.size
      ·have hts:=hid (take_snoc s k hlt)
       have hlz:(k:Int)<(s.size:Int):=by omega
       cases hw:wdB s[k]
       ·go_wp2_with (go_at_call 244;refine(word_any _ _).mono ?_;rintro e w' ⟨rfl,rfl⟩)
        go_ret
        refine⟨ret_bool ?_,rfl⟩
        symm
        unfold allW
        rw[List.all_eq_false]
        exact⟨s[k],by simp[ByteArray.getElem_eq_getElem_data],by simp[hw]⟩
       ·go_wp2_with (go_at_call 244;refine(word_any _ _).mono ?_;rintro e w' ⟨rfl,rfl⟩)
        go_round
        case rel=>exact⟨k+1,by omega,by go_num,allW_snoc hts.out HA.out hw⟩
        case measure=>simp[intOf];omega
      ·have hlz:¬(k:Int)<(s.size:Int):=by omega
       go_wp2
       go_ret
       refine⟨ret_bool ?_,rfl⟩
       have:=HA.out
       rw[List.take_of_length_le (by rw[HL.out];omega)]at this
       exact this.symm
    ·have hE:idB s.data.toList=false:=by
      unfold idB;rw[hk];simp
     rw[hE];clear hE hh h0 hlen
     go_enter Tryz.func208,Tryz.ntmps208
     go_wp2_with (first|(go_at_call 247;refine(digit_any _ _).mono ?_;rintro e w' ⟨rfl,rfl⟩) |(go_at_call 207;refine(kept_l _ _).mono ?_;rintro e w' ⟨rfl,rfl⟩))
     go_ret
     simp
   ·have hE:idB s.data.toList=false:=by
     unfold idB;rw[hh,hd];simp
    rw[hE];clear hE hh h0 hlen
    go_enter Tryz.func208,Tryz.ntmps208
    go_wp2_with (first|(go_at_call 247;refine(digit_any _ _).mono ?_;rintro e w' ⟨rfl,rfl⟩) |(go_at_call 207;refine(kept_l _ _).mono ?_;rintro e w' ⟨rfl,rfl⟩))
    go_ret
    simp
end
section
open Go Go.RowKit
def sgB (l:List UInt8):Bool:=l==[43] || l==[45] || l==[42] || l==[47] || l==[37] || l==[61,61] || l==[33,61] || l==[60] || l==[60,61] || l==[62] || l==[62,61] || l==[38,38] || l==[124,124]
def txB (kd:Int)(l:List UInt8):Bool:=
 if kd=2\/kd=3\/kd=4\/kd=5\/kd=7\/kd=8\/kd=9\/kd=16\/kd=17\/kd=18\/kd=19\/kd=22\/kd=23\/kd=24\/kd=25 then idB l
 else if kd=13 then idB l || l==[] else if kd=26 then l==[45] || l==[33] else if kd=27 then sgB l else l==[]
def ndB (l:List Nd)(x:Nd):Bool:=decide (1<=x.kd)&&(decide (x.kd<=27)&&(txB x.kd x.tx.data.toList&&(numB x.kd x.n&&kidB x.kd (x.ks.map λk=>(nth l k.toNat).kd))))
def shB (l:List Nd):Bool:=l.all (ndB l)
section
variable {Q:Exit->Act->World->Prop} {a:Act} {w:World} {o:Oper}
theorem y_assign {S:World->Prop}{x:Operand}{v:Value}(ho:o.op = .assign x)(hx:a.eval x=v):∀w,S w->(execOp a.eval o).run Tryz.prog w = .ok (.value v) w:=λw _=>by unfold execOp;simp only[ho,hx,Sem.run_pure]
end
noncomputable def rgB (l:List Nd)(r:Int):Bool:=sndB l r&&(decide (dpt l r<=40)&&(decide ((nth l (l.length-1)).kd=1)&&shB l))
set_option maxRecDepth 100000 in
set_option maxHeartbeats 1500000 in
theorem isEmpty_any (s:ByteArray)(w:World):Calls Tryz.prog 234 #[.string s] w (BPost (s.data.toList==[]) w):=by
 by_cases g:s.data.toList=[]
 ·have qg:(s.toList==[])=true:=by rw[ByteArray.toList_eq];exact beq_iff_eq.2 g
  have HE:=hid (show(s.data.toList==[])=true from beq_iff_eq.2 g)
  clear g
  go_enter Tryz.func234,Tryz.ntmps234
  go_wp2
  go_ret
  exact⟨ret_bool HE.out.symm,Below.refl _ _⟩
 ·have qg:(s.toList==[])=false:=by rw[ByteArray.toList_eq];exact beq_eq_false_iff_ne.2 g
  have HE:=hid (show(s.data.toList==[])=false from beq_eq_false_iff_ne.2 g)
  clear g
  go_enter Tryz.func234,Tryz.ntmps234
  go_wp2
  go_ret
  exact⟨ret_bool HE.out.symm,Below.refl _ _⟩
set_option maxRecDepth 100000 in
set_option maxHeartbeats 1500000 in
theorem isUnary_any (s:ByteArray)(w:World):Calls Tryz.prog 240 #[.string s] w (BPost (s.data.toList==[45] || s.data.toList==[33]) w):=by
 by_cases g:s.data.toList=[45]
 ·have qg:(s.toList==[45])=true:=by rw[ByteArray.toList_eq];exact beq_iff_eq.2 g
  have HE:=hid (show(s.data.toList==[45] || s.data.toList==[33])=true by rw[beq_iff_eq.2 g];rfl)
  clear g
  go_enter Tryz.func240,Tryz.ntmps240
  go_wp2
  go_ret
  exact⟨ret_bool HE.out.symm,Below.refl _ _⟩
 ·have qg:(s.toList==[45])=false:=by rw[ByteArray.toList_eq];exact beq_eq_false_iff_ne.2 g
  by_cases g2:s.data.toList=[33]
  ·have qg2:(s.toList==[33])=true:=by rw[ByteArray.toList_eq];exact beq_iff_eq.2 g2
   have HE:=hid (show(s.data.toList==[45] || s.data.toList==[33])=true by rw[beq_iff_eq.2 g2];simp)
   clear g g2
   go_enter Tryz.func240,Tryz.ntmps240
   go_wp2
   go_ret
   exact⟨ret_bool HE.out.symm,Below.refl _ _⟩
  ·have qg2:(s.toList==[33])=false:=by rw[ByteArray.toList_eq];exact beq_eq_false_iff_ne.2 g2
   have HE:=hid (show(s.data.toList==[45] || s.data.toList==[33])=false by rw[beq_eq_false_iff_ne.2 g,beq_eq_false_iff_ne.2 g2];rfl)
   clear g g2
   go_enter Tryz.func240,Tryz.ntmps240
   go_wp2
   go_ret
   exact⟨ret_bool HE.out.symm,Below.refl _ _⟩
set_option maxRecDepth 100000 in
set_option maxHeartbeats 1500000 in
theorem isNameOrEmpty_any (s:ByteArray)(w:World)(hmax:s.size<=281474976710656):Calls Tryz.prog 238 #[.string s] w (BPost (idB s.data.toList || s.data.toList==[]) w):=by
 by_cases g:s.data.toList=[]
 ·have qg:(s.toList==[])=true:=by rw[ByteArray.toList_eq];exact beq_iff_eq.2 g
  have HE:=hid (show(idB s.data.toList || s.data.toList==[])=true by rw[beq_iff_eq.2 g];simp)
  clear g
  go_enter Tryz.func238,Tryz.ntmps238
  go_wp2
  go_ret
  exact⟨ret_bool HE.out.symm,Below.refl _ _⟩
 ·have qg:(s.toList==[])=false:=by rw[ByteArray.toList_eq];exact beq_eq_false_iff_ne.2 g
  have HC:=hid (ident_any s w hmax)
  have HE:=hid (show(idB s.data.toList || s.data.toList==[])=idB s.data.toList by rw[beq_eq_false_iff_ne.2 g];simp)
  clear g
  generalize idB s.data.toList=v at *
  go_enter Tryz.func238,Tryz.ntmps238
  go_wp2_with (go_at_call 208;refine HC.out.mono ?_;rintro e w1 ⟨rfl,rfl⟩)
  go_ret
  exact⟨ret_bool HE.out.symm,Below.refl _ _⟩
set_option maxHeartbeats 2000000 in
theorem isBinary_s (s:ByteArray)(w:World):Calls Tryz.prog 241 #[.string s] w λe w'=>e = .returned (.bool (sgB s.toList))/\w=w':=by
 go_enter Tryz.func241,Tryz.ntmps241
 go_wp2
 all_goals
  first
  |(exfalso;simp_all only[Bool.false_eq_true];done)
  |(go_ret;exact⟨ret_bool (by simp only[sgB, *,Bool.true_or,Bool.or_true,Bool.or_self]),rfl⟩)
theorem isBinary_any (s:ByteArray)(w:World):Calls Tryz.prog 241 #[.string s] w (BPost (sgB s.data.toList) w):=by
 rw[<- ByteArray.toList_eq]
 exact(isBinary_s s w).mono λe w' ⟨h1,h2⟩=>⟨h1,by subst h2;exact Below.refl _ _⟩
end
end Go.Proofs.YtedkgofehbecmaaGreatDoor.Tr
namespace Go.Proofs.YtedkgofehbecmaaGreatDoor
open Go.Lib (hid)
open Go Go.RowKit
open Tr (nth)
section
variable (l:List Tr.Nd)
def ndA (k:Int):Tr.Nd:=Tr.nth l k.toNat
def txA (k:Int):List UInt8:=(ndA l k).tx.data.toList
def kidA (k:Int)(i:Nat):Int:=(ndA l k).ks.getD i 0
end
def Ahead (l:List Tr.Nd):Prop:=∀i (hi:i<l.length),∀k ∈ l[i].ks,0<=k/\k<(i:Int)
theorem ndA_eq {l:List Tr.Nd}{i:Nat}(hi:i<l.length):ndA l (i:Int)=l[i]:=by unfold ndA;rw[Int.toNat_natCast];exact Tr.nth_eq hi
end Go.Proofs.YtedkgofehbecmaaGreatDoor
namespace Go.Proofs.YtedkgofehbecmaaGreatDoor
open Go.Lib (hid)
open Go Go.RowKit
open Tr (Bx heap1 bt Nds Ints)
theorem node_at {w0 w:World}{A:Option Addr}{l:List Tr.Nd}(hN:Nds w0 A l)(hb:Below w0.heap.size w0 w)(p:Nat)(hp:p<l.length):∃bA off K c,A=some ⟨bA,off,none⟩/\bA<w.heap.size/\w.cell? ⟨bA,off+p*5,none⟩=some (.int .i64 l[p].kd)/\w.cell? ⟨bA,off+p*5+1,none⟩=some (.int .i64 l[p].n) /\
  w.cell? ⟨bA,off+p*5+2,none⟩=some (.int .i64 l[p].pl)/\w.cell? ⟨bA,off+p*5+3,none⟩=some (.string l[p].tx)/\w.cell? ⟨bA,off+p*5+4,none⟩=some (.slice K l[p].ks.length c)/\Ints w0 K l[p].ks:=by
 obtain⟨bA,off,rfl,hl,hc⟩:=hN (by omega)
 obtain⟨K,c,c0,c1,c2,c3,c4,hK⟩:=hc p hp
 exact⟨bA,off,K,c,rfl,Nat.lt_of_lt_of_le hl hb.size,(hb.cell (p:=⟨bA,off+p*5,none⟩) hl).trans c0,(hb.cell (p:=⟨bA,off+p*5+1,none⟩) hl).trans c1,(hb.cell (p:=⟨bA,off+p*5+2,none⟩) hl).trans c2,(hb.cell (p:=⟨bA,off+p*5+3,none⟩) hl).trans c3,(hb.cell (p:=⟨bA,off+p*5+4,none⟩) hl).trans c4,hK⟩
end Go.Proofs.YtedkgofehbecmaaGreatDoor
