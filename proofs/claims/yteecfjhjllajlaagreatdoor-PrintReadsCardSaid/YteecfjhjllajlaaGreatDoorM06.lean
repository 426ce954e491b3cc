/- PROVED: Pg Ph Pj Pn Po Pp. No more condition. -/
import Derived.Test.YteecfjhjllajlaaGreatDoorM05
import Derived.Deep.RegionLaw
set_option maxHeartbeats 1500000
set_option maxRecDepth 100000
namespace Go.Proofs.YteecfjhjllajlaaGreatDoor
open Go.Lib (hid)
open Go Go.RowKit
section
open Tr (Bx aa bt au aP ax aA sF)
section
variable {ops:Array Oper} {Q:Exit->Act->World->Prop} {S:World->Prop} {fuel:Nat} {listed:Array Bool} {a:Act} {w:World} {o:Oper}
theorem A7 (i:Nat)(o:Oper)(v:Value)(hs:Region.noSelect ops=true)(hi:ops[i]?=some o)(hf:Region.free .any ops listed i=true)(hr:(Region.ready .any ops listed).contains i=true)
  (hQ:∀c a w,Q (.panic c) (a.put o.dst v) w->Q (.panic c) a w) (hw:Region.wanted o (yielded ops a.tmps)=true) (hy:∀w,S w->(execOp a.eval o).run Tryz.prog w=.ok (.value v) w) (hS:S w)
  (h:wpAnyH Tryz.prog .any ops Q S fuel (listed.setIfInBounds i true) (a.put o.dst v) w):wpAnyH Tryz.prog .any ops Q S (fuel+1) listed a w:=
 wpAnyH_take hi hs hf hr hQ (.inl ⟨hw,hy⟩) hS h
theorem aG (i:Nat)(v:Value){o:Oper}{t:Tmp}(hc:(Region.noSelect ops&&(Region.free .any ops listed i&&(Region.ready .any ops listed).contains i))=true)(hi:ops[i]?=some o)(hd:o.dst=some t)
  (hQ:∀c a w,Q (.panic c) (a.put (some t) v) w->Q (.panic c) a w) (hw:Region.wanted o (yielded ops a.tmps)=true) (hy:∀w,S w->(execOp a.eval o).run Tryz.prog w=.ok (.value v) w) (hS:S w)
  (h:wpAnyH Tryz.prog .any ops Q S fuel (listed.setIfInBounds i true) (a.put (some t) v) w):wpAnyH Tryz.prog .any ops Q S (fuel+1) listed a w:=by
 simp only[Bool.and_eq_true]at hc;rw[<- hd]at hQ h;exact A7 i o v hc.1 hi hc.2.1 hc.2.2 hQ hw hy hS h
theorem dQ (i:Nat)(o:Oper)(hi:ops[i]?=some o)(hr:Region.ready .any ops listed=[i])(hw:Region.wanted o (yielded ops a.tmps)=true)
  (h:o.wp Tryz.prog a w (λa' w'=>S w'/\wpAnyH Tryz.prog .any ops Q S fuel (listed.setIfInBounds i true) a' w') Q):wpAnyH Tryz.prog .any ops Q S (fuel+1) listed a w:=
 wpAnyH_all hr (by simp) λj hj=>by
  obtain rfl:j=i:=by simpa using hj
  unfold wpOp;simp only[hi,hw,if_true];exact .inl h
theorem dn {x:Operand}{v:Value}(ho:o.op=.move x)(hx:a.eval x=v):∀w,S w->(execOp a.eval o).run Tryz.prog w=.ok (.value v) w:=λw _=>by unfold execOp;simp only[ho,hx,Sem.run_pure]
theorem wK {op:BinOp}{t:TypeId}{x y:Operand}{u v r:Value}(ho:o.op=.binOp op t x y t)(hx:a.eval x=u)(hy:a.eval y=v)
  (hg:∀w,(eqGuard op t x y u v).run Tryz.prog w=.ok () w) (hr:∀w,(binOp op t u v).run Tryz.prog w=.ok r w):∀w,S w->(execOp a.eval o).run Tryz.prog w=.ok (.value r) w:=λw _=>by
 unfold execOp;simp only[ho,hx,hy,Sem.run_bind,hg,hr,Sem.run_pure,Result.andThen_ok]
theorem ak {t:TypeId}{x:Operand}{ad:Addr}{v:Value}(ho:o.op=.load t x)(hx:a.eval x=.pointer (some ad))(hl:∀w,S w->(Instr.loadAt t (.pointer (some ad))).run Tryz.prog w=.ok v w):∀w,S w->(execOp a.eval o).run Tryz.prog w=.ok (.value v) w:=λw hS=>by
 unfold execOp;simp only[ho,hx,Sem.run_bind,hl w hS,Sem.run_pure,Result.andThen_ok]
theorem ay {t:TypeId}{k:Nat}{x:Operand}{ad ad':Addr}(ho:o.op=.fieldAddr t x k)(hx:a.eval x=.pointer (some ad))(hl:∀w,(Instr.fieldAt t (.pointer (some ad)) k).run Tryz.prog w=.ok (.pointer (some ad')) w):∀w,S w->(execOp a.eval o).run Tryz.prog w=.ok (.value (.pointer (some ad'))) w:=λw _=>by
 unfold execOp;simp only[ho,hx,Sem.run_bind,hl w,Sem.run_pure,Result.andThen_ok]
theorem bq {t:TypeId}{x y:Operand}{u v r:Value}(ho:o.op=.indexAddr t x y)(hx:a.eval x=u)(hy:a.eval y=v)(hl:∀w,(Instr.indexAt t u v).run Tryz.prog w=.ok r w):∀w,S w->(execOp a.eval o).run Tryz.prog w=.ok (.value r) w:=λw _=>by
 unfold execOp;simp only[ho,hx,hy,Sem.run_bind,hl w,Sem.run_pure,Result.andThen_ok]
end
theorem M6 {S:World->Prop}{a:Act}{o:Oper}{x:Operand}{ad:Addr}(ho:o.op=.nilCheck x)(hx:a.eval x=.pointer (some ad)):∀w,S w->(execOp a.eval o).run Tryz.prog w=.ok (.value (.pointer (some ad))) w:=λw _=>by
 unfold execOp;simp only[ho,hx];rfl
theorem pM (b:Nat)(w:World):(Instr.fieldAt 96 (.pointer (some ⟨b,0,none⟩)) 2).run Tryz.prog w=.ok (.pointer (some ⟨b,2,none⟩)) w:=by kernel_rfl
theorem uJ {w:World}{b off n c:Nat}{A:Option Addr}(h:w.cell? ⟨b,off,none⟩=some (.slice A n c)):(Instr.loadAt 23 (.pointer (some ⟨b,off,none⟩))).run Tryz.prog w=.ok (.slice A n c) w:=by
 simp[go_sem,h]
theorem jI {w:World}{b:Nat}{a1 a2 a3:Int}{s:ByteArray}{n c:Nat}{A:Option Addr}(h:Bx w b 37 [.int .i64 a1,.int .i64 a2,.int .i64 a3,.string s,.slice A n c]):(Instr.loadAt 37 (.pointer (some ⟨b,0,none⟩))).run Tryz.prog w=.ok (.agg #[.int .i64 a1,.int .i64 a2,.int .i64 a3,.string s,.slice A n c]) w:=by
 have h0:=h.cell 0;have h1:=h.cell 1;have h2:=h.cell 2;have h3:=h.cell 3;have h4:=h.cell 4;simp only[List.getElem?_cons_zero,List.getElem?_cons_succ]at h0 h1 h2 h3 h4;simp[go_sem,h0,h1,h2,h3,h4]
theorem oW (w:World)(l:List Value)(t:TypeId):∀j u,l[j]?=some u->(w.alloc (.cells l.toArray t)).cell? ((⟨w.heap.size,0,none⟩:Addr).add j)=some u:=λj u hj=>by
 have hB:=Bx.new w t l;rw[show(⟨w.heap.size,0,none⟩:Addr).add j=⟨w.heap.size,j,none⟩by simp[Addr.add];omega,hB.cell j,hj]
theorem Si (a b c:Int)(s:ByteArray)(K:Option Addr)(n d:Nat):∀u ∈ [Value.int .i64 a,.int .i64 b,.int .i64 c,.string s,.slice K n d],u.oneCell'=true:=λu hu=>by
 simp at hu;rcases hu with rfl |rfl |rfl |rfl |rfl<;>rfl
theorem own_below {w w':World}{base e size n:Nat}{v:Value}{xs:List Value}(h:w.ownsRow base e size v n xs)(hb:Below w.heap.size w w'):w'.ownsRow base e size v n xs:=by
 refine⟨h.1,h.2.imp id ?_⟩;rintro⟨g,cap,cur,h1,h2,h3,h4⟩;exact⟨g,cap,cur,h1,h2,(hb.block g (Array.getElem?_eq_some_iff.1 h3).1).trans h3,h4⟩
def Kd (w:World)(X:Nat->Prop)(K:Option Addr)(ks:List Int):Prop:=0<ks.length->∃b cs,K=some ⟨b,0,none⟩/\w.heap[b]?=some (.cells cs 3 (0,0))/\(∀j (hj:j<ks.length),cs[j]?=some (.int .i64 ks[j]))/\¬X b
def iI (w:World)(X:Nat->Prop)(base:Nat)(V:Value)(nd:List Nd):Prop:=∃xs,w.ownsRow base 37 5 V nd.length xs/\∀j (hj:j<nd.length),∃K c,(xs.drop (j*5)).take 5=[.int .i64 nd[j].kd,.int .i64 nd[j].n,.int .i64 nd[j].pl,.string (bs nd[j].tx),.slice K nd[j].ks.length c]/\Kd w X K nd[j].ks/\nd[j].ks.length<=c
theorem jJ {base n size:Nat}{e:TypeId}{v:Value}{ls:List Value}{w:World}(h:w.ownsRow base e size v n ls):∃A c,v=.slice A n c:=by
 rcases h.2 with⟨e1,e2⟩ |⟨g,cap,cur,e1,_⟩
 ·exact⟨none,0,by rw[e1,e2]⟩
 ·exact⟨_,_,e1⟩
theorem Kd.fr {E X:Nat->Prop}{w w':World}{K:Option Addr}{ks:List Int}(h:Kd w X K ks)(k:Fr E w w')(hE:∀b cs,w.heap[b]?=some (.cells cs 3 (0,0))->¬E b)   : Kd w' X K ks:=λh0=>by
 obtain⟨b,cs,e,hb,hc⟩:=h h0;exact⟨b,cs,e,(k.block b (Array.getElem?_eq_some_iff.1 hb).1 (hE b cs hb)).trans hb,hc⟩
end
section
open Tr (Bx aa bt au aP ax aA sF)
theorem gQ {P:Program}(w:World){o:Oper}{a:Act}{K:Act->World->Prop}{Q:Exit->Act->World->Prop}(s x:Operand)(t:TypeId)
  (ho:o.op=.call {callee :=.builtin .append,args := #[s,x],argTypes := #[t,t]})
  (base:Nat) (e:TypeId) (i:TypeInfo) (z:Value) (size bytes:Nat) (ht:P.underlying t=some (.slice e)) (hi:P.info? e=some i) (hz:i.zero=some z)
  (hsize:i.size=size) (hby:i.bytes=bytes) (hzs:z.cells.size=size) (hsz:0<size)
  (v:Value) (n:Nat) (xs:List Value) (hs:a.eval s=v) (hown:w.ownsRow base e size v n xs)
  (ad:Addr) (m c:Nat) (news:List Value) (hx:a.eval x=.slice (some ad) m c) (hl:news.length=m*size) (hnews:∀j u,news[j]?=some u->w.cell? (ad.add j)=some u) (h1:∀u ∈ news,u.oneCell'=true)
  (h63:n+m<=maxLen) (hbytes:(n+m)*bytes<=140737488355328) (hbase:base<=w.heap.size)
  (h:∀v' w',w'.ownsRow base e size v' (n+m) (xs++news)->w.grownBy w' v.ownBlock->(∀k,v'.ownBlock=some k->v.ownBlock=some k\/w.heap.size<=k)->K (a.put o.dst v') w'):o.wp P a w K Q:=by
 obtain⟨v',w',hr,h2,h3,_⟩:=run_append_own (P:=P) w base t o.type e i z size bytes ht hi hz hsize hby hzs hsz v n xs hown ad m c news hl hnews h1 h63 hbytes hbase;have h5:∀k,v'.ownBlock=some k->v.ownBlock=some k\/w.heap.size<=k:=by
  rcases hown.2 with⟨rfl,rfl⟩ |⟨g,cap,cur,rfl,hbg,hg,hnc,hcm,hcs,htake⟩
  ·have hx0:xs=[]:=List.eq_nil_of_length_eq_zero (by simpa using hown.1);subst hx0;obtain⟨v2,w2,hr2,h22,_,_⟩:=run_append_own (P:=P) w w.heap.size t o.type e i z size bytes ht hi hz hsize hby hzs hsz _ 0 [] (World.ownsRow_nil w w.heap.size e size) ad m c news hl hnews h1 h63 hbytes (Nat.le_refl _);have he:=hr.symm.trans hr2;injection he with e1 e2
   subst e1;subst e2;exact λk hk =>.inr (h22.lt k hk).1
  ·subst hsize;by_cases hroom:n+m<=cap
   ·have hfit:n*i.size+news.length<=cur.size:=by rw[hl,hcs,<- Nat.add_mul];exact Nat.mul_le_mul_right _ hroom
    have hr2:=run_append_room (P:=P) w t o.type e i ht hi g n cap cur hg ad m c news hl hnews h1 hroom hfit;have he:=hr.symm.trans hr2;injection he with e1 e2
    subst e1;exact λk hk =>.inl hk
   ·have holds:∀j u,xs[j]?=some u->w.cell? ((⟨g,0,none⟩:Addr).add j)=some u:=hown.cells (g:=g) rfl;subst hby;have hr2:=run_append_grow (P:=P) w t o.type e i z ht hi hz ⟨g,0,none⟩ n cap xs hown.1 holds ad m c news hl hnews (by omega) (by simp only[maxLen]at h63;omega) (growslice_fits (by omega) hbytes);have he:=hr.symm.trans hr2;injection he with e1 e2
    subst e1;exact λk hk =>.inr (by simp[Value.ownBlock]at hk;omega)
 unfold Oper.wp execOp;simp only[ho,resolve,invoke,builtin,Sem.run_bind,Sem.run_pure,Result.andThen_ok,List.map_toArray,List.map_cons,List.map_nil,hs,hx,hr];exact h v' w' h2 h3 h5
theorem FW {ops:Array Oper}{o:Oper}{a:Act}{w:World}{K:Act->World->Prop}{Q:Exit->Act->World->Prop}{E:Prop}(hg:o.guard=none)(s x:Operand)(t:TypeId)
  (ho:o.op=.call {callee :=.builtin .append,args := #[s,x],argTypes := #[t,t]})
  (base:Nat) (e:TypeId) (i:TypeInfo) (z:Value) (size bytes:Nat) (ht:Tryz.prog.underlying t=some (.slice e)) (hi:Tryz.prog.info? e=some i) (hz:i.zero=some z)
  (hsize:i.size=size) (hby:i.bytes=bytes) (hzs:z.cells.size=size) (hsz:0<size)
  (v:Value) (n:Nat) (xs:List Value) (hs:a.eval s=v) (hown:w.ownsRow base e size v n xs)
  (ad:Addr) (m c:Nat) (news:List Value) (hx:a.eval x=.slice (some ad) m c) (hl:news.length=m*size) (hnews:∀j u,news[j]?=some u->w.cell? (ad.add j)=some u) (h1:∀u ∈ news,u.oneCell'=true)
  (h63:n+m<=maxLen) (hbytes:(n+m)*bytes<=140737488355328) (hbase:base<=w.heap.size)
  (h:∀v' w',w'.ownsRow base e size v' (n+m) (xs++news)->w.grownBy w' v.ownBlock->(∀k,v'.ownBlock=some k->v.ownBlock=some k\/w.heap.size<=k)->K (a.put o.dst v') w'):if Region.wanted o (yielded ops a.tmps)=true then Oper.wp Tryz.prog o a w K Q else E:=by
 rw[if_pos (by simp[Region.wanted,hg])];exact gQ _ s x t ho base e i z size bytes ht hi hz hsize hby hzs hsz v n xs hs hown ad m c news hx hl hnews h1 h63 hbytes hbase h
theorem FX {E:Nat->Prop}{w w':World}{base e size n:Nat}{v:Value}{xs:List Value}(h:w.ownsRow base e size v n xs)(k:Fr E w w')(hE:∀b,E b->b<base):w'.ownsRow base e size v n xs:=by
 have h0:=h;refine⟨h.1,h.2.imp id ?_⟩;rintro⟨g,cap,cur,h1,h2,h3,h4⟩;have hl:=(h0.lt g (by rw[h1];rfl)).1;exact⟨g,cap,cur,h1,h2,(k.block g (Array.getElem?_eq_some_iff.1 h3).1 (λe=>by have:=hE g e;omega)).trans h3,h4⟩
theorem FY {E:Nat->Prop}{w w':World}{row:Option Nat}(h:w.grownBy w' row)(hE:∀b,row=some b->E b):Fr E w w':=⟨h.os,h.tape,h.output,h.size,λb hb hn=>h.block b hb (λe=>hn (hE b e.symm))⟩
theorem NT {X:Nat->Prop}{w w':World}{nd:List Nd}{xs:List Value}(hl:xs.length=nd.length*5)(h:∀j (hj:j<nd.length),∃K c,(xs.drop (j*5)).take 5=[.int .i64 nd[j].kd,.int .i64 nd[j].n,.int .i64 nd[j].pl,.string (bs nd[j].tx),.slice K nd[j].ks.length c]/\Kd w X K nd[j].ks/\nd[j].ks.length<=c)(x:Nd)(KK:Option Addr)(kc:Nat)(hk:Kd w X KK x.ks)(hkc:x.ks.length<=kc)
  (hkeep:∀K ks,Kd w X K ks->Kd w' X K ks):∀j (hj:j<(nd++[x]).length),∃K c,((xs++[Value.int .i64 x.kd,.int .i64 x.n,.int .i64 x.pl,.string (bs x.tx),.slice KK x.ks.length kc]).drop (j*5)).take 5=[.int .i64 (nd++[x])[j].kd,.int .i64 (nd++[x])[j].n,.int .i64 (nd++[x])[j].pl,.string (bs (nd++[x])[j].tx),.slice K (nd++[x])[j].ks.length c]/\Kd w' X K (nd++[x])[j].ks/\(nd++[x])[j].ks.length<=c:=λj hj=>by
 by_cases hj':j<nd.length
 ·obtain⟨K,c,e,k,k2⟩:=h j hj';refine⟨K,c,?_,?_,by simp only[List.getElem_append_left hj'];exact k2⟩
  ·simp only[List.getElem_append_left hj'];rw[List.drop_append_of_le_length (by omega),List.take_append_of_le_length (by rw[List.length_drop];omega),e]
  ·simp only[List.getElem_append_left hj'];exact hkeep _ _ k
 ·obtain rfl:j=nd.length:=by simp at hj;omega
  refine⟨KK,kc,?_,?_,by simpa using hkc⟩
  ·rw[<- hl];simp
  ·simp;exact hkeep _ _ hk
def Cw (X:Nat->Prop)(base g:Nat)(A:Option Addr)(c:Nat)(ts:List Tok)(V:Value)(s:St)(x:Nd)(w:World)(e:Ending)(w':World):Prop:=
 ∃V',e=.returned (.int .i64 (s.nd.length:Int))/\Px w' g A c ts V' {s with nd:=s.nd++[x]}/\iI w' X base V' (s.nd++[x])/\Fr (λb=>b=g\/V.ownBlock=some b) w w'/\∀b,V'.ownBlock=some b->V.ownBlock=some b\/w.heap.size<=b
theorem Kb {X:Nat->Prop}{w W4 w4 W6:World}{base g c:Nat}{A:Option Addr}{ts:List Tok}{s:St}{kd nn pl:Int}{tx:List UInt8}{KK VA VA':Option Addr}{kc vc vc':Nat}{ks:List Int}{xs:List Value}(h:Px w g A c ts (.slice VA s.nd.length vc) s)(hown:w.ownsRow base 37 5 (.slice VA s.nd.length vc) s.nd.length xs)
  (hcs:∀j (hj:j<s.nd.length),∃K c,(xs.drop (j*5)).take 5=[.int .i64 s.nd[j].kd,.int .i64 s.nd[j].n,.int .i64 s.nd[j].pl,.string (bs s.nd[j].tx),.slice K s.nd[j].ks.length c]/\Kd w X K s.nd[j].ks/\s.nd[j].ks.length<=c) (hK:Kd w X KK ks) (hkc:ks.length<=kc) (hA:∀a,A=some a->a.block<base) (hgb:g<base)
  (hb2:Below w.heap.size w W4) (hgrow4:(W4.alloc (.cells #[.int .i64 kd,.int .i64 nn,.int .i64 pl,.string (bs tx),.slice KK ks.length kc] 37)).drew.grownBy w4 (Value.slice VA s.nd.length vc).ownBlock)
  (hown4:w4.ownsRow base 37 5 (.slice VA' (s.nd.length+1) vc') (s.nd.length+1) (xs++[.int .i64 kd,.int .i64 nn,.int .i64 pl,.string (bs tx),.slice KK ks.length kc]))
  (hfr4:∀k,(Value.slice VA' (s.nd.length+1) vc').ownBlock=some k->(Value.slice VA s.nd.length vc).ownBlock=some k\/(W4.alloc (.cells #[.int .i64 kd,.int .i64 nn,.int .i64 pl,.string (bs tx),.slice KK ks.length kc] 37)).drew.heap.size<=k)
  (hX6:Bx (w4.setCell ⟨g,2,none⟩ (.slice VA' (s.nd.length+1) vc')) g 96 [.slice A ts.length c,.int .i64 (s.nx:Int),.slice VA' (s.nd.length+1) vc',.int .i64 (s.op:Int),.int .i64 (s.mo:Int)]) (hW6:w4.setCell ⟨g,2,none⟩ (.slice VA' (s.nd.length+1) vc')=W6) :
  Cw X base g A c ts (.slice VA s.nd.length vc) s ⟨kd,nn,pl,tx,ks⟩ w (.returned (.int .i64 (s.nd.length:Int))) W6:=by
 have f1:Fr (λb=>b=g\/(Value.slice VA s.nd.length vc).ownBlock=some b) w w4:=((Fr.of hb2).trans (Fr.of (dW (aa _ _)))).trans (FY hgrow4 (λb hb =>.inr hb));have f2:Fr (λb=>b=g\/(Value.slice VA s.nd.length vc).ownBlock=some b) w W6:=by rw[<- hW6];exact f1.set (.inl rfl) _
 have f3:Fr (λb=>b=g) w4 W6:=by rw[<- hW6];exact Fr.set (E:=λb=>b=g) (Fr.refl _ _) rfl _
 have hkeep:∀K ks,Kd w X K ks->Kd W6 X K ks:=λK ks hk=>hk.fr f2 (λb cs hb e=>by
  rcases e with rfl |e
  ·have:=hb.symm.trans h.box
   simp at this
  ·rcases hown.2 with⟨e1,_⟩ |⟨g',cap,cur,e1,_,e3,_⟩
   ·rw[e1]at e;exact absurd e (by simp[Value.ownBlock])
   ·rw[e1]at e
    obtain rfl:g'=b:=by simpa [Value.ownBlock]using e
    have:=hb.symm.trans e3
    simp at this)
 refine⟨_,rfl,⟨by rw[<- hW6];exact hX6,h.toks.fr f2 ?_,h.len,h.nx,h.op,h.mo,h.ne⟩,⟨_,?_,NT hown.1 hcs ⟨kd,nn,pl,tx,ks⟩ KK kc hK hkc hkeep⟩,f2,?_⟩
 ·rintro a ha (e |e)
  ·exact h.ne a ha e
  ·have:=(hown.lt _ e).1;have:=hA a ha;omega
 ·rw[List.length_append];exact FX hown4 f3 (λb e=>by omega)
 ·intro b hb;refine(hfr4 b hb).imp id λq=>Nat.le_trans (Nat.le_trans hb2.size ?_) q
  show W4.heap.size<=(W4.alloc _).heap.size;rw[World.size_alloc];omega
theorem xU {X:Nat->Prop}{w:World}{base g c:Nat}{A:Option Addr}{ts:List Tok}{V:Value}{s:St}(h:Px w g A c ts V s)(hN:iI w X base V s.nd)(kd nn pl:Int)(tx:List UInt8)(K0 KK:Option Addr)(n0 c0 kn kc:Nat)(ks:List Int)(hK:Kd w X KK ks)(hkn2:kn=ks.length/\kn<=kc)
  (hbase:base<=w.heap.size) (hgb:g<base) (hA:∀a,A=some a->a.block<base) (hlen:s.nd.length<=100000):Calls Tryz.prog 106 #[.pointer (some ⟨g,0,none⟩),.agg #[.int .i64 kd,.int .i64 nn,.int .i64 pl,.string (bs tx),.slice K0 n0 c0],.slice KK kn kc] w (Cw X base g A c ts V s ⟨kd,nn,pl,tx,ks⟩ w):=by
 obtain⟨hkn,hkc⟩:=hkn2;obtain⟨j0,ji,jz0,jz1,jz2⟩:=info_parts Tr.sF;obtain⟨xs,hown,hcs⟩:=hN;obtain⟨VA,vc,rfl⟩:=jJ hown;obtain⟨W,hW⟩:∃W,w.alloc (.cells #[.int .i64 kd,.int .i64 nn,.int .i64 pl,.string (bs tx),.slice K0 n0 c0] 37)=W:=⟨_,rfl⟩;have hb:Below w.heap.size w W:=by rw[<- hW];exact aa _ _
 have hB:Bx W w.heap.size 37 [.int .i64 kd,.int .i64 nn,.int .i64 pl,.string (bs tx),.slice K0 n0 c0]:=by rw[<- hW];exact Bx.new w 37 _
 have hX:=h.box.below hb h.box.lt;have hne:w.heap.size≠g:=by omega
 have b4:=(hB.cell 4).trans rfl;have f4:=hB.frozen 4;have hB2:=hB.set_ 4 (.slice KK kn kc);simp only[List.set_cons_zero,List.set_cons_succ]at hB2;have hX2:=hX.far (p:=⟨w.heap.size,4,none⟩) hne.symm (.slice KK kn kc);have hb2:=hb.setCell (p:=⟨w.heap.size,4,none⟩) (Nat.le_refl _) (.slice KK kn kc);have H0:=hid (And.intro h (And.intro hown (And.intro hcs (And.intro hK (And.intro hA hkc)))));have HH:=hid (And.intro hB2 (And.intro hX2 hb2));have HKN:=hid hkn;clear h hown hcs hK hA hkc hB hX hB2 hX2 hb2 hb hkn;obtain⟨vn,hvn⟩:∃vn,vn=s.nd.length:=⟨_,rfl⟩;have HVN:=hid hvn;rw[<- hvn]at hlen;go_enter Tryz.func106,Tryz.ntmps106
 go_upto_region 2 with(fail)
 obtain⟨hB2,hX2,hb2⟩:=HH.out;rw[<- hvn]at hX2;clear HH b4 f4 hW;generalize W.setCell ⟨w.heap.size,4,none⟩ (.slice KK kn kc)=W4 at *
 have hown:W4.ownsRow base 37 5 (.slice VA vn vc) vn xs:=own_below (by rw[hvn];exact H0.out.2.1) hb2;clear hvn;have hown:W4.drew.ownsRow base 37 5 (.slice VA vn vc) vn xs:=hown;have c2:=(hX2.cell 2).trans rfl;have n0:=(hB2.cell 0).trans rfl;have n1:=(hB2.cell 1).trans rfl;have n2:=(hB2.cell 2).trans rfl;have n3:=(hB2.cell 3).trans rfl;have n4:=(hB2.cell 4).trans rfl;have hz5:=hb2.size;have e2:(W4.alloc (.cells #[.int .i64 kd,.int .i64 nn,.int .i64 pl,.string (bs tx),.slice KK kn kc] 37)).drew.cell? ⟨g,2,none⟩=some (.slice VA vn vc):=((hX2.alloc _).cell 2).trans rfl;have HO:=hid (show(W4.alloc (.cells #[.int .i64 kd,.int .i64 nn,.int .i64 pl,.string (bs tx),.slice KK kn kc] 37)).drew.ownsRow base 37 5 (.slice VA vn vc) vn xs from own_below hown (aa W4.drew (.cells #[.int .i64 kd,.int .i64 nn,.int .i64 pl,.string (bs tx),.slice KK kn kc] 37)));have HBC:=hid (oW W4 [.int .i64 kd,.int .i64 nn,.int .i64 pl,.string (bs tx),.slice KK kn kc] 37);have HM1:=hid (show vn+1<=maxLen by unfold maxLen;omega);have HM2:=hid (show(vn+1)*64<=140737488355328 by omega);have HM3:=hid (show base<=(W4.drew.alloc (.cells #[.int .i64 kd,.int .i64 nn,.int .i64 pl,.string (bs tx),.slice KK kn kc] 37)).heap.size by rw[World.size_alloc];show base<=W4.heap.size+1;omega);have HX2:=hid (And.intro hX2 hb2);clear hown hX2 hB2 hb2
 go_region_law ((refine FW rfl (.tmp 13) (.tmp 15) 23 rfl base 37 j0 (.agg #[.int .i64 0,.int .i64 0,.int .i64 0,.string ⟨#[]⟩,.slice none 0 0]) 5 64 Tryz.underlying23 ji jz0 jz1 jz2 rfl (by decide) (.slice VA vn vc) vn xs (by simp[Act.eval]) HO.out ⟨W4.heap.size,0,none⟩ 1 1 [.int .i64 kd,.int .i64 nn,.int .i64 pl,.string (bs tx),.slice KK kn kc] (by simp[Act.eval]) rfl HBC.out (Si _ _ _ _ _ _ _) HM1.out HM2.out HM3.out ?_;intro v' w4 hown4 hgrow4 hfr4;obtain⟨VA',vc',rfl⟩:=jJ hown4;have HFR:=hid hfr4;clear hfr4;have hX4:Bx w4 g 96 [.slice A ts.length c,.int .i64 (s.nx:Int),.slice VA vn vc,.int .i64 (s.op:Int),.int .i64 (s.mo:Int)]:=(HX2.out.1.below (dW (Below.refl _ _)) HX2.out.1.lt).alloc _ |>.grown hgrow4 (λe=>by have:=(HO.out.lt g e.symm).1;omega);have d2:=(hX4.cell 2).trans rfl;have fd2:=hX4.frozen 2))
 all_goals
  rename_i K5 hk5;refine hk5 _ _ ?_;clear hk5;obtain⟨W6,hW6⟩:∃W6,w4.setCell ⟨g,2,none⟩ (.slice VA' (vn+1) vc')=W6:=⟨_,rfl⟩;have hX6:=hX4.set_ 2 (.slice VA' (vn+1) vc');simp only[List.set_cons_zero,List.set_cons_succ]at hX6;have HF:=hid (And.intro hgrow4 (And.intro hown4 (And.intro hX6 (And.intro hW6 hX4))));rw[hW6]at hX6 |-;have c6:=(hX6.cell 2).trans rfl;clear c2 n0 n1 n2 n3 n4 e2 d2 fd2 hX4 hX6 hW6 hown4 hgrow4;go_wp2
  all_goals
   obtain⟨hgrow4,hown4,hX6,hW6,hX4⟩:=HF.out;obtain⟨h,hownw,hcs,hK,hA,hkc⟩:=H0.out;obtain⟨hX2,hb2⟩:=HX2.out;obtain rfl:=HVN.out;obtain rfl:=HKN.out;exact bodyPost_ret (v :=.int .i64 (s.nd.length:Int)) (by simp[results,Tryz.f106,go_sem]) rfl (Kb h hownw hcs hK hkc hA hgb hb2 hgrow4 hown4 HFR.out hX6 hW6)
end
section
open Tr (Bx aa bt au aP ax aA)
theorem aj (x:List UInt8):(bs x).toList=x:=by rw[ByteArray.toList_eq,rf]
theorem uK {w:World}(x:List UInt8):Calls Tryz.prog 240 #[.string (bs x)] w (bP (.int .i64 (typeOf x:Int)) w):=by
 have H:=hid (aj x);generalize bs x=a at *
 go_enter Tryz.func240,Tryz.ntmps240
 go_wp2
 all_goals
  have ha:=H.out;simp only[ha,beq_iff_eq,beq_eq_false_iff_ne]at *
  go_ret
  refine⟨aP ?_,Below.refl _ _⟩;simp_all [typeOf,QH,M5,QI,QJ]
theorem Ed {w:World}(x:List UInt8):Calls Tryz.prog 254 #[.string (bs x)] w (bP (.int .i64 (rowOf x:Int)) w):=by
 have H:=hid (aj x);generalize bs x=a at *
 go_enter Tryz.func254,Tryz.ntmps254
 go_wp2
 all_goals
  have ha:=H.out;simp only[ha,beq_iff_eq,beq_eq_false_iff_ne]at *
  go_ret
  refine⟨aP ?_,Below.refl _ _⟩;simp_all [rowOf]
end
section
open Tr (Bx aa bt au aP ax aA)
theorem zn {w:World}{g c:Nat}{A:Option Addr}{ts:List Tok}{V:Value}{s:St}(h:Px w g A c ts V s)(hs:typeOf (ah ts s).s=0):Calls Tryz.prog 171 #[.pointer (some ⟨g,0,none⟩)] w (tF (ah ts s).p 2 w):=by
 have HC:=hid (f_ h);have HR:=hid (λw' (k:Below w.heap.size w w')=>jH 2 (h.below k));have HO:=hid (λw'=>uK (w:=w') (ah ts s).s);rw[hs]at HO;have hf:=bi (ah ts s);generalize (ah ts s).p=pp at *
 generalize aX (ah ts s)=v at *
 generalize bs (ah ts s).s=a at *
 clear h hs;go_enter Tryz.func171,Tryz.ntmps171
 go_wp2_with (first|(go_at_call 167;refine HC.out.mono ?_;rintro e w1 ⟨rfl,hb1⟩) |(go_at_call 240;refine(HO.out _).mono ?_;rintro e w2 ⟨rfl,hb2⟩) |(go_at_call 174;refine(HR.out _ (bt hb1 hb2)).mono ?_;rintro e w3 ⟨rfl,hb3⟩));exact⟨rfl,rfl,bt (bt hb1 hb2) hb3⟩
theorem xV {w:World}{g c:Nat}{A:Option Addr}{ts:List Tok}{V:Value}{s:St}(h:Px w g A c ts V s)(hs:typeOf (ah ts s).s≠0)(hn:s.nx+1<ts.length):Calls Tryz.prog 171 #[.pointer (some ⟨g,0,none⟩)] w (wJ g A c ts V (.int .i64 (typeOf (ah ts s).s:Int)) (ae s) w):=by
 have HC:=hid (f_ h);have HT:=hid (λw' (k:Below w.heap.size w w')=>rq (h.below k) hn);have HO:=hid (λw'=>uK (w:=w') (ah ts s).s);have hf:=bi (ah ts s);generalize typeOf (ah ts s).s=n at *
 have hs':¬((n:Int)=0):=by omega
 generalize aX (ah ts s)=v at *
 generalize bs (ah ts s).s=a at *
 clear h hs;go_enter Tryz.func171,Tryz.ntmps171
 go_wp2_with (first|(go_at_call 167;refine HC.out.mono ?_;rintro e w1 ⟨rfl,hb1⟩) |(go_at_call 240;refine(HO.out _).mono ?_;rintro e w2 ⟨rfl,hb2⟩) |(go_at_call 164;refine(HT.out _ (bt hb1 hb2)).mono ?_;rintro e w3 ⟨rfl,hX3,hF3⟩))
 all_goals
  first
  |omega
  |(go_ret;exact⟨rfl,hX3,(Fr.of (bt hb1 hb2)).trans hF3⟩)
end
def Nk (s:St)(k:Int)(r:Rs):Prop:=∀v s',r=.ok v s'->((s'.nd.length:Int)+s.nx+k<=s.nd.length+s'.nx/\s.nx<=s'.nx)/\(s.op<=40->s.mo<=40->s'.op<=40/\s'.mo<=40)
theorem Nk.bind {s:St}{k k2:Int}{r:Rs}{f:List Int->St->Rs}(h:Nk s k r)(q:∀v s',Nk s' k2 (f v s'))(k3:Int)(hk:k3<=k+k2):Nk s k3 (r.bind f):=λv s' e=>by
 obtain⟨v1,s1,e1,e2⟩:=Rs.bind_ok e;have a:=h v1 s1 e1;have b:=q v1 s1 v s' e2;exact⟨⟨by have:=a.1;have:=b.1;omega,by have:=a.1;have:=b.1;omega⟩,λh1 h2=>b.2 (a.2 h1 h2).1 (a.2 h1 h2).2⟩
theorem Nk.weak {s:St}{k k':Int}{r:Rs}(h:Nk s k r)(hk:k'<=k):Nk s k' r:=λv s' e=>⟨⟨by have:=(h v s' e).1;omega,(h v s' e).1.2⟩,(h v s' e).2⟩
theorem gH (s:St)(v:List Int):Nk s 0 (.ok v s):=λv s' e=>by injection e with _ e;subst e;exact⟨⟨by omega,Nat.le_refl _⟩,λh1 h2=>⟨h1,h2⟩⟩
theorem uL (s:St)(k:Int)(p e:Nat):Nk s k (.no p e):=λv s' e=>by cases e
theorem bY (s:St)(kd n pl:Int)(tx:List UInt8)(ks:List Int):Nk s (-1) (bv kd n pl tx ks s):=λv s' e=>by
 unfold bv at e;injection e with _ e;subst e
 exact⟨⟨by simp;omega,Nat.le_refl _⟩,λh1 h2=>⟨h1,h2⟩⟩
theorem dE {s:St}{k:Int}{r:Rs}(h:Nk (ae s) k r):Nk s (k+1) r:=λv s' e=>by
 have a:=h v s' e;have e1:(ae s).nd=s.nd:=rfl;have e2:(ae s).nx=s.nx+1:=rfl;rw[e1,e2]at a;exact⟨⟨by have:=a.1;omega,by have:=a.1;omega⟩,a.2⟩
section
variable (ts:List Tok) (s:St)
theorem kg (x:List UInt8):Nk s 1 (gI ts x s):=by
 unfold gI;split
 ·exact(dE (gH _ _)).weak (by omega)
 ·exact uL _ _ _ _
theorem lq:Nk s 1 (eU ts s):=by
 unfold eU;split
 ·exact(dE (gH _ _)).weak (by omega)
 ·exact uL _ _ _ _
theorem FZ:Nk s 0 (kZ ts s):=by
 unfold kZ;split
 ·exact gH _ _
 ·exact uL _ _ _ _
theorem qa (x:List UInt8):Nk s 1 (gL ts x s):=by
 unfold gL;split
 ·exact uL _ _ _ _
 ·rename_i q;intro v s' e;obtain⟨v1,s1,e1,e2⟩:=Rs.bind_ok e;have a:=kg ts s x v1 s1 e1;injection e2 with _ e2;subst e2
  have hs:sees ts x s=true/\s1.op=s.op:=by
   unfold gI at e1;split at e1
   ·rename_i q1;injection e1 with _ e1;subst e1;exact⟨q1,rfl⟩
   ·cases e1
  refine⟨⟨a.1.1,a.1.2⟩,λh1 h2 =>?_⟩;have b:=a.2 h1 h2;have:s.op≠40:=λh=>q ⟨hs.1,h⟩
  have:=hs.2;show s1.op+1<=40/\max s1.mo (s1.op+1)<=40;omega
theorem lI (x:List UInt8):Nk s 1 (jd ts x s):=by
 unfold jd;intro v s' e;obtain⟨v1,s1,e1,e2⟩:=Rs.bind_ok e;have a:=kg ts s x v1 s1 e1;injection e2 with _ e2;subst e2
 refine⟨⟨a.1.1,a.1.2⟩,λh1 h2 =>?_⟩;have b:=a.2 h1 h2;show s1.op-1<=40/\s1.mo<=40;omega
theorem Cx:Nk s 1 (iG ts s):=by
 unfold iG;simp only;split
 ·exact uL _ _ _ _
 ·exact(dE (gH _ _)).weak (by omega)
theorem ru (kd:Nat):Nk s 0 (gD ts kd s):=by
 unfold gD;simp only;exact(lq ts s).bind (λ_ s=>bY _ _ _ _ _ _) 0 (by omega)
theorem ry (kd:Nat)(pl:Int):Nk s 1 (d9 ts kd pl s):=by
 unfold d9;simp only;exact(lq ts s).bind (λ_ s=>(Cx ts s).bind (λ_ s=>bY _ _ _ _ _ _) 0 (by omega)) 1 (by omega)
theorem xW (kd:Nat):Nk s 1 (fO ts kd s):=by
 unfold fO;simp only;exact dE ((lq ts _).bind (λ_ s=>bY _ _ _ _ _ _) 0 (by omega))
theorem mi (v:List Int):Nk s 1 (bL ts v s):=by
 unfold bL;exact(kg ts s _).bind (λ_ s=>gH _ _) 1 (by omega)
theorem zo:Nk s 1 (iy ts s):=by unfold iy;exact ry ts s _ _
end
def F3 (rec:nM->St->Rs):Prop:=∀s,Nk s 0 (rec .una s)/\(∀r,Nk s 0 (rec (.bin r) s))/\(∀r l,Nk s 0 (rec (.loop r l) s))/\(∀a,Nk s 1 (rec (.exprs a) s))/\Nk s 0 (rec .stmt s)/\(∀p a,Nk s 0 (rec (.stmts p a) s))/\(∀k a,Nk s 0 (rec (.vars k a) s))/\(∀a,Nk s 1 (rec (.params a) s))/\∀a,Nk s 0 (rec (.procs a) s)
section
variable (ts:List Tok) {rec:nM->St->Rs} (hr:F3 rec) (s:St)
include hr
theorem d_:Nk s 0 (a_ rec s):=(hr s).2.1 1
theorem Bc:Nk s 2 (kN ts rec s):=by
 unfold kN;exact(qa ts s _).bind (λ_ s=>(d_ hr s).bind (λ_ s=>(lI ts s _).bind (λ_ s=>gH _ _) 1 (by omega)) 1 (by omega)) 2 (by omega)
theorem F6:Nk s 2 ((gL ts [40] s).bind λ_ s=>(a_ rec s).bind λv s=>(jd ts [41] s).bind λ_ s =>.ok v s):=
 (qa ts s _).bind (λ_ s=>(d_ hr s).bind (λ_ s=>(lI ts s _).bind (λ_ s=>gH _ _) 1 (by omega)) 1 (by omega)) 2 (by omega)
theorem Cy:Nk s 0 (gM ts rec s):=by
 unfold gM;simp only;refine(lq ts s).bind (λ_ s =>?_) 0 (k2 := -1) (by omega);split
 ·exact(Bc ts hr s).bind (λ_ s=>bY _ _ _ _ _ _) _ (by omega)
 ·exact bY _ _ _ _ _ _
theorem Cz:Nk s 0 (gN ts rec s):=by
 unfold gN;simp only;refine(qa ts s _).bind (λ_ s=>(hr s).1.bind (λ_ s =>?_) (-1) (k2 := -1) (by omega)) 0 (by omega);intro v s' e;have a:=bY _ _ _ _ _ _ v s' e;exact⟨a.1,λh1 h2=>a.2 (by show s.op-1<=40;omega) h2⟩
theorem kP:Nk s 0 (bg ts rec s):=by
 unfold bg;simp only;split
 ·exact Cy ts hr s
 split
 ·exact(dE (bY _ _ _ _ _ _)).weak (by omega)
 split
 ·exact Cz ts hr s
 split
 ·exact(dE (bY _ _ _ _ _ _)).weak (by omega)
 split
 ·exact(xW ts s _).weak (by omega)
 split
 ·exact(xW ts s _).weak (by omega)
 split
 ·exact(F6 ts hr s).weak (by omega)
 ·exact uL _ _ _ _
theorem NU (r:Nat):Nk s 0 (iF rec r s):=by
 unfold iF;split
 ·exact(hr s).1
 ·exact((hr s).2.1 _).bind (λ_ s=>(hr s).2.2.1 _ _) 0 (by omega)
theorem Ke (r:Nat)(l:List Int):Nk s 0 (iY ts rec r l s):=by
 unfold iY;simp only;split
 ·exact(dE (((hr _).2.1 _).bind (λ_ s=>(bY _ _ _ _ _ _).bind (λ_ s=>(hr s).2.2.1 _ _) (-1) (by omega)) (-1) (by omega))).weak (by omega)
 ·exact gH _ _
theorem F7 (a:List Int):Nk s 1 (eY ts rec a s):=by
 unfold eY;split
 ·exact(dE ((d_ hr _).bind (λ_ s=>(hr s).2.2.2.1 _) 1 (by omega))).weak (by omega)
 ·exact(lI ts s _).bind (λ_ s=>gH _ _) 1 (by omega)
theorem Kg:Nk s 2 (jk ts rec s):=by
 unfold jk;refine(qa ts s _).bind (λ_ s =>?_) 2 (k2:=1) (by omega);split
 ·exact(hr s).2.2.2.1 _
 ·exact(d_ hr s).bind (λ_ s=>(hr s).2.2.2.1 _) 1 (by omega)
theorem xX (tx:List UInt8)(pl:Int):Nk s 1 (gF ts rec tx pl s):=by
 unfold gF;exact(kg ts s _).bind (λ_ s=>(ru ts s _).bind (λ_ s=>(Kg ts hr s).bind (λ_ s=>bY _ _ _ _ _ _) 1 (by omega)) 1 (by omega)) 1 (by omega)
theorem mq:Nk s 1 (dm ts rec s):=by
 unfold dm;simp only;exact(qa ts s _).bind (λ_ s=>(hr s).2.2.2.2.2.1 _ _) 1 (by omega)
theorem F8 (pl:Int)(a:List Int):Nk s 0 (gu ts rec pl a s):=by
 unfold gu;split
 ·exact(lI ts s _).bind (λ_ s=>bY _ _ _ _ _ _) 0 (by omega)
 ·exact(hr s).2.2.2.2.1.bind (λ_ s=>(hr s).2.2.2.2.2.1 _ _) 0 (by omega)
theorem rz (t:Tok):Nk s (-1) (bJ ts rec t s):=by
 unfold bJ;simp only;split
 ·exact(dE ((ru ts _ _).bind (λ_ s=>bY _ _ _ _ _ _) (-1) (by omega))).weak (by omega)
 split
 ·exact(xX ts hr s _ _).weak (by omega)
 split
 ·exact(dE ((d_ hr _).bind (λ_ s=>bY _ _ _ _ _ _) (-1) (by omega))).weak (by omega)
 ·exact(d_ hr _).bind (λ_ s=>bY _ _ _ _ _ _) (-1) (by omega)
theorem zq:Nk s 0 (dZ ts rec s):=by
 unfold dZ;simp only;refine(lq ts s).bind (λ_ s =>?_) 0 (k2:=0) (by omega);split
 ·exact(Bc ts hr s).bind (λ_ s=>(kg ts s _).bind (λ_ s=>(d_ hr s).bind (λ_ s=>(bY _ _ _ _ _ _).bind (λ_ s=>mi ts s _) 0 (by omega)) 0 (by omega)) 0 (by omega)) 0 (by omega)
 ·exact(kg ts s _).bind (λ_ s=>(rz ts hr s _).bind (λ_ s=>mi ts s _) 0 (by omega)) 0 (by omega)
theorem CB:Nk s 0 (l_ ts rec s):=by
 unfold l_;simp only;exact(dE ((ru ts _ _).bind (λ_ s=>(d_ hr s).bind (λ_ s=>(bY _ _ _ _ _ _).bind (λ_ s=>mi ts s _) 0 (by omega)) 0 (by omega)) 0 (by omega))).weak (by omega)
theorem M7:Nk s 0 (wI ts rec s):=by
 unfold wI;simp only;refine(dE (k := -1) ((d_ hr _).bind (λ_ s=>(mq ts hr s).bind (λ_ s =>?_) (-1) (k2 := -2) (by omega)) (-1) (by omega))).weak (by omega);split
 ·exact(dE (k:=0) ((mq ts hr _).bind (λ_ s=>bY _ _ _ _ _ _) 0 (by omega))).weak (by omega)
 ·exact(bY _ _ _ _ _ _).bind (λ_ s=>bY _ _ _ _ _ _) _ (by omega)
theorem F9:Nk s 0 (iw ts rec s):=by
 unfold iw;simp only;exact(dE ((d_ hr _).bind (λ_ s=>(mq ts hr s).bind (λ_ s=>bY _ _ _ _ _ _) 0 (by omega)) 0 (by omega))).weak (by omega)
theorem wL:Nk s 0 (cO ts rec s):=by
 unfold cO;simp only;refine(dE (k := -1) ?_).weak (by omega);split
 ·exact bY _ _ _ _ _ _
 ·exact(d_ hr _).bind (λ_ s=>bY _ _ _ _ _ _) _ (by omega)
theorem F_:Nk s 0 (iP ts rec s):=by
 unfold iP;simp only;exact(dE (k := -1) ((d_ hr _).bind (λ_ s=>bY _ _ _ _ _ _) _ (by omega))).weak (by omega)
theorem Ga:Nk s 0 (ma ts rec s):=by
 unfold ma;simp only;exact(dE ((mq ts hr _).bind (λ_ s=>(kg ts s _).bind (λ_ s=>(lq ts s).bind (λ_ s=>(mq ts hr s).bind (λ_ s=>bY _ _ _ _ _ _) 0 (by omega)) 0 (by omega)) 0 (by omega)) 0 (by omega))).weak (by omega)
theorem jS:Nk s 0 (aO ts rec s):=by
 unfold aO;simp only;split
 ·exact zq ts hr s
 split
 ·exact CB ts hr s
 split
 ·exact M7 ts hr s
 split
 ·exact F9 ts hr s
 split
 ·exact(xX ts hr s _ _).bind (λ_ s=>mi ts s _) 0 (by omega)
 split
 ·exact(wL ts hr s).bind (λ_ s=>mi ts s _) 0 (by omega)
 split
 ·exact(F_ ts hr s).bind (λ_ s=>mi ts s _) 0 (by omega)
 split
 ·exact Ga ts hr s
 ·exact uL _ _ _ _
theorem Kh (k:Nat)(a:List Int):Nk s 0 (jC ts rec k a s):=by
 unfold jC;split
 ·exact(dE ((ry ts _ _ _).bind (λ_ s=>(kg ts s _).bind (λ_ s=>(hr s).2.2.2.2.2.2.1 _ _) 0 (by omega)) 0 (by omega))).weak (by omega)
 ·exact gH _ _
theorem Ee (a:List Int):Nk s 1 (dD ts rec a s):=by
 unfold dD;split
 ·exact(dE ((zo ts _).bind (λ_ s=>(hr s).2.2.2.2.2.2.2.1 _) 1 (by omega))).weak (by omega)
 ·exact(lI ts s _).bind (λ_ s=>gH _ _) 1 (by omega)
theorem Gb:Nk s 2 (gy ts rec s):=by
 unfold gy;refine(qa ts s _).bind (λ_ s =>?_) 2 (k2:=1) (by omega);split
 ·exact(hr s).2.2.2.2.2.2.2.1 _
 ·exact(zo ts s).bind (λ_ s=>(hr s).2.2.2.2.2.2.2.1 _) 1 (by omega)
theorem CE:Nk s 0 (jl ts rec s):=by
 unfold jl;simp only;refine(kg ts s _).bind (λ_ s=>(lq ts s).bind (λ_ s=>(Gb ts hr s).bind (λ_ s =>?_) 0 (k2 := -1) (by omega)) 0 (by omega)) 0 (by omega);refine Nk.bind (k:=0) ?_ (λ_ s=>(qa ts s _).bind (λ_ s=>((hr s).2.2.2.2.2.2.1 _ _).bind (λ_ s=>((hr s).2.2.2.2.2.1 _ _).bind (λ_ s=>bY _ _ _ _ _ _) (-1) (by omega)) (-1) (by omega)) (-1) (by omega)) _ (by omega);split
 ·exact gH _ _
 ·exact(Cx ts s).weak (by omega)
theorem Gc (a:List Int):Nk s 0 (gz ts rec a s):=by
 unfold gz;split
 ·exact(CE ts hr s).bind (λ_ s=>(hr s).2.2.2.2.2.2.2.2 _) 0 (by omega)
 ·exact gH _ _
theorem Ki:Nk s 0 (jm ts rec s):=by
 unfold jm;exact(d_ hr s).bind (λ_ s=>(FZ ts s).bind (λ_ s=>gH _ _) 0 (by omega)) 0 (by omega)
theorem Bd:Nk s (-1) (bT ts rec s):=by
 unfold bT;exact((hr s).2.2.2.2.2.2.1 _ _).bind (λ_ s=>((hr s).2.2.2.2.2.2.2.2 _).bind (λ_ s=>(FZ ts s).bind (λ_ s=>bY _ _ _ _ _ _) (-1) (by omega)) (-1) (by omega)) (-1) (by omega)
end
theorem ni (s:St)(k:Int):Nk s k .out:=λv s' e=>by cases e
theorem bQ (ts:List Tok):∀f,F3 (run ts f)
 |0=>λ_=>⟨ni _ _,λ_=>ni _ _,λ_ _=>ni _ _,λ_=>ni _ _,ni _ _,λ_ _=>ni _ _,λ_ _=>ni _ _,λ_=>ni _ _,λ_=>ni _ _⟩
 |f+1=>λs=>
  have hr:=bQ ts f
  ⟨kP ts hr s,NU hr s,Ke ts hr s,F7 ts hr s,jS ts hr s,F8 ts hr s,Kh ts hr s,Ee ts hr s,Gc ts hr s⟩
section
open Tr (Bx aa bt au aP ax aA)
theorem Fr.mono {E E':Nat->Prop}{w w':World}(h:Fr E w w')(k:∀b,E b->E' b):Fr E' w w':=⟨h.os,h.tape,h.output,h.size,λb hb hE=>h.block b hb (λe=>hE (k b e))⟩
theorem iI.fr {X:Nat->Prop}{w w':World}{base g:Nat}{V:Value}{nd:List Nd}{l:List Value}(h:iI w X base V nd)(k:Fr (λb=>b=g) w w')(hg:Bx w g 96 l)(hgb:g<base):iI w' X base V nd:=by
 obtain⟨xs,h1,h2⟩:=h;refine⟨xs,FX h1 k (λb e=>by omega),λj hj =>?_⟩;obtain⟨K,c,e,hk,hkc⟩:=h2 j hj;refine⟨K,c,e,hk.fr k (λb cs hb e =>?_),hkc⟩;subst e;have:=hb.symm.trans hg;simp at this
def PE (g:Nat)(V:Value)(b:Nat):Prop:=b=g\/V.ownBlock=some b
structure Fo (w w':World) (g:Nat) (V V':Value):Prop where
 fr:Fr (PE g V) w w'
 own:∀b,V'.ownBlock=some b->V.ownBlock=some b\/w.heap.size<=b
theorem Fo.refl (w:World)(g:Nat)(V:Value):Fo w w g V V:=⟨Fr.refl _ _,λ_ h =>.inl h⟩
theorem Fo.below {w w':World}{g:Nat}{V:Value}(h:Below w.heap.size w w'):Fo w w' g V V:=⟨Fr.of h,λ_ h =>.inl h⟩
theorem Fo.box {w w':World}{g:Nat}{V:Value}(h:Fr (λb=>b=g) w w'):Fo w w' g V V:=⟨h.mono (λ_ e =>.inl e),λ_ h =>.inl h⟩
theorem Fo.trans {a b c:World}{g:Nat}{V V1 V2:Value}(h:Fo a b g V V1)(k:Fo b c g V1 V2):Fo a c g V V2:=
 ⟨⟨k.fr.os.trans h.fr.os,k.fr.tape.trans h.fr.tape,k.fr.output.trans h.fr.output,Nat.le_trans h.fr.size k.fr.size,λi hi hE=>(k.fr.block i (Nat.lt_of_lt_of_le hi h.fr.size) (λe=>hE (e.elim .inl (λq=>(h.own i q).elim .inr (λq=>by omega))))).trans (h.fr.block i hi hE)⟩,
  λi hi=>(k.own i hi).elim (h.own i) (λq =>.inr (Nat.le_trans h.fr.size q))⟩
theorem Fo.bx {w w':World}{g b:Nat}{V V':Value}{t:TypeId}{l:List Value}(k:Fo w w' g V V')(h:Bx w b t l)(hg:b≠g)(hV:V.ownBlock≠some b):Bx w' b t l/\V'.ownBlock≠some b:=
 ⟨Bx.fr h k.fr (λe=>e.elim hg hV),λe=>(k.own b e).elim hV (λq=>by have:=h.lt;omega)⟩
structure Pz (X:Nat->Prop) (w:World) (base g:Nat) (A:Option Addr) (c:Nat) (ts:List Tok) (V:Value) (s:St):Prop where
 px:Px w g A c ts V s
 nd:iI w X base V s.nd
 hb:base<=w.heap.size
 gb:g<base
 hA:∀a,A=some a->a.block<base
 hn:s.nd.length<=s.nx
 h40:s.op<=40/\s.mo<=40
 ok:p9 ts
 hX:∀b,X b->b<w.heap.size
section
variable {X:Nat->Prop} {w w':World} {base g c:Nat} {A:Option Addr} {ts:List Tok} {V V':Value} {s s':St}
theorem Pz.move (h:Pz X w base g A c ts V s)(hF:Fr (λb=>b=g) w w')(hx:Px w' g A c ts V s')(hnd:s'.nd=s.nd)(hnx:s.nx<=s'.nx)(h40:s'.op<=40/\s'.mo<=40):Pz X w' base g A c ts V s':=
 ⟨hx,by rw[hnd];exact h.nd.fr hF h.px.box h.gb,Nat.le_trans h.hb hF.size,h.gb,h.hA,by rw[hnd];exact Nat.le_trans h.hn hnx,h40,h.ok,λb hb=>Nat.lt_of_lt_of_le (h.hX b hb) hF.size⟩
theorem Pz.below (h:Pz X w base g A c ts V s)(hb:Below w.heap.size w w'):Pz X w' base g A c ts V s:=h.move (Fr.of hb) (h.px.below hb) rfl (Nat.le_refl _) h.h40
theorem Pz.lt (h:Pz X w base g A c ts V s):g<w.heap.size:=Nat.lt_of_lt_of_le h.gb h.hb
theorem Pz.own (h:Pz X w base g A c ts V s):V.ownBlock≠some w.heap.size:=λe=>by
 obtain⟨xs,ho,_⟩:=h.nd;have:=(ho.lt _ e).2;omega
theorem Pz.new (h:Pz X w base g A c ts V s):w.heap.size≠g/\V.ownBlock≠some w.heap.size:=⟨by have:=h.lt;omega,h.own⟩
theorem Pz.len (h:Pz X w base g A c ts V s):s.nx<ts.length/\ts.length<=100000:=⟨h.px.nx,h.px.len⟩
def NP (g:Nat)(V:Value)(w:World)(R:Rs)(e:Ending)(w':World):Prop:=∃p er,R=.no p er/\e=.panicked [{v:=Ea p (er:Int),recovered:=false}]/\Fr (PE g V) w w'
def zt (X:Nat->Prop)(base g:Nat)(A:Option Addr)(c:Nat)(ts:List Tok)(V v:Value)(w:World)(R:Rs)(e:Ending)(w':World):Prop:=
 NP g V w R e w'\/∃s',R=.ok [] s'/\e=.returned v/\Pz X w' base g A c ts V s'/\Fo w w' g V V
def aM (X:Nat->Prop)(base g:Nat)(A:Option Addr)(c:Nat)(ts:List Tok)(V:Value)(w:World)(R:Rs)(e:Ending)(w':World):Prop:=
 NP g V w R e w'\/∃x s' V',R=.ok [x] s'/\e=.returned (.int .i64 x)/\Pz X w' base g A c ts V' s'/\Fo w w' g V V'
theorem NP.of {p q:Nat}{er:Int}{e:Ending}{R:Rs}(h:tF p er w e w')(hq:er=(q:Int))(hR:R=.no p q):NP g V w R e w':=⟨p,q,hR,by rw[<- hq];exact h.1,Fr.of h.2⟩
theorem Rs.step {R r:Rs}{f:List Int->St->Rs}{v:List Int}{s':St}(HR:R=r.bind f)(hr:r=.ok v s'):R=f v s':=by rw[HR,hr];rfl
theorem Rs.step_no {R r:Rs}{f:List Int->St->Rs}{p e:Nat}(HR:R=r.bind f)(hr:r=.no p e):R=.no p e:=by rw[HR,hr];rfl
theorem Rs.step_in {R r:Rs}{f:List Int->St->Rs}(HR:R=r.bind f)(hne:R ≠ .out):r ≠ .out:=Rs.bind_in (f:=f) (by rw[<- HR];exact hne)
theorem bO (h:Pz X w base g A c ts V s):Calls Tryz.prog 167 #[.pointer (some ⟨g,0,none⟩)] w (bP (aX (ah ts s)) w):=f_ h.px
theorem iQ (h:Pz X w base g A c ts V s)(x:List UInt8):Calls Tryz.prog 103 #[.pointer (some ⟨g,0,none⟩),.string (bs x)] w (bP (.bool (sees ts x s)) w):=mh x h.px
def wM (X:Nat->Prop)(base g:Nat)(A:Option Addr)(c:Nat)(ts:List Tok)(V v:Value)(s':St)(w:World)(e:Ending)(w':World):Prop:=e=.returned v/\Pz X w' base g A c ts V s'/\Fo w w' g V V
theorem gB (h:Pz X w base g A c ts V s)(hs:(ah ts s).k≠5\/(ah ts s).s≠[]):Calls Tryz.prog 164 #[.pointer (some ⟨g,0,none⟩)] w (wM X base g A c ts V (aX (ah ts s)) (ae s) w):=by
 have hn:s.nx+1<ts.length:=hs.elim (h.ok.moreK h.px.nx) (h.ok.more h.px.nx);exact(rq h.px hn).mono λe w' ⟨he,hx,hF⟩=>⟨he,h.move hF hx rfl (Nat.le_succ _) h.h40,Fo.box hF⟩
theorem kQ (h:Pz X w base g A c ts V s)(x:List UInt8)(hx:x≠[]):Calls Tryz.prog 166 #[.pointer (some ⟨g,0,none⟩),.string (bs x)] w (zt X base g A c ts V (aX (ah ts s)) w (gI ts x s)):=by
 cases hs:sees ts x s with
 |false=>exact(sI x h.px hs).mono λe w' q =>.inl (NP.of q (q:=2) rfl (by unfold gI;rw[hs];rfl))
 |true=>
  have e1:(ah ts s).s=x:=by simpa [sees]using hs
  exact(p_ x h.px hs (h.ok.more h.px.nx (by rw[e1];exact hx))).mono λe w' ⟨he,hx,hF⟩ =>.inr ⟨ae s,by unfold gI;rw[if_pos hs],he,h.move hF hx rfl (Nat.le_succ _) h.h40,Fo.box hF⟩
theorem qc (h:Pz X w base g A c ts V s):Calls Tryz.prog 168 #[.pointer (some ⟨g,0,none⟩)] w (zt X base g A c ts V (aX (ah ts s)) w (eU ts s)):=by
 by_cases hs:(ah ts s).k=1
 ·exact(FU h.px hs (h.ok.moreK h.px.nx (by rw[hs];decide))).mono λe w' ⟨he,hx,hF⟩ =>.inr ⟨ae s,by unfold eU;rw[if_pos hs],he,h.move hF hx rfl (Nat.le_succ _) h.h40,Fo.box hF⟩
 ·exact(J_ h.px hs).mono λe w' q =>.inl (NP.of q (q:=2) rfl (by unfold eU;rw[if_neg hs]))
theorem M8 (h:Pz X w base g A c ts V s):Calls Tryz.prog 105 #[.pointer (some ⟨g,0,none⟩)] w (zt X base g A c ts V (.tuple #[]) w (kZ ts s)):=by
 by_cases hs:(ah ts s).k=5
 ·exact(Ka h.px hs).mono λe w' ⟨he,hb⟩ =>.inr ⟨s,by unfold kZ;rw[if_pos hs],he,h.below hb,Fo.below hb⟩
 ·exact(NS h.px hs).mono λe w' q =>.inl (NP.of q (q:=2) rfl (by unfold kZ;rw[if_neg hs]))
theorem lu (h:Pz X w base g A c ts V s)(x:List UInt8)(hx:x≠[]):Calls Tryz.prog 172 #[.pointer (some ⟨g,0,none⟩),.string (bs x)] w (zt X base g A c ts V (aX (ah ts s)) w (gL ts x s)):=by
 cases hs:sees ts x s with
 |false=>exact(FV x h.px hs).mono λe w' q =>.inl (NP.of q (q:=2) rfl (by unfold gL gI;rw[hs];rfl))
 |true=>
  by_cases ho:s.op=40
  ·exact(Ba x h.px hs ho).mono λe w' q =>.inl (NP.of q (q:=6) rfl (by unfold gL;rw[if_pos ⟨hs,ho⟩]))
  ·have e1:(ah ts s).s=x:=by simpa [sees]using hs
   have h40:=h.h40;exact(Ec x h.px hs (h.ok.more h.px.nx (by rw[e1];exact hx)) (by omega) h40.2).mono λe w' ⟨he,hx,hF⟩ =>.inr ⟨_,by unfold gL gI;rw[if_neg (λq=>ho q.2),if_pos hs];rfl,he,h.move hF hx rfl (Nat.le_succ _) (by show s.op+1<=40/\max s.mo (s.op+1)<=40;omega),Fo.box hF⟩
theorem kR (h:Pz X w base g A c ts V s)(x:List UInt8)(hx:x≠[])(ho:1<=s.op):Calls Tryz.prog 239 #[.pointer (some ⟨g,0,none⟩),.string (bs x)] w (zt X base g A c ts V (.tuple #[]) w (jd ts x s)):=by
 cases hs:sees ts x s with
 |false=>exact(Eb x h.px hs).mono λe w' q =>.inl (NP.of q (q:=2) rfl (by unfold jd gI;rw[hs];rfl))
 |true=>
  have e1:(ah ts s).s=x:=by simpa [sees]using hs
  have h40:=h.h40;exact(Bb x h.px hs (h.ok.more h.px.nx (by rw[e1];exact hx)) ho).mono λe w' ⟨he,hx,hF⟩ =>.inr ⟨_,by unfold jd gI;rw[if_pos hs];rfl,he,h.move hF hx rfl (Nat.le_succ _) (by show s.op-1<=40/\s.mo<=40;omega),Fo.box hF⟩
theorem uM (h:Pz X w base g A c ts V s):Calls Tryz.prog 171 #[.pointer (some ⟨g,0,none⟩)] w (aM X base g A c ts V w (iG ts s)):=by
 by_cases hs:typeOf (ah ts s).s=0
 ·exact(zn h.px hs).mono λe w' q =>.inl (NP.of q (q:=2) rfl (by unfold iG;simp only;rw[if_pos hs]))
 ·exact(xV h.px hs (h.ok.more h.px.nx (λe=>hs (by rw[e];decide)))).mono λe w' ⟨he,hx,hF⟩ =>.inr ⟨_,ae s,V,by unfold iG;simp only;rw[if_neg hs],he,h.move hF hx rfl (Nat.le_succ _) h.h40,Fo.box hF⟩
theorem zu (h:Pz X w base g A c ts V s)(er:Int):Calls Tryz.prog 174 #[.pointer (some ⟨g,0,none⟩),.int .i64 er] w (bP (.agg #[.int .i64 ((ah ts s).p:Int),.int .i64 er]) w):=jH er h.px
theorem uN (hX:∀b,X b->b<w.heap.size)(ks:List Int):Kd (w.alloc (.cells (ks.map (Value.int .i64)).toArray 3)) X (some ⟨w.heap.size,0,none⟩) ks:=λh0=>
 ⟨w.heap.size,_,rfl,World.alloc_heap_new _ _,λj hj=>by simp[hj],λq=>by have:=hX _ q;omega⟩
theorem nX (w:World)(K:Option Addr):Kd w X K []:=λh0=>absurd h0 (by simp)
theorem mr (h:Pz X w base g A c ts V s)(kd nn pl:Int)(tx:List UInt8)(K0 KK:Option Addr)(n0 c0 kn kc:Nat)(ks:List Int)(hK:Kd w X KK ks)(hkn:kn=ks.length/\kn<=kc){s0:St}{R:Rs}(HR:R=.ok [(s.nd.length:Int)] {s with nd:=s.nd++[⟨kd,nn,pl,tx,ks⟩]})(hk:Nk s0 0 R)(h0:s0.nd.length<=s0.nx) :
  Calls Tryz.prog 106 #[.pointer (some ⟨g,0,none⟩),.agg #[.int .i64 kd,.int .i64 nn,.int .i64 pl,.string (bs tx),.slice K0 n0 c0],.slice KK kn kc] w (aM X base g A c ts V w R):=by
 have hl:=h.px.len;have hx:=h.px.nx;have hn:=h.hn;have hq:=(hk _ _ HR).1.1;refine(xU h.px h.nd kd nn pl tx K0 KK n0 c0 kn kc ks hK hkn h.hb h.gb h.hA (by omega)).mono ?_;rintro e w' ⟨V',rfl,hX,hN,hF,hO⟩;refine .inr ⟨_,_,V',HR,rfl,⟨hX,hN,Nat.le_trans h.hb hF.size,h.gb,h.hA,?_,h.h40,h.ok,λb hb=>Nat.lt_of_lt_of_le (h.hX b hb) hF.size⟩,⟨hF,hO⟩⟩;simp only[List.length_append,List.length_cons,List.length_nil]at hq |-;omega
theorem aM.after {w0 w1:World}{V0 V1:Value}{R:Rs}{e:Ending}(f:Fo w0 w1 g V0 V1)(h:aM X base g A c ts V1 w1 R e w'):aM X base g A c ts V0 w0 R e w':=by
 rcases h with⟨p,er,hr,he,hF⟩ |⟨x,s',V',hr,he,hz,hF⟩
 ·exact .inl ⟨p,er,hr,he,(f.trans ⟨hF,λ_ h =>.inl h⟩).fr⟩
 ·exact .inr ⟨x,s',V',hr,he,hz,f.trans hF⟩
theorem ai {w0 w1:World}{V0 V1:Value}{R:Rs}{p er:Nat}(f:Fo w0 w1 g V0 V1)(hr:R=.no p er)(hF:Fr (PE g V1) w1 w'):NP g V0 w0 R (.panicked [{v:=Ea p (er:Int),recovered:=false}]) w':=⟨p,er,hr,rfl,(f.trans ⟨hF,λ_ h =>.inl h⟩).fr⟩
end
end
section
open Tr (Bx aa bt au aP ax aA)
theorem sJ {X:Nat->Prop}{w:World}{base g c:Nat}{A:Option Addr}{ts:List Tok}{V:Value}{s:St}(h:Pz X w base g A c ts V s)(kd nn pl:Int)(tx:List UInt8)(K0:Option Addr)(n0 c0:Nat)(x1:Int){s0:St}{R:Rs}(HR:R=.ok [(s.nd.length:Int)] {s with nd:=s.nd++[⟨kd,nn,pl,tx,[x1]⟩]})(hk:Nk s0 0 R)(h0:s0.nd.length<=s0.nx) :
  Calls Tryz.prog 106 #[.pointer (some ⟨g,0,none⟩),.agg #[.int .i64 kd,.int .i64 nn,.int .i64 pl,.string (bs tx),.slice K0 n0 c0],.slice (some ⟨w.heap.size,0,none⟩) 1 1] (w.alloc (.cells #[.int .i64 x1] 3)) (aM X base g A c ts V w R):=
 (mr (h.below (aa w (.cells #[.int .i64 x1] 3))) kd nn pl tx K0 (some ⟨w.heap.size,0,none⟩) n0 c0 1 1 [x1] (uN h.hX [x1]) ⟨rfl,Nat.le_refl _⟩ HR hk h0).mono λ_ _ q=>q.after (Fo.below (aa _ _))
theorem Gd {X:Nat->Prop}{w:World}{base g c:Nat}{A:Option Addr}{ts:List Tok}{V:Value}{s:St}(h:Pz X w base g A c ts V s)(kd nn pl:Int)(tx:List UInt8)(K0:Option Addr)(n0 c0:Nat)(x1 x2:Int){s0:St}{R:Rs}(HR:R=.ok [(s.nd.length:Int)] {s with nd:=s.nd++[⟨kd,nn,pl,tx,[x1,x2]⟩]})(hk:Nk s0 0 R)(h0:s0.nd.length<=s0.nx) :
  Calls Tryz.prog 106 #[.pointer (some ⟨g,0,none⟩),.agg #[.int .i64 kd,.int .i64 nn,.int .i64 pl,.string (bs tx),.slice K0 n0 c0],.slice (some ⟨w.heap.size,0,none⟩) 2 2] (w.alloc (.cells #[.int .i64 x1,.int .i64 x2] 3)) (aM X base g A c ts V w R):=
 (mr (h.below (aa w (.cells #[.int .i64 x1,.int .i64 x2] 3))) kd nn pl tx K0 (some ⟨w.heap.size,0,none⟩) n0 c0 2 2 [x1,x2] (uN h.hX [x1,x2]) ⟨rfl,Nat.le_refl _⟩ HR hk h0).mono λ_ _ q=>q.after (Fo.below (aa _ _))
theorem NV {X:Nat->Prop}{w:World}{base g c:Nat}{A:Option Addr}{ts:List Tok}{V:Value}{s:St}(h:Pz X w base g A c ts V s)(kd nn pl:Int)(tx:List UInt8)(K0:Option Addr)(n0 c0:Nat)(x1 x2 x3:Int){s0:St}{R:Rs}(HR:R=.ok [(s.nd.length:Int)] {s with nd:=s.nd++[⟨kd,nn,pl,tx,[x1,x2,x3]⟩]})(hk:Nk s0 0 R)(h0:s0.nd.length<=s0.nx) :
  Calls Tryz.prog 106 #[.pointer (some ⟨g,0,none⟩),.agg #[.int .i64 kd,.int .i64 nn,.int .i64 pl,.string (bs tx),.slice K0 n0 c0],.slice (some ⟨w.heap.size,0,none⟩) 3 3] (w.alloc (.cells #[.int .i64 x1,.int .i64 x2,.int .i64 x3] 3)) (aM X base g A c ts V w R):=
 (mr (h.below (aa w (.cells #[.int .i64 x1,.int .i64 x2,.int .i64 x3] 3))) kd nn pl tx K0 (some ⟨w.heap.size,0,none⟩) n0 c0 3 3 [x1,x2,x3] (uN h.hX [x1,x2,x3]) ⟨rfl,Nat.le_refl _⟩ HR hk h0).mono λ_ _ q=>q.after (Fo.below (aa _ _))
theorem Be {X:Nat->Prop}{w:World}{base g c:Nat}{A:Option Addr}{ts:List Tok}{V:Value}{s:St}(h:Pz X w base g A c ts V s)(kd:Nat):Calls Tryz.prog 300 #[.pointer (some ⟨g,0,none⟩),.int .i64 (kd:Int)] w (aM X base g A c ts V w (gD ts kd s)):=by
 have hk:Nk s 0 (gD ts kd s):=ru ts s kd;obtain⟨R,HR⟩:∃R,R=gD ts kd s:=⟨_,rfl⟩;rw[<- HR]at hk |-;unfold gD at HR;dsimp only at HR;have HC:=hid (qc h);generalize ah ts s=t at *
 have HK:=hid (And.intro HR (And.intro hk h.hn));clear HR hk h;unfold aX at *
 go_enter Tryz.func300,Tryz.ntmps300
 go_wp2_with (go_at_call 168;refine(HC.out).mono ?_;rintro e w1 (⟨p,er,hr,rfl,hF⟩ |⟨s1,hr,rfl,hz,hF⟩)<;>replace hr:=hid hr)
 ·exact⟨rfl,.inl ⟨p,er,Rs.step_no HK.out.1 hr.out,rfl,hF⟩⟩
 ·have HR1:=Rs.step HK.out.1 hr.out;obtain⟨W2,hW2⟩:∃W2,w1.alloc (.cells #[.int .i64 (t.k:Int),.int .i64 t.n,.int .i64 (t.p:Int),.string (bs t.s)] 105)=W2:=⟨_,rfl⟩;rw[hW2];have hb2:Below w1.heap.size w1 W2:=by rw[<- hW2];exact aa _ _
  have hT:Bx W2 w1.heap.size 105 [.int .i64 (t.k:Int),.int .i64 t.n,.int .i64 (t.p:Int),.string (bs t.s)]:=by rw[<- hW2];exact Bx.new w1 105 _
  have hz2:=hz.below hb2;have HA:=hid (mr hz2 (kd:Int) 0 (t.p:Int) t.s none none 0 0 0 0 [] (nX _ _) ⟨rfl,Nat.le_refl _⟩ HR1 HK.out.2.1 HK.out.2.2);have HF:=hid (hF.trans (Fo.below (V:=V) hb2));have t2:=(hT.cell 2).trans rfl;have t3:=(hT.cell 3).trans rfl;clear hz hF hr HR1 hz2 hT hb2 HC HK;go_wp2_with (go_at_call 106;refine(HA.out).mono ?_;rintro e w3 (⟨p,er,hr,rfl,hF⟩ |⟨x,s3,V3,hr,rfl,hz,hF⟩)<;>replace hr:=hid hr)
  ·exact⟨rfl,.inl (ai HF.out hr.out hF)⟩
  ·go_ret
   exact .inr ⟨x,s3,V3,hr.out,rfl,hz,HF.out.trans hF⟩
theorem Gf {X:Nat->Prop}{w:World}{base g c:Nat}{A:Option Addr}{ts:List Tok}{V:Value}{s:St}(h:Pz X w base g A c ts V s)(kd:Nat)(hs:(ah ts s).s≠[]):Calls Tryz.prog 294 #[.pointer (some ⟨g,0,none⟩),.int .i64 (kd:Int)] w (aM X base g A c ts V w (fO ts kd s)):=by
 have hk:Nk s 0 (fO ts kd s):=(xW ts s kd).weak (by omega);obtain⟨R,HR⟩:∃R,R=fO ts kd s:=⟨_,rfl⟩;rw[<- HR]at hk |-;unfold fO at HR;dsimp only at HR;have HT:=hid (gB h (.inr hs));have hf:=bH (ah ts s);have hf2:=bi (ah ts (ae s));have HC:=hid (λw' (q:Pz X w' base g A c ts V (ae s))=>qc q);have HK:=hid (And.intro HR (And.intro hk h.hn));have HA:=hid (λ(w':World) (s2:St) (q:Pz X w' base g A c ts V s2) (hr:eU ts (ae s)=.ok [] s2)=>mr q (kd:Int) 0 ((ah ts s).p:Int) (ah ts (ae s)).s none none 0 0 0 0 [] (nX _ _) ⟨rfl,Nat.le_refl _⟩ (Rs.step HR hr :) hk h.hn);generalize aX (ah ts (ae s))=v2 at *
 generalize aX (ah ts s)=v at *
 generalize (ah ts (ae s)).s=a at *
 generalize ((ah ts s).p:Int)=p0 at *
 clear hs HR hk h;go_enter Tryz.func294,Tryz.ntmps294
 go_wp2_with (first|(go_at_call 164;refine HT.out.mono ?_;rintro e w1 ⟨rfl,hz1,hF1⟩) |(go_at_call 168;refine(HC.out _ hz1).mono ?_;rintro e w2 (⟨p,er,hr,rfl,hF⟩ |⟨s2,hr,rfl,hz2,hF2⟩)<;>replace hr:=hid hr) |(go_at_call 106;refine(HA.out _ _ hz2 hr.out).mono ?_;rintro e w3 (⟨p,er,hr,rfl,hF⟩ |⟨x,s3,V3,hr,rfl,hz3,hF3⟩)<;>replace hr:=hid hr))
 ·exact⟨rfl,.inl (ai hF1 (Rs.step_no HK.out.1 hr.out) hF)⟩
 ·exact⟨rfl,.inl (ai (hF1.trans hF2) hr.out hF)⟩
 ·go_ret
  exact .inr ⟨x,s3,V3,hr.out,rfl,hz3,(hF1.trans hF2).trans hF3⟩
theorem CF {X:Nat->Prop}{w:World}{base g c:Nat}{A:Option Addr}{ts:List Tok}{V:Value}{s:St}(h:Pz X w base g A c ts V s)(kd:Nat)(pl:Int):Calls Tryz.prog 165 #[.pointer (some ⟨g,0,none⟩),.int .i64 (kd:Int),.int .i64 pl] w (aM X base g A c ts V w (d9 ts kd pl s)):=by
 have hk:Nk s 0 (d9 ts kd pl s):=(ry ts s kd pl).weak (by omega);obtain⟨R,HR⟩:∃R,R=d9 ts kd pl s:=⟨_,rfl⟩;rw[<- HR]at hk |-;unfold d9 at HR;dsimp only at HR;have HT:=hid (qc h);have hf:=bi (ah ts s);have HC:=hid (λw' s' (q:Pz X w' base g A c ts V s')=>uM q);have HK:=hid (And.intro HR (And.intro hk h.hn));have HA:=hid (λ(w':World) (V':Value) (x:Int) (s1 s2:St) (q:Pz X w' base g A c ts V' s2) (hr1:eU ts s=.ok [] s1) (hr:iG ts s1=.ok [x] s2)=>mr q (kd:Int) x pl (ah ts s).s none none 0 0 0 0 [] (nX _ _) ⟨rfl,Nat.le_refl _⟩ (Rs.step (Rs.step HR hr1) hr :) hk h.hn);generalize aX (ah ts s)=v at *
 generalize (ah ts s).s=a at *
 clear HR hk h;go_enter Tryz.func165,Tryz.ntmps165
 go_wp2_with (first|(go_at_call 168;refine(HT.out).mono ?_;rintro e w1 (⟨p,er,hr,rfl,hF⟩ |⟨s1,hr1,rfl,hz1,hF1⟩)<;>first|replace hr:=hid hr |replace hr1:=hid hr1) |(go_at_call 171;refine(HC.out _ _ hz1).mono ?_;rintro e w2 (⟨p,er,hr,rfl,hF⟩ |⟨n,s2,V2,hr2,rfl,hz2,hF2⟩)<;>first|replace hr:=hid hr |replace hr2:=hid hr2) |(go_at_call 106;refine(HA.out _ _ _ _ _ hz2 hr1.out hr2.out).mono ?_;rintro e w3 (⟨p,er,hr,rfl,hF⟩ |⟨x,s3,V3,hr,rfl,hz3,hF3⟩)<;>replace hr:=hid hr))
 ·exact⟨rfl,.inl ⟨p,er,Rs.step_no HK.out.1 hr.out,rfl,hF⟩⟩
 ·exact⟨rfl,.inl (ai hF1 (Rs.step_no (Rs.step HK.out.1 hr1.out) hr.out) hF)⟩
 ·exact⟨rfl,.inl (ai (hF1.trans hF2) hr.out hF)⟩
 ·go_ret
  exact .inr ⟨x,s3,V3,hr.out,rfl,hz3,(hF1.trans hF2).trans hF3⟩
theorem xY {X:Nat->Prop}{w:World}{base g c:Nat}{A:Option Addr}{ts:List Tok}{V:Value}{s:St}(h:Pz X w base g A c ts V s):Calls Tryz.prog 170 #[.pointer (some ⟨g,0,none⟩)] w (aM X base g A c ts V w (iy ts s)):=by
 have HT:=hid (bO h);have hf:=bH (ah ts s);have HC:=hid (λw' (q:Below w.heap.size w w')=>CF (h.below q) 4 ((ah ts s).p:Int));obtain⟨R,HR⟩:∃R,R=iy ts s:=⟨_,rfl⟩;rw[<- HR];unfold iy at HR;rw[<- HR]at HC;generalize aX (ah ts s)=v at *
 generalize ((ah ts s).p:Int)=p0 at *
 clear h HR;go_enter Tryz.func170,Tryz.ntmps170
 go_wp2_with (first|(go_at_call 167;refine HT.out.mono ?_;rintro e w1 ⟨rfl,hb1⟩) |(go_at_call 165;refine(HC.out _ hb1).mono ?_;rintro e w3 (⟨p,er,hr,rfl,hF⟩ |⟨x,s3,V3,hr,rfl,hz3,hF3⟩)<;>replace hr:=hid hr))
 ·exact⟨rfl,.inl (ai (Fo.below hb1) hr.out hF)⟩
 ·go_ret
  exact .inr ⟨x,s3,V3,hr.out,rfl,hz3,(Fo.below hb1).trans hF3⟩
end
end Go.Proofs.YteecfjhjllajlaaGreatDoor
