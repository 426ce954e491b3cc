/- PROVED here: parts N07 of the claim. No condition but those in each theorem's own head. -/
import Derived.Test.YtedkgofehbecmaaGreatDoorU06
import Derived.Deep.RegionLaw
namespace Go.Proofs.YtedkgofehbecmaaGreatDoor
open Go.Lib (hid)
open Go Go.RowKit
open Tr (Bx heap1 bt gen_world ret_int ret_bool cell_same info24)
section
variable {ops:Array Oper} {Q:Exit->Act->World->Prop} {S:World->Prop} {fuel:Nat} {listed:Array Bool} {a:Act} {w:World} {o:Oper}
theorem h_pure (i:Nat)(o:Oper)(v:Value)(hs:Region.noSelect ops=true)(hi:ops[i]?=some o)(hf:Region.free .any ops listed i=true)(hr:(Region.ready .any ops listed).contains i=true)
  (hQ:∀c a w,Q (.panic c) (a.put o.dst v) w->Q (.panic c) a w) (hw:Region.wanted o (yielded ops a.tmps)=true) (hy:∀w,S w->(execOp a.eval o).run Tryz.prog w = .ok (.value v) w) (hS:S w)
  (h:wpAnyH Tryz.prog .any ops Q S fuel (listed.setIfInBounds i true) (a.put o.dst v) w):wpAnyH Tryz.prog .any ops Q S (fuel+1) listed a w:=
 wpAnyH_take hi hs hf hr hQ (.inl ⟨hw,hy⟩) hS h
theorem hpu (i:Nat)(v:Value){o:Oper}{t:Tmp}(hc:(Region.noSelect ops&&(Region.free .any ops listed i&&(Region.ready .any ops listed).contains i))=true)(hi:ops[i]?=some o)(hd:o.dst=some t)
  (hQ:∀c a w,Q (.panic c) (a.put (some t) v) w->Q (.panic c) a w) (hw:Region.wanted o (yielded ops a.tmps)=true) (hy:∀w,S w->(execOp a.eval o).run Tryz.prog w = .ok (.value v) w) (hS:S w)
  (h:wpAnyH Tryz.prog .any ops Q S fuel (listed.setIfInBounds i true) (a.put (some t) v) w):wpAnyH Tryz.prog .any ops Q S (fuel+1) listed a w:=by
 simp only[Bool.and_eq_true]at hc
 rw[<- hd]at hQ h
 exact h_pure i o v hc.1 hi hc.2.1 hc.2.2 hQ hw hy hS h
theorem h_one (i:Nat)(o:Oper)(hi:ops[i]?=some o)(hr:Region.ready .any ops listed=[i])(hw:Region.wanted o (yielded ops a.tmps)=true)
  (h:o.wp Tryz.prog a w (λa' w'=>S w'/\wpAnyH Tryz.prog .any ops Q S fuel (listed.setIfInBounds i true) a' w') Q):wpAnyH Tryz.prog .any ops Q S (fuel+1) listed a w:=
 wpAnyH_all hr (by simp) λj hj=>by
  obtain rfl:j=i:=by simpa using hj
  unfold wpOp
  simp only[hi,hw,if_true]
  exact .inl h
theorem y_move {x:Operand}{v:Value}(ho:o.op = .move x)(hx:a.eval x=v):∀w,S w->(execOp a.eval o).run Tryz.prog w = .ok (.value v) w:=λw _=>by unfold execOp;simp only[ho,hx,Sem.run_pure]
theorem y_bin {op:BinOp}{t:TypeId}{x y:Operand}{u v r:Value}(ho:o.op = .binOp op t x y t)(hx:a.eval x=u)(hy:a.eval y=v)
  (hg:∀w,(eqGuard op t x y u v).run Tryz.prog w = .ok () w) (hr:∀w,(binOp op t u v).run Tryz.prog w = .ok r w):∀w,S w->(execOp a.eval o).run Tryz.prog w = .ok (.value r) w:=λw _=>by
 unfold execOp;simp only[ho,hx,hy,Sem.run_bind,hg,hr,Sem.run_pure,Result.andThen_ok]
theorem y_load {t:TypeId}{x:Operand}{ad:Addr}{v:Value}(ho:o.op = .load t x)(hx:a.eval x = .pointer (some ad))(hl:∀w,S w->(Instr.loadAt t (.pointer (some ad))).run Tryz.prog w = .ok v w):∀w,S w->(execOp a.eval o).run Tryz.prog w = .ok (.value v) w:=λw hS=>by
 unfold execOp;simp only[ho,hx,Sem.run_bind,hl w hS,Sem.run_pure,Result.andThen_ok]
theorem y_field {t:TypeId}{k:Nat}{x:Operand}{ad ad':Addr}(ho:o.op = .fieldAddr t x k)(hx:a.eval x = .pointer (some ad))(hl:∀w,(Instr.fieldAt t (.pointer (some ad)) k).run Tryz.prog w = .ok (.pointer (some ad')) w):∀w,S w->(execOp a.eval o).run Tryz.prog w = .ok (.value (.pointer (some ad'))) w:=λw _=>by
 unfold execOp;simp only[ho,hx,Sem.run_bind,hl w,Sem.run_pure,Result.andThen_ok]
theorem y_index {t:TypeId}{x y:Operand}{u v r:Value}(ho:o.op = .indexAddr t x y)(hx:a.eval x=u)(hy:a.eval y=v)(hl:∀w,(Instr.indexAt t u v).run Tryz.prog w = .ok r w):∀w,S w->(execOp a.eval o).run Tryz.prog w = .ok (.value r) w:=λw _=>by
 unfold execOp;simp only[ho,hx,hy,Sem.run_bind,hl w,Sem.run_pure,Result.andThen_ok]
end
theorem y_nil {S:World->Prop}{a:Act}{o:Oper}{x:Operand}{ad:Addr}(ho:o.op = .nilCheck x)(hx:a.eval x = .pointer (some ad)):∀w,S w->(execOp a.eval o).run Tryz.prog w = .ok (.value (.pointer (some ad))) w:=λw _=>by
 unfold execOp;simp only[ho,hx];rfl
theorem run_field70_2 (b:Nat)(w:World):(Instr.fieldAt 151 (.pointer (some ⟨b,0,none⟩)) 2).run Tryz.prog w = .ok (.pointer (some ⟨b,2,none⟩)) w:=by kernel_rfl
theorem run_load23 {w:World}{b off n c:Nat}{A:Option Addr}(h:w.cell? ⟨b,off,none⟩=some (.slice A n c)):(Instr.loadAt 22 (.pointer (some ⟨b,off,none⟩))).run Tryz.prog w = .ok (.slice A n c) w:=by
 simp[go_sem,h]
theorem run_load39 {w:World}{b:Nat}{a1 a2 a3:Int}{s:ByteArray}{n c:Nat}{A:Option Addr}(h:Bx w b 50 [.int .i64 a1,.int .i64 a2,.int .i64 a3,.string s,.slice A n c]):(Instr.loadAt 50 (.pointer (some ⟨b,0,none⟩))).run Tryz.prog w = .ok (.agg #[.int .i64 a1,.int .i64 a2,.int .i64 a3,.string s,.slice A n c]) w:=by
 have h0:=h.cell 0
 have h1:=h.cell 1
 have h2:=h.cell 2
 have h3:=h.cell 3
 have h4:=h.cell 4
 simp only[List.getElem?_cons_zero,List.getElem?_cons_succ]at h0 h1 h2 h3 h4
 simp[go_sem,h0,h1,h2,h3,h4]
theorem blk_cells (w:World)(l:List Value)(t:TypeId):∀j u,l[j]?=some u->(w.alloc (.cells l.toArray t)).cell? ((⟨w.heap.size,0,none⟩:Addr).add j)=some u:=λj u hj=>by
 have hB:=Bx.new w t l
 rw[show(⟨w.heap.size,0,none⟩:Addr).add j=⟨w.heap.size,j,none⟩by simp[Addr.add];omega,hB.cell j,hj]
theorem one5 (a b c:Int)(s:ByteArray)(K:Option Addr)(n d:Nat):∀u ∈ [Value.int .i64 a,.int .i64 b,.int .i64 c,.string s,.slice K n d],u.oneCell'=true:=λu hu=>by
 simp at hu;rcases hu with rfl |rfl |rfl |rfl |rfl<;>rfl
theorem own_below {w w':World}{base e size n:Nat}{v:Value}{xs:List Value}(h:w.ownsRow base e size v n xs)(hb:Below w.heap.size w w'):w'.ownsRow base e size v n xs:=by
 refine⟨h.1,h.2.imp id ?_⟩
 rintro⟨g,cap,cur,h1,h2,h3,h4⟩
 exact⟨g,cap,cur,h1,h2,(hb.block g (Array.getElem?_eq_some_iff.1 h3).1).trans h3,h4⟩
def Kd (w:World)(X:Nat->Prop)(K:Option Addr)(ks:List Int):Prop:=0<ks.length->∃b cs,K=some ⟨b,0,none⟩/\w.heap[b]?=some (.cells cs 3 (0,0))/\(∀j (hj:j<ks.length),cs[j]?=some (.int .i64 ks[j]))/\¬X b
def Nodes (w:World)(X:Nat->Prop)(base:Nat)(V:Value)(nd:List Nd):Prop:=∃xs,w.ownsRow base 50 5 V nd.length xs/\∀j (hj:j<nd.length),∃K c,(xs.drop (j*5)).take 5=[.int .i64 nd[j].kd,.int .i64 nd[j].n,.int .i64 nd[j].pl,.string (bs nd[j].tx),.slice K nd[j].ks.length c]/\Kd w X K nd[j].ks/\nd[j].ks.length<=c
theorem own_slice {base n size:Nat}{e:TypeId}{v:Value}{ls:List Value}{w:World}(h:w.ownsRow base e size v n ls):∃A c,v = .slice A n c:=by
 rcases h.2 with⟨e1,e2⟩ |⟨g,cap,cur,e1,_⟩
 ·exact⟨none,0,by rw[e1,e2]⟩
 ·exact⟨_,_,e1⟩
theorem Kd.fr {E X:Nat->Prop}{w w':World}{K:Option Addr}{ks:List Int}(h:Kd w X K ks)(k:Fr E w w')(hE:∀b cs,w.heap[b]?=some (.cells cs 3 (0,0))->¬E b)   : Kd w' X K ks:=λh0=>by
 obtain⟨b,cs,e,hb,hc⟩:=h h0
 exact⟨b,cs,e,(k.block b (Array.getElem?_eq_some_iff.1 hb).1 (hE b cs hb)).trans hb,hc⟩
end Go.Proofs.YtedkgofehbecmaaGreatDoor
namespace Go.Proofs.YtedkgofehbecmaaGreatDoor
open Go.Lib (hid)
open Go Go.RowKit
open Tr (Bx heap1 bt gen_world ret_int ret_bool cell_same info24)
theorem wp_append_own2 {P:Program}(w:World){o:Oper}{a:Act}{K:Act->World->Prop}{Q:Exit->Act->World->Prop}(s x:Operand)(t:TypeId)
  (ho:o.op = .call { callee :=.builtin .append,args := #[s,x],argTypes := #[t,t] })
  (base:Nat) (e:TypeId) (i:TypeInfo) (z:Value) (size bytes:Nat) (ht:P.underlying t=some (.slice e)) (hi:P.info? e=some i) (hz:i.zero=some z)
  (hsize:i.size=size) (hby:i.bytes=bytes) (hzs:z.cells.size=size) (hsz:0<size)
  (v:Value) (n:Nat) (xs:List Value) (hs:a.eval s=v) (hown:w.ownsRow base e size v n xs)
  (ad:Addr) (m c:Nat) (news:List Value) (hx:a.eval x = .slice (some ad) m c) (hl:news.length=m*size) (hnews:∀j u,news[j]?=some u->w.cell? (ad.add j)=some u) (h1:∀u ∈ news,u.oneCell'=true)
  (h63:n+m<=maxLen) (hbytes:(n+m)*bytes<=140737488355328) (hbase:base<=w.heap.size)
  (h:∀v' w',w'.ownsRow base e size v' (n+m) (xs++news)->w.grownBy w' v.ownBlock->(∀k,v'.ownBlock=some k->v.ownBlock=some k\/w.heap.size<=k)->K (a.put o.dst v') w'):o.wp P a w K Q:=by
 obtain⟨v',w',hr,h2,h3,_⟩:=run_append_own (P:=P) w base t o.type e i z size bytes ht hi hz hsize hby hzs hsz v n xs hown ad m c news hl hnews h1 h63 hbytes hbase
 have h5:∀k,v'.ownBlock=some k->v.ownBlock=some k\/w.heap.size<=k:=by
  rcases hown.2 with⟨rfl,rfl⟩ |⟨g,cap,cur,rfl,hbg,hg,hnc,hcm,hcs,htake⟩
  ·have hx0:xs=[]:=List.eq_nil_of_length_eq_zero (by simpa using hown.1)
   subst hx0
   obtain⟨v2,w2,hr2,h22,_,_⟩:=run_append_own (P:=P) w w.heap.size t o.type e i z size bytes ht hi hz hsize hby hzs hsz _ 0 [] (World.ownsRow_nil w w.heap.size e size) ad m c news hl hnews h1 h63 hbytes (Nat.le_refl _)
   have he:=hr.symm.trans hr2
   injection he with e1 e2
   subst e1
   subst e2
   exact λk hk =>.inr (h22.lt k hk).1
  ·subst hsize
   by_cases hroom:n+m<=cap
   ·have hfit:n*i.size+news.length<=cur.size:=by rw[hl,hcs,<- Nat.add_mul];exact Nat.mul_le_mul_right _ hroom
    have hr2:=run_append_room (P:=P) w t o.type e i ht hi g n cap cur hg ad m c news hl hnews h1 hroom hfit
    have he:=hr.symm.trans hr2
    injection he with e1 e2
    subst e1
    exact λk hk =>.inl hk
   ·have holds:∀j u,xs[j]?=some u->w.cell? ((⟨g,0,none⟩:Addr).add j)=some u:=hown.cells (g:=g) rfl
    subst hby
    have hr2:=run_append_grow (P:=P) w t o.type e i z ht hi hz ⟨g,0,none⟩ n cap xs hown.1 holds ad m c news hl hnews (by omega) (by simp only[maxLen]at h63;omega) (growslice_fits (by omega) hbytes)
    have he:=hr.symm.trans hr2
    injection he with e1 e2
    subst e1
    exact λk hk =>.inr (by simp[Value.ownBlock]at hk;omega)
 unfold Oper.wp execOp
 simp only[ho,resolve,invoke,builtin,Sem.run_bind,Sem.run_pure,Result.andThen_ok,List.map_toArray,List.map_cons,List.map_nil,hs,hx,hr]
 exact h v' w' h2 h3 h5
set_option maxRecDepth 100000 in
theorem step_own {ops:Array Oper}{o:Oper}{a:Act}{w:World}{K:Act->World->Prop}{Q:Exit->Act->World->Prop}{E:Prop}(hg:o.guard=none)(s x:Operand)(t:TypeId)
  (ho:o.op = .call { callee :=.builtin .append,args := #[s,x],argTypes := #[t,t] })
  (base:Nat) (e:TypeId) (i:TypeInfo) (z:Value) (size bytes:Nat) (ht:Tryz.prog.underlying t=some (.slice e)) (hi:Tryz.prog.info? e=some i) (hz:i.zero=some z)
  (hsize:i.size=size) (hby:i.bytes=bytes) (hzs:z.cells.size=size) (hsz:0<size)
  (v:Value) (n:Nat) (xs:List Value) (hs:a.eval s=v) (hown:w.ownsRow base e size v n xs)
  (ad:Addr) (m c:Nat) (news:List Value) (hx:a.eval x = .slice (some ad) m c) (hl:news.length=m*size) (hnews:∀j u,news[j]?=some u->w.cell? (ad.add j)=some u) (h1:∀u ∈ news,u.oneCell'=true)
  (h63:n+m<=maxLen) (hbytes:(n+m)*bytes<=140737488355328) (hbase:base<=w.heap.size)
  (h:∀v' w',w'.ownsRow base e size v' (n+m) (xs++news)->w.grownBy w' v.ownBlock->(∀k,v'.ownBlock=some k->v.ownBlock=some k\/w.heap.size<=k)->K (a.put o.dst v') w'):if Region.wanted o (yielded ops a.tmps)=true then Oper.wp Tryz.prog o a w K Q else E:=by
 rw[if_pos (by simp[Region.wanted,hg])]
 exact wp_append_own2 _ s x t ho base e i z size bytes ht hi hz hsize hby hzs hsz v n xs hs hown ad m c news hx hl hnews h1 h63 hbytes hbase h
theorem own_fr {E:Nat->Prop}{w w':World}{base e size n:Nat}{v:Value}{xs:List Value}(h:w.ownsRow base e size v n xs)(k:Fr E w w')(hE:∀b,E b->b<base):w'.ownsRow base e size v n xs:=by
 have h0:=h
 refine⟨h.1,h.2.imp id ?_⟩
 rintro⟨g,cap,cur,h1,h2,h3,h4⟩
 have hl:=(h0.lt g (by rw[h1];rfl)).1
 exact⟨g,cap,cur,h1,h2,(k.block g (Array.getElem?_eq_some_iff.1 h3).1 (λe=>by have:=hE g e;omega)).trans h3,h4⟩
theorem fr_grown {E:Nat->Prop}{w w':World}{row:Option Nat}(h:w.grownBy w' row)(hE:∀b,row=some b->E b):Fr E w w':=⟨h.os,h.tape,h.output,h.size,λb hb hn=>h.block b hb (λe=>hn (hE b e.symm))⟩
theorem nd_app {X:Nat->Prop}{w w':World}{nd:List Nd}{xs:List Value}(hl:xs.length=nd.length*5)(h:∀j (hj:j<nd.length),∃K c,(xs.drop (j*5)).take 5=[.int .i64 nd[j].kd,.int .i64 nd[j].n,.int .i64 nd[j].pl,.string (bs nd[j].tx),.slice K nd[j].ks.length c]/\Kd w X K nd[j].ks/\nd[j].ks.length<=c)(x:Nd)(KK:Option Addr)(kc:Nat)(hk:Kd w X KK x.ks)(hkc:x.ks.length<=kc)
  (hkeep:∀K ks,Kd w X K ks->Kd w' X K ks):∀j (hj:j<(nd++[x]).length),∃K c,((xs++[Value.int .i64 x.kd,.int .i64 x.n,.int .i64 x.pl,.string (bs x.tx),.slice KK x.ks.length kc]).drop (j*5)).take 5=[.int .i64 (nd++[x])[j].kd,.int .i64 (nd++[x])[j].n,.int .i64 (nd++[x])[j].pl,.string (bs (nd++[x])[j].tx),.slice K (nd++[x])[j].ks.length c]/\Kd w' X K (nd++[x])[j].ks/\(nd++[x])[j].ks.length<=c:=λj hj=>by
 by_cases hj':j<nd.length
 ·obtain⟨K,c,e,k,k2⟩:=h j hj'
  refine⟨K,c,?_,?_,by simp only[List.getElem_append_left hj'];exact k2⟩
  ·simp only[List.getElem_append_left hj']
   rw[List.drop_append_of_le_length (by omega),List.take_append_of_le_length (by rw[List.length_drop];omega),e]
  ·simp only[List.getElem_append_left hj']
   exact hkeep _ _ k
 ·obtain rfl:j=nd.length:=by simp at hj;omega
  refine⟨KK,kc,?_,?_,by simpa using hkc⟩
  ·rw[<- hl];simp
  ·simp;exact hkeep _ _ hk
def AddPost (X:Nat->Prop)(base g:Nat)(A:Option Addr)(c:Nat)(ts:List Tok)(V:Value)(s:St)(x:Nd)(w:World)(e:Ending)(w':World):Prop:=
 ∃V',e = .returned (.int .i64 (s.nd.length:Int))/\Px w' g A c ts V' { s with nd:=s.nd++[x] }/\Nodes w' X base V' (s.nd++[x])/\Fr (λb=>b=g\/V.ownBlock=some b) w w'/\∀b,V'.ownBlock=some b->V.ownBlock=some b\/w.heap.size<=b
theorem add_end {X:Nat->Prop}{w W4 w4 W6:World}{base g c:Nat}{A:Option Addr}{ts:List Tok}{s:St}{kd nn pl:Int}{tx:List UInt8}{KK VA VA':Option Addr}{kc vc vc':Nat}{ks:List Int}{xs:List Value}(h:Px w g A c ts (.slice VA s.nd.length vc) s)(hown:w.ownsRow base 50 5 (.slice VA s.nd.length vc) s.nd.length xs)
  (hcs:∀j (hj:j<s.nd.length),∃K c,(xs.drop (j*5)).take 5=[.int .i64 s.nd[j].kd,.int .i64 s.nd[j].n,.int .i64 s.nd[j].pl,.string (bs s.nd[j].tx),.slice K s.nd[j].ks.length c]/\Kd w X K s.nd[j].ks/\s.nd[j].ks.length<=c) (hK:Kd w X KK ks) (hkc:ks.length<=kc) (hA:∀a,A=some a->a.block<base) (hgb:g<base)
  (hb2:Below w.heap.size w W4) (hgrow4:(W4.alloc (.cells #[.int .i64 kd,.int .i64 nn,.int .i64 pl,.string (bs tx),.slice KK ks.length kc] 50)).drew.grownBy w4 (Value.slice VA s.nd.length vc).ownBlock)
  (hown4:w4.ownsRow base 50 5 (.slice VA' (s.nd.length+1) vc') (s.nd.length+1) (xs++[.int .i64 kd,.int .i64 nn,.int .i64 pl,.string (bs tx),.slice KK ks.length kc]))
  (hfr4:∀k,(Value.slice VA' (s.nd.length+1) vc').ownBlock=some k->(Value.slice VA s.nd.length vc).ownBlock=some k\/(W4.alloc (.cells #[.int .i64 kd,.int .i64 nn,.int .i64 pl,.string (bs tx),.slice KK ks.length kc] 50)).drew.heap.size<=k)
  (hX6:Bx (w4.setCell ⟨g,2,none⟩ (.slice VA' (s.nd.length+1) vc')) g 151 [.slice A ts.length c,.int .i64 (s.nx:Int),.slice VA' (s.nd.length+1) vc',.int .i64 (s.op:Int),.int .i64 (s.mo:Int)]) (hW6:w4.setCell ⟨g,2,none⟩ (.slice VA' (s.nd.length+1) vc')=W6) :
  AddPost X base g A c ts (.slice VA s.nd.length vc) s ⟨kd,nn,pl,tx,ks⟩ w (.returned (.int .i64 (s.nd.length:Int))) W6:=by
 have f1:Fr (λb=>b=g\/(Value.slice VA s.nd.length vc).ownBlock=some b) w w4:=((Fr.of hb2).trans (Fr.of (bdrew (heap1 _ _)))).trans (fr_grown hgrow4 (λb hb =>.inr hb))
 have f2:Fr (λb=>b=g\/(Value.slice VA s.nd.length vc).ownBlock=some b) w W6:=by rw[<- hW6];exact f1.set (.inl rfl) _
 have f3:Fr (λb=>b=g) w4 W6:=by rw[<- hW6];exact Fr.set (E:=λb=>b=g) (Fr.refl _ _) rfl _
 have hkeep:∀K ks,Kd w X K ks->Kd W6 X K ks:=λK ks hk=>hk.fr f2 (λb cs hb e=>by
  rcases e with rfl |e
  ·have:=hb.symm.trans h.box
   simp at this
  ·rcases hown.2 with⟨e1,_⟩ |⟨g',cap,cur,e1,_,e3,_⟩
   ·rw[e1]at e;exact absurd e (by simp[Value.ownBlock])
   ·rw[e1]at e
    obtain rfl:g'=b:=by simpa [Value.ownBlock]using e
    have:=hb.symm.trans e3
    simp at this)
 refine⟨_,rfl,⟨by rw[<- hW6];exact hX6,h.toks.fr f2 ?_,h.len,h.nx,h.op,h.mo,h.ne⟩,⟨_,?_,nd_app hown.1 hcs ⟨kd,nn,pl,tx,ks⟩ KK kc hK hkc hkeep⟩,f2,?_⟩
 ·rintro a ha (e |e)
  ·exact h.ne a ha e
  ·have:=(hown.lt _ e).1
   have:=hA a ha
   omega
 ·rw[List.length_append]
  exact own_fr hown4 f3 (λb e=>by omega)
 ·intro b hb
  refine(hfr4 b hb).imp id λq=>Nat.le_trans (Nat.le_trans hb2.size ?_) q
  show W4.heap.size<=(W4.alloc _).heap.size
  rw[World.size_alloc];omega
set_option maxRecDepth 100000 in
set_option maxHeartbeats 1500000 in
theorem add_any {X:Nat->Prop}{w:World}{base g c:Nat}{A:Option Addr}{ts:List Tok}{V:Value}{s:St}(h:Px w g A c ts V s)(hN:Nodes w X base V s.nd)(kd nn pl:Int)(tx:List UInt8)(K0 KK:Option Addr)(n0 c0 kn kc:Nat)(ks:List Int)(hK:Kd w X KK ks)(hkn2:kn=ks.length/\kn<=kc)
  (hbase:base<=w.heap.size) (hgb:g<base) (hA:∀a,A=some a->a.block<base) (hlen:s.nd.length<=100000):Calls Tryz.prog 131 #[.pointer (some ⟨g,0,none⟩),.agg #[.int .i64 kd,.int .i64 nn,.int .i64 pl,.string (bs tx),.slice K0 n0 c0],.slice KK kn kc] w (AddPost X base g A c ts V s ⟨kd,nn,pl,tx,ks⟩ w):=by
 obtain⟨hkn,hkc⟩:=hkn2
 obtain⟨j0,ji,jz0,jz1,jz2⟩:=info_parts Tr.info24
 obtain⟨xs,hown,hcs⟩:=hN
 obtain⟨VA,vc,rfl⟩:=own_slice hown
 obtain⟨W,hW⟩:∃W,w.alloc (.cells #[.int .i64 kd,.int .i64 nn,.int .i64 pl,.string (bs tx),.slice K0 n0 c0] 50)=W:=⟨_,rfl⟩
 have hb:Below w.heap.size w W:=by rw[<- hW];exact heap1 _ _
 have hB:Bx W w.heap.size 50 [.int .i64 kd,.int .i64 nn,.int .i64 pl,.string (bs tx),.slice K0 n0 c0]:=by rw[<- hW];exact Bx.new w 50 _
 have hX:=h.box.below hb h.box.lt
 have hne:w.heap.size≠g:=by omega
 have b4:=(hB.cell 4).trans rfl
 have f4:=hB.frozen 4
 have hB2:=hB.set_ 4 (.slice KK kn kc)
 simp only[List.set_cons_zero,List.set_cons_succ]at hB2
 have hX2:=hX.far (p:=⟨w.heap.size,4,none⟩) hne.symm (.slice KK kn kc)
 have hb2:=hb.setCell (p:=⟨w.heap.size,4,none⟩) (Nat.le_refl _) (.slice KK kn kc)
 have H0:=hid (And.intro h (And.intro hown (And.intro hcs (And.intro hK (And.intro hA hkc)))))
 have HH:=hid (And.intro hB2 (And.intro hX2 hb2))
 have HKN:=hid hkn
 clear h hown hcs hK hA hkc hB hX hB2 hX2 hb2 hb hkn
 obtain⟨vn,hvn⟩:∃vn,vn=s.nd.length:=⟨_,rfl⟩
 have HVN:=hid hvn
 rw[<- hvn]at hlen
 go_enter Tryz.func131,Tryz.ntmps131
 go_upto_region 2 with(fail)
 obtain⟨hB2,hX2,hb2⟩:=HH.out
 rw[<- hvn]at hX2
 clear HH b4 f4 hW
 generalize W.setCell ⟨w.heap.size,4,none⟩ (.slice KK kn kc)=W4 at *
 have hown:W4.ownsRow base 50 5 (.slice VA vn vc) vn xs:=own_below (by rw[hvn];exact H0.out.2.1) hb2
 clear hvn
 have hown:W4.drew.ownsRow base 50 5 (.slice VA vn vc) vn xs:=hown
 have c2:=(hX2.cell 2).trans rfl
 have n0:=(hB2.cell 0).trans rfl
 have n1:=(hB2.cell 1).trans rfl
 have n2:=(hB2.cell 2).trans rfl
 have n3:=(hB2.cell 3).trans rfl
 have n4:=(hB2.cell 4).trans rfl
 have hz5:=hb2.size
 have e2:(W4.alloc (.cells #[.int .i64 kd,.int .i64 nn,.int .i64 pl,.string (bs tx),.slice KK kn kc] 50)).drew.cell? ⟨g,2,none⟩=some (.slice VA vn vc):=((hX2.alloc _).cell 2).trans rfl
 have HO:=hid (show(W4.alloc (.cells #[.int .i64 kd,.int .i64 nn,.int .i64 pl,.string (bs tx),.slice KK kn kc] 50)).drew.ownsRow base 50 5 (.slice VA vn vc) vn xs from own_below hown (heap1 W4.drew (.cells #[.int .i64 kd,.int .i64 nn,.int .i64 pl,.string (bs tx),.slice KK kn kc] 50)))
 have HBC:=hid (blk_cells W4 [.int .i64 kd,.int .i64 nn,.int .i64 pl,.string (bs tx),.slice KK kn kc] 50)
 have HM1:=hid (show vn+1<=maxLen by unfold maxLen;omega)
 have HM2:=hid (show(vn+1)*64<=140737488355328 by omega)
 have HM3:=hid (show base<=(W4.drew.alloc (.cells #[.int .i64 kd,.int .i64 nn,.int .i64 pl,.string (bs tx),.slice KK kn kc] 50)).heap.size by rw[World.size_alloc];show base<=W4.heap.size+1;omega)
 have HX2:=hid (And.intro hX2 hb2)
 clear hown hX2 hB2 hb2
 go_region_law ((refine step_own rfl (.tmp 13) (.tmp 15) 22 rfl base 50 j0 (.agg #[.int .i64 0,.int .i64 0,.int .i64 0,.string ⟨#[]⟩,.slice none 0 0]) 5 64 Tryz.underlying22 ji jz0 jz1 jz2 rfl (by decide) (.slice VA vn vc) vn xs (by simp[Act.eval]) HO.out ⟨W4.heap.size,0,none⟩ 1 1 [.int .i64 kd,.int .i64 nn,.int .i64 pl,.string (bs tx),.slice KK kn kc] (by simp[Act.eval]) rfl HBC.out (one5 _ _ _ _ _ _ _) HM1.out HM2.out HM3.out ?_;intro v' w4 hown4 hgrow4 hfr4;obtain⟨VA',vc',rfl⟩:=own_slice hown4;have HFR:=hid hfr4;clear hfr4;have hX4:Bx w4 g 151 [.slice A ts.length c,.int .i64 (s.nx:Int),.slice VA vn vc,.int .i64 (s.op:Int),.int .i64 (s.mo:Int)]:=(HX2.out.1.below (bdrew (Below.refl _ _)) HX2.out.1.lt).alloc _ |>.grown hgrow4 (λe=>by have:=(HO.out.lt g e.symm).1;omega);have d2:=(hX4.cell 2).trans rfl;have fd2:=hX4.frozen 2))
 all_goals
  rename_i K5 hk5
  refine hk5 _ _ ?_
  clear hk5
  obtain⟨W6,hW6⟩:∃W6,w4.setCell ⟨g,2,none⟩ (.slice VA' (vn+1) vc')=W6:=⟨_,rfl⟩
  have hX6:=hX4.set_ 2 (.slice VA' (vn+1) vc')
  simp only[List.set_cons_zero,List.set_cons_succ]at hX6
  have HF:=hid (And.intro hgrow4 (And.intro hown4 (And.intro hX6 (And.intro hW6 hX4))))
  rw[hW6]at hX6 |-
  have c6:=(hX6.cell 2).trans rfl
  clear c2 n0 n1 n2 n3 n4 e2 d2 fd2 hX4 hX6 hW6 hown4 hgrow4
  go_wp2
  all_goals
   obtain⟨hgrow4,hown4,hX6,hW6,hX4⟩:=HF.out
   obtain⟨h,hownw,hcs,hK,hA,hkc⟩:=H0.out
   obtain⟨hX2,hb2⟩:=HX2.out
   obtain rfl:=HVN.out
   obtain rfl:=HKN.out
   exact bodyPost_ret (v :=.int .i64 (s.nd.length:Int)) (by simp[results,Tryz.f131,go_sem]) rfl (add_end h hownw hcs hK hkc hA hgb hb2 hgrow4 hown4 HFR.out hX6 hW6)
end Go.Proofs.YtedkgofehbecmaaGreatDoor
namespace Go.Proofs.YtedkgofehbecmaaGreatDoor
open Go.Lib (hid)
section
open Go Go.RowKit
open Tr (Bx heap1 bt gen_world ret_int ret_bool cell_same)
theorem bs_toList (x:List UInt8):(bs x).toList=x:=by rw[ByteArray.toList_eq,bs_list]
set_option maxRecDepth 100000 in
set_option maxHeartbeats 1500000 in
theorem typeOf_any {w:World}(x:List UInt8):Calls Tryz.prog 212 #[.string (bs x)] w (VPost (.int .i64 (typeOf x:Int)) w):=by
 have H:=hid (bs_toList x)
 generalize bs x=a at *
 go_enter Tryz.func212,Tryz.ntmps212
 go_wp2
 all_goals
  have ha:=H.out
  simp only[ha,beq_iff_eq,beq_eq_false_iff_ne]at *
  go_ret
  refine⟨ret_int ?_,Below.refl _ _⟩
  simp_all [typeOf,wInt,wBool,wArr,wFun]
set_option maxRecDepth 100000 in
set_option maxHeartbeats 1500000 in
theorem rowOf_any {w:World}(x:List UInt8):Calls Tryz.prog 279 #[.string (bs x)] w (VPost (.int .i64 (rowOf x:Int)) w):=by
 have H:=hid (bs_toList x)
 generalize bs x=a at *
 go_enter Tryz.func279,Tryz.ntmps279
 go_wp2
 all_goals
  have ha:=H.out
  simp only[ha,beq_iff_eq,beq_eq_false_iff_ne]at *
  go_ret
  refine⟨ret_int ?_,Below.refl _ _⟩
  simp_all [rowOf]
end
section
open Go Go.RowKit
open Tr (Bx heap1 bt gen_world ret_int ret_bool cell_same)
set_option maxRecDepth 100000 in
set_option maxHeartbeats 1500000 in
theorem typeWord_no {w:World}{g c:Nat}{A:Option Addr}{ts:List Tok}{V:Value}{s:St}(h:Px w g A c ts V s)(hs:typeOf (tkn ts s).s=0):Calls Tryz.prog 180 #[.pointer (some ⟨g,0,none⟩)] w (NPost (tkn ts s).p 2 w):=by
 have HC:=hid (token_any h)
 have HR:=hid (λw' (k:Below w.heap.size w w')=>refuse_any 2 (h.below k))
 have HO:=hid (λw'=>typeOf_any (w:=w') (tkn ts s).s)
 rw[hs]at HO
 have hf:=field36_3 (tkn ts s)
 generalize (tkn ts s).p=pp at *
 generalize tokV (tkn ts s)=v at *
 generalize bs (tkn ts s).s=a at *
 clear h hs
 go_enter Tryz.func180,Tryz.ntmps180
 go_wp2_with (first|(go_at_call 176;refine HC.out.mono ?_;rintro e w1 ⟨rfl,hb1⟩) |(go_at_call 212;refine(HO.out _).mono ?_;rintro e w2 ⟨rfl,hb2⟩) |(go_at_call 183;refine(HR.out _ (bt hb1 hb2)).mono ?_;rintro e w3 ⟨rfl,hb3⟩))
 exact⟨rfl,rfl,bt (bt hb1 hb2) hb3⟩
set_option maxRecDepth 100000 in
set_option maxHeartbeats 1500000 in
theorem typeWord_yes {w:World}{g c:Nat}{A:Option Addr}{ts:List Tok}{V:Value}{s:St}(h:Px w g A c ts V s)(hs:typeOf (tkn ts s).s≠0)(hn:s.nx+1<ts.length):Calls Tryz.prog 180 #[.pointer (some ⟨g,0,none⟩)] w (PPost g A c ts V (.int .i64 (typeOf (tkn ts s).s:Int)) (takeS s) w):=by
 have HC:=hid (token_any h)
 have HT:=hid (λw' (k:Below w.heap.size w w')=>take_any (h.below k) hn)
 have HO:=hid (λw'=>typeOf_any (w:=w') (tkn ts s).s)
 have hf:=field36_3 (tkn ts s)
 generalize typeOf (tkn ts s).s=n at *
 have hs':¬((n:Int)=0):=by omega
 generalize tokV (tkn ts s)=v at *
 generalize bs (tkn ts s).s=a at *
 clear h hs
 go_enter Tryz.func180,Tryz.ntmps180
 go_wp2_with (first|(go_at_call 176;refine HC.out.mono ?_;rintro e w1 ⟨rfl,hb1⟩) |(go_at_call 212;refine(HO.out _).mono ?_;rintro e w2 ⟨rfl,hb2⟩) |(go_at_call 173;refine(HT.out _ (bt hb1 hb2)).mono ?_;rintro e w3 ⟨rfl,hX3,hF3⟩))
 all_goals
  first
  |omega
  |(go_ret;exact⟨rfl,hX3,(Fr.of (bt hb1 hb2)).trans hF3⟩)
end
end Go.Proofs.YtedkgofehbecmaaGreatDoor
