/- PROVED here: parts Xu of the claim. No condition but those in each theorem's own head. -/
import Derived.Test.YteecfjhjllajlaaGreatDoorM19
import Derived.Test.YteecfjhjllajlaaGreatDoorM21
import Derived.Test.YteecfjhjllajlaaGreatDoorM23
namespace Go.Proofs.YteecfjhjllajlaaGreatDoor
section
open Go Go.RowKit
open Tr (Bx heap1 bt Nds Ints)
theorem stm_pg {w0:World}{A:Option Addr}{l:List Tr.Nd}{n:Nat}(c b:Nat)(hx:Px0 w0 A l n)(hcp:Caps w0 A l)(hs:ShOk l):∀(f d p:Nat) (t:List UInt8) (w:World),p<f→p<n→Tr.stmB (ndA l p).kd=true→d+p≤90000→Below w0.heap.size w0 w→Pg w0.heap.size b t w→t.length+(stT l n f d p).length≤140737488355328 →
  Calls Tryz.prog 246 #[PV A n c b (d:Int),.int .i64 (p:Int)] w (WrPost w0.heap.size b (t++stT l n f d p) (.tuple #[]) w)
 |0,_,_,_,_,h0,_,_,_,_,_,_=>absurd h0 (Nat.not_lt_zero _)
 |f+1,d,p,t,w,hpf,hp,hk,hd,hb,h,hl=>by
  have hpl:p<l.length:=by rw[← hx.len];exact hp
  have hlo:=hs.ln p hpl hk
  rw[← hx.len]at hlo
  have hln:=fun t' w' (q:Below w0.heap.size w0 w') (h':Pg w0.heap.size b t' w') (hl':t'.length+(lnT l n p).length≤140737488355328)=>line_pg c b n hx hcp (d:Int) p t' w' hp hlo q h' hl'
  have hblk:∀k:Nat,k<p→(ndA l k).kd=6→∀t' w',Below w0.heap.size w0 w'→Pg w0.heap.size b t' w'→t'.length+(blkT l (stT l n f) d k []).length≤140737488355328→Calls Tryz.prog 194 #[PV A n c b (d:Int),.int .i64 (k:Int),.slice none 0 0] w' (WrPost w0.heap.size b (t'++blkT l (stT l n f) d k []) (.tuple #[]) w'):=fun k hkp h6 t' w' q h' hl'=>
   block_pg c b d hx (stT l n f) k none 0 0 [] t' w' (by omega) (by omega) rfl (by omega) (by have:=hs.few k (by omega);omega) (fun _ _ h0=>absurd h0 (Nat.lt_irrefl 0)) (fun _ h0=>by cases h0)
    (fun k' hk' t2 w2 q2 h2 hl2=>by
     obtain⟨k2,rfl,hlt,hst⟩:=hs.bl k (by omega) h6 k' hk'
     exact stm_pg c b hx hcp hs f (d+1) k2 t2 w2 (by omega) (by omega) hst (by omega) q2 h2 hl2) q h' hl'
  rw[stT_succ]at hl ⊢
  by_cases e11:(ndA l p).kd=11
  ·obtain⟨a,b2,c2,e1,hb2,hc2,h6,h7⟩:=hs.kif p hpl e11
   rw[if_pos e11,kidA_1 e1,kidA_2 e1]at hl ⊢
   by_cases he:(ndA l c2).ks=[]
   ·rw[if_pos he,List.append_nil]at hl ⊢
    exact st_11n c b d hx p a b2 c2 _ _ t w hp (by omega) e11 e1 hln (hblk b2 hb2 h6) (by omega) he hb h hl
   ·rw[if_neg he]at hl ⊢
    exact st_11e c b d hx p a b2 c2 _ _ _ t w hp (by omega) e11 e1 hln (hblk b2 hb2 h6) (hblk c2 hc2 h7) (by omega) he hb h hl
  ·rw[if_neg e11]at hl ⊢
   by_cases e12:(ndA l p).kd=12
   ·obtain⟨a,b2,e1,hb2,h6⟩:=hs.wh p hpl e12
    rw[if_pos e12,kidA_1 e1]at hl ⊢
    exact st_12 c b d hx p a b2 _ _ t w hp (by omega) e12 e1 hln (hblk b2 hb2 h6) hb h hl
   ·rw[if_neg e12]at hl ⊢
    by_cases e16:(ndA l p).kd=16
    ·obtain⟨a,b2,e1,ha,hb2,h6,h7⟩:=hs.tr p hpl e16
     rw[if_pos e16,kidA_0 e1,kidA_1 e1]at hl ⊢
     exact st_16 c b d hx p a b2 _ _ _ t w hp (by omega) e16 e1 hln (hblk a ha h6) (hblk b2 hb2 h7) hb h hl
    ·rw[if_neg e16]at hl ⊢
     exact st_p c b d hx p _ t w hp (by omega) e11 e12 e16 hln hb h hl
theorem Pg.grown {B b:Nat}{t:List UInt8}{w w':World}{row:Option Nat}(h:Pg B b t w)(hg:w.grownBy w' row)(hr:∀g,row=some g→∃cs,w.heap[g]?=some (.cells cs 3 (0,0))):Pg B b t w':=by
 have aux:∀p,Lib.BuilderAtF 118 5 B b p (Lib.byteCells t) w→Lib.BuilderAtF 118 5 B b p (Lib.byteCells t) w':=fun p q=>by
  have hlt:=at_size q
  obtain⟨hB,v,hv,hown,hne⟩:=q
  refine⟨hB,v,(hg.block b hlt fun e =>?_).trans hv,hown.kept hg ?_,hne⟩
  ·obtain⟨cs,hcs⟩:=hr b e.symm
   have:=hcs.symm.trans hv
   simp at this
  ·rcases hown.2 with⟨e1,_⟩ |⟨g,cap,cur,fz,e1,_,e3,_⟩
   ·exact Or.inl (by rw[e1];rfl)
   ·refine Or.inr fun e =>?_
    rw[e1]at e
    obtain⟨cs,hcs⟩:=hr g (by rw[← e];rfl)
    have:=hcs.symm.trans e3
    simp at this
 rcases h with h |h
 ·exact .inl (aux _ h)
 ·exact .inr (aux _ h)
theorem own_kp {B b base n:Nat}{v:Value}{xs:List Value}{w w':World}(h:w.ownsRow base 3 1 v n xs)(q:Kp B b w w')(hb:b<base):w'.ownsRow base 3 1 v n xs:=
 ⟨h.1,h.2.imp id fun⟨g,cap,cur,h1,h2,h3,h4⟩=>⟨g,cap,cur,h1,h2,q.2 g _ h3 (fun e=>by injection e with e;omega) (fun c fz e=>by cases e),h4⟩⟩
theorem own_ints {base:Nat}{v:Value}{l:List Int}{w:World}(h:w.ownsRow base 3 1 v l.length (l.map (Value.int .i64))):∃A c,v = .slice A l.length c∧Ints w A l:=by
 rcases h.2 with⟨e,e2⟩ |⟨g,cap,cur,rfl,h2,h3,h4⟩
 ·exact⟨none,0,by rw[e,e2],fun h0=>by omega⟩
 ·refine⟨_,_,rfl,fun _=>⟨g,0,rfl,(Array.getElem?_eq_some_iff.1 h3).1,fun j hj =>?_⟩⟩
  have:=h.cellAt j (by omega)
  rw[Nat.zero_add,this,List.getElem?_map,List.getElem?_eq_getElem hj]
  rfl
theorem own_block {base n:Nat}{v:Value}{xs:List Value}{w:World}(h:w.ownsRow base 3 1 v n xs):∀g,v.ownBlock=some g→base≤g∧g<w.heap.size∧∃cs,w.heap[g]?=some (.cells cs 3 (0,0)):=fun g hg=>by
 rcases h.2 with⟨e,_⟩ |⟨g',cap,cur,rfl,h2,h3,h4⟩
 ·rw[e]at hg;simp[Value.ownBlock]at hg
 ·simp only[Value.ownBlock,Option.some.injEq]at hg
  subst hg
  exact⟨h2,(Array.getElem?_eq_some_iff.1 h3).1,_,h3⟩
structure PL (B b:Nat) (t:List UInt8) (w:World) (PB NB:List Value) (v5 v6:Value) (l5 l6:List Int) (wr:World):Prop where
 pg:Pg B b t wr
 kp:Kp B b w wr
 bx:Bx wr w.heap.size 73 PB
 bn:Bx wr (w.heap.size+1) 37 NB
 o5:wr.ownsRow (w.heap.size+2) 3 1 v5 l5.length (l5.map (Value.int .i64))
 o6:wr.ownsRow (w.heap.size+2) 3 1 v6 l6.length (l6.map (Value.int .i64))
 ne:∀k,v5.ownBlock=some k→v6.ownBlock=some k→False
 sz:w.heap.size+2≤wr.heap.size
theorem pl_keep {B b:Nat}{t:List UInt8}{w wr w':World}{PB NB:List Value}{v:Value}{x:Int}{n:Nat}{xs:List Value}(hpg:Pg B b t wr)(hkp:Kp B b w wr)(hbx:Bx wr w.heap.size 73 PB)(hbn:Bx wr (w.heap.size+1) 37 NB)(ho:wr.ownsRow (w.heap.size+2) 3 1 v n xs)(hsz:w.heap.size+2≤wr.heap.size)(hBw:B≤w.heap.size)
  (hg:(wr.alloc (.cells #[.int .i64 x] 3)).grownBy w' v.ownBlock):Pg B b t w'∧Kp B b w w'∧Bx w' w.heap.size 73 PB∧Bx w' (w.heap.size+1) 37 NB∧w.heap.size+2≤w'.heap.size:=by
 have hsz1:(wr.alloc (.cells #[.int .i64 x] 3)).heap.size=wr.heap.size+1:=World.size_alloc _ _
 have hbl:=own_block ho
 have h1:Below wr.heap.size wr (wr.alloc (.cells #[.int .i64 x] 3)):=heap1 _ _
 have hs2:=hg.size
 have hblk:∀(k:Nat) (o:Obj),wr.heap[k]?=some o→(∀c fz,o ≠ .cells c 3 fz)→w'.heap[k]?=some o:=fun k o hk ho'=>by
  have hlt:k<wr.heap.size:=(Array.getElem?_eq_some_iff.1 hk).1
  rw[hg.block k (by omega) (fun e =>?_),h1.block k hlt,hk]
  obtain⟨_,_,cs,hcs⟩:=hbl k e.symm
  rw[hcs]at hk
  injection hk with hk
  exact ho' _ _ hk.symm
 have hlow:∀k,k<w.heap.size+2→w'.heap[k]?=wr.heap[k]?:=fun k hk=>by
  rw[hg.block k (by omega) (fun e =>?_),h1.block k (by omega)]
  have:=(hbl k e.symm).1
  omega
 refine⟨(hpg.alloc _).grown hg fun g e =>?_,⟨⟨hg.os.trans (h1.os.trans hkp.1.os),hg.tape.trans (h1.tape.trans hkp.1.tape),hg.output.trans (h1.output.trans hkp.1.output),by have:=hkp.1.size;omega,fun k hk=>(hlow k (by omega)).trans (hkp.1.block k hk)⟩,fun k o hk hb ho' =>?_⟩,hblk _ _ hbx (fun c fz e=>by cases e),hblk _ _ hbn (fun c fz e=>by cases e),by omega⟩
 ·obtain⟨_,hlt,cs,hcs⟩:=hbl g e
  exact⟨cs,(h1.block g hlt).trans hcs⟩
 ·have hlt:k<w.heap.size:=(Array.getElem?_eq_some_iff.1 hk).1
  exact(hlow k (by omega)).trans (hkp.2 k o hk hb ho')
theorem PL.app5 {B b:Nat}{t:List UInt8}{w wr w':World}{PB NB:List Value}{v5 v6 v':Value}{l5 l6:List Int}{x:Int}(h:PL B b t w PB NB v5 v6 l5 l6 wr)(hBw:B≤w.heap.size)(h2:w'.ownsRow (w.heap.size+2) 3 1 v' (l5++[x]).length ((l5++[x]).map (Value.int .i64)))(hg:(wr.alloc (.cells #[.int .i64 x] 3)).grownBy w' v5.ownBlock)
  (hv:∀k,v'.ownBlock=some k→v5.ownBlock=some k∨wr.heap.size+1≤k):PL B b t w PB NB v' v6 (l5++[x]) l6 w':=by
 obtain⟨a1,a2,a3,a4,a5⟩:=pl_keep h.pg h.kp h.bx h.bn h.o5 h.sz hBw hg
 have h6:=own_block h.o6
 refine⟨a1,a2,a3,a4,h2,?_,fun k e1 e2 =>?_,a5⟩
 ·have h1:=h.o6.kept (row:=none) (w':=wr.alloc (.cells #[.int .i64 x] 3)) (World.grownBy_alloc _ _ _) (Classical.em _)
  refine h1.kept hg ?_
  rcases h.o6.2 with⟨e,_⟩ |⟨g,cap,cur,e,_⟩
  ·rw[e];exact Or.inl rfl
  ·refine Or.inr fun e2 =>?_
   rw[e]at e2
   exact h.ne g e2.symm (by rw[e];rfl)
 ·rcases hv k e1 with e |e
  ·exact h.ne k e e2
  ·have:=(h6 k e2).2.1
   omega
theorem PL.app6 {B b:Nat}{t:List UInt8}{w wr w':World}{PB NB:List Value}{v5 v6 v':Value}{l5 l6:List Int}{x:Int}(h:PL B b t w PB NB v5 v6 l5 l6 wr)(hBw:B≤w.heap.size)(h2:w'.ownsRow (w.heap.size+2) 3 1 v' (l6++[x]).length ((l6++[x]).map (Value.int .i64)))(hg:(wr.alloc (.cells #[.int .i64 x] 3)).grownBy w' v6.ownBlock)
  (hv:∀k,v'.ownBlock=some k→v6.ownBlock=some k∨wr.heap.size+1≤k):PL B b t w PB NB v5 v' l5 (l6++[x]) w':=by
 obtain⟨a1,a2,a3,a4,a5⟩:=pl_keep h.pg h.kp h.bx h.bn h.o6 h.sz hBw hg
 have h6:=own_block h.o5
 refine⟨a1,a2,a3,a4,?_,h2,fun k e1 e2 =>?_,a5⟩
 ·have h1:=h.o5.kept (row:=none) (w':=wr.alloc (.cells #[.int .i64 x] 3)) (World.grownBy_alloc _ _ _) (Classical.em _)
  refine h1.kept hg ?_
  rcases h.o5.2 with⟨e,_⟩ |⟨g,cap,cur,e,_⟩
  ·rw[e];exact Or.inl rfl
  ·refine Or.inr fun e2 =>?_
   rw[e]at e2
   exact h.ne g (by rw[e];rfl) e2.symm
 ·rcases hv k e2 with e |e
  ·exact h.ne k e1 e
  ·have:=(h6 k e1).2.1
   omega
section
variable {ops:Array Oper} {rest:List Oper} {o:Oper} {a:Act} {Q:Exit→Act→World→Prop}
theorem pl_append (hgd:o.guard=none)(p x:Operand)(ho:o.op = .call { callee :=.builtin .append,args := #[p,x],argTypes := #[35,35] })(w:World)(base:Nat)(v:Value)(l:List Int)(k:Int)(hown:w.ownsRow base 3 1 v l.length (l.map (Value.int .i64)))(hbase:base≤w.heap.size)(hlen:l.length≤900000)(hs:a.eval p=v)
  (hx:a.eval x = .slice (some ⟨w.heap.size,0,none⟩) 1 1)
  (hk:∀v' w',w'.ownsRow base 3 1 v' (l++[k]).length ((l++[k]).map (Value.int .i64))→(w.alloc (.cells #[.int .i64 k] 3)).grownBy w' v.ownBlock→(∀j,v'.ownBlock=some j→v.ownBlock=some j∨w.heap.size+1≤j)→wpList Tryz.prog ops Q rest (a.put o.dst v') w'):wpList Tryz.prog ops Q (o :: rest) a (w.alloc (.cells #[.int .i64 k] 3)):=by
 obtain⟨i0,hi,hz0,hz1,hz2⟩:=info_parts info3
 refine wpList_plain hgd fun K hK =>?_
 refine wp_append_own2 (w.alloc (.cells #[.int .i64 k] 3)) p x 35 ho base 3 i0 (.int .i64 0) 1 8 Tryz.underlying35 hi hz0 hz1 hz2 rfl (by decide) v l.length (l.map (Value.int .i64)) hs (hown.kept (row:=none) (World.grownBy_alloc _ _ _) (Classical.em _)) ⟨w.heap.size,0,none⟩ 1 1 [.int .i64 k] hx rfl (blk_cells w [.int .i64 k] 3) ?_ (by unfold maxLen;omega) (by omega) (by rw[World.size_alloc];omega) ?_
 ·intro u hu
  rw[List.mem_singleton.1 hu];rfl
 ·intro v' w' h2 h3 h4
  refine hK _ _ (hk v' w' ?_ h3 (fun j hj=>by have:=h4 j hj;rwa [World.size_alloc]at this))
  rw[List.length_append,List.map_append]
  exact h2
end
end
end Go.Proofs.YteecfjhjllajlaaGreatDoor
