/- PROVED here: parts N18 of the claim. No condition but those in each theorem's own head. -/
import Derived.Test.YtedkgofehbecmaaGreatDoorU17
import Derived.Test.YtedkgofehbecmaaGreatDoorU10
namespace Go.Proofs.YtedkgofehbecmaaGreatDoor
open Go.Lib (hid)
open Go Go.RowKit
open Tr (Bx heap1 bt gen_world ret_int ret_bool cell_same)
def NdsB (B:Nat)(w:World)(A:Option Addr)(l:List Tr.Nd):Prop:=
 0<l.length->∃b off,A=some ⟨b,off,none⟩/\B<=b/\b<w.heap.size/\∀j (hj:j<l.length),∃K c,w.cell? ⟨b,off+j*5,none⟩=some (.int .i64 l[j].kd)/\w.cell? ⟨b,off+j*5+1,none⟩=some (.int .i64 l[j].n) /\
  w.cell? ⟨b,off+j*5+2,none⟩=some (.int .i64 l[j].pl)/\w.cell? ⟨b,off+j*5+3,none⟩=some (.string l[j].tx)/\w.cell? ⟨b,off+j*5+4,none⟩=some (.slice K l[j].ks.length c)/\Tr.Ints w K l[j].ks/\(0<l[j].ks.length->∀a,K=some a->B<=a.block)/\l[j].ks.length<=c
theorem NdsB.nds {B:Nat}{w:World}{A:Option Addr}{l:List Tr.Nd}(h:NdsB B w A l):Tr.Nds w A l:=λh0=>by
 obtain⟨b,off,e,_,hl,hc⟩:=h h0
 refine⟨b,off,e,hl,λj hj =>?_⟩
 obtain⟨K,c,c0,c1,c2,c3,c4,hK,_⟩:=hc j hj
 exact⟨K,c,c0,c1,c2,c3,c4,hK⟩
theorem NdsB.fr {B:Nat}{E:Nat->Prop}{w w':World}{A:Option Addr}{l:List Tr.Nd}(h:NdsB B w A l)(k:Fr E w w')(hE:∀b,E b->b<B):NdsB B w' A l:=λh0=>by
 obtain⟨b,off,e,hB,hl,hc⟩:=h h0
 have kb:=k.block b hl (λq=>by have:=hE b q;omega)
 refine⟨b,off,e,hB,Nat.lt_of_lt_of_le hl k.size,λj hj =>?_⟩
 obtain⟨K,c,c0,c1,c2,c3,c4,hK,hKB,hkc⟩:=hc j hj
 refine⟨K,c,(cell_same kb _).trans c0,(cell_same kb _).trans c1,(cell_same kb _).trans c2,(cell_same kb _).trans c3,(cell_same kb _).trans c4,λh1 =>?_,hKB,hkc⟩
 obtain⟨b2,o2,e2,hl2,hc2⟩:=hK h1
 have kb2:=k.block b2 hl2 (λq=>by have:=hE b2 q;have:=hKB h1 _ e2;have e3:(⟨b2,o2,none⟩:Addr).block=b2:=rfl;omega)
 exact⟨b2,o2,e2,Nat.lt_of_lt_of_le hl2 k.size,λj hj=>(cell_same kb2 _).trans (hc2 j hj)⟩
theorem NdsB.below {B:Nat}{w w':World}{A:Option Addr}{l:List Tr.Nd}(h:NdsB B w A l)(hb:Below w.heap.size w w'):NdsB B w' A l:=h.fr (E:=λ_=>False) (Fr.of hb) (λ_ q=>q.elim)
theorem NdsB.mono {B B':Nat}{w:World}{A:Option Addr}{l:List Tr.Nd}(h:NdsB B w A l)(hB:B'<=B):NdsB B' w A l:=λh0=>by
 obtain⟨b,off,e,hb,hl,hc⟩:=h h0
 refine⟨b,off,e,Nat.le_trans hB hb,hl,λj hj =>?_⟩
 obtain⟨K,c,c0,c1,c2,c3,c4,hK,hKB,hkc⟩:=hc j hj
 exact⟨K,c,c0,c1,c2,c3,c4,hK,λh1 a ha=>Nat.le_trans hB (hKB h1 a ha),hkc⟩
theorem NdsB.room {B:Nat}{w:World}{A:Option Addr}{l:List Tr.Nd}(h:NdsB B w A l){p:Nat}(hp:p<l.length){bA off:Nat}(hA:A=some ⟨bA,off,none⟩){K:Option Addr}{m c:Nat}(hc:w.cell? ⟨bA,off+p*5+4,none⟩=some (.slice K m c)):m<=c:=by
 obtain⟨b,o,e,_,_,hall⟩:=h (by omega)
 rw[hA]at e
 injection e with e
 injection e with e1 e2
 subst e1 e2
 obtain⟨K2,c2,_,_,_,_,c4,_,_,hkc⟩:=hall p hp
 have h6:=hc.symm.trans c4
 injection h6 with h6
 injection h6 with x1 x2 x3
 omega
theorem ndsB_of {B:Nat}{w:World}{base:Nat}{V:Value}{nd:List Nd}(h:Nodes w (λb=>b<B) base V nd)(hB:B<=base):∃A c,V = .slice A nd.length c/\NdsB B w A (nd.map cvN):=by
 obtain⟨A,c,e,hN,hA⟩:=nds_of h
 obtain⟨xs,hown,hcs⟩:=h
 refine⟨A,c,e,λh0 =>?_⟩
 obtain⟨b,off,eA,hl,hc⟩:=hN h0
 refine⟨b,off,eA,Nat.le_trans hB (hA _ eA),hl,λj hj =>?_⟩
 obtain⟨K,c',c0,c1,c2,c3,c4,hK⟩:=hc j hj
 have hj':j<nd.length:=by rwa [List.length_map]at hj
 obtain⟨K2,c2',e5,hk,hk2⟩:=hcs j hj'
 have hown4:w.cell? ⟨b,off+j*5+4,none⟩=some (.slice K2 nd[j].ks.length c2'):=by
  have hq:V.ownBlock=some b:=by rw[e,eA];rfl
  have hcell:=hown.cells hq
  have ho:off=0:=by
   rcases hown.2 with⟨q1,_⟩ |⟨g,cap,cur,q1,_⟩
   ·rw[e]at q1;injection q1 with q2;rw[eA]at q2;cases q2
   ·rw[e]at q1;injection q1 with q2;rw[eA]at q2;injection q2 with q3;injection q3
  have hu:((xs.drop (j*5)).take 5)[4]?=some (.slice K2 nd[j].ks.length c2'):=by rw[e5];rfl
  rw[List.getElem?_take,if_pos (by decide),List.getElem?_drop]at hu
  have:=hcell _ _ hu
  rw[show(⟨b,0,none⟩:Addr).add (j*5+4)=⟨b,j*5+4,none⟩by simp[Addr.add]]at this
  rw[ho,Nat.zero_add]
  exact this
 have e6:=c4.symm.trans hown4
 injection e6 with e6;injection e6 with e6 e6b e6c
 subst e6 e6c
 refine⟨K,c',c0,c1,c2,c3,c4,hK,λh1 a ha =>?_,by simpa [cvN]using hk2⟩
 have h1':0<nd[j].ks.length:=by simpa [cvN]using h1
 obtain⟨b3,cs3,e7,_,_,hx3⟩:=hk h1'
 rw[ha]at e7;injection e7 with e7;subst e7
 exact Nat.le_of_not_lt hx3
inductive Ans where
 |bad (p:Nat) (e:Nat)
 |good (nd:List Nd) (nest:Nat)
noncomputable def ansOf (R:List Tok->Rs)(l:List UInt8):Ans:=
 match Tk.cutR l 0 with
 | .bad p =>.bad p 2
 | .ok ts=>match R (ts.map cvT) with
  | .out =>.bad 0 0
  | .no p e =>.bad p e
  | .ok _ s=>if 4000<s.nd.length then .bad 0 8 else if 40<Tr.dpt (s.nd.map cvN) ((s.nd.length:Int)-1) then .bad 0 6 else .good s.nd s.mo
def ReadPost (a:Ans)(w:World)(e:Ending)(w':World):Prop:=
 Below w.heap.size w w'/\match a with
  | .bad p er=>e = .returned (.agg #[.slice none 0 0,.int .i64 0,.int .i64 0,.int .i64 (p:Int),.int .i64 (er:Int)])
  | .good nd nest=>∃A c,e = .returned (.agg #[.slice A nd.length c,.int .i64 ((nd.length:Int)-1),.int .i64 (nest:Int),.int .i64 0,.int .i64 0])/\NdsB w.heap.size w' A (nd.map cvN)
theorem read_bad {a:Ans}{w w':World}{p er:Nat}(h:a = .bad p er)(hb:Below w.heap.size w w'):ReadPost a w (.returned (.agg #[.slice none 0 0,.int .i64 0,.int .i64 0,.int .i64 (p:Int),.int .i64 (er:Int)])) w':=by
 refine⟨hb,?_⟩;rw[h]
theorem read_good {a:Ans}{w w':World}{nd:List Nd}{nest:Nat}{A:Option Addr}{c:Nat}(h:a = .good nd nest)(hb:Below w.heap.size w w')(hN:NdsB w.heap.size w' A (nd.map cvN)):ReadPost a w (.returned (.agg #[.slice A nd.length c,.int .i64 ((nd.length:Int)-1),.int .i64 (nest:Int),.int .i64 0,.int .i64 0])) w':=by
 refine⟨hb,?_⟩;rw[h];exact⟨A,c,rfl,hN⟩
theorem pz_new {w:World}{A:Option Addr}{c:Nat}{ts:List Tok}(hT:Toks w A ts)(hA:∀a,A=some a->a.block<w.heap.size)(ht:TsOk ts)(hl:ts.length<=100000):Pz (λb=>b<w.heap.size) (w.alloc (.cells #[.slice A ts.length c,.int .i64 0,.slice none 0 0,.int .i64 0,.int .i64 0] 151)) (w.heap.size+1) w.heap.size A c ts (.slice none 0 0) st0:=by
 have hb:=heap1 w (.cells #[.slice A ts.length c,.int .i64 0,.slice none 0 0,.int .i64 0,.int .i64 0] 151)
 refine⟨⟨Bx.new w 151 _,hT.below hb,hl,ht.pos,by decide,by decide,λa ha=>by have:=hA a ha;omega⟩,⟨[],World.ownsRow_nil _ _ 50 5,λj hj=>absurd hj (Nat.not_lt_zero j)⟩,by rw[World.size_alloc];exact Nat.le_refl _,by omega,λa ha=>by have:=hA a ha;omega,Nat.le_refl _,⟨by decide,by decide⟩,ht,λb q=>by rw[World.size_alloc];omega⟩
theorem set5 {w w1:World}{B b:Nat}{u0 u1 u2 u3 u4:Value}(hB:Bx w1 b 111 [u0,u1,u2,u3,u4])(hb:Below B w w1)(hBb:B<=b)(v0 v1 v2 v3 v4:Value) :
  Bx (((((w1.setCell ⟨b,0,none⟩ v0).setCell ⟨b,1,none⟩ v1).setCell ⟨b,2,none⟩ v2).setCell ⟨b,3,none⟩ v3).setCell ⟨b,4,none⟩ v4) b 111 [v0,v1,v2,v3,v4]/\Below B w (((((w1.setCell ⟨b,0,none⟩ v0).setCell ⟨b,1,none⟩ v1).setCell ⟨b,2,none⟩ v2).setCell ⟨b,3,none⟩ v3).setCell ⟨b,4,none⟩ v4):=by
 have hE:=((((hB.set_ 0 v0).set_ 1 v1).set_ 2 v2).set_ 3 v3).set_ 4 v4
 simp only[List.set_cons_zero,List.set_cons_succ]at hE
 exact⟨hE,((((hb.setCell (p:=⟨b,0,none⟩) hBb v0).setCell (p:=⟨b,1,none⟩) hBb v1).setCell (p:=⟨b,2,none⟩) hBb v2).setCell (p:=⟨b,3,none⟩) hBb v3).setCell (p:=⟨b,4,none⟩) hBb v4⟩
section
variable {ops:Array Oper} {Q:Exit->Act->World->Prop} {S:World->Prop} {fuel:Nat} {listed:Array Bool} {a:Act} {w:World} {o:Oper}
theorem y_len23 {x:Operand}{A:Option Addr}{n c:Nat}(ho:o.op = .call { callee :=.builtin .len,args := #[x],argTypes := #[22] })(hx:a.eval x = .slice A n c):∀w,S w->(execOp a.eval o).run Tryz.prog w = .ok (.value (.int .i64 (n:Int))) w:=λw _=>by
 have h22:Tryz.prog.underlying 22=some (.slice (Tryz.prog.elem 22)):=by kernel_rfl
 have hl:=run_len_slice (P:=Tryz.prog) w 22 o.type A n c h22
 unfold execOp
 simp only[ho,resolve,invoke,builtin,Sem.run_bind,Sem.run_pure,Result.andThen_ok,List.map_toArray,List.map_cons,List.map_nil,hx]
 simp[hl]
 rfl
theorem run_build25 (A:Option Addr)(n c:Nat)(r:Int)(w:World):(Instr.build 24 #[(0,.slice A n c),(1,.int .i64 r)]).run Tryz.prog w = .ok (.agg #[.slice A n c,.int .i64 r]) w:=by kernel_rfl
theorem y_build25 {x y:Operand}{A:Option Addr}{n c:Nat}{r:Int}(ho:o.op = .build 24 #[(0,x),(1,y)])(hx:a.eval x = .slice A n c)(hy:a.eval y = .int .i64 r):∀w,S w->(execOp a.eval o).run Tryz.prog w = .ok (.value (.agg #[.slice A n c,.int .i64 r])) w:=λw _=>by
 unfold execOp;simp only[ho,List.map_toArray,List.map_cons,List.map_nil,hx,hy,Sem.run_bind,run_build25,Sem.run_pure,Result.andThen_ok]
theorem alloc25 {K:Act->World->Prop}(ho:o.op = .alloc 24)(h:K (a.put o.dst (.pointer (some ⟨w.heap.size,0,none⟩))) (w.alloc (.cells #[.slice none 0 0,.int .i64 0] 24))):o.wp Tryz.prog a w K Q:=by
 unfold Oper.wp execOp
 simp[ho,go_sem]
 exact h
theorem store25 {K:Act->World->Prop}{x y:Operand}{g n c:Nat}{A:Option Addr}{r:Int}{u0 u1:Value}(ho:o.op = .store 24 x y)(hx:a.eval x = .pointer (some ⟨g,0,none⟩))(hy:a.eval y = .agg #[.slice A n c,.int .i64 r])(hB:Bx w g 24 [u0,u1])
  (h:K (a.put o.dst undef) ((w.setCell ⟨g,0,none⟩ (.slice A n c)).setCell ⟨g,1,none⟩ (.int .i64 r))):o.wp Tryz.prog a w K Q:=by
 have c0:=hB.cell 0
 have c1:=hB.cell 1
 have f0:=hB.frozen 0
 have f1:=hB.frozen 1
 simp only[List.getElem?_cons_zero,List.getElem?_cons_succ]at c0 c1
 unfold Oper.wp execOp
 simp only[ho,hx,hy]
 simp[go_sem,c0,c1,f0,f1]
 exact h
end
theorem sub1 (n:Nat)(hn:(n:Int)<=4000000)(w:World):(binOp .sub 3 (.int .i64 (n:Int)) (.int .i64 1)).run Tryz.prog w = .ok (.int .i64 ((n:Int)-1)) w:=by
 have e:IntKind.wrap .i64 ((n:Int)-1)=(n:Int)-1:=by
  rw[IntKind.wrap_i64];omega
 simp[go_sem,e]
def CutOk (us:List Tk.Tok)(w:World)(e:Ending)(w':World):Prop:=∃A c,e = .returned (.tuple #[.slice A us.length c,.int .i64 0,.int .i64 0])/\Below w.heap.size w w'/\Tk.Toks w' A us/\∀a,A=some a->w.heap.size<=a.block
structure RdG (fn:Nat) (R:List Tok->Rs):Prop where
 ok:∀ {ts:List Tok},TsOk ts->Okr ts False st0 0 0 (R ts)
 fol:∀ {X:Nat->Prop} {w:World} {base g c:Nat} {A:Option Addr} {ts:List Tok} {V:Value},Pz X w base g A c ts V st0->R ts ≠ .out->Calls Tryz.prog 125 #[.pointer (some ⟨g,0,none⟩),.func (.func fn) #[] #[]] w (FPost X base g A c ts V w (R ts))
 kid:∀ {ts:List Tok} {v:List Int} {s:St},R ts = .ok v s->∀x ∈ s.nd,x.ks.length<=s.nd.length
 nk:∀ {ts:List Tok} {v:List Int} {s:St},R ts = .ok v s->s.nd.length<=s.nx+1
set_option maxRecDepth 100000 in
set_option maxHeartbeats 2500000 in
theorem read_g {fn:Nat}{R:List Tok->Rs}(G:RowKit.Hid (RdG fn R))(s:ByteArray)(w:World)(hE:Tk.Errs w)(hs:s.size<=20000):Calls Tryz.prog 84 #[.string s,.func (.func fn) #[] #[]] w (ReadPost (ansOf R s.data.toList) w):=by
 have hb0:Below w.heap.size w (w.alloc (.cells #[.slice none 0 0,.int .i64 0,.int .i64 0,.int .i64 0,.int .i64 0] 111)):=heap1 _ _
 have HC:=hid (Tk.cut_any s _ (hE.below hb0) hs)
 have HL:=hid (show s.data.toList.length=s.size by simp)
 obtain⟨a,ha⟩:∃a,a=ansOf R s.data.toList:=⟨_,rfl⟩
 rw[<- ha]
 unfold ansOf at ha
 cases hc:Tk.cutR s.data.toList 0 with
 |bad p=>
  rw[hc]at ha
  replace ha:a = .bad p 2:=ha
  have HP:=hid (show Calls Tryz.prog 124 #[.string s] (w.alloc (.cells #[.slice none 0 0,.int .i64 0,.int .i64 0,.int .i64 0,.int .i64 0] 111)) (VPost (.tuple #[.slice none 0 0,.int .i64 (p:Int),.int .i64 2]) (w.alloc (.cells #[.slice none 0 0,.int .i64 0,.int .i64 0,.int .i64 0,.int .i64 0] 111)))from HC.out.mono (by
   rintro e w' ⟨q1,q2⟩
   rw[hc]at q2
   exact⟨q2,q1⟩))
  have HA:=hid ha
  have HB0:=hid hb0
  clear HC ha hc hE hs hb0
  go_enter Tryz.func84,Tryz.ntmps84
  go_wp2_with (go_at_call 124;refine HP.out.mono ?_)
  rintro e w1 ⟨rfl,hb1⟩
  have hB:=(Bx.new w 111 [.slice none 0 0,.int .i64 0,.int .i64 0,.int .i64 0,.int .i64 0]).below hb1 (Bx.new w 111 _).lt
  have HB:=hid (And.intro hB (bt HB0.out hb1))
  clear hb1
  have c0:=(hB.cell 0).trans rfl
  have c1:=(hB.cell 1).trans rfl
  have c2:=(hB.cell 2).trans rfl
  have c3:=(hB.cell 3).trans rfl
  have c4:=(hB.cell 4).trans rfl
  have f0:=hB.frozen 0
  have f1:=hB.frozen 1
  have f2:=hB.frozen 2
  have f3:=hB.frozen 3
  have f4:=hB.frozen 4
  clear hB
  go_wp2
  obtain⟨hE,hbE⟩:=set5 HB.out.1 HB.out.2 (Nat.le_refl _) (.slice none 0 0) (.int .i64 0) (.int .i64 0) (.int .i64 ((p:Int))) (.int .i64 (2))
  have z0:=(hE.cell 0).trans rfl
  have z1:=(hE.cell 1).trans rfl
  have z2:=(hE.cell 2).trans rfl
  have z3:=(hE.cell 3).trans rfl
  have z4:=(hE.cell 4).trans rfl
  generalize ((((w1.setCell ⟨w.heap.size,0,none⟩ (.slice none 0 0)).setCell ⟨w.heap.size,1,none⟩ (.int .i64 0)).setCell ⟨w.heap.size,2,none⟩ (.int .i64 0)).setCell ⟨w.heap.size,3,none⟩ (.int .i64 ((p:Int)))).setCell ⟨w.heap.size,4,none⟩ (.int .i64 (2))=W9 at *
  exact bodyPost_ret (v :=.agg #[.slice none 0 0,.int .i64 0,.int .i64 0,.int .i64 ((p:Int)),.int .i64 (2)]) (by simp[results,Tryz.f84,go_sem,z0,z1,z2,z3,z4]) rfl (read_bad (p:=p) (er:=2) HA.out hbE)
 |ok us=>
  rw[hc]at ha
  have ht:=ts_ok hc
  have hlen:us.length<=20001:=by have:=ts_len hc;have:=HL.out;omega
  have hR:=G.out.ok ht
  have HP:=hid (show Calls Tryz.prog 124 #[.string s] (w.alloc (.cells #[.slice none 0 0,.int .i64 0,.int .i64 0,.int .i64 0,.int .i64 0] 111)) (CutOk us (w.alloc (.cells #[.slice none 0 0,.int .i64 0,.int .i64 0,.int .i64 0,.int .i64 0] 111)))from HC.out.mono (by
   rintro e w' ⟨q1,q2⟩
   rw[hc]at q2
   obtain⟨A,c,q3,q4,q5,_⟩:=q2
   exact⟨A,c,q3,q1,q4,q5⟩))
  have HH:=hid (And.intro ha (And.intro ht (And.intro hR hb0)))
  clear HC ha hc hE hs ht hR hb0
  go_enter Tryz.func84,Tryz.ntmps84
  go_wp2_with (go_at_call 124;refine HP.out.mono ?_)
  rintro e w1 ⟨A,c,rfl,hb1,hT,hA⟩
  obtain⟨ts,hts⟩:∃ts,ts=us.map cvT:=⟨_,rfl⟩
  have hT:=toks_cv hT
  have hul:us.length=ts.length:=by rw[hts,List.length_map]
  rw[<- hts]at hT HH
  rw[hul]at hlen |-
  have hz:=pz_new (c:=c) hT (λx hx=>by
   obtain⟨b,off,e,hl,_⟩:=hT HH.out.2.1.pos
   rw[hx]at e;injection e with e;subst e;exact hl) HH.out.2.1 (by omega)
  have hne:R ts ≠ .out:=λe=>by have:=HH.out.2.2.1;rw[e]at this;exact this
  have hB:=(Bx.new w 111 [.slice none 0 0,.int .i64 0,.int .i64 0,.int .i64 0,.int .i64 0]).below hb1 (Bx.new w 111 _).lt
  have HX:=hid (And.intro (bt HH.out.2.2.2 hb1) (And.intro hB hlen))
  have HF:=hid (G.out.fol hz hne)
  clear hT hA hz hne hB hb1 hts hul hlen
  go_wp2_with (go_at_call 125;refine HF.out.mono ?_)
  rintro e w3 (⟨p,er,hr,rfl,hfr⟩ |⟨v,s',V',hr,rfl,hx3,hn3,hF3⟩)
  ·replace hr:R ts = .no p er:=hr
   have her:er=2\/er=6:=by
    have q:=HH.out.2.2.1
    rw[hr]at q
    exact q.2
   have hq:((er:Int) != 0)=true:=by rw[bne_iff_ne];omega
   have HA:=hid (show a = .bad p er from HH.out.1.trans (by rw[hr]))
   have hz1:=HX.out.2.1.lt
   have k2:=hfr.below (B:=w.heap.size) (λi q=>q.elim (λe=>by omega) (λe=>absurd e (by simp[Value.ownBlock]))) (by rw[World.size_alloc];omega)
   have hB3:=Bx.fr (Tr.Bx.alloc HX.out.2.1 _) hfr (λq=>q.elim (λe=>by omega) (λe=>absurd e (by simp[Value.ownBlock])))
   obtain⟨W4,hW4⟩:∃W4,w3.alloc (.cells #[.int .i64 (p:Int),.int .i64 (er:Int)] 109)=W4:=⟨_,rfl⟩
   have hb4:Below w3.heap.size w3 W4:=by rw[<- hW4];exact heap1 _ _
   have hR4:Bx W4 w3.heap.size 109 [.int .i64 (p:Int),.int .i64 (er:Int)]:=by rw[<- hW4];exact Bx.new w3 109 _
   have hB4:=hB3.below hb4 hB3.lt
   have r0:=(hR4.cell 0).trans rfl
   have r1:=(hR4.cell 1).trans rfl
   have c0:=(hB4.cell 0).trans rfl
   have c1:=(hB4.cell 1).trans rfl
   have c2:=(hB4.cell 2).trans rfl
   have c3:=(hB4.cell 3).trans rfl
   have c4:=(hB4.cell 4).trans rfl
   have f0:=hB4.frozen 0
   have f1:=hB4.frozen 1
   have f2:=hB4.frozen 2
   have f3:=hB4.frozen 3
   have f4:=hB4.frozen 4
   have HB:=hid (And.intro hB4 (bt ((bt HX.out.1 (heap1 _ _)).trans k2) hb4))
   clear hfr k2 hB3 hb4 hR4 hB4 hr her
   go_wp2
   obtain⟨hE,hbE⟩:=set5 HB.out.1 HB.out.2 (Nat.le_refl _) (.slice none 0 0) (.int .i64 0) (.int .i64 0) (.int .i64 ((p:Int))) (.int .i64 ((er:Int)))
   have z0:=(hE.cell 0).trans rfl
   have z1:=(hE.cell 1).trans rfl
   have z2:=(hE.cell 2).trans rfl
   have z3:=(hE.cell 3).trans rfl
   have z4:=(hE.cell 4).trans rfl
   generalize ((((W4.setCell ⟨w.heap.size,0,none⟩ (.slice none 0 0)).setCell ⟨w.heap.size,1,none⟩ (.int .i64 0)).setCell ⟨w.heap.size,2,none⟩ (.int .i64 0)).setCell ⟨w.heap.size,3,none⟩ (.int .i64 ((p:Int)))).setCell ⟨w.heap.size,4,none⟩ (.int .i64 ((er:Int)))=W9 at *
   exact bodyPost_ret (v :=.agg #[.slice none 0 0,.int .i64 0,.int .i64 0,.int .i64 ((p:Int)),.int .i64 ((er:Int))]) (by simp[results,Tryz.f84,go_sem,z0,z1,z2,z3,z4]) rfl (read_bad HA.out hbE)
  ·replace hr:R ts = .ok v s':=hr
   have hkid:=G.out.kid hr
   have HA:=hid (HH.out.1.trans (by rw[hr]:_=if 4000<s'.nd.length then Ans.bad 0 8 else if 40<Tr.dpt (s'.nd.map cvN) ((s'.nd.length:Int)-1) then Ans.bad 0 6 else Ans.good s'.nd s'.mo))
   obtain⟨K,cc,rfl,hNd⟩:=ndsB_of hn3 (Nat.le_succ _)
   have hKb:=hNd
   have hz1:=HX.out.2.1.lt
   have k2:=hF3.fr.below (B:=w.heap.size) (λi q=>q.elim (λe=>by omega) (λe=>absurd e (by simp[Value.ownBlock]))) (by rw[World.size_alloc];omega)
   have hB3:=Bx.fr (Tr.Bx.alloc HX.out.2.1 _) hF3.fr (λq=>q.elim (λe=>by omega) (λe=>absurd e (by simp[Value.ownBlock])))
   obtain⟨W4,hW4⟩:∃W4,w3.alloc (.cells #[.int .i64 0,.int .i64 0] 109)=W4:=⟨_,rfl⟩
   have hb4:Below w3.heap.size w3 W4:=by rw[<- hW4];exact heap1 _ _
   have hR4:Bx W4 w3.heap.size 109 [.int .i64 0,.int .i64 0]:=by rw[<- hW4];exact Bx.new w3 109 _
   have hB4:=hB3.below hb4 hB3.lt
   have hG4:=hx3.box.below hb4 hx3.box.lt
   have hN4:=hNd.below hb4
   have HW4:=hid hW4
   have HB4:=hid (And.intro hB4 (And.intro (bt ((bt HX.out.1 (heap1 _ _)).trans k2) hb4) (And.intro hG4 (And.intro hN4 (And.intro hKb hz1)))))
   have hnl:(s'.nd.length:Int)<=4000000:=by have q1:=hx3.nx;have q2:=HX.out.2.2;have q3:=G.out.nk hr;omega
   obtain⟨n,hn⟩:∃n,n=s'.nd.length:=⟨_,rfl⟩
   rw[<- hn]at hnl
   clear hF3 k2 hB3 hb4 hR4 hB4 hG4 hN4 hr hNd hKb hx3 hn3 hW4
   have HN:=hid hn
   clear hn
   go_upto_region 8 with(fail)
   rw[HW4.out]
   have hn:=HN.out
   obtain⟨W5,hW5⟩:∃W5:World,{ W4 with drawn:=W4.drawn+1 }=W5:=⟨_,rfl⟩
   have hS:Bx W5 w1.heap.size 151 [.slice A ts.length c,.int .i64 (s'.nx:Int),.slice K n cc,.int .i64 (s'.op:Int),.int .i64 (s'.mo:Int)]:=by rw[<- hW5];have q:=HB4.out.2.2.1;rw[<- hn]at q;exact q
   have hb5:Below W4.heap.size W4 W5:=by rw[<- hW5];exact bdrew (Below.refl _ _)
   refine wp_region_held (S:=λw'=>Bx w' w1.heap.size 151 [.slice A ts.length c,.int .i64 (s'.nx:Int),.slice K n cc,.int .i64 (s'.op:Int),.int .i64 (s'.mo:Int)]) (by kernel_rfl) ?_
   rw[hW5]
   clear hW5
   refine hpu 0 (.pointer (some ⟨w1.heap.size,0,none⟩)) (by kernel_rfl) rfl rfl (λ_ _ _ h=>h) rfl (y_move rfl rfl) hS ?_
   simp only[ap]
   refine hpu 1 (.pointer (some ⟨w1.heap.size,0,none⟩)) (by kernel_rfl) rfl rfl (λ_ _ _ h=>h) rfl (y_nil rfl rfl) hS ?_
   simp only[ap]
   refine hpu 2 (.pointer (some ⟨w1.heap.size,2,none⟩)) (by kernel_rfl) rfl rfl (λ_ _ _ h=>h) rfl (y_field rfl rfl (run_field70_2 _)) hS ?_
   simp only[ap]
   refine hpu 3 (.slice K n cc) (by kernel_rfl) rfl rfl (λ_ _ _ h=>h) rfl (y_load rfl rfl (λw' q=>run_load23 ((q.cell 2).trans rfl))) hS ?_
   simp only[ap]
   refine hpu 4 (.pointer (some ⟨w1.heap.size,0,none⟩)) (by kernel_rfl) rfl rfl (λ_ _ _ h=>h) rfl (y_move rfl rfl) hS ?_
   simp only[ap]
   refine hpu 5 (.pointer (some ⟨w1.heap.size,0,none⟩)) (by kernel_rfl) rfl rfl (λ_ _ _ h=>h) rfl (y_nil rfl rfl) hS ?_
   simp only[ap]
   refine hpu 6 (.pointer (some ⟨w1.heap.size,2,none⟩)) (by kernel_rfl) rfl rfl (λ_ _ _ h=>h) rfl (y_field rfl rfl (run_field70_2 _)) hS ?_
   simp only[ap]
   refine hpu 7 (.slice K n cc) (by kernel_rfl) rfl rfl (λ_ _ _ h=>h) rfl (y_load rfl rfl (λw' q=>run_load23 ((q.cell 2).trans rfl))) hS ?_
   simp only[ap]
   refine hpu 8 (.int .i64 (n:Int)) (by kernel_rfl) rfl rfl (λ_ _ _ h=>h) rfl (y_len23 rfl rfl) hS ?_
   simp only[ap]
   refine hpu 9 (.int .i64 ((n:Int)-1)) (by kernel_rfl) rfl rfl (λ_ _ _ h=>h) rfl (y_bin rfl rfl rfl (λw=>by simp[go_sem]) (sub1 n hnl)) hS ?_
   simp only[ap]
   refine hpu 10 (.agg #[.slice K n cc,.int .i64 ((n:Int)-1)]) (by kernel_rfl) rfl rfl (λ_ _ _ h=>h) rfl (y_build25 rfl rfl rfl) hS ?_
   simp only[ap]
   refine h_one 11 ({ dst:=some 10,op:=Op.alloc 24,type:=0,pos := "parse.go:57",after := #[],guard:=none }:Oper) rfl (by kernel_rfl) rfl (alloc25 rfl ⟨hS.alloc _,?_⟩)
   simp only[ap]
   have hS5:=Tr.Bx.alloc hS (.cells #[.slice none 0 0,.int .i64 0] 24)
   have hT5:=Bx.new W5 24 [.slice none 0 0,.int .i64 0]
   have hT6:=(hT5.set_ 0 (.slice K n cc)).set_ 1 (.int .i64 ((n:Int)-1))
   simp only[List.set_cons_zero,List.set_cons_succ]at hT6
   have hS6:=(hS5.far (p:=⟨W5.heap.size,0,none⟩) (by have:=hS.lt;show w1.heap.size≠W5.heap.size;omega) (.slice K n cc)).far (p:=⟨W5.heap.size,1,none⟩) (by have:=hS.lt;show w1.heap.size≠W5.heap.size;omega) (.int .i64 ((n:Int)-1))
   have hb6:=((heap1 W5 (.cells #[.slice none 0 0,.int .i64 0] 24)).setCell (p:=⟨W5.heap.size,0,none⟩) (Nat.le_refl _) (.slice K n cc)).setCell (p:=⟨W5.heap.size,1,none⟩) (Nat.le_refl _) (.int .i64 ((n:Int)-1))
   refine h_one 12 ({ dst:=none,op:=Op.store 24 (Operand.tmp 10) (Operand.tmp 45),type:=0,pos := "parse.go:57",after := #[{ on:=11,ground:=Ground.data },{ on:=10,ground:=Ground.data },{ on:=0,ground:=Ground.phase },{ on:=1,ground:=Ground.phase },{ on:=2,ground:=Ground.phase },{ on:=3,ground:=Ground.phase },{ on:=4,ground:=Ground.phase },{ on:=5,ground:=Ground.phase },{ on:=6,ground:=Ground.phase },{ on:=7,ground:=Ground.phase },{ on:=8,ground:=Ground.phase },{ on:=9,ground:=Ground.phase },{ on:=10,ground:=Ground.phase },{ on:=11,ground:=Ground.phase }],guard:=none }:Oper) rfl (by kernel_rfl) rfl (store25 rfl rfl rfl hT5 ⟨hS6,?_⟩)
   simp only[Act.put]
   refine wpAnyH_done (by kernel_rfl) ?_ _
   generalize ((W5.alloc (.cells #[.slice none 0 0,.int .i64 0] 24)).setCell ⟨W5.heap.size,0,none⟩ (.slice K n cc)).setCell ⟨W5.heap.size,1,none⟩ (.int .i64 ((n:Int)-1))=W6 at *
   obtain⟨hB4,hbw4,_,hN4,hKb,hz1⟩:=HB4.out
   have hN6:=hN4.below (bt hb5 hb6)
   have hB6:=(hB4.below hb5 hB4.lt).below hb6 (Nat.lt_of_lt_of_le hB4.lt hb5.size)
   have hbw6:=bt (bt hbw4 hb5) hb6
   have hlen:(s'.nd.map cvN).length=n:=by rw[List.length_map,hn]
   have hkd:∀x ∈ s'.nd.map cvN,x.ks.length<=(s'.nd.map cvN).length:=λx hx=>by
    obtain⟨y,hy,rfl⟩:=List.mem_map.1 hx
    rw[List.length_map]
    exact hkid y hy
   have ht:=tooLarge_any K cc n (s'.nd.map cvN) ((n:Int)-1) hN6.nds hlen.symm hkd
   have ha:=HA.out
   rw[<- hn]at ha
   have t0:=(hT6.cell 0).trans rfl
   have t1:=(hT6.cell 1).trans rfl
   have HE:=hid (And.intro hB6 (And.intro hbw6 (And.intro hN6 (And.intro hS6 (And.intro hT6 (And.intro hKb hz1))))))
   clear hB4 hbw4 hN4 hKb hz1 hN6 hB6 hbw6 hlen hkd hT6 hS6 hb6 hb5 hkid HN HA
   have HQ:=hid hn
   clear hn
   generalize hdp:Tr.dpt (s'.nd.map cvN) ((n:Int)-1)=dp at *
   clear hdp
   by_cases h4:4000<n
   ·rw[if_pos h4]at ht ha
    have HT:=hid ht
    have HA:=hid ha
    clear ht ha h4
    go_wp2_with (go_at_call 126;refine HT.out.mono ?_)
    rintro e w7 ⟨rfl,hb7⟩
    obtain⟨hB6,hbw6,hN6,hS6,hT6,hKb,hz1⟩:=HE.out
    have hB7:=hB6.below hb7 hB6.lt
    have c0:=(hB7.cell 0).trans rfl
    have c1:=(hB7.cell 1).trans rfl
    have c2:=(hB7.cell 2).trans rfl
    have c3:=(hB7.cell 3).trans rfl
    have c4:=(hB7.cell 4).trans rfl
    have f0:=hB7.frozen 0
    have f1:=hB7.frozen 1
    have f2:=hB7.frozen 2
    have f3:=hB7.frozen 3
    have f4:=hB7.frozen 4
    have HB:=hid (And.intro hB7 (bt hbw6 hb7))
    clear hB6 hbw6 hN6 hS6 hT6 hKb hz1 hB7 hb7 t0 t1 HE HT
    go_wp2
    obtain⟨hE,hbE⟩:=set5 HB.out.1 HB.out.2 (Nat.le_refl _) (.slice none 0 0) (.int .i64 0) (.int .i64 0) (.int .i64 (0)) (.int .i64 (8))
    have z0:=(hE.cell 0).trans rfl
    have z1:=(hE.cell 1).trans rfl
    have z2:=(hE.cell 2).trans rfl
    have z3:=(hE.cell 3).trans rfl
    have z4:=(hE.cell 4).trans rfl
    generalize ((((w7.setCell ⟨w.heap.size,0,none⟩ (.slice none 0 0)).setCell ⟨w.heap.size,1,none⟩ (.int .i64 0)).setCell ⟨w.heap.size,2,none⟩ (.int .i64 0)).setCell ⟨w.heap.size,3,none⟩ (.int .i64 (0))).setCell ⟨w.heap.size,4,none⟩ (.int .i64 (8))=W9 at *
    exact bodyPost_ret (v :=.agg #[.slice none 0 0,.int .i64 0,.int .i64 0,.int .i64 (0),.int .i64 (8)]) (by simp[results,Tryz.f84,go_sem,z0,z1,z2,z3,z4]) rfl (read_bad (p:=0) (er:=8) HA.out hbE)
   rw[if_neg h4]at ht ha
   by_cases h5:40<dp
   ·rw[if_pos h5]at ht ha
    have HT:=hid ht
    have HA:=hid ha
    clear ht ha h4 h5
    go_wp2_with (go_at_call 126;refine HT.out.mono ?_)
    rintro e w7 ⟨rfl,hb7⟩
    obtain⟨hB6,hbw6,hN6,hS6,hT6,hKb,hz1⟩:=HE.out
    have hB7:=hB6.below hb7 hB6.lt
    have c0:=(hB7.cell 0).trans rfl
    have c1:=(hB7.cell 1).trans rfl
    have c2:=(hB7.cell 2).trans rfl
    have c3:=(hB7.cell 3).trans rfl
    have c4:=(hB7.cell 4).trans rfl
    have f0:=hB7.frozen 0
    have f1:=hB7.frozen 1
    have f2:=hB7.frozen 2
    have f3:=hB7.frozen 3
    have f4:=hB7.frozen 4
    have HB:=hid (And.intro hB7 (bt hbw6 hb7))
    clear hB6 hbw6 hN6 hS6 hT6 hKb hz1 hB7 hb7 t0 t1 HE HT
    go_wp2
    obtain⟨hE,hbE⟩:=set5 HB.out.1 HB.out.2 (Nat.le_refl _) (.slice none 0 0) (.int .i64 0) (.int .i64 0) (.int .i64 (0)) (.int .i64 (6))
    have z0:=(hE.cell 0).trans rfl
    have z1:=(hE.cell 1).trans rfl
    have z2:=(hE.cell 2).trans rfl
    have z3:=(hE.cell 3).trans rfl
    have z4:=(hE.cell 4).trans rfl
    generalize ((((w7.setCell ⟨w.heap.size,0,none⟩ (.slice none 0 0)).setCell ⟨w.heap.size,1,none⟩ (.int .i64 0)).setCell ⟨w.heap.size,2,none⟩ (.int .i64 0)).setCell ⟨w.heap.size,3,none⟩ (.int .i64 (0))).setCell ⟨w.heap.size,4,none⟩ (.int .i64 (6))=W9 at *
    exact bodyPost_ret (v :=.agg #[.slice none 0 0,.int .i64 0,.int .i64 0,.int .i64 (0),.int .i64 (6)]) (by simp[results,Tryz.f84,go_sem,z0,z1,z2,z3,z4]) rfl (read_bad (p:=0) (er:=6) HA.out hbE)
   rw[if_neg h5]at ht ha
   have HT:=hid ht
   have HA:=hid ha
   clear ht ha h4 h5
   go_wp2_with (go_at_call 126;refine HT.out.mono ?_)
   rintro e w7 ⟨rfl,hb7⟩
   obtain⟨hB6,hbw6,hN6,hS6,hT6,hKb,hz1⟩:=HE.out
   have hB7:=hB6.below hb7 hB6.lt
   have c0:=(hB7.cell 0).trans rfl
   have c1:=(hB7.cell 1).trans rfl
   have c2:=(hB7.cell 2).trans rfl
   have c3:=(hB7.cell 3).trans rfl
   have c4:=(hB7.cell 4).trans rfl
   have f0:=hB7.frozen 0
   have f1:=hB7.frozen 1
   have f2:=hB7.frozen 2
   have f3:=hB7.frozen 3
   have f4:=hB7.frozen 4
   have hS7:=hS6.below hb7 hS6.lt
   have hT7:=hT6.below hb7 hT6.lt
   have s4:=(hS7.cell 4).trans rfl
   have u0:=(hT7.cell 0).trans rfl
   have u1:=(hT7.cell 1).trans rfl
   have HB:=hid (And.intro hB7 (bt hbw6 hb7))
   have HNN:=hid (And.intro (hN6.below hb7) (And.intro hKb hz1))
   clear hB6 hbw6 hN6 hS6 hT6 hS7 hT7 hKb hz1 hB7 hb7 t0 t1 HE HT
   go_upto_region 12 with(fail)
   go_still_tail 6,(by kernel_rfl)
   change wpList _ _ _ _ _ _
   go_wp2
   obtain⟨hE,hbE⟩:=set5 HB.out.1 HB.out.2 (Nat.le_refl _) (.slice K n cc) (.int .i64 ((n:Int)-1)) (.int .i64 (s'.mo:Int)) (.int .i64 0) (.int .i64 0)
   have z0:=(hE.cell 0).trans rfl
   have z1:=(hE.cell 1).trans rfl
   have z2:=(hE.cell 2).trans rfl
   have z3:=(hE.cell 3).trans rfl
   have z4:=(hE.cell 4).trans rfl
   have hF9:Fr (λb=>b=w.heap.size) w7 (((((w7.setCell ⟨w.heap.size,0,none⟩ (.slice K n cc)).setCell ⟨w.heap.size,1,none⟩ (.int .i64 ((n:Int)-1))).setCell ⟨w.heap.size,2,none⟩ (.int .i64 (s'.mo:Int))).setCell ⟨w.heap.size,3,none⟩ (.int .i64 0)).setCell ⟨w.heap.size,4,none⟩ (.int .i64 0)):=((((Fr.set (E:=λb=>b=w.heap.size) (Fr.refl _ _) rfl _).set rfl _).set rfl _).set rfl _).set rfl _
   have hN9:=(HNN.out.1.fr hF9 (λb q=>by have:=HNN.out.2.2;omega)).mono (B':=w.heap.size) (by have:=HNN.out.2.2;omega)
   generalize ((((w7.setCell ⟨w.heap.size,0,none⟩ (.slice K n cc)).setCell ⟨w.heap.size,1,none⟩ (.int .i64 ((n:Int)-1))).setCell ⟨w.heap.size,2,none⟩ (.int .i64 (s'.mo:Int))).setCell ⟨w.heap.size,3,none⟩ (.int .i64 0)).setCell ⟨w.heap.size,4,none⟩ (.int .i64 0)=W9 at *
   have hn:=HQ.out
   subst hn
   exact bodyPost_ret (v :=.agg #[.slice K s'.nd.length cc,.int .i64 ((s'.nd.length:Int)-1),.int .i64 (s'.mo:Int),.int .i64 0,.int .i64 0]) (by simp[results,Tryz.f84,go_sem,z0,z1,z2,z3,z4]) rfl (read_good HA.out (bdrew hbE) hN9)
theorem read22 (s:ByteArray)(w:World)(hE:Tk.Errs w)(hs:s.size<=20000):Calls Tryz.prog 84 #[.string s,.func (.func 85) #[] #[]] w (ReadPost (ansOf progR s.data.toList) w):=
 read_g (hid ⟨progR_ok,λhz hne=>follow22 hz hne,prog_kids,λ{ts v s} hr=>by have q3:=(nk_program ts (run_nk ts (steps ts)) st0 v s hr).1.1;have q4:st0.nd.length=0:=rfl;have q5:st0.nx=0:=rfl;rw[q4,q5]at q3;omega⟩) s w hE hs
end Go.Proofs.YtedkgofehbecmaaGreatDoor
namespace Go.Proofs.YtedkgofehbecmaaGreatDoor
open Go.Lib (hid)
open Go Go.RowKit
open Tr (Bx heap1 bt Nds Ints)
theorem filt_step {q:Int->Bool}{ks:List Int}{i:Nat}(h:i<ks.length):(ks.take (i+1)).filter q=(ks.take i).filter q++(if q ks[i] then [ks[i]] else []):=by
 rw[List.take_succ_eq_append_getElem h,List.filter_append]
 congr 1
 cases hq:q ks[i]<;>simp[hq]
end Go.Proofs.YtedkgofehbecmaaGreatDoor
