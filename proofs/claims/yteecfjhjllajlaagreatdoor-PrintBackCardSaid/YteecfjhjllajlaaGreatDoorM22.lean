/- PROVED: Qn Xv Xw. No more condition. -/
import Derived.Test.YteecfjhjllajlaaGreatDoorM21
import Derived.Test.YteecfjhjllajlaaGreatDoorM17
set_option maxHeartbeats 8000000
set_option maxRecDepth 100000
namespace Go.Proofs.YteecfjhjllajlaaGreatDoor
open Go.Lib (hid)
open Go Go.RowKit
section
open Tr (Bx aa bt au aP ax aA)
def kz (B:Nat)(w:World)(A:Option Addr)(l:List Tr.Nd):Prop:=
 0<l.length->∃b off,A=some ⟨b,off,none⟩/\B<=b/\b<w.heap.size/\∀j (hj:j<l.length),∃K c,w.cell? ⟨b,off+j*5,none⟩=some (.int .i64 l[j].kd)/\w.cell? ⟨b,off+j*5+1,none⟩=some (.int .i64 l[j].n) /\
  w.cell? ⟨b,off+j*5+2,none⟩=some (.int .i64 l[j].pl)/\w.cell? ⟨b,off+j*5+3,none⟩=some (.string l[j].tx)/\w.cell? ⟨b,off+j*5+4,none⟩=some (.slice K l[j].ks.length c)/\Tr.Ints w K l[j].ks/\(0<l[j].ks.length->∀a,K=some a->B<=a.block)/\l[j].ks.length<=c
theorem kz.nds {B:Nat}{w:World}{A:Option Addr}{l:List Tr.Nd}(h:kz B w A l):Tr.eF w A l:=λh0=>by
 obtain⟨b,off,e,_,hl,hc⟩:=h h0;refine⟨b,off,e,hl,λj hj =>?_⟩;obtain⟨K,c,c0,c1,c2,c3,c4,hK,_⟩:=hc j hj;exact⟨K,c,c0,c1,c2,c3,c4,hK⟩
theorem kz.fr {B:Nat}{E:Nat->Prop}{w w':World}{A:Option Addr}{l:List Tr.Nd}(h:kz B w A l)(k:Fr E w w')(hE:∀b,E b->b<B):kz B w' A l:=λh0=>by
 obtain⟨b,off,e,hB,hl,hc⟩:=h h0;have kb:=k.block b hl (λq=>by have:=hE b q;omega);refine⟨b,off,e,hB,Nat.lt_of_lt_of_le hl k.size,λj hj =>?_⟩;obtain⟨K,c,c0,c1,c2,c3,c4,hK,hKB,hkc⟩:=hc j hj;refine⟨K,c,(aA kb _).trans c0,(aA kb _).trans c1,(aA kb _).trans c2,(aA kb _).trans c3,(aA kb _).trans c4,λh1 =>?_,hKB,hkc⟩;obtain⟨b2,o2,e2,hl2,hc2⟩:=hK h1;have kb2:=k.block b2 hl2 (λq=>by have:=hE b2 q;have:=hKB h1 _ e2;have e3:(⟨b2,o2,none⟩:Addr).block=b2:=rfl;omega);exact⟨b2,o2,e2,Nat.lt_of_lt_of_le hl2 k.size,λj hj=>(aA kb2 _).trans (hc2 j hj)⟩
theorem kz.below {B:Nat}{w w':World}{A:Option Addr}{l:List Tr.Nd}(h:kz B w A l)(hb:Below w.heap.size w w'):kz B w' A l:=h.fr (E:=λ_=>False) (Fr.of hb) (λ_ q=>q.elim)
theorem kz.mono {B B':Nat}{w:World}{A:Option Addr}{l:List Tr.Nd}(h:kz B w A l)(hB:B'<=B):kz B' w A l:=λh0=>by
 obtain⟨b,off,e,hb,hl,hc⟩:=h h0;refine⟨b,off,e,Nat.le_trans hB hb,hl,λj hj =>?_⟩;obtain⟨K,c,c0,c1,c2,c3,c4,hK,hKB,hkc⟩:=hc j hj;exact⟨K,c,c0,c1,c2,c3,c4,hK,λh1 a ha=>Nat.le_trans hB (hKB h1 a ha),hkc⟩
theorem kz.room {B:Nat}{w:World}{A:Option Addr}{l:List Tr.Nd}(h:kz B w A l){p:Nat}(hp:p<l.length){bA off:Nat}(hA:A=some ⟨bA,off,none⟩){K:Option Addr}{m c:Nat}(hc:w.cell? ⟨bA,off+p*5+4,none⟩=some (.slice K m c)):m<=c:=by
 obtain⟨b,o,e,_,_,hall⟩:=h (by omega);rw[hA]at e;injection e with e
 injection e with e1 e2
 subst e1 e2;obtain⟨K2,c2,_,_,_,_,c4,_,_,hkc⟩:=hall p hp;have h6:=hc.symm.trans c4;injection h6 with h6
 injection h6 with x1 x2 x3
 omega
theorem Kz {B:Nat}{w:World}{base:Nat}{V:Value}{nd:List Nd}(h:iC w (λb=>b<B) base V nd)(hB:B<=base):∃A c,V=.slice A nd.length c/\kz B w A (nd.map dI):=by
 obtain⟨A,c,e,hN,hA⟩:=NW h;obtain⟨xs,hown,hcs⟩:=h;refine⟨A,c,e,λh0 =>?_⟩;obtain⟨b,off,eA,hl,hc⟩:=hN h0;refine⟨b,off,eA,Nat.le_trans hB (hA _ eA),hl,λj hj =>?_⟩;obtain⟨K,c',c0,c1,c2,c3,c4,hK⟩:=hc j hj;have hj':j<nd.length:=by rwa [List.length_map]at hj
 obtain⟨K2,c2',e5,hk,hk2⟩:=hcs j hj';have hown4:w.cell? ⟨b,off+j*5+4,none⟩=some (.slice K2 nd[j].ks.length c2'):=by
  have hq:V.ownBlock=some b:=by rw[e,eA];rfl
  have hcell:=hown.cells hq;have ho:off=0:=by
   rcases hown.2 with⟨q1,_⟩ |⟨g,cap,cur,q1,_⟩
   ·rw[e]at q1;injection q1 with q2;rw[eA]at q2;cases q2
   ·rw[e]at q1;injection q1 with q2;rw[eA]at q2;injection q2 with q3;injection q3
  have hu:((xs.drop (j*5)).take 5)[4]?=some (.slice K2 nd[j].ks.length c2'):=by rw[e5];rfl
  rw[List.getElem?_take,if_pos (by decide),List.getElem?_drop]at hu;have:=hcell _ _ hu;rw[show(⟨b,0,none⟩:Addr).add (j*5+4)=⟨b,j*5+4,none⟩by simp[Addr.add]]at this;rw[ho,Nat.zero_add];exact this
 have e6:=c4.symm.trans hown4;injection e6 with e6;injection e6 with e6 e6b e6c
 subst e6 e6c;refine⟨K,c',c0,c1,c2,c3,c4,hK,λh1 a ha =>?_,by simpa [dI]using hk2⟩;have h1':0<nd[j].ks.length:=by simpa [dI]using h1
 obtain⟨b3,cs3,e7,_,_,hx3⟩:=hk h1';rw[ha]at e7;injection e7 with e7;subst e7
 exact Nat.le_of_not_lt hx3
inductive uQ where
 |bad (p:Nat) (e:Nat)
 |good (nd:List Nd) (nest:Nat)
noncomputable def gW (R:List Tok->Rs)(l:List UInt8):uQ:=
 match Tk.iF l 0 with
 | .bad p =>.bad p 2
 | .ok ts=>match R (ts.map vL) with
  | .out =>.bad 0 0
  | .no p e =>.bad p e
  | .ok _ s=>if 4000<s.nd.length then .bad 0 8 else if 40<Tr.dpt (s.nd.map dI) ((s.nd.length:Int)-1) then .bad 0 6 else .good s.nd s.mo
def jU (a:uQ)(w:World)(e:Ending)(w':World):Prop:=
 Below w.heap.size w w'/\match a with
  | .bad p er=>e=.returned (.agg #[.slice none 0 0,.int .i64 0,.int .i64 0,.int .i64 (p:Int),.int .i64 (er:Int)])
  | .good nd nest=>∃A c,e=.returned (.agg #[.slice A nd.length c,.int .i64 ((nd.length:Int)-1),.int .i64 (nest:Int),.int .i64 0,.int .i64 0])/\kz w.heap.size w' A (nd.map dI)
theorem og {a:uQ}{w w':World}{p er:Nat}(h:a=.bad p er)(hb:Below w.heap.size w w'):jU a w (.returned (.agg #[.slice none 0 0,.int .i64 0,.int .i64 0,.int .i64 (p:Int),.int .i64 (er:Int)])) w':=by
 refine⟨hb,?_⟩;rw[h]
theorem DT {a:uQ}{w w':World}{nd:List Nd}{nest:Nat}{A:Option Addr}{c:Nat}(h:a=.good nd nest)(hb:Below w.heap.size w w')(hN:kz w.heap.size w' A (nd.map dI)):jU a w (.returned (.agg #[.slice A nd.length c,.int .i64 ((nd.length:Int)-1),.int .i64 (nest:Int),.int .i64 0,.int .i64 0])) w':=by
 refine⟨hb,?_⟩;rw[h];exact⟨A,c,rfl,hN⟩
theorem NY {w:World}{A:Option Addr}{c:Nat}{ts:List Tok}(hT:lW w A ts)(hA:∀a,A=some a->a.block<w.heap.size)(ht:pV ts)(hl:ts.length<=100000):Pz (λb=>b<w.heap.size) (w.alloc (.cells #[.slice A ts.length c,.int .i64 0,.slice none 0 0,.int .i64 0,.int .i64 0] 96)) (w.heap.size+1) w.heap.size A c ts (.slice none 0 0) st0:=by
 have hb:=aa w (.cells #[.slice A ts.length c,.int .i64 0,.slice none 0 0,.int .i64 0,.int .i64 0] 96);refine⟨⟨Bx.new w 96 _,hT.below hb,hl,ht.pos,by decide,by decide,λa ha=>by have:=hA a ha;omega⟩,⟨[],World.ownsRow_nil _ _ 37 5,λj hj=>absurd hj (Nat.not_lt_zero j)⟩,by rw[World.size_alloc];exact Nat.le_refl _,by omega,λa ha=>by have:=hA a ha;omega,Nat.le_refl _,⟨by decide,by decide⟩,ht,λb q=>by rw[World.size_alloc];omega⟩
theorem DU {w w1:World}{B b:Nat}{u0 u1 u2 u3 u4:Value}(hB:Bx w1 b 56 [u0,u1,u2,u3,u4])(hb:Below B w w1)(hBb:B<=b)(v0 v1 v2 v3 v4:Value) :
  Bx (((((w1.setCell ⟨b,0,none⟩ v0).setCell ⟨b,1,none⟩ v1).setCell ⟨b,2,none⟩ v2).setCell ⟨b,3,none⟩ v3).setCell ⟨b,4,none⟩ v4) b 56 [v0,v1,v2,v3,v4]/\Below B w (((((w1.setCell ⟨b,0,none⟩ v0).setCell ⟨b,1,none⟩ v1).setCell ⟨b,2,none⟩ v2).setCell ⟨b,3,none⟩ v3).setCell ⟨b,4,none⟩ v4):=by
 have hE:=((((hB.set_ 0 v0).set_ 1 v1).set_ 2 v2).set_ 3 v3).set_ 4 v4;simp only[List.set_cons_zero,List.set_cons_succ]at hE;exact⟨hE,((((hb.setCell (p:=⟨b,0,none⟩) hBb v0).setCell (p:=⟨b,1,none⟩) hBb v1).setCell (p:=⟨b,2,none⟩) hBb v2).setCell (p:=⟨b,3,none⟩) hBb v3).setCell (p:=⟨b,4,none⟩) hBb v4⟩
section
variable {ops:Array Oper} {Q:Exit->Act->World->Prop} {S:World->Prop} {fuel:Nat} {listed:Array Bool} {a:Act} {w:World} {o:Oper}
theorem KA {x:Operand}{A:Option Addr}{n c:Nat}(ho:o.op=.call {callee :=.builtin .len,args := #[x],argTypes := #[23]})(hx:a.eval x=.slice A n c):∀w,S w->(execOp a.eval o).run Tryz.prog w=.ok (.value (.int .i64 (n:Int))) w:=λw _=>by
 have h22:Tryz.prog.underlying 23=some (.slice (Tryz.prog.elem 23)):=by kernel_rfl
 have hl:=run_len_slice (P:=Tryz.prog) w 23 o.type A n c h22;unfold execOp;simp only[ho,resolve,invoke,builtin,Sem.run_bind,Sem.run_pure,Result.andThen_ok,List.map_toArray,List.map_cons,List.map_nil,hx];simp[hl];rfl
theorem zz (A:Option Addr)(n c:Nat)(r:Int)(w:World):(Instr.build 25 #[(0,.slice A n c),(1,.int .i64 r)]).run Tryz.prog w=.ok (.agg #[.slice A n c,.int .i64 r]) w:=by kernel_rfl
theorem DV {x y:Operand}{A:Option Addr}{n c:Nat}{r:Int}(ho:o.op=.build 25 #[(0,x),(1,y)])(hx:a.eval x=.slice A n c)(hy:a.eval y=.int .i64 r):∀w,S w->(execOp a.eval o).run Tryz.prog w=.ok (.value (.agg #[.slice A n c,.int .i64 r])) w:=λw _=>by
 unfold execOp;simp only[ho,List.map_toArray,List.map_cons,List.map_nil,hx,hy,Sem.run_bind,zz,Sem.run_pure,Result.andThen_ok]
theorem KC {K:Act->World->Prop}(ho:o.op=.alloc 25)(h:K (a.put o.dst (.pointer (some ⟨w.heap.size,0,none⟩))) (w.alloc (.cells #[.slice none 0 0,.int .i64 0] 25))):o.wp Tryz.prog a w K Q:=by
 unfold Oper.wp execOp;simp[ho,go_sem];exact h
theorem tT {K:Act->World->Prop}{x y:Operand}{g n c:Nat}{A:Option Addr}{r:Int}{u0 u1:Value}(ho:o.op=.store 25 x y)(hx:a.eval x=.pointer (some ⟨g,0,none⟩))(hy:a.eval y=.agg #[.slice A n c,.int .i64 r])(hB:Bx w g 25 [u0,u1])
  (h:K (a.put o.dst undef) ((w.setCell ⟨g,0,none⟩ (.slice A n c)).setCell ⟨g,1,none⟩ (.int .i64 r))):o.wp Tryz.prog a w K Q:=by
 have c0:=hB.cell 0;have c1:=hB.cell 1;have f0:=hB.frozen 0;have f1:=hB.frozen 1;simp only[List.getElem?_cons_zero,List.getElem?_cons_succ]at c0 c1;unfold Oper.wp execOp;simp only[ho,hx,hy];simp[go_sem,c0,c1,f0,f1];exact h
end
theorem NZ (n:Nat)(hn:(n:Int)<=4000000)(w:World):(binOp .sub 3 (.int .i64 (n:Int)) (.int .i64 1)).run Tryz.prog w=.ok (.int .i64 ((n:Int)-1)) w:=by
 have e:IntKind.wrap .i64 ((n:Int)-1)=(n:Int)-1:=by
  rw[IntKind.wrap_i64];omega
 simp[go_sem,e]
def Ql (us:List Tk.Tok)(w:World)(e:Ending)(w':World):Prop:=∃A c,e=.returned (.tuple #[.slice A us.length c,.int .i64 0,.int .i64 0])/\Below w.heap.size w w'/\Tk.lW w' A us/\∀a,A=some a->w.heap.size<=a.block
structure RS (fn:Nat) (R:List Tok->Rs):Prop where
 ok:∀ {ts:List Tok},pV ts->bD ts False st0 0 0 (R ts)
 fol:∀ {X:Nat->Prop} {w:World} {base g c:Nat} {A:Option Addr} {ts:List Tok} {V:Value},Pz X w base g A c ts V st0->R ts ≠ .out->Calls Tryz.prog 100 #[.pointer (some ⟨g,0,none⟩),.func (.func fn) #[] #[]] w (F8 X base g A c ts V w (R ts))
 kid:∀ {ts:List Tok} {v:List Int} {s:St},R ts=.ok v s->∀x ∈ s.nd,x.ks.length<=s.nd.length
 nk:∀ {ts:List Tok} {v:List Int} {s:St},R ts=.ok v s->s.nd.length<=s.nx+1
theorem Gw {fn:Nat}{R:List Tok->Rs}(G:RowKit.Hid (RS fn R))(s:ByteArray)(w:World)(hE:Tk.pO w)(hs:s.size<=20000):Calls Tryz.prog 54 #[.string s,.func (.func fn) #[] #[]] w (jU (gW R s.data.toList) w):=by
 have hb0:Below w.heap.size w (w.alloc (.cells #[.slice none 0 0,.int .i64 0,.int .i64 0,.int .i64 0,.int .i64 0] 56)):=aa _ _;have HC:=hid (Tk.Kv s _ (hE.below hb0) hs);have HL:=hid (show s.data.toList.length=s.size by simp);obtain⟨a,ha⟩:∃a,a=gW R s.data.toList:=⟨_,rfl⟩;rw[<- ha];unfold gW at ha;cases hc:Tk.iF s.data.toList 0 with
 |bad p=>
  rw[hc]at ha;replace ha:a=.bad p 2:=ha;have HP:=hid (show Calls Tryz.prog 99 #[.string s] (w.alloc (.cells #[.slice none 0 0,.int .i64 0,.int .i64 0,.int .i64 0,.int .i64 0] 56)) (bU (.tuple #[.slice none 0 0,.int .i64 (p:Int),.int .i64 2]) (w.alloc (.cells #[.slice none 0 0,.int .i64 0,.int .i64 0,.int .i64 0,.int .i64 0] 56)))from HC.out.mono (by
   rintro e w' ⟨q1,q2⟩;rw[hc]at q2;exact⟨q2,q1⟩))
  have HA:=hid ha;have HB0:=hid hb0;clear HC ha hc hE hs hb0;go_enter Tryz.func54,Tryz.ntmps54
  go_wp2_with (go_at_call 99;refine HP.out.mono ?_);rintro e w1 ⟨rfl,hb1⟩;have hB:=(Bx.new w 56 [.slice none 0 0,.int .i64 0,.int .i64 0,.int .i64 0,.int .i64 0]).below hb1 (Bx.new w 56 _).lt;have HB:=hid (And.intro hB (bt HB0.out hb1));clear hb1;have c0:=(hB.cell 0).trans rfl;have c1:=(hB.cell 1).trans rfl;have c2:=(hB.cell 2).trans rfl;have c3:=(hB.cell 3).trans rfl;have c4:=(hB.cell 4).trans rfl;have f0:=hB.frozen 0;have f1:=hB.frozen 1;have f2:=hB.frozen 2;have f3:=hB.frozen 3;have f4:=hB.frozen 4;clear hB;go_wp2;obtain⟨hE,hbE⟩:=DU HB.out.1 HB.out.2 (Nat.le_refl _) (.slice none 0 0) (.int .i64 0) (.int .i64 0) (.int .i64 ((p:Int))) (.int .i64 (2));have z0:=(hE.cell 0).trans rfl;have z1:=(hE.cell 1).trans rfl;have z2:=(hE.cell 2).trans rfl;have z3:=(hE.cell 3).trans rfl;have z4:=(hE.cell 4).trans rfl;generalize ((((w1.setCell ⟨w.heap.size,0,none⟩ (.slice none 0 0)).setCell ⟨w.heap.size,1,none⟩ (.int .i64 0)).setCell ⟨w.heap.size,2,none⟩ (.int .i64 0)).setCell ⟨w.heap.size,3,none⟩ (.int .i64 ((p:Int)))).setCell ⟨w.heap.size,4,none⟩ (.int .i64 (2))=W9 at *
  exact bodyPost_ret (v :=.agg #[.slice none 0 0,.int .i64 0,.int .i64 0,.int .i64 ((p:Int)),.int .i64 (2)]) (by simp[results,Tryz.f54,go_sem,z0,z1,z2,z3,z4]) rfl (og (p:=p) (er:=2) HA.out hbE)
 |ok us=>
  rw[hc]at ha;have ht:=Gv hc;have hlen:us.length<=20001:=by have:=NV hc;have:=HL.out;omega
  have hR:=G.out.ok ht;have HP:=hid (show Calls Tryz.prog 99 #[.string s] (w.alloc (.cells #[.slice none 0 0,.int .i64 0,.int .i64 0,.int .i64 0,.int .i64 0] 56)) (Ql us (w.alloc (.cells #[.slice none 0 0,.int .i64 0,.int .i64 0,.int .i64 0,.int .i64 0] 56)))from HC.out.mono (by
   rintro e w' ⟨q1,q2⟩;rw[hc]at q2;obtain⟨A,c,q3,q4,q5,_⟩:=q2;exact⟨A,c,q3,q1,q4,q5⟩))
  have HH:=hid (And.intro ha (And.intro ht (And.intro hR hb0)));clear HC ha hc hE hs ht hR hb0;go_enter Tryz.func54,Tryz.ntmps54
  go_wp2_with (go_at_call 99;refine HP.out.mono ?_);rintro e w1 ⟨A,c,rfl,hb1,hT,hA⟩;obtain⟨ts,hts⟩:∃ts,ts=us.map vL:=⟨_,rfl⟩;have hT:=Ky hT;have hul:us.length=ts.length:=by rw[hts,List.length_map]
  rw[<- hts]at hT HH;rw[hul]at hlen |-;have hz:=NY (c:=c) hT (λx hx=>by
   obtain⟨b,off,e,hl,_⟩:=hT HH.out.2.1.pos;rw[hx]at e;injection e with e;subst e;exact hl) HH.out.2.1 (by omega)
  have hne:R ts ≠ .out:=λe=>by have:=HH.out.2.2.1;rw[e]at this;exact this
  have hB:=(Bx.new w 56 [.slice none 0 0,.int .i64 0,.int .i64 0,.int .i64 0,.int .i64 0]).below hb1 (Bx.new w 56 _).lt;have HX:=hid (And.intro (bt HH.out.2.2.2 hb1) (And.intro hB hlen));have HF:=hid (G.out.fol hz hne);clear hT hA hz hne hB hb1 hts hul hlen;go_wp2_with (go_at_call 100;refine HF.out.mono ?_);rintro e w3 (⟨p,er,hr,rfl,hfr⟩ |⟨v,s',V',hr,rfl,hx3,hn3,hF3⟩)
  ·replace hr:R ts=.no p er:=hr;have her:er=2\/er=6:=by
    have q:=HH.out.2.2.1;rw[hr]at q;exact q.2
   have hq:((er:Int) != 0)=true:=by rw[bne_iff_ne];omega
   have HA:=hid (show a=.bad p er from HH.out.1.trans (by rw[hr]));have hz1:=HX.out.2.1.lt;have k2:=hfr.below (B:=w.heap.size) (λi q=>q.elim (λe=>by omega) (λe=>absurd e (by simp[Value.ownBlock]))) (by rw[World.size_alloc];omega);have hB3:=Bx.fr (Tr.Bx.alloc HX.out.2.1 _) hfr (λq=>q.elim (λe=>by omega) (λe=>absurd e (by simp[Value.ownBlock])));obtain⟨W4,hW4⟩:∃W4,w3.alloc (.cells #[.int .i64 (p:Int),.int .i64 (er:Int)] 54)=W4:=⟨_,rfl⟩;have hb4:Below w3.heap.size w3 W4:=by rw[<- hW4];exact aa _ _
   have hR4:Bx W4 w3.heap.size 54 [.int .i64 (p:Int),.int .i64 (er:Int)]:=by rw[<- hW4];exact Bx.new w3 54 _
   have hB4:=hB3.below hb4 hB3.lt;have r0:=(hR4.cell 0).trans rfl;have r1:=(hR4.cell 1).trans rfl;have c0:=(hB4.cell 0).trans rfl;have c1:=(hB4.cell 1).trans rfl;have c2:=(hB4.cell 2).trans rfl;have c3:=(hB4.cell 3).trans rfl;have c4:=(hB4.cell 4).trans rfl;have f0:=hB4.frozen 0;have f1:=hB4.frozen 1;have f2:=hB4.frozen 2;have f3:=hB4.frozen 3;have f4:=hB4.frozen 4;have HB:=hid (And.intro hB4 (bt ((bt HX.out.1 (aa _ _)).trans k2) hb4));clear hfr k2 hB3 hb4 hR4 hB4 hr her;go_wp2;obtain⟨hE,hbE⟩:=DU HB.out.1 HB.out.2 (Nat.le_refl _) (.slice none 0 0) (.int .i64 0) (.int .i64 0) (.int .i64 ((p:Int))) (.int .i64 ((er:Int)));have z0:=(hE.cell 0).trans rfl;have z1:=(hE.cell 1).trans rfl;have z2:=(hE.cell 2).trans rfl;have z3:=(hE.cell 3).trans rfl;have z4:=(hE.cell 4).trans rfl;generalize ((((W4.setCell ⟨w.heap.size,0,none⟩ (.slice none 0 0)).setCell ⟨w.heap.size,1,none⟩ (.int .i64 0)).setCell ⟨w.heap.size,2,none⟩ (.int .i64 0)).setCell ⟨w.heap.size,3,none⟩ (.int .i64 ((p:Int)))).setCell ⟨w.heap.size,4,none⟩ (.int .i64 ((er:Int)))=W9 at *
   exact bodyPost_ret (v :=.agg #[.slice none 0 0,.int .i64 0,.int .i64 0,.int .i64 ((p:Int)),.int .i64 ((er:Int))]) (by simp[results,Tryz.f54,go_sem,z0,z1,z2,z3,z4]) rfl (og HA.out hbE)
  ·replace hr:R ts=.ok v s':=hr;have hkid:=G.out.kid hr;have HA:=hid (HH.out.1.trans (by rw[hr]:_=if 4000<s'.nd.length then uQ.bad 0 8 else if 40<Tr.dpt (s'.nd.map dI) ((s'.nd.length:Int)-1) then uQ.bad 0 6 else uQ.good s'.nd s'.mo));obtain⟨K,cc,rfl,hNd⟩:=Kz hn3 (Nat.le_succ _);have hKb:=hNd;have hz1:=HX.out.2.1.lt;have k2:=hF3.fr.below (B:=w.heap.size) (λi q=>q.elim (λe=>by omega) (λe=>absurd e (by simp[Value.ownBlock]))) (by rw[World.size_alloc];omega);have hB3:=Bx.fr (Tr.Bx.alloc HX.out.2.1 _) hF3.fr (λq=>q.elim (λe=>by omega) (λe=>absurd e (by simp[Value.ownBlock])));obtain⟨W4,hW4⟩:∃W4,w3.alloc (.cells #[.int .i64 0,.int .i64 0] 54)=W4:=⟨_,rfl⟩;have hb4:Below w3.heap.size w3 W4:=by rw[<- hW4];exact aa _ _
   have hR4:Bx W4 w3.heap.size 54 [.int .i64 0,.int .i64 0]:=by rw[<- hW4];exact Bx.new w3 54 _
   have hB4:=hB3.below hb4 hB3.lt;have hG4:=hx3.box.below hb4 hx3.box.lt;have hN4:=hNd.below hb4;have HW4:=hid hW4;have HB4:=hid (And.intro hB4 (And.intro (bt ((bt HX.out.1 (aa _ _)).trans k2) hb4) (And.intro hG4 (And.intro hN4 (And.intro hKb hz1)))));have hnl:(s'.nd.length:Int)<=4000000:=by have q1:=hx3.nx;have q2:=HX.out.2.2;have q3:=G.out.nk hr;omega
   obtain⟨n,hn⟩:∃n,n=s'.nd.length:=⟨_,rfl⟩;rw[<- hn]at hnl;clear hF3 k2 hB3 hb4 hR4 hB4 hG4 hN4 hr hNd hKb hx3 hn3 hW4;have HN:=hid hn;clear hn
   go_upto_region 8 with(fail)
   rw[HW4.out];have hn:=HN.out;obtain⟨W5,hW5⟩:∃W5:World,{W4 with drawn:=W4.drawn+1}=W5:=⟨_,rfl⟩;have hS:Bx W5 w1.heap.size 96 [.slice A ts.length c,.int .i64 (s'.nx:Int),.slice K n cc,.int .i64 (s'.op:Int),.int .i64 (s'.mo:Int)]:=by rw[<- hW5];have q:=HB4.out.2.2.1;rw[<- hn]at q;exact q
   have hb5:Below W4.heap.size W4 W5:=by rw[<- hW5];exact dW (Below.refl _ _)
   refine wp_region_held (S:=λw'=>Bx w' w1.heap.size 96 [.slice A ts.length c,.int .i64 (s'.nx:Int),.slice K n cc,.int .i64 (s'.op:Int),.int .i64 (s'.mo:Int)]) (by kernel_rfl) ?_;rw[hW5];clear hW5;refine aG 0 (.pointer (some ⟨w1.heap.size,0,none⟩)) (by kernel_rfl) rfl rfl (λ_ _ _ h=>h) rfl (dn rfl rfl) hS ?_;simp only[ap];refine aG 1 (.pointer (some ⟨w1.heap.size,0,none⟩)) (by kernel_rfl) rfl rfl (λ_ _ _ h=>h) rfl (Md rfl rfl) hS ?_;simp only[ap];refine aG 2 (.pointer (some ⟨w1.heap.size,2,none⟩)) (by kernel_rfl) rfl rfl (λ_ _ _ h=>h) rfl (ay rfl rfl (pu _)) hS ?_;simp only[ap];refine aG 3 (.slice K n cc) (by kernel_rfl) rfl rfl (λ_ _ _ h=>h) rfl (ak rfl rfl (λw' q=>ut ((q.cell 2).trans rfl))) hS ?_;simp only[ap];refine aG 4 (.pointer (some ⟨w1.heap.size,0,none⟩)) (by kernel_rfl) rfl rfl (λ_ _ _ h=>h) rfl (dn rfl rfl) hS ?_;simp only[ap];refine aG 5 (.pointer (some ⟨w1.heap.size,0,none⟩)) (by kernel_rfl) rfl rfl (λ_ _ _ h=>h) rfl (Md rfl rfl) hS ?_;simp only[ap];refine aG 6 (.pointer (some ⟨w1.heap.size,2,none⟩)) (by kernel_rfl) rfl rfl (λ_ _ _ h=>h) rfl (ay rfl rfl (pu _)) hS ?_;simp only[ap];refine aG 7 (.slice K n cc) (by kernel_rfl) rfl rfl (λ_ _ _ h=>h) rfl (ak rfl rfl (λw' q=>ut ((q.cell 2).trans rfl))) hS ?_;simp only[ap];refine aG 8 (.int .i64 (n:Int)) (by kernel_rfl) rfl rfl (λ_ _ _ h=>h) rfl (KA rfl rfl) hS ?_;simp only[ap]
   refine aG 9 (.int .i64 ((n:Int)-1)) (by kernel_rfl) rfl rfl (λ_ _ _ h=>h) rfl (vZ rfl rfl rfl (λw=>by simp[go_sem]) (NZ n hnl)) hS ?_;simp only[ap];refine aG 10 (.agg #[.slice K n cc,.int .i64 ((n:Int)-1)]) (by kernel_rfl) rfl rfl (λ_ _ _ h=>h) rfl (DV rfl rfl rfl) hS ?_;simp only[ap];refine dQ 11 ({dst:=some 10,op:=Op.alloc 25,type:=0,pos := "parse.go:57",after := #[],guard:=none}:Oper) rfl (by kernel_rfl) rfl (KC rfl ⟨hS.alloc _,?_⟩);simp only[ap];have hS5:=Tr.Bx.alloc hS (.cells #[.slice none 0 0,.int .i64 0] 25);have hT5:=Bx.new W5 25 [.slice none 0 0,.int .i64 0];have hT6:=(hT5.set_ 0 (.slice K n cc)).set_ 1 (.int .i64 ((n:Int)-1));simp only[List.set_cons_zero,List.set_cons_succ]at hT6;have hS6:=(hS5.far (p:=⟨W5.heap.size,0,none⟩) (by have:=hS.lt;show w1.heap.size≠W5.heap.size;omega) (.slice K n cc)).far (p:=⟨W5.heap.size,1,none⟩) (by have:=hS.lt;show w1.heap.size≠W5.heap.size;omega) (.int .i64 ((n:Int)-1));have hb6:=((aa W5 (.cells #[.slice none 0 0,.int .i64 0] 25)).setCell (p:=⟨W5.heap.size,0,none⟩) (Nat.le_refl _) (.slice K n cc)).setCell (p:=⟨W5.heap.size,1,none⟩) (Nat.le_refl _) (.int .i64 ((n:Int)-1))
   refine dQ 12 ({dst:=none,op:=Op.store 25 (Operand.tmp 10) (Operand.tmp 45),type:=0,pos := "parse.go:57",after := #[{on:=11,ground:=Ground.data},{on:=10,ground:=Ground.data},{on:=0,ground:=Ground.phase},{on:=1,ground:=Ground.phase},{on:=2,ground:=Ground.phase},{on:=3,ground:=Ground.phase},{on:=4,ground:=Ground.phase},{on:=5,ground:=Ground.phase},{on:=6,ground:=Ground.phase},{on:=7,ground:=Ground.phase},{on:=8,ground:=Ground.phase},{on:=9,ground:=Ground.phase},{on:=10,ground:=Ground.phase},{on:=11,ground:=Ground.phase}],guard:=none}:Oper) rfl (by kernel_rfl) rfl (tT rfl rfl rfl hT5 ⟨hS6,?_⟩);simp only[Act.put];refine wpAnyH_done (by kernel_rfl) ?_ _;generalize ((W5.alloc (.cells #[.slice none 0 0,.int .i64 0] 25)).setCell ⟨W5.heap.size,0,none⟩ (.slice K n cc)).setCell ⟨W5.heap.size,1,none⟩ (.int .i64 ((n:Int)-1))=W6 at *
   obtain⟨hB4,hbw4,_,hN4,hKb,hz1⟩:=HB4.out;have hN6:=hN4.below (bt hb5 hb6);have hB6:=(hB4.below hb5 hB4.lt).below hb6 (Nat.lt_of_lt_of_le hB4.lt hb5.size);have hbw6:=bt (bt hbw4 hb5) hb6;have hlen:(s'.nd.map dI).length=n:=by rw[List.length_map,hn]
   have hkd:∀x ∈ s'.nd.map dI,x.ks.length<=(s'.nd.map dI).length:=λx hx=>by
    obtain⟨y,hy,rfl⟩:=List.mem_map.1 hx;rw[List.length_map];exact hkid y hy
   have ht:=xX K cc n (s'.nd.map dI) ((n:Int)-1) hN6.nds hlen.symm hkd;have ha:=HA.out;rw[<- hn]at ha;have t0:=(hT6.cell 0).trans rfl;have t1:=(hT6.cell 1).trans rfl;have HE:=hid (And.intro hB6 (And.intro hbw6 (And.intro hN6 (And.intro hS6 (And.intro hT6 (And.intro hKb hz1))))));clear hB4 hbw4 hN4 hKb hz1 hN6 hB6 hbw6 hlen hkd hT6 hS6 hb6 hb5 hkid HN HA;have HQ:=hid hn;clear hn;generalize hdp:Tr.dpt (s'.nd.map dI) ((n:Int)-1)=dp at *
   clear hdp;by_cases h4:4000<n
   ·rw[if_pos h4]at ht ha;have HT:=hid ht;have HA:=hid ha;clear ht ha h4;go_wp2_with (go_at_call 101;refine HT.out.mono ?_);rintro e w7 ⟨rfl,hb7⟩;obtain⟨hB6,hbw6,hN6,hS6,hT6,hKb,hz1⟩:=HE.out;have hB7:=hB6.below hb7 hB6.lt;have c0:=(hB7.cell 0).trans rfl;have c1:=(hB7.cell 1).trans rfl;have c2:=(hB7.cell 2).trans rfl;have c3:=(hB7.cell 3).trans rfl;have c4:=(hB7.cell 4).trans rfl;have f0:=hB7.frozen 0;have f1:=hB7.frozen 1;have f2:=hB7.frozen 2;have f3:=hB7.frozen 3;have f4:=hB7.frozen 4;have HB:=hid (And.intro hB7 (bt hbw6 hb7));clear hB6 hbw6 hN6 hS6 hT6 hKb hz1 hB7 hb7 t0 t1 HE HT;go_wp2;obtain⟨hE,hbE⟩:=DU HB.out.1 HB.out.2 (Nat.le_refl _) (.slice none 0 0) (.int .i64 0) (.int .i64 0) (.int .i64 (0)) (.int .i64 (8));have z0:=(hE.cell 0).trans rfl;have z1:=(hE.cell 1).trans rfl;have z2:=(hE.cell 2).trans rfl;have z3:=(hE.cell 3).trans rfl;have z4:=(hE.cell 4).trans rfl;generalize ((((w7.setCell ⟨w.heap.size,0,none⟩ (.slice none 0 0)).setCell ⟨w.heap.size,1,none⟩ (.int .i64 0)).setCell ⟨w.heap.size,2,none⟩ (.int .i64 0)).setCell ⟨w.heap.size,3,none⟩ (.int .i64 (0))).setCell ⟨w.heap.size,4,none⟩ (.int .i64 (8))=W9 at *
    exact bodyPost_ret (v :=.agg #[.slice none 0 0,.int .i64 0,.int .i64 0,.int .i64 (0),.int .i64 (8)]) (by simp[results,Tryz.f54,go_sem,z0,z1,z2,z3,z4]) rfl (og (p:=0) (er:=8) HA.out hbE)
   rw[if_neg h4]at ht ha;by_cases h5:40<dp
   ·rw[if_pos h5]at ht ha;have HT:=hid ht;have HA:=hid ha;clear ht ha h4 h5;go_wp2_with (go_at_call 101;refine HT.out.mono ?_);rintro e w7 ⟨rfl,hb7⟩;obtain⟨hB6,hbw6,hN6,hS6,hT6,hKb,hz1⟩:=HE.out;have hB7:=hB6.below hb7 hB6.lt;have c0:=(hB7.cell 0).trans rfl;have c1:=(hB7.cell 1).trans rfl;have c2:=(hB7.cell 2).trans rfl;have c3:=(hB7.cell 3).trans rfl;have c4:=(hB7.cell 4).trans rfl;have f0:=hB7.frozen 0;have f1:=hB7.frozen 1;have f2:=hB7.frozen 2;have f3:=hB7.frozen 3;have f4:=hB7.frozen 4;have HB:=hid (And.intro hB7 (bt hbw6 hb7));clear hB6 hbw6 hN6 hS6 hT6 hKb hz1 hB7 hb7 t0 t1 HE HT;go_wp2;obtain⟨hE,hbE⟩:=DU HB.out.1 HB.out.2 (Nat.le_refl _) (.slice none 0 0) (.int .i64 0) (.int .i64 0) (.int .i64 (0)) (.int .i64 (6));have z0:=(hE.cell 0).trans rfl;have z1:=(hE.cell 1).trans rfl;have z2:=(hE.cell 2).trans rfl;have z3:=(hE.cell 3).trans rfl;have z4:=(hE.cell 4).trans rfl;generalize ((((w7.setCell ⟨w.heap.size,0,none⟩ (.slice none 0 0)).setCell ⟨w.heap.size,1,none⟩ (.int .i64 0)).setCell ⟨w.heap.size,2,none⟩ (.int .i64 0)).setCell ⟨w.heap.size,3,none⟩ (.int .i64 (0))).setCell ⟨w.heap.size,4,none⟩ (.int .i64 (6))=W9 at *
    exact bodyPost_ret (v :=.agg #[.slice none 0 0,.int .i64 0,.int .i64 0,.int .i64 (0),.int .i64 (6)]) (by simp[results,Tryz.f54,go_sem,z0,z1,z2,z3,z4]) rfl (og (p:=0) (er:=6) HA.out hbE)
   rw[if_neg h5]at ht ha;have HT:=hid ht;have HA:=hid ha;clear ht ha h4 h5;go_wp2_with (go_at_call 101;refine HT.out.mono ?_);rintro e w7 ⟨rfl,hb7⟩;obtain⟨hB6,hbw6,hN6,hS6,hT6,hKb,hz1⟩:=HE.out;have hB7:=hB6.below hb7 hB6.lt;have c0:=(hB7.cell 0).trans rfl;have c1:=(hB7.cell 1).trans rfl;have c2:=(hB7.cell 2).trans rfl;have c3:=(hB7.cell 3).trans rfl;have c4:=(hB7.cell 4).trans rfl;have f0:=hB7.frozen 0;have f1:=hB7.frozen 1;have f2:=hB7.frozen 2;have f3:=hB7.frozen 3;have f4:=hB7.frozen 4;have hS7:=hS6.below hb7 hS6.lt;have hT7:=hT6.below hb7 hT6.lt;have s4:=(hS7.cell 4).trans rfl;have u0:=(hT7.cell 0).trans rfl;have u1:=(hT7.cell 1).trans rfl;have HB:=hid (And.intro hB7 (bt hbw6 hb7));have HNN:=hid (And.intro (hN6.below hb7) (And.intro hKb hz1));clear hB6 hbw6 hN6 hS6 hT6 hS7 hT7 hKb hz1 hB7 hb7 t0 t1 HE HT
   go_upto_region 12 with(fail)
   go_still_tail 6,(by kernel_rfl)
   change wpList _ _ _ _ _ _;go_wp2;obtain⟨hE,hbE⟩:=DU HB.out.1 HB.out.2 (Nat.le_refl _) (.slice K n cc) (.int .i64 ((n:Int)-1)) (.int .i64 (s'.mo:Int)) (.int .i64 0) (.int .i64 0);have z0:=(hE.cell 0).trans rfl;have z1:=(hE.cell 1).trans rfl;have z2:=(hE.cell 2).trans rfl;have z3:=(hE.cell 3).trans rfl;have z4:=(hE.cell 4).trans rfl;have hF9:Fr (λb=>b=w.heap.size) w7 (((((w7.setCell ⟨w.heap.size,0,none⟩ (.slice K n cc)).setCell ⟨w.heap.size,1,none⟩ (.int .i64 ((n:Int)-1))).setCell ⟨w.heap.size,2,none⟩ (.int .i64 (s'.mo:Int))).setCell ⟨w.heap.size,3,none⟩ (.int .i64 0)).setCell ⟨w.heap.size,4,none⟩ (.int .i64 0)):=((((Fr.set (E:=λb=>b=w.heap.size) (Fr.refl _ _) rfl _).set rfl _).set rfl _).set rfl _).set rfl _;have hN9:=(HNN.out.1.fr hF9 (λb q=>by have:=HNN.out.2.2;omega)).mono (B':=w.heap.size) (by have:=HNN.out.2.2;omega);generalize ((((w7.setCell ⟨w.heap.size,0,none⟩ (.slice K n cc)).setCell ⟨w.heap.size,1,none⟩ (.int .i64 ((n:Int)-1))).setCell ⟨w.heap.size,2,none⟩ (.int .i64 (s'.mo:Int))).setCell ⟨w.heap.size,3,none⟩ (.int .i64 0)).setCell ⟨w.heap.size,4,none⟩ (.int .i64 0)=W9 at *
   have hn:=HQ.out;subst hn;exact bodyPost_ret (v :=.agg #[.slice K s'.nd.length cc,.int .i64 ((s'.nd.length:Int)-1),.int .i64 (s'.mo:Int),.int .i64 0,.int .i64 0]) (by simp[results,Tryz.f54,go_sem,z0,z1,z2,z3,z4]) rfl (DT HA.out (dW hbE) hN9)
theorem N7 (s:ByteArray)(w:World)(hE:Tk.pO w)(hs:s.size<=20000):Calls Tryz.prog 54 #[.string s,.func (.func 55) #[] #[]] w (jU (gW jd s.data.toList) w):=
 Gw (hid ⟨yR,λhz hne=>F9 hz hne,wE,λ{ts v s} hr=>by have q3:=(AB ts (bP ts (steps ts)) st0 v s hr).1.1;have q4:st0.nd.length=0:=rfl;have q5:st0.nx=0:=rfl;rw[q4,q5]at q3;omega⟩) s w hE hs
theorem N8 (s:ByteArray)(w:World)(hE:Tk.pO w)(hs:s.size<=20000):Calls Tryz.prog 54 #[.string s,.func (.func 77) #[] #[]] w (jU (gW pq s.data.toList) w):=
 Gw (hid ⟨yS,λhz hne=>F_ hz hne,DL,λ{ts v s} hr=>by have q3:=(Jz ts (bP ts (steps ts)) st0 v s hr).1.1;have q4:st0.nd.length=0:=rfl;have q5:st0.nx=0:=rfl;rw[q4,q5]at q3;omega⟩) s w hE hs
end
section
open Tr (Bx aa bt eF Ints)
theorem oh {base n c:Nat}{A:Option Addr}{l:List Int}{w:World}(h:w.ownsRow base 3 1 (.slice A n c) l.length (l.map (Value.int .i64))):Ints w A l:=by
 obtain⟨A',c',e,hI⟩:=uK h;injection e with e1
 rw[e1];exact hI
theorem wI {q:Int->Bool}{ks:List Int}{i:Nat}(h:i<ks.length):(ks.take (i+1)).filter q=(ks.take i).filter q++(if q ks[i] then [ks[i]] else []):=by
 rw[List.take_succ_eq_append_getElem h,List.filter_append];congr 1;cases hq:q ks[i]<;>simp[hq]
theorem KD {w0:World}{A:Option Addr}{l:List Tr.Nd}{n:Nat}(c b:Nat)(hx:nH w0 A l n)(hcp:o7 w0 A l)(hs:su l)(p:Nat)(t:List UInt8)(w:World)(hp:p<n)(hk:(ag l p).kd=3)(hb:Below w0.heap.size w0 w)(h:Pg w0.heap.size b t w)(hl:t.length+(nG l n p).length<=140737488355328) :
  Calls Tryz.prog 120 #[PV A n c b 0,.int .i64 (p:Int)] w (aK w0.heap.size b (t++nG l n p) (.tuple #[]) w):=by
 have hpl:p<l.length:=by rw[<- hx.len];exact hp
 obtain⟨ks',bl,e1,hbl,hbk,hks'⟩:=hs.pr p hpl hk;have hfew:=hs.few p hpl;have hall:∀k ∈ (ag l p).ks,∃k2:Nat,k=(k2:Int)/\k2<n:=λk hk'=>by
  rw[e1]at hk';rcases List.mem_append.1 hk' with h |h
  ·obtain⟨k2,e,h2,_⟩:=hks' k h;exact⟨k2,e,by omega⟩
  ·exact⟨bl,List.mem_singleton.1 h,by omega⟩
 have hgl:(ag l p).ks.getLastD 0=(bl:Int):=by rw[e1];simp
 have hm1:(ag l p).ks.length=ks'.length+1:=by rw[e1];simp
 have hlast:(ag l p).ks[ks'.length]?=some (bl:Int):=by rw[e1];simp
 unfold nG at hl |-;rw[hgl]at hl |-;obtain⟨L4,hL4⟩:∃L4,L4=(ag l p).ks.filter λk=>(ag l k).kd==4:=⟨_,rfl⟩
 obtain⟨L5,hL5⟩:∃L5,L5=(ag l p).ks.filter λk=>(ag l k).kd==5:=⟨_,rfl⟩
 rw[<- hL4,<- hL5]at hl |-;have hl4:L4.length<=4000:=by rw[hL4];exact Nat.le_trans (List.length_filter_le _ _) hfew
 have hl5:L5.length<=4000:=by rw[hL5];exact Nat.le_trans (List.length_filter_le _ _) hfew
 have h4in:∀k ∈ L4,∃k2:Nat,k=(k2:Int)/\k2<n:=λk hk'=>hall k (List.mem_filter.1 (by rw[hL4]at hk';exact hk')).1
 have h5in:∀k ∈ L5,∃k2:Nat,k=(k2:Int)/\k2<n:=λk hk'=>hall k (List.mem_filter.1 (by rw[hL5]at hk';exact hk')).1
 have HLI:=hid (λ(S:Option Addr) (cc:Nat) t' w' (q:Below w0.heap.size w0 w') (h':Pg w0.heap.size b t' w') (hI:∀w2,Kp w0.heap.size b w' w2->Ints w2 S L4) (hl':t'.length+(nE (L4.map (lS l))).length<=140737488355328)=>
  AL A n c b 0 0 S L4.length cc L4 (lS l) t' w' h' rfl (by omega) hI (λk hk' t2 w2 q2 h2 hl2=>by
   obtain⟨k2,rfl,hk2⟩:=h4in k hk'
   exact y8 c b 0 hx k2 t2 w2 hk2 (q.trans q2.1) h2 hl2) hl')
 have HBK:=hid (λ(S:Option Addr) (cc:Nat) t' w' (q:Below w0.heap.size w0 w') (h':Pg w0.heap.size b t' w') (hI:∀w2,Kp w0.heap.size b w' w2->Ints w2 S L5) (hl':t'.length+(fI l (nC l n n) 0 bl L5).length<=140737488355328)=>
  (show Calls Tryz.prog 194 #[PV A n c b 0,.int .i64 (bl:Int),.slice S L5.length cc] w' (aK w0.heap.size b (t'++fI l (nC l n n) 0 bl L5) (.tuple #[]) w')from za c b 0 hx (nC l n n) bl S L5.length cc L5 t' w' (by omega) (by omega) rfl (by omega) (by have:=hs.few bl (by omega);omega) hI h5in (λk' hk' t2 w2 q2 h2 hl2=>by
   obtain⟨k2,rfl,hlt,hst⟩:=hs.bl bl (by omega) hbk k' hk'
   exact FY c b hx hcp hs n (0+1) k2 t2 w2 (by omega) (by omega) hst (by have:=hx.few;omega) q2 h2 hl2) q h' hl'))
 obtain⟨bA,off,K,cK,rfl,hlt,c0,c1,c2,c3,c4,z5⟩:=aZ hx.nds hb p hpl;rw[<- aT hpl]at c0 c1 c2 c3 c4 z5;rw[hk]at c0;have hpz:(p:Int)<(n:Int):=by omega
 obtain⟨m,hm⟩:∃m,m=(ag l p).ks.length:=⟨_,rfl⟩;rw[<- hm]at c4 hm1 hfew;obtain⟨bk,ok,rfl,hbk2,hck0⟩:=z5 (by omega);have HCK:=hid hck0;have HN:=hid (show∀(k:Nat),k<n->∀w',Below w0.heap.size w0 w'->w'.cell? ⟨bA,off+k*5,none⟩=some (.int .i64 (ag l k).kd)from λk hk2 w' q=>by
  obtain⟨bX,oX,KX,cX,eX,_,q0,_⟩:=aZ hx.nds q k (by rw[<- hx.len];exact hk2);injection eX with eX
  injection eX with x1 x2
  rw[x1,x2,aT (by rw[<- hx.len];exact hk2)];exact q0)
 obtain⟨F4,hF4⟩:∃F:Nat->List Int,F=λi=>((ag l p).ks.take i).filter λk=>(ag l k).kd==4:=⟨_,rfl⟩
 obtain⟨F5,hF5⟩:∃F:Nat->List Int,F=λi=>((ag l p).ks.take i).filter λk=>(ag l k).kd==5:=⟨_,rfl⟩
 have f40:F4 0=[]:=by rw[hF4];rfl
 have f50:F5 0=[]:=by rw[hF5];rfl
 have f4m:F4 m=L4:=by rw[hF4,hL4,hm];show List.filter _ (List.take _ _)=_;rw[List.take_length]
 have f5m:F5 m=L5:=by rw[hF5,hL5,hm];show List.filter _ (List.take _ _)=_;rw[List.take_length]
 have f4s:∀(i:Nat) (hi:i<(ag l p).ks.length),F4 (i+1)=F4 i++(if (ag l (ag l p).ks[i]).kd=4 then [(ag l p).ks[i]] else []):=λi hi=>by
  rw[hF4];show List.filter _ (List.take _ _)=_;rw[wI hi];simp
 have f5s:∀(i:Nat) (hi:i<(ag l p).ks.length),F5 (i+1)=F5 i++(if (ag l (ag l p).ks[i]).kd=5 then [(ag l p).ks[i]] else []):=λi hi=>by
  rw[hF5];show List.filter _ (List.take _ _)=_;rw[wI hi];simp
 have f4l:∀i,(F4 i).length<=4000:=λi=>by rw[hF4];exact Nat.le_trans (List.length_filter_le _ _) (Nat.le_trans (List.length_take_le' _ _) (by omega))
 have f5l:∀i,(F5 i).length<=4000:=λi=>by rw[hF5];exact Nat.le_trans (List.length_filter_le _ _) (Nat.le_trans (List.length_take_le' _ _) (by omega))
 have H4S:=hid f4s;have H5S:=hid f5s;have H40:=hid f40;have H50:=hid f50;have H4M:=hid f4m;have H5M:=hid f5m;have H4L:=hid f4l;have H5L:=hid f5l;have HALL:=hid hall;have HM:=hid hm;have HLAST:=hid hlast;have HM1:=hid hm1;have hmp:0<m:=by omega
 have hm4:m<=4000:=hfew;clear hF4 hF5 hL4 hL5 f40 f50 f4m f5m f4s f5s f4l f5l hlast hm1 hfew;unfold bu at hl |-;generalize nE (L4.map (lS l))=yq at *
 generalize fI l (nC l n n) 0 bl L5=yb at *
 have HB:=hid hb;have H:=hid h;have hbw:=h.bw;have hbl2:=h.lt;have hsz:=hb.size;unfold PV at HLI HBK;unfold PV;generalize (ag l p).n=nn at *
 generalize (ag l p).pl=pl at *
 generalize (ag l p).tx=tx at *
 generalize (ag l p).ks=ks at *
 obtain⟨yt,hyt⟩:∃yt,yt=(if nn=0 then [] else [32]++qN nn:List UInt8):=⟨_,rfl⟩;rw[<- hyt]at hl |-;have HYT:=hid hyt;clear hyt;have HL:=hid hl;have HPL0:=hid (show PL w0.heap.size b t w [.slice (some ⟨bA,off,none⟩) n c,.func (.func 117) #[.pointer (some ⟨b,0,none⟩)] #[],.int .i64 0] [.int .i64 3,.int .i64 nn,.int .i64 pl,.string tx,.slice (some ⟨bk,ok,none⟩) m cK] (.slice none 0 0) (.slice none 0 0) [] [] ((w.alloc (.cells #[.slice (some ⟨bA,off,none⟩) n c,.func (.func 117) #[.pointer (some ⟨b,0,none⟩)] #[],.int .i64 0] 73)).alloc (.cells #[.int .i64 3,.int .i64 nn,.int .i64 pl,.string tx,.slice (some ⟨bk,ok,none⟩) m cK] 37))from by
  have b1:=jD w [.slice (some ⟨bA,off,none⟩) n c,.func (.func 117) #[.pointer (some ⟨b,0,none⟩)] #[],.int .i64 0] [.int .i64 3,.int .i64 nn,.int .i64 pl,.string tx,.slice (some ⟨bk,ok,none⟩) m cK];exact⟨(h.alloc _).alloc _,((Kp.refl w0.heap.size b w).alloc hbw _).alloc (by rw[World.size_alloc];omega) _,b1.1,b1.2,World.ownsRow_nil _ _ 3 1,World.ownsRow_nil _ _ 3 1,λk e1=>by simp[Value.ownBlock]at e1,by rw[World.size_alloc,World.size_alloc];omega⟩)
 clear hks' e1 hall hgl h4in h5in hb h hl hx hs hcp hpl z5 hck0 hm hbl hbk;go_enter Tryz.func120,Tryz.ntmps120
 go_wp2
 go_loopg [5,6,8,17] m (λg a5 a6 _ a17 wr=>∃i:Nat,a17=.int .i64 (i:Int)/\i<=m/\g=m-i/\PL w0.heap.size b t w [.slice (some ⟨bA,off,none⟩) n c,.func (.func 117) #[.pointer (some ⟨b,0,none⟩)] #[],.int .i64 0] [.int .i64 3,.int .i64 nn,.int .i64 pl,.string tx,.slice (some ⟨bk,ok,none⟩) m cK] a5 a6 (F4 i) (F5 i) wr)
 case atStart=>exact⟨0,rfl,Nat.zero_le _,rfl,by rw[H40.out,H50.out];exact HPL0.out⟩
 case round=>
  obtain⟨i,rfl,him,rfl,hpl⟩:=hrel;have HPL:=hid hpl;have hwrB:w0.heap.size<=wr.heap.size:=hpl.pg.bw;by_cases hlt2:i<m
  ·have hlz:(i:Int)<(m:Int):=by omega
   have hik:i<ks.length:=by rw[<- HM.out];exact hlt2
   have hb3:=HB.out.trans hpl.kp.1;have cS:=(hb3.cell (p:=⟨bk,ok+i,none⟩) hbk2).trans (HCK.out i hik);obtain⟨k2,ek,hk2n⟩:=HALL.out ks[i] (List.getElem_mem hik);have h4s:=H4S.out i hik;have h5s:=H5S.out i hik;rw[ek]at cS h4s h5s;have hkz:(k2:Int)<(n:Int):=by omega
   have n0:=HN.out k2 hk2n wr hb3;have e0:=(hpl.bx.cell 0).trans rfl;have h1:IntKind.wrap .i64 1=1:=rfl;clear ek h1;generalize (ag l (k2:Int)).kd=kd at *
   by_cases k4:kd=4
   ·rw[if_pos k4]at h4s;rw[if_neg (by rw[k4];decide),List.append_nil]at h5s;subst k4;have HS4:=hid h4s;have HS5:=hid h5s;clear h4s h5s hb3 hpl;go_wp2_with (at_builtin;refine wD rfl _ _ rfl wr (w.heap.size+2) _ (F4 i) (k2:Int) HPL.out.o5 HPL.out.sz (by have:=H4L.out i;omega) rfl rfl ?_;intro v' w' h1 h2 h3;have HQ:=hid (HPL.out.app5 (by omega) h1 h2 h3);clear h1 h2 h3);clear cS n0 e0;go_wp2
    go_roundg (m-(i+1))
    case measure=>go_light;omega
    case rel=>
     go_light
     exact⟨i+1,by go_num,by omega,rfl,by rw[HS4.out,HS5.out];exact HQ.out⟩
   ·by_cases k5:kd=5
    ·rw[if_neg k4,List.append_nil]at h4s;rw[if_pos k5]at h5s;subst k5;have HS4:=hid h4s;have HS5:=hid h5s;clear h4s h5s hb3 hpl k4;go_wp2_with (at_builtin;refine wD rfl _ _ rfl wr (w.heap.size+2) _ (F5 i) (k2:Int) HPL.out.o6 HPL.out.sz (by have:=H5L.out i;omega) rfl rfl ?_;intro v' w' h1 h2 h3;have HQ:=hid (HPL.out.app6 (by omega) h1 h2 h3);clear h1 h2 h3);clear cS n0 e0;go_wp2
     go_roundg (m-(i+1))
     case measure=>go_light;omega
     case rel=>
      go_light
      exact⟨i+1,by go_num,by omega,rfl,by rw[HS4.out,HS5.out];exact HQ.out⟩
    ·rw[if_neg k4,List.append_nil]at h4s;rw[if_neg k5,List.append_nil]at h5s;have HS4:=hid h4s;have HS5:=hid h5s;clear h4s h5s hb3 hpl;go_wp2
     go_roundg (m-(i+1))
     case measure=>go_light;omega
     case rel=>
      go_light
      exact⟨i+1,by go_num,by omega,rfl,by rw[HS4.out,HS5.out];exact HPL.out⟩
  ·obtain rfl:i=m:=by omega
   have hlz:¬(i:Int)<(i:Int):=by omega
   rw[H4M.out,H5M.out]at hpl;obtain⟨A5,q5,rfl,_⟩:=uK hpl.o5;obtain⟨A6,q6,rfl,_⟩:=uK hpl.o6;have HPM:=hid hpl;have hb4:=HB.out.trans hpl.kp.1;have e1:=(hpl.bx.cell 1).trans rfl;have n3:=(hpl.bn.cell 3).trans rfl;clear hpl HPL;go_wp2_with (go_at_call 117;refine(aC w0.heap.size b t [[112,114,111,99,32],tx.data.toList] _ HPM.out.pg (by have:=HL.out;simp only[List.length_append,List.length_cons,List.length_nil,List.flatten_cons,List.flatten_nil]at this |-;omega) (by simp) 2 rfl _ (by simp[g_];rfl) _ rfl).mono ?_)
   first
   |(rintro e w1 ⟨rfl,q4⟩;obtain⟨hp1,hk1⟩:=q4)
   |(rintro e w1 ⟨rfl,q4⟩;intro hp1 hk1)
   have HX1:=hid (show S2 w.heap.size (w.heap.size+1) [.slice (some ⟨bA,off,none⟩) n c,.func (.func 117) #[.pointer (some ⟨b,0,none⟩)] #[],.int .i64 0] [.int .i64 3,.int .i64 nn,.int .i64 pl,.string tx,.slice (some ⟨bk,ok,none⟩) i cK] w1 from⟨Bx.kp HPM.out.bx hk1 (by omega) (by decide),Bx.kp HPM.out.bn hk1 (by omega) (by decide)⟩);have HP1:=hid hp1;have HW1:=hid (HPM.out.kp.trans hk1);have HO5:=hid (lD HPM.out.o5 hk1 (by omega));have HO6:=hid (lD HPM.out.o6 hk1 (by omega));clear hp1 hk1 e1 n3 HPM;have e0:=(HX1.out.1.cell 0).trans rfl;have e1:=(HX1.out.1.cell 1).trans rfl;have e2:=(HX1.out.1.cell 2).trans rfl;go_wp2_with (go_at_call 192;refine(HLI.out A5 q5 _ _ (HB.out.trans HW1.out.1) HP1.out (λw2 q=>oh (lD HO5.out q (by omega))) (by have:=HL.out;simp only[List.length_append,List.length_cons,List.length_nil]at this |-;omega)).mono ?_)
   first
   |(rintro e w2 ⟨rfl,q4⟩;obtain⟨hp2,hk2⟩:=q4)
   |(rintro e w2 ⟨rfl,q4⟩;intro hp2 hk2)
   have HX2:=hid (HX1.out.kp hk2 (by omega) (by omega));have HP2:=hid hp2;have HW2:=hid (HW1.out.trans hk2);have HO7:=hid (lD HO6.out hk2 (by omega));clear hp2 hk2 e0 e1 e2 HX1 HP1 HW1 HO5 HO6;have n1:=(HX2.out.2.cell 1).trans rfl;by_cases hn0:nn=0
   ·subst hn0;have hyt:=HYT.out;rw[if_pos rfl]at hyt;subst hyt;have HSP:=hid (show SP w.heap.size (w.heap.size+1) [.slice (some ⟨bA,off,none⟩) n c,.func (.func 117) #[.pointer (some ⟨b,0,none⟩)] #[],.int .i64 0] [.int .i64 3,.int .i64 0,.int .i64 pl,.string tx,.slice (some ⟨bk,ok,none⟩) i cK] bk (ok+(i-1)) (bl:Int) w2 from⟨HX2.out.1,HX2.out.2,by
     have hj:i-1<ks.length:=by have:=HM.out;omega
     have:=((HB.out.trans HW2.out.1).cell (p:=⟨bk,ok+(i-1),none⟩) hbk2).trans (HCK.out (i-1) hj);rw[this];have h2:=HLAST.out;rw[show ks'.length=i-1 by have:=HM1.out;omega,List.getElem?_eq_getElem hj]at h2;injection h2 with h2
     rw[h2]⟩)
    go_upto_region 16 with(fail)
    obtain⟨W5,hW5⟩:∃W5:World,{w2 with drawn:=w2.drawn+1}=W5:=⟨_,rfl⟩;have hkd:Kp w0.heap.size b w2 W5:=by rw[<- hW5];exact⟨Below.drew (Below.refl _ _),(Lib.OthersKept.refl _ _ w2).drew⟩
    have hS:=HSP.out.kp hkd (by omega) (by omega) hbk2;have hP5:=(show∀T,Pg w0.heap.size b T w2->Pg w0.heap.size b T W5 from λT q=>by rw[<- hW5];exact q) _ HP2.out;have hw5:=HW2.out.trans hkd;have hb5:=HB.out.trans hw5.1;have hO5:=lD HO7.out hkd (by omega);refine wp_region_held (S:=SP w.heap.size (w.heap.size+1) [.slice (some ⟨bA,off,none⟩) n c,.func (.func 117) #[.pointer (some ⟨b,0,none⟩)] #[],.int .i64 0] [.int .i64 3,.int .i64 0,.int .i64 pl,.string tx,.slice (some ⟨bk,ok,none⟩) i cK] bk (ok+(i-1)) (bl:Int)) (by kernel_rfl) ?_;rw[hW5];clear hW5 HSP;refine aG 0 (.agg #[.slice (some ⟨bA,off,none⟩) n c,.func (.func 117) #[.pointer (some ⟨b,0,none⟩)] #[],.int .i64 0]) (by kernel_rfl) rfl rfl (λ_ _ _ h=>h) rfl (ak rfl rfl (λw' q=>aU ((q.1.cell 0).trans rfl) ((q.1.cell 1).trans rfl) ((q.1.cell 2).trans rfl))) hS ?_;simp only[ap];refine aG 1 (.pointer (some ⟨w.heap.size+1,4,none⟩)) (by kernel_rfl) rfl rfl (λ_ _ _ h=>h) rfl (ay rfl rfl (aD _)) hS ?_;simp only[ap];refine aG 2 (.slice (some ⟨bk,ok,none⟩) i cK) (by kernel_rfl) rfl rfl (λ_ _ _ h=>h) rfl (ak rfl rfl (λw' q=>aH ((q.2.1.cell 4).trans rfl))) hS ?_;simp only[ap];refine aG 3 (.pointer (some ⟨w.heap.size+1,4,none⟩)) (by kernel_rfl) rfl rfl (λ_ _ _ h=>h) rfl (ay rfl rfl (aD _)) hS ?_;simp only[ap]
    refine aG 4 (.slice (some ⟨bk,ok,none⟩) i cK) (by kernel_rfl) rfl rfl (λ_ _ _ h=>h) rfl (ak rfl rfl (λw' q=>aH ((q.2.1.cell 4).trans rfl))) hS ?_;simp only[ap];refine aG 5 (.int .i64 (i:Int)) (by kernel_rfl) rfl rfl (λ_ _ _ h=>h) rfl (tN rfl rfl) hS ?_;simp only[ap];refine aG 6 (.int .i64 ((i-1:Nat):Int)) (by kernel_rfl) rfl rfl (λ_ _ _ h=>h) rfl (vZ rfl rfl rfl (λw=>by simp[go_sem]) (λw=>(NZ i (by omega) w).trans (by rw[show((i:Int)-1)=((i-1:Nat):Int)by omega]))) hS ?_;simp only[ap];refine aG 7 (.pointer (some ⟨bk,ok+(i-1),none⟩)) (by kernel_rfl) rfl rfl (λ_ _ _ h=>h) rfl (bi rfl rfl rfl (λw=>aN bk ok i cK (i-1) (by omega) w)) hS ?_;simp only[ap];refine aG 8 (.int .i64 (bl:Int)) (by kernel_rfl) rfl rfl (λ_ _ _ h=>h) rfl (ak rfl rfl (λw' q=>aB q.2.2)) hS ?_;simp only[ap];refine aG 9 (.slice A6 L5.length q6) (by kernel_rfl) rfl rfl (λ_ _ _ h=>h) rfl (dn rfl rfl) hS ?_;simp only[ap]
    refine aQ 10 ({dst:=some 71,op:=Op.call {callee:=Callee.value (Operand.func 194),args := #[Operand.tmp 61,Operand.tmp 69,Operand.tmp 70],argTypes := #[73,3,35]},type:=0,pos := "printer.go:69",after := #[{on:=0,ground:=Ground.data},{on:=8,ground:=Ground.data},{on:=9,ground:=Ground.data}],guard:=none}:Oper) (args := #[.agg #[.slice (some ⟨bA,off,none⟩) n c,.func (.func 117) #[.pointer (some ⟨b,0,none⟩)] #[],.int .i64 0],.int .i64 (bl:Int),.slice A6 L5.length q6]) lh rfl rfl (by kernel_rfl) rfl rfl (HBK.out A6 q6 _ _ hb5 hP5 (λw2 q=>oh (lD hO5 q (by omega))) (by have:=HL.out;simp only[List.length_append,List.length_cons,List.length_nil]at this |-;omega)) ?_;rintro e W6 ⟨rfl,hp6,hk6⟩;have hS6:=hS.kp hk6 (by omega) (by omega) hbk2;refine .inr ⟨_,rfl,hS6,?_⟩;simp only[ap];refine wpAnyH_done (by kernel_rfl) ?_ _;have HP6:=hid hp6;have HW6:=hid (hw5.trans hk6);have e1:=(hS6.1.cell 1).trans rfl;clear hS hP5 hw5 hkd hb5 HX2 HP2 HW2 HO7 hp6 hk6 hS6 hO5;go_wp2_with (go_at_call 117;refine(aC w0.heap.size b _ [[10]] _ HP6.out (by have:=HL.out;simp only[List.length_append,List.length_cons,List.length_nil,List.flatten_cons,List.flatten_nil]at this |-;omega) (by simp) 1 rfl _ (by rfl) _ rfl).mono ?_);rintro e w9 ⟨rfl,hp9,hk9⟩;have HP9:=hid hp9;have HW9:=hid (HW6.out.trans hk9);clear hp9 hk9 e1;go_wp2
    go_end0
    exact⟨rfl,by simpa using HP9.out,HW9.out⟩
   ·have hyt:=HYT.out;rw[if_neg hn0]at hyt;subst hyt
    go_upto_region 15 with(fail)
    obtain⟨W5,hW5⟩:∃W5:World,{w2 with drawn:=w2.drawn+1}=W5:=⟨_,rfl⟩;have hkd:Kp w0.heap.size b w2 W5:=by rw[<- hW5];exact⟨Below.drew (Below.refl _ _),(Lib.OthersKept.refl _ _ w2).drew⟩
    have hS:=HX2.out.kp hkd (by omega) (by omega);have hP5:=(show∀T,Pg w0.heap.size b T w2->Pg w0.heap.size b T W5 from λT q=>by rw[<- hW5];exact q) _ HP2.out;have hw5:=HW2.out.trans hkd;refine wp_region_held (S:=S2 w.heap.size (w.heap.size+1) [.slice (some ⟨bA,off,none⟩) n c,.func (.func 117) #[.pointer (some ⟨b,0,none⟩)] #[],.int .i64 0] [.int .i64 3,.int .i64 nn,.int .i64 pl,.string tx,.slice (some ⟨bk,ok,none⟩) i cK]) (by kernel_rfl) ?_;rw[hW5];clear hW5;refine aG 0 (.pointer (some ⟨w.heap.size,1,none⟩)) (by kernel_rfl) rfl rfl (λ_ _ _ h=>h) rfl (ay rfl rfl (cZ _)) hS ?_;simp only[ap];refine aG 1 (.func (.func 117) #[.pointer (some ⟨b,0,none⟩)] #[]) (by kernel_rfl) rfl rfl (λ_ _ _ h=>h) rfl (ak rfl rfl (λw' q=>fA ((q.1.cell 1).trans rfl))) hS ?_;simp only[ap];refine aG 2 (.pointer (some ⟨w.heap.size+1,1,none⟩)) (by kernel_rfl) rfl rfl (λ_ _ _ h=>h) rfl (ay rfl rfl (jN _)) hS ?_;simp only[ap];refine aG 3 (.int .i64 nn) (by kernel_rfl) rfl rfl (λ_ _ _ h=>h) rfl (ak rfl rfl (λw' q=>aB ((q.2.cell 1).trans rfl))) hS ?_;simp only[ap];refine aQ 4 ({dst:=some 58,op:=Op.call {callee:=Callee.value (Operand.func 193),args := #[Operand.tmp 57],argTypes := #[3]},type:=9,pos := "printer.go:67",after := #[{on:=3,ground:=Ground.data}],guard:=none}:Oper) (args := #[.int .i64 nn]) B_ rfl rfl (by kernel_rfl) rfl rfl (qY nn W5) ?_;rintro e w3 ⟨rfl,rfl⟩;refine .inr ⟨_,rfl,hS,?_⟩;simp only[ap]
    have hS3:S2 w.heap.size (w.heap.size+1) [.slice (some ⟨bA,off,none⟩) n c,.func (.func 117) #[.pointer (some ⟨b,0,none⟩)] #[],.int .i64 0] [.int .i64 3,.int .i64 nn,.int .i64 pl,.string tx,.slice (some ⟨bk,ok,none⟩) i cK] (W5.alloc (.cells #[.string ⟨#[32]⟩,.string (mK (qN nn))] 9)):=⟨hS.1.alloc _,hS.2.alloc _⟩;refine dQ 5 ({dst:=some 59,op:=Op.buildSlice 40 2 #[(0,Operand.const (Value.string {data := #[32]})),(1,Operand.tmp 58)],type:=40,pos := "printer.go:67",after := #[{on:=4,ground:=Ground.data}],guard:=none}:Oper) rfl (by kernel_rfl) rfl (uC rfl rfl rfl ⟨hS3,?_⟩);simp only[ap];refine ku 6 ({dst:=some 60,op:=Op.call {callee:=Callee.value (Operand.tmp 55),args := #[Operand.tmp 59],argTypes := #[40]},type:=0,pos := "printer.go:67",after := #[{on:=1,ground:=Ground.data},{on:=5,ground:=Ground.data},{on:=4,ground:=Ground.chain}],guard:=none}:Oper) (pre := #[.pointer (some ⟨b,0,none⟩)]) (args := #[.slice (some ⟨W5.heap.size,0,none⟩) 2 2]) kr rfl rfl (by kernel_rfl) rfl rfl rfl (aC w0.heap.size b _ [[32],qN nn] W5 hP5 (by have:=HL.out;simp only[List.length_append,List.length_cons,List.length_nil,List.flatten_cons,List.flatten_nil]at this |-;omega) (by simp) 2 rfl _ (by simp;rfl) _ rfl) ?_;rintro e w3 ⟨rfl,hp3,hk3⟩;have hS4:=hS.kp hk3 (by omega) (by omega);refine .inr ⟨_,rfl,hS4,?_⟩;simp only[ap];refine wpAnyH_done (by kernel_rfl) ?_ _;have HX3:=hid hS4;have HP3:=hid hp3;have HW3:=hid (hw5.trans hk3)
    have HO8:=hid (lD (lD HO7.out hkd (by omega)) hk3 (by omega));clear hS hS3 hS4 hP5 hw5 hk3 hp3 hkd n1 HX2 HP2 HW2 HO7;have HSP:=hid (show SP w.heap.size (w.heap.size+1) [.slice (some ⟨bA,off,none⟩) n c,.func (.func 117) #[.pointer (some ⟨b,0,none⟩)] #[],.int .i64 0] [.int .i64 3,.int .i64 nn,.int .i64 pl,.string tx,.slice (some ⟨bk,ok,none⟩) i cK] bk (ok+(i-1)) (bl:Int) w3 from⟨HX3.out.1,HX3.out.2,by
     have hj:i-1<ks.length:=by have:=HM.out;omega
     have:=((HB.out.trans HW3.out.1).cell (p:=⟨bk,ok+(i-1),none⟩) hbk2).trans (HCK.out (i-1) hj);rw[this];have h2:=HLAST.out;rw[show ks'.length=i-1 by have:=HM1.out;omega,List.getElem?_eq_getElem hj]at h2;injection h2 with h2
     rw[h2]⟩)
    go_upto_region 16 with(fail)
    obtain⟨W5,hW5⟩:∃W5:World,{w3 with drawn:=w3.drawn+1}=W5:=⟨_,rfl⟩;have hkd:Kp w0.heap.size b w3 W5:=by rw[<- hW5];exact⟨Below.drew (Below.refl _ _),(Lib.OthersKept.refl _ _ w3).drew⟩
    have hS:=HSP.out.kp hkd (by omega) (by omega) hbk2;have hP5:=(show∀T,Pg w0.heap.size b T w3->Pg w0.heap.size b T W5 from λT q=>by rw[<- hW5];exact q) _ HP3.out;have hw5:=HW3.out.trans hkd;have hb5:=HB.out.trans hw5.1;have hO5:=lD HO8.out hkd (by omega);refine wp_region_held (S:=SP w.heap.size (w.heap.size+1) [.slice (some ⟨bA,off,none⟩) n c,.func (.func 117) #[.pointer (some ⟨b,0,none⟩)] #[],.int .i64 0] [.int .i64 3,.int .i64 nn,.int .i64 pl,.string tx,.slice (some ⟨bk,ok,none⟩) i cK] bk (ok+(i-1)) (bl:Int)) (by kernel_rfl) ?_;rw[hW5];clear hW5 HSP;refine aG 0 (.agg #[.slice (some ⟨bA,off,none⟩) n c,.func (.func 117) #[.pointer (some ⟨b,0,none⟩)] #[],.int .i64 0]) (by kernel_rfl) rfl rfl (λ_ _ _ h=>h) rfl (ak rfl rfl (λw' q=>aU ((q.1.cell 0).trans rfl) ((q.1.cell 1).trans rfl) ((q.1.cell 2).trans rfl))) hS ?_;simp only[ap];refine aG 1 (.pointer (some ⟨w.heap.size+1,4,none⟩)) (by kernel_rfl) rfl rfl (λ_ _ _ h=>h) rfl (ay rfl rfl (aD _)) hS ?_;simp only[ap];refine aG 2 (.slice (some ⟨bk,ok,none⟩) i cK) (by kernel_rfl) rfl rfl (λ_ _ _ h=>h) rfl (ak rfl rfl (λw' q=>aH ((q.2.1.cell 4).trans rfl))) hS ?_;simp only[ap];refine aG 3 (.pointer (some ⟨w.heap.size+1,4,none⟩)) (by kernel_rfl) rfl rfl (λ_ _ _ h=>h) rfl (ay rfl rfl (aD _)) hS ?_;simp only[ap]
    refine aG 4 (.slice (some ⟨bk,ok,none⟩) i cK) (by kernel_rfl) rfl rfl (λ_ _ _ h=>h) rfl (ak rfl rfl (λw' q=>aH ((q.2.1.cell 4).trans rfl))) hS ?_;simp only[ap];refine aG 5 (.int .i64 (i:Int)) (by kernel_rfl) rfl rfl (λ_ _ _ h=>h) rfl (tN rfl rfl) hS ?_;simp only[ap];refine aG 6 (.int .i64 ((i-1:Nat):Int)) (by kernel_rfl) rfl rfl (λ_ _ _ h=>h) rfl (vZ rfl rfl rfl (λw=>by simp[go_sem]) (λw=>(NZ i (by omega) w).trans (by rw[show((i:Int)-1)=((i-1:Nat):Int)by omega]))) hS ?_;simp only[ap];refine aG 7 (.pointer (some ⟨bk,ok+(i-1),none⟩)) (by kernel_rfl) rfl rfl (λ_ _ _ h=>h) rfl (bi rfl rfl rfl (λw=>aN bk ok i cK (i-1) (by omega) w)) hS ?_;simp only[ap];refine aG 8 (.int .i64 (bl:Int)) (by kernel_rfl) rfl rfl (λ_ _ _ h=>h) rfl (ak rfl rfl (λw' q=>aB q.2.2)) hS ?_;simp only[ap];refine aG 9 (.slice A6 L5.length q6) (by kernel_rfl) rfl rfl (λ_ _ _ h=>h) rfl (dn rfl rfl) hS ?_;simp only[ap]
    refine aQ 10 ({dst:=some 71,op:=Op.call {callee:=Callee.value (Operand.func 194),args := #[Operand.tmp 61,Operand.tmp 69,Operand.tmp 70],argTypes := #[73,3,35]},type:=0,pos := "printer.go:69",after := #[{on:=0,ground:=Ground.data},{on:=8,ground:=Ground.data},{on:=9,ground:=Ground.data}],guard:=none}:Oper) (args := #[.agg #[.slice (some ⟨bA,off,none⟩) n c,.func (.func 117) #[.pointer (some ⟨b,0,none⟩)] #[],.int .i64 0],.int .i64 (bl:Int),.slice A6 L5.length q6]) lh rfl rfl (by kernel_rfl) rfl rfl (HBK.out A6 q6 _ _ hb5 hP5 (λw2 q=>oh (lD hO5 q (by omega))) (by have:=HL.out;simp only[List.length_append,List.length_cons,List.length_nil,List.flatten_cons,List.flatten_nil]at this |-;omega)) ?_;rintro e W6 ⟨rfl,hp6,hk6⟩;have hS6:=hS.kp hk6 (by omega) (by omega) hbk2;refine .inr ⟨_,rfl,hS6,?_⟩;simp only[ap];refine wpAnyH_done (by kernel_rfl) ?_ _;have HP6:=hid hp6;have HW6:=hid (hw5.trans hk6);have e1:=(hS6.1.cell 1).trans rfl;clear hS hP5 hw5 hkd hb5 HX3 HP3 HW3 HO8 hp6 hk6 hS6 hO5;go_wp2_with (go_at_call 117;refine(aC w0.heap.size b _ [[10]] _ HP6.out (by have:=HL.out;simp only[List.length_append,List.length_cons,List.length_nil,List.flatten_cons,List.flatten_nil]at this |-;omega) (by simp) 1 rfl _ (by rfl) _ rfl).mono ?_);rintro e w9 ⟨rfl,hp9,hk9⟩;have HP9:=hid hp9;have HW9:=hid (HW6.out.trans hk9);clear hp9 hk9 e1;go_wp2
    go_end0
    exact⟨rfl,by simpa using HP9.out,HW9.out⟩
end
section
open Tr (Bx aa bt eF Ints)
theorem A7 {w0:World}{A:Option Addr}{l:List Tr.Nd}{n:Nat}(c b:Nat)(hx:nH w0 A l n)(hcp:o7 w0 A l)(hs:su l)(p:Nat)(t:List UInt8)(w:World)(hp:p<n)(hk:(ag l p).kd=1)(hb:Below w0.heap.size w0 w)(h:Pg w0.heap.size b t w)(hl:t.length+(lq l n p).length<=140737488355328) :
  Calls Tryz.prog 61 #[PV A n c b 0,.int .i64 (p:Int)] w (aK w0.heap.size b (t++lq l n p) (.tuple #[]) w):=by
 have hpl:p<l.length:=by rw[<- hx.len];exact hp
 have hall:=hs.pg p hpl hk;have hfew:=hs.few p hpl;have HV:=hid (λ(k2:Nat) t' w' (hk2:k2<n) (q:Below w0.heap.size w0 w') (h':Pg w0.heap.size b t' w') (hl':t'.length+(ja l 0 k2).length<=140737488355328)=>(show Calls Tryz.prog 119 #[PV A n c b 0,.int .i64 (k2:Int)] w' (aK w0.heap.size b (t'++ja l 0 k2) (.tuple #[]) w')from sQ c b 0 hx k2 t' w' hk2 (by omega) q h' hl'));have HPR:=hid (λ(k2:Nat) t' w' (hk2:k2<n) (h3:(ag l k2).kd=3) (q:Below w0.heap.size w0 w') (h':Pg w0.heap.size b t' w') (hl':t'.length+(nG l n k2).length<=140737488355328)=>KD c b hx hcp hs k2 t' w' hk2 h3 q h' hl');obtain⟨ys,hys⟩:∃ys,ys=(ag l p).ks.map λk=>if (ag l k).kd=2 then ja l 0 k else nG l n k:=⟨_,rfl⟩
 unfold lq at hl |-;rw[<- hys]at hl |-;obtain⟨bA,off,K,cK,rfl,hlt,c0,c1,c2,c3,c4,z5⟩:=aZ hx.nds hb p hpl;rw[<- aT hpl]at c4 z5;clear c0 c1 c2 c3;have hpz:(p:Int)<(n:Int):=by omega
 have hpn:p<n:=hp;have HN:=hid (show∀(k:Nat),k<n->∀w',Below w0.heap.size w0 w'->w'.cell? ⟨bA,off+k*5,none⟩=some (.int .i64 (ag l k).kd)from λk hk2 w' q=>by
  obtain⟨bX,oX,KX,cX,eX,_,q0,_⟩:=aZ hx.nds q k (by rw[<- hx.len];exact hk2);injection eX with eX
  injection eX with x1 x2
  rw[x1,x2,aT (by rw[<- hx.len];exact hk2)];exact q0)
 have HY:=hid hys;have HALL:=hid hall;have HZ:=hid z5;generalize (ag l p).ks=ks at *
 obtain⟨m,hm⟩:∃m,m=ks.length:=⟨_,rfl⟩;rw[<- hm]at c4;have hm2:m<=4000:=by rw[hm];exact hfew
 have HM:=hid hm;have HL:=hid hl;have HB:=hid hb;have H:=hid h;have hbw:=h.bw;have hbl:=h.lt;have hsz:=hb.size;unfold PV at HV HPR;unfold PV;have HX0:=hid (Bx.new w 73 [.slice (some ⟨bA,off,none⟩) n c,.func (.func 117) #[.pointer (some ⟨b,0,none⟩)] #[],.int .i64 0]);have HP0:=hid (h.alloc (.cells #[.slice (some ⟨bA,off,none⟩) n c,.func (.func 117) #[.pointer (some ⟨b,0,none⟩)] #[],.int .i64 0] 73));have HW0:=hid ((Kp.refl w0.heap.size b w).alloc hbw (.cells #[.slice (some ⟨bA,off,none⟩) n c,.func (.func 117) #[.pointer (some ⟨b,0,none⟩)] #[],.int .i64 0] 73));clear hys hall z5 hm hl hb h hpl hk hs hcp hfew hx;go_enter Tryz.func61,Tryz.ntmps61
 go_wp2
 go_loopg [5,13] m (λg _ a13 wr=>∃i:Nat,a13=.int .i64 (i:Int)/\i<=m/\g=m-i/\Pg w0.heap.size b (t++(ys.take i).flatten) wr/\Kp w0.heap.size b w wr/\Bx wr w.heap.size 73 [.slice (some ⟨bA,off,none⟩) n c,.func (.func 117) #[.pointer (some ⟨b,0,none⟩)] #[],.int .i64 0])
 case atStart=>exact⟨0,rfl,Nat.zero_le _,rfl,by simpa using HP0.out,HW0.out,HX0.out⟩
 case round=>
  obtain⟨i,rfl,him,rfl,hp,hk,hx⟩:=hrel;have HP2:=hid hp;have HW2:=hid hk;have HX2:=hid hx;by_cases hlt2:i<m
  ·have hlz:(i:Int)<(m:Int):=by omega
   have hik:i<ks.length:=by rw[<- HM.out];exact hlt2
   have hb3:=HB.out.trans hk.1;obtain⟨bS,oS,rfl,hbS,hcS⟩:=(HZ.out.below hb3) (by omega);have cS:=hcS i hik;obtain⟨k2,ek,hk2n,hkk⟩:=HALL.out ks[i] (List.getElem_mem hik);have hk2n:k2<n:=by omega
   have hkz:(k2:Int)<(n:Int):=by omega
   have hiy:i<ys.length:=by rw[HY.out,List.length_map];exact hik
   have hyi0:ys[i]=if (ag l ks[i]).kd=2 then ja l 0 ks[i] else nG l n ks[i]:=by simp[HY.out]
   have hsn:(ys.take (i+1)).flatten=(ys.take i).flatten++ys[i]:=by
    rw[List.take_succ_eq_append_getElem hiy,List.flatten_append];simp
   have hfl:=qO ys i hiy;rw[ek]at cS hyi0;have n0:=HN.out k2 hk2n wr hb3;have e0:=(hx.cell 0).trans rfl;have e1:=(hx.cell 1).trans rfl;have e2:=(hx.cell 2).trans rfl;have hle:t.length+(ys.take i).flatten.length+ys[i].length<=140737488355328:=by
    have:=HL.out;omega
   generalize ys[i]=y at *
   have HS:=hid hsn;have HY0:=hid hyi0;clear hsn hfl hyi0 hp hk hx hcS hiy ek;rcases hkk with hkk |hkk
   ·have HKK:=hid hkk;rw[hkk]at n0;have HYE:=hid (show y=ja l 0 k2 from HY0.out.trans (if_pos hkk));clear hkk;go_wp2_with (go_at_call 119;refine(HV.out k2 _ _ hk2n hb3 HP2.out (by rw[<- HYE.out,List.length_append];omega)).mono ?_);rintro e w3 ⟨rfl,hp4,hk4⟩;have HX4:=hid (Bx.kp HX2.out hk4 (by omega) (by decide));have HP4:=hid hp4;have HW4:=hid (HW2.out.trans hk4);clear hp4 hk4 e0 e1 e2 n0 cS;go_wp2
    go_roundg (m-(i+1))
    case measure=>go_light;omega
    case rel=>
     go_light
     exact⟨i+1,by go_num,by omega,rfl,by have:=HP4.out;rw[HS.out,HYE.out,<- List.append_assoc];exact this,HW4.out,HX4.out⟩
   ·have HKK:=hid hkk;rw[hkk]at n0;have HYE:=hid (show y=nG l n k2 from HY0.out.trans (if_neg (by rw[hkk];decide)));clear hkk;go_wp2_with (go_at_call 120;refine(HPR.out k2 _ _ hk2n HKK.out hb3 HP2.out (by rw[<- HYE.out,List.length_append];omega)).mono ?_);rintro e w3 ⟨rfl,hp4,hk4⟩;have HX4:=hid (Bx.kp HX2.out hk4 (by omega) (by decide));have HP4:=hid hp4;have HW4:=hid (HW2.out.trans hk4);clear hp4 hk4 e0 e1 e2 n0 cS;go_wp2
    go_roundg (m-(i+1))
    case measure=>go_light;omega
    case rel=>
     go_light
     exact⟨i+1,by go_num,by omega,rfl,by have:=HP4.out;rw[HS.out,HYE.out,<- List.append_assoc];exact this,HW4.out,HX4.out⟩
  ·obtain rfl:i=m:=by omega
   have hlz:¬(i:Int)<(i:Int):=by omega
   have ht:ys.take i=ys:=List.take_of_length_le (by rw[HY.out,List.length_map];have:=HM.out;omega);rw[ht]at hp;have HP5:=hid hp;clear hp hk ht HP2 hx;go_wp2
   go_end0
   exact⟨rfl,HP5.out,HW2.out⟩
theorem xY {w0:World}{A:Option Addr}{l:List Tr.Nd}{n:Nat}(c b:Nat)(hx:nH w0 A l n)(p:Nat)(w:World)(hp:p<n)(hk:(ag l p).ks=[])(hb:Below w0.heap.size w0 w) :
  Calls Tryz.prog 61 #[PV A n c b 0,.int .i64 (p:Int)] w λe w'=>e=.returned (.tuple #[])/\Below w.heap.size w w':=by
 have hpl:p<l.length:=by rw[<- hx.len];exact hp
 obtain⟨bA,off,K,cK,rfl,hlt,c0,c1,c2,c3,c4,z5⟩:=aZ hx.nds hb p hpl;rw[<- aT hpl,hk]at c4;have hpz:(p:Int)<(n:Int):=by omega
 have c4:w.cell? ⟨bA,off+p*5+4,none⟩=some (.slice K 0 cK):=c4;have HW:=hid (aa w (.cells #[.slice (some ⟨bA,off,none⟩) n c,.func (.func 117) #[.pointer (some ⟨b,0,none⟩)] #[],.int .i64 0] 73));clear c0 c1 c2 c3 z5 hk hb hx hpl;unfold PV;go_enter Tryz.func61,Tryz.ntmps61
 go_wp2
 go_loopg [5,13] 0 (λg _ a13 wr=>a13=.int .i64 0/\g=0/\Below w.heap.size w wr)
 case atStart=>exact⟨rfl,rfl,HW.out⟩
 case round=>
  obtain⟨rfl,rfl,hw⟩:=hrel;have HW2:=hid hw;clear hw;go_wp2
  go_end0
  exact⟨rfl,HW2.out⟩
theorem xZ (A:Option Addr)(n c:Nat)(r:Int)(p:Int)(y:List UInt8)(w w0:World)(hw0:w0=w.alloc (.cells #[.slice A n c,.int .i64 r] 25))(hy:y≠[])
  (hway:∀w',Below w0.heap.size w0 w'->Pg w0.heap.size w0.heap.size [] w'->Calls Tryz.prog 61 #[PV A n c w0.heap.size 0,.int .i64 p] w' (aK w0.heap.size w0.heap.size y (.tuple #[]) w')) :
  Calls Tryz.prog 60 #[.agg #[.slice A n c,.int .i64 r],.int .i64 p,.func (.func 61) #[] #[]] w λe w'=>e=.returned (.string (mK y))/\Below w.heap.size w w':=by
 have hsz:w0.heap.size=w.heap.size+1:=by rw[hw0,World.size_alloc]
 have hX:=(Bx.new w 25 [.slice A n c,.int .i64 r]);have hXp:=hX.alloc (.cells #[.pointer none,.slice none 0 0] 118);have hP:=EQ w0;have hbp:=aa w0 (.cells #[.pointer none,.slice none 0 0] 118);have HP0:=hid hP;have HC:=hid (hway _ hbp hP);have HB:=hid ((aa w (.cells #[.slice A n c,.int .i64 r] 25)));rw[hw0]at hbp;have HBP:=hid hbp;rw[hsz]at HC HP0;rw[hw0]at HC HP0;have e0:=(hXp.cell 0).trans rfl;have HS:=hid (λw' (q:Pg (w.heap.size+1) (w.heap.size+1) y w')=>vW (w.heap.size+1) (w.heap.size+1) y w' q hy);have HSZ:=hid hsz;unfold PV at HC;clear hway hw0 hX hXp hP hbp hy hsz;go_enter Tryz.func60,Tryz.ntmps60
 go_wp2_with (go_at_call 61;refine HC.out.mono ?_);rintro e w1 ⟨rfl,hp,hk⟩;have HC2:=hid (HS.out w1 hp);have HK:=hid hk;clear hp hk e0;go_wp2_with (go_at_call 118;refine HC2.out.mono ?_);rintro e w2 ⟨rfl,hp2,hk2⟩;have HK2:=hid hk2;clear hp2 hk2;go_wp2
 go_ret
 refine⟨rfl,bt HB.out ?_⟩;have h1:=HBP.out;have h2:=HK.out.1;have h3:=HK2.out.1;rw[show(w.alloc (.cells #[.slice A n c,.int .i64 r] 25)).heap.size=w.heap.size+1 from World.size_alloc _ _]at h1 |-;exact(h1.trans h2).trans h3
theorem uR (A:Option Addr)(n c:Nat)(r:Int)(p:Int)(w w0:World)(hw0:w0=w.alloc (.cells #[.slice A n c,.int .i64 r] 25))
  (hway:∀w',Below w0.heap.size w0 w'->Calls Tryz.prog 61 #[PV A n c w0.heap.size 0,.int .i64 p] w' λe w2=>e=.returned (.tuple #[])/\Below w'.heap.size w' w2) :
  Calls Tryz.prog 60 #[.agg #[.slice A n c,.int .i64 r],.int .i64 p,.func (.func 61) #[] #[]] w λe w'=>e=.returned (.string ⟨#[]⟩)/\Below w.heap.size w w':=by
 have hsz:w0.heap.size=w.heap.size+1:=by rw[hw0,World.size_alloc]
 have hX:=(Bx.new w 25 [.slice A n c,.int .i64 r]);have hXp:=hX.alloc (.cells #[.pointer none,.slice none 0 0] 118);have hbp:=aa w0 (.cells #[.pointer none,.slice none 0 0] 118);have HC:=hid (hway _ hbp);have HBK:=hid (show(w0.alloc (.cells #[.pointer none,.slice none 0 0] 118)).heap[w0.heap.size]?=some (.cells #[.pointer none,.slice none 0 0] 118 (0,0))from Bx.new w0 118 [.pointer none,.slice none 0 0]);rw[hw0]at hbp;have HBP:=hid hbp;rw[hsz]at HC HBK;rw[hw0]at HC HBK;have e0:=(hXp.cell 0).trans rfl;have HB:=hid ((aa w (.cells #[.slice A n c,.int .i64 r] 25)));have HSZ:=hid hsz;unfold PV at HC;clear hway hX hXp hbp;have HW0:=hid hw0;clear hw0 hsz;go_enter Tryz.func60,Tryz.ntmps60
 go_wp2_with (go_at_call 61;refine HC.out.mono ?_);rintro e w1 ⟨rfl,hk⟩;have hbk1:=(hk.block (w.heap.size+1) (by rw[World.size_alloc,World.size_alloc];omega)).trans HBK.out;have HK:=hid hk;have HC2:=hid (Av (w.heap.size+1) w1 hbk1);clear hk hbk1 e0;go_wp2_with (go_at_call 118;refine HC2.out.mono ?_);rintro e w2 ⟨rfl,hk2⟩;have HK2:=hid hk2;clear hk2;go_wp2
 go_ret
 exact⟨rfl,bt HB.out (by have h1:=HBP.out;rw[show(w.alloc (.cells #[.slice A n c,.int .i64 r] 25)).heap.size=w.heap.size+1 from World.size_alloc _ _]at h1 |-;exact(h1.trans (HK.out.mono (by rw[World.size_alloc,World.size_alloc];omega))).trans (HK2.out.mono (by have:=HK.out.size;rw[World.size_alloc,World.size_alloc]at this;omega)))⟩
end
end Go.Proofs.YteecfjhjllajlaaGreatDoor
