/- PROVED here: parts VaV VaU of the claim. No condition but those in each theorem's own head. -/
import Derived.Test.YtignojhijmamhaaGreatJ30
import Derived.Test.YtignojhijmamhaaGreatRows
import Derived.WalkKit
import Derived.ProofKit
import Derived.OpenShut
import Derived.Carry
import Derived.Deep.Strs
import Derived.Deep.Slices
import Derived.ChangeMaps5
namespace Go.Proofs.YtignojhijmamhaaGreat.Va
open Go Go.ChangeShapes Go.WideShapes Go.ChangeAt Go.RowKit Go.Deep
set_option maxRecDepth 100000
theorem ownK:ownKnob Tryz.prog.godebug=none:=by kernel_rfl
theorem laidOut:laidOutB Tryz.prog=true:=by kernel_rfl
theorem lit4:Tryz.prog.underlying 4=some .bool:=by kernel_rfl
theorem cells3:Tryz.prog.cellsOf 3=1:=by kernel_rfl
theorem cells23:Tryz.prog.cellsOf 43=2:=by kernel_rfl
theorem cells52:Tryz.prog.cellsOf 45=8:=by kernel_rfl
theorem fields52:(Tryz.prog.fieldsOf 45).toList.map (fun f=>(f.name,f.type,f.offset))=[("Op",3,0),("N",3,1),("A",43,2),("I",43,4),("V",43,6)]:=by kernel_rfl
theorem under52:Tryz.prog.underlying 45=some (.struct (Tryz.prog.fieldsOf 45)):=by kernel_rfl
theorem size23:(Tryz.prog.fieldsOf 43).size=2:=by kernel_rfl
theorem size52:(Tryz.prog.fieldsOf 45).size=5:=by kernel_rfl
theorem pick_lt {α:Type}{P:Nat→α→Prop}{m:Nat}(d:α)(h:∀i,i<m→∃q,P i q):∃Q:Nat→α,∀i,i<m→P i (Q i):=
 ⟨fun i=>if hi:i<m then (h i hi).choose else d,fun i hi=>by
  show P i (dite (i<m) _ _)
  rw[dif_pos hi]
  exact(h i hi).choose_spec⟩
theorem field_of {T:TypeId}{L:List (String × Nat × Nat)}(hL:(Tryz.prog.fieldsOf T).toList.map (fun f=>(f.name,f.type,f.offset))=L){i:Nat}{n:String}{t o:Nat}(h:L[i]?=some (n,t,o)):∃f,(Tryz.prog.fieldsOf T)[i]?=some f∧f.type=t∧f.offset=o:=by
 rw[← hL,List.getElem?_map]at h
 cases hq:(Tryz.prog.fieldsOf T).toList[i]? with
 |none=>rw[hq]at h;cases h
 |some f=>
  rw[hq]at h
  simp only[Option.map_some,Option.some.injEq,Prod.mk.injEq]at h
  exact⟨f,by rw[← Array.getElem?_toList];exact hq,h.2.1,h.2.2⟩
theorem add_flat (b off k:Nat):(⟨b,off,none⟩:Addr).add k=⟨b,off+k,none⟩:=by simp[Addr.add]
structure AV where
 op:Int
 n:Int
 ak:Int
 an:Int
 ik:Int
 iN:Int
 vk:Int
 vn:Int
def AV.cs (a:AV):List Value:=[.int .i64 a.op,.int .i64 a.n,.int .i64 a.ak,.int .i64 a.an,.int .i64 a.ik,.int .i64 a.iN,.int .i64 a.vk,.int .i64 a.vn]
def Acts (w:World)(A:Option Addr)(l:List AV):Prop:=0<l.length→∃b off,A=some ⟨b,off,none⟩∧b<w.heap.size∧∀j (hj:j<l.length) f,f<8→w.cell? ⟨b,off+j*8+f,none⟩=(l[j].cs)[f]?
section
variable {H:Type} {enc:TypeId × Value→H} {W:World}
theorem value_of {n:Nat}{cs:List Value}{x:DataW H × List MemPlace}(hlen:cs.length=2)(h:DataW.trod enc Tryz.prog W 0 (fun _=>true) true n 43 cs=some x):∃a b:Int,cs=[.int .i64 a,.int .i64 b]:=by
 obtain⟨d,pl⟩:=x
 obtain⟨xs,k,_,_,_,hxl,hel⟩:=DataW.trod_struct under23 h
 obtain⟨f0,g0,t0,o0⟩:=field_of fields23 (i:=0) rfl
 obtain⟨f1,g1,t1,o1⟩:=field_of fields23 (i:=1) rfl
 rw[size23]at hxl
 match cs,hlen,xs,hxl with
 | [v0,v1],_,[x0,x1],_=>
  have e0:=hel 0 f0 g0
  have e1:=hel 1 f1 g1
  rw[t0,o0,cells3]at e0
  rw[t1,o1,cells3]at e1
  obtain⟨a0,q0,_,_⟩:=DataW.trod_int Tryz.underlying3 e0
  obtain⟨a1,q1,_,_⟩:=DataW.trod_int Tryz.underlying3 e1
  simp at q0 q1
  exact⟨a0,a1,by rw[q0,q1]⟩
theorem act_of {n:Nat}{cs:List Value}{x:DataW H × List MemPlace}(hlen:cs.length=8)(h:DataW.trod enc Tryz.prog W 0 (fun _=>true) true n 45 cs=some x):∃a:AV,cs=a.cs:=by
 obtain⟨d,pl⟩:=x
 obtain⟨xs,k,_,_,_,hxl,hel⟩:=DataW.trod_struct under52 h
 obtain⟨f0,g0,t0,o0⟩:=field_of fields52 (i:=0) rfl
 obtain⟨f1,g1,t1,o1⟩:=field_of fields52 (i:=1) rfl
 obtain⟨f2,g2,t2,o2⟩:=field_of fields52 (i:=2) rfl
 obtain⟨f3,g3,t3,o3⟩:=field_of fields52 (i:=3) rfl
 obtain⟨f4,g4,t4,o4⟩:=field_of fields52 (i:=4) rfl
 rw[size52]at hxl
 match cs,hlen,xs,hxl with
 | [v0,v1,v2,v3,v4,v5,v6,v7],_,[x0,x1,x2,x3,x4],_=>
  have e0:=hel 0 f0 g0
  have e1:=hel 1 f1 g1
  have e2:=hel 2 f2 g2
  have e3:=hel 3 f3 g3
  have e4:=hel 4 f4 g4
  rw[t0,o0,cells3]at e0
  rw[t1,o1,cells3]at e1
  rw[t2,o2,cells23]at e2
  rw[t3,o3,cells23]at e3
  rw[t4,o4,cells23]at e4
  obtain⟨a0,q0,_,_⟩:=DataW.trod_int Tryz.underlying3 e0
  obtain⟨a1,q1,_,_⟩:=DataW.trod_int Tryz.underlying3 e1
  obtain⟨b0,b1,q2⟩:=value_of rfl e2
  obtain⟨c0,c1,q3⟩:=value_of rfl e3
  obtain⟨d0,d1,q4⟩:=value_of rfl e4
  simp at q0 q1 q2 q3 q4
  refine⟨⟨a0,a1,b0,b1,c0,c1,d0,d1⟩,?_⟩
  rw[q0,q1,q2.1,q2.2,q3.1,q3.2,q4.1,q4.2]
  rfl
theorem viewActs {base:Nat}{v:Value}{d:DataW H}{p:List MemPlace}(hv:Value.okWide Tryz.prog W .any base 26 v)(h:DataW.Trod enc Tryz.prog W 0 (fun _=>true) true 26 v d p):∃(A:Option Addr) (c:Nat) (l:List AV),v = .slice A l.length c∧Acts W A l∧l.length≤c:=by
 obtain⟨a0,len,cap,rfl⟩:=okWide_slice Tryz.underlying26 hv
 obtain⟨fuel,hf⟩:=h
 rcases open_slice Tryz.underlying26 hf with⟨hcs,hx⟩ |⟨a,len',cap',m,n,D,Pl,hcs,_,hl,hm,hmm,hx,hcell⟩
 ·simp[Value.cells]at hcs
  obtain⟨rfl,rfl,rfl⟩:=hcs
  exact⟨none,0,[],rfl,fun h=>by simp at h,by simp⟩
 ·simp[Value.cells]at hcs
  obtain⟨rfl,rfl,rfl⟩:=hcs
  simp only[if_true]at hmm
  subst hmm
  have each:∀i,i<m→∃q:AV,∀f,f<8→W.cell? ((a.add (i*8)).add f)=(q.cs)[f]?:=fun i hi=>by
   obtain⟨cs',h1,h2⟩:=hcell i hi
   rw[cells52]at h1
   obtain⟨_,hlen,hc⟩:=World.cells?_some h1
   obtain⟨q,hq⟩:=act_of hlen h2
   exact⟨q,fun f hf=>by rw[← hq];exact hc f hf⟩
  obtain⟨Q,hQ⟩:=pick_lt ⟨0,0,0,0,0,0,0,0⟩ each
  refine⟨some a,m,(List.range len).map Q,by simp,fun h0 =>?_,by simpa using hl⟩
  have h0':0<m:=by simp at h0;omega
  obtain⟨b,off,spot⟩:=a
  have h00:=hQ 0 h0' 0 (by decide)
  have hspot:spot=none:=by
   have:=World.cell?_spot (h00.trans (show(Q 0).cs[0]?=some (.int .i64 (Q 0).op)from rfl))
   simpa [Addr.add]using this
  subst hspot
  have eqs:∀i o,(((⟨b,off,none⟩:Addr).add (i*8)).add o)=⟨b,off+i*8+o,none⟩:=fun i o=>by rw[add_flat,add_flat]
  refine⟨b,off,rfl,World.block_lt_of_cell? W _ (by have h9:=h00.trans (show(Q 0).cs[0]?=some (.int .i64 (Q 0).op)from rfl);rw[eqs]at h9;exact h9),fun j hj f hf =>?_⟩
  have hj':j<len:=by simpa using hj
  have:=hQ j (by omega) f hf
  rw[eqs]at this
  simp only[List.getElem_map,List.getElem_range]
  exact this
end
theorem Acts.below {w w':World}{A:Option Addr}{l:List AV}(h:Acts w A l)(hb:Below w.heap.size w w'):Acts w' A l:=fun h0=>by
 obtain⟨b,off,e,hl,hc⟩:=h h0
 exact⟨b,off,e,Nat.lt_of_lt_of_le hl hb.size,fun j hj f hf=>(hb.cell (p:=⟨b,off+j*8+f,none⟩) hl).trans (hc j hj f hf)⟩
end Go.Proofs.YtignojhijmamhaaGreat.Va
namespace Go.Proofs.YtignojhijmamhaaGreat.Va
open Go Go.RowKit Go.Sort
def pickR (c:Int):Int:=if c<0 then (wrap64 (-(wrap64 (c+1)))).tmod 4 else c % 4
set_option maxRecDepth 100000 in
theorem pick_any (c:Int)(w:World):Calls Tryz.prog 16 #[.int .i64 c,.int .i64 4] w fun e w'=>e = .returned (.int .i64 (pickR c))∧w=w':=by
 unfold pickR
 by_cases h:c<0
 ·rw[if_pos h]
  go_enter Tryz.func16,Tryz.ntmps16
  go_wp2
  go_ret
  exact⟨rfl,rfl⟩
 ·rw[if_neg h]
  go_enter Tryz.func16,Tryz.ntmps16
  go_wp2
  go_ret
  exact⟨rfl,rfl⟩
def actH (L:List (List Int))(a:AV):List (List Int):=if pickR a.op=0 then newH L a.n else if pickR a.op=1 then L else setH L a.ak a.an a.ik a.iN a.vk a.vn
structure Two (w:World) (base g1:Nat) (v1:Value) (vs1:List Value) (L1:List (List Int)) (g2:Nat) (v2:Value) (vs2:List Value) (L2:List (List Int)):Prop where
 h1:Hp 37 C46 w base g1 v1 vs1 L1
 h2:Hp 40 C49 w base g2 v2 vs2 L2
 dj:∀b,Fp g1 v1 vs1 b→¬Fp g2 v2 vs2 b
theorem Two.below {w w':World}{base g1 g2:Nat}{v1 v2:Value}{vs1 vs2:List Value}{L1 L2:List (List Int)}(h:Two w base g1 v1 vs1 L1 g2 v2 vs2 L2)(hb:Below w.heap.size w w'):Two w' base g1 v1 vs1 L1 g2 v2 vs2 L2:=⟨h.h1.below hb,h.h2.below hb,h.dj⟩
def F2 (g1:Nat)(v1:Value)(vs1:List Value)(g2:Nat)(v2:Value)(vs2:List Value)(b:Nat):Prop:=Fp g1 v1 vs1 b∨Fp g2 v2 vs2 b
def DoesP (base g1:Nat)(v1:Value)(vs1:List Value)(L1:List (List Int))(g2:Nat)(v2:Value)(vs2:List Value)(L2:List (List Int))(a:AV)(w:World)(e:Ending)(w':World):Prop:=
 ∃b v1' vs1' v2' vs2',e = .returned (.bool b)∧(L1=L2→b=true)∧Two w' base g1 v1' vs1' (actH L1 a) g2 v2' vs2' (actH L2 a)∧Fr (F2 g1 v1 vs1 g2 v2 vs2) w w'
theorem cmp_eq2 {b1 b2:Bool}{P:Prop}(h:P→b1=true∧b2=true):P→(b1&&b2)=true:=fun p=>by obtain⟨h1,h2⟩:=h p;rw[h1,h2];rfl
theorem cmp_eq {b1 b2 b3:Bool}{P:Prop}(h:P→b1=true∧b2=true∧b3=true):P→(b1&&b2&&b3)=true:=fun p=>by obtain⟨h1,h2,h3⟩:=h p;rw[h1,h2,h3];rfl
structure RR (W0:World) (base g1:Nat) (v1:Value) (vs1:List Value) (g2:Nat) (v2:Value) (vs2:List Value) (x:Nat) (cs:List Value) (L1 L2:List (List Int)) (w:World):Prop where
 bx:Bx w x 45 cs
 two:Two w base g1 v1 vs1 L1 g2 v2 vs2 L2
 fr:Fr (F2 g1 v1 vs1 g2 v2 vs2) W0 w
section
variable {W0:World} {base g1 g2 x:Nat} {v1 v2:Value} {vs1 vs2:List Value} {cs:List Value} {L1 L2:List (List Int)} {w w':World}
theorem RR.below (h:RR W0 base g1 v1 vs1 g2 v2 vs2 x cs L1 L2 w)(hb:Below w.heap.size w w'):RR W0 base g1 v1 vs1 g2 v2 vs2 x cs L1 L2 w':=
 ⟨h.bx.below hb h.bx.lt,h.two.below hb,h.fr.trans (Fr.of_below (F:=F2 g1 v1 vs1 g2 v2 vs2) hb) fun _ q =>.inl q⟩
theorem RR.set1 (h:RR W0 base g1 v1 vs1 g2 v2 vs2 x cs L1 L2 w){L1':List (List Int)}(q:Hp 37 C46 w' base g1 v1 vs1 L1')(F:Fr (Fp g1 v1 vs1) w w'):RR W0 base g1 v1 vs1 g2 v2 vs2 x cs L1' L2 w':=
 ⟨h.bx.fr F (h.two.h1.not_fp h.bx (by decide) (by decide) (by decide)),⟨q,h.two.h2.fr F (fun b hb q=>h.two.dj b q hb),h.two.dj⟩,h.fr.trans F fun _ q =>.inl (.inl q)⟩
theorem RR.set2 (h:RR W0 base g1 v1 vs1 g2 v2 vs2 x cs L1 L2 w){L2':List (List Int)}(q:Hp 40 C49 w' base g2 v2 vs2 L2')(F:Fr (Fp g2 v2 vs2) w w'):RR W0 base g1 v1 vs1 g2 v2 vs2 x cs L1 L2' w':=
 ⟨h.bx.fr F (h.two.h2.not_fp h.bx (by decide) (by decide) (by decide)),⟨h.two.h1.fr F (fun b hb q=>h.two.dj b hb q),q,h.two.dj⟩,h.fr.trans F fun _ q =>.inl (.inr q)⟩
end
set_option maxRecDepth 100000 in
set_option maxHeartbeats 4000000 in
theorem does_any {w:World}{base g1 g2:Nat}{v1 v2:Value}{vs1 vs2:List Value}{L1 L2:List (List Int)}(h:Two w base g1 v1 vs1 L1 g2 v2 vs2 L2)(a:AV):Calls Tryz.prog 6 #[.pointer (some ⟨g1,0,none⟩),.pointer (some ⟨g2,0,none⟩),.agg #[.int .i64 a.op,.int .i64 a.n,.int .i64 a.ak,.int .i64 a.an,.int .i64 a.ik,.int .i64 a.iN,.int .i64 a.vk,.int .i64 a.vn]] w (DoesP base g1 v1 vs1 L1 g2 v2 vs2 L2 a w):=by
 have hb0:=heap1 w (.cells #[.int .i64 a.op,.int .i64 a.n,.int .i64 a.ak,.int .i64 a.an,.int .i64 a.ik,.int .i64 a.iN,.int .i64 a.vk,.int .i64 a.vn] 45)
 have hX:=Bx.new w 45 [.int .i64 a.op,.int .i64 a.n,.int .i64 a.ak,.int .i64 a.an,.int .i64 a.ik,.int .i64 a.iN,.int .i64 a.vk,.int .i64 a.vn]
 have hT:=h.below hb0
 obtain⟨W0,hW0⟩:∃W0,w.alloc (.cells #[.int .i64 a.op,.int .i64 a.n,.int .i64 a.ak,.int .i64 a.an,.int .i64 a.ik,.int .i64 a.iN,.int .i64 a.vk,.int .i64 a.vn] 45)=W0:=⟨_,rfl⟩
 rw[show w.alloc (.cells ([.int .i64 a.op,.int .i64 a.n,.int .i64 a.ak,.int .i64 a.an,.int .i64 a.ik,.int .i64 a.iN,.int .i64 a.vk,.int .i64 a.vn]:List Value).toArray 45)=W0 from hW0]at hX
 rw[hW0]at hT hb0
 have HX:=Lib.hid hX
 have HT:=Lib.hid hT
 have HB0:=Lib.hid hb0
 have HP:=Lib.hid (fun W=>pick_any a.op W)
 have HA:=Lib.hid (fun k n W=>as_any k n W)
 have x0:=(hX.cell 0).trans rfl
 have x1:=(hX.cell 1).trans rfl
 clear hX hT hb0 h
 have hH:∀L,actH L a=if pickR a.op=0 then newH L a.n else if pickR a.op=1 then L else setH L a.ak a.an a.ik a.iN a.vk a.vn:=fun _=>rfl
 have HH:=Lib.hid hH
 clear hH
 generalize pickR a.op=p at *
 by_cases hp0:p=0
 ·subst hp0
  have HL:=Lib.hid (show∀L,actH L a=newH L a.n from fun L=>by rw[HH.out];rfl)
  have HC1:=Lib.hid (new_any HT.out.h1 a.n)
  have HC2:=Lib.hid (fun(W:World) (q:Hp 40 C49 W base g2 v2 vs2 L2)=>rnew_any q a.n)
  have heq:L1=L2→newV L1 a.n=newV L2 a.n:=fun e=>by rw[e]
  unfold NewP at HC1 HC2
  obtain⟨⟨⟨k1,n1⟩,e1,o1⟩,hv1⟩:∃R,newV L1 a.n=R:=⟨_,rfl⟩
  obtain⟨⟨⟨k2,n2⟩,e2,o2⟩,hv2⟩:∃R,newV L2 a.n=R:=⟨_,rfl⟩
  rw[hv1]at HC1 heq
  rw[hv2]at HC2 heq
  have HQ:=Lib.hid (show L1=L2→(k1==k2&&n1==n2)=true∧(e1==e2)=true∧(o1==o2)=true from fun e=>by
   have h:=heq e
   simp only[Prod.mk.injEq]at h
   obtain⟨⟨h1,h2⟩,h3,h4⟩:=h
   subst h1 h2 h3 h4
   simp)
  clear hv1 hv2 heq
  dsimp only at HC1 HC2
  go_enter Tryz.func6,Tryz.ntmps6
  go_wp2_with (first|(go_at_call 16;refine(HP.out _).mono ?_;rintro e w' ⟨rfl,rfl⟩) |(go_at_call 12;refine HC1.out.mono ?_))
  rintro e w1 ⟨rfl,v1',vs1',h1',F1,G1⟩
  have hx1:=(HX.out.fr F1 (HT.out.h1.not_fp HX.out (by decide) (by decide) (by decide))).alloc (.cells #[.int .i64 k1,.int .i64 n1] 43)
  have h2':=(HT.out.h2.fr F1 (fun b hb q=>HT.out.dj b q hb)).below (heap1 w1 (.cells #[.int .i64 k1,.int .i64 n1] 43))
  have h1'':=h1'.below (heap1 w1 (.cells #[.int .i64 k1,.int .i64 n1] 43))
  have hy:=Bx.new w1 43 [.int .i64 k1,.int .i64 n1]
  have F1':=F1.trans (Fr.of_below (F:=Fp g1 v1 vs1) (heap1 w1 (.cells #[.int .i64 k1,.int .i64 n1] 43))) fun _ q =>.inl q
  go_upto_region 4 with(fail)
  obtain⟨W2,hW2⟩:∃W2,w1.alloc (.cells #[.int .i64 k1,.int .i64 n1] 43)=W2:=⟨_,rfl⟩
  rw[hW2]at hx1 h2' h1'' F1' ⊢
  rw[show w1.alloc (.cells [Value.int .i64 k1,.int .i64 n1].toArray 43)=W2 from hW2]at hy
  have H2:=Lib.hid h2'
  have H1:=Lib.hid h1''
  have HF:=Lib.hid F1'
  have HG:=Lib.hid G1
  have HY:=Lib.hid hy
  have y1:=(hx1.cell 1).trans rfl
  generalize w1.heap.size=t7 at *
  clear hx1 h2' h1'' F1' F1 G1 hy h1' x0 x1 hW2
  go_wp2_with (go_at_call 17;refine(HC2.out _ H2.out).mono ?_)
  rintro e w3 ⟨rfl,v2',vs2',h2',FF2,G2⟩
  have hdj1:∀b,Fp g1 v1' vs1' b→¬Fp g2 v2 vs2 b:=fun b hb q=>by
   rcases HG.out b hb with z |z
   ·exact HT.out.dj b z q
   ·have:=HT.out.h2.lt q;omega
  have h13:=(H1.out.fr FF2 hdj1)
  have hy3:=HY.out.fr FF2 (H2.out.not_fp HY.out (by decide) (by decide) (by decide))
  have hdj:∀b,Fp g1 v1' vs1' b→¬Fp g2 v2' vs2' b:=fun b hb q=>by
   rcases G2 b q with z |z
   ·exact hdj1 b hb z
   ·have:=H1.out.lt hb;omega
  have F3:=(HF.out.mono (G:=F2 g1 v1 vs1 g2 v2 vs2) fun b q =>.inl q).trans FF2 fun b q =>.inl (.inr q)
  have hz:=Bx.new w3 49 [.int .i64 k2,.int .i64 n2]
  have hy4:=hy3.alloc (.cells #[.int .i64 k2,.int .i64 n2] 49)
  have hT4:=(show Two w3 base g1 v1' vs1' (newH L1 a.n) g2 v2' vs2' (newH L2 a.n) from⟨h13,h2',hdj⟩).below (heap1 w3 (.cells #[.int .i64 k2,.int .i64 n2] 49))
  have F4:=F3.trans (Fr.of_below (F:=F2 g1 v1 vs1 g2 v2 vs2) (heap1 w3 (.cells #[.int .i64 k2,.int .i64 n2] 49))) fun _ q =>.inl q
  go_upto_region 5 with(fail)
  obtain⟨W4,hW4⟩:∃W4,w3.alloc (.cells #[.int .i64 k2,.int .i64 n2] 49)=W4:=⟨_,rfl⟩
  rw[hW4]at hy4 hT4 F4 ⊢
  rw[show w3.alloc (.cells [Value.int .i64 k2,.int .i64 n2].toArray 49)=W4 from hW4]at hz
  have HT4:=Lib.hid hT4
  have HF4:=Lib.hid F4
  generalize w3.heap.size=t10 at *
  have s0:=cell_regrown ((hy4.cell 0).trans rfl)
  have s1:=cell_regrown ((hy4.cell 1).trans rfl)
  have s2:=cell_regrown ((hz.cell 0).trans rfl)
  have s3:=cell_regrown ((hz.cell 1).trans rfl)
  have q1:=run_eql27
  have cq:∀d os,Calls Tryz.prog 7 #[.agg #[.int .i64 k1,.int .i64 n1]] (grow (redrawn W4 d) os) fun e w''=>e = .returned (.agg #[.int .i64 k1,.int .i64 n1])∧∃p:Regrown,w''=grow (redrawn W4 p.d) p.os:=fun d os=>Calls.regrown_of (HA.out _ _ _)
  clear y1 h13 hy3 hdj hdj1 F3 hz hy4 hT4 F4 hW4 h2' FF2 G2
  cases c1:(k1==k2&&n1==n2)<;>cases c2:(e1==e2)<;>cases c3:(o1==o2)
  all_goals (
   have HQ2:=Lib.hid (cmp_eq HQ.out)
   rw[c1,c2,c3]at HQ2
   refine wp_region_quiet_below (by kernel_rfl) (by kernel_rfl) ?_
   repeat (first|go_big_quiet_step (first|exact cq _ _))
   refine wpQuiet_nil ?_
   intro _ hw'
   obtain⟨⟨dq,osq⟩,hw''⟩:=hw'
   subst hw''
   have hbq:=below_regrown W4 dq osq
   generalize grow (redrawn W4 dq) osq=wz at *
   have HE:=Lib.hid (And.intro (HT4.out.below hbq) (((Fr.of_below (F:=F2 g1 v1 vs1 g2 v2 vs2) HB0.out).trans HF4.out fun _ q =>.inl q).trans (Fr.of_below (F:=F2 g1 v1 vs1 g2 v2 vs2) hbq) fun _ q =>.inl q))
   clear hbq s0 s1 s2 s3 q1 cq
   go_wp2
   go_ret
   exact⟨_,v1',vs1',v2',vs2',rfl,HQ2.out,by rw[HL.out,HL.out];exact HE.out.1,HE.out.2⟩)
 ·have c0:(p==0)=false:=beq_eq_false_iff_ne.2 hp0
  by_cases hp1:p=1
  ·subst hp1
   have HL:=Lib.hid (show∀L,actH L a=L from fun L=>by rw[HH.out];rfl)
   have HC1:=Lib.hid (fun(W:World) (q:Below W0.heap.size W0 W)=>get_any (HT.out.h1.below q) a.ak a.an a.ik a.iN)
   have HC2:=Lib.hid (fun(W:World) (q:Below W0.heap.size W0 W)=>rget_any (HT.out.h2.below q) a.ak a.an a.ik a.iN)
   have heq:L1=L2→getV L1 a.ak a.an a.ik a.iN=getV L2 a.ak a.an a.ik a.iN:=fun e=>by rw[e]
   obtain⟨⟨⟨k1,n1⟩,e1⟩,hv1⟩:∃R,getV L1 a.ak a.an a.ik a.iN=R:=⟨_,rfl⟩
   obtain⟨⟨⟨k2,n2⟩,e2⟩,hv2⟩:∃R,getV L2 a.ak a.an a.ik a.iN=R:=⟨_,rfl⟩
   rw[hv1]at HC1 heq
   rw[hv2]at HC2 heq
   have HQ:=Lib.hid (show L1=L2→(k1==k2&&n1==n2)=true∧(e1==e2)=true from fun e=>by
    have h:=heq e
    simp only[Prod.mk.injEq]at h
    obtain⟨⟨h1,h2⟩,h3⟩:=h
    subst h1 h2 h3
    simp)
   clear hv1 hv2 heq hp0
   dsimp only at HC1 HC2
   have x2:=(HX.out.cell 2).trans rfl
   have x3:=(HX.out.cell 3).trans rfl
   have x4:=(HX.out.cell 4).trans rfl
   have x5:=(HX.out.cell 5).trans rfl
   go_enter Tryz.func6,Tryz.ntmps6
   go_wp2_with (first|(go_at_call 16;refine(HP.out _).mono ?_;rintro e w' ⟨rfl,rfl⟩) |(go_at_call 14;refine(HC1.out _ (Below.refl _ _)).mono ?_))
   rintro e w1 ⟨rfl,hb1⟩
   clear x0 x1 x2 x3 x4 x5
   have hb2:=bt hb1 (heap1 w1 (.cells #[.int .i64 k1,.int .i64 n1] 43))
   have hy:=Bx.new w1 43 [.int .i64 k1,.int .i64 n1]
   go_upto_region 8 with(fail)
   obtain⟨W2,hW2⟩:∃W2,w1.alloc (.cells #[.int .i64 k1,.int .i64 n1] 43)=W2:=⟨_,rfl⟩
   rw[hW2]at hb2 ⊢
   rw[show w1.alloc (.cells [Value.int .i64 k1,.int .i64 n1].toArray 43)=W2 from hW2]at hy
   have HY:=Lib.hid hy
   have HB2:=Lib.hid hb2
   generalize w1.heap.size=t13 at *
   clear hy hb2 hb1 hW2
   go_cut [15,16] (fun x y wx=>∃gg:Nat,x = .pointer (some ⟨gg,0,none⟩)∧y = .int .i64 e2∧Below W2.heap.size W2 wx∧gg<wx.heap.size∧wx.cell? ⟨gg,0,none⟩=some (.int .i64 k2)∧wx.cell? ⟨gg,1,none⟩=some (.int .i64 n2))
   case first=>
    have l2:∀w',Below W2.heap.size W2 w'→w'.cell? ⟨w.heap.size,2,none⟩=some (.int .i64 a.ak):=fun w' q=>((HX.out.below (bt HB2.out q) HX.out.lt).cell 2).trans rfl
    have l3:∀w',Below W2.heap.size W2 w'→w'.cell? ⟨w.heap.size,3,none⟩=some (.int .i64 a.an):=fun w' q=>((HX.out.below (bt HB2.out q) HX.out.lt).cell 3).trans rfl
    have l4:∀w',Below W2.heap.size W2 w'→w'.cell? ⟨w.heap.size,4,none⟩=some (.int .i64 a.ik):=fun w' q=>((HX.out.below (bt HB2.out q) HX.out.lt).cell 4).trans rfl
    have l5:∀w',Below W2.heap.size W2 w'→w'.cell? ⟨w.heap.size,5,none⟩=some (.int .i64 a.iN):=fun w' q=>((HX.out.below (bt HB2.out q) HX.out.lt).cell 5).trans rfl
    go_region_held3 (fun w'=>Below W2.heap.size W2 w') (first|exact(Below.refl _ _).drew |exact bt (by assumption) (by assumption) |exact realloc (by assumption) (by assumption) |exact below2 (by assumption) (by assumption) |exact below2 (by assumption) (Nat.le_refl _) |exact Below.alloc (by assumption) (Below.size (by assumption)) _ |go_keep)
     (first|(go_at_call 7;refine(HA.out _ _ _).mono ?_;rintro e w1 ⟨rfl,hb1⟩;obtain⟨hcc,hff,hnn⟩:=bcell3 hb1;have hzz:W2.heap.size≤w1.heap.size:=(bt (by assumption) hb1).size;try (have hyy:W2.heap.size<w1.heap.size:=(by have hq:=hb1.size;(try rw[World.size_alloc]at hq);first|exact Nat.lt_of_lt_of_le (by assumption) hq |(simp at hq;omega)))) |(go_at_call 18;refine(HC2.out _ (bt HB2.out (by assumption))).mono ?_;rintro e w1 ⟨rfl,hb1⟩;obtain⟨hcc,hff,hnn⟩:=bcell3 hb1;have hzz:W2.heap.size≤w1.heap.size:=(bt (by assumption) hb1).size;try (have hyy:W2.heap.size<w1.heap.size:=(by have hq:=hb1.size;(try rw[World.size_alloc]at hq);first|exact Nat.lt_of_lt_of_le (by assumption) hq |(simp at hq;omega)))))
    all_goals (go_wp2_with fail;go_meet;refine⟨_,rfl,rfl,by assumption,?_,?_,?_⟩)
    all_goals simp(maxDischargeDepth:=8) [go_sem, *]
   case rest=>
    obtain⟨gg,rfl,rfl,hb,hgg,d0,d1⟩:=hcut
    obtain⟨W4,rfl⟩:∃W4,W4=wc:=⟨_,rfl⟩
    have HB4:=Lib.hid (bt HB2.out hb)
    have s0:=cell_regrown (((HY.out.below hb HY.out.lt).cell 0).trans rfl)
    have s1:=cell_regrown (((HY.out.below hb HY.out.lt).cell 1).trans rfl)
    have s2:=cell_regrown d0
    have s3:=cell_regrown d1
    have q1:=run_eql27
    have cq:∀d os,Calls Tryz.prog 7 #[.agg #[.int .i64 k1,.int .i64 n1]] (grow (redrawn W4 d) os) fun e w''=>e = .returned (.agg #[.int .i64 k1,.int .i64 n1])∧∃p:Regrown,w''=grow (redrawn W4 p.d) p.os:=fun d os=>Calls.regrown_of (HA.out _ _ _)
    clear hb hgg d0 d1
    cases c1:(k1==k2&&n1==n2)<;>cases c2:(e1==e2)
    all_goals (
     have HQ2:=Lib.hid (cmp_eq2 HQ.out)
     rw[c1,c2]at HQ2
     go_upto_region 9 with(fail)
     refine wp_region_quiet_below (by kernel_rfl) (by kernel_rfl) ?_
     repeat (first|go_big_quiet_step (first|exact cq _ _))
     refine wpQuiet_nil ?_
     intro _ hw'
     obtain⟨⟨dq,osq⟩,hw''⟩:=hw'
     subst hw''
     have hbq:=below_regrown W4 dq osq
     generalize grow (redrawn W4 dq) osq=wz at *
     have HE:=Lib.hid (And.intro (HT.out.below (bt HB4.out hbq)) (Fr.of_below (F:=F2 g1 v1 vs1 g2 v2 vs2) (bt HB0.out (bt HB4.out hbq))))
     clear hbq s0 s1 s2 s3 q1 cq
     go_wp2
     go_ret
     exact⟨_,v1,vs1,v2,vs2,rfl,HQ2.out,by rw[HL.out,HL.out];exact HE.out.1,HE.out.2⟩)
  ·have c1:(p==1)=false:=beq_eq_false_iff_ne.2 hp1
   have HL:=Lib.hid (show∀L,actH L a=setH L a.ak a.an a.ik a.iN a.vk a.vn from fun L=>by rw[HH.out,if_neg hp0,if_neg hp1])
   have heq:L1=L2→wrongH L1 a.ak a.an a.ik a.iN=wrongH L2 a.ak a.an a.ik a.iN:=fun e=>by rw[e]
   have HC1:=Lib.hid (fun(W:World) (q:RR W0 base g1 v1 vs1 g2 v2 vs2 w.heap.size [.int .i64 a.op,.int .i64 a.n,.int .i64 a.ak,.int .i64 a.an,.int .i64 a.ik,.int .i64 a.iN,.int .i64 a.vk,.int .i64 a.vn] L1 L2 W)=>show Calls Tryz.prog 13 #[.pointer (some ⟨g1,0,none⟩),.agg #[.int .i64 a.ak,.int .i64 a.an],.agg #[.int .i64 a.ik,.int .i64 a.iN],.agg #[.int .i64 a.vk,.int .i64 a.vn]] W (fun e w'=>e = .returned (.int .i64 (wrongH L1 a.ak a.an a.ik a.iN))∧RR W0 base g1 v1 vs1 g2 v2 vs2 w.heap.size [.int .i64 a.op,.int .i64 a.n,.int .i64 a.ak,.int .i64 a.an,.int .i64 a.ik,.int .i64 a.iN,.int .i64 a.vk,.int .i64 a.vn] (setH L1 a.ak a.an a.ik a.iN a.vk a.vn) L2 w') from(set_any q.two.h1 a.ak a.an a.ik a.iN a.vk a.vn).mono fun e w' ⟨h1,h2,h3⟩=>⟨h1,q.set1 h2 h3⟩)
   have HC2:=Lib.hid (fun(W:World) (q:RR W0 base g1 v1 vs1 g2 v2 vs2 w.heap.size [.int .i64 a.op,.int .i64 a.n,.int .i64 a.ak,.int .i64 a.an,.int .i64 a.ik,.int .i64 a.iN,.int .i64 a.vk,.int .i64 a.vn] (setH L1 a.ak a.an a.ik a.iN a.vk a.vn) L2 W)=>show Calls Tryz.prog 19 #[.pointer (some ⟨g2,0,none⟩),.agg #[.int .i64 a.ak,.int .i64 a.an],.agg #[.int .i64 a.ik,.int .i64 a.iN],.agg #[.int .i64 a.vk,.int .i64 a.vn]] W (fun e w'=>e = .returned (.int .i64 (wrongH L2 a.ak a.an a.ik a.iN))∧RR W0 base g1 v1 vs1 g2 v2 vs2 w.heap.size [.int .i64 a.op,.int .i64 a.n,.int .i64 a.ak,.int .i64 a.an,.int .i64 a.ik,.int .i64 a.iN,.int .i64 a.vk,.int .i64 a.vn] (setH L1 a.ak a.an a.ik a.iN a.vk a.vn) (setH L2 a.ak a.an a.ik a.iN a.vk a.vn) w') from(rset_any q.two.h2 a.ak a.an a.ik a.iN a.vk a.vn).mono fun e w' ⟨h1,h2,h3⟩=>⟨h1,q.set2 h2 h3⟩)
   have HAR:=Lib.hid (fun k n (W:World) (q:RR W0 base g1 v1 vs1 g2 v2 vs2 w.heap.size [.int .i64 a.op,.int .i64 a.n,.int .i64 a.ak,.int .i64 a.an,.int .i64 a.ik,.int .i64 a.iN,.int .i64 a.vk,.int .i64 a.vn] (setH L1 a.ak a.an a.ik a.iN a.vk a.vn) L2 W)=>show Calls Tryz.prog 7 #[.agg #[.int .i64 k,.int .i64 n]] W (fun e w'=>e = .returned (.agg #[.int .i64 k,.int .i64 n])∧RR W0 base g1 v1 vs1 g2 v2 vs2 w.heap.size [.int .i64 a.op,.int .i64 a.n,.int .i64 a.ak,.int .i64 a.an,.int .i64 a.ik,.int .i64 a.iN,.int .i64 a.vk,.int .i64 a.vn] (setH L1 a.ak a.an a.ik a.iN a.vk a.vn) L2 w') from(as_any k n W).mono fun e w' ⟨h1,h2⟩=>⟨h1,q.below h2⟩)
   generalize wrongH L1 a.ak a.an a.ik a.iN=e1 at *
   generalize wrongH L2 a.ak a.an a.ik a.iN=e2 at *
   have HQ:=Lib.hid (show L1=L2→(e1==e2)=true from fun e=>by rw[heq e];simp)
   have HM1:=Lib.hid (HL.out L1)
   have HM2:=Lib.hid (HL.out L2)
   clear HL
   generalize setH L1 a.ak a.an a.ik a.iN a.vk a.vn=M1 at *
   clear heq hp0 hp1
   go_enter Tryz.func6,Tryz.ntmps6
   go_upto_region 10 with(first|(go_at_call 16;refine(HP.out _).mono ?_;rintro e w' ⟨rfl,rfl⟩))
   clear x0 x1
   have l2:∀w',Bx w' w.heap.size 45 [.int .i64 a.op,.int .i64 a.n,.int .i64 a.ak,.int .i64 a.an,.int .i64 a.ik,.int .i64 a.iN,.int .i64 a.vk,.int .i64 a.vn]→w'.cell? ⟨w.heap.size,2,none⟩=some (.int .i64 a.ak):=fun w' q=>(q.cell 2).trans rfl
   have l3:∀w',Bx w' w.heap.size 45 [.int .i64 a.op,.int .i64 a.n,.int .i64 a.ak,.int .i64 a.an,.int .i64 a.ik,.int .i64 a.iN,.int .i64 a.vk,.int .i64 a.vn]→w'.cell? ⟨w.heap.size,3,none⟩=some (.int .i64 a.an):=fun w' q=>(q.cell 3).trans rfl
   have l4:∀w',Bx w' w.heap.size 45 [.int .i64 a.op,.int .i64 a.n,.int .i64 a.ak,.int .i64 a.an,.int .i64 a.ik,.int .i64 a.iN,.int .i64 a.vk,.int .i64 a.vn]→w'.cell? ⟨w.heap.size,4,none⟩=some (.int .i64 a.ik):=fun w' q=>(q.cell 4).trans rfl
   have l5:∀w',Bx w' w.heap.size 45 [.int .i64 a.op,.int .i64 a.n,.int .i64 a.ak,.int .i64 a.an,.int .i64 a.ik,.int .i64 a.iN,.int .i64 a.vk,.int .i64 a.vn]→w'.cell? ⟨w.heap.size,5,none⟩=some (.int .i64 a.iN):=fun w' q=>(q.cell 5).trans rfl
   have l6:∀w',Bx w' w.heap.size 45 [.int .i64 a.op,.int .i64 a.n,.int .i64 a.ak,.int .i64 a.an,.int .i64 a.ik,.int .i64 a.iN,.int .i64 a.vk,.int .i64 a.vn]→w'.cell? ⟨w.heap.size,6,none⟩=some (.int .i64 a.vk):=fun w' q=>(q.cell 6).trans rfl
   have l7:∀w',Bx w' w.heap.size 45 [.int .i64 a.op,.int .i64 a.n,.int .i64 a.ak,.int .i64 a.an,.int .i64 a.ik,.int .i64 a.iN,.int .i64 a.vk,.int .i64 a.vn]→w'.cell? ⟨w.heap.size,7,none⟩=some (.int .i64 a.vn):=fun w' q=>(q.cell 7).trans rfl
   have hr0:RR W0 base g1 v1 vs1 g2 v2 vs2 w.heap.size [.int .i64 a.op,.int .i64 a.n,.int .i64 a.ak,.int .i64 a.an,.int .i64 a.ik,.int .i64 a.iN,.int .i64 a.vk,.int .i64 a.vn] L1 L2 W0.drew:=⟨HX.out,HT.out.below (Below.refl _ _).drew,(Fr.refl _ _).drew⟩
   go_region_held3 (fun w'=>Bx w' w.heap.size 45 [.int .i64 a.op,.int .i64 a.n,.int .i64 a.ak,.int .i64 a.an,.int .i64 a.ik,.int .i64 a.iN,.int .i64 a.vk,.int .i64 a.vn]) (exact RR.bx (by assumption))
    (first|(go_at_call 13;refine(HC1.out _ (by assumption)).mono ?_;rintro e w1 ⟨rfl,hr⟩) |(go_at_call 7;refine(HAR.out _ _ _ (by assumption)).mono ?_;rintro e w1 ⟨rfl,hr⟩) |(go_at_call 19;refine(HC2.out _ (by assumption)).mono ?_;rintro e w1 ⟨rfl,hr⟩))
   have HE:=Lib.hid hr
   clear hr0 hr l2 l3 l4 l5 l6 l7
   go_wp2
   go_ret
   exact⟨_,v1,vs1,v2,vs2,rfl,HQ.out,by rw[HM1.out,HM2.out];exact HE.out.two,(Fr.of_below (F:=F2 g1 v1 vs1 g2 v2 vs2) HB0.out).trans HE.out.fr fun _ q =>.inl q⟩
end Go.Proofs.YtignojhijmamhaaGreat.Va
