/- PROVED here: parts Ea Ev Eb Ec Da of the claim. No condition but those in each theorem's own head. -/
import Derived.Test.YtignojhijmamhaaGreatJ31
import Derived.Test.YtignojhijmamhaaGreatJ22
import Derived.Deep.RegionHeld
import Derived.OrdersHeld
namespace Go.Proofs.YtignojhijmamhaaGreat
open Go Go.RowKit Go.Sort
open Va (Bx heap1 bt VP str_eq str_ne)
structure NV where
 tx:ByteArray
 k:Int
 n:Int
def named:List NV→ByteArray→Int × Int
 | [],_=>(0,0)
 |x :: r,s=>if x.tx=s then (x.k,x.n) else named r s
theorem named_step {ns:List NV}{i:Nat}(h:i<ns.length)(s:ByteArray):named (ns.drop i) s=if ns[i].tx=s then (ns[i].k,ns[i].n) else named (ns.drop (i+1)) s:=by
 rw[List.drop_eq_getElem_cons h];rfl
theorem named_end {ns:List NV}{i:Nat}(h:ns.length≤i)(s:ByteArray):named (ns.drop i) s=(0,0):=by rw[List.drop_eq_nil_of_le h];rfl
def Nms (w:World)(A:Option Addr)(ns:List NV):Prop:=0<ns.length→∃b off,A=some ⟨b,off,none⟩∧b<w.heap.size∧∀j (hj:j<ns.length),w.cell? ⟨b,off+j*3,none⟩=some (.string ns[j].tx)∧w.cell? ⟨b,off+j*3+1,none⟩=some (.int .i64 ns[j].k)∧w.cell? ⟨b,off+j*3+2,none⟩=some (.int .i64 ns[j].n)
theorem Nms.below {w w':World}{A:Option Addr}{ns:List NV}(h:Nms w A ns)(hb:Below w.heap.size w w'):Nms w' A ns:=fun h0=>by
 obtain⟨b,off,e,hl,hc⟩:=h h0
 exact⟨b,off,e,Nat.lt_of_lt_of_le hl hb.size,fun j hj=>⟨(hb.cell (p:=⟨b,off+j*3,none⟩) hl).trans (hc j hj).1,(hb.cell (p:=⟨b,off+j*3+1,none⟩) hl).trans (hc j hj).2.1,(hb.cell (p:=⟨b,off+j*3+2,none⟩) hl).trans (hc j hj).2.2⟩⟩
set_option maxRecDepth 100000 in
set_option maxHeartbeats 1000000 in
theorem rnamed_any {w:World}{B:Option Addr}{ns:List NV}(hN:Nms w B ns)(hl:ns.length≤4000)(d:Nat)(s:ByteArray):Calls Tryz.prog 43 #[.slice B ns.length d,.string s] w (VP (named ns s).1 (named ns s).2 w):=by
 have HN:=Lib.hid hN
 obtain⟨m,hm⟩:∃m,ns.length=m:=⟨_,rfl⟩
 rw[hm]at hl ⊢
 have HM:=Lib.hid hm
 have HB0:=Lib.hid (heap1 w (.cells #[.int .i64 0,.int .i64 0] 49))
 clear hN hm
 go_enter Tryz.func43,Tryz.ntmps43
 go_wp2
 go_loop [5] (fun i=>∃k:Nat,k≤m∧i = .int .i64 (k:Int)∧named (ns.drop k) s=named ns s) (fun i=>m-(intOf i).toNat)
 case atStart=>exact⟨0,Nat.zero_le _,rfl,rfl⟩
 case round=>
  obtain⟨k,hk,rfl,hns⟩:=hrel
  by_cases hlt:k<m
  ·have hkz:(k:Int)<(m:Int):=by omega
   have hkl:k<ns.length:=by rw[HM.out];exact hlt
   obtain⟨b,off,rfl,hbl,hc⟩:=(HN.out.below HB0.out) (by omega)
   obtain⟨x0,x1,x2⟩:=hc k hkl
   rw[named_step hkl]at hns
   have HS:=Lib.hid hns
   clear hc hns
   by_cases h:ns[k].tx=s
   ·have hs:=str_eq s
    rw[h]at x0
    obtain⟨p,hp⟩:∃p,ns[k].k=p:=⟨_,rfl⟩
    obtain⟨q,hq⟩:∃q,ns[k].n=q:=⟨_,rfl⟩
    rw[hp]at x1
    rw[hq]at x2
    have HE:=Lib.hid (show named ns s=(p,q)by have:=HS.out;rw[if_pos h,hp,hq]at this;exact this.symm)
    clear h hp hq
    go_wp2
    exact bodyPost_ret (v :=.agg #[.int .i64 p,.int .i64 q]) (by simp[results,Tryz.results43,go_sem]) rfl (by rw[HE.out];exact⟨rfl,heap1 _ _⟩)
   ·have hs:=str_ne h
    have HE:=Lib.hid (show named (ns.drop (k+1)) s=named ns s by have:=HS.out;rw[if_neg h]at this;exact this)
    have HK:=Lib.hid hlt
    clear h hk
    go_wp2
    go_round
    case rel=>exact⟨k+1,by have:=HK.out;omega,by go_num,HE.out⟩
    case measure=>have:=HK.out;simp[intOf];omega
  ·obtain rfl:k=m:=by omega
   have hkz:¬(k:Int)<(k:Int):=by omega
   have HE:=Lib.hid (show named ns s=(0,0)by rw[← hns];exact named_end (by rw[HM.out];exact Nat.le_refl _) s)
   clear hns hk
   go_wp2
   exact bodyPost_ret (v :=.agg #[.int .i64 0,.int .i64 0]) (by simp[results,Tryz.results43,go_sem]) rfl (by rw[HE.out];exact⟨rfl,heap1 _ _⟩)
end Go.Proofs.YtignojhijmamhaaGreat
namespace Go.Proofs.YtignojhijmamhaaGreat
open Go Go.ChangeShapes Go.WideShapes Go.ChangeAt Go.RowKit Go.Deep
open Va (value_of field_of pick_lt add_flat)
set_option maxRecDepth 100000
theorem cells48:Tryz.prog.cellsOf 48=3:=by kernel_rfl
theorem cells9:Tryz.prog.cellsOf 9=1:=by kernel_rfl
theorem fields48:(Tryz.prog.fieldsOf 48).toList.map (fun f=>(f.name,f.type,f.offset))=[("Text",9,0),("V",43,1)]:=by kernel_rfl
theorem under48:Tryz.prog.underlying 48=some (.struct (Tryz.prog.fieldsOf 48)):=by kernel_rfl
theorem size48:(Tryz.prog.fieldsOf 48).size=2:=by kernel_rfl
def NV.cs (a:NV):List Value:=[.string a.tx,.int .i64 a.k,.int .i64 a.n]
section
variable {H:Type} {enc:TypeId × Value→H} {W:World}
theorem name_of {n:Nat}{cs:List Value}{x:DataW H × List MemPlace}(hlen:cs.length=3)(h:DataW.trod enc Tryz.prog W 0 (fun _=>true) true n 48 cs=some x):∃a:NV,cs=a.cs:=by
 obtain⟨d,pl⟩:=x
 obtain⟨xs,k,_,_,_,hxl,hel⟩:=DataW.trod_struct under48 h
 obtain⟨f0,g0,t0,o0⟩:=field_of fields48 (i:=0) rfl
 obtain⟨f1,g1,t1,o1⟩:=field_of fields48 (i:=1) rfl
 rw[size48]at hxl
 match cs,hlen,xs,hxl with
 | [v0,v1,v2],_,[x0,x1],_=>
  have e0:=hel 0 f0 g0
  have e1:=hel 1 f1 g1
  rw[t0,o0,cells9]at e0
  rw[t1,o1,Va.cells23]at e1
  obtain⟨s0,q0,_,_⟩:=DataW.trod_string Tryz.underlying9 e0
  obtain⟨b0,b1,q1⟩:=value_of rfl e1
  simp at q0 q1
  refine⟨⟨s0,b0,b1⟩,?_⟩
  rw[q0,q1.1,q1.2]
  rfl
theorem viewNames {base:Nat}{v:Value}{d:DataW H}{p:List MemPlace}(hv:Value.okWide Tryz.prog W .any base 25 v)(h:DataW.Trod enc Tryz.prog W 0 (fun _=>true) true 25 v d p):∃(A:Option Addr) (c:Nat) (l:List NV),v = .slice A l.length c∧Nms W A l∧l.length≤c:=by
 obtain⟨a0,len,cap,rfl⟩:=okWide_slice Tryz.underlying25 hv
 obtain⟨fuel,hf⟩:=h
 rcases open_slice Tryz.underlying25 hf with⟨hcs,hx⟩ |⟨a,len',cap',m,n,D,Pl,hcs,_,hl,hm,hmm,hx,hcell⟩
 ·simp[Value.cells]at hcs
  obtain⟨rfl,rfl,rfl⟩:=hcs
  exact⟨none,0,[],rfl,fun h=>by simp at h,by simp⟩
 ·simp[Value.cells]at hcs
  obtain⟨rfl,rfl,rfl⟩:=hcs
  simp only[if_true]at hmm
  subst hmm
  have each:∀i,i<m→∃q:NV,∀f,f<3→W.cell? ((a.add (i*3)).add f)=(q.cs)[f]?:=fun i hi=>by
   obtain⟨cs',h1,h2⟩:=hcell i hi
   rw[cells48]at h1
   obtain⟨_,hlen,hc⟩:=World.cells?_some h1
   obtain⟨q,hq⟩:=name_of hlen h2
   exact⟨q,fun f hf=>by rw[← hq];exact hc f hf⟩
  obtain⟨Q,hQ⟩:=pick_lt ⟨⟨#[]⟩,0,0⟩ each
  refine⟨some a,m,(List.range len).map Q,by simp,fun h0 =>?_,by simpa using hl⟩
  have h0':0<m:=by simp at h0;omega
  obtain⟨b,off,spot⟩:=a
  have h00:=hQ 0 h0' 0 (by decide)
  have hspot:spot=none:=by
   have:=World.cell?_spot (h00.trans (show(Q 0).cs[0]?=some (.string (Q 0).tx)from rfl))
   simpa [Addr.add]using this
  subst hspot
  have eqs:∀i o,(((⟨b,off,none⟩:Addr).add (i*3)).add o)=⟨b,off+i*3+o,none⟩:=fun i o=>by rw[add_flat,add_flat]
  refine⟨b,off,rfl,World.block_lt_of_cell? W _ (by have h9:=h00.trans (show(Q 0).cs[0]?=some (.string (Q 0).tx)from rfl);rw[eqs]at h9;exact h9),fun j hj =>?_⟩
  have hj':j<len:=by simpa using hj
  have e0:=hQ j (by omega) 0 (by decide)
  have e1:=hQ j (by omega) 1 (by decide)
  have e2:=hQ j (by omega) 2 (by decide)
  rw[eqs]at e0 e1 e2
  simp only[List.getElem_map,List.getElem_range]
  exact⟨e0,e1,e2⟩
end
end Go.Proofs.YtignojhijmamhaaGreat
namespace Go.Proofs.YtignojhijmamhaaGreat
open Go Go.RowKit Go.Sort
open Va (Bx heap1 bt VP str_eq str_ne below2)
def scn (A:Option Addr)(n c:Nat)(r:Int)(B:Option Addr)(m d g:Nat):Array Value := #[.slice A n c,.int .i64 r,.slice B m d,.pointer (some ⟨g,0,none⟩)]
set_option maxRecDepth 100000 in
set_option maxHeartbeats 1000000 in
theorem variable_any {w:World}{B:Option Addr}{ns:List NV}(hN:Nms w B ns)(hl:ns.length≤4000)(A:Option Addr)(n c d g:Nat)(r:Int)(s:ByteArray):Calls Tryz.prog 66 #[.agg (scn A n c r B ns.length d g),.string s] w (VP (named ns s).1 (named ns s).2 w):=by
 unfold scn
 have hX0:=(Bx.new w 77 [.slice A n c,.int .i64 r,.slice B ns.length d,.pointer (some ⟨g,0,none⟩)]).alloc (.cells #[.int .i64 0,.int .i64 0] 43)
 have hX1:=Bx.new (w.alloc (.cells #[.slice A n c,.int .i64 r,.slice B ns.length d,.pointer (some ⟨g,0,none⟩)] 77)) 43 [.int .i64 0,.int .i64 0]
 simp only[World.size_alloc]at hX1
 have hb0:Below w.heap.size w ((w.alloc (.cells #[.slice A n c,.int .i64 r,.slice B ns.length d,.pointer (some ⟨g,0,none⟩)] 77)).alloc (.cells #[.int .i64 0,.int .i64 0] 43)):=(heap1 _ _).alloc (by simp only[World.size_alloc];omega) _
 obtain⟨m,hm⟩:∃m,ns.length=m:=⟨_,rfl⟩
 rw[hm]at hl ⊢ hX0 hX1 hb0
 obtain⟨W0,hW0⟩:∃W0,((w.alloc (.cells #[.slice A n c,.int .i64 r,.slice B m d,.pointer (some ⟨g,0,none⟩)] 77)).alloc (.cells #[.int .i64 0,.int .i64 0] 43))=W0:=⟨_,rfl⟩
 have HX0:=Lib.hid (show Bx W0 w.heap.size 77 [.slice A n c,.int .i64 r,.slice B m d,.pointer (some ⟨g,0,none⟩)]by rw[← hW0];exact hX0)
 have HX1:=Lib.hid (show Bx W0 (w.heap.size+1) 43 [.int .i64 0,.int .i64 0]by rw[← hW0];exact hX1)
 rw[hW0]at hb0
 have HB0:=Lib.hid hb0
 have HN:=Lib.hid (hN.below hb0)
 have HM:=Lib.hid hm
 have x02:=(HX0.out.cell 2).trans rfl
 clear hN hm hX0 hX1 hb0
 go_enter Tryz.func66,Tryz.ntmps66
 go_wp2
 clear x02
 go_loopw [10] (fun v wr=>∃k:Nat,k≤m∧v = .int .i64 (k:Int)∧named (ns.drop k) s=named ns s∧Below W0.heap.size W0 wr) (fun v _=>m-(intOf v).toNat)
 case atStart=>exact⟨0,Nat.zero_le _,rfl,rfl,Below.refl _ _⟩
 case round=>
  obtain⟨k,hk,rfl,hns,hb⟩:=hrel
  obtain⟨W1,rfl⟩:∃W1,W1=wr:=⟨_,rfl⟩
  have HB1:=Lib.hid (bt HB0.out hb)
  by_cases hlt:k<m
  ·have hkz:(k:Int)<(m:Int):=by omega
   have hkl:k<ns.length:=by rw[HM.out];exact hlt
   obtain⟨b,off,rfl,hbl,hc⟩:=(HN.out.below hb) (by omega)
   obtain⟨x0,x1,x2⟩:=hc k hkl
   rw[named_step hkl]at hns
   have HS:=Lib.hid hns
   clear hc hns
   obtain⟨tx,htx⟩:∃tx,ns[k].tx=tx:=⟨_,rfl⟩
   obtain⟨p,hp⟩:∃p,ns[k].k=p:=⟨_,rfl⟩
   obtain⟨q,hq⟩:∃q,ns[k].n=q:=⟨_,rfl⟩
   have hbx:=heap1 W1 (.cells #[.string tx,.int .i64 p,.int .i64 q] 48)
   have HX1':=Lib.hid ((HX1.out.below hb HX1.out.lt).below hbx (Nat.lt_of_lt_of_le HX1.out.lt hb.size))
   have HBx:=Lib.hid (bt hb hbx)
   rw[htx]at x0
   rw[hp]at x1
   rw[hq]at x2
   rw[htx,hp,hq]at HS
   clear htx hp hq hbx
   by_cases h:tx=s
   ·subst h
    have hs:=str_eq tx
    have HE:=Lib.hid (show named ns tx=(p,q)by have:=HS.out;rw[if_pos rfl]at this;exact this.symm)
    have r0:=(HX1'.out.cell 0).trans rfl
    have r1:=(HX1'.out.cell 1).trans rfl
    have f0:=HX1'.out.frozen 0
    have f1:=HX1'.out.frozen 1
    clear HS hb hk
    go_wp2
    have z:=(HX1'.out.set_ 0 (.int .i64 p)).set_ 1 (.int .i64 q)
    have c0:=(z.cell 0).trans rfl
    have c1:=(z.cell 1).trans rfl
    exact bodyPost_ret (v :=.agg #[.int .i64 p,.int .i64 q]) (by simp[results,Tryz.results66,go_sem,c0,c1]) rfl (by rw[HE.out];exact⟨rfl,below2 (bt HB0.out HBx.out) (by omega)⟩)
   ·have hs:=str_ne h
    have HE:=Lib.hid (show named (ns.drop (k+1)) s=named ns s by have:=HS.out;rw[if_neg h]at this;exact this)
    have HK:=Lib.hid hlt
    clear h hk hb HS
    go_wp2
    go_roundw
    case rel=>exact⟨k+1,by have:=HK.out;omega,by go_num,HE.out,HBx.out⟩
    case measure=>have:=HK.out;simp[intOf];omega
  ·obtain rfl:k=m:=by omega
   have hkz:¬(k:Int)<(k:Int):=by omega
   have HE:=Lib.hid (show named ns s=(0,0)by rw[← hns];exact named_end (by rw[HM.out];exact Nat.le_refl _) s)
   have HX1':=Lib.hid (HX1.out.below hb HX1.out.lt)
   have r0:=(HX1'.out.cell 0).trans rfl
   have r1:=(HX1'.out.cell 1).trans rfl
   have f0:=HX1'.out.frozen 0
   have f1:=HX1'.out.frozen 1
   clear hns hk hb
   go_wp2
   have z:=(HX1'.out.set_ 0 (.int .i64 0)).set_ 1 (.int .i64 0)
   have c0:=(z.cell 0).trans rfl
   have c1:=(z.cell 1).trans rfl
   exact bodyPost_ret (v :=.agg #[.int .i64 0,.int .i64 0]) (by simp[results,Tryz.results66,go_sem,c0,c1]) rfl (by rw[HE.out];exact⟨rfl,below2 HB1.out (by omega)⟩)
end Go.Proofs.YtignojhijmamhaaGreat
namespace Go.Proofs.YtignojhijmamhaaGreat
open Go Go.RowKit Go.Sort
open Va (Bx heap1 bt VP VI V2 V3 str_eq str_ne below2 Hp C46 unR binR getV lenH)
open Ty (TT tpT pcT)
open Ty.Tr (Nd)
structure Sc (w:World) (A:Option Addr) (n:Nat) (l:List Nd) (B:Option Addr) (ns:List NV) (base g:Nat) (v:Value) (vs:List Value) (L:List (List Int)):Prop where
 tt:TT w A n l
 nm:Nms w B ns
 few:ns.length≤4000
 hp:Hp 37 C46 w base g v vs L
theorem Sc.below {w w':World}{A:Option Addr}{n:Nat}{l:List Nd}{B:Option Addr}{ns:List NV}{base g:Nat}{v:Value}{vs:List Value}{L:List (List Int)}(h:Sc w A n l B ns base g v vs L)(hb:Below w.heap.size w w'):Sc w' A n l B ns base g v vs L:=
 ⟨h.tt.below hb,h.nm.below hb,h.few,h.hp.below hb⟩
noncomputable def opV (l:List Nd)(r:Int)(p:Nat)(q:Nd)(k1 n1 k2 n2:Int):(Int × Int) × Int:=
 if q.kd=26 then (if (unR q.tx k1 n1).2 then ((unR q.tx k1 n1).1,0) else ((tpT l r p,0),0))
 else (if (binR q.tx k1 n1 k2 n2).2.2 then ((binR q.tx k1 n1 k2 n2).1,(binR q.tx k1 n1 k2 n2).2.1) else ((tpT l r p,0),0))
section
variable {w:World} {A:Option Addr} {n:Nat} {l:List Nd} {B:Option Addr} {ns:List NV} {base g:Nat} {v:Value} {vs:List Value} {L:List (List Int)}
set_option maxRecDepth 100000 in
set_option maxHeartbeats 2000000 in
theorem operated_any (h:Sc w A n l B ns base g v vs L)(c d:Nat)(r:Int)(p:Nat)(hp:p<n)(hk:(l[p]'(by rw[← h.tt.len];exact hp)).kd=26∨(l[p]'(by rw[← h.tt.len];exact hp)).kd=27)(k1 n1 k2 n2:Int) :
  Calls Tryz.prog 69 #[.agg (scn A n c r B ns.length d g),.int .i64 (p:Int),.agg #[.int .i64 k1,.int .i64 n1,.int .i64 k2,.int .i64 n2]] w (VI (opV l r p (l[p]'(by rw[← h.tt.len];exact hp)) k1 n1 k2 n2).1.1 (opV l r p (l[p]'(by rw[← h.tt.len];exact hp)) k1 n1 k2 n2).1.2 (opV l r p (l[p]'(by rw[← h.tt.len];exact hp)) k1 n1 k2 n2).2 w):=by
 have hpl:p<l.length:=by rw[← h.tt.len];exact hp
 obtain⟨q,hq⟩:∃q,l[p]'hpl=q:=⟨_,rfl⟩
 rw[hq]at hk ⊢
 unfold scn
 obtain⟨m,hm⟩:∃m,ns.length=m:=⟨_,rfl⟩
 rw[hm]
 have hX0:=((Bx.new w 77 [.slice A n c,.int .i64 r,.slice B m d,.pointer (some ⟨g,0,none⟩)]).alloc (.cells #[.int .i64 k1,.int .i64 n1,.int .i64 k2,.int .i64 n2] 96)).alloc (.cells #[.int .i64 0,.int .i64 0] 43)
 have hX1:=(Bx.new (w.alloc (.cells #[.slice A n c,.int .i64 r,.slice B m d,.pointer (some ⟨g,0,none⟩)] 77)) 96 [.int .i64 k1,.int .i64 n1,.int .i64 k2,.int .i64 n2]).alloc (.cells #[.int .i64 0,.int .i64 0] 43)
 have hX2:=Bx.new ((w.alloc (.cells #[.slice A n c,.int .i64 r,.slice B m d,.pointer (some ⟨g,0,none⟩)] 77)).alloc (.cells #[.int .i64 k1,.int .i64 n1,.int .i64 k2,.int .i64 n2] 96)) 43 [.int .i64 0,.int .i64 0]
 simp only[World.size_alloc]at hX1 hX2
 have hb0:Below w.heap.size w (((w.alloc (.cells #[.slice A n c,.int .i64 r,.slice B m d,.pointer (some ⟨g,0,none⟩)] 77)).alloc (.cells #[.int .i64 k1,.int .i64 n1,.int .i64 k2,.int .i64 n2] 96)).alloc (.cells #[.int .i64 0,.int .i64 0] 43)):=((heap1 _ _).alloc (by simp only[World.size_alloc];omega) _).alloc (by simp only[World.size_alloc];omega) _
 obtain⟨W0,hW0⟩:∃W0,(((w.alloc (.cells #[.slice A n c,.int .i64 r,.slice B m d,.pointer (some ⟨g,0,none⟩)] 77)).alloc (.cells #[.int .i64 k1,.int .i64 n1,.int .i64 k2,.int .i64 n2] 96)).alloc (.cells #[.int .i64 0,.int .i64 0] 43))=W0:=⟨_,rfl⟩
 have HX0:=Lib.hid (show Bx W0 w.heap.size 77 [.slice A n c,.int .i64 r,.slice B m d,.pointer (some ⟨g,0,none⟩)]by rw[← hW0];exact hX0)
 have HX1:=Lib.hid (show Bx W0 (w.heap.size+1) 96 [.int .i64 k1,.int .i64 n1,.int .i64 k2,.int .i64 n2]by rw[← hW0];exact hX1)
 have HX2:=Lib.hid (show Bx W0 (w.heap.size+1+1) 43 [.int .i64 0,.int .i64 0]by rw[← hW0];exact hX2)
 rw[hW0]at hb0
 have HB0:=Lib.hid hb0
 have HC:=Lib.hid (h.below hb0)
 have hpz:(p:Int)<(n:Int):=by omega
 obtain⟨bA,off,K,cK,rfl,xt,x0,x1,x2,x3,x4,xI⟩:=Ty.node_at (h.below hb0).tt.nds (Below.refl _ _) p hpl
 rw[hq]at x0 x1 x2 x3 x4
 have HTY:=Lib.hid (fun W (q:Below W0.heap.size W0 W)=>Ty.type_any (HC.out.below q).tt c r (p:Int))
 obtain⟨kd,nn,pl,tx,ks⟩:=q
 dsimp only at x0 x1 x2 x3 x4 hk
 have a0:=(HX0.out.cell 0).trans rfl
 clear hX0 hX1 hX2 hb0 hm xI h
 go_enter Tryz.func69,Tryz.ntmps69
 go_upto_region 5 with(fail)
 have hX3:=(Bx.new W0 66 [.int .i64 kd,.int .i64 nn,.int .i64 pl,.string tx,.slice K ks.length cK]).alloc (.cells #[.int .i64 0,.int .i64 0] 43)
 have hX4:=Bx.new (W0.alloc (.cells #[.int .i64 kd,.int .i64 nn,.int .i64 pl,.string tx,.slice K ks.length cK] 66)) 43 [.int .i64 0,.int .i64 0]
 simp only[World.size_alloc]at hX4
 have hb1:Below W0.heap.size W0 ((W0.alloc (.cells #[.int .i64 kd,.int .i64 nn,.int .i64 pl,.string tx,.slice K ks.length cK] 66)).alloc (.cells #[.int .i64 0,.int .i64 0] 43)):=(heap1 _ _).alloc (by simp only[World.size_alloc];omega) _
 obtain⟨W1,hW1⟩:∃W1,((W0.alloc (.cells #[.int .i64 kd,.int .i64 nn,.int .i64 pl,.string tx,.slice K ks.length cK] 66)).alloc (.cells #[.int .i64 0,.int .i64 0] 43))=W1:=⟨_,rfl⟩
 have HX3:=Lib.hid (show Bx W1 W0.heap.size 66 [.int .i64 kd,.int .i64 nn,.int .i64 pl,.string tx,.slice K ks.length cK]by rw[← hW1];exact hX3)
 have HX4:=Lib.hid (show Bx W1 (W0.heap.size+1) 43 [.int .i64 0,.int .i64 0]by rw[← hW1];exact hX4)
 rw[hW1]at hb1 ⊢
 have HB1:=Lib.hid hb1
 have HX0a:=Lib.hid (HX0.out.below hb1 HX0.out.lt)
 have HX1a:=Lib.hid (HX1.out.below hb1 HX1.out.lt)
 have HX2a:=Lib.hid (HX2.out.below hb1 HX2.out.lt)
 have HSZ:=Lib.hid (show w.heap.size+1+1<W0.heap.size from HX2.out.lt)
 have HZ1:=Lib.hid (show W0.heap.size≤W1.heap.size from hb1.size)
 generalize W0.heap.size=z0 at *
 clear hX3 hX4 hb1 a0 x0 x1 x2 x3 x4 hW1
 have n0:=(HX3.out.cell 0).trans rfl
 have n3:=(HX3.out.cell 3).trans rfl
 have o0:=(HX1a.out.cell 0).trans rfl
 have o1:=(HX1a.out.cell 1).trans rfl
 have o2:=(HX1a.out.cell 2).trans rfl
 have o3:=(HX1a.out.cell 3).trans rfl
 by_cases h26:kd=26
 ·subst h26
  have HU:=Lib.hid (Va.unary_any tx k1 n1 W1)
  obtain⟨⟨⟨u1,u2⟩,ok⟩,hu⟩:∃R,unR tx k1 n1=R:=⟨_,rfl⟩
  have HO:=Lib.hid (show opV l r p ⟨26,nn,pl,tx,ks⟩ k1 n1 k2 n2=if ok=true then ((u1,u2),0) else ((tpT l r (p:Int),0),0)by unfold opV;rw[if_pos rfl,hu])
  rw[hu]at HU
  dsimp only at HU
  clear hu hk
  go_wp2_with (go_at_call 96;refine HU.out.mono ?_)
  rintro e w3 ⟨rfl,hb3⟩
  have hX4:=HX4.out.below hb3 HX4.out.lt
  have s0:=(hX4.cell 0).trans rfl
  have s1:=(hX4.cell 1).trans rfl
  have g0:=hX4.frozen 0
  have g1:=hX4.frozen 1
  go_upto_region 8 with(fail)
  have hX4b:=(hX4.set_ 0 (.int .i64 u1)).set_ 1 (.int .i64 u2)
  have hX0b:=((HX0a.out.below hb3 HX0a.out.lt).far (p:=⟨z0+1,0,none⟩) (by have:=HSZ.out;show w.heap.size≠z0+1;omega) (.int .i64 u1)).far (p:=⟨z0+1,1,none⟩) (by have:=HSZ.out;show w.heap.size≠z0+1;omega) (.int .i64 u2)
  have hX2b:=((HX2a.out.below hb3 HX2a.out.lt).far (p:=⟨z0+1,0,none⟩) (by have:=HSZ.out;show w.heap.size+1+1≠z0+1;omega) (.int .i64 u1)).far (p:=⟨z0+1,1,none⟩) (by have:=HSZ.out;show w.heap.size+1+1≠z0+1;omega) (.int .i64 u2)
  have hbb:Below z0 W0 ((w3.setCell ⟨z0+1,0,none⟩ (.int .i64 u1)).setCell ⟨z0+1,1,none⟩ (.int .i64 u2)):=((HB1.out.trans (hb3.mono HZ1.out)).setCell (p:=⟨z0+1,0,none⟩) (by show z0≤z0+1;omega) _).setCell (p:=⟨z0+1,1,none⟩) (by show z0≤z0+1;omega) _
  generalize (w3.setCell ⟨z0+1,0,none⟩ (.int .i64 u1)).setCell ⟨z0+1,1,none⟩ (.int .i64 u2)=W2 at *
  have HZ:=Lib.hid (show Below w.heap.size w W2 from HB0.out.trans (hbb.mono (by have:=HSZ.out;omega)))
  have HBB:=Lib.hid hbb
  have HX2b:=Lib.hid hX2b
  have HX4b:=Lib.hid hX4b
  have HX0b:=Lib.hid hX0b
  clear hX4 s0 s1 g0 g1 hX4b hX0b hX2b hbb hb3 n0 n3 o0 o1 o2 o3
  cases ok with
  |true=>
   rw[if_pos rfl]at HO
   have s0:=(HX4b.out.cell 0).trans rfl
   have s1:=(HX4b.out.cell 1).trans rfl
   have t0:=(HX2b.out.cell 0).trans rfl
   have t1:=(HX2b.out.cell 1).trans rfl
   have g0:=HX2b.out.frozen 0
   have g1:=HX2b.out.frozen 1
   go_wp2
   have z:=(HX2b.out.set_ 0 (.int .i64 u1)).set_ 1 (.int .i64 u2)
   have c0:=(z.cell 0).trans rfl
   have c1:=(z.cell 1).trans rfl
   exact bodyPost_ret (v :=.tuple #[.agg #[.int .i64 u1,.int .i64 u2],.int .i64 0]) (by simp[results,Tryz.results69,go_sem,c0,c1]) rfl (by rw[HO.out];exact⟨rfl,below2 HZ.out (by omega)⟩)
  |false=>
   rw[if_neg (by decide)]at HO
   have a0:=(HX0b.out.cell 0).trans rfl
   have a1:=(HX0b.out.cell 1).trans rfl
   have HTY':=Lib.hid (HTY.out W2 HBB.out)
   obtain⟨ty,hty⟩:∃ty,tpT l r (p:Int)=ty:=⟨_,rfl⟩
   rw[hty]at HTY' HO
   have HZE:=Lib.hid (fun W=>Va.zerob ty W)
   clear hty
   go_wp2_with (first|(go_at_call 97;refine HTY'.out.mono ?_) |(go_at_call 15;refine(HZE.out _).mono ?_))
   rintro e w4 ⟨rfl,hb4⟩
   go_wp2_with (first|(go_at_call 97;refine HTY'.out.mono ?_) |(go_at_call 15;refine(HZE.out _).mono ?_))
   rintro e w5 ⟨rfl,hb5⟩
   have h45:=bt hb4 hb5
   have hX2c:=HX2b.out.below h45 HX2b.out.lt
   have t0:=(hX2c.cell 0).trans rfl
   have t1:=(hX2c.cell 1).trans rfl
   have g0:=hX2c.frozen 0
   have g1:=hX2c.frozen 1
   go_wp2
   have z:=(hX2c.set_ 0 (.int .i64 ty)).set_ 1 (.int .i64 0)
   have c0:=(z.cell 0).trans rfl
   have c1:=(z.cell 1).trans rfl
   exact bodyPost_ret (v :=.tuple #[.agg #[.int .i64 ty,.int .i64 0],.int .i64 0]) (by simp[results,Tryz.results69,go_sem,c0,c1]) rfl (by rw[HO.out];exact⟨rfl,below2 (bt HZ.out h45) (by omega)⟩)
 ·have hk27:kd=27:=hk.resolve_left h26
  subst hk27
  have HU:=Lib.hid (Va.binary_any tx k1 n1 k2 n2 W1)
  obtain⟨⟨⟨u1,u2⟩,e0,ok⟩,hu⟩:∃R,binR tx k1 n1 k2 n2=R:=⟨_,rfl⟩
  have HO:=Lib.hid (show opV l r p ⟨27,nn,pl,tx,ks⟩ k1 n1 k2 n2=if ok=true then ((u1,u2),e0) else ((tpT l r (p:Int),0),0)by unfold opV;rw[if_neg (by decide:¬(27:Int)=26),hu])
  rw[hu]at HU
  dsimp only at HU
  clear hu hk h26
  go_wp2_with (go_at_call 10;refine HU.out.mono ?_)
  rintro e w3 ⟨rfl,hb3⟩
  have hX4:=HX4.out.below hb3 HX4.out.lt
  have s0:=(hX4.cell 0).trans rfl
  have s1:=(hX4.cell 1).trans rfl
  have g0:=hX4.frozen 0
  have g1:=hX4.frozen 1
  go_upto_region 8 with(fail)
  have hX4b:=(hX4.set_ 0 (.int .i64 u1)).set_ 1 (.int .i64 u2)
  have hX0b:=((HX0a.out.below hb3 HX0a.out.lt).far (p:=⟨z0+1,0,none⟩) (by have:=HSZ.out;show w.heap.size≠z0+1;omega) (.int .i64 u1)).far (p:=⟨z0+1,1,none⟩) (by have:=HSZ.out;show w.heap.size≠z0+1;omega) (.int .i64 u2)
  have hX2b:=((HX2a.out.below hb3 HX2a.out.lt).far (p:=⟨z0+1,0,none⟩) (by have:=HSZ.out;show w.heap.size+1+1≠z0+1;omega) (.int .i64 u1)).far (p:=⟨z0+1,1,none⟩) (by have:=HSZ.out;show w.heap.size+1+1≠z0+1;omega) (.int .i64 u2)
  have hbb:Below z0 W0 ((w3.setCell ⟨z0+1,0,none⟩ (.int .i64 u1)).setCell ⟨z0+1,1,none⟩ (.int .i64 u2)):=((HB1.out.trans (hb3.mono HZ1.out)).setCell (p:=⟨z0+1,0,none⟩) (by show z0≤z0+1;omega) _).setCell (p:=⟨z0+1,1,none⟩) (by show z0≤z0+1;omega) _
  generalize (w3.setCell ⟨z0+1,0,none⟩ (.int .i64 u1)).setCell ⟨z0+1,1,none⟩ (.int .i64 u2)=W2 at *
  have HZ:=Lib.hid (show Below w.heap.size w W2 from HB0.out.trans (hbb.mono (by have:=HSZ.out;omega)))
  have HBB:=Lib.hid hbb
  have HX2b:=Lib.hid hX2b
  have HX4b:=Lib.hid hX4b
  have HX0b:=Lib.hid hX0b
  clear hX4 s0 s1 g0 g1 hX4b hX0b hX2b hbb hb3 n0 n3 o0 o1 o2 o3
  cases ok with
  |true=>
   rw[if_pos rfl]at HO
   have s0:=(HX4b.out.cell 0).trans rfl
   have s1:=(HX4b.out.cell 1).trans rfl
   have t0:=(HX2b.out.cell 0).trans rfl
   have t1:=(HX2b.out.cell 1).trans rfl
   have g0:=HX2b.out.frozen 0
   have g1:=HX2b.out.frozen 1
   go_wp2
   have z:=(HX2b.out.set_ 0 (.int .i64 u1)).set_ 1 (.int .i64 u2)
   have c0:=(z.cell 0).trans rfl
   have c1:=(z.cell 1).trans rfl
   exact bodyPost_ret (v :=.tuple #[.agg #[.int .i64 u1,.int .i64 u2],.int .i64 e0]) (by simp[results,Tryz.results69,go_sem,c0,c1]) rfl (by rw[HO.out];exact⟨rfl,below2 HZ.out (by omega)⟩)
  |false=>
   rw[if_neg (by decide)]at HO
   have a0:=(HX0b.out.cell 0).trans rfl
   have a1:=(HX0b.out.cell 1).trans rfl
   have HTY':=Lib.hid (HTY.out W2 HBB.out)
   obtain⟨ty,hty⟩:∃ty,tpT l r (p:Int)=ty:=⟨_,rfl⟩
   rw[hty]at HTY' HO
   have HZE:=Lib.hid (fun W=>Va.zerob ty W)
   clear hty
   go_wp2_with (first|(go_at_call 97;refine HTY'.out.mono ?_) |(go_at_call 15;refine(HZE.out _).mono ?_))
   rintro e w4 ⟨rfl,hb4⟩
   go_wp2_with (first|(go_at_call 97;refine HTY'.out.mono ?_) |(go_at_call 15;refine(HZE.out _).mono ?_))
   rintro e w5 ⟨rfl,hb5⟩
   have h45:=bt hb4 hb5
   have hX2c:=HX2b.out.below h45 HX2b.out.lt
   have t0:=(hX2c.cell 0).trans rfl
   have t1:=(hX2c.cell 1).trans rfl
   have g0:=hX2c.frozen 0
   have g1:=hX2c.frozen 1
   go_wp2
   have z:=(hX2c.set_ 0 (.int .i64 ty)).set_ 1 (.int .i64 0)
   have c0:=(z.cell 0).trans rfl
   have c1:=(z.cell 1).trans rfl
   exact bodyPost_ret (v :=.tuple #[.agg #[.int .i64 ty,.int .i64 0],.int .i64 0]) (by simp[results,Tryz.results69,go_sem,c0,c1]) rfl (by rw[HO.out];exact⟨rfl,below2 (bt HZ.out h45) (by omega)⟩)
end
end Go.Proofs.YtignojhijmamhaaGreat
namespace Go.Proofs.YtignojhijmamhaaGreat
open Go Go.RowKit Go.Sort
open Va (h_one Bx ap hpu)
def Own (F:Nat):Prop:=∃fn,Tryz.prog.funcs[F]?=some fn∧(fn.name == "runtime.NumGoroutine")=false∧fn.body.isNone=false
theorem run_own {F:Nat}(h:Own F)(args:Array Value)(w:World):(callFunc F args).run Tryz.prog w = .ok (.enter F args) w:=by
 obtain⟨fn,h1,h2,h3⟩:=h
 simp only[callFunc,Sem.run_bind,run_program,Result.andThen_ok,h1,h2,h3,Bool.false_eq_true,if_false,Sem.run_pure]
theorem own66:Own 66:=⟨_,Tryz.func66,by kernel_rfl,by kernel_rfl⟩
theorem own14:Own 14:=⟨_,Tryz.func14,by kernel_rfl,by kernel_rfl⟩
theorem own67:Own 67:=⟨_,Tryz.func67,by kernel_rfl,by kernel_rfl⟩
theorem own31:Own 31:=⟨_,Tryz.func31,by kernel_rfl,by kernel_rfl⟩
section
variable {ops:Array Oper} {Q:Exit→Act→World→Prop} {S:World→Prop} {fuel:Nat} {listed:Array Bool} {a:Act} {w:World}
theorem h_call (i:Nat)(o:Oper){F:Nat}{t:Tmp}{xs:Array Operand}{ts:Array TypeId}{args:Array Value}(R:Value→World→Prop)(hF:Own F)(ho:o.op = .call { callee :=.value (.func F),args:=xs,argTypes:=ts })(hd:o.dst=some t)(hi:ops[i]?=some o)(hr:Region.ready .any ops listed=[i])
  (hw:Region.wanted o (yielded ops a.tmps)=true) (ha':(xs.toList.map a.eval).toArray=args) (hc:Calls Tryz.prog F args w fun e w'=>∃v,e = .returned v∧R v w')
  (h:∀v w',R v w'→S w'∧wpAnyH Tryz.prog .any ops Q S fuel (listed.setIfInBounds i true) (a.put (some t) v) w'):wpAnyH Tryz.prog .any ops Q S (fuel+1) listed a w:=
 h_one i o hi hr hw (by
  have ha:xs.map a.eval=args:=by rw[← ha'];exact Array.ext' (by rw[Array.toList_map])
  unfold Oper.wp execOp
  have e:a.eval (.func F) = .func (.func F) #[] #[]:=rfl
  have e2:(#[]++args:Array Value) ++ #[]=args:=by simp
  simp only[ho,resolve,e,ha,Deferred.ofValue,invoke,Sem.run_bind,Sem.run_pure,Result.andThen_ok]
  rw[e2,run_own hF]
  exact hc.mono fun e w' ⟨v,he,hR⟩=>by subst he;rw[hd];exact h v w' hR)
theorem h_oneK (i:Nat)(o:Oper)(hi:ops[i]?=some o)(hr:Region.ready .any ops listed=[i])(hw:Region.wanted o (yielded ops a.tmps)=true)
  (h:∀K':Act→World→Prop,Shut (∀a w,S w→(S w→wpAnyH Tryz.prog .any ops Q S fuel (listed.setIfInBounds i true) a w)→K' a w)→o.wp Tryz.prog a w K' Q):wpAnyH Tryz.prog .any ops Q S (fuel+1) listed a w:=
 h_one i o hi hr hw (h _ fun _ _ hS hW=>⟨hS,hW hS⟩)
end
end Go.Proofs.YtignojhijmamhaaGreat
