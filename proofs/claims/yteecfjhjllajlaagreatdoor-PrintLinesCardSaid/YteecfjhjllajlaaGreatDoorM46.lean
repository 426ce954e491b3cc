/- PROVED here: parts Wv Yz Zl Zm of the claim. No condition but those in each theorem's own head. -/
import Derived.Test.YteecfjhjllajlaaGreatDoorM39
import Derived.WalkKit
import Derived.OpenShut
import Derived.Carry
import Derived.Deep.Strs
import Derived.Deep.Slices
import Derived.Test.YteecfjhjllajlaaGreatDoorM43
namespace Go.Proofs.YteecfjhjllajlaaGreatDoor.Vw
section
set_option maxRecDepth 100000
open Go Go.ChangeShapes Go.WideShapes Go.ChangeAt Go.RowKit Go.Deep
theorem cells3:Tryz.prog.cellsOf 3=1:=by kernel_rfl
theorem cells9:Tryz.prog.cellsOf 9=1:=by kernel_rfl
theorem cells35:Tryz.prog.cellsOf 35=1:=by kernel_rfl
theorem cells23:Tryz.prog.cellsOf 23=1:=by kernel_rfl
theorem cells37:Tryz.prog.cellsOf 37=5:=by kernel_rfl
theorem cells25:Tryz.prog.cellsOf 25=2:=by kernel_rfl
theorem fields37:(Tryz.prog.fieldsOf 37).toList.map (fun f=>(f.name,f.type,f.offset))=[("Kind",3,0),("N",3,1),("At",3,2),("Text",9,3),("Kids",35,4)]:=by kernel_rfl
theorem fields25:(Tryz.prog.fieldsOf 25).toList.map (fun f=>(f.name,f.type,f.offset))=[("Nodes",23,0),("Root",3,1)]:=by kernel_rfl
theorem under37:Tryz.prog.underlying 37=some (.struct (Tryz.prog.fieldsOf 37)):=by kernel_rfl
theorem under25:Tryz.prog.underlying 25=some (.struct (Tryz.prog.fieldsOf 25)):=by kernel_rfl
theorem size37:(Tryz.prog.fieldsOf 37).size=5:=by kernel_rfl
theorem size25:(Tryz.prog.fieldsOf 25).size=2:=by kernel_rfl
theorem pick_lt {α:Type}{P:Nat→α→Prop}{m:Nat}(d:α)(h:∀i,i<m→∃q,P i q):∃Q:Nat→α,∀i,i<m→P i (Q i):=
 ⟨fun i=>if hi:i<m then (h i hi).choose else d,fun i hi=>by
  show P i (dite (i<m) _ _)
  rw[dif_pos hi]
  exact(h i hi).choose_spec⟩
theorem field_of {T:TypeId}{L:List (String × Nat × Nat)}(hL:(Tryz.prog.fieldsOf T).toList.map (fun f=>(f.name,f.type,f.offset))=L){i:Nat}{n:String}{t o:Nat}(h:L[i]?=some (n,t,o)):∃f,(Tryz.prog.fieldsOf T)[i]?=some f∧f.type=t∧f.offset=o:=by
 rw[← hL,List.getElem?_map]at h
 cases hq:(Tryz.prog.fieldsOf T).toList[i]? with
 |none=>rw[hq]at h;cases h
 |some f=>
  rw[hq]at h
  simp only[Option.map_some,Option.some.injEq,Prod.mk.injEq]at h
  exact⟨f,by rw[← Array.getElem?_toList];exact hq,h.2.1,h.2.2⟩
theorem add_flat (b off k:Nat):(⟨b,off,none⟩:Addr).add k=⟨b,off+k,none⟩:=by simp[Addr.add]
theorem wf_le {n:Int}(h:(Lit.int .i64 n).wf=true):n≤9223372036854775807:=by
 unfold Lit.wf at h
 simp only[Bool.and_eq_true,decide_eq_true_eq]at h
 have h2:=h.2
 rw[show IntKind.i64.max=9223372036854775807 by rfl]at h2
 exact h2
section
variable {H:Type} {enc:TypeId × Value→H} {W:World}
theorem ints_of {n:Nat}{cs:List Value}{x:DataW H × List MemPlace}(h:DataW.trod enc Tryz.prog W 0 (fun _=>true) true n 35 cs=some x):∃(K:Option Addr) (ks:List Int) (c:Nat),cs=[.slice K ks.length c]∧Tr.Ints W K ks∧ks.length≤c:=by
 rcases open_slice Tryz.underlying35 h with⟨hcs,hx⟩ |⟨a,len,cap,m,n,D,Pl,hcs,_,hl,hm,hmm,hx,hcell⟩
 ·exact⟨none,[],0,hcs,(fun h=>by simp at h),by simp⟩
 ·simp only[if_true]at hmm
  subst hmm
  have each:∀i,i<m→∃q:Int,W.cell? (a.add i)=some (.int .i64 q):=fun i hi=>by
   obtain⟨cs',h1,h2⟩:=hcell i hi
   rw[cells3]at h1
   obtain⟨_,hlen,hc⟩:=World.cells?_some h1
   obtain⟨q,hq,_,_⟩:=DataW.trod_int Tryz.underlying3 h2
   refine⟨q,?_⟩
   have:=hc 0 (by omega)
   subst hq
   simpa [Addr.add]using this
  obtain⟨Q,hQ⟩:=pick_lt 0 each
  refine⟨some a,(List.range len).map Q,m,by rw[hcs];simp,fun h0 =>?_,by simpa using hl⟩
  have h0':0<m:=by simp at h0;omega
  obtain⟨b,off,spot⟩:=a
  have hspot:spot=none:=by
   have:=World.cell?_spot (hQ 0 h0')
   simpa [Addr.add]using this
  subst hspot
  refine⟨b,off,rfl,World.block_lt_of_cell? W _ (by have:=hQ 0 h0';rw[add_flat]at this;exact this),fun j hj =>?_⟩
  have hj':j<len:=by simpa using hj
  have:=hQ j (by omega)
  rw[add_flat]at this
  rw[this];simp
theorem node_ofB {n:Nat}{cs:List Value}{x:DataW H × List MemPlace}(hlen:cs.length=5)(h:DataW.trod enc Tryz.prog W 0 (fun _=>true) true n 37 cs=some x) :
  ∃(q:Tr.Nd) (K:Option Addr) (c:Nat),cs=[.int .i64 q.kd,.int .i64 q.n,.int .i64 q.pl,.string q.tx,.slice K q.ks.length c]∧Tr.Ints W K q.ks∧q.n≤9223372036854775807∧q.ks.length≤c:=by
 obtain⟨d,pl⟩:=x
 obtain⟨xs,k,_,_,_,hxl,hel⟩:=DataW.trod_struct under37 h
 obtain⟨f0,g0,t0,o0⟩:=field_of fields37 (i:=0) rfl
 obtain⟨f1,g1,t1,o1⟩:=field_of fields37 (i:=1) rfl
 obtain⟨f2,g2,t2,o2⟩:=field_of fields37 (i:=2) rfl
 obtain⟨f3,g3,t3,o3⟩:=field_of fields37 (i:=3) rfl
 obtain⟨f4,g4,t4,o4⟩:=field_of fields37 (i:=4) rfl
 rw[size37]at hxl
 match cs,hlen,xs,hxl with
 | [v0,v1,v2,v3,v4],_,[x0,x1,x2,x3,x4],_=>
  have e0:=hel 0 f0 g0
  have e1:=hel 1 f1 g1
  have e2:=hel 2 f2 g2
  have e3:=hel 3 f3 g3
  have e4:=hel 4 f4 g4
  rw[t0,o0,cells3]at e0
  rw[t1,o1,cells3]at e1
  rw[t2,o2,cells3]at e2
  rw[t3,o3,cells9]at e3
  rw[t4,o4,cells35]at e4
  obtain⟨a0,q0,_,_⟩:=DataW.trod_int Tryz.underlying3 e0
  obtain⟨a1,q1,_,hw1⟩:=DataW.trod_int Tryz.underlying3 e1
  obtain⟨a2,q2,_,_⟩:=DataW.trod_int Tryz.underlying3 e2
  obtain⟨s3,q3,_,_⟩:=DataW.trod_string Tryz.underlying9 e3
  obtain⟨K,ks,c,q4,hI,hKc⟩:=ints_of e4
  simp at q0 q1 q2 q3 q4
  exact⟨(⟨a0,a1,a2,s3,ks⟩:Tr.Nd),K,c,by rw[q0,q1,q2,q3,q4],hI,wf_le hw1,hKc⟩
theorem nodes_ofB {n:Nat}{cs:List Value}{x:DataW H × List MemPlace}(h:DataW.trod enc Tryz.prog W 0 (fun _=>true) true n 23 cs=some x):∃(A:Option Addr) (l:List Tr.Nd) (c:Nat),cs=[.slice A l.length c]∧Tr.Nds W A l∧l.length≤c∧(∀x ∈ l,x.n≤9223372036854775807)∧Caps W A l:=by
 rcases open_slice Tryz.underlying23 h with⟨hcs,hx⟩ |⟨a,len,cap,m,n,D,Pl,hcs,_,hl,hm,hmm,hx,hcell⟩
 ·exact⟨none,[],0,hcs,fun h=>by simp at h,by simp,(fun x hx=>by cases hx),fun p bA off K m c hp=>absurd hp (Nat.not_lt_zero _)⟩
 ·simp only[if_true]at hmm
  subst hmm
  have each:∀i,i<m→∃q:Tr.Nd,∃K c,(W.cell? ((a.add (i*5)).add 0)=some (.int .i64 q.kd)∧W.cell? ((a.add (i*5)).add 1)=some (.int .i64 q.n)∧W.cell? ((a.add (i*5)).add 2)=some (.int .i64 q.pl)∧W.cell? ((a.add (i*5)).add 3)=some (.string q.tx)∧W.cell? ((a.add (i*5)).add 4)=some (.slice K q.ks.length c))∧Tr.Ints W K q.ks∧q.n≤9223372036854775807∧q.ks.length≤c:=fun i hi=>by
   obtain⟨cs',h1,h2⟩:=hcell i hi
   rw[cells37]at h1
   obtain⟨_,hlen,hc⟩:=World.cells?_some h1
   obtain⟨q,K,c,hq,hI⟩:=node_ofB hlen h2
   subst hq
   exact⟨q,K,c,⟨hc 0 (by omega),hc 1 (by omega),hc 2 (by omega),hc 3 (by omega),hc 4 (by omega)⟩,hI⟩
  obtain⟨Q,hQ⟩:=pick_lt ⟨0,0,0,⟨#[]⟩,[]⟩ each
  refine⟨some a,(List.range len).map Q,m,by rw[hcs];simp,fun h0 =>?_,by simpa using hl,(fun x hx=>by
   obtain⟨i,hi,rfl⟩:=List.mem_map.1 hx
   obtain⟨_,_,_,_,h,_⟩:=hQ i (by have:=List.mem_range.1 hi;omega)
   exact h),fun p bA off K m2 c2 hp hA hcl _ h2=>by
   have hp':p<len:=by simpa using hp
   obtain⟨K3,c3,⟨_,_,_,_,e4⟩,_,_,h5⟩:=hQ p (by omega)
   rw[Option.some.inj hA,add_flat,add_flat]at e4
   have h6:=hcl.symm.trans e4
   injection h6 with h6
   injection h6 with x1 x2 x3
   omega⟩
  have h0':0<m:=by simp at h0;omega
  obtain⟨b,off,spot⟩:=a
  obtain⟨K0,c0,⟨h00,_⟩,_⟩:=hQ 0 h0'
  have hspot:spot=none:=by
   have:=World.cell?_spot h00
   simpa [Addr.add]using this
  subst hspot
  have eqs:∀i o,(((⟨b,off,none⟩:Addr).add (i*5)).add o)=⟨b,off+i*5+o,none⟩:=fun i o=>by rw[add_flat,add_flat]
  refine⟨b,off,rfl,World.block_lt_of_cell? W _ (by rw[eqs]at h00;exact h00),fun j hj =>?_⟩
  have hj':j<len:=by simpa using hj
  obtain⟨K,c,⟨e0,e1,e2,e3,e4⟩,hI,_⟩:=hQ j (by omega)
  rw[eqs]at e0 e1 e2 e3 e4
  simp only[List.getElem_map,List.getElem_range]
  exact⟨K,c,by simpa using e0,e1,e2,e3,e4,hI⟩
theorem tree_ofB {n:Nat}{cs:List Value}{x:DataW H × List MemPlace}(hlen:cs.length=2)(h:DataW.trod enc Tryz.prog W 0 (fun _=>true) true n 25 cs=some x) :
  ∃(A:Option Addr) (l:List Tr.Nd) (c:Nat) (r:Int),cs=[.slice A l.length c,.int .i64 r]∧Tr.Nds W A l∧l.length≤c∧(∀x ∈ l,x.n≤9223372036854775807)∧Caps W A l:=by
 obtain⟨d,pl⟩:=x
 obtain⟨xs,k,_,_,_,hxl,hel⟩:=DataW.trod_struct under25 h
 obtain⟨f0,g0,t0,o0⟩:=field_of fields25 (i:=0) rfl
 obtain⟨f1,g1,t1,o1⟩:=field_of fields25 (i:=1) rfl
 rw[size25]at hxl
 match cs,hlen,xs,hxl with
 | [v0,v1],_,[x0,x1],_=>
  have e0:=hel 0 f0 g0
  have e1:=hel 1 f1 g1
  rw[t0,o0,cells23]at e0
  rw[t1,o1,cells3]at e1
  obtain⟨A,l,c,q0,hN,hc⟩:=nodes_ofB e0
  obtain⟨a1,q1,_,_⟩:=DataW.trod_int Tryz.underlying3 e1
  simp at q0 q1
  exact⟨A,l,c,a1,by rw[q0,q1],hN,hc⟩
theorem viewTr {base:Nat}{v:Value}{d:DataW H}{p:List MemPlace}(hv:Value.okWide Tryz.prog W .any base 25 v)(h:DataW.Trod enc Tryz.prog W 0 (fun _=>true) true 25 v d p) :
  ∃(A:Option Addr) (c:Nat) (l:List Tr.Nd) (r:Int),v = .agg #[.slice A l.length c,.int .i64 r]∧Tr.Nds W A l∧l.length≤c∧(∀x ∈ l,x.n≤9223372036854775807)∧Caps W A l:=by
 obtain⟨cs,rfl,hsz⟩:=okWide_struct under25 hv
 rw[cells25]at hsz
 obtain⟨fuel,hf⟩:=h
 obtain⟨A,l,c,r,e,hN,hc⟩:=tree_ofB (cs:=cs.toList) (by simpa using hsz) (by simpa [Value.cells]using hf)
 exact⟨A,c,l,r,by rw[← e],hN,hc⟩
end
end
end Go.Proofs.YteecfjhjllajlaaGreatDoor.Vw
namespace Go.Proofs.YteecfjhjllajlaaGreatDoor
section
set_option maxHeartbeats 2500000
set_option maxRecDepth 100000
open Go Go.RowKit
open Tr (Bx heap1 bt Nds Ints BPost IPost VPost Snd rgB dpt)
theorem isStatement_any (k:Int)(w:World):Calls Tryz.prog 71 #[.int .i64 k] w fun e w'=>e = .returned (.bool (Tr.stmB k))∧w=w':=by
 by_cases h1:7≤k
 ·by_cases h2:k≤17
  ·have e:Tr.stmB k=true:=by unfold Tr.stmB;rw[decide_eq_true h1,decide_eq_true h2];rfl
   have hd1:decide ((7:Int)≤k)=true:=decide_eq_true h1
   have hd2:decide (k≤(17:Int))=true:=decide_eq_true h2
   rw[e]
   go_enter Tryz.func71,Tryz.ntmps71
   go_wp2
   go_ret
   simp
  ·have e:Tr.stmB k=false:=by unfold Tr.stmB;rw[decide_eq_true h1,decide_eq_false h2];rfl
   have hd1:decide ((7:Int)≤k)=true:=decide_eq_true h1
   have hd2:decide (k≤(17:Int))=false:=decide_eq_false h2
   rw[e]
   go_enter Tryz.func71,Tryz.ntmps71
   go_wp2
   go_ret
   simp
 ·have e:Tr.stmB k=false:=by unfold Tr.stmB;rw[decide_eq_false h1];rfl
  have hd1:decide ((7:Int)≤k)=false:=decide_eq_false h1
  rw[e]
  go_enter Tryz.func71,Tryz.ntmps71
  go_wp2
  go_ret
  simp
theorem printLine_any (A:Option Addr)(n c:Nat)(l:List Tr.Nd)(r p:Int)(w:World)(h:TIn w A n l):Calls Tryz.prog 25 #[.agg #[.slice A n c,.int .i64 r],.int .i64 p] w (VPost (.string (bsX (lineT l r p))) w):=by
 have hn:=h.len
 subst hn
 have hb0:=heap1 w (.cells #[.slice A l.length c,.int .i64 r] 25)
 have HX:=Lib.hid (Bx.new w 25 [.slice A l.length c,.int .i64 r])
 have HB0:=Lib.hid hb0
 by_cases hp0:p<0
 ·have e:lineT l r p=[]:=by unfold lineT;rw[decide_eq_false (show¬0≤p by omega)];rfl
  rw[e]
  have hd:decide (p<0)=true:=decide_eq_true hp0
  clear e h hb0
  go_enter Tryz.func25,Tryz.ntmps25
  go_wp2
  go_ret
  exact⟨rfl,HB0.out⟩
 have hd0:decide (p<0)=false:=decide_eq_false hp0
 by_cases hpl:(l.length:Int)≤p
 ·have e:lineT l r p=[]:=by unfold lineT;rw[decide_eq_false (show¬p<(l.length:Int)by omega),Bool.false_and,Bool.and_false];rfl
  rw[e]
  have hd:decide ((l.length:Int)≤p)=true:=decide_eq_true hpl
  clear e h hb0
  generalize l.length=m at *
  go_enter Tryz.func25,Tryz.ntmps25
  go_wp2
  go_ret
  exact⟨rfl,HB0.out⟩
 have hd1:decide ((l.length:Int)≤p)=false:=decide_eq_false hpl
 obtain⟨q,rfl⟩:∃q:Nat,p=(q:Int):=⟨p.toNat,by omega⟩
 have hq:q<l.length:=by omega
 have HR:=Lib.hid ((h.below hb0).right c r)
 obtain⟨bA,off,K,cK,rfl,hltA,c0,c1,c2,c3,c4,c5⟩:=node_at h.nds hb0 q hq
 clear c1 c2 c3 c4 c5
 have H:=Lib.hid h
 have hnd:l[q]=ndA l (q:Int):=(ndA_eq hq).symm
 rw[hnd]at c0
 have elt:lineT l r (q:Int)=if Tr.stmB (ndA l (q:Int)).kd&&rgB l r then lnT l l.length (q:Int) else []:=by unfold lineT;rw[decide_eq_true (show(0:Int)≤(q:Int)by omega),decide_eq_true (show(q:Int)<(l.length:Int)by omega),Bool.true_and,Bool.true_and]
 cases hs:Tr.stmB (ndA l (q:Int)).kd with
 |false=>
  have e:lineT l r (q:Int)=[]:=by rw[elt,hs];rfl
  rw[e]
  have HS:=Lib.hid hs
  have hqz:(q:Int)<(l.length:Int):=by omega
  clear e elt hnd hs hb0 h hpl hd1 hp0
  have hd1:decide ((l.length:Int)≤(q:Int))=false:=decide_eq_false (by omega)
  clear hq
  generalize (ndA l (q:Int)).kd=kd at *
  generalize l.length=m at *
  go_enter Tryz.func25,Tryz.ntmps25
  go_wp2_with (go_at_call 71;refine(isStatement_any _ _).mono ?_;rintro e w' ⟨rfl,rfl⟩;simp only[HS.out])
  go_ret
  exact⟨rfl,HB0.out⟩
 |true=>
  cases hr:rgB l r with
  |false=>
   have e:lineT l r (q:Int)=[]:=by rw[elt,hs,hr];rfl
   rw[e]
   have HS:=Lib.hid hs
   rw[hr]at HR
   have hqz:(q:Int)<(l.length:Int):=by omega
   clear e elt hnd hs hr hb0 h hpl hd1 hp0
   have hd1:decide ((l.length:Int)≤(q:Int))=false:=decide_eq_false (by omega)
   clear hq
   generalize (ndA l (q:Int)).kd=kd at *
   generalize l.length=m at *
   have e0:=(HX.out.cell 0).trans rfl
   have e1:=(HX.out.cell 1).trans rfl
   go_enter Tryz.func25,Tryz.ntmps25
   go_wp2_with (first|(go_at_call 71;refine(isStatement_any _ _).mono ?_;rintro e w' ⟨rfl,rfl⟩;simp only[HS.out]) |(go_at_call 27;refine HR.out.mono ?_))
   rintro e w1 ⟨rfl,hb1⟩
   have HB1:=Lib.hid (bt HB0.out hb1)
   clear hb1
   go_wp2
   go_ret
   exact⟨rfl,HB1.out⟩
  |true=>
   have hok:=rg_ok hr
   have e:lineT l r (q:Int)=lnT l l.length (q:Int):=by rw[elt,hs,hr];rfl
   rw[e]
   rw[hr]at HR
   have hsh:=h.sh hok.snd hok.sh
   obtain⟨S,hS⟩:=snd_szd hok.snd
   have hln:=hsh.ln q hq hs
   have hlen:(lnT l l.length (q:Int)).length≤2800000000:=by
    have h1:=lnT_len hok.sh hsh.ex hS l.length q hq hln
    have h2:=hS.top q hq
    omega
   have HC:=Lib.hid (show∀w2,Below w.heap.size w w2→Calls Tryz.prog 60 #[.agg #[.slice (some ⟨bA,off,none⟩) l.length c,.int .i64 r],.int .i64 (q:Int),.func (.func 72) #[] #[]] w2 fun e w'=>e = .returned (.string (bsX (lnT l l.length (q:Int))))∧Below w2.heap.size w2 w' from fun w2 hq2=>by
    have hin:=(h.below hq2).below (heap1 w2 (.cells #[.slice (some ⟨bA,off,none⟩) l.length c,.int .i64 r] 25))
    have hpx:=hin.px hok.snd hsh.ex
    have hcp:=hin.caps
    refine printed72_pg (some ⟨bA,off,none⟩) l.length c r (q:Int) _ w2 _ rfl (lnT_ne hs) fun w' q' hp' =>?_
    have:=line_pg c _ l.length hpx hcp 0 q [] w' hq hln q' hp' (by show 0+_≤_;omega)
    rw[List.nil_append]at this
    exact this)
   have HS:=Lib.hid hs
   have hqz:(q:Int)<(l.length:Int):=by omega
   clear hlen hln hS hsh hok e elt hnd hs hr hb0 h hpl hd1 hp0
   have hd1:decide ((l.length:Int)≤(q:Int))=false:=decide_eq_false (by omega)
   clear hq
   generalize lnT l l.length (q:Int)=y at *
   generalize (ndA l (q:Int)).kd=kd at *
   generalize l.length=m at *
   have e0:=(HX.out.cell 0).trans rfl
   have e1:=(HX.out.cell 1).trans rfl
   go_enter Tryz.func25,Tryz.ntmps25
   go_wp2_with (first|(go_at_call 71;refine(isStatement_any _ _).mono ?_;rintro e w' ⟨rfl,rfl⟩;simp only[HS.out]) |(go_at_call 27;refine HR.out.mono ?_))
   rintro e w1 ⟨rfl,hb1⟩
   have HB1:=Lib.hid (bt HB0.out hb1)
   have hx1:=HX.out.below hb1 (by rw[World.size_alloc];omega)
   clear e0 e1
   have e0:=(hx1.cell 0).trans rfl
   have e1:=(hx1.cell 1).trans rfl
   clear hb1 hx1
   go_wp2_with (go_at_call 60;refine(HC.out w1 HB1.out).mono ?_)
   rintro e w2 ⟨rfl,hb2⟩
   have HB2:=Lib.hid (bt HB1.out hb2)
   clear hb2 e0 e1
   go_wp2
   go_ret
   exact⟨rfl,HB2.out⟩
def OkT6 (l:List Tr.Nd):Prop:=l.length≤400∧∀x ∈ l,x.ks.length≤400∧x.tx.size≤200
def SmPost6 (l:List Tr.Nd)(w:World)(e:Ending)(w':World):Prop:=Below w.heap.size w w'∧∃b,e = .returned (.bool b)∧(b=true→OkT6 l)
theorem small20_any (A:Option Addr)(n c:Nat)(l:List Tr.Nd)(r:Int)(w:World)(hN:Nds w A l)(hn:n=l.length):Calls Tryz.prog 20 #[.agg #[.slice A n c,.int .i64 r]] w (SmPost6 l w):=by
 have hb0:=heap1 w (.cells #[.slice A n c,.int .i64 r] 25)
 have HNN:=Lib.hid (hN.below hb0)
 have HB:=Lib.hid hb0
 have HN:=Lib.hid hn
 clear hN hn hb0
 by_cases h4:(400:Int)<(n:Int)
 ·have hd4:decide ((400:Int)<(n:Int))=true:=decide_eq_true h4
  go_enter Tryz.func20,Tryz.ntmps20
  go_wp2
  go_ret
  exact⟨HB.out,false,rfl,fun h=>by cases h⟩
 ·have hd4:decide ((400:Int)<(n:Int))=false:=decide_eq_false h4
  go_enter Tryz.func20,Tryz.ntmps20
  go_wp2
  go_loop [3] (fun i=>∃k:Nat,k≤n∧i = .int .i64 (k:Int)∧∀x ∈ l.take k,x.ks.length≤400∧x.tx.size≤200) (fun i=>n-(intOf i).toNat)
  case atStart=>exact⟨0,Nat.zero_le _,rfl,fun t ht=>by simp at ht⟩
  case round=>
   obtain⟨k,hk,rfl,hok2⟩:=hrel
   have HOK2:=Lib.hid hok2
   clear hok2
   by_cases hkl:k<n
   ·have hkz:(k:Int)<(n:Int):=by omega
    have hkt:k<l.length:=by rw[← HN.out];exact hkl
    obtain⟨bN,oN,rfl,hbN,hcN⟩:=HNN.out (by omega)
    obtain⟨K2,c2,_,_,_,c3,c4,_⟩:=hcN k hkt
    have HXX:=Lib.hid (show l.take (k+1)=l.take k++[l[k]]from List.take_succ_eq_append_getElem hkt)
    clear hcN
    generalize l[k]=x at *
    obtain⟨kd,nn,pl,tx,ks⟩:=x
    dsimp only at c3 c4
    generalize hq:ks.length=q at *
    have HQ:=Lib.hid hq
    clear hq
    by_cases h1:(400:Int)<(q:Int)
    ·have hd1:decide ((400:Int)<(q:Int))=true:=decide_eq_true h1
     go_wp2
     go_ret
     exact⟨HB.out,false,rfl,fun h=>by cases h⟩
    ·have hd1:decide ((400:Int)<(q:Int))=false:=decide_eq_false h1
     by_cases h2:(200:Int)<(tx.size:Int)
     ·have hd2:decide ((200:Int)<(tx.size:Int))=true:=decide_eq_true h2
      go_wp2
      go_ret
      exact⟨HB.out,false,rfl,fun h=>by cases h⟩
     ·have hd2:decide ((200:Int)<(tx.size:Int))=false:=decide_eq_false h2
      go_wp2
      go_round
      case rel=>
       refine⟨k+1,by omega,by go_num,?_⟩
       rw[HXX.out]
       intro x hx
       rcases List.mem_append.1 hx with hx |hx
       ·exact HOK2.out x hx
       ·simp at hx;subst hx;exact⟨by show ks.length≤400;rw[HQ.out];omega,by show tx.size≤200;omega⟩
      case measure=>simp[intOf];omega
   ·obtain rfl:k=n:=by omega
    have hkz:¬(k:Int)<(k:Int):=by omega
    go_wp2
    go_ret
    refine⟨HB.out,true,rfl,fun _=>⟨by rw[← HN.out];omega,?_⟩⟩
    have h5:=HOK2.out
    rw[List.take_of_length_le (by rw[← HN.out];omega)]at h5
    exact h5
end
section
set_option maxRecDepth 100000
open Go Go.RowKit
open Tr (Bx heap1 bt Nds Ints BPost IPost VPost Snd rgB dpt)
theorem bsX_to (a:List UInt8):(bsX a).toList=a:=by rw[ByteArray.toList_eq,bsX_data]
theorem ext_to (s:List UInt8)(i j:Nat):((bsX s).extract i j).toList=(s.drop i).take (j-i):=by rw[ByteArray.toList_eq,Tk.sub_list,bsX_data]
theorem part_any (s t:List UInt8)(w:World)(hs:s.length≤281474976710656)(h:t <:+: s):Calls Tryz.prog 30 #[.string (bsX s),.string (bsX t)] w (VPost (.bool true) w):=by
 obtain⟨a,c,hx⟩:=h
 have hsz:=bsX_size s
 have htz:=bsX_size t
 have hlen:a.length+t.length≤s.length:=by rw[← hx];simp only[List.length_append];omega
 have HIT:=Lib.hid (show(s.drop a.length).take t.length=t by rw[← hx,List.append_assoc,List.drop_left,List.take_left])
 obtain⟨n,hn⟩:∃n,n=a.length:=⟨_,rfl⟩
 obtain⟨m,hm⟩:∃m,m=t.length:=⟨_,rfl⟩
 obtain⟨k,hk⟩:∃k,k=s.length:=⟨_,rfl⟩
 rw[← hn,← hm,← hk]at hlen
 rw[← hn,← hm]at HIT
 rw[← hm]at htz
 rw[← hk]at hsz hs
 clear hn hx hm hk
 go_enter Tryz.func30,Tryz.ntmps30
 go_wp2
 go_loop [5] (fun i=>∃j:Nat,j≤n∧i = .int .i64 (j:Int)) (fun i=>n+1-(intOf i).toNat)
 case atStart=>exact⟨0,Nat.zero_le _,rfl⟩
 case round=>
  obtain⟨j,hj,rfl⟩:=hrel
  have hjz:((j:Int)+(m:Int))≤(k:Int):=by omega
  have hsl:=Tk.slice_lay (bsX s) j (j+m) ((j:Int)+(m:Int)) (by omega) (by omega) (by rw[hsz];omega)
  have HIT2:=HIT.out
  by_cases e:(s.drop j).take m=t
  ·have heq:(((bsX s).extract j (j+m)).toList==(bsX t).toList)=true:=by rw[ext_to,bsX_to,Nat.add_sub_cancel_left,e,beq_self_eq_true]
   clear HIT2
   go_wp2
   go_ret
   exact⟨rfl,Below.refl _ _⟩
  ·have heq:(((bsX s).extract j (j+m)).toList==(bsX t).toList)=false:=by rw[ext_to,bsX_to,Nat.add_sub_cancel_left];exact beq_eq_false_iff_ne.2 e
   have hne:j≠n:=fun e2=>e (by rw[e2];exact HIT2)
   clear HIT2 e
   go_wp2
   go_round
   case rel=>exact⟨j+1,by omega,by go_num⟩
   case measure=>simp[intOf];omega
end
section
set_option maxHeartbeats 3000000
set_option maxRecDepth 100000
open Go Go.RowKit
open Tr (Bx heap1 bt Nds Ints BPost IPost VPost Snd rgB dpt)
theorem line_part {l:List Tr.Nd}{r:Int}(hr:rgB l r=true)(hx:ShOk l){q:Nat}(hq:q<l.length)(hs:Tr.stmB (ndA l q).kd=true):lineT l r q <:+: progT l r∧lineT l r q≠[]∧((ndA l q).kd≠11→(ndA l q).kd≠12→(ndA l q).kd≠16→lineT l r q++[59,10] <:+: progT l r):=by
 have hok:=rg_ok hr
 obtain⟨b,h1,h2,h3,hS,h0⟩:=hok.snd
 have e1:lineT l r q=lnT l l.length q:=by
  unfold lineT
  rw[decide_eq_true (show(0:Int)≤(q:Int)by omega),decide_eq_true (show(q:Int)<(l.length:Int)by omega),hs,hr];rfl
 have e2:progT l r=pgmT l l.length r:=by unfold progT;rw[hr];rfl
 have hin:=line_in hS hok.sh hx l.length (Nat.le_refl _) (l.length-1) (by omega) q (by rw[h0];omega) (by omega) hs
 have hroot:=hok.root
 have hrn:r=((l.length-1:Nat):Int):=by omega
 have hp:lnS l l.length q <:+: pgmT l l.length r:=by
  rw[hrn]
  unfold InT at hin
  rcases hin with⟨h4,_⟩ |⟨h4,_⟩ |⟨h4,_⟩ |⟨_,h4⟩
  ·rw[hroot]at h4;exact absurd h4 (by decide)
  ·rw[hroot]at h4;exact absurd h4 (by decide)
  ·rw[hroot]at h4;exact absurd h4 (by decide)
  ·exact h4
 rw[e1,e2]
 refine⟨(lnT_lnS l l.length q).trans hp,lnT_ne hs,fun h11 h12 h16 =>?_⟩
 have e3:lnS l l.length q=lnT l l.length q++[59,10]:=by unfold lnS;rw[if_neg (by omega)]
 rwa [e3]at hp
theorem prog_nil {l:List Tr.Nd}{r:Int}(h:progT l r=[]):l.length=0∨rgB l r=false∨l.length=1:=by
 cases hr:rgB l r with
 |false=>exact Or.inr (Or.inl rfl)
 |true=>
  refine Or.inr (Or.inr ?_)
  have hok:=rg_ok hr
  obtain⟨b,h1,h2,h3,hS,h0⟩:=hok.snd
  have e2:progT l r=pgmT l l.length r:=by unfold progT;rw[hr];rfl
  rw[e2]at h
  have hks:(ndA l r).ks=[]:=by
   by_cases e:(ndA l r).ks=[]
   ·exact e
   ·exact absurd h (pgmT_ne e)
  have hrn:r=((l.length-1:Nat):Int):=by omega
  rw[hrn]at hks
  have h4:=hS (l.length-1) (by omega)
  rw[kidsAt_ks (by omega),hks,h0]at h4
  have:l.length-1=0:=by simpa [Tr.stK]using h4
  omega
theorem prog_some {l:List Tr.Nd}{r:Int}(h:progT l r≠[]):rgB l r=true:=by
 cases hr:rgB l r with
 |true=>rfl
 |false=>exact absurd (by unfold progT;rw[hr];rfl) h
theorem line_none {l:List Tr.Nd}{r:Int}{q:Nat}(hs:Tr.stmB (ndA l q).kd=false):lineT l r q=[]:=by
 unfold lineT;rw[hs];simp
theorem prog_len {l:List Tr.Nd}(r:Int)(hN:∀x ∈ l,x.n≤9223372036854775807)(hk:∀x ∈ l,x.ks.length≤4000):(progT l r).length≤2800000000:=by
 unfold progT
 split
 ·rename_i hr
  have hok:=rg_ok hr
  obtain⟨S,hS⟩:=snd_szd hok.snd
  obtain⟨h1,h2,h3⟩:=snd_len hok.snd
  have hrn:r=((l.length-1:Nat):Int):=by omega
  have hroot:=hok.root
  rw[hrn]
  exact pgmT_len hok.sh (sh_ok (snd_ahead hok.snd) hok.sh hN hk) hS h2 _ _ (by omega) hroot
 ·exact Nat.zero_le _
theorem tin_small {w:World}{A:Option Addr}{l:List Tr.Nd}(hN:Nds w A l)(hnum:∀x ∈ l,x.n≤9223372036854775807)(hc:Caps w A l)(hT:Tb w)(h:OkT6 l):TIn w A l.length l:=
 ⟨hN,rfl,fun x hx=>by have:=(h.2 x hx).1;omega,fun x hx=>by have:=(h.2 x hx).2;omega,hnum,hc,hT⟩
theorem emp_yes:(bsX []).toList.isEmpty=true:=by rw[bsX_to];rfl
theorem emp_no {y:List UInt8}(h:y≠[]):(bsX y).toList.isEmpty=false:=by
 rw[bsX_to]
 cases y with
 |nil=>exact absurd rfl h
 |cons a r=>rfl
theorem printLines_any (A:Option Addr)(c:Nat)(l:List Tr.Nd)(r:Int)(w:World)(hE:Tk.Errs w)(hT:Tb w)(hN:Nds w A l)(hnum:∀x ∈ l,x.n≤9223372036854775807)(hc:Caps w A l):Calls Tryz.prog 7 #[.agg #[.slice A l.length c,.int .i64 r]] w (VPost (.bool true) w):=by
 have hb0:=heap1 w (.cells #[.slice A l.length c,.int .i64 r] 25)
 have HX:=Lib.hid (Bx.new w 25 [.slice A l.length c,.int .i64 r])
 have HB0:=Lib.hid hb0
 have HS:=Lib.hid (shown6_any _ (hE.below hb0) (hT.below hb0))
 have HSM:=Lib.hid (show∀w',Below w.heap.size w w'→Calls Tryz.prog 20 #[.agg #[.slice A l.length c,.int .i64 r]] w' (SmPost6 l w')from fun w' q=>small20_any A l.length c l r w' (hN.below q) rfl)
 have HTI:=Lib.hid (show OkT6 l→∀w',Below w.heap.size w w'→TIn w' A l.length l from fun h w' q=>(tin_small hN hnum hc hT h).below q)
 have HLN:=Lib.hid (show OkT6 l→(progT l r).length≤2800000000 from fun h=>prog_len r hnum fun x hx=>by have:=(h.2 x hx).1;omega)
 have HSH:=Lib.hid (show OkT6 l→rgB l r=true→ShOk l from fun h hr=>sh_ok (snd_ahead (rg_ok hr).snd) (rg_ok hr).sh hnum fun x hx=>by have:=(h.2 x hx).1;omega)
 clear hE hT hN hnum hc hb0
 have e0:=(HX.out.cell 0).trans rfl
 have e1:=(HX.out.cell 1).trans rfl
 go_enter Tryz.func7,Tryz.ntmps7
 go_wp2_with (go_at_call 19;refine HS.out.mono ?_)
 rintro e w1 ⟨rfl,hb1⟩
 have HB1:=Lib.hid (bt HB0.out hb1)
 have HX1:=Lib.hid (HX.out.below hb1 HX.out.lt)
 have HSM1:=Lib.hid (HSM.out w1 HB1.out)
 clear e0 e1 hb1
 have e0:=(HX1.out.cell 0).trans rfl
 have e1:=(HX1.out.cell 1).trans rfl
 go_wp2_with (go_at_call 20;refine HSM1.out.mono ?_)
 rintro e w2 ⟨hb2,b,rfl,hb⟩
 have HB2:=Lib.hid (bt HB1.out hb2)
 have HX2:=Lib.hid (HX1.out.below hb2 HX1.out.lt)
 clear e0 e1 hb2
 have e0:=(HX2.out.cell 0).trans rfl
 have e1:=(HX2.out.cell 1).trans rfl
 cases b with
 |false=>
  go_wp2
  go_ret
  exact⟨rfl,HB2.out⟩
 |true=>
  have hok:=hb rfl
  have HTI2:=Lib.hid (HTI.out hok)
  have HLN2:=HLN.out hok
  have hm4:=hok.1
  have HSH2:=Lib.hid (HSH.out hok)
  have HP:=Lib.hid (printProgram_any A l.length c l r w2 (HTI2.out w2 HB2.out))
  have HR:=Lib.hid (show∀w',Below w.heap.size w w'→Calls Tryz.prog 27 #[.agg #[.slice A l.length c,.int .i64 r]] w' (BPost (rgB l r) w')from fun w' q=>(HTI2.out w' q).right c r)
  have HLI:=Lib.hid (show∀w',Below w.heap.size w w'→∀p:Int,Calls Tryz.prog 25 #[.agg #[.slice A l.length c,.int .i64 r],.int .i64 p] w' (VPost (.string (bsX (lineT l r p))) w')from fun w' q p=>printLine_any A l.length c l r p w' (HTI2.out w' q))
  clear hb hok
  go_wp2_with (go_at_call 21;refine HP.out.mono ?_)
  rintro e w3 ⟨rfl,hb3⟩
  have HB3:=Lib.hid (bt HB2.out hb3)
  have HX3:=Lib.hid (HX2.out.below hb3 HX2.out.lt)
  clear e0 e1 hb3
  have e0:=(HX3.out.cell 0).trans rfl
  have e1:=(HX3.out.cell 1).trans rfl
  obtain⟨m,hm⟩:∃m,m=l.length:=⟨_,rfl⟩
  have HM:=Lib.hid hm
  rw[← hm]at e0 hm4
  by_cases hy:progT l r=[]
  ·have hnil:=prog_nil hy
   rw[hy]
   have hem:=emp_yes
   rw[← hm]at hnil
   have HR3:=Lib.hid (HR.out w3 HB3.out)
   rw[← hm]at HR3
   have HX3m:=HX3.out
   rw[← hm]at HX3m
   have HX3n:=Lib.hid HX3m
   clear hm HLN2 HX3 HX3m hy
   by_cases h0:m=0
   ·subst h0
    go_wp2
    go_ret
    exact⟨rfl,HB3.out⟩
   have hq0:((m:Int)==0)=false:=beq_eq_false_iff_ne.2 (by omega)
   cases hr:rgB l r with
   |false=>
    rw[hr]at HR3
    clear hnil hr
    go_wp2_with (go_at_call 27;refine HR3.out.mono ?_)
    rintro e w4 ⟨rfl,hb4⟩
    have HB4:=Lib.hid (bt HB3.out hb4)
    clear hb4 e0 e1
    go_wp2
    go_ret
    exact⟨rfl,HB4.out⟩
   |true=>
    rw[hr]at HR3 hnil
    have h1:m=1:=by
     rcases hnil with h |h |h
     ·exact absurd h h0
     ·cases h
     ·exact h
    clear hnil hr
    subst h1
    go_wp2_with (go_at_call 27;refine HR3.out.mono ?_)
    rintro e w4 ⟨rfl,hb4⟩
    have HB4:=Lib.hid (bt HB3.out hb4)
    have HX4:=Lib.hid (HX3n.out.below hb4 HX3n.out.lt)
    clear e0 e1 hb4
    have e0:=(HX4.out.cell 0).trans rfl
    go_wp2
    go_ret
    exact⟨rfl,HB4.out⟩
  ·have hr:=prog_some hy
   have hsh:=HSH2.out hr
   have hem:=emp_no hy
   have HPT:=Lib.hid (show∀(q:Nat),q<l.length→Tr.stmB (ndA l q).kd=true→lineT l r q <:+: progT l r∧lineT l r q≠[]∧((ndA l q).kd≠11→(ndA l q).kd≠12→(ndA l q).kd≠16→lineT l r q++[59,10] <:+: progT l r)from fun q hq hs=>line_part hr hsh hq hs)
   have HXW:=Lib.hid (show∀w',Below w3.heap.size w3 w'→Bx w' w.heap.size 25 [.slice A l.length c,.int .i64 r]from fun w' q=>HX3.out.below q HX3.out.lt)
   clear hm hr hsh hy HR
   generalize progT l r=y at *
   go_wp2
   clear e0 e1
   go_loopg [6] m (fun g a6 wr=>∃i:Nat,a6 = .int .i64 (i:Int)∧i≤m∧g=m-i∧Below w3.heap.size w3 wr)
   case atStart=>exact⟨0,rfl,Nat.zero_le _,rfl,Below.refl _ _⟩
   case round=>
    obtain⟨i,rfl,him,rfl,hb4⟩:=hrel
    have HB4:=Lib.hid hb4
    have HBW:=Lib.hid (bt HB3.out hb4)
    have e0:=((HXW.out wr hb4).cell 0).trans rfl
    have e1:=((HXW.out wr hb4).cell 1).trans rfl
    rw[← HM.out]at e0
    by_cases hlt:i<m
    ·have hlz:(i:Int)<(m:Int):=by omega
     have hil:i<l.length:=by rw[← HM.out];exact hlt
     obtain⟨bA,off,K,cK,rfl,hltA,c0,c1,c2,c3,c4,c5⟩:=node_at (HTI2.out wr HBW.out).nds (Below.refl _ _) i hil
     rw[← ndA_eq hil]at c0
     have HL:=Lib.hid (HLI.out wr HBW.out (i:Int))
     rw[← HM.out]at HL
     have hpt:=HPT.out i hil
     clear c1 c2 c3 c4 c5 hil
     obtain⟨y2,hy2⟩:∃y2,y2=lineT l r (i:Int):=⟨_,rfl⟩
     have hnone:=line_none (l:=l) (r:=r) (q:=i)
     rw[← hy2]at HL hpt hnone
     clear hy2
     generalize (ndA l (i:Int)).kd=kd at *
     cases hs:Tr.stmB kd with
     |false=>
      have hy0:=hnone hs
      subst hy0
      have hem2:=emp_yes
      clear hpt hnone
      go_wp2_with (go_at_call 25;refine HL.out.mono ?_)
      rintro e w5 ⟨rfl,hb5⟩
      have HB5:=Lib.hid (bt HB4.out hb5)
      clear hb5 e0 e1 c0 hb4
      by_cases h7:7≤kd
      ·have h17:¬kd≤17:=fun h17=>by unfold Tr.stmB at hs;rw[decide_eq_true h7,decide_eq_true h17]at hs;cases hs
       have hd7:decide ((7:Int)≤kd)=true:=decide_eq_true h7
       have hd17:decide (kd≤(17:Int))=false:=decide_eq_false h17
       have h11:(kd != 11)=true:=by rw[bne_iff_ne];omega
       have h12:(kd != 12)=true:=by rw[bne_iff_ne];omega
       have h16:(kd != 16)=true:=by rw[bne_iff_ne];omega
       go_wp2
       go_roundg (m-(i+1))
       case measure=>go_light;omega
       case rel=>go_light;exact⟨i+1,by go_num,by omega,rfl,HB5.out⟩
      ·have hd7:decide ((7:Int)≤kd)=false:=decide_eq_false h7
       have h11:(kd != 11)=true:=by rw[bne_iff_ne];omega
       have h12:(kd != 12)=true:=by rw[bne_iff_ne];omega
       have h16:(kd != 16)=true:=by rw[bne_iff_ne];omega
       go_wp2
       go_roundg (m-(i+1))
       case measure=>go_light;omega
       case rel=>go_light;exact⟨i+1,by go_num,by omega,rfl,HB5.out⟩
     |true=>
      obtain⟨hp1,hp2,hp3⟩:=hpt hs
      have hem2:=emp_no hp2
      have hk:7≤kd∧kd≤17:=by unfold Tr.stmB at hs;simpa using hs
      have hd7:decide ((7:Int)≤kd)=true:=decide_eq_true hk.1
      have hd17:decide (kd≤(17:Int))=true:=decide_eq_true hk.2
      have HP1:=Lib.hid (show∀w',Calls Tryz.prog 30 #[.string (bsX y),.string (bsX y2)] w' (VPost (.bool true) w')from fun w'=>part_any y y2 w' (by omega) hp1)
      have hl2:y2.length≤y.length:=hp1.length_le
      have hcat:¬9223372036854775807<(bsX y2).size+2:=by rw[bsX_size];omega
      clear hnone hp1 hp2 hl2 hpt
      by_cases hpl:kd≠11∧kd≠12∧kd≠16
      ·have HP2:=Lib.hid (show∀w',Calls Tryz.prog 30 #[.string (bsX y),.string (bsX y2++⟨#[59,10]⟩)] w' (VPost (.bool true) w')from fun w'=>by
        have:=part_any y _ w' (by omega) (hp3 hpl.1 hpl.2.1 hpl.2.2)
        rw[← bsX_app]at this
        exact this)
       have h11:(kd != 11)=true:=by rw[bne_iff_ne];omega
       have h12:(kd != 12)=true:=by rw[bne_iff_ne];omega
       have h16:(kd != 16)=true:=by rw[bne_iff_ne];omega
       clear hp3 hpl hk
       go_wp2_with (go_at_call 25;refine HL.out.mono ?_)
       rintro e w5 ⟨rfl,hb5⟩
       have HB5:=Lib.hid (bt HB4.out hb5)
       clear hb5 e0 e1 c0 hb4
       go_wp2_with (go_at_call 30;refine(HP1.out w5).mono ?_)
       rintro e w6 ⟨rfl,hb6⟩
       have HB6:=Lib.hid (bt HB5.out hb6)
       clear hb6
       go_wp2_with (go_at_call 30;refine(HP2.out w6).mono ?_)
       rintro e w7 ⟨rfl,hb7⟩
       have HB7:=Lib.hid (bt HB6.out hb7)
       clear hb7
       go_wp2
       go_roundg (m-(i+1))
       case measure=>go_light;omega
       case rel=>go_light;exact⟨i+1,by go_num,by omega,rfl,HB7.out⟩
      ·have hpl2:kd=11∨kd=12∨kd=16:=by omega
       clear hp3 hpl hk
       go_wp2_with (go_at_call 25;refine HL.out.mono ?_)
       rintro e w5 ⟨rfl,hb5⟩
       have HB5:=Lib.hid (bt HB4.out hb5)
       clear hb5 e0 e1 c0 hb4
       go_wp2_with (go_at_call 30;refine(HP1.out w5).mono ?_)
       rintro e w6 ⟨rfl,hb6⟩
       have HB6:=Lib.hid (bt HB5.out hb6)
       clear hb6 hcat
       rcases hpl2 with rfl |rfl |rfl
       ·go_wp2
        go_roundg (m-(i+1))
        case measure=>go_light;omega
        case rel=>go_light;exact⟨i+1,by go_num,by omega,rfl,HB6.out⟩
       ·go_wp2
        go_roundg (m-(i+1))
        case measure=>go_light;omega
        case rel=>go_light;exact⟨i+1,by go_num,by omega,rfl,HB6.out⟩
       ·go_wp2
        go_roundg (m-(i+1))
        case measure=>go_light;omega
        case rel=>go_light;exact⟨i+1,by go_num,by omega,rfl,HB6.out⟩
    ·obtain rfl:i=m:=by omega
     have hlz:¬(i:Int)<(i:Int):=by omega
     go_wp2
     go_ret
     exact⟨rfl,HBW.out⟩
end
end Go.Proofs.YteecfjhjllajlaaGreatDoor
