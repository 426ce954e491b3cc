/- PROVED: Wv Yz Zl. No more condition. -/
import Derived.Test.YteecfjhjllajlaaGreatDoorM27
import Derived.Deep.Strs
import Derived.Deep.Slices
set_option maxRecDepth 100000
namespace Go.Proofs.YteecfjhjllajlaaGreatDoor
open Go.Lib (hid)
open Go Go.RowKit
namespace Vw
section
open Go Go.ChangeShapes Go.WideShapes Go.ChangeAt Go.RowKit Go.Deep
theorem cells3:Tryz.prog.cellsOf 3=1:=by kernel_rfl
theorem OW:Tryz.prog.cellsOf 9=1:=by kernel_rfl
theorem LP:Tryz.prog.cellsOf 35=1:=by kernel_rfl
theorem LQ:Tryz.prog.cellsOf 23=1:=by kernel_rfl
theorem LU:Tryz.prog.cellsOf 37=5:=by kernel_rfl
theorem LV:Tryz.prog.cellsOf 25=2:=by kernel_rfl
theorem oG:(Tryz.prog.fieldsOf 37).toList.map (λf=>(f.name,f.type,f.offset))=[("Kind",3,0),("N",3,1),("At",3,2),("Text",9,3),("Kids",35,4)]:=by kernel_rfl
theorem Ab:(Tryz.prog.fieldsOf 25).toList.map (λf=>(f.name,f.type,f.offset))=[("Nodes",23,0),("Root",3,1)]:=by kernel_rfl
theorem LW:Tryz.prog.underlying 37=some (.struct (Tryz.prog.fieldsOf 37)):=by kernel_rfl
theorem CZ:Tryz.prog.underlying 25=some (.struct (Tryz.prog.fieldsOf 25)):=by kernel_rfl
theorem OX:(Tryz.prog.fieldsOf 37).size=5:=by kernel_rfl
theorem OY:(Tryz.prog.fieldsOf 25).size=2:=by kernel_rfl
theorem C8 {α:Type}{P:Nat->α->Prop}{m:Nat}(d:α)(h:∀i,i<m->∃q,P i q):∃Q:Nat->α,∀i,i<m->P i (Q i):=
 ⟨λi=>if hi:i<m then (h i hi).choose else d,λi hi=>by
  show P i (dite (i<m) _ _)
  rw[dif_pos hi]
  exact(h i hi).choose_spec⟩
theorem kU {T:TypeId}{L:List (String × Nat × Nat)}(hL:(Tryz.prog.fieldsOf T).toList.map (λf=>(f.name,f.type,f.offset))=L){i:Nat}{n:String}{t o:Nat}(h:L[i]?=some (n,t,o)):∃f,(Tryz.prog.fieldsOf T)[i]?=some f/\f.type=t/\f.offset=o:=by
 rw[<- hL,List.getElem?_map]at h;cases hq:(Tryz.prog.fieldsOf T).toList[i]? with
 |none=>rw[hq]at h;cases h
 |some f=>
  rw[hq]at h;simp only[Option.map_some,Option.some.injEq,Prod.mk.injEq]at h;exact⟨f,by rw[<- Array.getElem?_toList];exact hq,h.2.1,h.2.2⟩
theorem mH (b off k:Nat):(⟨b,off,none⟩:Addr).add k=⟨b,off+k,none⟩:=by simp[Addr.add]
theorem QZ {n:Int}(h:(Lit.int .i64 n).wf=true):n<=9223372036854775807:=by
 unfold Lit.wf at h;simp only[Bool.and_eq_true,decide_eq_true_eq]at h;have h2:=h.2;rw[show IntKind.i64.max=9223372036854775807 by rfl]at h2;exact h2
section
variable {H:Type} {enc:TypeId × Value->H} {W:World}
theorem xW {n:Nat}{cs:List Value}{x:DataW H × List MemPlace}(h:DataW.trod enc Tryz.prog W 0 (λ_=>true) true n 35 cs=some x):∃(K:Option Addr) (ks:List Int) (c:Nat),cs=[.slice K ks.length c]/\Tr.Ints W K ks/\ks.length<=c:=by
 rcases open_slice Tryz.underlying35 h with⟨hcs,hx⟩ |⟨a,len,cap,m,n,D,Pl,hcs,_,hl,hm,hmm,hx,hcell⟩
 ·exact⟨none,[],0,hcs,(λh=>by simp at h),by simp⟩
 ·simp only[if_true]at hmm;subst hmm;have each:∀i,i<m->∃q:Int,W.cell? (a.add i)=some (.int .i64 q):=λi hi=>by
   obtain⟨cs',h1,h2⟩:=hcell i hi;rw[cells3]at h1;obtain⟨_,hlen,hc⟩:=World.cells?_some h1;obtain⟨q,hq,_,_⟩:=DataW.trod_int Tryz.underlying3 h2;refine⟨q,?_⟩;have:=hc 0 (by omega);subst hq;simpa [Addr.add]using this
  obtain⟨Q,hQ⟩:=C8 0 each;refine⟨some a,(List.range len).map Q,m,by rw[hcs];simp,λh0 =>?_,by simpa using hl⟩;have h0':0<m:=by simp at h0;omega
  obtain⟨b,off,spot⟩:=a;have hspot:spot=none:=by
   have:=World.cell?_spot (hQ 0 h0');simpa [Addr.add]using this
  subst hspot;refine⟨b,off,rfl,World.block_lt_of_cell? W _ (by have:=hQ 0 h0';rw[mH]at this;exact this),λj hj =>?_⟩;have hj':j<len:=by simpa using hj
  have:=hQ j (by omega);rw[mH]at this;rw[this];simp
theorem IV {n:Nat}{cs:List Value}{x:DataW H × List MemPlace}(hlen:cs.length=5)(h:DataW.trod enc Tryz.prog W 0 (λ_=>true) true n 37 cs=some x) :
  ∃(q:Tr.Nd) (K:Option Addr) (c:Nat),cs=[.int .i64 q.kd,.int .i64 q.n,.int .i64 q.pl,.string q.tx,.slice K q.ks.length c]/\Tr.Ints W K q.ks/\q.n<=9223372036854775807/\q.ks.length<=c:=by
 obtain⟨d,pl⟩:=x;obtain⟨xs,k,_,_,_,hxl,hel⟩:=DataW.trod_struct LW h;obtain⟨f0,g0,t0,o0⟩:=kU oG (i:=0) rfl;obtain⟨f1,g1,t1,o1⟩:=kU oG (i:=1) rfl;obtain⟨f2,g2,t2,o2⟩:=kU oG (i:=2) rfl;obtain⟨f3,g3,t3,o3⟩:=kU oG (i:=3) rfl;obtain⟨f4,g4,t4,o4⟩:=kU oG (i:=4) rfl;rw[OX]at hxl
 match cs,hlen,xs,hxl with
 | [v0,v1,v2,v3,v4],_,[x0,x1,x2,x3,x4],_=>
  have e0:=hel 0 f0 g0;have e1:=hel 1 f1 g1;have e2:=hel 2 f2 g2;have e3:=hel 3 f3 g3;have e4:=hel 4 f4 g4;rw[t0,o0,cells3]at e0;rw[t1,o1,cells3]at e1;rw[t2,o2,cells3]at e2;rw[t3,o3,OW]at e3;rw[t4,o4,LP]at e4;obtain⟨a0,q0,_,_⟩:=DataW.trod_int Tryz.underlying3 e0;obtain⟨a1,q1,_,hw1⟩:=DataW.trod_int Tryz.underlying3 e1;obtain⟨a2,q2,_,_⟩:=DataW.trod_int Tryz.underlying3 e2;obtain⟨s3,q3,_,_⟩:=DataW.trod_string Tryz.underlying9 e3;obtain⟨K,ks,c,q4,hI,hKc⟩:=xW e4;simp at q0 q1 q2 q3 q4;exact⟨(⟨a0,a1,a2,s3,ks⟩:Tr.Nd),K,c,by rw[q0,q1,q2,q3,q4],hI,QZ hw1,hKc⟩
theorem Es {n:Nat}{cs:List Value}{x:DataW H × List MemPlace}(h:DataW.trod enc Tryz.prog W 0 (λ_=>true) true n 23 cs=some x):∃(A:Option Addr) (l:List Tr.Nd) (c:Nat),cs=[.slice A l.length c]/\Tr.eF W A l/\l.length<=c/\(∀x ∈ l,x.n<=9223372036854775807)/\o7 W A l:=by
 rcases open_slice Tryz.underlying23 h with⟨hcs,hx⟩ |⟨a,len,cap,m,n,D,Pl,hcs,_,hl,hm,hmm,hx,hcell⟩
 ·exact⟨none,[],0,hcs,λh=>by simp at h,by simp,(λx hx=>by cases hx),λp bA off K m c hp=>absurd hp (Nat.not_lt_zero _)⟩
 ·simp only[if_true]at hmm;subst hmm;have each:∀i,i<m->∃q:Tr.Nd,∃K c,(W.cell? ((a.add (i*5)).add 0)=some (.int .i64 q.kd)/\W.cell? ((a.add (i*5)).add 1)=some (.int .i64 q.n)/\W.cell? ((a.add (i*5)).add 2)=some (.int .i64 q.pl)/\W.cell? ((a.add (i*5)).add 3)=some (.string q.tx)/\W.cell? ((a.add (i*5)).add 4)=some (.slice K q.ks.length c))/\Tr.Ints W K q.ks/\q.n<=9223372036854775807/\q.ks.length<=c:=λi hi=>by
   obtain⟨cs',h1,h2⟩:=hcell i hi;rw[LU]at h1;obtain⟨_,hlen,hc⟩:=World.cells?_some h1;obtain⟨q,K,c,hq,hI⟩:=IV hlen h2;subst hq;exact⟨q,K,c,⟨hc 0 (by omega),hc 1 (by omega),hc 2 (by omega),hc 3 (by omega),hc 4 (by omega)⟩,hI⟩
  obtain⟨Q,hQ⟩:=C8 ⟨0,0,0,⟨#[]⟩,[]⟩ each;refine⟨some a,(List.range len).map Q,m,by rw[hcs];simp,λh0 =>?_,by simpa using hl,(λx hx=>by
   obtain⟨i,hi,rfl⟩:=List.mem_map.1 hx;obtain⟨_,_,_,_,h,_⟩:=hQ i (by have:=List.mem_range.1 hi;omega);exact h),λp bA off K m2 c2 hp hA hcl _ h2=>by
   have hp':p<len:=by simpa using hp
   obtain⟨K3,c3,⟨_,_,_,_,e4⟩,_,_,h5⟩:=hQ p (by omega);rw[Option.some.inj hA,mH,mH]at e4;have h6:=hcl.symm.trans e4;injection h6 with h6
   injection h6 with x1 x2 x3
   omega⟩
  have h0':0<m:=by simp at h0;omega
  obtain⟨b,off,spot⟩:=a;obtain⟨K0,c0,⟨h00,_⟩,_⟩:=hQ 0 h0';have hspot:spot=none:=by
   have:=World.cell?_spot h00;simpa [Addr.add]using this
  subst hspot;have eqs:∀i o,(((⟨b,off,none⟩:Addr).add (i*5)).add o)=⟨b,off+i*5+o,none⟩:=λi o=>by rw[mH,mH]
  refine⟨b,off,rfl,World.block_lt_of_cell? W _ (by rw[eqs]at h00;exact h00),λj hj =>?_⟩;have hj':j<len:=by simpa using hj
  obtain⟨K,c,⟨e0,e1,e2,e3,e4⟩,hI,_⟩:=hQ j (by omega);rw[eqs]at e0 e1 e2 e3 e4;simp only[List.getElem_map,List.getElem_range];exact⟨K,c,by simpa using e0,e1,e2,e3,e4,hI⟩
theorem IW {n:Nat}{cs:List Value}{x:DataW H × List MemPlace}(hlen:cs.length=2)(h:DataW.trod enc Tryz.prog W 0 (λ_=>true) true n 25 cs=some x) :
  ∃(A:Option Addr) (l:List Tr.Nd) (c:Nat) (r:Int),cs=[.slice A l.length c,.int .i64 r]/\Tr.eF W A l/\l.length<=c/\(∀x ∈ l,x.n<=9223372036854775807)/\o7 W A l:=by
 obtain⟨d,pl⟩:=x;obtain⟨xs,k,_,_,_,hxl,hel⟩:=DataW.trod_struct CZ h;obtain⟨f0,g0,t0,o0⟩:=kU Ab (i:=0) rfl;obtain⟨f1,g1,t1,o1⟩:=kU Ab (i:=1) rfl;rw[OY]at hxl
 match cs,hlen,xs,hxl with
 | [v0,v1],_,[x0,x1],_=>
  have e0:=hel 0 f0 g0;have e1:=hel 1 f1 g1;rw[t0,o0,LQ]at e0;rw[t1,o1,cells3]at e1;obtain⟨A,l,c,q0,hN,hc⟩:=Es e0;obtain⟨a1,q1,_,_⟩:=DataW.trod_int Tryz.underlying3 e1;simp at q0 q1;exact⟨A,l,c,a1,by rw[q0,q1],hN,hc⟩
theorem viewTr {base:Nat}{v:Value}{d:DataW H}{p:List MemPlace}(hv:Value.okWide Tryz.prog W .any base 25 v)(h:DataW.Trod enc Tryz.prog W 0 (λ_=>true) true 25 v d p) :
  ∃(A:Option Addr) (c:Nat) (l:List Tr.Nd) (r:Int),v=.agg #[.slice A l.length c,.int .i64 r]/\Tr.eF W A l/\l.length<=c/\(∀x ∈ l,x.n<=9223372036854775807)/\o7 W A l:=by
 obtain⟨cs,rfl,hsz⟩:=okWide_struct CZ hv;rw[LV]at hsz;obtain⟨fuel,hf⟩:=h;obtain⟨A,l,c,r,e,hN,hc⟩:=IW (cs:=cs.toList) (by simpa using hsz) (by simpa [Value.cells]using hf);exact⟨A,c,l,r,by rw[<- e],hN,hc⟩
end
end
end Vw
section
set_option maxHeartbeats 1500000
open Tr (Bx aa bt eF Ints dP aM bU iJ lJ dpt)
def IX (l:List Tr.Nd):Prop:=l.length<=400/\∀x ∈ l,x.ks.length<=400/\x.tx.size<=200
def C9 (l:List Tr.Nd)(w:World)(e:Ending)(w':World):Prop:=Below w.heap.size w w'/\∃b,e=.returned (.bool b)/\(b=true->IX l)
theorem Ac (A:Option Addr)(n c:Nat)(l:List Tr.Nd)(r:Int)(w:World)(hN:eF w A l)(hn:n=l.length):Calls Tryz.prog 20 #[.agg #[.slice A n c,.int .i64 r]] w (C9 l w):=by
 have hb0:=aa w (.cells #[.slice A n c,.int .i64 r] 25);have HNN:=hid (hN.below hb0);have HB:=hid hb0;have HN:=hid hn;clear hN hn hb0;by_cases h4:(400:Int)<(n:Int)
 ·have hd4:decide ((400:Int)<(n:Int))=true:=decide_eq_true h4;go_enter Tryz.func20,Tryz.ntmps20
  go_wp2
  go_ret
  exact⟨HB.out,false,rfl,λh=>by cases h⟩
 ·have hd4:decide ((400:Int)<(n:Int))=false:=decide_eq_false h4;go_enter Tryz.func20,Tryz.ntmps20
  go_wp2
  go_loop [3] (λi=>∃k:Nat,k<=n/\i=.int .i64 (k:Int)/\∀x ∈ l.take k,x.ks.length<=400/\x.tx.size<=200) (λi=>n-(intOf i).toNat)
  case atStart=>exact⟨0,Nat.zero_le _,rfl,λt ht=>by simp at ht⟩
  case round=>
   obtain⟨k,hk,rfl,hok2⟩:=hrel;have HOK2:=hid hok2;clear hok2;by_cases hkl:k<n
   ·have hkz:(k:Int)<(n:Int):=by omega
    have hkt:k<l.length:=by rw[<- HN.out];exact hkl
    obtain⟨bN,oN,rfl,hbN,hcN⟩:=HNN.out (by omega);obtain⟨K2,c2,_,_,_,c3,c4,_⟩:=hcN k hkt;have HXX:=hid (show l.take (k+1)=l.take k++[l[k]]from List.take_succ_eq_append_getElem hkt);clear hcN;generalize l[k]=x at *
    obtain⟨kd,nn,pl,tx,ks⟩:=x;dsimp only at c3 c4;generalize hq:ks.length=q at *
    have HQ:=hid hq;clear hq;by_cases h1:(400:Int)<(q:Int)
    ·have hd1:decide ((400:Int)<(q:Int))=true:=decide_eq_true h1;go_wp2
     go_ret
     exact⟨HB.out,false,rfl,λh=>by cases h⟩
    ·have hd1:decide ((400:Int)<(q:Int))=false:=decide_eq_false h1;by_cases h2:(200:Int)<(tx.size:Int)
     ·have hd2:decide ((200:Int)<(tx.size:Int))=true:=decide_eq_true h2;go_wp2
      go_ret
      exact⟨HB.out,false,rfl,λh=>by cases h⟩
     ·have hd2:decide ((200:Int)<(tx.size:Int))=false:=decide_eq_false h2;go_wp2
      go_round
      case rel=>
       refine⟨k+1,by omega,by go_num,?_⟩;rw[HXX.out];intro x hx;rcases List.mem_append.1 hx with hx |hx
       ·exact HOK2.out x hx
       ·simp at hx;subst hx;exact⟨by show ks.length<=400;rw[HQ.out];omega,by show tx.size<=200;omega⟩
      case measure=>simp[intOf];omega
   ·obtain rfl:k=n:=by omega
    have hkz:¬(k:Int)<(k:Int):=by omega
    go_wp2
    go_ret
    refine⟨HB.out,true,rfl,λ_=>⟨by rw[<- HN.out];omega,?_⟩⟩;have h5:=HOK2.out;rw[List.take_of_length_le (by rw[<- HN.out];omega)]at h5;exact h5
end
section
open Tr (Bx aa bt eF Ints dP aM bU iJ lJ dpt)
theorem OZ (a:List UInt8):(mK a).toList=a:=by rw[ByteArray.toList_eq,zD]
end
end Go.Proofs.YteecfjhjllajlaaGreatDoor
