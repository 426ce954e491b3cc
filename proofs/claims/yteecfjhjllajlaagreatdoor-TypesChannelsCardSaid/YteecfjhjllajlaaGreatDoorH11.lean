/- PROVED here: parts Xe Psh Xf Xg Xh Xi Xj Xk Xl Xm Xn Xo Xp Xq Xr Xs Ya Xt of the claim. No condition but those in each theorem's own head. -/
import Derived.Test.YteecfjhjllajlaaGreatDoorH05
import Derived.Test.YteecfjhjllajlaaGreatDoorH10
import Derived.Shelf.Small.Wraps
import Derived.Shelf.LaysM
import Derived.Shelf.Strconv.Itoa3
import Derived.Shelf.Strings.Repeat
import Derived.Test.YteecfjhjllajlaaGreatDoorProg
import Derived.Lib.AppendIntMem
import Derived.Laws.EntriesVeiled
import Derived.Lib.ItoaLen
namespace Go.Proofs.YteecfjhjllajlaaGreatDoor
section
open Go Go.RowKit
open Tr (Bx heap1 bt Nds Ints)
def SP (g2 g3:Nat)(PB NB:List Value)(bk ok:Nat)(k:Int)(w:World):Prop:=Bx w g2 73 PB∧Bx w g3 37 NB∧w.cell? ⟨bk,ok,none⟩=some (.int .i64 k)
theorem SP.kp {B b g2 g3 bk ok:Nat}{PB NB:List Value}{k:Int}{w w':World}(h:SP g2 g3 PB NB bk ok k w)(q:Kp B b w w')(h2:g2≠b)(h3:g3≠b)(hk:bk<B):SP g2 g3 PB NB bk ok k w':=
 ⟨Bx.kp h.1 q h2 (by decide),Bx.kp h.2.1 q h3 (by decide),(Below.cell q.1 (p:=⟨bk,ok,none⟩) hk).trans h.2.2⟩
end
end Go.Proofs.YteecfjhjllajlaaGreatDoor
namespace Go.Proofs
section
open Go.Shelf
end
end Go.Proofs
namespace Go.Proofs.YteecfjhjllajlaaGreatDoor
section
open Go Go.RowKit
open Tr (Bx heap1 bt Nds Ints)
theorem Pg.below {B b:Nat}{t:List UInt8}{w w':World}(h:Pg B b t w)(hb:Below w.heap.size w w'):Pg B b t w':=by
 have aux:∀p,Lib.BuilderAtF 118 5 B b p (Lib.byteCells t) w→Lib.BuilderAtF 118 5 B b p (Lib.byteCells t) w':=fun p q=>by
  have hlt:=at_size q
  obtain⟨hB,v,hv,hown,hne⟩:=q
  exact⟨hB,v,(hb.block b hlt).trans hv,hown.kept (row:=none) ⟨hb.os,hb.tape,hb.output,hb.size,fun k hk _=>hb.block k hk⟩ (Classical.em _),hne⟩
 rcases h with h |h
 ·exact .inl (aux _ h)
 ·exact .inr (aux _ h)
theorem Kp.below {B b:Nat}{w w':World}(hB:B≤w.heap.size)(hb:Below w.heap.size w w'):Kp B b w w':=⟨hb.mono hB,fun k _ hk _ _=>(hb.block k (Array.getElem?_eq_some_iff.1 hk).1).trans hk⟩
def S2 (g2 g3:Nat)(PB NB:List Value)(w:World):Prop:=Bx w g2 73 PB∧Bx w g3 37 NB
theorem S2.kp {B b g2 g3:Nat}{PB NB:List Value}{w w':World}(h:S2 g2 g3 PB NB w)(q:Kp B b w w')(h2:g2≠b)(h3:g3≠b):S2 g2 g3 PB NB w':=⟨Bx.kp h.1 q h2 (by decide),Bx.kp h.2 q h3 (by decide)⟩
end
section
open Go Go.RowKit
open Tr (Bx heap1 bt Nds Ints)
end
section
open Go Go.RowKit
open Tr (Bx heap1 bt Nds Ints)
end
section
open Go Go.RowKit
open Tr (Bx heap1 bt Nds Ints)
end
section
open Go Go.RowKit
open Tr (Bx heap1 bt Nds Ints)
end
section
open Go Go.RowKit
open Tr (Bx heap1 bt Nds Ints)
end
section
open Go Go.RowKit
open Tr (Bx heap1 bt Nds Ints)
end
section
open Go Go.RowKit
open Tr (Bx heap1 bt Nds Ints)
end
section
open Go Go.RowKit
open Tr (Bx heap1 bt Nds Ints)
def SQ (g2 g3:Nat)(PB NB:List Value)(bk ok:Nat)(k:Int)(bA ot:Nat)(tx2:ByteArray)(w:World):Prop:=Bx w g2 73 PB∧Bx w g3 37 NB∧w.cell? ⟨bk,ok,none⟩=some (.int .i64 k)∧w.cell? ⟨bA,ot,none⟩=some (.string tx2)
theorem SQ.kp {B b g2 g3 bk ok bA ot:Nat}{PB NB:List Value}{k:Int}{tx2:ByteArray}{w w':World}(h:SQ g2 g3 PB NB bk ok k bA ot tx2 w)(q:Kp B b w w')(h2:g2≠b)(h3:g3≠b)(hk:bk<B)(hA:bA<B):SQ g2 g3 PB NB bk ok k bA ot tx2 w':=
 ⟨Bx.kp h.1 q h2 (by decide),Bx.kp h.2.1 q h3 (by decide),(Below.cell q.1 (p:=⟨bk,ok,none⟩) hk).trans h.2.2.1,(Below.cell q.1 (p:=⟨bA,ot,none⟩) hA).trans h.2.2.2⟩
end
section
open Go Go.RowKit
open Tr (Bx heap1 bt Nds Ints)
end
section
open Go Go.RowKit
open Tr (Bx heap1 bt Nds Ints)
theorem run_slice35 (b off n c:Nat)(h1:1≤n)(w:World):(Instr.sliceAt 35 (.slice (some ⟨b,off,none⟩) n c) (some (.int .i64 1)) none none).run Tryz.prog w = .ok (.slice (some ⟨b,if c=1 then off else off+1,none⟩) (n-1) (c-1)) w:=by
 have h:(1:Int)≤(n:Int):=by omega
 simp[go_sem,Tryz.underlying35,h]
 split<;>rfl
section
variable {a:Act} {o:Oper} {S:World→Prop}
theorem y_slice1 {x:Operand}{u r:Value}(ho:o.op = .slice 35 x (some (.const (.int .i64 1))) none none)(hx:a.eval x=u)(hr:∀w,(Instr.sliceAt 35 u (some (.int .i64 1)) none none).run Tryz.prog w = .ok r w):∀w,S w→(execOp a.eval o).run Tryz.prog w = .ok (.value r) w:=fun w _=>by
 have hc:a.eval (.const (.int .i64 1)) = .int .i64 1:=rfl
 unfold execOp
 simp only[ho,hx,hc,Option.map_some,Option.map_none,Sem.run_bind,hr w,Sem.run_pure,Result.andThen_ok]
end
end
section
open Go Go.RowKit
open Tr (Bx heap1 bt Nds Ints)
def Caps (w0:World)(A:Option Addr)(l:List Tr.Nd):Prop:=∀(p:Nat) (bA off:Nat) (K:Option Addr) (m c:Nat),p<l.length→A=some ⟨bA,off,none⟩→w0.cell? ⟨bA,off+p*5+4,none⟩=some (.slice K m c)→(ndA l p).kd=13→2≤m→c≠1
end
section
open Go Go.RowKit
open Tr (Nds)
def LnOk (l:List Tr.Nd)(n f p:Nat):Prop:=
 (((ndA l p).kd=7∨(ndA l p).kd=11∨(ndA l p).kd=12∨(ndA l p).kd=15∨(ndA l p).kd=17)∧∃k:Nat,(ndA l p).ks[0]?=some (k:Int)∧k<f∧k<n∧Tr.expB (ndA l k).kd=true) ∨
 ((ndA l p).kd=8∧∃k j:Nat,(ndA l p).ks=[(k:Int),(j:Int)]∧(k<f∧k<n∧Tr.expB (ndA l k).kd=true)∧j<f∧j<n∧Tr.expB (ndA l j).kd=true) ∨
 ((ndA l p).kd=9∧∃k:Nat,(ndA l p).ks[0]?=some (k:Int)∧k<n) ∨
 ((ndA l p).kd=10∧∃k j:Nat,(ndA l p).ks=[(k:Int),(j:Int)]∧k<n∧j<f∧j<n∧Tr.expB (ndA l j).kd=true) ∨
 ((ndA l p).kd=13∧∃(k:Nat) (ks:List Int),(ndA l p).ks=(k:Int) :: ks∧ks.length+1≤100000∧k<n∧∀x ∈ ks,∃x2:Nat,x=(x2:Int)∧x2<f∧x2<n∧Tr.expB (ndA l x2).kd=true) ∨
 ((ndA l p).kd=14∧(ndA l p).ks.length≤100000∧∀k ∈ (ndA l p).ks,∃k2:Nat,k=(k2:Int)∧k2<f∧k2<n∧Tr.expB (ndA l k2).kd=true) ∨
 (ndA l p).kd=16
end
section
open Go Go.RowKit
open Tr (Bx heap1 bt Nds Ints)
def S3 (g:Nat)(P1 P2:List Value)(w:World):Prop:=Bx w g 73 P1∧Bx w (g+1) 73 P2
theorem S3.kp {B b g:Nat}{P1 P2:List Value}{w w':World}(h:S3 g P1 P2 w)(q:Kp B b w w')(h2:g≠b)(h3:g+1≠b):S3 g P1 P2 w':=⟨Bx.kp h.1 q h2 (by decide),Bx.kp h.2 q h3 (by decide)⟩
end
section
section
open Go
open Tr (nth stmB expB allB kidB ndB shB risB run1 ri1 ri2 numB txB idB sgB)
theorem shB_at {l:List Tr.Nd}(h:shB l=true){p:Nat}(hp:p<l.length):ndB l (ndA l p)=true:=by
 rw[ndA_eq hp];exact List.all_eq_true.1 h _ (List.getElem_mem hp)
def kdsA (l:List Tr.Nd)(p:Int):List Int:=(ndA l p).ks.map fun k=>(ndA l k).kd
structure NdOk (l:List Tr.Nd) (p:Nat):Prop where
 lo:1≤(ndA l p).kd
 hi:(ndA l p).kd≤27
 tx:txB (ndA l p).kd (txA l p)=true
 num:numB (ndA l p).kd (ndA l p).n=true
 kid:kidB (ndA l p).kd (kdsA l p)=true
theorem nd_ok {l:List Tr.Nd}(h:shB l=true){p:Nat}(hp:p<l.length):NdOk l p:=by
 have h1:=shB_at h hp
 unfold ndB at h1
 simp only[Bool.and_eq_true,decide_eq_true_eq]at h1
 obtain⟨a,b,c,d,e⟩:=h1
 exact⟨a,b,c,d,e⟩
theorem kids_nat {l:List Tr.Nd}(hA:Ahead l){p:Nat}(hp:p<l.length):∀k ∈ (ndA l p).ks,∃k2:Nat,k=(k2:Int)∧k2<p:=fun k hk=>by
 rw[ndA_eq hp]at hk
 obtain⟨h1,h2⟩:=hA p hp k hk
 exact⟨k.toNat,by omega,by omega⟩
theorem len_one {α:Type}{ks:List α}(h:ks.length=1):∃a,ks=[a]:=by
 rcases ks with _ |⟨a,_ |⟨b,r⟩⟩
 ·cases h
 ·exact⟨a,rfl⟩
 ·simp at h
theorem len_two {α:Type}{ks:List α}(h:ks.length=2):∃a b,ks=[a,b]:=by
 rcases ks with _ |⟨a,_ |⟨b,_ |⟨c,r⟩⟩⟩
 ·cases h
 ·simp at h
 ·exact⟨a,b,rfl⟩
 ·simp at h
theorem len_three {α:Type}{ks:List α}(h:ks.length=3):∃a b c,ks=[a,b,c]:=by
 rcases ks with _ |⟨a,_ |⟨b,_ |⟨c,_ |⟨d,r⟩⟩⟩⟩
 ·cases h
 ·simp at h
 ·simp at h
 ·exact⟨a,b,c,rfl⟩
 ·simp at h
theorem kdsA_len (l:List Tr.Nd)(p:Int):(kdsA l p).length=(ndA l p).ks.length:=List.length_map ..
theorem one_kid {l:List Tr.Nd}(hA:Ahead l){p:Nat}(hp:p<l.length)(h:(kdsA l p).length=1):∃k:Nat,(ndA l p).ks=[(k:Int)]∧k<p∧kdsA l p=[(ndA l k).kd]:=by
 rw[kdsA_len]at h
 obtain⟨a,e⟩:=len_one h
 obtain⟨k,rfl,hk⟩:=kids_nat hA hp a (by rw[e];simp)
 exact⟨k,e,hk,by unfold kdsA;rw[e];rfl⟩
theorem two_kids {l:List Tr.Nd}(hA:Ahead l){p:Nat}(hp:p<l.length)(h:(kdsA l p).length=2):∃k j:Nat,(ndA l p).ks=[(k:Int),(j:Int)]∧k<p∧j<p∧kdsA l p=[(ndA l k).kd,(ndA l j).kd]:=by
 rw[kdsA_len]at h
 obtain⟨a,b,e⟩:=len_two h
 obtain⟨k,rfl,hk⟩:=kids_nat hA hp a (by rw[e];simp)
 obtain⟨j,rfl,hj⟩:=kids_nat hA hp b (by rw[e];simp)
 exact⟨k,j,e,hk,hj,by unfold kdsA;rw[e];rfl⟩
theorem three_kids {l:List Tr.Nd}(hA:Ahead l){p:Nat}(hp:p<l.length)(h:(kdsA l p).length=3):∃k j i:Nat,(ndA l p).ks=[(k:Int),(j:Int),(i:Int)]∧k<p∧j<p∧i<p∧kdsA l p=[(ndA l k).kd,(ndA l j).kd,(ndA l i).kd]:=by
 rw[kdsA_len]at h
 obtain⟨a,b,c,e⟩:=len_three h
 obtain⟨k,rfl,hk⟩:=kids_nat hA hp a (by rw[e];simp)
 obtain⟨j,rfl,hj⟩:=kids_nat hA hp b (by rw[e];simp)
 obtain⟨i,rfl,hi⟩:=kids_nat hA hp c (by rw[e];simp)
 exact⟨k,j,i,e,hk,hj,hi,by unfold kdsA;rw[e];rfl⟩
theorem kds_mem {l:List Tr.Nd}{p k:Int}(hk:k ∈ (ndA l p).ks):(ndA l k).kd ∈ kdsA l p:=List.mem_map.2 ⟨k,hk,rfl⟩
theorem run1_take (a:Int):∀(l:List Int),∀x ∈ l.take (run1 a l),x=a
 | [],x,h=>by cases h
 |y :: l,x,h=>by
  unfold run1 at h
  split at h
  case isTrue e=>
   rw[List.take_succ_cons]at h
   rcases List.mem_cons.1 h with rfl |h
   ·exact e
   ·exact run1_take a l x h
  case isFalse=>rw[List.take_zero]at h;cases h
theorem ri2_take (l:List Int)(a b:Int):∀x ∈ l.take (ri2 l a b),x=a∨x=b:=fun x h=>by
 unfold ri2 at h
 rw[List.take_add]at h
 rcases List.mem_append.1 h with h |h
 ·exact Or.inl (run1_take a l x h)
 ·exact Or.inr (run1_take b _ x h)
theorem ris_all {l:List Int}{a b:Int}(h:risB l a b 0=true):∀x ∈ l,x=a∨x=b:=fun x hx=>by
 unfold risB at h
 rw[if_pos rfl,decide_eq_true_eq]at h
 have:=ri2_take l a b x
 rw[h,List.take_length]at this
 exact this hx
theorem ris_last {l:List Int}{a b c:Int}(hc:c≠0)(h:risB l a b c=true):∃l',l=l'++[c]∧∀x ∈ l',x=a∨x=b:=by
 unfold risB at h
 rw[if_neg hc]at h
 simp only[Bool.and_eq_true,decide_eq_true_eq]at h
 obtain⟨h1,h2⟩:=h
 refine⟨l.take (ri2 l a b),?_,ri2_take l a b⟩
 have hi:ri2 l a b<l.length:=by omega
 have e:l.take (ri2 l a b+1)=l.take (ri2 l a b)++[l[ri2 l a b]]:=List.take_succ_eq_append_getElem hi
 rw[List.getD_eq_getElem?_getD,List.getElem?_eq_getElem hi]at h2
 rw[h1,List.take_length]at e
 rw[show l[ri2 l a b]=c from h2]at e
 exact e
theorem all_exp {l:List Int}(h:allB l=true):∀x ∈ l,expB x=true:=List.all_eq_true.1 h
structure ShOk (l:List Tr.Nd):Prop where
 ex:ExN l
 few:∀p:Nat,p<l.length→(ndA l p).ks.length≤4000
 ln:∀p:Nat,p<l.length→stmB (ndA l p).kd=true→LnOk l l.length l.length p
 kif:∀p:Nat,p<l.length→(ndA l p).kd=11→∃a b c:Nat,(ndA l p).ks=[(a:Int),(b:Int),(c:Int)]∧b<p∧c<p∧(ndA l b).kd=6∧(ndA l c).kd=6
 wh:∀p:Nat,p<l.length→(ndA l p).kd=12→∃a b:Nat,(ndA l p).ks=[(a:Int),(b:Int)]∧b<p∧(ndA l b).kd=6
 tr:∀p:Nat,p<l.length→(ndA l p).kd=16→∃a b:Nat,(ndA l p).ks=[(a:Int),(b:Int)]∧a<p∧b<p∧(ndA l a).kd=6∧(ndA l b).kd=6
 bl:∀p:Nat,p<l.length→(ndA l p).kd=6→∀k ∈ (ndA l p).ks,∃k2:Nat,k=(k2:Int)∧k2<p∧stmB (ndA l k2).kd=true
 pr:∀p:Nat,p<l.length→(ndA l p).kd=3→∃(ks:List Int) (b:Nat),(ndA l p).ks=ks++[(b:Int)]∧b<p∧(ndA l b).kd=6∧∀k ∈ ks,∃k2:Nat,k=(k2:Int)∧k2<p∧((ndA l k2).kd=4∨(ndA l k2).kd=5)
 pg:∀p:Nat,p<l.length→(ndA l p).kd=1→∀k ∈ (ndA l p).ks,∃k2:Nat,k=(k2:Int)∧k2<p∧((ndA l k2).kd=2∨(ndA l k2).kd=3)
theorem stm_kinds {k:Int}(h:stmB k=true):k=7∨k=8∨k=9∨k=10∨k=11∨k=12∨k=13∨k=14∨k=15∨k=16∨k=17:=by
 unfold stmB at h
 simp only[Bool.and_eq_true,decide_eq_true_eq]at h
 omega
theorem exn_of {l:List Tr.Nd}(hA:Ahead l)(h:shB l=true)(hm:∀x ∈ l,x.n≤9223372036854775807):ExN l where
 one p hp hk:=by
  have h1:=(nd_ok h hp).kid
  have h2:(kdsA l p).length=1∧allB (kdsA l p)=true:=by
   rcases hk with hk |hk<;>· rw[hk]at h1;simpa [kidB]using h1
  obtain⟨k,e,hlt,e2⟩:=one_kid hA hp h2.1
  exact⟨k,e,hlt,all_exp h2.2 _ (by rw[e2];simp)⟩
 two p hp hk:=by
  have h1:=(nd_ok h hp).kid
  rw[hk]at h1
  have h2:(kdsA l p).length=2∧allB (kdsA l p)=true:=by simpa [kidB]using h1
  obtain⟨k,j,e,hlt,hlt2,e2⟩:=two_kids hA hp h2.1
  exact⟨k,j,e,hlt,hlt2,all_exp h2.2 _ (by rw[e2];simp),all_exp h2.2 _ (by rw[e2];simp)⟩
 num p hp hk:=by
  have h1:=(nd_ok h hp).num
  rw[hk]at h1
  refine⟨by simpa [numB]using h1,?_⟩
  rw[ndA_eq hp]
  exact hm _ (List.getElem_mem hp)
theorem sh_ok {l:List Tr.Nd}(hA:Ahead l)(h:shB l=true)(hm:∀x ∈ l,x.n≤9223372036854775807)(hf:∀x ∈ l,x.ks.length≤4000):ShOk l where
 ex:=exn_of hA h hm
 few p hp:=by rw[ndA_eq hp];exact hf _ (List.getElem_mem hp)
 ln p hp hk:=by
  have h1:=(nd_ok h hp).kid
  have hfew:(ndA l p).ks.length≤4000:=by rw[ndA_eq hp];exact hf _ (List.getElem_mem hp)
  rcases stm_kinds hk with e |e |e |e |e |e |e |e |e |e |e<;>rw[e]at h1<;>simp[kidB]at h1
  ·obtain⟨k,e1,hlt,e2⟩:=one_kid hA hp h1.1
   exact Or.inl ⟨Or.inl e,k,by rw[e1];rfl,by omega,by omega,all_exp h1.2 _ (by rw[e2];simp)⟩
  ·obtain⟨k,j,e1,hlt,hlt2,e2⟩:=two_kids hA hp h1.1
   exact Or.inr (Or.inl ⟨e,k,j,e1,⟨by omega,by omega,all_exp h1.2 _ (by rw[e2];simp)⟩,by omega,by omega,all_exp h1.2 _ (by rw[e2];simp)⟩)
  ·obtain⟨k,e1,hlt,e2⟩:=one_kid hA hp h1.1
   exact Or.inr (Or.inr (Or.inl ⟨e,k,by rw[e1];rfl,by omega⟩))
  ·obtain⟨k,j,e1,hlt,hlt2,e2⟩:=two_kids hA hp h1.1.1
   rw[e2]at h1
   exact Or.inr (Or.inr (Or.inr (Or.inl ⟨e,k,j,e1,by omega,by omega,by omega,h1.2⟩)))
  ·obtain⟨k,j,i,e1,hlt,hlt2,hlt3,e2⟩:=three_kids hA hp h1.1.1.1
   rw[e2]at h1
   exact Or.inl ⟨Or.inr (Or.inl e),k,by rw[e1];rfl,by omega,by omega,h1.1.1.2⟩
  ·obtain⟨k,j,e1,hlt,hlt2,e2⟩:=two_kids hA hp h1.1.1
   rw[e2]at h1
   exact Or.inl ⟨Or.inr (Or.inr (Or.inl e)),k,by rw[e1];rfl,by omega,by omega,h1.1.2⟩
  ·have e3:=kdsA_len l p
   rcases hks:(ndA l p).ks with _ |⟨a,ks⟩
   ·rw[hks]at e3;have h2:=h1.1.1;rw[e3]at h2;simp at h2
   ·obtain⟨k,rfl,hlt⟩:=kids_nat hA hp a (by rw[hks];simp)
    refine Or.inr (Or.inr (Or.inr (Or.inr (Or.inl ⟨e,k,ks,hks,?_,by omega,fun x hx =>?_⟩))))
    ·rw[hks]at hfew;simp only[List.length_cons]at hfew;omega
    ·obtain⟨x2,rfl,hx2⟩:=kids_nat hA hp x (by rw[hks];exact List.mem_cons_of_mem _ hx)
     refine⟨x2,rfl,by omega,by omega,all_exp h1.2 _ ?_⟩
     unfold kdsA
     rw[hks,List.map_cons]
     exact List.mem_map.2 ⟨_,hx,rfl⟩
  ·refine Or.inr (Or.inr (Or.inr (Or.inr (Or.inr (Or.inl ⟨e,by omega,fun x hx =>?_⟩)))))
   obtain⟨x2,rfl,hx2⟩:=kids_nat hA hp x hx
   exact⟨x2,rfl,by omega,by omega,all_exp h1.2 _ (kds_mem hx)⟩
  ·obtain⟨k,e1,hlt,e2⟩:=one_kid hA hp h1.1
   exact Or.inl ⟨Or.inr (Or.inr (Or.inr (Or.inl e))),k,by rw[e1];rfl,by omega,by omega,all_exp h1.2 _ (by rw[e2];simp)⟩
  ·exact Or.inr (Or.inr (Or.inr (Or.inr (Or.inr (Or.inr e)))))
  ·obtain⟨k,e1,hlt,e2⟩:=one_kid hA hp h1.1
   exact Or.inl ⟨Or.inr (Or.inr (Or.inr (Or.inr e))),k,by rw[e1];rfl,by omega,by omega,all_exp h1.2 _ (by rw[e2];simp)⟩
 kif p hp e:=by
  have h1:=(nd_ok h hp).kid
  rw[e]at h1
  simp[kidB]at h1
  obtain⟨k,j,i,e1,hlt,hlt2,hlt3,e2⟩:=three_kids hA hp h1.1.1.1
  rw[e2]at h1
  exact⟨k,j,i,e1,hlt2,hlt3,h1.1.2,h1.2⟩
 wh p hp e:=by
  have h1:=(nd_ok h hp).kid
  rw[e]at h1
  simp[kidB]at h1
  obtain⟨k,j,e1,hlt,hlt2,e2⟩:=two_kids hA hp h1.1.1
  rw[e2]at h1
  exact⟨k,j,e1,hlt2,h1.2⟩
 tr p hp e:=by
  have h1:=(nd_ok h hp).kid
  rw[e]at h1
  simp[kidB]at h1
  obtain⟨k,j,e1,hlt,hlt2,e2⟩:=two_kids hA hp h1.1.1
  rw[e2]at h1
  exact⟨k,j,e1,hlt,hlt2,h1.1.2,h1.2⟩
 bl p hp e:=fun k hk=>by
  have h1:=(nd_ok h hp).kid
  rw[e]at h1
  simp only[kidB]at h1
  obtain⟨k2,rfl,hlt⟩:=kids_nat hA hp k hk
  exact⟨k2,rfl,hlt,List.all_eq_true.1 (show(kdsA l p).all stmB=true by simpa using h1) _ (kds_mem hk)⟩
 pr p hp e:=by
  have h1:=(nd_ok h hp).kid
  rw[e]at h1
  have h2:risB (kdsA l p) 4 5 6=true:=by simpa [kidB]using h1
  obtain⟨l',e1,e2⟩:=ris_last (by decide) h2
  have e3:(ndA l p).ks≠[]:=fun h0=>by unfold kdsA at e1;rw[h0]at e1;simp at e1
  obtain⟨ks,b,hks⟩:∃ks b,(ndA l p).ks=ks++[b]:=⟨_,_,(List.dropLast_concat_getLast e3).symm⟩
  have e4:kdsA l p=(ks.map fun k=>(ndA l k).kd)++[(ndA l b).kd]:=by unfold kdsA;rw[hks,List.map_append];rfl
  rw[e4]at e1
  obtain⟨e5,e6⟩:=List.append_inj' e1 rfl
  obtain⟨b2,rfl,hb⟩:=kids_nat hA hp b (by rw[hks];simp)
  refine⟨ks,b2,hks,hb,by simpa using e6,fun k hk =>?_⟩
  obtain⟨k2,rfl,hlt⟩:=kids_nat hA hp k (by rw[hks];exact List.mem_append_left _ hk)
  exact⟨k2,rfl,hlt,e2 _ (by rw[← e5];exact List.mem_map.2 ⟨_,hk,rfl⟩)⟩
 pg p hp e:=fun k hk=>by
  have h1:=(nd_ok h hp).kid
  rw[e]at h1
  have h2:risB (kdsA l p) 2 3 0=true:=by simpa [kidB]using h1
  obtain⟨k2,rfl,hlt⟩:=kids_nat hA hp k hk
  exact⟨k2,rfl,hlt,ris_all h2 _ (kds_mem hk)⟩
end
section
open Go
open Tr (nth stmB expB allB kidB ndB shB risB numB txB idB sgB)
structure Szd (l:List Tr.Nd) (S:Int→Nat):Prop where
 eq:∀p:Nat,p<l.length→S p=1+((ndA l p).ks.map S).sum
 top:∀p:Nat,p<l.length→S p≤4000
theorem kidA_0 {l:List Tr.Nd}{p a:Int}{ks:List Int}(h:(ndA l p).ks=a :: ks):kidA l p 0=a:=by unfold kidA;rw[h];rfl
open Tr (StU stK kidsAt) in
theorem kidsAt_ks {l:List Tr.Nd}{p:Nat}(hp:p<l.length):kidsAt l p=(ndA l p).ks:=by
 unfold kidsAt;rw[ndA_eq hp];simp[List.getD,hp]
open Tr (StU stK kidsAt) in
theorem ahead_of {l:List Tr.Nd}{b:Nat→Nat}(hS:StU l b l.length)(hb:∀q,q<l.length→b q≤q):Ahead l:=fun i hi k hk=>by
 have h1:=hS i hi
 rw[kidsAt_ks hi,ndA_eq hi]at h1
 obtain⟨m,e,h2,_⟩:=Tr.stK_mem _ i (b i) (fun q hq=>hb q (by omega)) h1 k (List.mem_reverse.2 hk)
 omega
end
section
open Go
open Tr (nth stmB expB allB kidB ndB shB)
structure MvR (la l':List Tr.Nd) (off:Nat):Prop where
 kd:∀i:Nat,i<la.length→(ndA l' ((i+off:Nat):Int)).kd=(ndA la i).kd
 n:∀i:Nat,i<la.length→(ndA l' ((i+off:Nat):Int)).n=(ndA la i).n
 tx:∀i:Nat,i<la.length→(ndA l' ((i+off:Nat):Int)).tx=(ndA la i).tx
 ks:∀i:Nat,i<la.length→(ndA l' ((i+off:Nat):Int)).ks=(ndA la i).ks.map fun k=>k+(off:Int)
end
end
section
open Go Go.RowKit
open Tr (Bx heap1 bt Nds Ints)
def SI (g:Nat)(PB NB:List Value)(bk ok:Nat)(ks:List Int)(w:World):Prop:=Bx w g 73 PB∧Bx w (g+1) 37 NB∧∀j (hj:j<ks.length),w.cell? ⟨bk,ok+j,none⟩=some (.int .i64 ks[j])
theorem SI.kp {B b g bk ok:Nat}{PB NB:List Value}{ks:List Int}{w w':World}(h:SI g PB NB bk ok ks w)(q:Kp B b w w')(h2:g≠b)(h3:g+1≠b)(hk:bk<B):SI g PB NB bk ok ks w':=
 ⟨Bx.kp h.1 q h2 (by decide),Bx.kp h.2.1 q h3 (by decide),fun j hj=>(Below.cell q.1 (p:=⟨bk,ok+j,none⟩) hk).trans (h.2.2 j hj)⟩
def SJ (g:Nat)(PB NB:List Value)(bk ok:Nat)(ks:List Int)(bA oc:Nat)(v:Value)(w:World):Prop:=SI g PB NB bk ok ks w∧w.cell? ⟨bA,oc,none⟩=some v
theorem SJ.kp {B b g bk ok bA oc:Nat}{PB NB:List Value}{ks:List Int}{v:Value}{w w':World}(h:SJ g PB NB bk ok ks bA oc v w)(q:Kp B b w w')(h2:g≠b)(h3:g+1≠b)(hk:bk<B)(hA:bA<B):SJ g PB NB bk ok ks bA oc v w':=
 ⟨h.1.kp q h2 h3 hk,(Below.cell q.1 (p:=⟨bA,oc,none⟩) hA).trans h.2⟩
end
end Go.Proofs.YteecfjhjllajlaaGreatDoor
