/- PROVED here: parts N27 N28 of the claim. No condition but those in each theorem's own head. -/
import Derived.Test.YtedkgofehbecmaaGreatDoorU01
import Derived.Maps.OwnSet
import Derived.Maps.Keyed
import Derived.DeepKeys4
import Derived.Test.YtedkgofehbecmaaGreatDoorU03
import Derived.Test.YtedkgofehbecmaaGreatDoorU10
import Derived.RangeFuncNested
import Derived.Test.YtedkgofehbecmaaGreatDoorU04
import Derived.Test.YtedkgofehbecmaaGreatDoorU19
import Derived.Test.YtedkgofehbecmaaGreatDoorU17
import Derived.Lib.Join
import Derived.BigQuiet
namespace Go.Proofs.YtedkgofehbecmaaGreatDoor
open Go.Lib (hid)
open Go Go.RowKit Go.Maps
theorem keyS:Keyed Tryz.prog 9:=string_keyed Tryz.underlying9
theorem row137:(129:TypeId)<Tryz.prog.types.size:=of_decide_eq_true (by kernel_rfl)
theorem wide137:(match Tryz.prog.underlying 129 with|some (.array _ _) |some (.struct _)=>true |_=>false)=true:=by kernel_rfl
theorem kt137:Tryz.prog.keyTypeAt 2 129=true:=by kernel_rfl
set_option maxRecDepth 100000 in
theorem keyC:Keyed Tryz.prog 129:=Keyed.of_law (deep_law_laid laidOut (m:=2) (by omega) row137 kt137 wide137)
theorem keyOfS (s:ByteArray)(h:s.size<=281474976710656):keyOf Tryz.prog 9 (.string s)=some (.string s.data.toList):=by
 have h2:s.size<=maxLen:=by unfold maxLen;omega
 unfold keyOf mapKey
 simp[Tryz.underlying9,h2]
theorem type137:Tryz.prog.keyType 129=true:=by kernel_rfl
theorem cells137:Tryz.prog.cellsOf 129=2:=by kernel_rfl
theorem cells3:Tryz.prog.cellsOf 3=1:=by kernel_rfl
theorem cells9:Tryz.prog.cellsOf 9=1:=by kernel_rfl
theorem size258:Tryz.prog.types.size=278+1:=by kernel_rfl
set_option maxRecDepth 100000 in
theorem keyOfC (o:Int)(s:ByteArray)(ho:(Lit.int .i64 o).wf=true)(h:s.size<=281474976710656):∃kl,keyOf Tryz.prog 129 (.agg #[.int .i64 o,.string s])=some kl:=by
 have h2:s.size<=maxLen:=by unfold maxLen;omega
 have hf:Value.formed Tryz.prog 129 (.agg #[.int .i64 o,.string s])=true:=by simp[Value.formed,Tryz.underlying129,cells137]
 have k3:∀d,Tryz.prog.keyLits (d+1) 3 [.int .i64 o]=some [.int .i64 o]:=λd=>by simp[Program.keyLits,Tryz.underlying3,ho]
 have k9:∀d,Tryz.prog.keyLits (d+1) 9 [.string s]=some [.string s.data.toList]:=λd=>by simp[Program.keyLits,Tryz.underlying9,h2]
 have hl:∀d,Tryz.prog.keyLits (d+1+1) 129 [.int .i64 o,.string s]=some [.int .i64 o,.string s.data.toList]:=λd=>by
  unfold Program.keyLits
  rw[Tryz.underlying129]
  simp[cells137,cells3,cells9,k3,k9]
 refine⟨.string (keyBytes [.int .i64 o,.string s.data.toList]),?_⟩
 unfold keyOf
 rw[Tryz.underlying129]
 simp only[type137,hf,Bool.and_self,if_true,size258]
 have e:(Value.agg #[.int .i64 o,.string s]).cells.toList=[.int .i64 o,.string s]:=rfl
 rw[e,hl]
 rfl
theorem zero3m (w:World):(zeroValue 3).run Tryz.prog w = .ok (.int .i64 0) w:=by kernel_rfl
open Classical in
def MapIs (w:World)(k:TypeId)(b:Nat)(F:Value->Option Int)(n:Nat):Prop:=
 ∃D:DataW Unit,w.ownsMap Tryz.prog k (plainElem Tryz.prog 3) b n D/\∀key kl,keyOf Tryz.prog k key=some kl->Maps.has D kl=(F key).isSome/\D.atKey kl (.lit (.int .i64 0)) = .lit (.int .i64 ((F key).getD 0))
section
variable {w w':World} {k t:TypeId} {b n:Nat} {F:Value->Option Int}
theorem MapIs.made (w:World)(k:TypeId):MapIs (w.alloc (.map #[] 0)) k w.heap.size (λ_=>none) 0:=
 ⟨.map [],World.ownsMap_made _ _ _ _,λ_ _ _=>⟨rfl,rfl⟩⟩
theorem MapIs.lt (h:MapIs w k b F n):b<w.heap.size:=h.choose_spec.1.lt
theorem MapIs.kept {row:Option Nat}(h:MapIs w k b F n)(hg:w.grownBy w' row)(hne:some b≠row):MapIs w' k b F n:=by
 obtain⟨D,h1,h2⟩:=h
 exact⟨D,h1.kept hg hne,h2⟩
theorem MapIs.same (h:MapIs w k b F n)(hb:w'.heap[b]?=w.heap[b]?):MapIs w' k b F n:=by
 obtain⟨D,⟨es,clock,h1,h3⟩,h2⟩:=h
 exact⟨D,⟨es,clock,hb.trans h1,h3⟩,h2⟩
theorem MapIs.below {m:Nat}(h:MapIs w k b F n)(hb:Below m w w')(hl:b<m):MapIs w' k b F n:=h.same (hb.block b hl)
theorem MapIs.mono {m:Nat}(h:MapIs w k b F n)(hm:n<=m):MapIs w k b F m:=by
 obtain⟨D,h1,h2⟩:=h
 exact⟨D,h1.mono hm,h2⟩
theorem MapIs.congr {G:Value->Option Int}(h:MapIs w k b F n)(e:∀x kl,keyOf Tryz.prog k x=some kl->F x=G x):MapIs w k b G n:=by
 obtain⟨D,h1,h2⟩:=h
 exact⟨D,h1,λkey kl hk=>by rw[<- e key kl hk];exact h2 key kl hk⟩
theorem MapIs.look (h:MapIs w k b F n)(K:Keyed Tryz.prog k)(ht:Tryz.prog.underlying t=some (.map k 3)){key:Value}{kl:Lit}(hk:keyOf Tryz.prog k key=some kl) :
  (Instr.lookup t (.map (some b)) key true).run Tryz.prog w = .ok (.tuple #[.int .i64 ((F key).getD 0),.bool (F key).isSome]) w:=by
 obtain⟨D,h1,h2⟩:=h
 obtain⟨v,ps,hrun,hv⟩:=h1.look_ok K ht (zero3m w) (plainElem_int Tryz.underlying3 (by decide)) hk
 obtain⟨e1,e2⟩:=h2 key kl hk
 obtain⟨a,rfl,hz,_⟩:=plainElem_int_inv Tryz.underlying3 hv
 rw[hrun,e1]
 rw[e2]at hz
 simp only[Prod.mk.injEq,DataW.lit.injEq,Lit.int.injEq,true_and]at hz
 rw[hz.1]
theorem MapIs.look1 (h:MapIs w k b F n)(K:Keyed Tryz.prog k)(ht:Tryz.prog.underlying t=some (.map k 3)){key:Value}{kl:Lit}(hk:keyOf Tryz.prog k key=some kl) :
  (Instr.lookup t (.map (some b)) key false).run Tryz.prog w = .ok (.int .i64 ((F key).getD 0)) w:=by
 obtain⟨D,h1,h2⟩:=h
 obtain⟨c,hrun,hat,_⟩:=h1.lookup_int K ht Tryz.underlying3 (zero3m w) hk
 obtain⟨e1,e2⟩:=h2 key kl hk
 rw[e2]at hat
 simp only[DataW.lit.injEq,Lit.int.injEq,true_and]at hat
 rw[hrun,hat]
open Classical in
theorem MapIs.put (h:MapIs w k b F n)(K:Keyed Tryz.prog k)(ht:Tryz.prog.underlying t=some (.map k 3))(hn:n<100000){key:Value}{kl:Lit}(hk:keyOf Tryz.prog k key=some kl){v:Int}(hv:(Lit.int .i64 v).wf=true) :
  ∃w',(Instr.mapUpdate t (.map (some b)) key (.int .i64 v)).run Tryz.prog w = .ok () w'/\MapIs w' k b (λx=>if x=key then some v else F x) (n+1)/\w.grownBy w' (some b):=by
 obtain⟨D,h1,h2⟩:=h
 obtain⟨w',hrun,hown,hg⟩:=h1.update K ht (by unfold maxLen;omega) hk (plainElem_int Tryz.underlying3 hv)
 refine⟨w',hrun,⟨_,hown,λkey' kl' hk' =>?_⟩,hg⟩
 by_cases e:key'=key
 ·subst e
  obtain rfl:kl'=kl:=by rw[hk]at hk';exact(Option.some.inj hk').symm
  simp only[if_pos]
  exact⟨has_put_same h1.isMap (K.key hk) _,atKey_put_same h1.isMap (K.key hk) _ _⟩
 ·have hne:kl'≠kl:=λe2=>e (K.inj (e2▸hk') hk)
  simp only[if_neg e]
  rw[has_put_other hne,atKey_put_other hne]
  exact h2 key' kl' hk'
end
end Go.Proofs.YtedkgofehbecmaaGreatDoor
namespace Go.Proofs.YtedkgofehbecmaaGreatDoor.Tr
open Go.Lib (hid)
open Go Go.RowKit Go.Shelf
attribute [local go_sem] Oper.semAt_some
structure NV where
 kd:Int
 n:Int
 pl:Int
 tx:ByteArray
 K:Option Addr
 m:Nat
 c:Nat
def NV.no:NV:=⟨0,0,0,⟨#[]⟩,none,0,0⟩
def NV.v (x:NV):Value :=.agg #[.int .i64 x.kd,.int .i64 x.n,.int .i64 x.pl,.string x.tx,.slice x.K x.m x.c]
structure NV.In (x:NV) (w:World) (b i:Nat):Prop where
 c0:w.cell? ⟨b,i,none⟩=some (.int .i64 x.kd)
 c1:w.cell? ⟨b,i+1,none⟩=some (.int .i64 x.n)
 c2:w.cell? ⟨b,i+2,none⟩=some (.int .i64 x.pl)
 c3:w.cell? ⟨b,i+3,none⟩=some (.string x.tx)
 c4:w.cell? ⟨b,i+4,none⟩=some (.slice x.K x.m x.c)
theorem NV.In.below {x:NV}{w w':World}{b i n₀:Nat}(h:x.In w b i)(hb:Below n₀ w w')(hl:b<n₀):x.In w' b i:=
 ⟨(hb.cell (p:=⟨b,i,none⟩) hl).trans h.c0,(hb.cell (p:=⟨b,i+1,none⟩) hl).trans h.c1,(hb.cell (p:=⟨b,i+2,none⟩) hl).trans h.c2,(hb.cell (p:=⟨b,i+3,none⟩) hl).trans h.c3,(hb.cell (p:=⟨b,i+4,none⟩) hl).trans h.c4⟩
def seqF (n m:Nat):List (Fin n):=((List.finRange n).drop m).reverse
theorem seqF_step {n m:Nat}(h:m<n):seqF n m=seqF n (m+1)++[⟨m,h⟩]:=by
 unfold seqF
 rw[List.drop_eq_getElem_cons (by simpa using h),List.reverse_cons]
 simp
theorem seqF_end (n:Nat):seqF n n=[]:=by unfold seqF;simp
theorem seqF_len (n m:Nat):(seqF n m).length=n-m:=by unfold seqF;simp
set_option maxRecDepth 100000 in
set_option maxHeartbeats 1500000 in
theorem back1n_in (l Bs n₀:Nat)(A:Option Addr)(cap n:Nat)(nv:Nat->NV)(J Jx:List (Fin n)->World->Prop)
  (hY:∀(pre:List (Fin n)) (x:Fin n) W,J pre W->pre.length<n->YieldAt Fence.wide 1 Tryz.prog l #[.int .i64 ((x:Nat):Int),(nv x).v] W λe W'=>
   (e = .returned (.bool true)/\J (pre++[x]) W'/\KpB n₀ Bs W W')\/(e = .returned (.bool false)/\Jx (pre++[x]) W')) (hn4:n<=4000000)
  (W:World) (hBs:W.cell? ⟨Bs,0,none⟩=some (.slice A n cap)) (hA:∀j,j<n->∃b off,A=some ⟨b,off,none⟩/\b<n₀/\(nv j).In W b (off+j*5)) (h0:J [] W) :
  CallsIn Fence.wide 2 Tryz.prog 161 #[.func (.yield l) #[] #[],.pointer (some ⟨Bs,0,none⟩)] W λe W'=>(∃v,e = .returned v) /\
   ((∃ys,ys=seqF n 0/\J ys W')\/(∃pre,(∃k,k<=n/\pre=seqF n k)/\Jx pre W')):=by
 refine callsIn_of_wp Tryz.func161 rfl trivial ?_ rfl
 simp only[Tryz.ntmps161,List.size_toArray,List.length_cons,List.length_nil,Nat.reduceAdd,Nat.reduceSub,Array.replicate_succ,Array.replicate_zero,List.push_toArray,List.append_toArray,List.nil_append,List.cons_append]
 gi_wp2
 gi_loopw [3] (λi wr=>∃m:Nat,m<=n/\i = .int .i64 ((m:Int)-1)/\J (seqF n m) wr/\Below n₀ W wr/\wr.cell? ⟨Bs,0,none⟩=W.cell? ⟨Bs,0,none⟩)
  (λi _=>(intOf i+1).toNat)
 case atStart=>exact⟨n,Nat.le_refl _,by go_num,by rw[seqF_end];exact h0,Below.refl _ _,rfl⟩
 case round=>
  obtain⟨m,hm,rfl,hJs,hnx,hcB⟩:=hrel
  rw[hBs]at hcB
  cases m with
  |zero=>
   gi_wp2
   go_end0
   exact⟨⟨_,rfl⟩,.inl ⟨_,rfl,hJs⟩⟩
  |succ m=>
   rw[show(((m+1:Nat):Int)-1)=(m:Int)by omega]
   obtain⟨b,off,rfl,hb,hc⟩:=hA m (by omega)
   have hcx:=NV.In.below hc hnx hb
   have HU:=hid (seqF_step (n:=n) (m:=m) (by omega))
   obtain⟨fn,tmps,assign,body,hy,hR⟩:=hY _ ⟨m,by omega⟩ wr hJs (by rw[seqF_len];omega)
   dsimp only[NV.v]at hy
   generalize nv m=z at *
   obtain⟨z0,z1,z2,z3,z4,z5,z6⟩:=z
   obtain⟨y0,y1,y2,y3,y4⟩:=hcx
   dsimp only at y0 y1 y2 y3 y4
   have hm0:(0:Int)<=(m:Int):=by omega
   gi_wp2
   refine hR.mono ?_
   rintro e W3 (⟨rfl,hJ3,hk3⟩ |⟨rfl,hJx3⟩)
   ·have hcB3:W3.cell? ⟨Bs,0,none⟩=some (.slice (some ⟨b,off,none⟩) n cap):=(cell_same hk3.2 0).trans hcB
    gi_wp2
    go_roundw
    case rel=>exact⟨m,by omega,by go_num,by rw[HU.out];exact hJ3,hnx.trans hk3.1,hcB3.trans hBs.symm⟩
    case measure=>simp[intOf]
   ·gi_wp2
    refine bodyPost_ret (results_none rfl _ _ _) rfl ?_
    exact⟨⟨_,rfl⟩,.inr ⟨_,⟨m,by omega,HU.out.symm⟩,hJx3⟩⟩
set_option maxHeartbeats 1000000 in
theorem backn_in (A:Option Addr)(len cap:Nat)(w:World) :
  CallsIn Fence.wide 2 Tryz.prog 104 #[.slice A len cap] w λe w'=>e = .returned (.func (.func 161) #[] #[.pointer (some ⟨w.heap.size,0,none⟩)])/\w'=w.alloc (.cells #[.slice A len cap] 22):=by
 refine callsIn_of_wp Tryz.func104 rfl trivial ?_ rfl
 simp only[Tryz.ntmps104,List.size_toArray,List.length_cons,List.length_nil,Nat.reduceAdd,Nat.reduceSub,Array.replicate_succ,Array.replicate_zero,List.push_toArray,List.append_toArray,List.nil_append,List.cons_append]
 gi_wp2
 go_ret
 exact⟨rfl,rfl⟩
theorem backn_stops (Bs n₀:Nat)(A:Option Addr)(cap n:Nat)(nv:Nat->NV)(hn4:n<=4000000)(w:World)(hBs:Bs<w.heap.size)(hn₀:n₀<=w.heap.size)
  (hc:w.cell? ⟨Bs,0,none⟩=some (.slice A n cap)) (hA:∀j,j<n->∃b off,A=some ⟨b,off,none⟩/\b<n₀/\(nv j).In w b (off+j*5)) :
  SeqStopsK Fence.wide 2 Tryz.prog 161 #[.pointer (some ⟨Bs,0,none⟩)] (λx:Fin n => #[Value.int .i64 ((x:Nat):Int),(nv x).v]) (KpB n₀ Bs) (λys=>ys=seqF n 0)
   (λpre=>∃k,k<=n/\pre=seqF n k) n w:=λl J Jx W hW _ _ hY h0=>by
 have hc':=(hW.cell (p:=⟨Bs,0,none⟩) hBs).trans hc
 refine back1n_in l Bs n₀ A cap n nv J Jx hY hn4 W hc' (λj hj =>?_) h0
 obtain⟨b,off,e,hb,h⟩:=hA j hj
 exact⟨b,off,e,hb,h.below hW (show b<w.heap.size by omega)⟩
end Go.Proofs.YtedkgofehbecmaaGreatDoor.Tr
namespace Go.Proofs.YtedkgofehbecmaaGreatDoor
open Go.Lib (hid)
section
open Go
open Tr (nth stmB expB allB kidB ndB shB risB run1 ri1 ri2 numB txB idB sgB StU kidsAt Snd)
def fstA (P:Nat->Bool)(p n:Nat):Option Nat:=(List.range' p (n-p)).find? P
theorem fstA_step {P:Nat->Bool}{p n:Nat}(h:p<n):fstA P p n=if P p then some p else fstA P (p+1) n:=by
 unfold fstA
 rw[show n-p=(n-(p+1))+1 by omega,List.range'_succ,List.find?_cons]
 cases P p<;>rfl
theorem fstA_end {P:Nat->Bool}{p n:Nat}(h:n<=p):fstA P p n=none:=by
 unfold fstA
 rw[show n-p=0 by omega];rfl
theorem fstA_some {P:Nat->Bool}{p n q:Nat}(h:fstA P p n=some q):p<=q/\q<n/\P q=true/\∀j,p<=j->j<q->P j=false:=by
 unfold fstA at h
 rw[List.find?_eq_some_iff_append]at h
 obtain⟨h1,us,bs,h2,h3⟩:=h
 have hm:q ∈ List.range' p (n-p):=by rw[h2];simp
 rw[List.mem_range'_1]at hm
 refine⟨hm.1,by omega,h1,λj h4 h5 =>?_⟩
 have hj:j ∈ List.range' p (n-p):=List.mem_range'_1.2 ⟨h4,by omega⟩
 rw[h2]at hj
 have hs:(us++q :: bs).Pairwise (· < ·):=by rw[<- h2];exact List.pairwise_lt_range'
 rcases List.mem_append.1 hj with h6 |h6
 ·have:=h3 j h6
  simpa using this
 ·exfalso
  rcases List.mem_cons.1 h6 with e |h7
  ·omega
  ·have:=(List.pairwise_cons.1 (List.pairwise_append.1 hs).2.1).1 j h7
   omega
theorem fstA_none {P:Nat->Bool}{p n:Nat}(h:fstA P p n=none):∀j,p<=j->j<n->P j=false:=λj h1 h2=>by
 unfold fstA at h
 have:=List.find?_eq_none.1 h j (List.mem_range'_1.2 ⟨h1,by omega⟩)
 simpa using this
theorem fstA_is {P:Nat->Bool}{p n q:Nat}(h1:p<=q)(h2:q<n)(h3:P q=true)(h4:∀j,p<=j->j<q->P j=false):fstA P p n=some q:=by
 cases e:fstA P p n with
 |none=>have:=fstA_none e q h1 h2;rw[h3]at this;cases this
 |some r=>
  obtain⟨a,b,c,d⟩:=fstA_some e
  rcases Nat.lt_trichotomy q r with h |h |h
  ·have:=d q h1 h;rw[h3]at this;cases this
  ·rw[h]
  ·have:=h4 r a h;rw[c]at this;cases this
theorem fstA_mem {P:Nat->Bool}{p n q:Nat}(h1:p<=q)(h2:q<n)(h3:P q=true):∃r,fstA P p n=some r/\r<=q:=by
 cases e:fstA P p n with
 |none=>have:=fstA_none e q h1 h2;rw[h3]at this;cases this
 |some r=>
  obtain⟨a,b,c,d⟩:=fstA_some e
  refine⟨r,rfl,?_⟩
  rcases Nat.lt_or_ge q r with h |h
  ·have:=d q h1 h;rw[h3]at this;cases this
  ·exact h
section
variable (l:List Tr.Nd)
def decB (k:Int):Bool:=decide (k=2) || (decide (k=4) || decide (k=5))
def owL:List Tr.Nd->Nat->Int
 | [],_ => -1
 |x :: r,p=>if x.kd=2 then -1 else if x.kd=3 then (p:Int) else owL r (p+1)
def owA (p:Nat):Int:=owL (l.drop p) p
def dcB (o:Int)(nm:ByteArray)(q:Nat):Bool:=decB (ndA l q).kd&&(decide (owA l q=o)&&decide ((ndA l q).tx=nm))
def prB (nm:ByteArray)(q:Nat):Bool:=decide ((ndA l q).kd=3)&&decide ((ndA l q).tx=nm)
def dcF (o:Int)(nm:ByteArray)(p:Nat):Option Nat:=fstA (dcB l o nm) p l.length
def prF (nm:ByteArray)(p:Nat):Option Nat:=fstA (prB l nm) p l.length
def optZ (o:Option Nat):Int:=match o with|none => -1 |some q=>(q:Int)
def dnA (p:Nat)(nm:ByteArray):Option Nat:=if owA l p = -1 then none else (dcF l (owA l p) nm 0).or (dcF l (-1) nm 0)
def vrT (p:Nat):Int:=match dnA l p (ndA l p).tx with|none=>0 |some d=>(ndA l d).n
def sgnT (s:ByteArray):Int:=if s=⟨#[43]⟩\/s=⟨#[45]⟩\/s=⟨#[42]⟩\/s=⟨#[47]⟩\/s=⟨#[37]⟩ then 1 else 2
def typA (p:Nat):Int:=
 if (ndA l p).kd=20\/(ndA l p).kd=23\/(ndA l p).kd=24 then 1
 else if (ndA l p).kd=21 then 2
 else if (ndA l p).kd=22 then vrT l p
 else if (ndA l p).kd=25 then 4
 else if (ndA l p).kd=26\/(ndA l p).kd=27 then sgnT (ndA l p).tx
 else 0
def sgP (q:Int):List Int:=((ndA l q).ks.filter λk=>decide ((ndA l k).kd=4)).map λk=>(ndA l k).n
def plnB (q:Int):Bool:=decide (sgP l q=[1])&&decide ((ndA l q).n=1)
def takB (p:Nat):Bool:=
 if decB (ndA l p).kd then !decide (dcF l (owA l p) (ndA l p).tx 0=some p)
 else if (ndA l p).kd=3 then (dcF l (-1) (ndA l p).tx 0).isSome || !decide (prF l (ndA l p).tx 0=some p) else false
def calN (p:Nat):ByteArray:=(ndA l (kidA l p 0)).tx
def unkB (p:Nat):Bool:=
 if (ndA l p).kd=22\/(ndA l p).kd=23\/(ndA l p).kd=24\/(ndA l p).kd=7\/(ndA l p).kd=8\/(ndA l p).kd=17\/(ndA l p).kd=9\/(ndA l p).kd=16 then (dnA l p (ndA l p).tx).isNone
 else if (ndA l p).kd=25 then (prF l (ndA l p).tx 0).isNone
 else if (ndA l p).kd=13 then ((dnA l p (calN l p)).isNone&&(prF l (calN l p) 0).isNone) || (!decide ((ndA l p).tx=⟨#[]⟩)&&(dnA l p (ndA l p).tx).isNone)
 else false
def areB (ks:List Int)(t:Int):Bool:=ks.all λk=>decide (typA l k.toNat=t)
def fitB (p:Nat):Bool:=
 if (ndA l p).tx=⟨#[33]⟩\/(ndA l p).tx=⟨#[38,38]⟩\/(ndA l p).tx=⟨#[124,124]⟩ then areB l (ndA l p).ks 2
 else if (ndA l p).tx=⟨#[61,61]⟩\/(ndA l p).tx=⟨#[33,61]⟩ then areB l (ndA l p).ks 1 || areB l (ndA l p).ks 2
 else areB l (ndA l p).ks 1
def calS (p:Nat):(List Int × Int) × Bool:=
 match dnA l p (calN l p) with
 |none=>((sgP l (optZ (prF l (calN l p) 0)),(ndA l (optZ (prF l (calN l p) 0))).n),true)
 |some d=>(([1],1),decide ((ndA l d).n=4))
def fitC (p:Nat):Bool:=
 (calS l p).2&&(decide (((ndA l p).ks.tail.map λk=>typA l k.toNat)=(calS l p).1.1)&&(decide ((ndA l p).tx=⟨#[]⟩) || decide (vrT l p=(calS l p).1.2)))
def fitR (p:Nat):Bool:=
 if (ndA l p).ks=[]\/(ndA l (owA l p)).n=0 then decide ((ndA l p).ks=[])&&decide ((ndA l (owA l p)).n=0)
 else decide (typA l (kidA l p 0).toNat=(ndA l (owA l p)).n)
def misB (p:Nat):Bool:=
 if (ndA l p).kd=23\/(ndA l p).kd=24\/(ndA l p).kd=8\/(ndA l p).kd=17 then !decide (vrT l p=3) || !(areB l (ndA l p).ks 1)
 else if (ndA l p).kd=25 then !(plnB l (optZ (prF l (ndA l p).tx 0)))
 else if (ndA l p).kd=26\/(ndA l p).kd=27 then !(fitB l p)
 else if (ndA l p).kd=7 then !decide (vrT l p=typA l (kidA l p 0).toNat)
 else if (ndA l p).kd=9\/(ndA l p).kd=16 then !decide (vrT l p=1)
 else if (ndA l p).kd=10 then !decide (typA l (kidA l p 1).toNat=1)
 else if (ndA l p).kd=15 then !decide (typA l (kidA l p 0).toNat=1)
 else if (ndA l p).kd=11\/(ndA l p).kd=12 then !decide (typA l (kidA l p 0).toNat=2)
 else if (ndA l p).kd=13 then !(fitC l p)
 else if (ndA l p).kd=14 then !(fitR l p)
 else false
def fauA (p:Nat):Int:=if takB l p then 4 else if unkB l p then 3 else if misB l p then 5 else 0
def manB:Bool:=match prF l ⟨#[109,97,105,110]⟩ 0 with|none=>false |some q=>decide (sgP l q=[])&&decide ((ndA l q).n=0)
end
def chkA (l:List Tr.Nd)(r:Int):Int × Int:=
 match fstA (λp => !decide (fauA l p=0)) 0 l.length with
 |some p=>((p:Int),fauA l p)
 |none=>if manB l then (0,0) else (r,11)
theorem owA_end {l:List Tr.Nd}{p:Nat}(h:l.length<=p):owA l p = -1:=by
 unfold owA;rw[List.drop_eq_nil_of_le h];rfl
theorem owA_step {l:List Tr.Nd}{p:Nat}(h:p<l.length):owA l p=if (ndA l p).kd=2 then -1 else if (ndA l p).kd=3 then (p:Int) else owA l (p+1):=by
 unfold owA
 rw[List.drop_eq_getElem_cons h,ndA_eq h]
 rfl
theorem owA_lt {l:List Tr.Nd}:∀(k p:Nat),l.length-p=k->owA l p = -1\/∃q:Nat,owA l p=(q:Int)/\p<=q/\q<l.length/\(ndA l q).kd=3
 |0,p,h=>Or.inl (owA_end (l:=l) (by omega))
 |k+1,p,h=>by
  rw[owA_step (show p<l.length by omega)]
  by_cases h2:(ndA l p).kd=2
  ·rw[if_pos h2];exact Or.inl rfl
  rw[if_neg h2]
  by_cases h3:(ndA l p).kd=3
  ·rw[if_pos h3];exact Or.inr ⟨p,rfl,Nat.le_refl _,by omega,h3⟩
  rw[if_neg h3]
  rcases owA_lt (l:=l) k (p+1) (by omega)with h4 |⟨q,h4,h5,h6,h7⟩
  ·exact Or.inl h4
  ·exact Or.inr ⟨q,h4,by omega,h6,h7⟩
theorem owA_range (l:List Tr.Nd)(p:Nat):owA l p = -1\/∃q:Nat,owA l p=(q:Int)/\p<=q/\q<l.length/\(ndA l q).kd=3:=owA_lt _ p rfl
theorem owA_at {l:List Tr.Nd}{m:Nat}(hm:m<l.length)(h3:(ndA l m).kd=3):∀(k q:Nat),m-q=k->q<=m->(∀j,q<=j->j<m->4<=(ndA l j).kd)->owA l q=(m:Int)
 |0,q,h,hq,_=>by
  obtain rfl:q=m:=by omega
  rw[owA_step hm,if_neg (by omega),if_pos h3]
 |k+1,q,h,hq,hb=>by
  have:=hb q (Nat.le_refl _) (by omega)
  rw[owA_step (show q<l.length by omega),if_neg (by omega),if_neg (by omega)]
  exact owA_at hm h3 k (q+1) (by omega) (by omega) λj h1 h2=>hb j (by omega) h2
theorem kid_low {k:Int}{ks:List Int}(hk:3<=k)(h:kidB k ks=true):∀x ∈ ks,4<=x:=λx hx=>by
 have hex:∀y,expB y=true->4<=y:=λy hy=>by unfold expB at hy;simp only[Bool.and_eq_true,decide_eq_true_eq]at hy;omega
 have hst:∀y,stmB y=true->4<=y:=λy hy=>by unfold stmB at hy;simp only[Bool.and_eq_true,decide_eq_true_eq]at hy;omega
 have hal:∀ {ys:List Int},allB ys=true->∀y ∈ ys,4<=y:=λhys y hy=>hex y (List.all_eq_true.1 hys y hy)
 unfold kidB at h
 rw[if_neg (by omega)]at h
 split at h
 ·obtain⟨l',e,h2⟩:=ris_last (by decide) h
  rw[e]at hx
  rcases List.mem_append.1 hx with h3 |h3
  ·rcases h2 x h3 with e |e<;>omega
  ·rw[List.mem_singleton.1 h3];decide
 split at h
 ·exact hst x (List.all_eq_true.1 h x hx)
 split at h
 ·exact hal (by simp only[Bool.and_eq_true]at h;exact h.2) x hx
 split at h
 ·exact hal (by simp only[Bool.and_eq_true]at h;exact h.2) x hx
 split at h
 ·simp only[Bool.and_eq_true,decide_eq_true_eq]at h
  obtain⟨a,rfl⟩:=len_one h.1
  rw[List.mem_singleton.1 hx]
  have:=h.2
  simp at this
  omega
 split at h
 ·simp only[Bool.and_eq_true,decide_eq_true_eq]at h
  obtain⟨a,b,rfl⟩:=len_two h.1.1
  have h2:=h.1.2
  have h3:=h.2
  simp at h2 h3
  simp at hx
  rcases hx with rfl |rfl
  ·omega
  ·exact hex _ h3
 split at h
 ·simp only[Bool.and_eq_true,decide_eq_true_eq]at h
  obtain⟨a,b,c,rfl⟩:=len_three h.1.1.1
  have h1:=h.1.1.2
  have h2:=h.1.2
  have h3:=h.2
  simp at h1 h2 h3
  simp at hx
  rcases hx with rfl |rfl |rfl
  ·exact hex _ h1
  ·omega
  ·omega
 split at h
 ·simp only[Bool.and_eq_true,decide_eq_true_eq]at h
  obtain⟨a,b,rfl⟩:=len_two h.1.1
  have h1:=h.1.2
  have h2:=h.2
  simp at h1 h2
  simp at hx
  rcases hx with rfl |rfl
  ·exact hex _ h1
  ·omega
 split at h
 ·simp only[Bool.and_eq_true,decide_eq_true_eq]at h
  rcases ks with _ |⟨a,ks⟩
  ·cases hx
  have h1:=h.1.2
  have h2:=h.2
  simp at h1 h2
  rcases List.mem_cons.1 hx with rfl |hx
  ·omega
  ·exact hal h2 x hx
 split at h
 ·exact hal (by simp only[Bool.and_eq_true]at h;exact h.2) x hx
 split at h
 ·simp only[Bool.and_eq_true,decide_eq_true_eq]at h
  obtain⟨a,b,rfl⟩:=len_two h.1.1
  have h1:=h.1.2
  have h2:=h.2
  simp at h1 h2
  simp at hx
  rcases hx with rfl |rfl<;>omega
 ·have:=of_decide_eq_true h
  rw[List.length_eq_zero_iff.1 this]at hx
  cases hx
theorem proc_down {l:List Tr.Nd}{b:Nat->Nat}(hS:StU l b l.length)(h:shB l=true):∀p:Nat,p<l.length->3<=(ndA l p).kd->∀q,b p<=q->q<p->4<=(ndA l q).kd:=by
 intro p
 induction p using Nat.strongRecOn with
 |_ p ih=>
  intro hp he q h1 h2
  have h3:=hS p hp
  rw[kidsAt_ks hp]at h3
  obtain⟨m,hm,h4,h5,h6⟩:=Tr.stK_in _ p (b p) q (λq hq=>hS.le q (by omega)) h3 h1 (by omega)
  have hm2:=List.mem_reverse.1 hm
  have h7:4<=(ndA l (m:Int)).kd:=kid_low he (nd_ok h hp).kid _ (kds_mem hm2)
  by_cases e:q=m
  ·rw[e];exact h7
  exact ih m h6 (by omega) (by omega) q h4 (by omega)
theorem own_of {l:List Tr.Nd}{b:Nat->Nat}(hS:StU l b l.length)(h0:b (l.length-1)=0)(hl:1<=l.length)(h:shB l=true)(hr:(ndA l ((l.length-1:Nat):Int)).kd=1){p:Nat}(hp:p<l.length) :
  p=l.length-1\/(ndA l p).kd=2\/∃m:Nat,(m:Int) ∈ (ndA l ((l.length-1:Nat):Int)).ks/\(ndA l m).kd=3/\b m<=p/\p<=m/\m<l.length/\owA l p=(m:Int):=by
 by_cases e:p=l.length-1
 ·exact Or.inl e
 have hr1:l.length-1<l.length:=by omega
 have h3:=hS _ hr1
 rw[kidsAt_ks hr1,h0]at h3
 obtain⟨m,hm,h4,h5,h6⟩:=Tr.stK_in _ _ 0 p (λq hq=>hS.le q (by omega)) h3 (by omega) (by omega)
 have hm2:=List.mem_reverse.1 hm
 have hk:=(nd_ok h hr1).kid
 rw[hr]at hk
 have hk2:=ris_all (show risB (kdsA l ((l.length-1:Nat):Int)) 2 3 0=true from hk) _ (kds_mem hm2)
 rcases hk2 with e2 |e3
 ·refine Or.inr (Or.inl ?_)
  have hml:m<l.length:=by omega
  have hkm:=(nd_ok h hml).kid
  rw[e2]at hkm
  have hnil:(ndA l (m:Int)).ks=[]:=by
   have:kdsA l (m:Int)=[]:=by simpa [kidB]using hkm
   exact List.map_eq_nil_iff.1 this
  have h7:=hS m hml
  rw[kidsAt_ks hml,hnil]at h7
  have h8:m=b m:=by simpa [Tr.stK]using h7
  obtain rfl:p=m:=by omega
  exact e2
 ·have hml:m<l.length:=by omega
  exact Or.inr (Or.inr ⟨m,hm2,e3,h4,h5,hml,owA_at hml e3 _ p rfl h5 λj h7 h8=>proc_down hS h m hml (by omega) j (by omega) h8⟩)
end
section
open Go
open Tr (nth stmB expB allB kidB ndB shB risB run1 ri1 ri2 numB txB idB sgB StU kidsAt Snd)
structure RtN (l:List Tr.Nd) (b:Nat->Nat):Prop where
 st:StU l b l.length
 zero:b (l.length-1)=0
 len:1<=l.length
 sh:shB l=true
 root:(ndA l ((l.length-1:Nat):Int)).kd=1
theorem RtN.owns {l:List Tr.Nd}{b:Nat->Nat}(h:RtN l b){p:Nat}(hp:p<l.length)(h4:3<=(ndA l p).kd):∃m:Nat,owA l p=(m:Int)/\p<=m/\m<l.length/\(ndA l m).kd=3:=by
 rcases own_of h.st h.zero h.len h.sh h.root hp with e |e |⟨m,_,e3,_,h5,h6,h7⟩
 ·rw[e,h.root]at h4;omega
 ·omega
 ·exact⟨m,h7,h5,h6,e3⟩
theorem dnA_lt {l:List Tr.Nd}{p d:Nat}{nm:ByteArray}(h:dnA l p nm=some d):d<l.length/\decB (ndA l d).kd=true/\(ndA l d).tx=nm:=by
 unfold dnA at h
 split at h
 ·cases h
 ·rw[Option.or_eq_some_iff]at h
  have hk:∀ {o:Int},dcF l o nm 0=some d->d<l.length/\decB (ndA l d).kd=true/\(ndA l d).tx=nm:=λh0=>by
   obtain⟨_,h1,h2,_⟩:=fstA_some h0
   unfold dcB at h2
   simp only[Bool.and_eq_true,decide_eq_true_eq]at h2
   exact⟨h1,h2.1,h2.2.2⟩
  rcases h with h |⟨_,h⟩<;>exact hk h
theorem prF_lt {l:List Tr.Nd}{q:Nat}{nm:ByteArray}(h:prF l nm 0=some q):q<l.length/\(ndA l q).kd=3/\(ndA l q).tx=nm:=by
 obtain⟨_,h1,h2,_⟩:=fstA_some h
 unfold prB at h2
 simp only[Bool.and_eq_true,decide_eq_true_eq]at h2
 exact⟨h1,h2.1,h2.2⟩
end
end Go.Proofs.YtedkgofehbecmaaGreatDoor
namespace Go.Proofs.YtedkgofehbecmaaGreatDoor
open Go.Lib (hid)
open Go Go.RowKit
open Tr (Bx heap1 bt Nds Ints Ib mkI seqF KpB)
structure RdS where
 ow:Int
 ar:Nat->Int
 dc:Value->Option Int
 pc:Value->Option Int
def rd0:RdS:=⟨-1,λ_=>0,λ_=>none,λ_=>none⟩
def owS (l:List Tr.Nd)(o:Int)(k:Nat):Int:=if (ndA l k).kd=2 then -1 else if (ndA l k).kd=3 then (k:Int) else o
def dcK (o:Int)(nm:ByteArray):Value :=.agg #[.int .i64 o,.string nm]
open Classical in
noncomputable def rdS (l:List Tr.Nd)(s:RdS)(k:Nat):RdS where
 ow:=owS l s.ow k
 ar:=λj=>if j=k then owS l s.ow k else s.ar j
 dc:=λv=>if decB (ndA l k).kd=true/\v=dcK (owS l s.ow k) (ndA l k).tx then some (k:Int) else s.dc v
 pc:=λv=>if (ndA l k).kd=3/\v = .string (ndA l k).tx then some (k:Int) else s.pc v
noncomputable def rdL (l:List Tr.Nd)(ks:List Nat):RdS:=ks.foldl (rdS l) rd0
theorem rdL_snoc (l:List Tr.Nd)(ks:List Nat)(k:Nat):rdL l (ks++[k])=rdS l (rdL l ks) k:=by unfold rdL;rw[List.foldl_append];rfl
theorem rdL_ow (l:List Tr.Nd)(N:Nat):∀(ks:List Nat) (s:RdS),(∀k ∈ ks,k<N) -> -1<=s.ow/\s.ow<=(N:Int) -> -1<=(ks.foldl (rdS l) s).ow/\(ks.foldl (rdS l) s).ow<=(N:Int)
 | [],_,_,h=>h
 |k :: ks,s,hk,h=>by
  refine rdL_ow l N ks (rdS l s k) (λj hj=>hk j (List.mem_cons_of_mem _ hj)) ?_
  have:=hk k (List.mem_cons_self ..)
  show -1<=owS l s.ow k/\owS l s.ow k<=(N:Int)
  unfold owS
  split
  ·omega
  ·split<;>omega
def dclF (l:List Tr.Nd)(p:Nat)(v:Value):Option Int:=
 match v with
 | .agg cs=>match cs.toList with
  | [.int .i64 o,.string nm]=>(dcF l o nm p).map λq=>(q:Int)
  |_=>none
 |_=>none
def prcF (l:List Tr.Nd)(p:Nat)(v:Value):Option Int:=
 match v with
 | .string nm=>(prF l nm p).map λq=>(q:Int)
 |_=>none
theorem dclF_none {l:List Tr.Nd}{p:Nat}{v:Value}(h:∀o nm,v≠dcK o nm):dclF l p v=none:=by
 unfold dclF
 split
 ·rename_i cs
  split
  ·rename_i o nm e
   exact absurd (show Value.agg cs=dcK o nm from congrArg Value.agg (by cases cs;simp_all)) (h o nm)
  ·rfl
 ·rfl
theorem prcF_none {l:List Tr.Nd}{p:Nat}{v:Value}(h:∀nm,v ≠ .string nm):prcF l p v=none:=by
 unfold prcF
 split
 ·rename_i nm;exact absurd rfl (h nm)
 ·rfl
theorem dcK_inj {o o':Int}{nm nm':ByteArray}(h:dcK o nm=dcK o' nm'):o=o'/\nm=nm':=by
 unfold dcK at h
 simpa using h
theorem dclF_at (l:List Tr.Nd)(p:Nat)(o:Int)(nm:ByteArray):dclF l p (dcK o nm)=(dcF l o nm p).map λq=>(q:Int):=rfl
theorem prcF_at (l:List Tr.Nd)(p:Nat)(nm:ByteArray):prcF l p (.string nm)=(prF l nm p).map λq=>(q:Int):=rfl
theorem dclF_end (l:List Tr.Nd){p:Nat}(h:l.length<=p)(v:Value):dclF l p v=none:=by
 by_cases hv:∃o nm,v=dcK o nm
 ·obtain⟨o,nm,rfl⟩:=hv
  rw[dclF_at];unfold dcF;rw[fstA_end h];rfl
 ·exact dclF_none λo nm e=>hv ⟨o,nm,e⟩
theorem prcF_end (l:List Tr.Nd){p:Nat}(h:l.length<=p)(v:Value):prcF l p v=none:=by
 by_cases hv:∃nm,v = .string nm
 ·obtain⟨nm,rfl⟩:=hv
  rw[prcF_at];unfold prF;rw[fstA_end h];rfl
 ·exact prcF_none λnm e=>hv ⟨nm,e⟩
open Classical in
theorem dclF_step {l:List Tr.Nd}{p:Nat}(h:p<l.length)(v:Value):dclF l p v=if decB (ndA l p).kd=true/\v=dcK (owA l p) (ndA l p).tx then some (p:Int) else dclF l (p+1) v:=by
 by_cases hv:∃o nm,v=dcK o nm
 ·obtain⟨o,nm,rfl⟩:=hv
  rw[dclF_at,dclF_at]
  unfold dcF
  rw[fstA_step h]
  by_cases hB:dcB l o nm p=true
  ·have h2:=hB
   unfold dcB at h2
   simp only[Bool.and_eq_true,decide_eq_true_eq]at h2
   rw[if_pos hB,if_pos ⟨h2.1,by rw[h2.2.1,h2.2.2]⟩];rfl
  ·rw[if_neg hB,if_neg]
   rintro⟨h1,h2⟩
   obtain⟨e1,e2⟩:=dcK_inj h2
   exact hB (by unfold dcB;simp[h1,e1,e2])
 ·rw[if_neg (λh=>hv ⟨_,_,h.2⟩),dclF_none λo nm e=>hv ⟨o,nm,e⟩,dclF_none λo nm e=>hv ⟨o,nm,e⟩]
open Classical in
theorem prcF_step {l:List Tr.Nd}{p:Nat}(h:p<l.length)(v:Value):prcF l p v=if (ndA l p).kd=3/\v = .string (ndA l p).tx then some (p:Int) else prcF l (p+1) v:=by
 by_cases hv:∃nm,v = .string nm
 ·obtain⟨nm,rfl⟩:=hv
  rw[prcF_at,prcF_at]
  unfold prF
  rw[fstA_step h]
  by_cases hB:prB l nm p=true
  ·have h2:=hB
   unfold prB at h2
   simp only[Bool.and_eq_true,decide_eq_true_eq]at h2
   rw[if_pos hB,if_pos ⟨h2.1,by rw[h2.2]⟩];rfl
  ·rw[if_neg hB,if_neg]
   rintro⟨h1,h2⟩
   exact hB (by unfold prB;simp at h2;simp[h1,h2])
 ·rw[if_neg (λh=>hv ⟨_,h.2⟩),prcF_none λnm e=>hv ⟨nm,e⟩,prcF_none λnm e=>hv ⟨nm,e⟩]
def downL (n m:Nat):List Nat:=(seqF n m).map (·.val)
theorem rdL_down (l:List Tr.Nd):∀(k m:Nat),l.length-m=k->m<=l.length->(rdL l (downL l.length m)).ow=owA l m/\(∀j,m<=j->j<l.length->(rdL l (downL l.length m)).ar j=owA l j)/\(∀v,(rdL l (downL l.length m)).dc v=dclF l m v)/\∀v,(rdL l (downL l.length m)).pc v=prcF l m v
 |0,m,hk,hm=>by
  obtain rfl:m=l.length:=by omega
  have e:downL l.length l.length=[]:=by unfold downL;rw[Tr.seqF_end];rfl
  rw[e]
  exact⟨(owA_end (Nat.le_refl _)).symm,λj h1 h2=>by omega,λv=>(dclF_end l (Nat.le_refl _) v).symm,λv=>(prcF_end l (Nat.le_refl _) v).symm⟩
 |k+1,m,hk,hm=>by
  have hlt:m<l.length:=by omega
  obtain⟨h1,h2,h3,h4⟩:=rdL_down l k (m+1) (by omega) (by omega)
  have e:downL l.length m=downL l.length (m+1)++[m]:=by unfold downL;rw[Tr.seqF_step hlt,List.map_append];rfl
  rw[e,rdL_snoc]
  have ho:owS l (rdL l (downL l.length (m+1))).ow m=owA l m:=by rw[h1,owA_step hlt];rfl
  refine⟨ho,λj hj1 hj2 =>?_,λv =>?_,λv =>?_⟩
  ·show(if j=m then owS l _ m else _)=_
   by_cases e2:j=m
   ·subst e2;rw[if_pos rfl,ho]
   ·rw[if_neg e2];exact h2 j (by omega) hj2
  ·rw[dclF_step hlt,<- h3,<- ho];rfl
  ·rw[prcF_step hlt,<- h4];rfl
section
variable {l:List Tr.Nd} {s:RdS} {k:Nat} {kd:Int} {tx:ByteArray} {OW:Int}
theorem rdS_a (ho:owS l s.ow k=OW):(rdS l s k).ow=OW/\∀j,(if j=k then OW else s.ar j)=(rdS l s k).ar j:=⟨ho,λj=>by unfold rdS;simp only[ho]⟩
open Classical in
theorem rdS_dc1 (hk:kd=(ndA l k).kd)(ht:tx=(ndA l k).tx)(ho:owS l s.ow k=OW)(hd:decB kd=true)(v:Value):(if v=dcK OW tx then some (k:Int) else s.dc v)=(rdS l s k).dc v:=by
 unfold rdS
 simp only[ho,<- hk,<- ht,hd,true_and]
theorem rdS_dc0 (hk:kd=(ndA l k).kd)(hd:decB kd=false)(v:Value):s.dc v=(rdS l s k).dc v:=by
 unfold rdS
 simp only[<- hk,hd,Bool.false_eq_true,false_and,if_false]
open Classical in
theorem rdS_pc1 (hk:3=(ndA l k).kd)(ht:tx=(ndA l k).tx)(v:Value):(if v = .string tx then some (k:Int) else s.pc v)=(rdS l s k).pc v:=by
 unfold rdS
 simp only[<- hk,<- ht,true_and]
theorem rdS_pc0 (hk:kd=(ndA l k).kd)(hd:kd≠3)(v:Value):s.pc v=(rdS l s k).pc v:=by
 unfold rdS
 simp only[<- hk,hd,false_and,if_false]
end
structure RdB (w:World) (A:Option Addr) (n c G B:Nat) (X0:World) (ow:Int) (ar:Nat->Int) (dc pc:Value->Option Int) (cd cp:Nat) (X:World):Prop where
 z:Bx X (w.heap.size+1) 87 [.slice none 0 0,.slice none 0 0,.map none,.map none]
 p:Bx X (w.heap.size+1+1+1+1) 87 [.slice A n c,.slice (some ⟨G,0,none⟩) n n,.map (some (w.heap.size+1+1)),.map (some (w.heap.size+1+1+1))]
 d:MapIs X 129 (w.heap.size+1+1) dc cd
 q:MapIs X 9 (w.heap.size+1+1+1) pc cp
 o:Ib X G n ar
 s:Bx X (G+1) 3 [.int .i64 ow]
 b:Below w.heap.size w X
 k:KeepsFrom B X0 X
 kp:KpB w.heap.size (G+1+1) X0 X
 g:w.heap.size+1+1+1+1<G
 gB:G+1+1<B
section
variable {w:World} {A:Option Addr} {n c G B:Nat} {X0 X Y:World} {ow:Int} {ar:Nat->Int} {dc pc:Value->Option Int} {cd cp:Nat}
theorem RdB.own {row:Option Nat}(h:RdB w A n c G B X0 ow ar dc pc cd cp X)(hg:X.grownBy Y row)(hr:∀r,row=some r->B<=r/\∃o:Obj,X.heap[r]?=some o/\o.isCells=false):RdB w A n c G B Y ow ar dc pc cd cp Y:=by
 have hne:∀k,k<B->some k≠row:=λk hk e=>by have:=(hr k e.symm).1;omega
 have h1:=h.g
 have h2:=h.gB
 exact⟨h.z.grown hg (hne _ (by omega)),h.p.grown hg (hne _ (by omega)),h.d.kept hg (hne _ (by omega)),h.q.kept hg (hne _ (by omega)),h.o.grown hg (hne _ (by omega)),h.s.grown hg (hne _ (by omega)),
  h.b.grown hg h.b.size (λk e=>by have:=(hr k e).1;omega),KeepsFrom.refl _ _,⟨Below.refl _ _,rfl⟩,h1,h2⟩
theorem RdB.start (h:RdB w A n c G B X0 ow ar dc pc cd cp X):RdB w A n c G B X ow ar dc pc cd cp X:=⟨h.z,h.p,h.d,h.q,h.o,h.s,h.b,KeepsFrom.refl _ _,⟨Below.refl _ _,rfl⟩,h.g,h.gB⟩
theorem kp_set {n₀ Bs b i:Nat}{u:Value}(h:n₀<=b)(hne:Bs≠b):KpB n₀ Bs X (X.setCell ⟨b,i,none⟩ u):=⟨(Below.refl _ X).setCell (p:=⟨b,i,none⟩) h _,heap_setCell_other X _ _ _ hne⟩
theorem kp_trans {n₀ Bs:Nat}{a b c:World}(h:KpB n₀ Bs a b)(k:KpB n₀ Bs b c):KpB n₀ Bs a c:=⟨h.1.trans k.1,k.2.trans h.2⟩
theorem RdB.setw (h:RdB w A n c G B X0 ow ar dc pc cd cp X)(v:Int):RdB w A n c G B X0 v ar dc pc cd cp (X.setCell ⟨G+1,0,none⟩ (.int .i64 v)):=by
 have h1:=h.g
 have h2:=h.gB
 have hne:∀k,k≠G+1->(X.setCell ⟨G+1,0,none⟩ (.int .i64 v)).heap[k]?=X.heap[k]?:=λk hk=>heap_setCell_other X _ _ _ hk
 exact⟨h.z.same (hne _ (by omega)),h.p.same (hne _ (by omega)),h.d.same (hne _ (by omega)),h.q.same (hne _ (by omega)),(h.o.far (p:=⟨G+1,0,none⟩) (by show G≠G+1;omega) _),h.s.set_ 0 _,
  h.b.setCell (p:=⟨G+1,0,none⟩) (by show _<=G+1;omega) _,h.k.trans ((KeepsOthers.setCell _ _ _).from _),kp_trans h.kp (kp_set (by omega) (by omega)),h1,h2⟩
theorem RdB.seto (h:RdB w A n c G B X0 ow ar dc pc cd cp X)(k:Nat)(v:Int):RdB w A n c G B X0 ow (λj=>if j=k then v else ar j) dc pc cd cp (X.setCell ⟨G,k,none⟩ (.int .i64 v)):=by
 have h1:=h.g
 have h2:=h.gB
 have hne:∀j,j≠G->(X.setCell ⟨G,k,none⟩ (.int .i64 v)).heap[j]?=X.heap[j]?:=λj hk=>heap_setCell_other X _ _ _ hk
 exact⟨h.z.same (hne _ (by omega)),h.p.same (hne _ (by omega)),h.d.same (hne _ (by omega)),h.q.same (hne _ (by omega)),h.o.set_ k v,h.s.same (hne _ (by omega)),
  h.b.setCell (p:=⟨G,k,none⟩) (by show _<=G;omega) _,h.k.trans ((KeepsOthers.setCell _ _ _).from _),kp_trans h.kp (kp_set (by omega) (by omega)),h1,h2⟩
theorem kp_grown {n₀ Bs b:Nat}(hg:X.grownBy Y (some b))(h:n₀<=b)(hne:Bs≠b)(hs:n₀<=X.heap.size)(hl:Bs<X.heap.size):KpB n₀ Bs X Y:=
 ⟨(Below.refl _ X).grown hg hs (λk e=>by cases e;exact h),hg.block Bs hl (λe=>hne (Option.some.inj e))⟩
open Classical in
theorem RdB.putd (h:RdB w A n c G B X0 ow ar dc pc cd cp X)(hcd:cd<100000)(hl:G+1+1<X.heap.size)(o:Int)(nm:ByteArray)(ho:(Lit.int .i64 o).wf=true)(hn:nm.size<=281474976710656)(v:Int)(hv:(Lit.int .i64 v).wf=true) :
  ∃Y,(Instr.mapUpdate 84 (.map (some (w.heap.size+1+1))) (.agg #[.int .i64 o,.string nm]) (.int .i64 v)).run Tryz.prog X = .ok () Y/\RdB w A n c G B X0 ow ar (λx=>if x=dcK o nm then some v else dc x) pc (cd+1) cp Y/\X.heap.size<=Y.heap.size:=by
 have h1:=h.g
 have h2:=h.gB
 obtain⟨kl,hk⟩:=keyOfC o nm ho hn
 obtain⟨Y,hrun,hM,hg⟩:=h.d.put keyC Tryz.underlying84 hcd hk hv
 have hne:∀k,k≠w.heap.size+1+1->some k≠some (w.heap.size+1+1):=λk hk e=>hk (Option.some.inj e)
 exact⟨Y,hrun,⟨h.z.grown hg (hne _ (by omega)),h.p.grown hg (hne _ (by omega)),hM,h.q.kept hg (hne _ (by omega)),h.o.grown hg (hne _ (by omega)),h.s.grown hg (hne _ (by omega)),
  h.b.grown hg h.b.size (λk e=>by cases e;omega),h.k.trans (KeepsFrom.of_grownBy hg (λj e=>by cases e;omega)),kp_trans h.kp (kp_grown hg (by omega) (by omega) h.b.size hl),h1,h2⟩,hg.size⟩
open Classical in
theorem RdB.putp (h:RdB w A n c G B X0 ow ar dc pc cd cp X)(hcp:cp<100000)(hl:G+1+1<X.heap.size)(nm:ByteArray)(hn:nm.size<=281474976710656)(v:Int)(hv:(Lit.int .i64 v).wf=true) :
  ∃Y,(Instr.mapUpdate 85 (.map (some (w.heap.size+1+1+1))) (.string nm) (.int .i64 v)).run Tryz.prog X = .ok () Y/\RdB w A n c G B X0 ow ar dc (λx=>if x = .string nm then some v else pc x) cd (cp+1) Y/\X.grownBy Y (some (w.heap.size+1+1+1)):=by
 have h1:=h.g
 have h2:=h.gB
 obtain⟨Y,hrun,hM,hg⟩:=h.q.put keyS Tryz.underlying85 hcp (keyOfS nm hn) hv
 have hne:∀k,k≠w.heap.size+1+1+1->some k≠some (w.heap.size+1+1+1):=λk hk e=>hk (Option.some.inj e)
 exact⟨Y,hrun,⟨h.z.grown hg (hne _ (by omega)),h.p.grown hg (hne _ (by omega)),h.d.kept hg (hne _ (by omega)),hM,h.o.grown hg (hne _ (by omega)),h.s.grown hg (hne _ (by omega)),
  h.b.grown hg h.b.size (λk e=>by cases e;omega),h.k.trans (KeepsFrom.of_grownBy hg (λj e=>by cases e;omega)),kp_trans h.kp (kp_grown hg (by omega) (by omega) h.b.size hl),h1,h2⟩,hg⟩
end
end Go.Proofs.YtedkgofehbecmaaGreatDoor
namespace Go.Proofs.YtedkgofehbecmaaGreatDoor
open Go.Lib (hid)
open Go Go.RowKit
open Tr (Bx heap1 bt Nds Ints VPost BPost IPost)
def ownI (l:List Tr.Nd):List Int:=(List.range l.length).map λp=>owA l p
theorem ownI_len (l:List Tr.Nd):(ownI l).length=l.length:=by simp[ownI]
theorem ownI_at {l:List Tr.Nd}{p:Nat}(h:p<(ownI l).length):(ownI l)[p]=owA l p:=by simp[ownI]
def PrV (A:Option Addr)(n c:Nat)(O:Option Addr)(co bd bp:Nat):Value :=.agg #[.slice A n c,.slice O n co,.map (some bd),.map (some bp)]
structure Prg (w:World) (l:List Tr.Nd) (A:Option Addr) (n:Nat) (O:Option Addr) (bd bp:Nat):Prop where
 nds:Nds w A l
 len:n=l.length
 few:n<=4000
 own:Ints w O (ownI l)
 dcl:MapIs w 129 bd (dclF l 0) 5000
 prc:MapIs w 9 bp (prcF l 0) 5000
 kids:∀x ∈ l,x.ks.length<=4000
 text:∀x ∈ l,x.tx.size<=281474976710656
 ahead:Ahead l
theorem Prg.below {w w':World}{l:List Tr.Nd}{A O:Option Addr}{n bd bp:Nat}(h:Prg w l A n O bd bp)(hb:Below w.heap.size w w'):Prg w' l A n O bd bp:=
 ⟨h.nds.below hb,h.len,h.few,h.own.below hb,h.dcl.below hb h.dcl.lt,h.prc.below hb h.prc.lt,h.kids,h.text,h.ahead⟩
theorem optG (o:Option Nat):(o.map λq=>(q:Int)).isSome=o.isSome/\(o.map λq=>(q:Int)).getD 0=(match o with|none=>0 |some q=>(q:Int)):=by cases o<;>exact⟨rfl,rfl⟩
def getZ (o:Option Nat):Int:=match o with|none=>0 |some q=>(q:Int)
section
variable {w:World} {l:List Tr.Nd} {A O:Option Addr} {n bd bp:Nat}
theorem Prg.lookd (h:Prg w l A n O bd bp)(o:Int)(nm:ByteArray)(ho:(Lit.int .i64 o).wf=true)(hn:nm.size<=281474976710656) :
  (Instr.lookup 84 (.map (some bd)) (.agg #[.int .i64 o,.string nm]) true).run Tryz.prog w = .ok (.tuple #[.int .i64 (getZ (dcF l o nm 0)),.bool (dcF l o nm 0).isSome]) w:=by
 obtain⟨kl,hk⟩:=keyOfC o nm ho hn
 have:=h.dcl.look keyC Tryz.underlying84 hk
 rw[this]
 show Result.ok (Value.tuple #[.int .i64 (((dcF l o nm 0).map λq=>(q:Int)).getD 0),.bool (((dcF l o nm 0).map λq=>(q:Int)).isSome)]) w=_
 rw[(optG _).1,(optG _).2];rfl
theorem Prg.lookd1 (h:Prg w l A n O bd bp)(o:Int)(nm:ByteArray)(ho:(Lit.int .i64 o).wf=true)(hn:nm.size<=281474976710656) :
  (Instr.lookup 84 (.map (some bd)) (.agg #[.int .i64 o,.string nm]) false).run Tryz.prog w = .ok (.int .i64 (getZ (dcF l o nm 0))) w:=by
 obtain⟨kl,hk⟩:=keyOfC o nm ho hn
 have:=h.dcl.look1 keyC Tryz.underlying84 hk
 rw[this]
 show Result.ok (Value.int .i64 (((dcF l o nm 0).map λq=>(q:Int)).getD 0)) w=_
 rw[(optG _).2];rfl
theorem Prg.lookp (h:Prg w l A n O bd bp)(nm:ByteArray)(hn:nm.size<=281474976710656) :
  (Instr.lookup 85 (.map (some bp)) (.string nm) true).run Tryz.prog w = .ok (.tuple #[.int .i64 (getZ (prF l nm 0)),.bool (prF l nm 0).isSome]) w:=by
 have:=h.prc.look keyS Tryz.underlying85 (keyOfS nm hn)
 rw[this]
 show Result.ok (Value.tuple #[.int .i64 (((prF l nm 0).map λq=>(q:Int)).getD 0),.bool (((prF l nm 0).map λq=>(q:Int)).isSome)]) w=_
 rw[(optG _).1,(optG _).2];rfl
theorem Prg.lookp1 (h:Prg w l A n O bd bp)(nm:ByteArray)(hn:nm.size<=281474976710656) :
  (Instr.lookup 85 (.map (some bp)) (.string nm) false).run Tryz.prog w = .ok (.int .i64 (getZ (prF l nm 0))) w:=by
 have:=h.prc.look1 keyS Tryz.underlying85 (keyOfS nm hn)
 rw[this]
 show Result.ok (Value.int .i64 (((prF l nm 0).map λq=>(q:Int)).getD 0)) w=_
 rw[(optG _).2];rfl
theorem Prg.owner_at {w0 w:World}(h:Prg w0 l A n O bd bp)(hb:Below w0.heap.size w0 w){p:Nat}(hp:p<n):∃b off,O=some ⟨b,off,none⟩/\b<w.heap.size/\w.cell? ⟨b,off+p,none⟩=some (.int .i64 (owA l p)):=by
 have hl:p<(ownI l).length:=by rw[ownI_len,<- h.len];exact hp
 obtain⟨b,off,e,hlt,hc⟩:=h.own (by omega)
 refine⟨b,off,e,Nat.lt_of_lt_of_le hlt hb.size,(hb.cell (p:=⟨b,off+p,none⟩) hlt).trans ?_⟩
 rw[hc p hl,ownI_at]
theorem owA_wf (l:List Tr.Nd)(p:Nat)(h:l.length<=4000):(Lit.int .i64 (owA l p)).wf=true:=by
 rcases owA_range l p with e |⟨q,e,h1,h2,_⟩
 ·rw[e];decide
 ·rw[e]
  exact WalkArith.wf_i64 (by omega)
end
end Go.Proofs.YtedkgofehbecmaaGreatDoor
namespace Go.Proofs.YtedkgofehbecmaaGreatDoor
open Go.Lib (hid)
open Go Go.RowKit
open Tr (Bx heap1 bt Nds Ints VPost BPost IPost)
theorem z_eq0 {n:Nat}(h:n=0):((n:Int)==0)=true:=by subst h;rfl
theorem z_ne0 {n:Nat}(h:n≠0):((n:Int)==0)=false:=beq_eq_false_iff_ne.2 (by omega)
section
variable {w:World} {l:List Tr.Nd} {A O:Option Addr} {n bd bp:Nat}
set_option maxRecDepth 100000 in
set_option maxHeartbeats 1500000 in
theorem isNothing_any (w:World)(A O:Option Addr)(n bd bp c co:Nat):Calls Tryz.prog 132 #[PrV A n c O co bd bp] w (BPost (decide (n=0)) w):=by
 unfold PrV
 have hb0:=heap1 w (.cells #[.slice A n c,.slice O n co,.map (some bd),.map (some bp)] 87)
 have HB0:=hid hb0
 by_cases e:n=0
 ·have hz:=z_eq0 e
  rw[decide_eq_true e]
  clear e
  go_enter Tryz.func132,Tryz.ntmps132
  go_wp2
  go_ret
  exact⟨rfl,HB0.out⟩
 ·have hz:=z_ne0 e
  rw[decide_eq_false e]
  clear e
  go_enter Tryz.func132,Tryz.ntmps132
  go_wp2
  go_ret
  exact⟨rfl,HB0.out⟩
set_option maxRecDepth 100000 in
set_option maxHeartbeats 1500000 in
theorem procedure_any (h:Prg w l A n O bd bp)(c co:Nat)(nm:ByteArray)(hn:nm.size<=281474976710656):Calls Tryz.prog 106 #[PrV A n c O co bd bp,.string nm] w (Tr.IPost (optZ (prF l nm 0)) w):=by
 unfold PrV
 have hb0:=heap1 w (.cells #[.slice A n c,.slice O n co,.map (some bd),.map (some bp)] 87)
 have HB0:=hid hb0
 have HL:=(h.below hb0).lookp nm hn
 cases hp:prF l nm 0 with
 |none=>
  rw[hp]at HL
  clear hp h hb0
  go_enter Tryz.func106,Tryz.ntmps106
  go_wp2
  go_ret
  exact⟨rfl,HB0.out⟩
 |some q=>
  rw[hp]at HL
  clear hp h hb0
  go_enter Tryz.func106,Tryz.ntmps106
  go_wp2
  go_ret
  exact⟨rfl,HB0.out⟩
set_option maxRecDepth 100000 in
set_option maxHeartbeats 1500000 in
theorem denoted_any (h:Prg w l A n O bd bp)(c co:Nat)(p:Nat)(hp:p<n)(nm:ByteArray)(hn:nm.size<=281474976710656):Calls Tryz.prog 214 #[PrV A n c O co bd bp,.int .i64 (p:Int),.string nm] w (Tr.IPost (optZ (dnA l p nm)) w):=by
 unfold PrV
 have hb0:=heap1 w (.cells #[.slice A n c,.slice O n co,.map (some bd),.map (some bp)] 87)
 have HB0:=hid hb0
 obtain⟨b,off,rfl,hlt,hc⟩:=h.owner_at (w:=w.alloc (.cells #[.slice A n c,.slice O n co,.map (some bd),.map (some bp)] 87)) hb0 hp
 have hpz:(p:Int)<(n:Int):=by omega
 have how:=owA_wf l p (by rw[<- h.len];exact h.few)
 have HL:=(h.below hb0).lookd (owA l p) nm how hn
 have HM:=(h.below hb0).lookd (-1) nm (by decide) hn
 unfold dnA
 clear h hb0
 by_cases e:owA l p = -1
 ·rw[if_pos e]
  rw[e]at hc
  clear HL how e HM
  go_enter Tryz.func214,Tryz.ntmps214
  go_wp2
  go_ret
  exact⟨rfl,HB0.out⟩
 ·rw[if_neg e]
  have he:(owA l p == -1)=false:=beq_eq_false_iff_ne.2 e
  generalize owA l p=ow at *
  cases hd:dcF l ow nm 0 with
  |some q=>
   rw[hd]at HL
   clear hd how e HM
   go_enter Tryz.func214,Tryz.ntmps214
   go_wp2
   go_ret
   exact⟨rfl,HB0.out⟩
  |none=>
   rw[hd]at HL
   cases hd2:dcF l (-1) nm 0 with
   |some q=>
    rw[hd2]at HM
    clear hd hd2 how e
    go_enter Tryz.func214,Tryz.ntmps214
    go_wp2
    go_ret
    exact⟨rfl,HB0.out⟩
   |none=>
    rw[hd2]at HM
    clear hd hd2 how e
    go_enter Tryz.func214,Tryz.ntmps214
    go_wp2
    go_ret
    exact⟨rfl,HB0.out⟩
end
theorem lst_ne {s:ByteArray}{t:Array UInt8}(h:s≠⟨t⟩):(s.toList==t.toList)=false:=beq_eq_false_iff_ne.2 λe=>h (by
 rw[ByteArray.toList_eq]at e
 cases s;simp_all)
set_option maxRecDepth 100000 in
set_option maxHeartbeats 1500000 in
theorem signType_any (s:ByteArray)(w:World):Calls Tryz.prog 259 #[.string s] w (Tr.IPost (sgnT s) w):=by
 by_cases h0:s=⟨#[43]⟩
 ·subst h0
  go_enter Tryz.func259,Tryz.ntmps259
  go_wp2
  go_ret
  exact⟨rfl,Below.refl _ _⟩
 have q0:(s.toList==[43])=false:=lst_ne h0
 by_cases h1:s=⟨#[45]⟩
 ·subst h1
  go_enter Tryz.func259,Tryz.ntmps259
  go_wp2
  go_ret
  exact⟨rfl,Below.refl _ _⟩
 have q1:(s.toList==[45])=false:=lst_ne h1
 by_cases h2:s=⟨#[42]⟩
 ·subst h2
  go_enter Tryz.func259,Tryz.ntmps259
  go_wp2
  go_ret
  exact⟨rfl,Below.refl _ _⟩
 have q2:(s.toList==[42])=false:=lst_ne h2
 by_cases h3:s=⟨#[47]⟩
 ·subst h3
  go_enter Tryz.func259,Tryz.ntmps259
  go_wp2
  go_ret
  exact⟨rfl,Below.refl _ _⟩
 have q3:(s.toList==[47])=false:=lst_ne h3
 by_cases h4:s=⟨#[37]⟩
 ·subst h4
  go_enter Tryz.func259,Tryz.ntmps259
  go_wp2
  go_ret
  exact⟨rfl,Below.refl _ _⟩
 have q4:(s.toList==[37])=false:=lst_ne h4
 have e:sgnT s=2:=by unfold sgnT;rw[if_neg (by simp[h0,h1,h2,h3,h4])]
 rw[e]
 clear e h0 h1 h2 h3 h4
 go_enter Tryz.func259,Tryz.ntmps259
 go_wp2
 go_ret
 exact⟨rfl,Below.refl _ _⟩
section
variable {w:World} {l:List Tr.Nd} {A O:Option Addr} {n bd bp:Nat}
set_option maxRecDepth 100000 in
set_option maxHeartbeats 1500000 in
theorem calleeName_any (h:Prg w l A n O bd bp)(c co:Nat)(p k:Nat)(hp:p<n){ks:List Int}(hks:(ndA l p).ks=(k:Int) :: ks)(hk:k<n):Calls Tryz.prog 215 #[PrV A n c O co bd bp,.int .i64 (p:Int)] w (VPost (.string (calN l p)) w):=by
 unfold PrV
 have hb0:=heap1 w (.cells #[.slice A n c,.slice O n co,.map (some bd),.map (some bp)] 87)
 have HB0:=hid hb0
 have hpl:p<l.length:=by rw[<- h.len];exact hp
 have hkl:k<l.length:=by rw[<- h.len];exact hk
 have hkz:(k:Int)<(n:Int):=by omega
 have hpz:(p:Int)<(n:Int):=by omega
 obtain⟨bA,off,K,cK,rfl,hlt,x0,x1,x2,x3,x4,hI⟩:=node_at h.nds hb0 p hpl
 obtain⟨bB,off2,K2,cK2,e2,hlt2,y0,y1,y2,y3,y4,hI2⟩:=node_at h.nds hb0 k hkl
 cases e2
 rw[<- ndA_eq hpl]at x4 hI
 rw[<- ndA_eq hkl]at y3
 have he:calN l p=(ndA l k).tx:=by unfold calN;rw[kidA_0 hks]
 rw[he]
 rw[hks]at x4 hI
 have hlen:((k:Int) :: ks).length=ks.length+1:=rfl
 rw[hlen]at x4
 obtain⟨bk,ok,rfl,hbk,hck⟩:=hI (by simp)
 have hc0:(w.alloc (.cells #[.slice (some ⟨bA,off,none⟩) n c,.slice O n co,.map (some bd),.map (some bp)] 87)).cell? ⟨bk,ok,none⟩=some (.int .i64 (k:Int)):=(hb0.cell (p:=⟨bk,ok,none⟩) hbk).trans (hck 0 (by simp))
 have hml:(0:Int)<((ks.length+1:Nat):Int):=by omega
 generalize ks.length+1=m at *
 generalize (ndA l (k:Int)).tx=tx at *
 clear h hI2 y0 y1 y2 y4 x0 x1 x2 x3 hks hck hb0 hI he
 go_enter Tryz.func215,Tryz.ntmps215
 go_wp2
 go_upto_region 1 with(fail)
 go_quiet (fail)
 go_wp2
 go_ret
 exact⟨rfl,Tk.below_drewN HB0.out _⟩
end
end Go.Proofs.YtedkgofehbecmaaGreatDoor
