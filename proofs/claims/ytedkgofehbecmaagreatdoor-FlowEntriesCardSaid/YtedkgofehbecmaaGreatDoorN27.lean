/- PROVED here: parts Mk Nb of the claim. No condition but those in each theorem's own head. -/
import Derived.Test.YtedkgofehbecmaaGreatDoorN01
import Derived.Maps.OwnSet
import Derived.Maps.Keyed
import Derived.DeepKeys4
import Derived.Test.YtedkgofehbecmaaGreatDoorN03
namespace Go.Proofs.YtedkgofehbecmaaGreatDoor
open Go Go.RowKit Go.Maps
theorem keyS:Keyed Tryz.prog 9:=string_keyed Tryz.underlying9
theorem row137:(129:TypeId)<Tryz.prog.types.size:=of_decide_eq_true (by kernel_rfl)
theorem wide137:(match Tryz.prog.underlying 129 with|some (.array _ _) |some (.struct _)=>true |_=>false)=true:=by kernel_rfl
theorem kt137:Tryz.prog.keyTypeAt 2 129=true:=by kernel_rfl
set_option maxRecDepth 100000 in
theorem keyC:Keyed Tryz.prog 129:=Keyed.of_law (deep_law_laid laidOut (m:=2) (by omega) row137 kt137 wide137)
theorem keyOfS (s:ByteArray)(h:s.size≤281474976710656):keyOf Tryz.prog 9 (.string s)=some (.string s.data.toList):=by
 have h2:s.size≤maxLen:=by unfold maxLen;omega
 unfold keyOf mapKey
 simp[Tryz.underlying9,h2]
theorem type137:Tryz.prog.keyType 129=true:=by kernel_rfl
theorem cells137:Tryz.prog.cellsOf 129=2:=by kernel_rfl
theorem cells3:Tryz.prog.cellsOf 3=1:=by kernel_rfl
theorem cells9:Tryz.prog.cellsOf 9=1:=by kernel_rfl
theorem size258:Tryz.prog.types.size=278+1:=by kernel_rfl
set_option maxRecDepth 100000 in
theorem keyOfC (o:Int)(s:ByteArray)(ho:(Lit.int .i64 o).wf=true)(h:s.size≤281474976710656):∃kl,keyOf Tryz.prog 129 (.agg #[.int .i64 o,.string s])=some kl:=by
 have h2:s.size≤maxLen:=by unfold maxLen;omega
 have hf:Value.formed Tryz.prog 129 (.agg #[.int .i64 o,.string s])=true:=by simp[Value.formed,Tryz.underlying129,cells137]
 have k3:∀d,Tryz.prog.keyLits (d+1) 3 [.int .i64 o]=some [.int .i64 o]:=fun d=>by simp[Program.keyLits,Tryz.underlying3,ho]
 have k9:∀d,Tryz.prog.keyLits (d+1) 9 [.string s]=some [.string s.data.toList]:=fun d=>by simp[Program.keyLits,Tryz.underlying9,h2]
 have hl:∀d,Tryz.prog.keyLits (d+1+1) 129 [.int .i64 o,.string s]=some [.int .i64 o,.string s.data.toList]:=fun d=>by
  unfold Program.keyLits
  rw[Tryz.underlying129]
  simp[cells137,cells3,cells9,k3,k9]
 refine⟨.string (keyBytes [.int .i64 o,.string s.data.toList]),?_⟩
 unfold keyOf
 rw[Tryz.underlying129]
 simp only[type137,hf,Bool.and_self,if_true,size258]
 have e:(Value.agg #[.int .i64 o,.string s]).cells.toList=[.int .i64 o,.string s]:=rfl
 rw[e,hl]
 rfl
theorem zero3m (w:World):(zeroValue 3).run Tryz.prog w = .ok (.int .i64 0) w:=by kernel_rfl
open Classical in
def MapIs (w:World)(k:TypeId)(b:Nat)(F:Value→Option Int)(n:Nat):Prop:=
 ∃D:DataW Unit,w.ownsMap Tryz.prog k (plainElem Tryz.prog 3) b n D∧∀key kl,keyOf Tryz.prog k key=some kl→Maps.has D kl=(F key).isSome∧D.atKey kl (.lit (.int .i64 0)) = .lit (.int .i64 ((F key).getD 0))
section
variable {w w':World} {k t:TypeId} {b n:Nat} {F:Value→Option Int}
theorem MapIs.made (w:World)(k:TypeId):MapIs (w.alloc (.map #[] 0)) k w.heap.size (fun _=>none) 0:=
 ⟨.map [],World.ownsMap_made _ _ _ _,fun _ _ _=>⟨rfl,rfl⟩⟩
theorem MapIs.lt (h:MapIs w k b F n):b<w.heap.size:=h.choose_spec.1.lt
theorem MapIs.kept {row:Option Nat}(h:MapIs w k b F n)(hg:w.grownBy w' row)(hne:some b≠row):MapIs w' k b F n:=by
 obtain⟨D,h1,h2⟩:=h
 exact⟨D,h1.kept hg hne,h2⟩
theorem MapIs.same (h:MapIs w k b F n)(hb:w'.heap[b]?=w.heap[b]?):MapIs w' k b F n:=by
 obtain⟨D,⟨es,clock,h1,h3⟩,h2⟩:=h
 exact⟨D,⟨es,clock,hb.trans h1,h3⟩,h2⟩
theorem MapIs.below {m:Nat}(h:MapIs w k b F n)(hb:Below m w w')(hl:b<m):MapIs w' k b F n:=h.same (hb.block b hl)
theorem MapIs.mono {m:Nat}(h:MapIs w k b F n)(hm:n≤m):MapIs w k b F m:=by
 obtain⟨D,h1,h2⟩:=h
 exact⟨D,h1.mono hm,h2⟩
theorem MapIs.congr {G:Value→Option Int}(h:MapIs w k b F n)(e:∀x kl,keyOf Tryz.prog k x=some kl→F x=G x):MapIs w k b G n:=by
 obtain⟨D,h1,h2⟩:=h
 exact⟨D,h1,fun key kl hk=>by rw[← e key kl hk];exact h2 key kl hk⟩
theorem MapIs.look (h:MapIs w k b F n)(K:Keyed Tryz.prog k)(ht:Tryz.prog.underlying t=some (.map k 3)){key:Value}{kl:Lit}(hk:keyOf Tryz.prog k key=some kl) :
  (Instr.lookup t (.map (some b)) key true).run Tryz.prog w = .ok (.tuple #[.int .i64 ((F key).getD 0),.bool (F key).isSome]) w:=by
 obtain⟨D,h1,h2⟩:=h
 obtain⟨v,ps,hrun,hv⟩:=h1.look_ok K ht (zero3m w) (plainElem_int Tryz.underlying3 (by decide)) hk
 obtain⟨e1,e2⟩:=h2 key kl hk
 obtain⟨a,rfl,hz,_⟩:=plainElem_int_inv Tryz.underlying3 hv
 rw[hrun,e1]
 rw[e2]at hz
 simp only[Prod.mk.injEq,DataW.lit.injEq,Lit.int.injEq,true_and]at hz
 rw[hz.1]
theorem MapIs.look1 (h:MapIs w k b F n)(K:Keyed Tryz.prog k)(ht:Tryz.prog.underlying t=some (.map k 3)){key:Value}{kl:Lit}(hk:keyOf Tryz.prog k key=some kl) :
  (Instr.lookup t (.map (some b)) key false).run Tryz.prog w = .ok (.int .i64 ((F key).getD 0)) w:=by
 obtain⟨D,h1,h2⟩:=h
 obtain⟨c,hrun,hat,_⟩:=h1.lookup_int K ht Tryz.underlying3 (zero3m w) hk
 obtain⟨e1,e2⟩:=h2 key kl hk
 rw[e2]at hat
 simp only[DataW.lit.injEq,Lit.int.injEq,true_and]at hat
 rw[hrun,hat]
open Classical in
theorem MapIs.put (h:MapIs w k b F n)(K:Keyed Tryz.prog k)(ht:Tryz.prog.underlying t=some (.map k 3))(hn:n<100000){key:Value}{kl:Lit}(hk:keyOf Tryz.prog k key=some kl){v:Int}(hv:(Lit.int .i64 v).wf=true) :
  ∃w',(Instr.mapUpdate t (.map (some b)) key (.int .i64 v)).run Tryz.prog w = .ok () w'∧MapIs w' k b (fun x=>if x=key then some v else F x) (n+1)∧w.grownBy w' (some b):=by
 obtain⟨D,h1,h2⟩:=h
 obtain⟨w',hrun,hown,hg⟩:=h1.update K ht (by unfold maxLen;omega) hk (plainElem_int Tryz.underlying3 hv)
 refine⟨w',hrun,⟨_,hown,fun key' kl' hk' =>?_⟩,hg⟩
 by_cases e:key'=key
 ·subst e
  obtain rfl:kl'=kl:=by rw[hk]at hk';exact(Option.some.inj hk').symm
  simp only[if_pos]
  exact⟨has_put_same h1.isMap (K.key hk) _,atKey_put_same h1.isMap (K.key hk) _ _⟩
 ·have hne:kl'≠kl:=fun e2=>e (K.inj (e2▸hk') hk)
  simp only[if_neg e]
  rw[has_put_other hne,atKey_put_other hne]
  exact h2 key' kl' hk'
end
end Go.Proofs.YtedkgofehbecmaaGreatDoor
namespace Go.Proofs.YtedkgofehbecmaaGreatDoor.Tr
open Go Go.RowKit Go.Shelf
attribute [local go_sem] Oper.semAt_some
structure NV where
 kd:Int
 n:Int
 pl:Int
 tx:ByteArray
 K:Option Addr
 m:Nat
 c:Nat
def NV.no:NV:=⟨0,0,0,⟨#[]⟩,none,0,0⟩
def NV.v (x:NV):Value :=.agg #[.int .i64 x.kd,.int .i64 x.n,.int .i64 x.pl,.string x.tx,.slice x.K x.m x.c]
structure NV.In (x:NV) (w:World) (b i:Nat):Prop where
 c0:w.cell? ⟨b,i,none⟩=some (.int .i64 x.kd)
 c1:w.cell? ⟨b,i+1,none⟩=some (.int .i64 x.n)
 c2:w.cell? ⟨b,i+2,none⟩=some (.int .i64 x.pl)
 c3:w.cell? ⟨b,i+3,none⟩=some (.string x.tx)
 c4:w.cell? ⟨b,i+4,none⟩=some (.slice x.K x.m x.c)
theorem NV.In.below {x:NV}{w w':World}{b i n₀:Nat}(h:x.In w b i)(hb:Below n₀ w w')(hl:b<n₀):x.In w' b i:=
 ⟨(hb.cell (p:=⟨b,i,none⟩) hl).trans h.c0,(hb.cell (p:=⟨b,i+1,none⟩) hl).trans h.c1,(hb.cell (p:=⟨b,i+2,none⟩) hl).trans h.c2,(hb.cell (p:=⟨b,i+3,none⟩) hl).trans h.c3,(hb.cell (p:=⟨b,i+4,none⟩) hl).trans h.c4⟩
def seqF (n m:Nat):List (Fin n):=((List.finRange n).drop m).reverse
theorem seqF_step {n m:Nat}(h:m<n):seqF n m=seqF n (m+1)++[⟨m,h⟩]:=by
 unfold seqF
 rw[List.drop_eq_getElem_cons (by simpa using h),List.reverse_cons]
 simp
theorem seqF_end (n:Nat):seqF n n=[]:=by unfold seqF;simp
theorem seqF_len (n m:Nat):(seqF n m).length=n-m:=by unfold seqF;simp
set_option maxRecDepth 100000 in
set_option maxHeartbeats 1500000 in
theorem back1n_in (l Bs n₀:Nat)(A:Option Addr)(cap n:Nat)(nv:Nat→NV)(J Jx:List (Fin n)→World→Prop)
  (hY:∀(pre:List (Fin n)) (x:Fin n) W,J pre W→pre.length<n→YieldAt Fence.wide 1 Tryz.prog l #[.int .i64 ((x:Nat):Int),(nv x).v] W fun e W'=>
   (e = .returned (.bool true)∧J (pre++[x]) W'∧KpB n₀ Bs W W')∨(e = .returned (.bool false)∧Jx (pre++[x]) W')) (hn4:n≤4000000)
  (W:World) (hBs:W.cell? ⟨Bs,0,none⟩=some (.slice A n cap)) (hA:∀j,j<n→∃b off,A=some ⟨b,off,none⟩∧b<n₀∧(nv j).In W b (off+j*5)) (h0:J [] W) :
  CallsIn Fence.wide 2 Tryz.prog 161 #[.func (.yield l) #[] #[],.pointer (some ⟨Bs,0,none⟩)] W fun e W'=>(∃v,e = .returned v) ∧
   ((∃ys,ys=seqF n 0∧J ys W')∨(∃pre,(∃k,k≤n∧pre=seqF n k)∧Jx pre W')):=by
 refine callsIn_of_wp Tryz.func161 rfl trivial ?_ rfl
 simp only[Tryz.ntmps161,List.size_toArray,List.length_cons,List.length_nil,Nat.reduceAdd,Nat.reduceSub,Array.replicate_succ,Array.replicate_zero,List.push_toArray,List.append_toArray,List.nil_append,List.cons_append]
 gi_wp2
 gi_loopw [3] (fun i wr=>∃m:Nat,m≤n∧i = .int .i64 ((m:Int)-1)∧J (seqF n m) wr∧Below n₀ W wr∧wr.cell? ⟨Bs,0,none⟩=W.cell? ⟨Bs,0,none⟩)
  (fun i _=>(intOf i+1).toNat)
 case atStart=>exact⟨n,Nat.le_refl _,by go_num,by rw[seqF_end];exact h0,Below.refl _ _,rfl⟩
 case round=>
  obtain⟨m,hm,rfl,hJs,hnx,hcB⟩:=hrel
  rw[hBs]at hcB
  cases m with
  |zero=>
   gi_wp2
   go_end0
   exact⟨⟨_,rfl⟩,.inl ⟨_,rfl,hJs⟩⟩
  |succ m=>
   rw[show(((m+1:Nat):Int)-1)=(m:Int)by omega]
   obtain⟨b,off,rfl,hb,hc⟩:=hA m (by omega)
   have hcx:=NV.In.below hc hnx hb
   have HU:=Lib.hid (seqF_step (n:=n) (m:=m) (by omega))
   obtain⟨fn,tmps,assign,body,hy,hR⟩:=hY _ ⟨m,by omega⟩ wr hJs (by rw[seqF_len];omega)
   dsimp only[NV.v]at hy
   generalize nv m=z at *
   obtain⟨z0,z1,z2,z3,z4,z5,z6⟩:=z
   obtain⟨y0,y1,y2,y3,y4⟩:=hcx
   dsimp only at y0 y1 y2 y3 y4
   have hm0:(0:Int)≤(m:Int):=by omega
   gi_wp2
   refine hR.mono ?_
   rintro e W3 (⟨rfl,hJ3,hk3⟩ |⟨rfl,hJx3⟩)
   ·have hcB3:W3.cell? ⟨Bs,0,none⟩=some (.slice (some ⟨b,off,none⟩) n cap):=(cell_same hk3.2 0).trans hcB
    gi_wp2
    go_roundw
    case rel=>exact⟨m,by omega,by go_num,by rw[HU.out];exact hJ3,hnx.trans hk3.1,hcB3.trans hBs.symm⟩
    case measure=>simp[intOf]
   ·gi_wp2
    refine bodyPost_ret (results_none rfl _ _ _) rfl ?_
    exact⟨⟨_,rfl⟩,.inr ⟨_,⟨m,by omega,HU.out.symm⟩,hJx3⟩⟩
set_option maxHeartbeats 1000000 in
theorem backn_in (A:Option Addr)(len cap:Nat)(w:World) :
  CallsIn Fence.wide 2 Tryz.prog 104 #[.slice A len cap] w fun e w'=>e = .returned (.func (.func 161) #[] #[.pointer (some ⟨w.heap.size,0,none⟩)])∧w'=w.alloc (.cells #[.slice A len cap] 22):=by
 refine callsIn_of_wp Tryz.func104 rfl trivial ?_ rfl
 simp only[Tryz.ntmps104,List.size_toArray,List.length_cons,List.length_nil,Nat.reduceAdd,Nat.reduceSub,Array.replicate_succ,Array.replicate_zero,List.push_toArray,List.append_toArray,List.nil_append,List.cons_append]
 gi_wp2
 go_ret
 exact⟨rfl,rfl⟩
theorem backn_stops (Bs n₀:Nat)(A:Option Addr)(cap n:Nat)(nv:Nat→NV)(hn4:n≤4000000)(w:World)(hBs:Bs<w.heap.size)(hn₀:n₀≤w.heap.size)
  (hc:w.cell? ⟨Bs,0,none⟩=some (.slice A n cap)) (hA:∀j,j<n→∃b off,A=some ⟨b,off,none⟩∧b<n₀∧(nv j).In w b (off+j*5)) :
  SeqStopsK Fence.wide 2 Tryz.prog 161 #[.pointer (some ⟨Bs,0,none⟩)] (fun x:Fin n => #[Value.int .i64 ((x:Nat):Int),(nv x).v]) (KpB n₀ Bs) (fun ys=>ys=seqF n 0)
   (fun pre=>∃k,k≤n∧pre=seqF n k) n w:=fun l J Jx W hW _ _ hY h0=>by
 have hc':=(hW.cell (p:=⟨Bs,0,none⟩) hBs).trans hc
 refine back1n_in l Bs n₀ A cap n nv J Jx hY hn4 W hc' (fun j hj =>?_) h0
 obtain⟨b,off,e,hb,h⟩:=hA j hj
 exact⟨b,off,e,hb,h.below hW (show b<w.heap.size by omega)⟩
end Go.Proofs.YtedkgofehbecmaaGreatDoor.Tr
