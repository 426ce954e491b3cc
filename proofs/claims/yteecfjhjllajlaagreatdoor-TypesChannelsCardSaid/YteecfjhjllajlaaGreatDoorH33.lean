/- PROVED here: parts Ce Ca TkQ TkX Cb of the claim. No condition but those in each theorem's own head. -/
import Derived.Test.YteecfjhjllajlaaGreatDoorH31
import Derived.Test.YteecfjhjllajlaaGreatDoorH32
import Derived.RangeFuncNested
import Derived.Test.YteecfjhjllajlaaGreatDoorH05
import Derived.Test.YteecfjhjllajlaaGreatDoorH25
import Derived.Test.YteecfjhjllajlaaGreatDoorH23
import Derived.Lib.Join
import Derived.BigQuiet
namespace Go.Proofs.YteecfjhjllajlaaGreatDoor
section
open Go Go.RowKit
open Tr (Bx heap1 bt Nds Ints Ib mkI seqF KpB)
structure RdS where
 ow:Int
 ar:Nat→Int
 dc:Value→Option Int
 pc:Value→Option Int
def rd0:RdS:=⟨-1,fun _=>0,fun _=>none,fun _=>none⟩
def owS (l:List Tr.Nd)(o:Int)(k:Nat):Int:=if (ndA l k).kd=2 then -1 else if (ndA l k).kd=3 then (k:Int) else o
def dcK (o:Int)(nm:ByteArray):Value :=.agg #[.int .i64 o,.string nm]
open Classical in
noncomputable def rdS (l:List Tr.Nd)(s:RdS)(k:Nat):RdS where
 ow:=owS l s.ow k
 ar:=fun j=>if j=k then owS l s.ow k else s.ar j
 dc:=fun v=>if decB (ndA l k).kd=true∧v=dcK (owS l s.ow k) (ndA l k).tx then some (k:Int) else s.dc v
 pc:=fun v=>if (ndA l k).kd=3∧v = .string (ndA l k).tx then some (k:Int) else s.pc v
noncomputable def rdL (l:List Tr.Nd)(ks:List Nat):RdS:=ks.foldl (rdS l) rd0
theorem rdL_snoc (l:List Tr.Nd)(ks:List Nat)(k:Nat):rdL l (ks++[k])=rdS l (rdL l ks) k:=by unfold rdL;rw[List.foldl_append];rfl
theorem rdL_ow (l:List Tr.Nd)(N:Nat):∀(ks:List Nat) (s:RdS),(∀k ∈ ks,k<N) → -1≤s.ow∧s.ow≤(N:Int) → -1≤(ks.foldl (rdS l) s).ow∧(ks.foldl (rdS l) s).ow≤(N:Int)
 | [],_,_,h=>h
 |k :: ks,s,hk,h=>by
  refine rdL_ow l N ks (rdS l s k) (fun j hj=>hk j (List.mem_cons_of_mem _ hj)) ?_
  have:=hk k (List.mem_cons_self ..)
  show -1≤owS l s.ow k∧owS l s.ow k≤(N:Int)
  unfold owS
  split
  ·omega
  ·split<;>omega
def dclF (l:List Tr.Nd)(p:Nat)(v:Value):Option Int:=
 match v with
 | .agg cs=>match cs.toList with
  | [.int .i64 o,.string nm]=>(dcF l o nm p).map fun q=>(q:Int)
  |_=>none
 |_=>none
def prcF (l:List Tr.Nd)(p:Nat)(v:Value):Option Int:=
 match v with
 | .string nm=>(prF l nm p).map fun q=>(q:Int)
 |_=>none
theorem dclF_none {l:List Tr.Nd}{p:Nat}{v:Value}(h:∀o nm,v≠dcK o nm):dclF l p v=none:=by
 unfold dclF
 split
 ·rename_i cs
  split
  ·rename_i o nm e
   exact absurd (show Value.agg cs=dcK o nm from congrArg Value.agg (by cases cs;simp_all)) (h o nm)
  ·rfl
 ·rfl
theorem prcF_none {l:List Tr.Nd}{p:Nat}{v:Value}(h:∀nm,v ≠ .string nm):prcF l p v=none:=by
 unfold prcF
 split
 ·rename_i nm;exact absurd rfl (h nm)
 ·rfl
theorem dcK_inj {o o':Int}{nm nm':ByteArray}(h:dcK o nm=dcK o' nm'):o=o'∧nm=nm':=by
 unfold dcK at h
 simpa using h
theorem dclF_at (l:List Tr.Nd)(p:Nat)(o:Int)(nm:ByteArray):dclF l p (dcK o nm)=(dcF l o nm p).map fun q=>(q:Int):=rfl
theorem prcF_at (l:List Tr.Nd)(p:Nat)(nm:ByteArray):prcF l p (.string nm)=(prF l nm p).map fun q=>(q:Int):=rfl
theorem dclF_end (l:List Tr.Nd){p:Nat}(h:l.length≤p)(v:Value):dclF l p v=none:=by
 by_cases hv:∃o nm,v=dcK o nm
 ·obtain⟨o,nm,rfl⟩:=hv
  rw[dclF_at];unfold dcF;rw[fstA_end h];rfl
 ·exact dclF_none fun o nm e=>hv ⟨o,nm,e⟩
theorem prcF_end (l:List Tr.Nd){p:Nat}(h:l.length≤p)(v:Value):prcF l p v=none:=by
 by_cases hv:∃nm,v = .string nm
 ·obtain⟨nm,rfl⟩:=hv
  rw[prcF_at];unfold prF;rw[fstA_end h];rfl
 ·exact prcF_none fun nm e=>hv ⟨nm,e⟩
open Classical in
theorem dclF_step {l:List Tr.Nd}{p:Nat}(h:p<l.length)(v:Value):dclF l p v=if decB (ndA l p).kd=true∧v=dcK (owA l p) (ndA l p).tx then some (p:Int) else dclF l (p+1) v:=by
 by_cases hv:∃o nm,v=dcK o nm
 ·obtain⟨o,nm,rfl⟩:=hv
  rw[dclF_at,dclF_at]
  unfold dcF
  rw[fstA_step h]
  by_cases hB:dcB l o nm p=true
  ·have h2:=hB
   unfold dcB at h2
   simp only[Bool.and_eq_true,decide_eq_true_eq]at h2
   rw[if_pos hB,if_pos ⟨h2.1,by rw[h2.2.1,h2.2.2]⟩];rfl
  ·rw[if_neg hB,if_neg]
   rintro⟨h1,h2⟩
   obtain⟨e1,e2⟩:=dcK_inj h2
   exact hB (by unfold dcB;simp[h1,e1,e2])
 ·rw[if_neg (fun h=>hv ⟨_,_,h.2⟩),dclF_none fun o nm e=>hv ⟨o,nm,e⟩,dclF_none fun o nm e=>hv ⟨o,nm,e⟩]
open Classical in
theorem prcF_step {l:List Tr.Nd}{p:Nat}(h:p<l.length)(v:Value):prcF l p v=if (ndA l p).kd=3∧v = .string (ndA l p).tx then some (p:Int) else prcF l (p+1) v:=by
 by_cases hv:∃nm,v = .string nm
 ·obtain⟨nm,rfl⟩:=hv
  rw[prcF_at,prcF_at]
  unfold prF
  rw[fstA_step h]
  by_cases hB:prB l nm p=true
  ·have h2:=hB
   unfold prB at h2
   simp only[Bool.and_eq_true,decide_eq_true_eq]at h2
   rw[if_pos hB,if_pos ⟨h2.1,by rw[h2.2]⟩];rfl
  ·rw[if_neg hB,if_neg]
   rintro⟨h1,h2⟩
   exact hB (by unfold prB;simp at h2;simp[h1,h2])
 ·rw[if_neg (fun h=>hv ⟨_,h.2⟩),prcF_none fun nm e=>hv ⟨nm,e⟩,prcF_none fun nm e=>hv ⟨nm,e⟩]
def downL (n m:Nat):List Nat:=(seqF n m).map (·.val)
theorem rdL_down (l:List Tr.Nd):∀(k m:Nat),l.length-m=k→m≤l.length→(rdL l (downL l.length m)).ow=owA l m∧(∀j,m≤j→j<l.length→(rdL l (downL l.length m)).ar j=owA l j)∧(∀v,(rdL l (downL l.length m)).dc v=dclF l m v)∧∀v,(rdL l (downL l.length m)).pc v=prcF l m v
 |0,m,hk,hm=>by
  obtain rfl:m=l.length:=by omega
  have e:downL l.length l.length=[]:=by unfold downL;rw[Tr.seqF_end];rfl
  rw[e]
  exact⟨(owA_end (Nat.le_refl _)).symm,fun j h1 h2=>by omega,fun v=>(dclF_end l (Nat.le_refl _) v).symm,fun v=>(prcF_end l (Nat.le_refl _) v).symm⟩
 |k+1,m,hk,hm=>by
  have hlt:m<l.length:=by omega
  obtain⟨h1,h2,h3,h4⟩:=rdL_down l k (m+1) (by omega) (by omega)
  have e:downL l.length m=downL l.length (m+1)++[m]:=by unfold downL;rw[Tr.seqF_step hlt,List.map_append];rfl
  rw[e,rdL_snoc]
  have ho:owS l (rdL l (downL l.length (m+1))).ow m=owA l m:=by rw[h1,owA_step hlt];rfl
  refine⟨ho,fun j hj1 hj2 =>?_,fun v =>?_,fun v =>?_⟩
  ·show(if j=m then owS l _ m else _)=_
   by_cases e2:j=m
   ·subst e2;rw[if_pos rfl,ho]
   ·rw[if_neg e2];exact h2 j (by omega) hj2
  ·rw[dclF_step hlt,← h3,← ho];rfl
  ·rw[prcF_step hlt,← h4];rfl
section
variable {l:List Tr.Nd} {s:RdS} {k:Nat} {kd:Int} {tx:ByteArray} {OW:Int}
theorem rdS_a (ho:owS l s.ow k=OW):(rdS l s k).ow=OW∧∀j,(if j=k then OW else s.ar j)=(rdS l s k).ar j:=⟨ho,fun j=>by unfold rdS;simp only[ho]⟩
open Classical in
theorem rdS_dc1 (hk:kd=(ndA l k).kd)(ht:tx=(ndA l k).tx)(ho:owS l s.ow k=OW)(hd:decB kd=true)(v:Value):(if v=dcK OW tx then some (k:Int) else s.dc v)=(rdS l s k).dc v:=by
 unfold rdS
 simp only[ho,← hk,← ht,hd,true_and]
theorem rdS_dc0 (hk:kd=(ndA l k).kd)(hd:decB kd=false)(v:Value):s.dc v=(rdS l s k).dc v:=by
 unfold rdS
 simp only[← hk,hd,Bool.false_eq_true,false_and,if_false]
open Classical in
theorem rdS_pc1 (hk:3=(ndA l k).kd)(ht:tx=(ndA l k).tx)(v:Value):(if v = .string tx then some (k:Int) else s.pc v)=(rdS l s k).pc v:=by
 unfold rdS
 simp only[← hk,← ht,true_and]
theorem rdS_pc0 (hk:kd=(ndA l k).kd)(hd:kd≠3)(v:Value):s.pc v=(rdS l s k).pc v:=by
 unfold rdS
 simp only[← hk,hd,false_and,if_false]
end
structure RdB (w:World) (A:Option Addr) (n c G B:Nat) (X0:World) (ow:Int) (ar:Nat→Int) (dc pc:Value→Option Int) (cd cp:Nat) (X:World):Prop where
 z:Bx X (w.heap.size+1) 83 [.slice none 0 0,.slice none 0 0,.map none,.map none]
 p:Bx X (w.heap.size+1+1+1+1) 83 [.slice A n c,.slice (some ⟨G,0,none⟩) n n,.map (some (w.heap.size+1+1)),.map (some (w.heap.size+1+1+1))]
 d:MapIs X 137 (w.heap.size+1+1) dc cd
 q:MapIs X 9 (w.heap.size+1+1+1) pc cp
 o:Ib X G n ar
 s:Bx X (G+1) 3 [.int .i64 ow]
 b:Below w.heap.size w X
 k:KeepsFrom B X0 X
 kp:KpB w.heap.size (G+1+1) X0 X
 g:w.heap.size+1+1+1+1<G
 gB:G+1+1<B
section
variable {w:World} {A:Option Addr} {n c G B:Nat} {X0 X Y:World} {ow:Int} {ar:Nat→Int} {dc pc:Value→Option Int} {cd cp:Nat}
theorem RdB.own {row:Option Nat}(h:RdB w A n c G B X0 ow ar dc pc cd cp X)(hg:X.grownBy Y row)(hr:∀r,row=some r→B≤r∧∃o:Obj,X.heap[r]?=some o∧o.isCells=false):RdB w A n c G B Y ow ar dc pc cd cp Y:=by
 have hne:∀k,k<B→some k≠row:=fun k hk e=>by have:=(hr k e.symm).1;omega
 have h1:=h.g
 have h2:=h.gB
 exact⟨h.z.grown hg (hne _ (by omega)),h.p.grown hg (hne _ (by omega)),h.d.kept hg (hne _ (by omega)),h.q.kept hg (hne _ (by omega)),h.o.grown hg (hne _ (by omega)),h.s.grown hg (hne _ (by omega)),
  h.b.grown hg h.b.size (fun k e=>by have:=(hr k e).1;omega),KeepsFrom.refl _ _,⟨Below.refl _ _,rfl⟩,h1,h2⟩
theorem RdB.start (h:RdB w A n c G B X0 ow ar dc pc cd cp X):RdB w A n c G B X ow ar dc pc cd cp X:=⟨h.z,h.p,h.d,h.q,h.o,h.s,h.b,KeepsFrom.refl _ _,⟨Below.refl _ _,rfl⟩,h.g,h.gB⟩
theorem kp_set {n₀ Bs b i:Nat}{u:Value}(h:n₀≤b)(hne:Bs≠b):KpB n₀ Bs X (X.setCell ⟨b,i,none⟩ u):=⟨(Below.refl _ X).setCell (p:=⟨b,i,none⟩) h _,heap_setCell_other X _ _ _ hne⟩
theorem kp_trans {n₀ Bs:Nat}{a b c:World}(h:KpB n₀ Bs a b)(k:KpB n₀ Bs b c):KpB n₀ Bs a c:=⟨h.1.trans k.1,k.2.trans h.2⟩
theorem RdB.setw (h:RdB w A n c G B X0 ow ar dc pc cd cp X)(v:Int):RdB w A n c G B X0 v ar dc pc cd cp (X.setCell ⟨G+1,0,none⟩ (.int .i64 v)):=by
 have h1:=h.g
 have h2:=h.gB
 have hne:∀k,k≠G+1→(X.setCell ⟨G+1,0,none⟩ (.int .i64 v)).heap[k]?=X.heap[k]?:=fun k hk=>heap_setCell_other X _ _ _ hk
 exact⟨h.z.same (hne _ (by omega)),h.p.same (hne _ (by omega)),h.d.same (hne _ (by omega)),h.q.same (hne _ (by omega)),(h.o.far (p:=⟨G+1,0,none⟩) (by show G≠G+1;omega) _),h.s.set_ 0 _,
  h.b.setCell (p:=⟨G+1,0,none⟩) (by show _≤G+1;omega) _,h.k.trans ((KeepsOthers.setCell _ _ _).from _),kp_trans h.kp (kp_set (by omega) (by omega)),h1,h2⟩
theorem RdB.seto (h:RdB w A n c G B X0 ow ar dc pc cd cp X)(k:Nat)(v:Int):RdB w A n c G B X0 ow (fun j=>if j=k then v else ar j) dc pc cd cp (X.setCell ⟨G,k,none⟩ (.int .i64 v)):=by
 have h1:=h.g
 have h2:=h.gB
 have hne:∀j,j≠G→(X.setCell ⟨G,k,none⟩ (.int .i64 v)).heap[j]?=X.heap[j]?:=fun j hk=>heap_setCell_other X _ _ _ hk
 exact⟨h.z.same (hne _ (by omega)),h.p.same (hne _ (by omega)),h.d.same (hne _ (by omega)),h.q.same (hne _ (by omega)),h.o.set_ k v,h.s.same (hne _ (by omega)),
  h.b.setCell (p:=⟨G,k,none⟩) (by show _≤G;omega) _,h.k.trans ((KeepsOthers.setCell _ _ _).from _),kp_trans h.kp (kp_set (by omega) (by omega)),h1,h2⟩
theorem kp_grown {n₀ Bs b:Nat}(hg:X.grownBy Y (some b))(h:n₀≤b)(hne:Bs≠b)(hs:n₀≤X.heap.size)(hl:Bs<X.heap.size):KpB n₀ Bs X Y:=
 ⟨(Below.refl _ X).grown hg hs (fun k e=>by cases e;exact h),hg.block Bs hl (fun e=>hne (Option.some.inj e))⟩
open Classical in
theorem RdB.putd (h:RdB w A n c G B X0 ow ar dc pc cd cp X)(hcd:cd<100000)(hl:G+1+1<X.heap.size)(o:Int)(nm:ByteArray)(ho:(Lit.int .i64 o).wf=true)(hn:nm.size≤281474976710656)(v:Int)(hv:(Lit.int .i64 v).wf=true) :
  ∃Y,(Instr.mapUpdate 80 (.map (some (w.heap.size+1+1))) (.agg #[.int .i64 o,.string nm]) (.int .i64 v)).run Tryz.prog X = .ok () Y∧RdB w A n c G B X0 ow ar (fun x=>if x=dcK o nm then some v else dc x) pc (cd+1) cp Y∧X.heap.size≤Y.heap.size:=by
 have h1:=h.g
 have h2:=h.gB
 obtain⟨kl,hk⟩:=keyOfC o nm ho hn
 obtain⟨Y,hrun,hM,hg⟩:=h.d.put keyC Tryz.underlying80 hcd hk hv
 have hne:∀k,k≠w.heap.size+1+1→some k≠some (w.heap.size+1+1):=fun k hk e=>hk (Option.some.inj e)
 exact⟨Y,hrun,⟨h.z.grown hg (hne _ (by omega)),h.p.grown hg (hne _ (by omega)),hM,h.q.kept hg (hne _ (by omega)),h.o.grown hg (hne _ (by omega)),h.s.grown hg (hne _ (by omega)),
  h.b.grown hg h.b.size (fun k e=>by cases e;omega),h.k.trans (KeepsFrom.of_grownBy hg (fun j e=>by cases e;omega)),kp_trans h.kp (kp_grown hg (by omega) (by omega) h.b.size hl),h1,h2⟩,hg.size⟩
open Classical in
theorem RdB.putp (h:RdB w A n c G B X0 ow ar dc pc cd cp X)(hcp:cp<100000)(hl:G+1+1<X.heap.size)(nm:ByteArray)(hn:nm.size≤281474976710656)(v:Int)(hv:(Lit.int .i64 v).wf=true) :
  ∃Y,(Instr.mapUpdate 81 (.map (some (w.heap.size+1+1+1))) (.string nm) (.int .i64 v)).run Tryz.prog X = .ok () Y∧RdB w A n c G B X0 ow ar dc (fun x=>if x = .string nm then some v else pc x) cd (cp+1) Y∧X.grownBy Y (some (w.heap.size+1+1+1)):=by
 have h1:=h.g
 have h2:=h.gB
 obtain⟨Y,hrun,hM,hg⟩:=h.q.put keyS Tryz.underlying81 hcp (keyOfS nm hn) hv
 have hne:∀k,k≠w.heap.size+1+1+1→some k≠some (w.heap.size+1+1+1):=fun k hk e=>hk (Option.some.inj e)
 exact⟨Y,hrun,⟨h.z.grown hg (hne _ (by omega)),h.p.grown hg (hne _ (by omega)),h.d.kept hg (hne _ (by omega)),hM,h.o.grown hg (hne _ (by omega)),h.s.grown hg (hne _ (by omega)),
  h.b.grown hg h.b.size (fun k e=>by cases e;omega),h.k.trans (KeepsFrom.of_grownBy hg (fun j e=>by cases e;omega)),kp_trans h.kp (kp_grown hg (by omega) (by omega) h.b.size hl),h1,h2⟩,hg⟩
end
end
section
open Go Go.RowKit
open Tr (Bx heap1 bt Nds Ints VPost BPost IPost)
def ownI (l:List Tr.Nd):List Int:=(List.range l.length).map fun p=>owA l p
theorem ownI_len (l:List Tr.Nd):(ownI l).length=l.length:=by simp[ownI]
theorem ownI_at {l:List Tr.Nd}{p:Nat}(h:p<(ownI l).length):(ownI l)[p]=owA l p:=by simp[ownI]
def PrV (A:Option Addr)(n c:Nat)(O:Option Addr)(co bd bp:Nat):Value :=.agg #[.slice A n c,.slice O n co,.map (some bd),.map (some bp)]
structure Prg (w:World) (l:List Tr.Nd) (A:Option Addr) (n:Nat) (O:Option Addr) (bd bp:Nat):Prop where
 nds:Nds w A l
 len:n=l.length
 few:n≤4000
 own:Ints w O (ownI l)
 dcl:MapIs w 137 bd (dclF l 0) 5000
 prc:MapIs w 9 bp (prcF l 0) 5000
 kids:∀x ∈ l,x.ks.length≤4000
 text:∀x ∈ l,x.tx.size≤281474976710656
 ahead:Ahead l
theorem Prg.below {w w':World}{l:List Tr.Nd}{A O:Option Addr}{n bd bp:Nat}(h:Prg w l A n O bd bp)(hb:Below w.heap.size w w'):Prg w' l A n O bd bp:=
 ⟨h.nds.below hb,h.len,h.few,h.own.below hb,h.dcl.below hb h.dcl.lt,h.prc.below hb h.prc.lt,h.kids,h.text,h.ahead⟩
theorem optG (o:Option Nat):(o.map fun q=>(q:Int)).isSome=o.isSome∧(o.map fun q=>(q:Int)).getD 0=(match o with|none=>0 |some q=>(q:Int)):=by cases o<;>exact⟨rfl,rfl⟩
def getZ (o:Option Nat):Int:=match o with|none=>0 |some q=>(q:Int)
section
variable {w:World} {l:List Tr.Nd} {A O:Option Addr} {n bd bp:Nat}
theorem Prg.lookd (h:Prg w l A n O bd bp)(o:Int)(nm:ByteArray)(ho:(Lit.int .i64 o).wf=true)(hn:nm.size≤281474976710656) :
  (Instr.lookup 80 (.map (some bd)) (.agg #[.int .i64 o,.string nm]) true).run Tryz.prog w = .ok (.tuple #[.int .i64 (getZ (dcF l o nm 0)),.bool (dcF l o nm 0).isSome]) w:=by
 obtain⟨kl,hk⟩:=keyOfC o nm ho hn
 have:=h.dcl.look keyC Tryz.underlying80 hk
 rw[this]
 show Result.ok (Value.tuple #[.int .i64 (((dcF l o nm 0).map fun q=>(q:Int)).getD 0),.bool (((dcF l o nm 0).map fun q=>(q:Int)).isSome)]) w=_
 rw[(optG _).1,(optG _).2];rfl
theorem Prg.lookd1 (h:Prg w l A n O bd bp)(o:Int)(nm:ByteArray)(ho:(Lit.int .i64 o).wf=true)(hn:nm.size≤281474976710656) :
  (Instr.lookup 80 (.map (some bd)) (.agg #[.int .i64 o,.string nm]) false).run Tryz.prog w = .ok (.int .i64 (getZ (dcF l o nm 0))) w:=by
 obtain⟨kl,hk⟩:=keyOfC o nm ho hn
 have:=h.dcl.look1 keyC Tryz.underlying80 hk
 rw[this]
 show Result.ok (Value.int .i64 (((dcF l o nm 0).map fun q=>(q:Int)).getD 0)) w=_
 rw[(optG _).2];rfl
theorem Prg.lookp (h:Prg w l A n O bd bp)(nm:ByteArray)(hn:nm.size≤281474976710656) :
  (Instr.lookup 81 (.map (some bp)) (.string nm) true).run Tryz.prog w = .ok (.tuple #[.int .i64 (getZ (prF l nm 0)),.bool (prF l nm 0).isSome]) w:=by
 have:=h.prc.look keyS Tryz.underlying81 (keyOfS nm hn)
 rw[this]
 show Result.ok (Value.tuple #[.int .i64 (((prF l nm 0).map fun q=>(q:Int)).getD 0),.bool (((prF l nm 0).map fun q=>(q:Int)).isSome)]) w=_
 rw[(optG _).1,(optG _).2];rfl
theorem Prg.lookp1 (h:Prg w l A n O bd bp)(nm:ByteArray)(hn:nm.size≤281474976710656) :
  (Instr.lookup 81 (.map (some bp)) (.string nm) false).run Tryz.prog w = .ok (.int .i64 (getZ (prF l nm 0))) w:=by
 have:=h.prc.look1 keyS Tryz.underlying81 (keyOfS nm hn)
 rw[this]
 show Result.ok (Value.int .i64 (((prF l nm 0).map fun q=>(q:Int)).getD 0)) w=_
 rw[(optG _).2];rfl
theorem Prg.owner_at {w0 w:World}(h:Prg w0 l A n O bd bp)(hb:Below w0.heap.size w0 w){p:Nat}(hp:p<n):∃b off,O=some ⟨b,off,none⟩∧b<w.heap.size∧w.cell? ⟨b,off+p,none⟩=some (.int .i64 (owA l p)):=by
 have hl:p<(ownI l).length:=by rw[ownI_len,← h.len];exact hp
 obtain⟨b,off,e,hlt,hc⟩:=h.own (by omega)
 refine⟨b,off,e,Nat.lt_of_lt_of_le hlt hb.size,(hb.cell (p:=⟨b,off+p,none⟩) hlt).trans ?_⟩
 rw[hc p hl,ownI_at]
theorem owA_wf (l:List Tr.Nd)(p:Nat)(h:l.length≤4000):(Lit.int .i64 (owA l p)).wf=true:=by
 rcases owA_range l p with e |⟨q,e,h1,h2,_⟩
 ·rw[e];decide
 ·rw[e]
  exact WalkArith.wf_i64 (by omega)
end
end
end Go.Proofs.YteecfjhjllajlaaGreatDoor
namespace Go.Proofs.YteecfjhjllajlaaGreatDoor.Tk
section
open Go Go.RowKit
def pc:List UInt8→List UInt8
 | []=>[]
 |c :: t=>if wdB c then c :: t.takeWhile wdB else match t with
  | []=>[c]
  |d :: _=>if signB [c,d] then [c,d] else [c]
def bulk (ts:List Tok):Nat:=(ts.map fun t=>t.s.length).sum
theorem Toks.some {w:World}{A:Option Addr}{ts:List Tok}(h:Toks w A ts)(h0:0<ts.length):∃b off,A=some ⟨b,off,none⟩∧b<w.heap.size:=by
 obtain⟨b,off,e,hb,_⟩:=h h0;exact⟨b,off,e,hb⟩
end
section
open Go Go.RowKit
open Go.Shelf
structure RTok where
 k:Int
 n:Int
 p:Int
 s:List UInt8
def RToks (w:World)(A:Option Addr)(ts:List RTok):Prop:=
 0<ts.length→∃b off,A=some ⟨b,off,none⟩∧b<w.heap.size∧∀j (hj:j<ts.length),w.cell? ⟨b,off+j*4,none⟩=some (.int .i64 ts[j].k)∧w.cell? ⟨b,off+j*4+1,none⟩=some (.int .i64 ts[j].n) ∧
  w.cell? ⟨b,off+j*4+2,none⟩=some (.int .i64 ts[j].p)∧w.cell? ⟨b,off+j*4+3,none⟩=some (.string (bs ts[j].s))
theorem RToks.below {w w':World}{A:Option Addr}{ts:List RTok}(h:RToks w A ts)(hb:Below w.heap.size w w'):RToks w' A ts:=fun h0=>by
 obtain⟨b,off,e,hl,hc⟩:=h h0
 refine⟨b,off,e,Nat.lt_of_lt_of_le hl hb.size,fun j hj =>?_⟩
 obtain⟨c0,c1,c2,c3⟩:=hc j hj
 exact⟨(hb.cell (p:=⟨b,off+j*4,none⟩) hl).trans c0,(hb.cell (p:=⟨b,off+j*4+1,none⟩) hl).trans c1,(hb.cell (p:=⟨b,off+j*4+2,none⟩) hl).trans c2,(hb.cell (p:=⟨b,off+j*4+3,none⟩) hl).trans c3⟩
theorem info9:(Tryz.prog.info? 9).map (fun i=>(i.zero,i.size,i.bytes))=some (some (.string ⟨#[]⟩),1,16):=by kernel_rfl
end
end Go.Proofs.YteecfjhjllajlaaGreatDoor.Tk
namespace Go.Proofs.YteecfjhjllajlaaGreatDoor
section
set_option maxHeartbeats 1500000
set_option maxRecDepth 100000
open Go Go.RowKit
open Tr (Bx heap1 bt Nds Ints VPost BPost IPost)
theorem z_eq0 {n:Nat}(h:n=0):((n:Int)==0)=true:=by subst h;rfl
theorem z_ne0 {n:Nat}(h:n≠0):((n:Int)==0)=false:=beq_eq_false_iff_ne.2 (by omega)
section
variable {w:World} {l:List Tr.Nd} {A O:Option Addr} {n bd bp:Nat}
theorem isNothing_any (w:World)(A O:Option Addr)(n bd bp c co:Nat):Calls Tryz.prog 81 #[PrV A n c O co bd bp] w (BPost (decide (n=0)) w):=by
 unfold PrV
 have hb0:=heap1 w (.cells #[.slice A n c,.slice O n co,.map (some bd),.map (some bp)] 83)
 have HB0:=Lib.hid hb0
 by_cases e:n=0
 ·have hz:=z_eq0 e
  rw[decide_eq_true e]
  clear e
  go_enter Tryz.func81,Tryz.ntmps81
  go_wp2
  go_ret
  exact⟨rfl,HB0.out⟩
 ·have hz:=z_ne0 e
  rw[decide_eq_false e]
  clear e
  go_enter Tryz.func81,Tryz.ntmps81
  go_wp2
  go_ret
  exact⟨rfl,HB0.out⟩
theorem has_any (w:World)(A O:Option Addr)(n bd bp c co:Nat)(z:Int):Calls Tryz.prog 87 #[PrV A n c O co bd bp,.int .i64 z] w (BPost (decide (0≤z)&&decide (z<(n:Int))) w):=by
 unfold PrV
 have hb0:=heap1 w (.cells #[.slice A n c,.slice O n co,.map (some bd),.map (some bp)] 83)
 have HB0:=Lib.hid hb0
 by_cases e:0≤z
 ·have hz:decide (0≤z)=true:=decide_eq_true e
  by_cases e2:z<(n:Int)
  ·have hz2:decide (z<(n:Int))=true:=decide_eq_true e2
   rw[hz,hz2]
   go_enter Tryz.func87,Tryz.ntmps87
   go_wp2
   go_ret
   exact⟨rfl,HB0.out⟩
  ·have hz2:decide (z<(n:Int))=false:=decide_eq_false e2
   rw[hz,hz2]
   go_enter Tryz.func87,Tryz.ntmps87
   go_wp2
   go_ret
   exact⟨rfl,HB0.out⟩
 ·have hz:decide (0≤z)=false:=decide_eq_false e
  rw[hz]
  go_enter Tryz.func87,Tryz.ntmps87
  go_wp2
  go_ret
  exact⟨rfl,HB0.out⟩
theorem procedure_any (h:Prg w l A n O bd bp)(c co:Nat)(nm:ByteArray)(hn:nm.size≤281474976710656):Calls Tryz.prog 91 #[PrV A n c O co bd bp,.string nm] w (Tr.IPost (optZ (prF l nm 0)) w):=by
 unfold PrV
 have hb0:=heap1 w (.cells #[.slice A n c,.slice O n co,.map (some bd),.map (some bp)] 83)
 have HB0:=Lib.hid hb0
 have HL:=(h.below hb0).lookp nm hn
 cases hp:prF l nm 0 with
 |none=>
  rw[hp]at HL
  clear hp h hb0
  go_enter Tryz.func91,Tryz.ntmps91
  go_wp2
  go_ret
  exact⟨rfl,HB0.out⟩
 |some q=>
  rw[hp]at HL
  clear hp h hb0
  go_enter Tryz.func91,Tryz.ntmps91
  go_wp2
  go_ret
  exact⟨rfl,HB0.out⟩
theorem denoted_any (h:Prg w l A n O bd bp)(c co:Nat)(p:Nat)(hp:p<n)(nm:ByteArray)(hn:nm.size≤281474976710656):Calls Tryz.prog 89 #[PrV A n c O co bd bp,.int .i64 (p:Int),.string nm] w (Tr.IPost (optZ (dnA l p nm)) w):=by
 unfold PrV
 have hb0:=heap1 w (.cells #[.slice A n c,.slice O n co,.map (some bd),.map (some bp)] 83)
 have HB0:=Lib.hid hb0
 obtain⟨b,off,rfl,hlt,hc⟩:=h.owner_at (w:=w.alloc (.cells #[.slice A n c,.slice O n co,.map (some bd),.map (some bp)] 83)) hb0 hp
 have hpz:(p:Int)<(n:Int):=by omega
 have how:=owA_wf l p (by rw[← h.len];exact h.few)
 have HL:=(h.below hb0).lookd (owA l p) nm how hn
 have HM:=(h.below hb0).lookd (-1) nm (by decide) hn
 unfold dnA
 clear h hb0
 by_cases e:owA l p = -1
 ·rw[if_pos e]
  rw[e]at hc
  clear HL how e HM
  go_enter Tryz.func89,Tryz.ntmps89
  go_wp2
  go_ret
  exact⟨rfl,HB0.out⟩
 ·rw[if_neg e]
  have he:(owA l p == -1)=false:=beq_eq_false_iff_ne.2 e
  generalize owA l p=ow at *
  cases hd:dcF l ow nm 0 with
  |some q=>
   rw[hd]at HL
   clear hd how e HM
   go_enter Tryz.func89,Tryz.ntmps89
   go_wp2
   go_ret
   exact⟨rfl,HB0.out⟩
  |none=>
   rw[hd]at HL
   cases hd2:dcF l (-1) nm 0 with
   |some q=>
    rw[hd2]at HM
    clear hd hd2 how e
    go_enter Tryz.func89,Tryz.ntmps89
    go_wp2
    go_ret
    exact⟨rfl,HB0.out⟩
   |none=>
    rw[hd2]at HM
    clear hd hd2 how e
    go_enter Tryz.func89,Tryz.ntmps89
    go_wp2
    go_ret
    exact⟨rfl,HB0.out⟩
end
theorem lst_ne {s:ByteArray}{t:Array UInt8}(h:s≠⟨t⟩):(s.toList==t.toList)=false:=beq_eq_false_iff_ne.2 fun e=>h (by
 rw[ByteArray.toList_eq]at e
 cases s;simp_all)
theorem signType_any (s:ByteArray)(w:World):Calls Tryz.prog 155 #[.string s] w (Tr.IPost (sgnT s) w):=by
 by_cases h0:s=⟨#[43]⟩
 ·subst h0
  go_enter Tryz.func155,Tryz.ntmps155
  go_wp2
  go_ret
  exact⟨rfl,Below.refl _ _⟩
 have q0:(s.toList==[43])=false:=lst_ne h0
 by_cases h1:s=⟨#[45]⟩
 ·subst h1
  go_enter Tryz.func155,Tryz.ntmps155
  go_wp2
  go_ret
  exact⟨rfl,Below.refl _ _⟩
 have q1:(s.toList==[45])=false:=lst_ne h1
 by_cases h2:s=⟨#[42]⟩
 ·subst h2
  go_enter Tryz.func155,Tryz.ntmps155
  go_wp2
  go_ret
  exact⟨rfl,Below.refl _ _⟩
 have q2:(s.toList==[42])=false:=lst_ne h2
 by_cases h3:s=⟨#[47]⟩
 ·subst h3
  go_enter Tryz.func155,Tryz.ntmps155
  go_wp2
  go_ret
  exact⟨rfl,Below.refl _ _⟩
 have q3:(s.toList==[47])=false:=lst_ne h3
 by_cases h4:s=⟨#[37]⟩
 ·subst h4
  go_enter Tryz.func155,Tryz.ntmps155
  go_wp2
  go_ret
  exact⟨rfl,Below.refl _ _⟩
 have q4:(s.toList==[37])=false:=lst_ne h4
 have e:sgnT s=2:=by unfold sgnT;rw[if_neg (by simp[h0,h1,h2,h3,h4])]
 rw[e]
 clear e h0 h1 h2 h3 h4
 go_enter Tryz.func155,Tryz.ntmps155
 go_wp2
 go_ret
 exact⟨rfl,Below.refl _ _⟩
section
variable {w:World} {l:List Tr.Nd} {A O:Option Addr} {n bd bp:Nat}
theorem calleeName_any (h:Prg w l A n O bd bp)(c co:Nat)(p k:Nat)(hp:p<n){ks:List Int}(hks:(ndA l p).ks=(k:Int) :: ks)(hk:k<n):Calls Tryz.prog 218 #[PrV A n c O co bd bp,.int .i64 (p:Int)] w (VPost (.string (calN l p)) w):=by
 unfold PrV
 have hb0:=heap1 w (.cells #[.slice A n c,.slice O n co,.map (some bd),.map (some bp)] 83)
 have HB0:=Lib.hid hb0
 have hpl:p<l.length:=by rw[← h.len];exact hp
 have hkl:k<l.length:=by rw[← h.len];exact hk
 have hkz:(k:Int)<(n:Int):=by omega
 have hpz:(p:Int)<(n:Int):=by omega
 obtain⟨bA,off,K,cK,rfl,hlt,x0,x1,x2,x3,x4,hI⟩:=node_at h.nds hb0 p hpl
 obtain⟨bB,off2,K2,cK2,e2,hlt2,y0,y1,y2,y3,y4,hI2⟩:=node_at h.nds hb0 k hkl
 cases e2
 rw[← ndA_eq hpl]at x4 hI
 rw[← ndA_eq hkl]at y3
 have he:calN l p=(ndA l k).tx:=by unfold calN;rw[kidA_0 hks]
 rw[he]
 rw[hks]at x4 hI
 have hlen:((k:Int) :: ks).length=ks.length+1:=rfl
 rw[hlen]at x4
 obtain⟨bk,ok,rfl,hbk,hck⟩:=hI (by simp)
 have hc0:(w.alloc (.cells #[.slice (some ⟨bA,off,none⟩) n c,.slice O n co,.map (some bd),.map (some bp)] 83)).cell? ⟨bk,ok,none⟩=some (.int .i64 (k:Int)):=(hb0.cell (p:=⟨bk,ok,none⟩) hbk).trans (hck 0 (by simp))
 have hml:(0:Int)<((ks.length+1:Nat):Int):=by omega
 generalize ks.length+1=m at *
 generalize (ndA l (k:Int)).tx=tx at *
 clear h hI2 y0 y1 y2 y4 x0 x1 x2 x3 hks hck hb0 hI he
 go_enter Tryz.func218,Tryz.ntmps218
 go_wp2
 go_upto_region 1 with(fail)
 go_quiet (fail)
 go_wp2
 go_ret
 exact⟨rfl,Tk.below_drewN HB0.out _⟩
end
end
end Go.Proofs.YteecfjhjllajlaaGreatDoor
