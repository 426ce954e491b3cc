/- PROVED here: parts Yr Ys Yt of the claim. No condition but those in each theorem's own head. -/
import Derived.Test.YteecfjhjllajlaaGreatDoorM39
namespace Go.Proofs.YteecfjhjllajlaaGreatDoor
section
set_option maxHeartbeats 8000000
set_option maxRecDepth 100000
open Go Go.RowKit
open Tr (Bx heap1 bt Nds Ints BPost IPost VPost Snd rgB dpt ovL ovA Trs mvN)
def upT (l:List Tr.Nd)(k:Nat):Nat→List Tr.Nd
 |0=>l
 |1=>ovL 15 0 0 ⟨#[]⟩ [(l,(k:Int))]
 |2=>ovL 6 0 0 ⟨#[]⟩ [(ovL 15 0 0 ⟨#[]⟩ [(l,(k:Int))],((k+1:Nat):Int))]
 |3=>ovL 3 0 0 ⟨#[102]⟩ [(ovL 6 0 0 ⟨#[]⟩ [(ovL 15 0 0 ⟨#[]⟩ [(l,(k:Int))],((k+1:Nat):Int))],((k+2:Nat):Int))]
 |_=>ovL 1 0 0 ⟨#[]⟩ [(ovL 3 0 0 ⟨#[102]⟩ [(ovL 6 0 0 ⟨#[]⟩ [(ovL 15 0 0 ⟨#[]⟩ [(l,(k:Int))],((k+1:Nat):Int))],((k+2:Nat):Int))],((k+3:Nat):Int))]
theorem upT_few {l:List Tr.Nd}{k:Nat}(hf:Few l)(hk:l.length=k+1)(hk2:k≤3900):∀j,j≤4→Few (upT l k j)∧(upT l k j).length=k+1+j:=fun j hj=>by
 have h1:=few_up (r:=(k:Int)) (kd:=15) (n:=0) (pl:=0) (tx:=⟨#[]⟩) hf (by omega)
 have h2:=few_up (r:=((k+1:Nat):Int)) (kd:=6) (n:=0) (pl:=0) (tx:=⟨#[]⟩) h1.1 (by omega)
 have h3:=few_up (r:=((k+2:Nat):Int)) (kd:=3) (n:=0) (pl:=0) (tx:=⟨#[102]⟩) h2.1 (by omega)
 have h4:=few_up (r:=((k+3:Nat):Int)) (kd:=1) (n:=0) (pl:=0) (tx:=⟨#[]⟩) h3.1 (by omega)
 have hj':j=0∨j=1∨j=2∨j=3∨j=4:=by omega
 rcases hj' with rfl |rfl |rfl |rfl |rfl
 ·exact⟨hf,hk⟩
 ·exact⟨h1.1,by show(ovL _ _ _ _ _).length=_;omega⟩
 ·exact⟨h2.1,by show(ovL _ _ _ _ _).length=_;omega⟩
 ·exact⟨h3.1,by show(ovL _ _ _ _ _).length=_;omega⟩
 ·exact⟨h4.1,by show(ovL _ _ _ _ _).length=_;omega⟩
def upN (j:Nat):Int:=if j=0 then 15 else if j=1 then 6 else if j=2 then 3 else 1
def upX (j:Nat):ByteArray:=if j=2 then ⟨#[102]⟩ else ⟨#[]⟩
theorem upT_succ (l:List Tr.Nd)(k j:Nat)(hj:j<4):upT l k (j+1)=ovL (upN j) 0 0 (upX j) [(upT l k j,((k+j:Nat):Int))]:=by
 have hj':j=0∨j=1∨j=2∨j=3:=by omega
 rcases hj' with rfl |rfl |rfl |rfl<;>rfl
def upV:List Value:=[.int .i64 15,.int .i64 0,.int .i64 0,.string ⟨#[]⟩,.slice none 0 0,.int .i64 6,.int .i64 0,.int .i64 0,.string ⟨#[]⟩,.slice none 0 0,.int .i64 3,.int .i64 0,.int .i64 0,.string ⟨#[102]⟩,.slice none 0 0,.int .i64 1,.int .i64 0,.int .i64 0,.string ⟨#[]⟩,.slice none 0 0]
theorem upV_cell {w:World}{g j:Nat}(h:Bx w g 37 upV)(hj:j<4):w.cell? ⟨g,j*5,none⟩=some (.int .i64 (upN j))∧w.cell? ⟨g,j*5+1,none⟩=some (.int .i64 0)∧w.cell? ⟨g,j*5+2,none⟩=some (.int .i64 0)∧w.cell? ⟨g,j*5+3,none⟩=some (.string (upX j))∧w.cell? ⟨g,j*5+4,none⟩=some (.slice none 0 0):=by
 have hj':j=0∨j=1∨j=2∨j=3:=by omega
 rcases hj' with rfl |rfl |rfl |rfl
 ·exact⟨(h.cell 0).trans rfl,(h.cell 1).trans rfl,(h.cell 2).trans rfl,(h.cell 3).trans rfl,(h.cell 4).trans rfl⟩
 ·exact⟨(h.cell 5).trans rfl,(h.cell 6).trans rfl,(h.cell 7).trans rfl,(h.cell 8).trans rfl,(h.cell 9).trans rfl⟩
 ·exact⟨(h.cell 10).trans rfl,(h.cell 11).trans rfl,(h.cell 12).trans rfl,(h.cell 13).trans rfl,(h.cell 14).trans rfl⟩
 ·exact⟨(h.cell 15).trans rfl,(h.cell 16).trans rfl,(h.cell 17).trans rfl,(h.cell 18).trans rfl,(h.cell 19).trans rfl⟩
structure UpI (w:World) (l:List Tr.Nd) (k j gT:Nat) (wr:World):Prop where
 bn:Bx wr (gT+1) 37 upV
 bt:∃A c,Bx wr gT 25 [.slice A (upT l k j).length c,.int .i64 ((k+j:Nat):Int)]∧Tr.NdsE gT wr A (upT l k j)
 bl:Below w.heap.size w wr
 gt:w.heap.size≤gT
theorem UpI.step {w wr w2 w3:World}{l:List Tr.Nd}{k j gT:Nat}{A':Option Addr}{c':Nat}{x:Int}(h:UpI w l k j gT wr)(hb2:Below wr.heap.size wr w2)(hb3:Below w2.heap.size w2 w3)(hN:Tr.NdsL w2.heap.size w3 A' (upT l k (j+1)))(hx:x=((k+(j+1):Nat):Int)) :
  UpI w l k (j+1) gT ((w3.setCell ⟨gT,0,none⟩ (.slice A' (upT l k (j+1)).length c')).setCell ⟨gT,1,none⟩ (.int .i64 x)):=by
 obtain⟨A,c,hB,_⟩:=h.bt
 have hlt:gT<wr.heap.size:=(Array.getElem?_eq_some_iff.1 hB).1
 have hlt2:gT+1<wr.heap.size:=(Array.getElem?_eq_some_iff.1 h.bn).1
 have hs2:=hb2.size
 have hs3:=hb3.size
 have hk:∀(b2:Nat),b2≠gT→((w3.setCell ⟨gT,0,none⟩ (.slice A' (upT l k (j+1)).length c')).setCell ⟨gT,1,none⟩ (.int .i64 x)).heap[b2]?=w3.heap[b2]?:=fun b2 hb2=>by
  rw[heap_setCell_other _ _ b2 _ hb2,heap_setCell_other _ _ b2 _ hb2]
 have hsz:((w3.setCell ⟨gT,0,none⟩ (.slice A' (upT l k (j+1)).length c')).setCell ⟨gT,1,none⟩ (.int .i64 x)).heap.size=w3.heap.size:=by
  rw[World.size_setCell,World.size_setCell]
 have hB3:=(hB.below hb2 hlt).below hb3 (by omega)
 subst hx
 refine⟨(hk _ (by omega)).trans ((h.bn.below hb2 hlt2).below hb3 (by omega)),⟨A',c',?_,(hN.ne (by omega)).keep (by rw[hsz];exact Nat.le_refl _) fun b _ hne=>hk b hne⟩,?_,h.gt⟩
 ·have h1:=(hB3.set_ 0 (.slice A' (upT l k (j+1)).length c')).set_ 1 (.int .i64 ((k+(j+1):Nat):Int))
  exact h1
 ·have hsz2:=h.bl.size
  have hg:=h.gt
  exact⟨hb3.os.trans (hb2.os.trans h.bl.os),hb3.tape.trans (hb2.tape.trans h.bl.tape),hb3.output.trans (hb2.output.trans h.bl.output),by rw[hsz];omega,fun b2 hb=>(hk b2 (by omega)).trans ((hb3.block b2 (by omega)).trans ((hb2.block b2 (by omega)).trans (h.bl.block b2 hb)))⟩
theorem upT_all {P:Tr.Nd→Prop}{l:List Tr.Nd}{k:Nat}(hl:∀x ∈ l,P x)(hmv:∀d x,P x→P (mvN d x))(h15:∀r,P ⟨15,0,0,⟨#[]⟩,r⟩)(h6:∀r,P ⟨6,0,0,⟨#[]⟩,r⟩)(h3:∀r,P ⟨3,0,0,⟨#[102]⟩,r⟩)(h1:∀r,P ⟨1,0,0,⟨#[]⟩,r⟩):∀x ∈ upT l k 4,P x:=by
 have hov:∀ {ll:List Tr.Nd} {kd n pl r:Int} {tx:ByteArray},(∀x ∈ ll,P x)→(∀rs,P ⟨kd,n,pl,tx,rs⟩)→∀x ∈ ovL kd n pl tx [(ll,r)],P x:=fun {ll kd n pl r tx} h h2 x hx=>by
  have e:ovA [(ll,r)]=ll.map (mvN 0):=by simp[ovA]
  unfold ovL at hx
  rw[e]at hx
  rcases List.mem_append.1 hx with hx |hx
  ·obtain⟨y,hy,rfl⟩:=List.mem_map.1 hx
   exact hmv _ _ (h y hy)
  ·rw[List.mem_singleton.1 hx];exact h2 _
 exact hov (hov (hov (hov hl h15) h6) h3) h1
theorem upT_tx {l:List Tr.Nd}{kd nn pl:Int}{tx:ByteArray}{m:Nat}(h:l=List.replicate m leafN++[⟨kd,nn,pl,tx,(List.range m).map fun j:Nat=>(j:Int)⟩])(htx:tx.size≤281474976710656):∀x ∈ upT l m 4,x.tx.size≤281474976710656:=
 upT_all (P:=fun x=>x.tx.size≤281474976710656) (fun x hx=>by
  rw[h]at hx
  rcases List.mem_append.1 hx with hx |hx
  ·rw[(List.mem_replicate.1 hx).2];show 1≤281474976710656;omega
  ·rw[List.mem_singleton.1 hx];exact htx) (fun d x hx=>hx) (fun _=>Nat.zero_le _) (fun _=>Nat.zero_le _) (fun _=>by show 1≤281474976710656;omega) (fun _=>Nat.zero_le _)
theorem upT_n {l:List Tr.Nd}{kd nn pl:Int}{tx:ByteArray}{m:Nat}(h:l=List.replicate m leafN++[⟨kd,nn,pl,tx,(List.range m).map fun j:Nat=>(j:Int)⟩])(hnn:nn≤9223372036854775807):∀x ∈ upT l m 4,x.n≤9223372036854775807:=
 upT_all (P:=fun x=>x.n≤9223372036854775807) (fun x hx=>by
  rw[h]at hx
  rcases List.mem_append.1 hx with hx |hx
  ·rw[(List.mem_replicate.1 hx).2];show(0:Int)≤_;omega
  ·rw[List.mem_singleton.1 hx];exact hnn) (fun d x hx=>hx) (fun _=>by show(0:Int)≤_;omega) (fun _=>by show(0:Int)≤_;omega) (fun _=>by show(0:Int)≤_;omega) (fun _=>by show(0:Int)≤_;omega)
theorem shapedExpr_any (kd nn pl:Int)(tx:ByteArray)(K:Option Addr)(m cK:Nat)(w:World)(hm:m≤3000)(htx:tx.size≤281474976710656)(hnn:nn≤9223372036854775807) :
  Calls Tryz.prog 122 #[.agg #[.int .i64 kd,.int .i64 nn,.int .i64 pl,.string tx,.slice K m cK]] w (BPost (shX kd nn tx.data.toList m) w):=by
 rw[← shaped_rg kd nn pl tx m hm]
 obtain⟨l0,hl0⟩:∃l0,l0=ovL kd nn pl tx (List.replicate m ([leafN],0)):=⟨_,rfl⟩
 have hbe:l0=List.replicate m leafN++[⟨kd,nn,pl,tx,(List.range m).map fun j:Nat=>(j:Int)⟩]:=hl0.trans (base_eq kd nn pl tx m hm)
 have hlen0:l0.length=m+1:=by rw[hbe];simp
 have hfew:Few l0:=⟨by omega,fun x hx=>by
  rw[hbe]at hx
  rcases List.mem_append.1 hx with hx |hx
  ·rw[(List.mem_replicate.1 hx).2];exact Nat.zero_le _
  ·rw[List.mem_singleton.1 hx];simp;omega⟩
 have hovA:(ovA (List.replicate m ([leafN],0))).length=m:=by rw[ovA_leaves,List.length_replicate]
 show Calls Tryz.prog 122 _ w (BPost (rgB (upT (ovL kd nn pl tx (List.replicate m ([leafN],0))) m 4) ((m+4:Nat):Int)) w)
 rw[← hl0]
 have htw:∀x ∈ upT l0 m 4,x.tx.size≤281474976710656:=upT_tx hbe htx
 have hnw:∀x ∈ upT l0 m 4,x.n≤9223372036854775807:=upT_n hbe hnn
 have HOV:=Lib.hid (fun(w':World) (hT:Trs w' (some ⟨w.heap.size+1,0,none⟩) (List.replicate m ([leafN],0)))=>(show Calls Tryz.prog 32 #[.agg #[.int .i64 kd,.int .i64 nn,.int .i64 pl,.string tx,.slice K m cK],.slice (some ⟨w.heap.size+1,0,none⟩) m m] w' (Tr.TPost l0 (m:Int) w')from by
  have h1:=Tr.over_any kd nn pl tx K m cK (some ⟨w.heap.size+1,0,none⟩) m m (List.replicate m ([leafN],0)) w' hT (by rw[List.length_replicate]) (by omega) (fun t ht=>by rw[(List.mem_replicate.1 ht).2];exact⟨by decide,fun x hx=>by rw[List.mem_singleton.1 hx];exact Nat.zero_le _⟩) (by omega) (fun i=>by rw[List.take_replicate,ovA_leaves,List.length_replicate];omega)
  rw[hovA,← hl0]at h1
  exact h1))
 have HUP:=Lib.hid (upT_few hfew hlen0 (by omega))
 have HRG:=Lib.hid (fun(A:Option Addr) (c:Nat) (w':World) (hN:Nds w' A (upT l0 m 4))=>Tr.right_any A c (upT l0 m 4).length (upT l0 m 4) ((m+4:Nat):Int) w' hN rfl ((upT_few hfew hlen0 (by omega)) 4 (by omega)).1.2 htw hnw)
 have HLEN:=Lib.hid hlen0
 have HL0:=Lib.hid (show LvI w m 0 [.int .i64 kd,.int .i64 nn,.int .i64 pl,.string tx,.slice K m cK] ((w.alloc (.cells #[.int .i64 kd,.int .i64 nn,.int .i64 pl,.string tx,.slice K m cK] 37)).alloc (.cells (madeCells zT (m*2)) 25))from by
  have b1:=(Bx.new w 37 [.int .i64 kd,.int .i64 nn,.int .i64 pl,.string tx,.slice K m cK]).alloc (.cells (madeCells zT (m*2)) 25)
  refine⟨b1,⟨fun _=>none,fun _=>0,?_,fun j hj=>absurd hj (Nat.not_lt_zero j)⟩,(heap1 w _).alloc (by rw[World.size_alloc];omega) _⟩
  rw[made42]
  have h1:=World.alloc_heap_new (w.alloc (.cells #[.int .i64 kd,.int .i64 nn,.int .i64 pl,.string tx,.slice K m cK] 37)) (.cells (mkT m (fun _ f=>zT[f]!)) 25)
  rw[World.size_alloc]at h1
  exact(show Ob _ _ m _ from h1).congr fun j f _ _=>(if_neg (Nat.not_lt_zero j)).symm)
 clear hl0 hbe hlen0 hfew hovA htw hnw
 have hmk:=fun w'=>make42 m (by omega) w'
 go_enter Tryz.func122,Tryz.ntmps122
 go_wp2
 clear hmk
 go_loopg [4,14] m (fun g _ a14 wr=>∃i:Nat,a14 = .int .i64 (i:Int)∧i≤m∧g=m-i∧LvI w m i [.int .i64 kd,.int .i64 nn,.int .i64 pl,.string tx,.slice K m cK] wr)
 case atStart=>exact⟨0,rfl,Nat.zero_le _,rfl,HL0.out⟩
 case round=>
  obtain⟨i,rfl,him,rfl,hr⟩:=hrel
  have HI:=Lib.hid hr
  have hwr:=hr.bl.size
  have hg1:w.heap.size+1<wr.heap.size:=by obtain⟨A,c,hO,_⟩:=hr.ob;exact hO.lt
  by_cases hlt:i<m
  ·have hlz:(i:Int)<(m:Int):=by omega
   clear hr
   go_wp2_with (go_at_call 32;refine(over_leaf none 0 0 wr).mono ?_;rintro e w2 ⟨A',c',rfl,hN2,hc2,hb2⟩;have HN2:=Lib.hid (And.intro hN2 hb2);obtain⟨Aq,cq,hO,_⟩:=HI.out.ob;have hO2:Ob w2 (w.heap.size+1) m _:=hO.same (hb2.block _ hO.lt);have q0:=(hO2.cell hlt (f:=0) (by decide));have q1:=(hO2.cell hlt (f:=1) (by decide));have qf:=hO2.frozen;simp only[Nat.lt_irrefl,if_false,Nat.add_zero]at q0 q1;clear hO hO2 hN2 hc2 hb2)
   clear q0 q1 qf
   go_roundg (m-(i+1))
   case measure=>go_light;omega
   case rel=>
    go_light
    exact⟨i+1,by go_num,by omega,rfl,HI.out.step HN2.out.2 HN2.out.1⟩
  ·obtain rfl:i=m:=by omega
   have hlz:¬(i:Int)<(i:Int):=by omega
   have e0:=(hr.bx.cell 0).trans rfl
   have e1:=(hr.bx.cell 1).trans rfl
   have e2:=(hr.bx.cell 2).trans rfl
   have e3:=(hr.bx.cell 3).trans rfl
   have e4:=(hr.bx.cell 4).trans rfl
   have HT:=Lib.hid hr.trs
   have HB1:=Lib.hid hr.bl
   clear hr hg1
   go_wp2_with (go_at_call 32;refine(HOV.out wr HT.out).mono ?_;rintro e w2 ⟨A,c,rfl,hN2,hc2,hb2⟩;have HN2:=Lib.hid hN2;have HB2:=Lib.hid hb2;clear hN2 hb2 hc2)
   have hw2:=HB2.out.size
   have HU0:=Lib.hid (show UpI w l0 i 0 w2.heap.size ((w2.alloc (.cells #[.slice A l0.length c,.int .i64 (i:Int)] 25)).alloc (.cells #[.int .i64 15,.int .i64 0,.int .i64 0,.string ⟨#[]⟩,.slice none 0 0,.int .i64 6,.int .i64 0,.int .i64 0,.string ⟨#[]⟩,.slice none 0 0,.int .i64 3,.int .i64 0,.int .i64 0,.string ⟨#[102]⟩,.slice none 0 0,.int .i64 1,.int .i64 0,.int .i64 0,.string ⟨#[]⟩,.slice none 0 0] 37))from by
    have b1:=Bx.new w2 25 [.slice A l0.length c,.int .i64 (i:Int)]
    have b2:=Bx.new (w2.alloc (.cells #[.slice A l0.length c,.int .i64 (i:Int)] 25)) 37 upV
    rw[World.size_alloc]at b2
    refine⟨b2,⟨A,c,b1.alloc _,((HN2.out.ne (Nat.le_refl _)).keep (heap1 _ _).size fun b hb _=>(heap1 w2 _).block b hb).keep (heap1 _ _).size fun b hb _=>(heap1 _ _).block b hb⟩,((bt HB1.out HB2.out).alloc (by omega) _).alloc (by rw[World.size_alloc];omega) _,by omega⟩)
   clear e0 e1 e2 e3 e4 HN2
   go_wp2
   go_loopg [7,32] 4 (fun g _ a32 wr=>∃j:Nat,a32 = .int .i64 (j:Int)∧j≤4∧g=4-j∧UpI w l0 i j w2.heap.size wr)
   case atStart=>exact⟨0,rfl,by omega,rfl,HU0.out⟩
   case round=>
    obtain⟨j,rfl,hj,rfl,hu⟩:=hrel
    have HU:=Lib.hid hu
    obtain⟨Aj,cj,hbt,hne⟩:=hu.bt
    obtain⟨x,hx⟩:∃x:Int,x=((i+j:Nat):Int):=⟨_,rfl⟩
    rw[← hx]at hbt
    have HX:=Lib.hid hx
    clear hx
    have t0:=(hbt.cell 0).trans rfl
    have t1:=(hbt.cell 1).trans rfl
    have hgT:w2.heap.size+1<wr.heap.size:=(Array.getElem?_eq_some_iff.1 hu.bn).1
    by_cases hj4:j<4
    ·have hjz:(j:Int)<4:=by omega
     obtain⟨n0,n1,n2,n3,n4⟩:=upV_cell hu.bn hj4
     have ta0:=(show∀o,(wr.alloc o).cell? ⟨w2.heap.size,0,none⟩=some (.slice Aj (upT l0 i j).length cj)from fun o=>((hbt.alloc o).cell 0).trans rfl)
     have ta1:=(show∀o,(wr.alloc o).cell? ⟨w2.heap.size,1,none⟩=some (.int .i64 x)from fun o=>((hbt.alloc o).cell 1).trans rfl)
     obtain⟨y,hy⟩:∃y:Int,y=((i+(j+1):Nat):Int):=⟨_,rfl⟩
     have HO:=Lib.hid (show Calls Tryz.prog 32 #[.agg #[.int .i64 (upN j),.int .i64 0,.int .i64 0,.string (upX j),.slice none 0 0],.slice (some ⟨wr.heap.size+1,0,none⟩) 1 1] ((wr.alloc (.cells #[.int .i64 (upN j),.int .i64 0,.int .i64 0,.string (upX j),.slice none 0 0] 37)).alloc (.cells #[.slice Aj (upT l0 i j).length cj,.int .i64 x] 25)) (Tr.TPostB (upT l0 i (j+1)) y ((wr.alloc (.cells #[.int .i64 (upN j),.int .i64 0,.int .i64 0,.string (upX j),.slice none 0 0] 37)).alloc (.cells #[.slice Aj (upT l0 i j).length cj,.int .i64 x] 25)))from by
      have b2:=Bx.new (wr.alloc (.cells #[.int .i64 (upN j),.int .i64 0,.int .i64 0,.string (upX j),.slice none 0 0] 37)) 25 [.slice Aj (upT l0 i j).length cj,.int .i64 x]
      rw[World.size_alloc]at b2
      have hf:=HUP.out j hj
      have h1:=over_up (upN j) 0 0 (upX j) none 0 0 (wr.heap.size+1) Aj cj (upT l0 i j) x _ b2 ((hne.nds.below (heap1 _ _)).below (heap1 _ _)) hf.1
      rw[upT_succ l0 i j hj4,← HX.out,show y=((upT l0 i j).length:Int)by rw[hy,hf.2];omega]
      exact h1)
     have HY:=Lib.hid hy
     have HB:=Lib.hid (show Below wr.heap.size wr ((wr.alloc (.cells #[.int .i64 (upN j),.int .i64 0,.int .i64 0,.string (upX j),.slice none 0 0] 37)).alloc (.cells #[.slice Aj (upT l0 i j).length cj,.int .i64 x] 25)) from(heap1 _ _).alloc (by rw[World.size_alloc];omega) _)
     have HBT:=Lib.hid hbt
     clear hu hbt hne hy
     generalize upN j=un at *
     generalize upX j=ux at *
     generalize (upT l0 i j).length=lj at *
     go_wp2_with (go_at_call 32;refine HO.out.mono ?_;rintro e w3 ⟨A',c',rfl,hN3,hc3,hb3⟩;have HN3:=Lib.hid (And.intro hN3 hb3);have hq:=((HBT.out.below HB.out (by omega)).below hb3 (by rw[World.size_alloc,World.size_alloc];omega));have q0:=(hq.cell 0).trans rfl;have q1:=(hq.cell 1).trans rfl;have qf:=hq.frozen;clear hN3 hc3 hb3 hq)
     clear t0 t1 ta0 ta1 n0 n1 n2 n3 n4
     go_roundg (4-(j+1))
     case measure=>go_light;omega
     case rel=>
      go_light
      exact⟨j+1,by go_num,by omega,rfl,HU.out.step HB.out HN3.out.2 HN3.out.1 HY.out⟩
    ·obtain rfl:j=4:=by omega
     have HNN:=Lib.hid hne.nds
     have HBU:=Lib.hid hu.bl
     have HR:=Lib.hid (HRG.out Aj cj wr hne.nds)
     rw[← HX.out]at HR
     clear hu hbt hne
     generalize (upT l0 i 4).length=lj at *
     go_wp2_with (go_at_call 27;refine HR.out.mono ?_)
     rintro e w3 ⟨rfl,hb3⟩
     have HB3:=Lib.hid (bt HBU.out hb3)
     clear hb3 t0 t1
     go_wp2
     go_ret
     exact⟨by rw[HX.out];rfl,HB3.out⟩
end
section
set_option maxHeartbeats 4000000
set_option maxRecDepth 100000
open Go Go.RowKit
open Tr (Bx heap1 bt Nds Ints BPost IPost VPost Snd rgB dpt sndB)
theorem exB_no {l:List Tr.Nd}{r:Int}{j:Nat}(hj:j<l.length)(h:shX l[j].kd l[j].n l[j].tx.data.toList l[j].ks.length=false):exB l r=false:=by
 cases he:exB l r with
 |false=>rfl
 |true=>have:=exB_mem he _ (List.getElem_mem hj);rw[h]at this;cases this
theorem exB_yes {l:List Tr.Nd}{r:Int}(hs:Snd l r)(hd:dpt l r≤40)(h:∀j (hj:j<l.length),shX l[j].kd l[j].n l[j].tx.data.toList l[j].ks.length=true):exB l r=true:=by
 unfold exB
 rw[sndB_iff.2 hs,decide_eq_true hd,Bool.true_and,Bool.true_and,List.all_eq_true]
 intro x hx
 obtain⟨j,hj,rfl⟩:=List.getElem_of_mem hx
 exact h j hj
theorem exB_dep {l:List Tr.Nd}{r:Int}(h:dpt l r=0∨40<dpt l r):exB l r=false:=by
 cases he:exB l r with
 |false=>rfl
 |true=>
  have h1:=exB_ok he
  have:=Tr.dpt_pos h1.snd
  have:=h1.dep
  omega
theorem isExpr_any (A:Option Addr)(n c:Nat)(l:List Tr.Nd)(r:Int)(w:World)(h:TIn w A n l)(hk3:∀x ∈ l,x.ks.length≤3000):Calls Tryz.prog 65 #[.agg #[.slice A n c,.int .i64 r]] w (BPost (exB l r) w):=by
 have hn:=h.len
 subst hn
 have hb0:=heap1 w (.cells #[.slice A l.length c,.int .i64 r] 25)
 have HD:=Lib.hid (Tr.depth_any A c l.length l r _ (h.nds.below hb0) rfl h.kids)
 have HX:=Lib.hid (Bx.new w 25 [.slice A l.length c,.int .i64 r])
 have HB0:=Lib.hid hb0
 have H:=Lib.hid h
 have HK3:=Lib.hid hk3
 clear hk3
 obtain⟨d,hd⟩:∃d,d=dpt l r:=⟨_,rfl⟩
 rw[← hd]at HD
 by_cases hd0:d=0∨40<d
 ·have he:=exB_dep (hd▸hd0)
  rw[he]
  clear he h hd hb0 H
  go_enter Tryz.func65,Tryz.ntmps65
  rcases hd0 with rfl |hd0
  ·go_wp2_with (go_at_call 31;refine HD.out.mono ?_)
   rintro e w1 ⟨rfl,hb1⟩
   have HB1:=Lib.hid (bt HB0.out hb1)
   clear hb1
   go_wp2
   go_ret
   exact⟨rfl,HB1.out⟩
  ·have hdz:(40:Int)<(d:Int):=by omega
   have hdn:¬(d:Int)=0:=by omega
   go_wp2_with (go_at_call 31;refine HD.out.mono ?_)
   rintro e w1 ⟨rfl,hb1⟩
   have HB1:=Lib.hid (bt HB0.out hb1)
   clear hb1
   go_wp2
   go_ret
   exact⟨rfl,HB1.out⟩
 ·have hs:Snd l r:=by
   by_cases hs:Snd l r
   ·exact hs
   ·exact absurd (Or.inl (hd.trans (Tr.dpt_no hs))) hd0
  have hd4:dpt l r≤40:=by omega
  have HS:=Lib.hid (And.intro hs hd4)
  have hl4:=(snd_len hs).2.1
  have hdz:¬(40:Int)<(d:Int):=by omega
  have hdn:¬(d:Int)=0:=by omega
  have hdp:¬d=0:=by omega
  have hq0:((d:Int)==0)=false:=by rw[beq_eq_false_iff_ne];exact hdn
  have hq1:decide ((40:Int)<(d:Int))=false:=decide_eq_false hdz
  clear h hd hb0 hs hd4 hd0
  generalize hex:exB l r=ex at *
  have HEX:=Lib.hid hex
  clear hex
  obtain⟨m,hm⟩:∃m,m=l.length:=⟨_,rfl⟩
  rw[← hm]at HX HD HB0 H hl4 ⊢
  have HM:=Lib.hid hm
  clear hm
  go_enter Tryz.func65,Tryz.ntmps65
  go_wp2_with (go_at_call 31;refine HD.out.mono ?_)
  rintro e w1 ⟨rfl,hb1⟩
  have HB1:=Lib.hid (bt HB0.out hb1)
  have hx1:=HX.out.below hb1 (by rw[World.size_alloc];omega)
  have HX1:=Lib.hid hx1
  have e0:=(hx1.cell 0).trans rfl
  have e1:=(hx1.cell 1).trans rfl
  clear hb1 hx1
  go_wp2
  clear e0 e1
  go_loopg [5,17] m (fun g _ a17 wr=>∃i:Nat,a17 = .int .i64 (i:Int)∧i≤m∧g=m-i∧(∀j (hj:j<l.length),j<i→shX l[j].kd l[j].n l[j].tx.data.toList l[j].ks.length=true)∧Below w.heap.size w wr)
  case atStart=>exact⟨0,rfl,Nat.zero_le _,rfl,fun j _ hj=>absurd hj (Nat.not_lt_zero j),HB1.out⟩
  case round=>
   obtain⟨i,rfl,him,rfl,hall,hb⟩:=hrel
   have HALL:=Lib.hid hall
   have HB2:=Lib.hid hb
   clear hall
   by_cases hlt:i<m
   ·have hlz:(i:Int)<(m:Int):=by omega
    have hil:i<l.length:=by rw[← HM.out];exact hlt
    obtain⟨bA,off,K,cK,rfl,hltA,c0,c1,c2,c3,c4,_⟩:=node_at (H.out.below hb).nds (Below.refl _ _) i hil
    have hSX:=shapedExpr_any l[i].kd l[i].n l[i].pl l[i].tx K l[i].ks.length cK (wr.alloc (.cells #[.int .i64 l[i].kd,.int .i64 l[i].n,.int .i64 l[i].pl,.string l[i].tx,.slice K l[i].ks.length cK] 37)) (HK3.out _ (List.getElem_mem hil)) (H.out.text _ (List.getElem_mem hil)) (H.out.num _ (List.getElem_mem hil))
    obtain⟨q,hq⟩:∃q,q=shX l[i].kd l[i].n l[i].tx.data.toList l[i].ks.length:=⟨_,rfl⟩
    rw[← hq]at hSX
    have HQ:=Lib.hid hq.symm
    obtain⟨kd,hkd⟩:∃kd,kd=l[i].kd:=⟨_,rfl⟩
    obtain⟨nn,hnn⟩:∃nn,nn=l[i].n:=⟨_,rfl⟩
    obtain⟨pl,hpl⟩:∃pl,pl=l[i].pl:=⟨_,rfl⟩
    obtain⟨tx,htx⟩:∃tx,tx=l[i].tx:=⟨_,rfl⟩
    obtain⟨nk,hnk⟩:∃nk,nk=l[i].ks.length:=⟨_,rfl⟩
    rw[← hkd]at c0 hSX
    rw[← hnn]at c1 hSX
    rw[← hpl]at c2 hSX
    rw[← htx]at c3 hSX
    rw[← hnk]at c4 hSX
    have HSX:=Lib.hid hSX
    clear hSX hq hb hkd hnn hpl htx hnk
    cases q with
    |false=>
     go_wp2_with (go_at_call 122;refine HSX.out.mono ?_)
     rintro e w3 ⟨rfl,hb3⟩
     have HB3:=Lib.hid (bt HB2.out (bt (heap1 _ _) hb3))
     clear hb3 c0 c1 c2 c3 c4
     go_wp2
     go_ret
     have hxx:=HEX.out.symm.trans (exB_no hil HQ.out)
     subst hxx
     exact⟨rfl,HB3.out⟩
    |true=>
     go_wp2_with (go_at_call 122;refine HSX.out.mono ?_)
     rintro e w3 ⟨rfl,hb3⟩
     have HB3:=Lib.hid (bt HB2.out (bt (heap1 _ _) hb3))
     clear hb3 c0 c1 c2 c3 c4
     go_wp2
     go_roundg (m-(i+1))
     case measure=>go_light;omega
     case rel=>
      go_light
      exact⟨i+1,by go_num,by omega,rfl,fun j hj hj2=>by
       by_cases e:j<i
       ·exact HALL.out j hj e
       ·obtain rfl:j=i:=by omega
        exact HQ.out,HB3.out⟩
   ·obtain rfl:i=m:=by omega
    have hlz:¬(i:Int)<(i:Int):=by omega
    have he:=exB_yes HS.out.1 HS.out.2 (fun j hj=>HALL.out j hj (by rw[HM.out];exact hj))
    have HE:=Lib.hid (HEX.out.symm.trans he)
    clear he hb
    go_wp2
    go_ret
    have hxx:=HE.out
    subst hxx
    exact⟨rfl,HB2.out⟩
end
section
set_option maxHeartbeats 2500000
set_option maxRecDepth 100000
open Go Go.RowKit
open Tr (Bx heap1 bt Nds Ints BPost IPost VPost Snd rgB dpt)
theorem printExpr_any (A:Option Addr)(n c:Nat)(l:List Tr.Nd)(r:Int)(w:World)(h:TIn w A n l)(hk3:∀x ∈ l,x.ks.length≤3000):Calls Tryz.prog 23 #[.agg #[.slice A n c,.int .i64 r]] w (VPost (.string (bsX (exprT l r))) w):=by
 have hn:=h.len
 subst hn
 have hb0:=heap1 w (.cells #[.slice A l.length c,.int .i64 r] 25)
 have HR:=Lib.hid (isExpr_any A l.length c l r _ (h.below hb0) hk3)
 have HX:=Lib.hid (Bx.new w 25 [.slice A l.length c,.int .i64 r])
 have HB0:=Lib.hid hb0
 have H:=Lib.hid h
 cases hr:exB l r with
 |false=>
  have e:exprT l r=[]:=by unfold exprT;rw[hr];rfl
  rw[e]
  rw[hr]at HR
  clear e hr hb0 h hk3
  go_enter Tryz.func23,Tryz.ntmps23
  go_wp2_with (go_at_call 65;refine HR.out.mono ?_)
  rintro e w1 ⟨rfl,hb1⟩
  have HB1:=Lib.hid (bt HB0.out hb1)
  clear hb1
  go_wp2
  go_ret
  exact⟨rfl,HB1.out⟩
 |true=>
  have hok:=exB_ok hr
  have e:exprT l r=exT l l.length r:=by unfold exprT;rw[hr];rfl
  rw[e]
  rw[hr]at HR
  obtain⟨hl1,hl2,hr1⟩:=snd_len hok.snd
  have hrn:r=((l.length-1:Nat):Int):=by omega
  have hex:ExN l:=exn_of (snd_ahead hok.snd) hok.sh h.num
  obtain⟨S,hS⟩:=snd_szd hok.snd
  have hroot:Tr.expB (ndA l ((l.length-1:Nat):Int)).kd=true:=by
   rw[ndA_eq (by omega)];exact hok.exp _ (List.getElem_mem _)
  have hlen:(exT l l.length ((l.length-1:Nat):Int)).length≤256000:=by
   have h1:=exT_len hok.sh hex hS l.length (l.length-1) (by omega)
   have h2:=hS.top (l.length-1) (by omega)
   omega
  have hne:exT l l.length ((l.length-1:Nat):Int)≠[]:=by
   obtain⟨q,hq⟩:∃q,l.length=q+1:=⟨l.length-1,by omega⟩
   rw[hq]at hroot ⊢
   exact exT_ne hok.sh (by omega) hroot
  have HC:=Lib.hid (show∀w2,Below w.heap.size w w2→Calls Tryz.prog 60 #[.agg #[.slice A l.length c,.int .i64 r],.int .i64 r,.func (.func 66) #[] #[]] w2 fun e w'=>e = .returned (.string (bsX (exT l l.length r)))∧Below w2.heap.size w2 w' from fun w2 q=>by
   have hin:=(h.below q).below (heap1 w2 (.cells #[.slice A l.length c,.int .i64 r] 25))
   have hpx:=hin.px hok.snd hex
   rw[hrn]
   refine printed66_pg A l.length c _ _ _ w2 _ rfl hne fun w' q' hp' =>?_
   rw[hrn]at hpx
   have:=expr_pg c _ hpx l.length (l.length-1) 0 [] w' (by omega) (by omega) hroot q' hp' (by show 0+_≤_;omega)
   rw[List.nil_append]at this
   exact this)
  clear hne hlen hroot hS hex hrn hr1 hl1 hl2 e hok hr hb0 h hk3
  generalize exT l l.length r=y at *
  have e0:=(HX.out.cell 0).trans rfl
  have e1:=(HX.out.cell 1).trans rfl
  go_enter Tryz.func23,Tryz.ntmps23
  go_wp2_with (go_at_call 65;refine HR.out.mono ?_)
  rintro e w1 ⟨rfl,hb1⟩
  have HB1:=Lib.hid (bt HB0.out hb1)
  have hx1:=HX.out.below hb1 (by rw[World.size_alloc];omega)
  clear e0 e1
  have e0:=(hx1.cell 0).trans rfl
  have e1:=(hx1.cell 1).trans rfl
  clear hb1 hx1
  go_wp2_with (go_at_call 60;refine(HC.out w1 HB1.out).mono ?_)
  rintro e w2 ⟨rfl,hb2⟩
  have HB2:=Lib.hid (bt HB1.out hb2)
  clear hb2 e0 e1
  go_wp2
  go_ret
  exact⟨rfl,HB2.out⟩
end
end Go.Proofs.YteecfjhjllajlaaGreatDoor
