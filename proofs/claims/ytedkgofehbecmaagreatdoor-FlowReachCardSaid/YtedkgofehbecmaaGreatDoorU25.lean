/- PROVED here: parts N25 of the claim. No condition but those in each theorem's own head. -/
import Derived.Test.YtedkgofehbecmaaGreatDoorU23
import Derived.Test.YtedkgofehbecmaaGreatDoorU07
namespace Go.Proofs.YtedkgofehbecmaaGreatDoor
open Go.Lib (hid)
open Go Go.RowKit
open Tr (Bx heap1 bt Nds Ints BPost IPost rgB)
structure Gn where
 kd:Int
 pl:Int
 pr:Int
 nx:List Int
 rs:Int
def stmB (k:Int):Bool:=decide (7<=k)&&decide (k<=17)
def exqB (k:Int):Bool:=decide (20<=k)&&decide (k<=27)
def selfB (q:Tr.Nd):Bool:=decide (q.kd=23) || decide (q.kd=8) || decide (q.kd=17) || decide (q.kd=13) || decide (q.kd=15) || (decide (q.kd=27)&&(decide (q.tx=⟨#[47]⟩) || decide (q.tx=⟨#[37]⟩)))
set_option maxRecDepth 100000 in
theorem isStm_any (k:Int)(w:World):Calls Tryz.prog 136 #[.int .i64 k] w (BPost (stmB k) w):=by
 unfold stmB
 by_cases h:(7:Int)<=k
 ·have hd:decide ((7:Int)<=k)=true:=decide_eq_true h
  rw[hd,Bool.true_and]
  go_enter Tryz.func136,Tryz.ntmps136
  go_wp2
  go_ret
  exact⟨rfl,Below.refl _ _⟩
 ·have hd:decide ((7:Int)<=k)=false:=decide_eq_false h
  rw[hd,Bool.false_and]
  go_enter Tryz.func136,Tryz.ntmps136
  go_wp2
  go_ret
  exact⟨rfl,Below.refl _ _⟩
set_option maxRecDepth 100000 in
theorem isExq_any (k:Int)(w:World):Calls Tryz.prog 98 #[.int .i64 k] w (BPost (exqB k) w):=by
 unfold exqB
 by_cases h:(20:Int)<=k
 ·have hd:decide ((20:Int)<=k)=true:=decide_eq_true h
  rw[hd,Bool.true_and]
  go_enter Tryz.func98,Tryz.ntmps98
  go_wp2
  go_ret
  exact⟨rfl,Below.refl _ _⟩
 ·have hd:decide ((20:Int)<=k)=false:=decide_eq_false h
  rw[hd,Bool.false_and]
  go_enter Tryz.func98,Tryz.ntmps98
  go_wp2
  go_ret
  exact⟨rfl,Below.refl _ _⟩
theorem str_neF {s t:ByteArray}(h:s≠t):(s.toList==t.toList)=false:=beq_eq_false_iff_ne.2 λe=>h (by
 rw[ByteArray.toList_eq,ByteArray.toList_eq]at e
 cases s;cases t;simp_all)
set_option maxRecDepth 100000 in
set_option maxHeartbeats 1000000 in
theorem self_any (kd nn pl:Int)(tx:ByteArray)(ks:List Int)(K:Option Addr)(m c:Nat)(w:World):Calls Tryz.prog 97 #[.agg #[.int .i64 kd,.int .i64 nn,.int .i64 pl,.string tx,.slice K m c]] w (BPost (selfB ⟨kd,nn,pl,tx,ks⟩) w):=by
 have HB:=hid (heap1 w (.cells #[.int .i64 kd,.int .i64 nn,.int .i64 pl,.string tx,.slice K m c] 50))
 unfold selfB
 dsimp only
 by_cases h1:kd=23
 ·subst h1
  go_enter Tryz.func97,Tryz.ntmps97
  go_wp2
  go_ret
  exact⟨by simp,HB.out⟩
 by_cases h2:kd=8
 ·subst h2
  go_enter Tryz.func97,Tryz.ntmps97
  go_wp2
  go_ret
  exact⟨by simp,HB.out⟩
 by_cases h3:kd=17
 ·subst h3
  go_enter Tryz.func97,Tryz.ntmps97
  go_wp2
  go_ret
  exact⟨by simp,HB.out⟩
 by_cases h4:kd=13
 ·subst h4
  go_enter Tryz.func97,Tryz.ntmps97
  go_wp2
  go_ret
  exact⟨by simp,HB.out⟩
 by_cases h5:kd=15
 ·subst h5
  go_enter Tryz.func97,Tryz.ntmps97
  go_wp2
  go_ret
  exact⟨by simp,HB.out⟩
 have q1:(kd==23)=false:=beq_eq_false_iff_ne.2 h1
 have q2:(kd==8)=false:=beq_eq_false_iff_ne.2 h2
 have q3:(kd==17)=false:=beq_eq_false_iff_ne.2 h3
 have q4:(kd==13)=false:=beq_eq_false_iff_ne.2 h4
 have q5:(kd==15)=false:=beq_eq_false_iff_ne.2 h5
 have HK:=hid (show(decide (kd=23) || decide (kd=8) || decide (kd=17) || decide (kd=13) || decide (kd=15))=false by simp[h1,h2,h3,h4,h5])
 clear h1 h2 h3 h4 h5
 by_cases h6:kd=27
 ·subst h6
  by_cases t1:tx=⟨#[47]⟩
  ·subst t1
   go_enter Tryz.func97,Tryz.ntmps97
   go_wp2
   go_ret
   exact⟨by simp,HB.out⟩
  ·have e1:(tx.toList==[47])=false:=by simpa using str_neF t1
   have HT:=hid t1
   clear t1
   by_cases t2:tx=⟨#[37]⟩
   ·subst t2
    go_enter Tryz.func97,Tryz.ntmps97
    go_wp2
    go_ret
    exact⟨by simp,HB.out⟩
   ·have e2:(tx.toList==[37])=false:=by simpa using str_neF t2
    have HT2:=hid t2
    clear t2
    go_enter Tryz.func97,Tryz.ntmps97
    go_wp2
    go_ret
    exact⟨by simp[HT.out,HT2.out],HB.out⟩
 ·have q6:(kd==27)=false:=beq_eq_false_iff_ne.2 h6
  have HN:=hid h6
  clear h6
  go_enter Tryz.func97,Tryz.ntmps97
  go_wp2
  go_ret
  exact⟨by rw[HK.out];simp[HN.out],HB.out⟩
end Go.Proofs.YtedkgofehbecmaaGreatDoor
namespace Go.Proofs.YtedkgofehbecmaaGreatDoor
open Go.Lib (hid)
open Go Go.RowKit
open Tr (Bx heap1 bt Nds Ints BPost IPost rgB)
theorem info42:(Tryz.prog.info? 42).map (λi=>(i.zero,i.size,i.bytes))=some (some (.agg #[.int .i64 0,.int .i64 0,.int .i64 0,.slice none 0 0,.int .i64 0]),5,56):=by kernel_rfl
def GNodes (w:World)(X:Nat->Prop)(base:Nat)(V:Value)(G:List Gn):Prop:=∃xs,w.ownsRow base 42 5 V G.length xs/\∀j (hj:j<G.length),∃K c,(xs.drop (j*5)).take 5=[.int .i64 G[j].kd,.int .i64 G[j].pl,.int .i64 G[j].pr,.slice K G[j].nx.length c,.int .i64 G[j].rs]/\Kd w X K G[j].nx
theorem gnd_app {X:Nat->Prop}{w w':World}{nd:List Gn}{xs:List Value}(hl:xs.length=nd.length*5)(h:∀j (hj:j<nd.length),∃K c,(xs.drop (j*5)).take 5=[.int .i64 nd[j].kd,.int .i64 nd[j].pl,.int .i64 nd[j].pr,.slice K nd[j].nx.length c,.int .i64 nd[j].rs]/\Kd w X K nd[j].nx)(x:Gn)(KK:Option Addr)(kc:Nat)(hk:Kd w X KK x.nx)
  (hkeep:∀K ks,Kd w X K ks->Kd w' X K ks):∀j (hj:j<(nd++[x]).length),∃K c,((xs++[Value.int .i64 x.kd,.int .i64 x.pl,.int .i64 x.pr,.slice KK x.nx.length kc,.int .i64 x.rs]).drop (j*5)).take 5=[.int .i64 (nd++[x])[j].kd,.int .i64 (nd++[x])[j].pl,.int .i64 (nd++[x])[j].pr,.slice K (nd++[x])[j].nx.length c,.int .i64 (nd++[x])[j].rs]/\Kd w' X K (nd++[x])[j].nx:=λj hj=>by
 by_cases hj':j<nd.length
 ·obtain⟨K,c,e,k⟩:=h j hj'
  refine⟨K,c,?_,?_⟩
  ·simp only[List.getElem_append_left hj']
   rw[List.drop_append_of_le_length (by omega),List.take_append_of_le_length (by rw[List.length_drop];omega),e]
  ·simp only[List.getElem_append_left hj']
   exact hkeep _ _ k
 ·obtain rfl:j=nd.length:=by simp at hj;omega
  refine⟨KK,kc,?_,?_⟩
  ·rw[<- hl];simp
  ·simp;exact hkeep _ _ hk
theorem one5g (a b c d:Int)(K:Option Addr)(n m:Nat):∀u ∈ [Value.int .i64 a,.int .i64 b,.int .i64 c,.slice K n m,.int .i64 d],u.oneCell'=true:=λu hu=>by
 simp only[List.mem_cons,List.not_mem_nil,or_false]at hu
 rcases hu with rfl |rfl |rfl |rfl |rfl<;>rfl
def GAddPost (X:Nat->Prop)(base g:Nat)(tA rA sA V U:Value)(G:List Gn)(x:Gn)(w:World)(e:Ending)(w':World):Prop:=
 ∃V',e = .returned (.int .i64 (G.length:Int))/\Bx w' g 116 [tA,rA,sA,V',U]/\GNodes w' X base V' (G++[x])/\Fr (λb=>b=g\/V.ownBlock=some b) w w'/\∀b,V'.ownBlock=some b->V.ownBlock=some b\/w.heap.size<=b
theorem gadd_end {X:Nat->Prop}{w w4 W6:World}{base g:Nat}{tA rA sA U:Value}{G:List Gn}{kd pl pr:Int}{VA VA':Option Addr}{vc vc':Nat}{xs:List Value}{o:Obj}(hB:Bx w g 116 [tA,rA,sA,.slice VA G.length vc,U])(hown:w.ownsRow base 42 5 (.slice VA G.length vc) G.length xs)
  (hcs:∀j (hj:j<G.length),∃K c,(xs.drop (j*5)).take 5=[.int .i64 G[j].kd,.int .i64 G[j].pl,.int .i64 G[j].pr,.slice K G[j].nx.length c,.int .i64 G[j].rs]/\Kd w X K G[j].nx) (hgb:g<base)
  (hgrow4:(w.alloc o).drew.grownBy w4 (Value.slice VA G.length vc).ownBlock)
  (hown4:w4.ownsRow base 42 5 (.slice VA' (G.length+1) vc') (G.length+1) (xs++[.int .i64 kd,.int .i64 pl,.int .i64 pr,.slice none 0 0,.int .i64 (-1)]))
  (hfr4:∀k,(Value.slice VA' (G.length+1) vc').ownBlock=some k->(Value.slice VA G.length vc).ownBlock=some k\/(w.alloc o).drew.heap.size<=k)
  (hX6:Bx (w4.setCell ⟨g,3,none⟩ (.slice VA' (G.length+1) vc')) g 116 [tA,rA,sA,.slice VA' (G.length+1) vc',U]) (hW6:w4.setCell ⟨g,3,none⟩ (.slice VA' (G.length+1) vc')=W6) :
  GAddPost X base g tA rA sA (.slice VA G.length vc) U G ⟨kd,pl,pr,[],-1⟩ w (.returned (.int .i64 (G.length:Int))) W6:=by
 have f1:Fr (λb=>b=g\/(Value.slice VA G.length vc).ownBlock=some b) w w4:=(Fr.of (bdrew (heap1 w o))).trans (fr_grown hgrow4 (λb hb =>.inr hb))
 have f2:Fr (λb=>b=g\/(Value.slice VA G.length vc).ownBlock=some b) w W6:=by rw[<- hW6];exact f1.set (.inl rfl) _
 have f3:Fr (λb=>b=g) w4 W6:=by rw[<- hW6];exact Fr.set (E:=λb=>b=g) (Fr.refl _ _) rfl _
 have hkeep:∀K ks,Kd w X K ks->Kd W6 X K ks:=λK ks hk=>hk.fr f2 (λb cs hb e=>by
  rcases e with rfl |e
  ·have:=hb.symm.trans hB
   simp at this
  ·rcases hown.2 with⟨e1,_⟩ |⟨g',cap,cur,e1,_,e3,_⟩
   ·rw[e1]at e;exact absurd e (by simp[Value.ownBlock])
   ·rw[e1]at e
    obtain rfl:g'=b:=by simpa [Value.ownBlock]using e
    have:=hb.symm.trans e3
    simp at this)
 refine⟨_,rfl,by rw[<- hW6];exact hX6,⟨_,?_,gnd_app hown.1 hcs ⟨kd,pl,pr,[],-1⟩ none 0 (λh=>absurd h (Nat.lt_irrefl 0)) hkeep⟩,f2,?_⟩
 ·rw[List.length_append]
  exact own_fr hown4 f3 (λb e=>by omega)
 ·intro b hb
  refine(hfr4 b hb).imp id λq=>Nat.le_trans ?_ q
  show w.heap.size<=(w.alloc o).heap.size
  rw[World.size_alloc];omega
set_option maxRecDepth 100000 in
set_option maxHeartbeats 1500000 in
theorem gadd_any {X:Nat->Prop}{w:World}{base g np uc:Nat}{tA rA sA V:Value}{UA:Option Addr}{G:List Gn}(hB:Bx w g 116 [tA,rA,sA,V,.slice UA np uc])(hN:GNodes w X base V G)(kd pl:Int)(hnp:1<=np/\np<=4000)(hbase:base<=w.heap.size)(hgb:g<base)(hlen:G.length<=100000) :
  Calls Tryz.prog 135 #[.pointer (some ⟨g,0,none⟩),.int .i64 kd,.int .i64 pl] w (GAddPost X base g tA rA sA V (.slice UA np uc) G ⟨kd,pl,(np:Int)-1,[],-1⟩ w):=by
 obtain⟨j0,ji,jz0,jz1,jz2⟩:=info_parts info42
 obtain⟨xs,hown,hcs⟩:=hN
 obtain⟨VA,vc,rfl⟩:=own_slice hown
 obtain⟨vn,hvn⟩:∃vn,vn=G.length:=⟨_,rfl⟩
 have HVN:=hid hvn
 have h1:=hnp.1
 have h2:=hnp.2
 have hnz:(1:Int)<=(np:Int):=by omega
 have hnz2:(np:Int)<=4000:=by omega
 rw[<- hvn]at hlen hB
 have H0:=hid (And.intro hB (And.intro hown hcs))
 have hown':w.ownsRow base 42 5 (.slice VA vn vc) vn xs:=by rw[hvn];exact hown
 have c3:=(hB.cell 3).trans rfl
 have c4:=(hB.cell 4).trans rfl
 have e3:(w.alloc (.cells #[.int .i64 kd,.int .i64 pl,.int .i64 (IntKind.i64.wrap ((np:Int)-1)),.slice none 0 0,.int .i64 (-1)] 42)).drew.cell? ⟨g,3,none⟩=some (.slice VA vn vc):=((hB.alloc _).cell 3).trans rfl
 have HO:=hid (show(w.alloc (.cells #[.int .i64 kd,.int .i64 pl,.int .i64 (IntKind.i64.wrap ((np:Int)-1)),.slice none 0 0,.int .i64 (-1)] 42)).drew.ownsRow base 42 5 (.slice VA vn vc) vn xs from own_below hown' (bdrew (heap1 w (.cells #[.int .i64 kd,.int .i64 pl,.int .i64 (IntKind.i64.wrap ((np:Int)-1)),.slice none 0 0,.int .i64 (-1)] 42))))
 have HBC:=hid (blk_cells w [.int .i64 kd,.int .i64 pl,.int .i64 (IntKind.i64.wrap ((np:Int)-1)),.slice none 0 0,.int .i64 (-1)] 42)
 have HM1:=hid (show vn+1<=maxLen by unfold maxLen;omega)
 have HM2:=hid (show(vn+1)*56<=140737488355328 by omega)
 have HM3:=hid (show base<=(w.drew.alloc (.cells #[.int .i64 kd,.int .i64 pl,.int .i64 (IntKind.i64.wrap ((np:Int)-1)),.slice none 0 0,.int .i64 (-1)] 42)).heap.size by rw[World.size_alloc];show base<=w.heap.size+1;omega)
 have HX2:=hid hB
 have HH:=hid (And.intro hbase hgb)
 clear hown hown' hB hcs hvn hnp h1 h2
 go_enter Tryz.func135,Tryz.ntmps135
 go_upto_region 1 with(fail)
 go_region_law ((refine step_own rfl (.tmp 12) (.tmp 23) 27 rfl base 42 j0 (.agg #[.int .i64 0,.int .i64 0,.int .i64 0,.slice none 0 0,.int .i64 0]) 5 56 Tryz.underlying27 ji jz0 jz1 jz2 rfl (by decide) (.slice VA vn vc) vn xs (by simp[Act.eval]) HO.out ⟨w.heap.size,0,none⟩ 1 1 [.int .i64 kd,.int .i64 pl,.int .i64 (IntKind.i64.wrap ((np:Int)-1)),.slice none 0 0,.int .i64 (-1)] (by simp[Act.eval]) rfl HBC.out (one5g _ _ _ _ _ _ _) HM1.out HM2.out HM3.out ?_;intro v' w4 hown4 hgrow4 hfr4;obtain⟨VA',vc',rfl⟩:=own_slice hown4;have HFR:=hid hfr4;clear hfr4;have hX4:Bx w4 g 116 [tA,rA,sA,.slice VA vn vc,.slice UA np uc]:=(HX2.out.below (bdrew (Below.refl _ _)) HX2.out.lt).alloc _ |>.grown hgrow4 (λe=>by have:=(HO.out.lt g e.symm).1;have:=HH.out.2;omega);have d3:=(hX4.cell 3).trans rfl;have fd3:=hX4.frozen 3))
 all_goals
  rename_i K5 hk5
  refine hk5 _ _ ?_
  clear hk5
  obtain⟨W6,hW6⟩:∃W6,w4.setCell ⟨g,3,none⟩ (.slice VA' (vn+1) vc')=W6:=⟨_,rfl⟩
  have hX6:=hX4.set_ 3 (.slice VA' (vn+1) vc')
  simp only[List.set_cons_zero,List.set_cons_succ]at hX6
  have HF:=hid (And.intro hgrow4 (And.intro hown4 (And.intro hX6 (And.intro hW6 hX4))))
  rw[hW6]at hX6 |-
  have c6:=(hX6.cell 3).trans rfl
  clear c3 c4 e3 d3 fd3 hX4 hX6 hW6 hown4 hgrow4
  go_wp2
  obtain⟨hgrow4,hown4,hX6,hW6,hX4⟩:=HF.out
  obtain⟨hB,hown,hcs⟩:=H0.out
  obtain⟨hbase,hgb⟩:=HH.out
  obtain rfl:=HVN.out
  have hpr:IntKind.i64.wrap ((np:Int)-1)=(np:Int)-1:=IntWalk.i64_in _ (by omega)
  have hfr:=HFR.out
  rw[hpr]at hgrow4 hown4 hfr
  exact bodyPost_ret (v :=.int .i64 (G.length:Int)) (by simp[results,Tryz.f135,go_sem]) rfl (gadd_end hB hown hcs hgb hgrow4 hown4 hfr hX6 hW6)
end Go.Proofs.YtedkgofehbecmaaGreatDoor
