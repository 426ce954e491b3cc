/- PROVED here: parts TyDf of the claim. No condition but those in each theorem's own head. -/
import Derived.Test.YtignojhijmamhaaGreatJ41
import Derived.Test.YtignojhijmamhaaGreatJ42
namespace Go.Proofs.YtignojhijmamhaaGreat.Ty
open Go Go.RowKit Go.Sort
open Tr (Bx heap1 bt Nds Ints VPost BPost rgB par par_yes par_root par_node paL kidsAt IsPost)
def Strs (w:World)(A:Option Addr)(xs:List ByteArray):Prop:=
 0<xs.length→∃b off,A=some ⟨b,off,none⟩∧b<w.heap.size∧∀j (hj:j<xs.length),w.cell? ⟨b,off+j,none⟩=some (.string xs[j])
theorem strs_new (w:World)(xs:List ByteArray):Strs (w.alloc (.cells (xs.map Value.string).toArray 9)) (some ⟨w.heap.size,0,none⟩) xs:=fun _=>
 ⟨w.heap.size,0,rfl,(Bx.new w 9 (xs.map Value.string)).lt,fun j hj=>by
  have:=(Bx.new w 9 (xs.map Value.string)).cell j
  rw[Nat.zero_add,this]
  simp[hj]⟩
set_option maxRecDepth 100000 in
set_option maxHeartbeats 1500000 in
theorem among_any {w:World}{A:Option Addr}{n c:Nat}(xs:List ByteArray)(s:ByteArray)(hS:Strs w A xs)(hn:n=xs.length)(hn4:n≤100):Calls Tryz.prog 105 #[.slice A n c,.string s] w (BPost (xs.any fun x=>decide (x=s)) w):=by
 have HS:=Lib.hid hS
 have HN:=Lib.hid hn
 clear hS hn
 go_enter Tryz.func105,Tryz.ntmps105
 go_wp2
 go_loop [5] (fun v=>∃j:Nat,v = .int .i64 (j:Int)∧j≤n∧∀x ∈ xs.take j,x≠s) (fun v=>n-(intOf v).toNat)
 case atStart=>exact⟨0,rfl,Nat.zero_le _,fun x hx=>by simp at hx⟩
 case round=>
  obtain⟨j,rfl,hj,hno⟩:=hrel
  have HNO:=Lib.hid hno
  clear hno
  by_cases hjn:j<n
  ·have hjz:(j:Int)<(n:Int):=by omega
   have hjx:j<xs.length:=by rw[← HN.out];exact hjn
   obtain⟨b,off,rfl,hb,hc⟩:=HS.out (by omega)
   have hcj:=hc j hjx
   clear hc hb
   by_cases e:xs[j]=s
   ·have HF:=Lib.hid (show(xs.any fun x=>decide (x=s))=true from List.any_eq_true.2 ⟨xs[j],List.getElem_mem hjx,decide_eq_true e⟩)
    rw[e]at hcj
    have hse:=str_eq s
    clear e
    go_wp2
    go_ret
    exact⟨by rw[HF.out];try rfl,Below.refl _ _⟩
   ·have hse:=str_ne e
    have HF:=Lib.hid (show∀x ∈ xs.take (j+1),x≠s from fun x hx=>by
     rw[List.take_succ_eq_append_getElem hjx]at hx
     rcases List.mem_append.1 hx with hx |hx
     ·exact HNO.out x hx
     ·rw[List.mem_singleton.1 hx];exact e)
    generalize xs[j]=x at *
    clear e
    go_wp2
    go_round
    case rel=>exact⟨j+1,by go_num,by omega,HF.out⟩
    case measure=>simp[intOf];omega
  ·obtain rfl:j=n:=by omega
   have hjz:¬(j:Int)<(j:Int):=by omega
   have HF:=Lib.hid (show(xs.any fun x=>decide (x=s))=false from by
    have h5:=HNO.out
    rw[List.take_of_length_le (by rw[← HN.out];exact Nat.le_refl _)]at h5
    rw[List.any_eq_false]
    intro x hx
    rw[decide_eq_false (h5 x hx)];decide)
   go_wp2
   go_ret
   exact⟨by rw[HF.out];try rfl,Below.refl _ _⟩
set_option maxRecDepth 100000 in
set_option maxHeartbeats 1500000 in
theorem told_any (b:Bool)(w:World):Calls Tryz.prog 75 #[.bool b] w (Tr.IPost (toldZ b) w):=by
 cases b with
 |true=>
  go_enter Tryz.func75,Tryz.ntmps75
  go_wp2
  go_ret
  exact⟨rfl,Below.refl _ _⟩
 |false=>
  go_enter Tryz.func75,Tryz.ntmps75
  go_wp2
  go_ret
  exact⟨rfl,Below.refl _ _⟩
section
variable {w:World} {l:List Tr.Nd} {A:Option Addr} {n:Nat} {r:Int}
theorem sgn_any (tx:ByteArray):sgnT tx=if (([⟨#[43]⟩,⟨#[45]⟩,⟨#[42]⟩,⟨#[47]⟩,⟨#[37]⟩]:List ByteArray).any fun x=>decide (x=tx)) then 1 else 2:=by
 unfold sgnT
 by_cases h:tx=⟨#[43]⟩∨tx=⟨#[45]⟩∨tx=⟨#[42]⟩∨tx=⟨#[47]⟩∨tx=⟨#[37]⟩
 ·rw[if_pos h,if_pos (by
   rw[List.any_eq_true]
   rcases h with h |h |h |h |h<;>subst h
   ·exact⟨_,.head _,decide_eq_true rfl⟩
   ·exact⟨_,.tail _ (.head _),decide_eq_true rfl⟩
   ·exact⟨_,.tail _ (.tail _ (.head _)),decide_eq_true rfl⟩
   ·exact⟨_,.tail _ (.tail _ (.tail _ (.head _))),decide_eq_true rfl⟩
   ·exact⟨_,.tail _ (.tail _ (.tail _ (.tail _ (.head _)))),decide_eq_true rfl⟩)]
 ·rw[if_neg h,if_neg (by
   intro h2
   rw[List.any_eq_true]at h2
   obtain⟨x,hx,h3⟩:=h2
   have h4:=of_decide_eq_true h3
   subst h4
   simp at hx
   exact h hx)]
set_option maxRecDepth 100000 in
set_option maxHeartbeats 8000000 in
theorem typed_any (h:RT w A n l r)(c p:Nat)(hp:p<n):Calls Tryz.prog 78 #[.agg #[.slice A n c,.int .i64 r],.int .i64 (p:Int)] w (Tr.IPost (typA l p) w):=by
 have hb0:=heap1 w (.cells #[.slice A n c,.int .i64 r] 24)
 have HX:=Lib.hid (Bx.new w 24 [.slice A n c,.int .i64 r])
 have HB0:=Lib.hid hb0
 have HT:=Lib.hid (h.below hb0)
 obtain⟨W0,hW0⟩:∃W0,w.alloc (.cells #[.slice A n c,.int .i64 r] 24)=W0:=⟨_,rfl⟩
 rw[hW0]at HX HB0 HT
 clear h hb0
 obtain⟨bA,off,K,cK,rfl,xt,x0,x1,x2,x3,x4,_⟩:=HT.out.node hp
 have a0:=(HX.out.cell 0).trans rfl
 have a1:=(HX.out.cell 1).trans rfl
 have hpz:(p:Int)<(n:Int):=by omega
 have hb1:=heap1 W0 (.cells #[.int .i64 (ndA l p).kd,.int .i64 (ndA l p).n,.int .i64 (ndA l p).pl,.string (ndA l p).tx,.slice K (ndA l p).ks.length cK] 66)
 have HB1:=Lib.hid (bt HB0.out hb1)
 have HV:=Lib.hid (kind_any (HT.out.below hb1) c p (ndA l p).tx hp)
 have e0:=((HX.out.below hb1 HX.out.lt).cell 0).trans rfl
 have e1:=((HX.out.below hb1 HX.out.lt).cell 1).trans rfl
 have hN1:=Bx.new W0 66 [.int .i64 (ndA l p).kd,.int .i64 (ndA l p).n,.int .i64 (ndA l p).pl,.string (ndA l p).tx,.slice K (ndA l p).ks.length cK]
 obtain⟨W1,hW1⟩:∃W1,W0.alloc (.cells #[.int .i64 (ndA l p).kd,.int .i64 (ndA l p).n,.int .i64 (ndA l p).pl,.string (ndA l p).tx,.slice K (ndA l p).ks.length cK] 66)=W1:=⟨_,rfl⟩
 rw[hW1]at HB1 HV e0 e1 hN1 hb1
 have ek:=(hN1.cell 0).trans rfl
 have et:=(hN1.cell 3).trans rfl
 have et2:=((hN1.alloc (.cells #[.string ⟨#[43]⟩,.string ⟨#[45]⟩,.string ⟨#[42]⟩,.string ⟨#[47]⟩,.string ⟨#[37]⟩] 9)).cell 3).trans rfl
 have HS:=Lib.hid (show Calls Tryz.prog 105 #[.slice (some ⟨W1.heap.size,0,none⟩) 5 5,.string (ndA l p).tx] (W1.alloc (.cells #[.string ⟨#[43]⟩,.string ⟨#[45]⟩,.string ⟨#[42]⟩,.string ⟨#[47]⟩,.string ⟨#[37]⟩] 9)) (BPost (([⟨#[43]⟩,⟨#[45]⟩,⟨#[42]⟩,⟨#[47]⟩,⟨#[37]⟩]:List ByteArray).any fun x=>decide (x=(ndA l (p:Int)).tx)) (W1.alloc (.cells #[.string ⟨#[43]⟩,.string ⟨#[45]⟩,.string ⟨#[42]⟩,.string ⟨#[47]⟩,.string ⟨#[37]⟩] 9)))from among_any (c:=5) [⟨#[43]⟩,⟨#[45]⟩,⟨#[42]⟩,⟨#[47]⟩,⟨#[37]⟩] (ndA l p).tx (strs_new W1 [⟨#[43]⟩,⟨#[45]⟩,⟨#[42]⟩,⟨#[47]⟩,⟨#[37]⟩]) (rfl:5=_) (by decide))
 have HSB:=Lib.hid (heap1 W1 (.cells #[.string ⟨#[43]⟩,.string ⟨#[45]⟩,.string ⟨#[42]⟩,.string ⟨#[47]⟩,.string ⟨#[37]⟩] 9))
 clear hb1 hN1
 rw[show kdT l p (ndA l p).tx=vrT l p from rfl]at HV
 have hsg:=sgn_any (ndA l p).tx
 generalize (([⟨#[43]⟩,⟨#[45]⟩,⟨#[42]⟩,⟨#[47]⟩,⟨#[37]⟩]:List ByteArray).any fun x=>decide (x=(ndA l (p:Int)).tx))=sb at *
 unfold typA
 rw[hsg]
 clear hsg
 generalize (ndA l (p:Int)).kd=k at *
 generalize (ndA l (p:Int)).tx=tx at *
 generalize (ndA l (p:Int)).n=nn at *
 generalize (ndA l (p:Int)).pl=pl at *
 generalize (ndA l (p:Int)).ks.length=m at *
 generalize vrT l p=vt at *
 clear HT
 by_cases k20:k=20
 ·subst k20
  rw[if_pos (by decide)]
  clear HV HS HSB
  go_enter Tryz.func78,Tryz.ntmps78
  go_wp2
  go_ret
  exact⟨rfl,HB1.out⟩
 have f20:(k==20)=false:=beq_eq_false_iff_ne.2 k20
 by_cases k23:k=23
 ·subst k23
  rw[if_pos (by decide)]
  clear HV HS HSB
  go_enter Tryz.func78,Tryz.ntmps78
  go_wp2
  go_ret
  exact⟨rfl,HB1.out⟩
 have f23:(k==23)=false:=beq_eq_false_iff_ne.2 k23
 by_cases k24:k=24
 ·subst k24
  rw[if_pos (by decide)]
  clear HV HS HSB
  go_enter Tryz.func78,Tryz.ntmps78
  go_wp2
  go_ret
  exact⟨rfl,HB1.out⟩
 have f24:(k==24)=false:=beq_eq_false_iff_ne.2 k24
 rw[if_neg (by omega)]
 by_cases k21:k=21
 ·subst k21
  rw[if_pos rfl]
  clear HV HS HSB
  go_enter Tryz.func78,Tryz.ntmps78
  go_wp2
  go_ret
  exact⟨rfl,HB1.out⟩
 have f21:(k==21)=false:=beq_eq_false_iff_ne.2 k21
 rw[if_neg (by omega)]
 by_cases k22:k=22
 ·subst k22
  rw[if_pos rfl]
  clear HS HSB
  go_enter Tryz.func78,Tryz.ntmps78
  go_wp2_with (go_at_call 104;refine HV.out.mono ?_)
  rintro e w2 ⟨rfl,hb2⟩
  have HB2:=Lib.hid (bt HB1.out hb2)
  clear hb2
  go_wp2
  go_ret
  exact⟨rfl,HB2.out⟩
 have f22:(k==22)=false:=beq_eq_false_iff_ne.2 k22
 rw[if_neg (by omega)]
 by_cases k25:k=25
 ·subst k25
  rw[if_pos rfl]
  clear HV HS HSB
  go_enter Tryz.func78,Tryz.ntmps78
  go_wp2
  go_ret
  exact⟨rfl,HB1.out⟩
 have f25:(k==25)=false:=beq_eq_false_iff_ne.2 k25
 rw[if_neg (by omega)]
 by_cases k26:k=26
 ·subst k26
  rw[if_pos (by decide)]
  clear HV
  cases sb with
  |true=>
   rw[if_pos rfl]
   go_enter Tryz.func78,Tryz.ntmps78
   go_wp2_with (go_at_call 105;refine HS.out.mono ?_)
   rintro e w2 ⟨rfl,hb2⟩
   have HB2:=Lib.hid (bt HB1.out (bt HSB.out hb2))
   clear hb2
   go_wp2
   go_ret
   exact⟨rfl,HB2.out⟩
  |false=>
   rw[if_neg (by decide)]
   go_enter Tryz.func78,Tryz.ntmps78
   go_wp2_with (go_at_call 105;refine HS.out.mono ?_)
   rintro e w2 ⟨rfl,hb2⟩
   have HB2:=Lib.hid (bt HB1.out (bt HSB.out hb2))
   clear hb2
   go_wp2
   go_ret
   exact⟨rfl,HB2.out⟩
 have f26:(k==26)=false:=beq_eq_false_iff_ne.2 k26
 by_cases k27:k=27
 ·subst k27
  rw[if_pos (by decide)]
  clear HV
  cases sb with
  |true=>
   rw[if_pos rfl]
   go_enter Tryz.func78,Tryz.ntmps78
   go_wp2_with (go_at_call 105;refine HS.out.mono ?_)
   rintro e w2 ⟨rfl,hb2⟩
   have HB2:=Lib.hid (bt HB1.out (bt HSB.out hb2))
   clear hb2
   go_wp2
   go_ret
   exact⟨rfl,HB2.out⟩
  |false=>
   rw[if_neg (by decide)]
   go_enter Tryz.func78,Tryz.ntmps78
   go_wp2_with (go_at_call 105;refine HS.out.mono ?_)
   rintro e w2 ⟨rfl,hb2⟩
   have HB2:=Lib.hid (bt HB1.out (bt HSB.out hb2))
   clear hb2
   go_wp2
   go_ret
   exact⟨rfl,HB2.out⟩
 have f27:(k==27)=false:=beq_eq_false_iff_ne.2 k27
 rw[if_neg (by omega)]
 clear HV HS HSB k20 k23 k24 k21 k22 k25 k26 k27
 go_enter Tryz.func78,Tryz.ntmps78
 go_wp2
 go_ret
 exact⟨rfl,HB1.out⟩
set_option maxRecDepth 100000 in
set_option maxHeartbeats 1500000 in
theorem all_any (h:RT w A n l r)(c:Nat)(ks:List Int)(K:Option Addr)(m cK:Nat)(t:Int)(hK:Ints w K ks)(hm:m=ks.length)(hm4:m≤4000)(hks:∀k ∈ ks,∃q:Nat,k=(q:Int)∧q<n):Calls Tryz.prog 103 #[.agg #[.slice A n c,.int .i64 r],.slice K m cK,.int .i64 t] w (BPost (areB l ks t) w):=by
 have hK0:=hK.below (heap1 w (.cells #[.slice A n c,.int .i64 r] 24))
 have hb0:=heap1 w (.cells #[.slice A n c,.int .i64 r] 24)
 have HX:=Lib.hid (Bx.new w 24 [.slice A n c,.int .i64 r])
 have HB0:=Lib.hid hb0
 have HT:=Lib.hid (h.below hb0)
 obtain⟨W0,hW0⟩:∃W0,w.alloc (.cells #[.slice A n c,.int .i64 r] 24)=W0:=⟨_,rfl⟩
 rw[hW0]at HX HB0 HT hK0
 clear h hb0
 have HK:=Lib.hid hK0
 have HM:=Lib.hid hm
 have HKS:=Lib.hid hks
 clear hK hK0 hm hks
 go_enter Tryz.func103,Tryz.ntmps103
 go_wp2
 go_loopg [7] m (fun g v wr=>∃j:Nat,v = .int .i64 (j:Int)∧j≤m∧g=m-j∧(∀k ∈ ks.take j,typA l k.toNat=t)∧Below W0.heap.size W0 wr)
 case atStart=>exact⟨0,rfl,Nat.zero_le _,rfl,fun k hk=>by simp at hk,Below.refl _ _⟩
 case round=>
  obtain⟨j,rfl,hj,rfl,hok,hb⟩:=hrel
  have HB:=Lib.hid hb
  have HOK:=Lib.hid hok
  obtain⟨W1,rfl⟩:∃W1,W1=wr:=⟨_,rfl⟩
  clear hok
  by_cases hjm:j<m
  ·have hjz:(j:Int)<(m:Int):=by omega
   have hjk:j<ks.length:=by rw[← HM.out];exact hjm
   obtain⟨bK,oK,rfl,hbK,hcK⟩:=HK.out (by omega)
   obtain⟨q,hq,hqn⟩:=HKS.out _ (List.getElem_mem hjk)
   have hck:=(hb.cell (p:=⟨bK,oK+j,none⟩) hbK).trans (hcK j hjk)
   rw[hq]at hck
   have HTY:=Lib.hid (fun W (k:Below W1.heap.size W1 W)=>typed_any (HT.out.below (bt hb k)) c q hqn)
   have HF:=Lib.hid (show∀x ∈ ks.take (j+1),x ∈ ks.take j∨x=(q:Int)from fun x hx=>by
    rw[List.take_succ_eq_append_getElem hjk]at hx
    rcases List.mem_append.1 hx with hx |hx
    ·exact Or.inl hx
    ·rw[List.mem_singleton.1 hx];exact Or.inr hq)
   have HIN:=Lib.hid (show(q:Int) ∈ ks from hq▸List.getElem_mem hjk)
   have a0:=((HX.out.below hb HX.out.lt).cell 0).trans rfl
   have a1:=((HX.out.below hb HX.out.lt).cell 1).trans rfl
   clear hcK hq hb
   have s0:=cell_regrown a0
   have s1:=cell_regrown a1
   have s2:=cell_regrown hck
   have cq:∀d os,Calls Tryz.prog 78 #[.agg #[.slice A n c,.int .i64 r],.int .i64 (q:Int)] (grow (redrawn W1 d) os) fun e w''=>e = .returned (.int .i64 (typA l q))∧∃p:Regrown,w''=grow (redrawn W1 p.d) p.os:=fun d os=>Calls.regrown_of (HTY.out _ (below_regrown W1 d os))
   have HTQ:=Lib.hid (show typA l ((q:Int)).toNat=typA l q from rfl)
   clear a0 a1 hck HTY
   generalize typA l q=tq at *
   by_cases e:tq=t
   ·have h1:(tq != t)=false:=by simp[e]
    go_upto_region 4 with(fail)
    refine wp_region_quiet_below (by kernel_rfl) (by kernel_rfl) ?_
    repeat (go_big_quiet_step (first|exact cq _ _))
    refine wpQuiet_nil ?_
    intro _ hw'
    obtain⟨⟨dq,osq⟩,hw''⟩:=hw'
    subst hw''
    have hbq:=below_regrown W1 dq osq
    generalize grow (redrawn W1 dq) osq=W4 at *
    have HB4:=Lib.hid (HB.out.trans (hbq.mono HB.out.size))
    clear s0 s1 s2 hbq cq
    have HG:=Lib.hid (show∀x ∈ ks.take (j+1),typA l x.toNat=t from fun x hx=>by
     rcases HF.out x hx with hx |hx
     ·exact HOK.out x hx
     ·rw[hx,HTQ.out];exact e)
    clear e
    go_wp2
    go_roundg (m-(j+1))
    case measure=>go_light;omega
    case rel=>
     go_light
     exact⟨j+1,by go_num,by omega,rfl,HG.out,HB4.out⟩
   ·have h1:(tq != t)=true:=by simp[e]
    have HG:=Lib.hid (show areB l ks t=false by
     unfold areB
     rw[List.all_eq_false]
     exact⟨_,HIN.out,by rw[HTQ.out,decide_eq_false e];decide⟩)
    clear e
    go_upto_region 4 with(fail)
    refine wp_region_quiet_below (by kernel_rfl) (by kernel_rfl) ?_
    repeat (go_big_quiet_step (first|exact cq _ _))
    refine wpQuiet_nil ?_
    intro _ hw'
    obtain⟨⟨dq,osq⟩,hw''⟩:=hw'
    subst hw''
    have hbq:=below_regrown W1 dq osq
    generalize grow (redrawn W1 dq) osq=W4 at *
    have HB4:=Lib.hid (HB.out.trans (hbq.mono HB.out.size))
    clear s0 s1 s2 hbq cq
    go_wp2
    go_ret
    exact⟨by rw[HG.out];try rfl,bt HB0.out HB4.out⟩
  ·obtain rfl:j=m:=by omega
   have hjz:¬(j:Int)<(j:Int):=by omega
   have HG:=Lib.hid (show areB l ks t=true by
    have h5:=HOK.out
    rw[List.take_of_length_le (by rw[← HM.out];exact Nat.le_refl _)]at h5
    unfold areB
    rw[List.all_eq_true]
    exact fun x hx=>decide_eq_true (h5 x hx))
   clear hb
   go_wp2
   go_ret
   exact⟨by rw[HG.out];try rfl,bt HB0.out HB.out⟩
set_option maxRecDepth 100000 in
set_option maxHeartbeats 1500000 in
theorem twice_any (h:RT w A n l r)(c p:Nat)(hp:p<n):Calls Tryz.prog 73 #[.agg #[.slice A n c,.int .i64 r],.int .i64 (p:Int)] w (BPost (twiA l p) w):=by
 have hb0:=heap1 w (.cells #[.slice A n c,.int .i64 r] 24)
 have HX:=Lib.hid (Bx.new w 24 [.slice A n c,.int .i64 r])
 have HB0:=Lib.hid hb0
 have HT:=Lib.hid (h.below hb0)
 obtain⟨W0,hW0⟩:∃W0,w.alloc (.cells #[.slice A n c,.int .i64 r] 24)=W0:=⟨_,rfl⟩
 rw[hW0]at HX HB0 HT
 clear h hb0
 obtain⟨bA,off,K,cK,rfl,xt,x0,x1,x2,x3,x4,_⟩:=HT.out.node hp
 have a0:=(HX.out.cell 0).trans rfl
 have a1:=(HX.out.cell 1).trans rfl
 have hpz:(p:Int)<(n:Int):=by omega
 have hb1:=heap1 W0 (.cells #[.int .i64 (ndA l p).kd,.int .i64 (ndA l p).n,.int .i64 (ndA l p).pl,.string (ndA l p).tx,.slice K (ndA l p).ks.length cK] 66)
 have HB1:=Lib.hid hb1
 have hX1:=HX.out.alloc (.cells #[.int .i64 (ndA l p).kd,.int .i64 (ndA l p).n,.int .i64 (ndA l p).pl,.string (ndA l p).tx,.slice K (ndA l p).ks.length cK] 66)
 have hN1:=Bx.new W0 66 [.int .i64 (ndA l p).kd,.int .i64 (ndA l p).n,.int .i64 (ndA l p).pl,.string (ndA l p).tx,.slice K (ndA l p).ks.length cK]
 obtain⟨W1,hW1⟩:∃W1,W0.alloc (.cells #[.int .i64 (ndA l p).kd,.int .i64 (ndA l p).n,.int .i64 (ndA l p).pl,.string (ndA l p).tx,.slice K (ndA l p).ks.length cK] 66)=W1:=⟨_,rfl⟩
 rw[hW1]at HB1 hX1 hN1
 have HX1:=Lib.hid (And.intro hX1 hN1)
 have HT1:=Lib.hid (HT.out.below HB1.out)
 clear hb1 hX1 hN1
 have e0:=(HX1.out.1.cell 0).trans rfl
 have e1:=(HX1.out.1.cell 1).trans rfl
 have ek:=(HX1.out.2.cell 0).trans rfl
 have et:=(HX1.out.2.cell 3).trans rfl
 have es:=(HX1.out.2.cell 4).trans rfl
 have HLN:=Lib.hid HT.out.tt.len
 obtain⟨b,hRT⟩:=HT.out.rtn
 have hroot:=HT.out.root
 have hlen:=hRT.len
 unfold twiA
 rw[← hroot]
 have hF2:=of_any HT1.out c (l.length-1) (by rw[HLN.out];omega) 2 3 (ndA l p).tx
 rw[← hroot]at hF2
 have HF2:=Lib.hid hF2
 by_cases h45:(ndA l p).kd=4∨(ndA l p).kd=5
 ·rw[if_pos h45]
  obtain⟨q,hq,_,_,how⟩:=hRT.inProc (by rw[← HLN.out];exact hp) h45
  have hqn:q<n:=by rw[HLN.out];exact hq
  have HO:=Lib.hid (fun W (k:Below W1.heap.size W1 W)=>rowner_any (HT1.out.below k) c p hp)
  have HF1:=Lib.hid (fun W (k:Below W1.heap.size W1 W)=>of_any (HT1.out.below k) c q hqn 4 5 (ndA l p).tx)
  rw[how]at HO ⊢
  have r0:=cell_regrown e0
  have r1:=cell_regrown e1
  have r2:=cell_regrown et
  have cq:∀d os,Calls Tryz.prog 80 #[.agg #[.slice (some ⟨bA,off,none⟩) n c,.int .i64 r],.int .i64 (p:Int)] (grow (redrawn W1 d) os) fun e w''=>e = .returned (.int .i64 (q:Int))∧∃p:Regrown,w''=grow (redrawn W1 p.d) p.os:=fun d os=>Calls.regrown_of (HO.out _ (below_regrown W1 d os))
  have cr:∀d os,Calls Tryz.prog 41 #[.agg #[.slice (some ⟨bA,off,none⟩) n c,.int .i64 r],.int .i64 (q:Int),.int .i64 4,.int .i64 5,.string (ndA l p).tx] (grow (redrawn W1 d) os) fun e w''=>e = .returned (.int .i64 (ofA l q 4 5 (ndA l p).tx))∧∃p:Regrown,w''=grow (redrawn W1 p.d) p.os:=fun d os=>Calls.regrown_of (HF1.out _ (below_regrown W1 d os))
  clear how hq hqn hF2 HF2 hroot hlen hRT HO HF1 HT HT1
  generalize ofA l q 4 5 (ndA l (p:Int)).tx=dz at *
  rcases h45 with h4 |h4
  ·rw[h4]at x0 hW1 ek HX1
   clear h4
   generalize (ndA l (p:Int)).tx=tx at *
   generalize (ndA l (p:Int)).n=nn at *
   generalize (ndA l (p:Int)).pl=pl at *
   generalize (ndA l (p:Int)).ks.length=m at *
   go_enter Tryz.func73,Tryz.ntmps73
   go_upto_region 3 with(fail)
   refine wp_region_quiet_below (by kernel_rfl) (by kernel_rfl) ?_
   repeat (go_big_quiet_step (first|exact cq _ _ |exact cr _ _))
   refine wpQuiet_nil ?_
   intro _ hw'
   obtain⟨⟨dq,osq⟩,hw''⟩:=hw'
   subst hw''
   have hbq:=below_regrown W1 dq osq
   generalize grow (redrawn W1 dq) osq=W4 at *
   have HB4:=Lib.hid (bt HB0.out (bt HB1.out hbq))
   clear hbq cq cr
   go_wp2
   go_ret
   exact⟨rfl,HB4.out⟩
  ·rw[h4]at x0 hW1 ek HX1
   clear h4
   generalize (ndA l (p:Int)).tx=tx at *
   generalize (ndA l (p:Int)).n=nn at *
   generalize (ndA l (p:Int)).pl=pl at *
   generalize (ndA l (p:Int)).ks.length=m at *
   go_enter Tryz.func73,Tryz.ntmps73
   go_upto_region 3 with(fail)
   refine wp_region_quiet_below (by kernel_rfl) (by kernel_rfl) ?_
   repeat (go_big_quiet_step (first|exact cq _ _ |exact cr _ _))
   refine wpQuiet_nil ?_
   intro _ hw'
   obtain⟨⟨dq,osq⟩,hw''⟩:=hw'
   subst hw''
   have hbq:=below_regrown W1 dq osq
   generalize grow (redrawn W1 dq) osq=W4 at *
   have HB4:=Lib.hid (bt HB0.out (bt HB1.out hbq))
   clear hbq cq cr
   go_wp2
   go_ret
   exact⟨rfl,HB4.out⟩
 ·rw[if_neg h45]
  have k4:((ndA l p).kd==4)=false:=beq_eq_false_iff_ne.2 (by omega)
  have k5:((ndA l p).kd==5)=false:=beq_eq_false_iff_ne.2 (by omega)
  clear hF2 hroot hlen hRT HT HT1 h45
  generalize ofA l r 2 3 (ndA l (p:Int)).tx=dz at *
  generalize (ndA l (p:Int)).kd=kd at *
  generalize (ndA l (p:Int)).tx=tx at *
  generalize (ndA l (p:Int)).n=nn at *
  generalize (ndA l (p:Int)).pl=pl at *
  generalize (ndA l (p:Int)).ks.length=m at *
  go_enter Tryz.func73,Tryz.ntmps73
  go_wp2_with (go_at_call 41;refine HF2.out.mono ?_)
  rintro e w2 ⟨rfl,hb2⟩
  have HB2:=Lib.hid (bt HB0.out (bt HB1.out hb2))
  clear hb2
  go_wp2
  go_ret
  exact⟨rfl,HB2.out⟩
set_option maxRecDepth 100000 in
set_option maxHeartbeats 1500000 in
theorem named_any (h:RT w A n l r)(c p:Nat)(want kids:Int)(hp:p<n):Calls Tryz.prog 74 #[.agg #[.slice A n c,.int .i64 r],.int .i64 (p:Int),.int .i64 want,.int .i64 kids] w (Tr.IPost (nmA l p want kids) w):=by
 have hb0:=heap1 w (.cells #[.slice A n c,.int .i64 r] 24)
 have HX:=Lib.hid (Bx.new w 24 [.slice A n c,.int .i64 r])
 have HB0:=Lib.hid hb0
 have HT:=Lib.hid (h.below hb0)
 obtain⟨W0,hW0⟩:∃W0,w.alloc (.cells #[.slice A n c,.int .i64 r] 24)=W0:=⟨_,rfl⟩
 rw[hW0]at HX HB0 HT
 clear h hb0
 obtain⟨bA,off,K,cK,rfl,xt,x0,x1,x2,x3,x4,xI⟩:=HT.out.node hp
 have a0:=(HX.out.cell 0).trans rfl
 have a1:=(HX.out.cell 1).trans rfl
 have hpz:(p:Int)<(n:Int):=by omega
 have hb1:=heap1 W0 (.cells #[.int .i64 (ndA l p).kd,.int .i64 (ndA l p).n,.int .i64 (ndA l p).pl,.string (ndA l p).tx,.slice K (ndA l p).ks.length cK] 66)
 have HB1:=Lib.hid hb1
 have hX1:=HX.out.alloc (.cells #[.int .i64 (ndA l p).kd,.int .i64 (ndA l p).n,.int .i64 (ndA l p).pl,.string (ndA l p).tx,.slice K (ndA l p).ks.length cK] 66)
 have hN1:=Bx.new W0 66 [.int .i64 (ndA l p).kd,.int .i64 (ndA l p).n,.int .i64 (ndA l p).pl,.string (ndA l p).tx,.slice K (ndA l p).ks.length cK]
 obtain⟨W1,hW1⟩:∃W1,W0.alloc (.cells #[.int .i64 (ndA l p).kd,.int .i64 (ndA l p).n,.int .i64 (ndA l p).pl,.string (ndA l p).tx,.slice K (ndA l p).ks.length cK] 66)=W1:=⟨_,rfl⟩
 rw[hW1]at HB1 hX1 hN1
 have HX1:=Lib.hid (And.intro hX1 hN1)
 have HT1:=Lib.hid (HT.out.below HB1.out)
 clear hb1 hX1 hN1
 have e0:=(HX1.out.1.cell 0).trans rfl
 have e1:=(HX1.out.1.cell 1).trans rfl
 have ek:=(HX1.out.2.cell 0).trans rfl
 have et:=(HX1.out.2.cell 3).trans rfl
 have es:=(HX1.out.2.cell 4).trans rfl
 have HMN:=Lib.hid (means_any HT1.out c p (ndA l p).tx hp)
 have HV:=Lib.hid (fun W (k:Below W1.heap.size W1 W)=>kind_any (HT1.out.below k) c p (ndA l p).tx hp)
 rw[show kdT l p (ndA l p).tx=vrT l p from rfl]at HV
 have hm4:(ndA l p).ks.length≤4000:=by rw[ndA_eq (show p<l.length by rw[← HT.out.tt.len];exact hp)];exact HT.out.tt.kids _ (List.getElem_mem _)
 have hkn:∀k ∈ (ndA l p).ks,∃q:Nat,k=(q:Int)∧q<n:=fun k hk=>by
  obtain⟨j,hj,e⟩:=List.getElem_of_mem hk
  obtain⟨q,e2,h2⟩:=HT.out.kid hp hj
  exact⟨q,by rw[← e,e2],by omega⟩
 have HAL:=Lib.hid (fun W (k:Below W1.heap.size W1 W)=>all_any (HT1.out.below k) c (ndA l p).ks K (ndA l p).ks.length cK kids (xI.below (bt HB1.out k)) rfl hm4 hkn)
 clear hkn hm4 xI HT HT1
 cases e:dnA l p (ndA l p).tx with
 |none=>
  rw[e,show optZ none = -1 from rfl]at HMN
  rw[show nmA l p want kids=3 by unfold nmA;rw[e];rfl]
  clear e HV HAL
  generalize (ndA l (p:Int)).kd=kd at *
  generalize (ndA l (p:Int)).tx=tx at *
  generalize (ndA l (p:Int)).n=nn at *
  generalize (ndA l (p:Int)).pl=pl at *
  generalize (ndA l (p:Int)).ks.length=m at *
  go_enter Tryz.func74,Tryz.ntmps74
  go_wp2_with (go_at_call 102;refine HMN.out.mono ?_)
  rintro e w2 ⟨rfl,hb2⟩
  have HB2:=Lib.hid (bt HB0.out (bt HB1.out hb2))
  clear hb2
  go_wp2
  go_ret
  exact⟨rfl,HB2.out⟩
 |some d=>
  rw[e,show optZ (some d)=(d:Int)from rfl]at HMN
  have hd0:¬(d:Int)<0:=by omega
  have HOKC:=Lib.hid (show(want=0∨vrT l p=want)→(kids=0∨areB l (ndA l p).ks kids=true)→nmA l p want kids=0 from fun h1 h2=>by
   unfold nmA
   rw[e,if_neg (by show¬(false=true);decide),if_neg (by rintro(⟨h3,h4⟩ |h3);exact h1.elim h3 h4;exact h3 h2)])
  have HB1C:=Lib.hid (show want≠0→vrT l p≠want→nmA l p want kids=5 from fun h1 h2=>by
   unfold nmA
   rw[e,if_neg (by show¬(false=true);decide),if_pos (Or.inl ⟨h1,h2⟩)])
  have HB2C:=Lib.hid (show kids≠0→areB l (ndA l p).ks kids=false→nmA l p want kids=5 from fun h1 h2=>by
   unfold nmA
   rw[e,if_neg (by show¬(false=true);decide),if_pos (Or.inr (by rintro(h3 |h3);exact h1 h3;rw[h2]at h3;cases h3))])
  clear e
  generalize nmA l p want kids=nv at *
  generalize areB l (ndA l (p:Int)).ks kids=ab at *
  generalize vrT l p=vt at *
  generalize (ndA l (p:Int)).kd=kd at *
  generalize (ndA l (p:Int)).tx=tx at *
  generalize (ndA l (p:Int)).n=nn at *
  generalize (ndA l (p:Int)).pl=pl at *
  generalize (ndA l (p:Int)).ks.length=m at *
  by_cases hk0:kids=0
  ·subst hk0
   clear HAL
   by_cases hw0:want=0
   ·subst hw0
    go_enter Tryz.func74,Tryz.ntmps74
    go_wp2_with (go_at_call 102;refine HMN.out.mono ?_)
    rintro e w2 ⟨rfl,hb2⟩
    have HB2:=Lib.hid hb2
    have u0:=((HX1.out.1.below hb2 HX1.out.1.lt).cell 0).trans rfl
    have u1:=((HX1.out.1.below hb2 HX1.out.1.lt).cell 1).trans rfl
    have ut:=((HX1.out.2.below hb2 HX1.out.2.lt).cell 3).trans rfl
    have us:=((HX1.out.2.below hb2 HX1.out.2.lt).cell 4).trans rfl
    clear hb2
    have HE:=Lib.hid (bt HB0.out (bt HB1.out HB2.out))
    go_wp2
    go_ret
    exact⟨by rw[HOKC.out (by first|exact Or.inl rfl |trivial |simp) (by first|exact Or.inl rfl |trivial |simp)];try rfl,HE.out⟩
   ·go_enter Tryz.func74,Tryz.ntmps74
    go_wp2_with (go_at_call 102;refine HMN.out.mono ?_)
    rintro e w2 ⟨rfl,hb2⟩
    have HB2:=Lib.hid hb2
    have u0:=((HX1.out.1.below hb2 HX1.out.1.lt).cell 0).trans rfl
    have u1:=((HX1.out.1.below hb2 HX1.out.1.lt).cell 1).trans rfl
    have ut:=((HX1.out.2.below hb2 HX1.out.2.lt).cell 3).trans rfl
    have us:=((HX1.out.2.below hb2 HX1.out.2.lt).cell 4).trans rfl
    clear hb2
    have hwn:(want != 0)=true:=by simp[hw0]
    have HW0:=Lib.hid hw0
    clear hw0
    go_wp2_with (go_at_call 104;refine(HV.out _ HB2.out).mono ?_)
    rintro e w3 ⟨rfl,hb3⟩
    have HE:=Lib.hid (bt HB0.out (bt HB1.out (bt HB2.out hb3)))
    clear hb3
    by_cases hv:vt=want
    ·have hvn:(vt != want)=false:=by simp[hv]
     have HVV:=Lib.hid hv
     clear hv
     go_wp2
     go_ret
     exact⟨by rw[HOKC.out (Or.inr HVV.out) (by first|exact Or.inl rfl |trivial |simp)];try rfl,HE.out⟩
    ·have hvn:(vt != want)=true:=by simp[hv]
     have HVV:=Lib.hid hv
     clear hv
     go_wp2
     go_ret
     exact⟨by rw[HB1C.out HW0.out HVV.out];try rfl,HE.out⟩
  ·have hkb:(kids==0)=false:=beq_eq_false_iff_ne.2 hk0
   have HK0:=Lib.hid hk0
   by_cases hw0:want=0
   ·subst hw0
    go_enter Tryz.func74,Tryz.ntmps74
    go_wp2_with (go_at_call 102;refine HMN.out.mono ?_)
    rintro e w2 ⟨rfl,hb2⟩
    have HB2:=Lib.hid hb2
    have u0:=((HX1.out.1.below hb2 HX1.out.1.lt).cell 0).trans rfl
    have u1:=((HX1.out.1.below hb2 HX1.out.1.lt).cell 1).trans rfl
    have ut:=((HX1.out.2.below hb2 HX1.out.2.lt).cell 3).trans rfl
    have us:=((HX1.out.2.below hb2 HX1.out.2.lt).cell 4).trans rfl
    clear hb2
    go_wp2_with (go_at_call 103;refine(HAL.out _ HB2.out).mono ?_)
    rintro e w4 ⟨rfl,hb4⟩
    have HB4:=Lib.hid (bt HB2.out hb4)
    clear hb4 u0 u1 ut us
    have HE:=Lib.hid (bt HB0.out (bt HB1.out HB4.out))
    cases ab with
    |true=>
     go_wp2
     go_ret
     exact⟨by rw[HOKC.out (by first|exact Or.inl rfl |trivial |simp) (by first|exact Or.inr rfl |trivial |simp)];try rfl,HE.out⟩
    |false=>
     go_wp2
     go_ret
     exact⟨by rw[HB2C.out hk0 (by first|rfl |trivial)];try rfl,HE.out⟩
   ·have hwn:(want != 0)=true:=by simp[hw0]
    go_enter Tryz.func74,Tryz.ntmps74
    go_wp2_with (go_at_call 102;refine HMN.out.mono ?_)
    rintro e w2 ⟨rfl,hb2⟩
    have HB2:=Lib.hid hb2
    have u0:=((HX1.out.1.below hb2 HX1.out.1.lt).cell 0).trans rfl
    have u1:=((HX1.out.1.below hb2 HX1.out.1.lt).cell 1).trans rfl
    have ut:=((HX1.out.2.below hb2 HX1.out.2.lt).cell 3).trans rfl
    have us:=((HX1.out.2.below hb2 HX1.out.2.lt).cell 4).trans rfl
    clear hb2
    go_wp2_with (go_at_call 103;refine(HAL.out _ HB2.out).mono ?_)
    rintro e w4 ⟨rfl,hb4⟩
    have HB4:=Lib.hid (bt HB2.out hb4)
    clear u0 u1 ut us
    have hb5:=bt HB2.out hb4
    have u0:=((HX1.out.1.below hb5 HX1.out.1.lt).cell 0).trans rfl
    have u1:=((HX1.out.1.below hb5 HX1.out.1.lt).cell 1).trans rfl
    have ut:=((HX1.out.2.below hb5 HX1.out.2.lt).cell 3).trans rfl
    have us:=((HX1.out.2.below hb5 HX1.out.2.lt).cell 4).trans rfl
    clear hb4 hb5
    have HW0:=Lib.hid hw0
    clear hw0
    go_wp2_with (go_at_call 104;refine(HV.out _ HB4.out).mono ?_)
    rintro e w3 ⟨rfl,hb3⟩
    have HE:=Lib.hid (bt HB0.out (bt HB1.out (bt HB4.out hb3)))
    clear hb3
    by_cases hv:vt=want
    ·have hvn:(vt != want)=false:=by simp[hv]
     have HVV:=Lib.hid hv
     clear hv
     cases ab with
     |true=>
      go_wp2
      go_ret
      exact⟨by rw[HOKC.out (Or.inr HVV.out) (by first|exact Or.inr rfl |trivial |simp)];try rfl,HE.out⟩
     |false=>
      go_wp2
      go_ret
      exact⟨by rw[HB2C.out HK0.out (by first|rfl |trivial)];try rfl,HE.out⟩
    ·have hvn:(vt != want)=true:=by simp[hv]
     have HVV:=Lib.hid hv
     clear hv
     cases ab with
     |true=>
      go_wp2
      go_ret
      exact⟨by rw[HB1C.out HW0.out HVV.out];try rfl,HE.out⟩
     |false=>
      go_wp2
      go_ret
      exact⟨by rw[HB1C.out HW0.out HVV.out];try rfl,HE.out⟩
end
end Go.Proofs.YtignojhijmamhaaGreat.Ty
