/- PROVED: Df Dg. No more condition. -/
import Derived.Test.YteecfjhjllajlaaGreatDoorG36
import Derived.Test.YteecfjhjllajlaaGreatDoorG37
set_option maxHeartbeats 8000000
set_option maxRecDepth 100000
namespace Go.Proofs.YteecfjhjllajlaaGreatDoor
open Go.Lib (hid)
section
open Go Go.RowKit Go.Sort
open Tr (Bx ag bt bu Ints aG au fT par gL fK eY qp aA gJ)
def Strs (w:World)(A:Option Addr)(xs:List ByteArray):Prop:=
 0<xs.length->∃b off,A=some ⟨b,off,none⟩/\b<w.heap.size/\∀j (hj:j<xs.length),w.cell? ⟨b,off+j,none⟩=some (.string xs[j])
theorem Strs.below {w w':World}{A:Option Addr}{xs:List ByteArray}(h:Strs w A xs)(hb:Below w.heap.size w w'):Strs w' A xs:=λh0=>by
 obtain⟨b,off,e,hl,hc⟩:=h h0;exact⟨b,off,e,Nat.lt_of_lt_of_le hl hb.size,λj hj=>(hb.cell (p:=⟨b,off+j,none⟩) hl).trans (hc j hj)⟩
theorem xU (w:World)(xs:List ByteArray):Strs (w.alloc (.cells (xs.map Value.string).toArray 9)) (some ⟨w.heap.size,0,none⟩) xs:=λ_=>
 ⟨w.heap.size,0,rfl,(Bx.new w 9 (xs.map Value.string)).lt,λj hj=>by
  have:=(Bx.new w 9 (xs.map Value.string)).cell j
  rw[Nat.zero_add,this]
  simp[hj]⟩
theorem uq {w:World}{A:Option Addr}{n c:Nat}(xs:List ByteArray)(s:ByteArray)(hS:Strs w A xs)(hn:n=xs.length)(hn4:n<=100):Calls Tryz.prog 98 #[.slice A n c,.string s] w (au (xs.any λx=>decide (x=s)) w):=by
 have HS:=hid hS;have HN:=hid hn;clear hS hn;go_enter Tryz.func98,Tryz.ntmps98
 go_wp2
 go_loop [5] (λv=>∃j:Nat,v=.int .i64 (j:Int)/\j<=n/\∀x ∈ xs.take j,x≠s) (λv=>n-(intOf v).toNat)
 case atStart=>exact⟨0,rfl,Nat.zero_le _,λx hx=>by simp at hx⟩
 case round=>
  obtain⟨j,rfl,hj,hno⟩:=hrel;have HNO:=hid hno;clear hno;by_cases hjn:j<n
  ·have hjz:(j:Int)<(n:Int):=by omega
   have hjx:j<xs.length:=by rw[<- HN.out];exact hjn
   obtain⟨b,off,rfl,hb,hc⟩:=HS.out (by omega);have hcj:=hc j hjx;clear hc hb;by_cases e:xs[j]=s
   ·have HF:=hid (show(xs.any λx=>decide (x=s))=true from List.any_eq_true.2 ⟨xs[j],List.getElem_mem hjx,decide_eq_true e⟩);rw[e]at hcj;have hse:=str_eq s;clear e;go_wp2
    go_ret
    exact⟨by rw[HF.out];try rfl,Below.refl _ _⟩
   ·have hse:=si e;have HF:=hid (show∀x ∈ xs.take (j+1),x≠s from λx hx=>by
     rw[List.take_succ_eq_append_getElem hjx]at hx;rcases List.mem_append.1 hx with hx |hx
     ·exact HNO.out x hx
     ·rw[List.mem_singleton.1 hx];exact e)
    generalize xs[j]=x at *
    clear e;go_wp2
    go_round
    case rel=>exact⟨j+1,by go_num,by omega,HF.out⟩
    case measure=>simp[intOf];omega
  ·obtain rfl:j=n:=by omega
   have hjz:¬(j:Int)<(j:Int):=by omega
   have HF:=hid (show(xs.any λx=>decide (x=s))=false from by
    have h5:=HNO.out
    rw[List.take_of_length_le (by rw[<- HN.out];exact Nat.le_refl _)]at h5
    rw[List.any_eq_false]
    intro x hx
    rw[decide_eq_false (h5 x hx)];decide)
   go_wp2
   go_ret
   exact⟨by rw[HF.out];try rfl,Below.refl _ _⟩
theorem dS (b:Bool)(w:World):Calls Tryz.prog 149 #[.bool b] w (Tr.az (dM b) w):=by
 cases b with
 |true=>
  go_enter Tryz.func149,Tryz.ntmps149
  go_wp2
  go_ret
  exact⟨rfl,Below.refl _ _⟩
 |false=>
  go_enter Tryz.func149,Tryz.ntmps149
  go_wp2
  go_ret
  exact⟨rfl,Below.refl _ _⟩
section
variable {w:World} {l:List Tr.Nd} {A:Option Addr} {n:Nat} {r:Int}
theorem G_ (tx:ByteArray):vo tx=if (([⟨#[43]⟩,⟨#[45]⟩,⟨#[42]⟩,⟨#[47]⟩,⟨#[37]⟩]:List ByteArray).any λx=>decide (x=tx)) then 1 else 2:=by
 unfold vo;by_cases h:tx=⟨#[43]⟩\/tx=⟨#[45]⟩\/tx=⟨#[42]⟩\/tx=⟨#[47]⟩\/tx=⟨#[37]⟩
 ·rw[if_pos h,if_pos (by
   rw[List.any_eq_true]
   rcases h with h |h |h |h |h<;>subst h
   ·exact⟨_,.head _,decide_eq_true rfl⟩
   ·exact⟨_,.tail _ (.head _),decide_eq_true rfl⟩
   ·exact⟨_,.tail _ (.tail _ (.head _)),decide_eq_true rfl⟩
   ·exact⟨_,.tail _ (.tail _ (.tail _ (.head _))),decide_eq_true rfl⟩
   ·exact⟨_,.tail _ (.tail _ (.tail _ (.tail _ (.head _)))),decide_eq_true rfl⟩)]
 ·rw[if_neg h,if_neg (by
   intro h2
   rw[List.any_eq_true]at h2
   obtain⟨x,hx,h3⟩:=h2
   have h4:=of_decide_eq_true h3
   subst h4
   simp at hx
   exact h hx)]
theorem bJ (h:RT w A n l r)(c p:Nat)(hp:p<n):Calls Tryz.prog 95 #[.agg #[.slice A n c,.int .i64 r],.int .i64 (p:Int)] w (Tr.az (aC l p) w):=by
 have hb0:=ag w (.cells #[.slice A n c,.int .i64 r] 25);have HX:=hid (Bx.new w 25 [.slice A n c,.int .i64 r]);have HB0:=hid hb0;have HT:=hid (h.below hb0);obtain⟨W0,hW0⟩:∃W0,w.alloc (.cells #[.slice A n c,.int .i64 r] 25)=W0:=⟨_,rfl⟩;rw[hW0]at HX HB0 HT;clear h hb0;obtain⟨bA,off,K,cK,rfl,xt,x0,x1,x2,x3,x4,_⟩:=HT.out.node hp;have a0:=(HX.out.cell 0).trans rfl;have a1:=(HX.out.cell 1).trans rfl;have hpz:(p:Int)<(n:Int):=by omega
 have hb1:=ag W0 (.cells #[.int .i64 (ae l p).kd,.int .i64 (ae l p).n,.int .i64 (ae l p).pl,.string (ae l p).tx,.slice K (ae l p).ks.length cK] 37);have HB1:=hid (bt HB0.out hb1);have HV:=hid (sj (HT.out.below hb1) c p (ae l p).tx hp);have e0:=((HX.out.below hb1 HX.out.lt).cell 0).trans rfl;have e1:=((HX.out.below hb1 HX.out.lt).cell 1).trans rfl;have hN1:=Bx.new W0 37 [.int .i64 (ae l p).kd,.int .i64 (ae l p).n,.int .i64 (ae l p).pl,.string (ae l p).tx,.slice K (ae l p).ks.length cK];obtain⟨W1,hW1⟩:∃W1,W0.alloc (.cells #[.int .i64 (ae l p).kd,.int .i64 (ae l p).n,.int .i64 (ae l p).pl,.string (ae l p).tx,.slice K (ae l p).ks.length cK] 37)=W1:=⟨_,rfl⟩;rw[hW1]at HB1 HV e0 e1 hN1 hb1;have ek:=(hN1.cell 0).trans rfl;have et:=(hN1.cell 3).trans rfl;have et2:=((hN1.alloc (.cells #[.string ⟨#[43]⟩,.string ⟨#[45]⟩,.string ⟨#[42]⟩,.string ⟨#[47]⟩,.string ⟨#[37]⟩] 9)).cell 3).trans rfl;have HS:=hid (show Calls Tryz.prog 98 #[.slice (some ⟨W1.heap.size,0,none⟩) 5 5,.string (ae l p).tx] (W1.alloc (.cells #[.string ⟨#[43]⟩,.string ⟨#[45]⟩,.string ⟨#[42]⟩,.string ⟨#[47]⟩,.string ⟨#[37]⟩] 9)) (au (([⟨#[43]⟩,⟨#[45]⟩,⟨#[42]⟩,⟨#[47]⟩,⟨#[37]⟩]:List ByteArray).any λx=>decide (x=(ae l (p:Int)).tx)) (W1.alloc (.cells #[.string ⟨#[43]⟩,.string ⟨#[45]⟩,.string ⟨#[42]⟩,.string ⟨#[47]⟩,.string ⟨#[37]⟩] 9)))from uq (c:=5) [⟨#[43]⟩,⟨#[45]⟩,⟨#[42]⟩,⟨#[47]⟩,⟨#[37]⟩] (ae l p).tx (xU W1 [⟨#[43]⟩,⟨#[45]⟩,⟨#[42]⟩,⟨#[47]⟩,⟨#[37]⟩]) (rfl:5=_) (by decide))
 have HSB:=hid (ag W1 (.cells #[.string ⟨#[43]⟩,.string ⟨#[45]⟩,.string ⟨#[42]⟩,.string ⟨#[47]⟩,.string ⟨#[37]⟩] 9));clear hb1 hN1;rw[show Mt l p (ae l p).tx=jo l p from rfl]at HV;have hsg:=G_ (ae l p).tx;generalize (([⟨#[43]⟩,⟨#[45]⟩,⟨#[42]⟩,⟨#[47]⟩,⟨#[37]⟩]:List ByteArray).any λx=>decide (x=(ae l (p:Int)).tx))=sb at *
 unfold aC;rw[hsg];clear hsg;generalize (ae l (p:Int)).kd=k at *
 generalize (ae l (p:Int)).tx=tx at *
 generalize (ae l (p:Int)).n=nn at *
 generalize (ae l (p:Int)).pl=pl at *
 generalize (ae l (p:Int)).ks.length=m at *
 generalize jo l p=vt at *
 clear HT;by_cases k20:k=20
 ·subst k20;rw[if_pos (by decide)];clear HV HS HSB;go_enter Tryz.func95,Tryz.ntmps95
  go_wp2
  go_ret
  exact⟨rfl,HB1.out⟩
 have f20:(k==20)=false:=beq_eq_false_iff_ne.2 k20;by_cases k23:k=23
 ·subst k23;rw[if_pos (by decide)];clear HV HS HSB;go_enter Tryz.func95,Tryz.ntmps95
  go_wp2
  go_ret
  exact⟨rfl,HB1.out⟩
 have f23:(k==23)=false:=beq_eq_false_iff_ne.2 k23;by_cases k24:k=24
 ·subst k24;rw[if_pos (by decide)];clear HV HS HSB;go_enter Tryz.func95,Tryz.ntmps95
  go_wp2
  go_ret
  exact⟨rfl,HB1.out⟩
 have f24:(k==24)=false:=beq_eq_false_iff_ne.2 k24;rw[if_neg (by omega)];by_cases k21:k=21
 ·subst k21;rw[if_pos rfl];clear HV HS HSB;go_enter Tryz.func95,Tryz.ntmps95
  go_wp2
  go_ret
  exact⟨rfl,HB1.out⟩
 have f21:(k==21)=false:=beq_eq_false_iff_ne.2 k21;rw[if_neg (by omega)];by_cases k22:k=22
 ·subst k22;rw[if_pos rfl];clear HS HSB;go_enter Tryz.func95,Tryz.ntmps95
  go_wp2_with (go_at_call 156;refine HV.out.mono ?_);rintro e w2 ⟨rfl,hb2⟩;have HB2:=hid (bt HB1.out hb2);clear hb2;go_wp2
  go_ret
  exact⟨rfl,HB2.out⟩
 have f22:(k==22)=false:=beq_eq_false_iff_ne.2 k22;rw[if_neg (by omega)];by_cases k25:k=25
 ·subst k25;rw[if_pos rfl];clear HV HS HSB;go_enter Tryz.func95,Tryz.ntmps95
  go_wp2
  go_ret
  exact⟨rfl,HB1.out⟩
 have f25:(k==25)=false:=beq_eq_false_iff_ne.2 k25;rw[if_neg (by omega)];by_cases k26:k=26
 ·subst k26;rw[if_pos (by decide)];clear HV;cases sb with
  |true=>
   rw[if_pos rfl];go_enter Tryz.func95,Tryz.ntmps95
   go_wp2_with (go_at_call 98;refine HS.out.mono ?_);rintro e w2 ⟨rfl,hb2⟩;have HB2:=hid (bt HB1.out (bt HSB.out hb2));clear hb2;go_wp2
   go_ret
   exact⟨rfl,HB2.out⟩
  |false=>
   rw[if_neg (by decide)];go_enter Tryz.func95,Tryz.ntmps95
   go_wp2_with (go_at_call 98;refine HS.out.mono ?_);rintro e w2 ⟨rfl,hb2⟩;have HB2:=hid (bt HB1.out (bt HSB.out hb2));clear hb2;go_wp2
   go_ret
   exact⟨rfl,HB2.out⟩
 have f26:(k==26)=false:=beq_eq_false_iff_ne.2 k26;by_cases k27:k=27
 ·subst k27;rw[if_pos (by decide)];clear HV;cases sb with
  |true=>
   rw[if_pos rfl];go_enter Tryz.func95,Tryz.ntmps95
   go_wp2_with (go_at_call 98;refine HS.out.mono ?_);rintro e w2 ⟨rfl,hb2⟩;have HB2:=hid (bt HB1.out (bt HSB.out hb2));clear hb2;go_wp2
   go_ret
   exact⟨rfl,HB2.out⟩
  |false=>
   rw[if_neg (by decide)];go_enter Tryz.func95,Tryz.ntmps95
   go_wp2_with (go_at_call 98;refine HS.out.mono ?_);rintro e w2 ⟨rfl,hb2⟩;have HB2:=hid (bt HB1.out (bt HSB.out hb2));clear hb2;go_wp2
   go_ret
   exact⟨rfl,HB2.out⟩
 have f27:(k==27)=false:=beq_eq_false_iff_ne.2 k27;rw[if_neg (by omega)];clear HV HS HSB k20 k23 k24 k21 k22 k25 k26 k27;go_enter Tryz.func95,Tryz.ntmps95
 go_wp2
 go_ret
 exact⟨rfl,HB1.out⟩
theorem fA (h:RT w A n l r)(c:Nat)(ks:List Int)(K:Option Addr)(m cK:Nat)(t:Int)(hK:Ints w K ks)(hm:m=ks.length)(hm4:m<=4000)(hks:∀k ∈ ks,∃q:Nat,k=(q:Int)/\q<n):Calls Tryz.prog 223 #[.agg #[.slice A n c,.int .i64 r],.slice K m cK,.int .i64 t] w (au (dU l ks t) w):=by
 have hK0:=hK.below (ag w (.cells #[.slice A n c,.int .i64 r] 25));have hb0:=ag w (.cells #[.slice A n c,.int .i64 r] 25);have HX:=hid (Bx.new w 25 [.slice A n c,.int .i64 r]);have HB0:=hid hb0;have HT:=hid (h.below hb0);obtain⟨W0,hW0⟩:∃W0,w.alloc (.cells #[.slice A n c,.int .i64 r] 25)=W0:=⟨_,rfl⟩;rw[hW0]at HX HB0 HT hK0;clear h hb0;have HK:=hid hK0;have HM:=hid hm;have HKS:=hid hks;clear hK hK0 hm hks;go_enter Tryz.func223,Tryz.ntmps223
 go_wp2
 go_loopg [7] m (λg v wr=>∃j:Nat,v=.int .i64 (j:Int)/\j<=m/\g=m-j/\(∀k ∈ ks.take j,aC l k.toNat=t)/\Below W0.heap.size W0 wr)
 case atStart=>exact⟨0,rfl,Nat.zero_le _,rfl,λk hk=>by simp at hk,Below.refl _ _⟩
 case round=>
  obtain⟨j,rfl,hj,rfl,hok,hb⟩:=hrel;have HB:=hid hb;have HOK:=hid hok;obtain⟨W1,rfl⟩:∃W1,W1=wr:=⟨_,rfl⟩;clear hok;by_cases hjm:j<m
  ·have hjz:(j:Int)<(m:Int):=by omega
   have hjk:j<ks.length:=by rw[<- HM.out];exact hjm
   obtain⟨bK,oK,rfl,hbK,hcK⟩:=HK.out (by omega);obtain⟨q,hq,hqn⟩:=HKS.out _ (List.getElem_mem hjk);have hck:=(hb.cell (p:=⟨bK,oK+j,none⟩) hbK).trans (hcK j hjk);rw[hq]at hck;have HTY:=hid (λW (k:Below W1.heap.size W1 W)=>bJ (HT.out.below (bt hb k)) c q hqn);have HF:=hid (show∀x ∈ ks.take (j+1),x ∈ ks.take j\/x=(q:Int)from λx hx=>by
    rw[List.take_succ_eq_append_getElem hjk]at hx;rcases List.mem_append.1 hx with hx |hx
    ·exact Or.inl hx
    ·rw[List.mem_singleton.1 hx];exact Or.inr hq)
   have HIN:=hid (show(q:Int) ∈ ks from hq▸List.getElem_mem hjk);have a0:=((HX.out.below hb HX.out.lt).cell 0).trans rfl;have a1:=((HX.out.below hb HX.out.lt).cell 1).trans rfl;clear hcK hq hb;have s0:=cell_regrown a0;have s1:=cell_regrown a1;have s2:=cell_regrown hck;have cq:∀d os,Calls Tryz.prog 95 #[.agg #[.slice A n c,.int .i64 r],.int .i64 (q:Int)] (grow (redrawn W1 d) os) λe w''=>e=.returned (.int .i64 (aC l q))/\∃p:Regrown,w''=grow (redrawn W1 p.d) p.os:=λd os=>Calls.regrown_of (HTY.out _ (below_regrown W1 d os))
   have HTQ:=hid (show aC l ((q:Int)).toNat=aC l q from rfl);clear a0 a1 hck HTY;generalize aC l q=tq at *
   by_cases e:tq=t
   ·have h1:(tq != t)=false:=by simp[e]
    go_upto_region 4 with(fail)
    refine wp_region_quiet_below (by kernel_rfl) (by kernel_rfl) ?_
    repeat (go_big_quiet_step (first|exact cq _ _))
    refine wpQuiet_nil ?_;intro _ hw';obtain⟨⟨dq,osq⟩,hw''⟩:=hw';subst hw'';have hbq:=below_regrown W1 dq osq;generalize grow (redrawn W1 dq) osq=W4 at *
    have HB4:=hid (HB.out.trans (hbq.mono HB.out.size));clear s0 s1 s2 hbq cq;have HG:=hid (show∀x ∈ ks.take (j+1),aC l x.toNat=t from λx hx=>by
     rcases HF.out x hx with hx |hx
     ·exact HOK.out x hx
     ·rw[hx,HTQ.out];exact e)
    clear e;go_wp2
    go_roundg (m-(j+1))
    case measure=>go_light;omega
    case rel=>
     go_light
     exact⟨j+1,by go_num,by omega,rfl,HG.out,HB4.out⟩
   ·have h1:(tq != t)=true:=by simp[e]
    have HG:=hid (show dU l ks t=false by
     unfold dU
     rw[List.all_eq_false]
     exact⟨_,HIN.out,by rw[HTQ.out,decide_eq_false e];decide⟩)
    clear e
    go_upto_region 4 with(fail)
    refine wp_region_quiet_below (by kernel_rfl) (by kernel_rfl) ?_
    repeat (go_big_quiet_step (first|exact cq _ _))
    refine wpQuiet_nil ?_;intro _ hw';obtain⟨⟨dq,osq⟩,hw''⟩:=hw';subst hw'';have hbq:=below_regrown W1 dq osq;generalize grow (redrawn W1 dq) osq=W4 at *
    have HB4:=hid (HB.out.trans (hbq.mono HB.out.size));clear s0 s1 s2 hbq cq;go_wp2
    go_ret
    exact⟨by rw[HG.out];try rfl,bt HB0.out HB4.out⟩
  ·obtain rfl:j=m:=by omega
   have hjz:¬(j:Int)<(j:Int):=by omega
   have HG:=hid (show dU l ks t=true by
    have h5:=HOK.out
    rw[List.take_of_length_le (by rw[<- HM.out];exact Nat.le_refl _)]at h5
    unfold dU
    rw[List.all_eq_true]
    exact λx hx=>decide_eq_true (h5 x hx))
   clear hb;go_wp2
   go_ret
   exact⟨by rw[HG.out];try rfl,bt HB0.out HB.out⟩
theorem mE (h:RT w A n l r)(c p:Nat)(hp:p<n):Calls Tryz.prog 147 #[.agg #[.slice A n c,.int .i64 r],.int .i64 (p:Int)] w (au (p9 l p) w):=by
 have hb0:=ag w (.cells #[.slice A n c,.int .i64 r] 25);have HX:=hid (Bx.new w 25 [.slice A n c,.int .i64 r]);have HB0:=hid hb0;have HT:=hid (h.below hb0);obtain⟨W0,hW0⟩:∃W0,w.alloc (.cells #[.slice A n c,.int .i64 r] 25)=W0:=⟨_,rfl⟩;rw[hW0]at HX HB0 HT;clear h hb0;obtain⟨bA,off,K,cK,rfl,xt,x0,x1,x2,x3,x4,_⟩:=HT.out.node hp;have a0:=(HX.out.cell 0).trans rfl;have a1:=(HX.out.cell 1).trans rfl;have hpz:(p:Int)<(n:Int):=by omega
 have hb1:=ag W0 (.cells #[.int .i64 (ae l p).kd,.int .i64 (ae l p).n,.int .i64 (ae l p).pl,.string (ae l p).tx,.slice K (ae l p).ks.length cK] 37);have HB1:=hid hb1;have hX1:=HX.out.alloc (.cells #[.int .i64 (ae l p).kd,.int .i64 (ae l p).n,.int .i64 (ae l p).pl,.string (ae l p).tx,.slice K (ae l p).ks.length cK] 37);have hN1:=Bx.new W0 37 [.int .i64 (ae l p).kd,.int .i64 (ae l p).n,.int .i64 (ae l p).pl,.string (ae l p).tx,.slice K (ae l p).ks.length cK];obtain⟨W1,hW1⟩:∃W1,W0.alloc (.cells #[.int .i64 (ae l p).kd,.int .i64 (ae l p).n,.int .i64 (ae l p).pl,.string (ae l p).tx,.slice K (ae l p).ks.length cK] 37)=W1:=⟨_,rfl⟩;rw[hW1]at HB1 hX1 hN1;have HX1:=hid (And.intro hX1 hN1);have HT1:=hid (HT.out.below HB1.out);clear hb1 hX1 hN1;have e0:=(HX1.out.1.cell 0).trans rfl;have e1:=(HX1.out.1.cell 1).trans rfl;have ek:=(HX1.out.2.cell 0).trans rfl;have et:=(HX1.out.2.cell 3).trans rfl;have es:=(HX1.out.2.cell 4).trans rfl;have HLN:=hid HT.out.tt.len;obtain⟨b,hRT⟩:=HT.out.rtn;have hroot:=HT.out.root;have hlen:=hRT.len;unfold p9;rw[<- hroot];have hF2:=nH HT1.out c (l.length-1) (by rw[HLN.out];omega) 2 3 (ae l p).tx;rw[<- hroot]at hF2;have HF2:=hid hF2;by_cases h45:(ae l p).kd=4\/(ae l p).kd=5
 ·rw[if_pos h45];obtain⟨q,hq,_,_,how⟩:=hRT.inProc (by rw[<- HLN.out];exact hp) h45;have hqn:q<n:=by rw[HLN.out];exact hq
  have HO:=hid (λW (k:Below W1.heap.size W1 W)=>nG (HT1.out.below k) c p hp);have HF1:=hid (λW (k:Below W1.heap.size W1 W)=>nH (HT1.out.below k) c q hqn 4 5 (ae l p).tx);rw[how]at HO |-;have r0:=cell_regrown e0;have r1:=cell_regrown e1;have r2:=cell_regrown et;have cq:∀d os,Calls Tryz.prog 88 #[.agg #[.slice (some ⟨bA,off,none⟩) n c,.int .i64 r],.int .i64 (p:Int)] (grow (redrawn W1 d) os) λe w''=>e=.returned (.int .i64 (q:Int))/\∃p:Regrown,w''=grow (redrawn W1 p.d) p.os:=λd os=>Calls.regrown_of (HO.out _ (below_regrown W1 d os))
  have cr:∀d os,Calls Tryz.prog 85 #[.agg #[.slice (some ⟨bA,off,none⟩) n c,.int .i64 r],.int .i64 (q:Int),.int .i64 4,.int .i64 5,.string (ae l p).tx] (grow (redrawn W1 d) os) λe w''=>e=.returned (.int .i64 (vJ l q 4 5 (ae l p).tx))/\∃p:Regrown,w''=grow (redrawn W1 p.d) p.os:=λd os=>Calls.regrown_of (HF1.out _ (below_regrown W1 d os))
  clear how hq hqn hF2 HF2 hroot hlen hRT HO HF1 HT HT1;generalize vJ l q 4 5 (ae l (p:Int)).tx=dz at *
  rcases h45 with h4 |h4
  ·rw[h4]at x0 hW1 ek HX1;clear h4;generalize (ae l (p:Int)).tx=tx at *
   generalize (ae l (p:Int)).n=nn at *
   generalize (ae l (p:Int)).pl=pl at *
   generalize (ae l (p:Int)).ks.length=m at *
   go_enter Tryz.func147,Tryz.ntmps147
   go_upto_region 3 with(fail)
   refine wp_region_quiet_below (by kernel_rfl) (by kernel_rfl) ?_
   repeat (go_big_quiet_step (first|exact cq _ _ |exact cr _ _))
   refine wpQuiet_nil ?_;intro _ hw';obtain⟨⟨dq,osq⟩,hw''⟩:=hw';subst hw'';have hbq:=below_regrown W1 dq osq;generalize grow (redrawn W1 dq) osq=W4 at *
   have HB4:=hid (bt HB0.out (bt HB1.out hbq));clear hbq cq cr;go_wp2
   go_ret
   exact⟨rfl,HB4.out⟩
  ·rw[h4]at x0 hW1 ek HX1;clear h4;generalize (ae l (p:Int)).tx=tx at *
   generalize (ae l (p:Int)).n=nn at *
   generalize (ae l (p:Int)).pl=pl at *
   generalize (ae l (p:Int)).ks.length=m at *
   go_enter Tryz.func147,Tryz.ntmps147
   go_upto_region 3 with(fail)
   refine wp_region_quiet_below (by kernel_rfl) (by kernel_rfl) ?_
   repeat (go_big_quiet_step (first|exact cq _ _ |exact cr _ _))
   refine wpQuiet_nil ?_;intro _ hw';obtain⟨⟨dq,osq⟩,hw''⟩:=hw';subst hw'';have hbq:=below_regrown W1 dq osq;generalize grow (redrawn W1 dq) osq=W4 at *
   have HB4:=hid (bt HB0.out (bt HB1.out hbq));clear hbq cq cr;go_wp2
   go_ret
   exact⟨rfl,HB4.out⟩
 ·rw[if_neg h45];have k4:((ae l p).kd==4)=false:=beq_eq_false_iff_ne.2 (by omega);have k5:((ae l p).kd==5)=false:=beq_eq_false_iff_ne.2 (by omega);clear hF2 hroot hlen hRT HT HT1 h45;generalize vJ l r 2 3 (ae l (p:Int)).tx=dz at *
  generalize (ae l (p:Int)).kd=kd at *
  generalize (ae l (p:Int)).tx=tx at *
  generalize (ae l (p:Int)).n=nn at *
  generalize (ae l (p:Int)).pl=pl at *
  generalize (ae l (p:Int)).ks.length=m at *
  go_enter Tryz.func147,Tryz.ntmps147
  go_wp2_with (go_at_call 85;refine HF2.out.mono ?_);rintro e w2 ⟨rfl,hb2⟩;have HB2:=hid (bt HB0.out (bt HB1.out hb2));clear hb2;go_wp2
  go_ret
  exact⟨rfl,HB2.out⟩
theorem gD (h:RT w A n l r)(c p:Nat)(want kids:Int)(hp:p<n):Calls Tryz.prog 148 #[.agg #[.slice A n c,.int .i64 r],.int .i64 (p:Int),.int .i64 want,.int .i64 kids] w (Tr.az (mG l p want kids) w):=by
 have hb0:=ag w (.cells #[.slice A n c,.int .i64 r] 25);have HX:=hid (Bx.new w 25 [.slice A n c,.int .i64 r]);have HB0:=hid hb0;have HT:=hid (h.below hb0);obtain⟨W0,hW0⟩:∃W0,w.alloc (.cells #[.slice A n c,.int .i64 r] 25)=W0:=⟨_,rfl⟩;rw[hW0]at HX HB0 HT;clear h hb0;obtain⟨bA,off,K,cK,rfl,xt,x0,x1,x2,x3,x4,xI⟩:=HT.out.node hp;have a0:=(HX.out.cell 0).trans rfl;have a1:=(HX.out.cell 1).trans rfl;have hpz:(p:Int)<(n:Int):=by omega
 have hb1:=ag W0 (.cells #[.int .i64 (ae l p).kd,.int .i64 (ae l p).n,.int .i64 (ae l p).pl,.string (ae l p).tx,.slice K (ae l p).ks.length cK] 37);have HB1:=hid hb1;have hX1:=HX.out.alloc (.cells #[.int .i64 (ae l p).kd,.int .i64 (ae l p).n,.int .i64 (ae l p).pl,.string (ae l p).tx,.slice K (ae l p).ks.length cK] 37);have hN1:=Bx.new W0 37 [.int .i64 (ae l p).kd,.int .i64 (ae l p).n,.int .i64 (ae l p).pl,.string (ae l p).tx,.slice K (ae l p).ks.length cK];obtain⟨W1,hW1⟩:∃W1,W0.alloc (.cells #[.int .i64 (ae l p).kd,.int .i64 (ae l p).n,.int .i64 (ae l p).pl,.string (ae l p).tx,.slice K (ae l p).ks.length cK] 37)=W1:=⟨_,rfl⟩;rw[hW1]at HB1 hX1 hN1;have HX1:=hid (And.intro hX1 hN1);have HT1:=hid (HT.out.below HB1.out);clear hb1 hX1 hN1;have e0:=(HX1.out.1.cell 0).trans rfl;have e1:=(HX1.out.1.cell 1).trans rfl;have ek:=(HX1.out.2.cell 0).trans rfl;have et:=(HX1.out.2.cell 3).trans rfl;have es:=(HX1.out.2.cell 4).trans rfl;have HMN:=hid (mD HT1.out c p (ae l p).tx hp);have HV:=hid (λW (k:Below W1.heap.size W1 W)=>sj (HT1.out.below k) c p (ae l p).tx hp);rw[show Mt l p (ae l p).tx=jo l p from rfl]at HV;have hm4:(ae l p).ks.length<=4000:=by rw[aH (show p<l.length by rw[<- HT.out.tt.len];exact hp)];exact HT.out.tt.kids _ (List.getElem_mem _)
 have hkn:∀k ∈ (ae l p).ks,∃q:Nat,k=(q:Int)/\q<n:=λk hk=>by
  obtain⟨j,hj,e⟩:=List.getElem_of_mem hk;obtain⟨q,e2,h2⟩:=HT.out.kid hp hj;exact⟨q,by rw[<- e,e2],by omega⟩
 have HAL:=hid (λW (k:Below W1.heap.size W1 W)=>fA (HT1.out.below k) c (ae l p).ks K (ae l p).ks.length cK kids (xI.below (bt HB1.out k)) rfl hm4 hkn);clear hkn hm4 xI HT HT1;cases e:eO l p (ae l p).tx with
 |none=>
  rw[e,show a_ none = -1 from rfl]at HMN;rw[show mG l p want kids=3 by unfold mG;rw[e];rfl];clear e HV HAL;generalize (ae l (p:Int)).kd=kd at *
  generalize (ae l (p:Int)).tx=tx at *
  generalize (ae l (p:Int)).n=nn at *
  generalize (ae l (p:Int)).pl=pl at *
  generalize (ae l (p:Int)).ks.length=m at *
  go_enter Tryz.func148,Tryz.ntmps148
  go_wp2_with (go_at_call 90;refine HMN.out.mono ?_);rintro e w2 ⟨rfl,hb2⟩;have HB2:=hid (bt HB0.out (bt HB1.out hb2));clear hb2;go_wp2
  go_ret
  exact⟨rfl,HB2.out⟩
 |some d=>
  rw[e,show a_ (some d)=(d:Int)from rfl]at HMN;have hd0:¬(d:Int)<0:=by omega
  have HOKC:=hid (show(want=0\/jo l p=want)->(kids=0\/dU l (ae l p).ks kids=true)->mG l p want kids=0 from λh1 h2=>by
   unfold mG
   rw[e,if_neg (by show¬(false=true);decide),if_neg (by rintro(⟨h3,h4⟩ |h3);exact h1.elim h3 h4;exact h3 h2)])
  have HB1C:=hid (show want≠0->jo l p≠want->mG l p want kids=5 from λh1 h2=>by
   unfold mG
   rw[e,if_neg (by show¬(false=true);decide),if_pos (Or.inl ⟨h1,h2⟩)])
  have HB2C:=hid (show kids≠0->dU l (ae l p).ks kids=false->mG l p want kids=5 from λh1 h2=>by
   unfold mG
   rw[e,if_neg (by show¬(false=true);decide),if_pos (Or.inr (by rintro(h3 |h3);exact h1 h3;rw[h2]at h3;cases h3))])
  clear e;generalize mG l p want kids=nv at *
  generalize dU l (ae l (p:Int)).ks kids=ab at *
  generalize jo l p=vt at *
  generalize (ae l (p:Int)).kd=kd at *
  generalize (ae l (p:Int)).tx=tx at *
  generalize (ae l (p:Int)).n=nn at *
  generalize (ae l (p:Int)).pl=pl at *
  generalize (ae l (p:Int)).ks.length=m at *
  by_cases hk0:kids=0
  ·subst hk0;clear HAL;by_cases hw0:want=0
   ·subst hw0;go_enter Tryz.func148,Tryz.ntmps148
    go_wp2_with (go_at_call 90;refine HMN.out.mono ?_);rintro e w2 ⟨rfl,hb2⟩;have HB2:=hid hb2;have u0:=((HX1.out.1.below hb2 HX1.out.1.lt).cell 0).trans rfl;have u1:=((HX1.out.1.below hb2 HX1.out.1.lt).cell 1).trans rfl;have ut:=((HX1.out.2.below hb2 HX1.out.2.lt).cell 3).trans rfl;have us:=((HX1.out.2.below hb2 HX1.out.2.lt).cell 4).trans rfl;clear hb2;have HE:=hid (bt HB0.out (bt HB1.out HB2.out));go_wp2
    go_ret
    exact⟨by rw[HOKC.out (by first|exact Or.inl rfl |trivial |simp) (by first|exact Or.inl rfl |trivial |simp)];try rfl,HE.out⟩
   ·go_enter Tryz.func148,Tryz.ntmps148
    go_wp2_with (go_at_call 90;refine HMN.out.mono ?_);rintro e w2 ⟨rfl,hb2⟩;have HB2:=hid hb2;have u0:=((HX1.out.1.below hb2 HX1.out.1.lt).cell 0).trans rfl;have u1:=((HX1.out.1.below hb2 HX1.out.1.lt).cell 1).trans rfl;have ut:=((HX1.out.2.below hb2 HX1.out.2.lt).cell 3).trans rfl;have us:=((HX1.out.2.below hb2 HX1.out.2.lt).cell 4).trans rfl;clear hb2;have hwn:(want != 0)=true:=by simp[hw0]
    have HW0:=hid hw0;clear hw0;go_wp2_with (go_at_call 156;refine(HV.out _ HB2.out).mono ?_);rintro e w3 ⟨rfl,hb3⟩;have HE:=hid (bt HB0.out (bt HB1.out (bt HB2.out hb3)));clear hb3;by_cases hv:vt=want
    ·have hvn:(vt != want)=false:=by simp[hv]
     have HVV:=hid hv;clear hv;go_wp2
     go_ret
     exact⟨by rw[HOKC.out (Or.inr HVV.out) (by first|exact Or.inl rfl |trivial |simp)];try rfl,HE.out⟩
    ·have hvn:(vt != want)=true:=by simp[hv]
     have HVV:=hid hv;clear hv;go_wp2
     go_ret
     exact⟨by rw[HB1C.out HW0.out HVV.out];try rfl,HE.out⟩
  ·have hkb:(kids==0)=false:=beq_eq_false_iff_ne.2 hk0;have HK0:=hid hk0;by_cases hw0:want=0
   ·subst hw0;go_enter Tryz.func148,Tryz.ntmps148
    go_wp2_with (go_at_call 90;refine HMN.out.mono ?_);rintro e w2 ⟨rfl,hb2⟩;have HB2:=hid hb2;have u0:=((HX1.out.1.below hb2 HX1.out.1.lt).cell 0).trans rfl;have u1:=((HX1.out.1.below hb2 HX1.out.1.lt).cell 1).trans rfl;have ut:=((HX1.out.2.below hb2 HX1.out.2.lt).cell 3).trans rfl;have us:=((HX1.out.2.below hb2 HX1.out.2.lt).cell 4).trans rfl;clear hb2;go_wp2_with (go_at_call 223;refine(HAL.out _ HB2.out).mono ?_);rintro e w4 ⟨rfl,hb4⟩;have HB4:=hid (bt HB2.out hb4);clear hb4 u0 u1 ut us;have HE:=hid (bt HB0.out (bt HB1.out HB4.out));cases ab with
    |true=>
     go_wp2
     go_ret
     exact⟨by rw[HOKC.out (by first|exact Or.inl rfl |trivial |simp) (by first|exact Or.inr rfl |trivial |simp)];try rfl,HE.out⟩
    |false=>
     go_wp2
     go_ret
     exact⟨by rw[HB2C.out hk0 (by first|rfl |trivial)];try rfl,HE.out⟩
   ·have hwn:(want != 0)=true:=by simp[hw0]
    go_enter Tryz.func148,Tryz.ntmps148
    go_wp2_with (go_at_call 90;refine HMN.out.mono ?_);rintro e w2 ⟨rfl,hb2⟩;have HB2:=hid hb2;have u0:=((HX1.out.1.below hb2 HX1.out.1.lt).cell 0).trans rfl;have u1:=((HX1.out.1.below hb2 HX1.out.1.lt).cell 1).trans rfl;have ut:=((HX1.out.2.below hb2 HX1.out.2.lt).cell 3).trans rfl;have us:=((HX1.out.2.below hb2 HX1.out.2.lt).cell 4).trans rfl;clear hb2;go_wp2_with (go_at_call 223;refine(HAL.out _ HB2.out).mono ?_);rintro e w4 ⟨rfl,hb4⟩;have HB4:=hid (bt HB2.out hb4);clear u0 u1 ut us;have hb5:=bt HB2.out hb4;have u0:=((HX1.out.1.below hb5 HX1.out.1.lt).cell 0).trans rfl;have u1:=((HX1.out.1.below hb5 HX1.out.1.lt).cell 1).trans rfl;have ut:=((HX1.out.2.below hb5 HX1.out.2.lt).cell 3).trans rfl;have us:=((HX1.out.2.below hb5 HX1.out.2.lt).cell 4).trans rfl;clear hb4 hb5;have HW0:=hid hw0;clear hw0;go_wp2_with (go_at_call 156;refine(HV.out _ HB4.out).mono ?_);rintro e w3 ⟨rfl,hb3⟩;have HE:=hid (bt HB0.out (bt HB1.out (bt HB4.out hb3)));clear hb3;by_cases hv:vt=want
    ·have hvn:(vt != want)=false:=by simp[hv]
     have HVV:=hid hv;clear hv;cases ab with
     |true=>
      go_wp2
      go_ret
      exact⟨by rw[HOKC.out (Or.inr HVV.out) (by first|exact Or.inr rfl |trivial |simp)];try rfl,HE.out⟩
     |false=>
      go_wp2
      go_ret
      exact⟨by rw[HB2C.out HK0.out (by first|rfl |trivial)];try rfl,HE.out⟩
    ·have hvn:(vt != want)=true:=by simp[hv]
     have HVV:=hid hv;clear hv;cases ab with
     |true=>
      go_wp2
      go_ret
      exact⟨by rw[HB1C.out HW0.out HVV.out];try rfl,HE.out⟩
     |false=>
      go_wp2
      go_ret
      exact⟨by rw[HB1C.out HW0.out HVV.out];try rfl,HE.out⟩
end
end
section
open Go Go.RowKit Go.Sort
open Tr (Bx ag bt bu Ints aG au fT par gL fK eY qp aA gJ)
theorem Ha (tx:ByteArray):(tx=⟨#[33]⟩\/tx=⟨#[38,38]⟩\/tx=⟨#[124,124]⟩)↔(([⟨#[33]⟩,⟨#[38,38]⟩,⟨#[124,124]⟩]:List ByteArray).any λx=>decide (x=tx))=true:=by
 rw[List.any_eq_true];constructor
 ·intro h;rcases h with h |h |h<;>subst h
  ·exact⟨_,.head _,decide_eq_true rfl⟩
  ·exact⟨_,.tail _ (.head _),decide_eq_true rfl⟩
  ·exact⟨_,.tail _ (.tail _ (.head _)),decide_eq_true rfl⟩
 ·rintro⟨x,hx,h3⟩;have h4:=of_decide_eq_true h3;subst h4;simpa using hx
section
variable {w:World} {l:List Tr.Nd} {A:Option Addr} {n:Nat} {r:Int}
theorem oQ (h:RT w A n l r)(c p:Nat)(hp:p<n)(hk:(ae l p).kd=26\/(ae l p).kd=27)(K:Option Addr)(cK:Nat)(hK:Ints w K (ae l p).ks):Calls Tryz.prog 150 #[.agg #[.slice A n c,.int .i64 r],.agg #[.int .i64 (ae l p).kd,.int .i64 (ae l p).n,.int .i64 (ae l p).pl,.string (ae l p).tx,.slice K (ae l p).ks.length cK]] w (au (kQ l p) w):=by
 have hb0:=ag w (.cells #[.slice A n c,.int .i64 r] 25);have hX0:=Bx.new w 25 [.slice A n c,.int .i64 r];have hT0:=h.below hb0;have hb1:=ag (w.alloc (.cells #[.slice A n c,.int .i64 r] 25)) (.cells #[.int .i64 (ae l p).kd,.int .i64 (ae l p).n,.int .i64 (ae l p).pl,.string (ae l p).tx,.slice K (ae l p).ks.length cK] 37);have HB1:=hid (bt hb0 hb1);have hX1:=hX0.alloc (.cells #[.int .i64 (ae l p).kd,.int .i64 (ae l p).n,.int .i64 (ae l p).pl,.string (ae l p).tx,.slice K (ae l p).ks.length cK] 37);have hN1:=Bx.new (w.alloc (.cells #[.slice A n c,.int .i64 r] 25)) 37 [.int .i64 (ae l p).kd,.int .i64 (ae l p).n,.int .i64 (ae l p).pl,.string (ae l p).tx,.slice K (ae l p).ks.length cK];rw[World.size_alloc]at hN1;have HT1:=hid (hT0.below hb1);have HK1:=hid (hK.below HB1.out);obtain⟨W1,hW1⟩:∃W1,(w.alloc (.cells #[.slice A n c,.int .i64 r] 25)).alloc (.cells #[.int .i64 (ae l p).kd,.int .i64 (ae l p).n,.int .i64 (ae l p).pl,.string (ae l p).tx,.slice K (ae l p).ks.length cK] 37)=W1:=⟨_,rfl⟩;rw[hW1]at HB1 hX1 hN1 HT1 HK1;have HX1:=hid (And.intro hX1 hN1);have HPL:=hid (show p<l.length by rw[<- h.tt.len];exact hp);obtain⟨b,hRT⟩:=h.rtn;have HRT:=hid hRT;have hm4:(ae l p).ks.length<=4000:=by rw[aH HPL.out];exact h.tt.kids _ (List.getElem_mem _)
 have hkn:∀k ∈ (ae l p).ks,∃q:Nat,k=(q:Int)/\q<n:=λk hk=>by
  obtain⟨q,e2,h2⟩:=hRT.nat HPL.out k hk;exact⟨q,e2,by omega⟩
 have e0:=(HX1.out.1.cell 0).trans rfl;have e1:=(HX1.out.1.cell 1).trans rfl;have et:=(HX1.out.2.cell 3).trans rfl;have es:=(HX1.out.2.cell 4).trans rfl;have et2:=((HX1.out.2.alloc (.cells #[.string ⟨#[33]⟩,.string ⟨#[38,38]⟩,.string ⟨#[124,124]⟩] 9)).cell 3).trans rfl;have HS:=hid (show Calls Tryz.prog 98 #[.slice (some ⟨W1.heap.size,0,none⟩) 3 3,.string (ae l p).tx] (W1.alloc (.cells #[.string ⟨#[33]⟩,.string ⟨#[38,38]⟩,.string ⟨#[124,124]⟩] 9)) (au (([⟨#[33]⟩,⟨#[38,38]⟩,⟨#[124,124]⟩]:List ByteArray).any λx=>decide (x=(ae l (p:Int)).tx)) (W1.alloc (.cells #[.string ⟨#[33]⟩,.string ⟨#[38,38]⟩,.string ⟨#[124,124]⟩] 9)))from uq (c:=3) [⟨#[33]⟩,⟨#[38,38]⟩,⟨#[124,124]⟩] (ae l p).tx (xU W1 [⟨#[33]⟩,⟨#[38,38]⟩,⟨#[124,124]⟩]) (rfl:3=_) (by decide));have HSB:=hid (ag W1 (.cells #[.string ⟨#[33]⟩,.string ⟨#[38,38]⟩,.string ⟨#[124,124]⟩] 9));have HAL1:=hid (λW (k:Below W1.heap.size W1 W)=>fA (HT1.out.below k) c (ae l p).ks K (ae l p).ks.length cK 1 (HK1.out.below k) rfl hm4 hkn);have HAL2:=hid (λW (k:Below W1.heap.size W1 W)=>fA (HT1.out.below k) c (ae l p).ks K (ae l p).ks.length cK 2 (HK1.out.below k) rfl hm4 hkn);clear h hb0 hX0 hT0 hb1 hX1 hN1 hK hRT hkn hm4;by_cases htx:(ae l p).tx=⟨#[61,61]⟩
 ·have hkd:=(dJ HRT.out.sh HPL.out);have h27:(ae l p).kd=27:=by
   rcases hk with e |e
   ·have:=hkd.tx;unfold MF at this;rw[e,htx]at this;simp[Tr.dG]at this
   ·exact e
  have hlen2:(eH l p).length=2:=by
   have:=hkd.kid;rw[h27]at this;simp[Tr.ay]at this;exact this.1
  obtain⟨k,j,hks,hkp,hjp,_⟩:=iD (mf (lZ HT1.out.rg).1) HPL.out hlen2;have hkn:k<n:=by omega
  have hjn:j<n:=by omega
  have HTK:=hid (λW (q:Below W1.heap.size W1 W)=>bJ (HT1.out.below q) c k hkn);have HTJ:=hid (λW (q:Below W1.heap.size W1 W)=>bJ (HT1.out.below q) c j hjn);have hI:=HK1.out;have hfit:kQ l p=((decide (aC l k=1)&&decide (aC l j=1)) || (decide (aC l k=2)&&decide (aC l j=2))):=by
   unfold kQ;rw[htx,if_neg (by decide),if_pos (by decide),hks];simp[dU]
  rw[hks]at hI es hW1 HX1;rw[show([(k:Int),(j:Int)]).length=2 from rfl]at es hW1 HX1;rw[hks,show([(k:Int),(j:Int)]).length=2 from rfl];obtain⟨bK,oK,rfl,hbK,hcK⟩:=hI (by simp);have ck:=hcK 0 (by simp);have cj:=hcK 1 (by simp);replace ck:W1.cell? ⟨bK,oK,none⟩=some (.int .i64 (k:Int)):=ck;replace cj:W1.cell? ⟨bK,oK+1,none⟩=some (.int .i64 (j:Int)):=cj;have HCJ:=hid (And.intro hbK cj);clear et2;rw[htx]at et hW1 |-;rw[hfit];clear hfit hI hcK hks hlen2 h27 hkd htx hkp hjp HRT HT1 HK1 hk HAL1 HAL2 HS HSB;generalize aC l k=a at *
  generalize aC l j=b at *
  generalize (ae l (p:Int)).kd=kd at *
  generalize (ae l (p:Int)).n=nn at *
  generalize (ae l (p:Int)).pl=pl at *
  have hs0:=str_eq ⟨#[61,61]⟩;have hs1:=str_eq ⟨#[33,61]⟩;have hs2:=si (show(⟨#[33,61]⟩:ByteArray)≠⟨#[61,61]⟩by decide);have s0:=cell_regrown e0;have s1:=cell_regrown e1;have s2:=cell_regrown es;have s3:=cell_regrown ck;have cq:∀d os,Calls Tryz.prog 95 #[.agg #[.slice A n c,.int .i64 r],.int .i64 (k:Int)] (grow (redrawn W1 d) os) λe w''=>e=.returned (.int .i64 a)/\∃p:Regrown,w''=grow (redrawn W1 p.d) p.os:=λd os=>Calls.regrown_of (HTK.out _ (below_regrown W1 d os))
  go_enter Tryz.func150,Tryz.ntmps150
  go_upto_region 2 with(fail)
  refine wp_region_quiet_below (by kernel_rfl) (by kernel_rfl) ?_
  repeat (go_big_quiet_step (first|exact cq _ _))
  refine wpQuiet_nil ?_;intro _ hw';obtain⟨⟨dq,osq⟩,hw''⟩:=hw';subst hw'';have hbq:=below_regrown W1 dq osq;generalize grow (redrawn W1 dq) osq=W4 at *
  clear s0 s1 s2 s3 cq;have HB4:=hid hbq;have v0:=((HX1.out.1.below hbq HX1.out.1.lt).cell 0).trans rfl;have v1:=((HX1.out.1.below hbq HX1.out.1.lt).cell 1).trans rfl;have vs:=((HX1.out.2.below hbq HX1.out.2.lt).cell 4).trans rfl;have vj:=(hbq.cell (p:=⟨bK,oK+1,none⟩) HCJ.out.1).trans HCJ.out.2;have s0:=cell_regrown v0;have s1:=cell_regrown v1;have s2:=cell_regrown vs;have s3:=cell_regrown vj;have cq:∀d os,Calls Tryz.prog 95 #[.agg #[.slice A n c,.int .i64 r],.int .i64 (j:Int)] (grow (redrawn W4 d) os) λe w''=>e=.returned (.int .i64 b)/\∃p:Regrown,w''=grow (redrawn W4 p.d) p.os:=λd os=>Calls.regrown_of (HTJ.out _ (bt HB4.out (below_regrown W4 d os)))
  clear hbq v0 v1 vs vj;by_cases hab:a=b
  ·subst hab;have k0:(a==a)=true:=by simp
   by_cases h1:a=1
   ·subst h1
    go_upto_region 3 with(fail)
    refine wp_region_quiet_below (by kernel_rfl) (by kernel_rfl) ?_
    repeat (go_big_quiet_step (first|exact cq _ _))
    refine wpQuiet_nil ?_;intro _ hw';obtain⟨⟨dq,osq⟩,hw''⟩:=hw';subst hw'';have hbq:=below_regrown W4 dq osq;generalize grow (redrawn W4 dq) osq=W6 at *
    have HE:=hid (bt HB1.out (bt HB4.out hbq));clear hbq cq;go_wp2
    go_ret
    exact⟨rfl,HE.out⟩
   ·have k1:(a==1)=false:=beq_eq_false_iff_ne.2 h1;by_cases h2:a=2
    ·subst h2
     go_upto_region 3 with(fail)
     refine wp_region_quiet_below (by kernel_rfl) (by kernel_rfl) ?_
     repeat (go_big_quiet_step (first|exact cq _ _))
     refine wpQuiet_nil ?_;intro _ hw';obtain⟨⟨dq,osq⟩,hw''⟩:=hw';subst hw'';have hbq:=below_regrown W4 dq osq;generalize grow (redrawn W4 dq) osq=W6 at *
     have HE:=hid (bt HB1.out (bt HB4.out hbq));clear hbq cq;go_wp2
     go_ret
     exact⟨rfl,HE.out⟩
    ·have k2:(a==2)=false:=beq_eq_false_iff_ne.2 h2;have hval:((decide (a=1)&&decide (a=1)) || (decide (a=2)&&decide (a=2)))=false:=by simp[h1,h2]
     have HVL:=hid hval;clear hval h1 h2
     go_upto_region 3 with(fail)
     refine wp_region_quiet_below (by kernel_rfl) (by kernel_rfl) ?_
     repeat (go_big_quiet_step (first|exact cq _ _))
     refine wpQuiet_nil ?_;intro _ hw';obtain⟨⟨dq,osq⟩,hw''⟩:=hw';subst hw'';have hbq:=below_regrown W4 dq osq;generalize grow (redrawn W4 dq) osq=W6 at *
     have HE:=hid (bt HB1.out (bt HB4.out hbq));clear hbq cq;go_wp2
     go_ret
     exact⟨by rw[HVL.out];try rfl,HE.out⟩
  ·have k0:(a==b)=false:=beq_eq_false_iff_ne.2 hab;have hval:((decide (a=1)&&decide (b=1)) || (decide (a=2)&&decide (b=2)))=false:=by
    rw[Bool.eq_false_iff];intro h2;simp only[Bool.or_eq_true,Bool.and_eq_true,decide_eq_true_eq]at h2;omega
   have HVL:=hid hval;clear hval hab
   go_upto_region 3 with(fail)
   refine wp_region_quiet_below (by kernel_rfl) (by kernel_rfl) ?_
   repeat (go_big_quiet_step (first|exact cq _ _))
   refine wpQuiet_nil ?_;intro _ hw';obtain⟨⟨dq,osq⟩,hw''⟩:=hw';subst hw'';have hbq:=below_regrown W4 dq osq;generalize grow (redrawn W4 dq) osq=W6 at *
   have HE:=hid (bt HB1.out (bt HB4.out hbq));clear hbq cq;go_wp2
   go_ret
   exact⟨by rw[HVL.out];try rfl,HE.out⟩
 by_cases htx2:(ae l p).tx=⟨#[33,61]⟩
 ·have htx:=htx2;have hkd:=(dJ HRT.out.sh HPL.out);have h27:(ae l p).kd=27:=by
   rcases hk with e |e
   ·have:=hkd.tx;unfold MF at this;rw[e,htx]at this;simp[Tr.dG]at this
   ·exact e
  have hlen2:(eH l p).length=2:=by
   have:=hkd.kid;rw[h27]at this;simp[Tr.ay]at this;exact this.1
  obtain⟨k,j,hks,hkp,hjp,_⟩:=iD (mf (lZ HT1.out.rg).1) HPL.out hlen2;have hkn:k<n:=by omega
  have hjn:j<n:=by omega
  have HTK:=hid (λW (q:Below W1.heap.size W1 W)=>bJ (HT1.out.below q) c k hkn);have HTJ:=hid (λW (q:Below W1.heap.size W1 W)=>bJ (HT1.out.below q) c j hjn);have hI:=HK1.out;have hfit:kQ l p=((decide (aC l k=1)&&decide (aC l j=1)) || (decide (aC l k=2)&&decide (aC l j=2))):=by
   unfold kQ;rw[htx,if_neg (by decide),if_pos (by decide),hks];simp[dU]
  rw[hks]at hI es hW1 HX1;rw[show([(k:Int),(j:Int)]).length=2 from rfl]at es hW1 HX1;rw[hks,show([(k:Int),(j:Int)]).length=2 from rfl];obtain⟨bK,oK,rfl,hbK,hcK⟩:=hI (by simp);have ck:=hcK 0 (by simp);have cj:=hcK 1 (by simp);replace ck:W1.cell? ⟨bK,oK,none⟩=some (.int .i64 (k:Int)):=ck;replace cj:W1.cell? ⟨bK,oK+1,none⟩=some (.int .i64 (j:Int)):=cj;have HCJ:=hid (And.intro hbK cj);clear et2;rw[htx]at et hW1 |-;rw[hfit];clear htx2 hfit hI hcK hks hlen2 h27 hkd htx hkp hjp HRT HT1 HK1 hk HAL1 HAL2 HS HSB;generalize aC l k=a at *
  generalize aC l j=b at *
  generalize (ae l (p:Int)).kd=kd at *
  generalize (ae l (p:Int)).n=nn at *
  generalize (ae l (p:Int)).pl=pl at *
  have hs0:=str_eq ⟨#[61,61]⟩;have hs1:=str_eq ⟨#[33,61]⟩;have hs2:=si (show(⟨#[33,61]⟩:ByteArray)≠⟨#[61,61]⟩by decide);have s0:=cell_regrown e0;have s1:=cell_regrown e1;have s2:=cell_regrown es;have s3:=cell_regrown ck;have cq:∀d os,Calls Tryz.prog 95 #[.agg #[.slice A n c,.int .i64 r],.int .i64 (k:Int)] (grow (redrawn W1 d) os) λe w''=>e=.returned (.int .i64 a)/\∃p:Regrown,w''=grow (redrawn W1 p.d) p.os:=λd os=>Calls.regrown_of (HTK.out _ (below_regrown W1 d os))
  go_enter Tryz.func150,Tryz.ntmps150
  go_upto_region 2 with(fail)
  refine wp_region_quiet_below (by kernel_rfl) (by kernel_rfl) ?_
  repeat (go_big_quiet_step (first|exact cq _ _))
  refine wpQuiet_nil ?_;intro _ hw';obtain⟨⟨dq,osq⟩,hw''⟩:=hw';subst hw'';have hbq:=below_regrown W1 dq osq;generalize grow (redrawn W1 dq) osq=W4 at *
  clear s0 s1 s2 s3 cq;have HB4:=hid hbq;have v0:=((HX1.out.1.below hbq HX1.out.1.lt).cell 0).trans rfl;have v1:=((HX1.out.1.below hbq HX1.out.1.lt).cell 1).trans rfl;have vs:=((HX1.out.2.below hbq HX1.out.2.lt).cell 4).trans rfl;have vj:=(hbq.cell (p:=⟨bK,oK+1,none⟩) HCJ.out.1).trans HCJ.out.2;have s0:=cell_regrown v0;have s1:=cell_regrown v1;have s2:=cell_regrown vs;have s3:=cell_regrown vj;have cq:∀d os,Calls Tryz.prog 95 #[.agg #[.slice A n c,.int .i64 r],.int .i64 (j:Int)] (grow (redrawn W4 d) os) λe w''=>e=.returned (.int .i64 b)/\∃p:Regrown,w''=grow (redrawn W4 p.d) p.os:=λd os=>Calls.regrown_of (HTJ.out _ (bt HB4.out (below_regrown W4 d os)))
  clear hbq v0 v1 vs vj;by_cases hab:a=b
  ·subst hab;have k0:(a==a)=true:=by simp
   by_cases h1:a=1
   ·subst h1
    go_upto_region 3 with(fail)
    refine wp_region_quiet_below (by kernel_rfl) (by kernel_rfl) ?_
    repeat (go_big_quiet_step (first|exact cq _ _))
    refine wpQuiet_nil ?_;intro _ hw';obtain⟨⟨dq,osq⟩,hw''⟩:=hw';subst hw'';have hbq:=below_regrown W4 dq osq;generalize grow (redrawn W4 dq) osq=W6 at *
    have HE:=hid (bt HB1.out (bt HB4.out hbq));clear hbq cq;go_wp2
    go_ret
    exact⟨rfl,HE.out⟩
   ·have k1:(a==1)=false:=beq_eq_false_iff_ne.2 h1;by_cases h2:a=2
    ·subst h2
     go_upto_region 3 with(fail)
     refine wp_region_quiet_below (by kernel_rfl) (by kernel_rfl) ?_
     repeat (go_big_quiet_step (first|exact cq _ _))
     refine wpQuiet_nil ?_;intro _ hw';obtain⟨⟨dq,osq⟩,hw''⟩:=hw';subst hw'';have hbq:=below_regrown W4 dq osq;generalize grow (redrawn W4 dq) osq=W6 at *
     have HE:=hid (bt HB1.out (bt HB4.out hbq));clear hbq cq;go_wp2
     go_ret
     exact⟨rfl,HE.out⟩
    ·have k2:(a==2)=false:=beq_eq_false_iff_ne.2 h2;have hval:((decide (a=1)&&decide (a=1)) || (decide (a=2)&&decide (a=2)))=false:=by simp[h1,h2]
     have HVL:=hid hval;clear hval h1 h2
     go_upto_region 3 with(fail)
     refine wp_region_quiet_below (by kernel_rfl) (by kernel_rfl) ?_
     repeat (go_big_quiet_step (first|exact cq _ _))
     refine wpQuiet_nil ?_;intro _ hw';obtain⟨⟨dq,osq⟩,hw''⟩:=hw';subst hw'';have hbq:=below_regrown W4 dq osq;generalize grow (redrawn W4 dq) osq=W6 at *
     have HE:=hid (bt HB1.out (bt HB4.out hbq));clear hbq cq;go_wp2
     go_ret
     exact⟨by rw[HVL.out];try rfl,HE.out⟩
  ·have k0:(a==b)=false:=beq_eq_false_iff_ne.2 hab;have hval:((decide (a=1)&&decide (b=1)) || (decide (a=2)&&decide (b=2)))=false:=by
    rw[Bool.eq_false_iff];intro h2;simp only[Bool.or_eq_true,Bool.and_eq_true,decide_eq_true_eq]at h2;omega
   have HVL:=hid hval;clear hval hab
   go_upto_region 3 with(fail)
   refine wp_region_quiet_below (by kernel_rfl) (by kernel_rfl) ?_
   repeat (go_big_quiet_step (first|exact cq _ _))
   refine wpQuiet_nil ?_;intro _ hw';obtain⟨⟨dq,osq⟩,hw''⟩:=hw';subst hw'';have hbq:=below_regrown W4 dq osq;generalize grow (redrawn W4 dq) osq=W6 at *
   have HE:=hid (bt HB1.out (bt HB4.out hbq));clear hbq cq;go_wp2
   go_ret
   exact⟨by rw[HVL.out];try rfl,HE.out⟩
 have hs0:=eU htx;have hs1:=eU htx2;have hfi:=Ha (ae l p).tx;have hfit:kQ l p=if (([⟨#[33]⟩,⟨#[38,38]⟩,⟨#[124,124]⟩]:List ByteArray).any λx=>decide (x=(ae l p).tx))=true then dU l (ae l p).ks 2 else dU l (ae l p).ks 1:=by
  unfold kQ;by_cases e:(ae l p).tx=⟨#[33]⟩\/(ae l p).tx=⟨#[38,38]⟩\/(ae l p).tx=⟨#[124,124]⟩
  ·rw[if_pos e,if_pos (hfi.1 e)]
  ·rw[if_neg e,if_neg (λe2=>e (hfi.2 e2)),if_neg (by rintro(e2 |e2);exact htx e2;exact htx2 e2)]
 rw[hfit];clear hfit hfi htx htx2 HRT HT1 HK1 hk HPL;generalize (([⟨#[33]⟩,⟨#[38,38]⟩,⟨#[124,124]⟩]:List ByteArray).any λx=>decide (x=(ae l (p:Int)).tx))=sb at *
 generalize dU l (ae l (p:Int)).ks 1=a1 at *
 generalize dU l (ae l (p:Int)).ks 2=a2 at *
 generalize (ae l (p:Int)).kd=kd at *
 generalize (ae l (p:Int)).n=nn at *
 generalize (ae l (p:Int)).pl=pl at *
 generalize (ae l (p:Int)).tx=tx at *
 generalize (ae l (p:Int)).ks.length=m at *
 cases sb with
 |true=>
  rw[if_pos rfl];go_enter Tryz.func150,Tryz.ntmps150
  go_wp2_with (go_at_call 98;refine HS.out.mono ?_);rintro e w2 ⟨rfl,hb2⟩;have hb3:=bt HSB.out hb2;have HB3:=hid hb3;have v0:=((HX1.out.1.below hb3 HX1.out.1.lt).cell 0).trans rfl;have v1:=((HX1.out.1.below hb3 HX1.out.1.lt).cell 1).trans rfl;have vs:=((HX1.out.2.below hb3 HX1.out.2.lt).cell 4).trans rfl;clear hb2 hb3 e0 e1 et es;go_wp2_with (go_at_call 223;refine(HAL2.out _ HB3.out).mono ?_);rintro e w4 ⟨rfl,hb4⟩;have HE:=hid (bt HB1.out (bt HB3.out hb4));clear hb4;go_wp2
  go_ret
  exact⟨rfl,HE.out⟩
 |false=>
  rw[if_neg (by decide)];go_enter Tryz.func150,Tryz.ntmps150
  go_wp2_with (go_at_call 98;refine HS.out.mono ?_);rintro e w2 ⟨rfl,hb2⟩;have hb3:=bt HSB.out hb2;have HB3:=hid hb3;have v0:=((HX1.out.1.below hb3 HX1.out.1.lt).cell 0).trans rfl;have v1:=((HX1.out.1.below hb3 HX1.out.1.lt).cell 1).trans rfl;have vs:=((HX1.out.2.below hb3 HX1.out.2.lt).cell 4).trans rfl;clear hb2 hb3 e0 e1 et es;go_wp2_with (go_at_call 223;refine(HAL1.out _ HB3.out).mono ?_);rintro e w4 ⟨rfl,hb4⟩;have HE:=hid (bt HB1.out (bt HB3.out hb4));clear hb4;go_wp2
  go_ret
  exact⟨rfl,HE.out⟩
end
end
end Go.Proofs.YteecfjhjllajlaaGreatDoor
