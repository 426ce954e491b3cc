/- PROVED here: parts TyDg of the claim. No condition but those in each theorem's own head. -/
import Derived.Test.YtignojhijmamhaaGreatJ43
namespace Go.Proofs.YtignojhijmamhaaGreat.Ty
open Go Go.RowKit Go.Sort
open Tr (Bx heap1 bt Nds Ints VPost BPost rgB par par_yes par_root par_node paL kidsAt IsPost)
theorem fit_any (tx:ByteArray):(tx=⟨#[33]⟩∨tx=⟨#[38,38]⟩∨tx=⟨#[124,124]⟩)↔(([⟨#[33]⟩,⟨#[38,38]⟩,⟨#[124,124]⟩]:List ByteArray).any fun x=>decide (x=tx))=true:=by
 rw[List.any_eq_true]
 constructor
 ·intro h
  rcases h with h |h |h<;>subst h
  ·exact⟨_,.head _,decide_eq_true rfl⟩
  ·exact⟨_,.tail _ (.head _),decide_eq_true rfl⟩
  ·exact⟨_,.tail _ (.tail _ (.head _)),decide_eq_true rfl⟩
 ·rintro⟨x,hx,h3⟩
  have h4:=of_decide_eq_true h3
  subst h4
  simpa using hx
section
variable {w:World} {l:List Tr.Nd} {A:Option Addr} {n:Nat} {r:Int}
set_option maxRecDepth 100000 in
set_option maxHeartbeats 1500000 in
theorem operator_any (h:RT w A n l r)(c p:Nat)(hp:p<n)(hk:(ndA l p).kd=26∨(ndA l p).kd=27)(K:Option Addr)(cK:Nat)(hK:Ints w K (ndA l p).ks):Calls Tryz.prog 77 #[.agg #[.slice A n c,.int .i64 r],.agg #[.int .i64 (ndA l p).kd,.int .i64 (ndA l p).n,.int .i64 (ndA l p).pl,.string (ndA l p).tx,.slice K (ndA l p).ks.length cK]] w (BPost (fitB l p) w):=by
 have hb0:=heap1 w (.cells #[.slice A n c,.int .i64 r] 24)
 have hX0:=Bx.new w 24 [.slice A n c,.int .i64 r]
 have hT0:=h.below hb0
 have hb1:=heap1 (w.alloc (.cells #[.slice A n c,.int .i64 r] 24)) (.cells #[.int .i64 (ndA l p).kd,.int .i64 (ndA l p).n,.int .i64 (ndA l p).pl,.string (ndA l p).tx,.slice K (ndA l p).ks.length cK] 66)
 have HB1:=Lib.hid (bt hb0 hb1)
 have hX1:=hX0.alloc (.cells #[.int .i64 (ndA l p).kd,.int .i64 (ndA l p).n,.int .i64 (ndA l p).pl,.string (ndA l p).tx,.slice K (ndA l p).ks.length cK] 66)
 have hN1:=Bx.new (w.alloc (.cells #[.slice A n c,.int .i64 r] 24)) 66 [.int .i64 (ndA l p).kd,.int .i64 (ndA l p).n,.int .i64 (ndA l p).pl,.string (ndA l p).tx,.slice K (ndA l p).ks.length cK]
 rw[World.size_alloc]at hN1
 have HT1:=Lib.hid (hT0.below hb1)
 have HK1:=Lib.hid (hK.below HB1.out)
 obtain⟨W1,hW1⟩:∃W1,(w.alloc (.cells #[.slice A n c,.int .i64 r] 24)).alloc (.cells #[.int .i64 (ndA l p).kd,.int .i64 (ndA l p).n,.int .i64 (ndA l p).pl,.string (ndA l p).tx,.slice K (ndA l p).ks.length cK] 66)=W1:=⟨_,rfl⟩
 rw[hW1]at HB1 hX1 hN1 HT1 HK1
 have HX1:=Lib.hid (And.intro hX1 hN1)
 have HPL:=Lib.hid (show p<l.length by rw[← h.tt.len];exact hp)
 obtain⟨b,hRT⟩:=h.rtn
 have HRT:=Lib.hid hRT
 have hm4:(ndA l p).ks.length≤4000:=by rw[ndA_eq HPL.out];exact h.tt.kids _ (List.getElem_mem _)
 have hkn:∀k ∈ (ndA l p).ks,∃q:Nat,k=(q:Int)∧q<n:=fun k hk=>by
  obtain⟨q,e2,h2⟩:=hRT.nat HPL.out k hk
  exact⟨q,e2,by omega⟩
 have e0:=(HX1.out.1.cell 0).trans rfl
 have e1:=(HX1.out.1.cell 1).trans rfl
 have et:=(HX1.out.2.cell 3).trans rfl
 have es:=(HX1.out.2.cell 4).trans rfl
 have et2:=((HX1.out.2.alloc (.cells #[.string ⟨#[33]⟩,.string ⟨#[38,38]⟩,.string ⟨#[124,124]⟩] 9)).cell 3).trans rfl
 have HS:=Lib.hid (show Calls Tryz.prog 105 #[.slice (some ⟨W1.heap.size,0,none⟩) 3 3,.string (ndA l p).tx] (W1.alloc (.cells #[.string ⟨#[33]⟩,.string ⟨#[38,38]⟩,.string ⟨#[124,124]⟩] 9)) (BPost (([⟨#[33]⟩,⟨#[38,38]⟩,⟨#[124,124]⟩]:List ByteArray).any fun x=>decide (x=(ndA l (p:Int)).tx)) (W1.alloc (.cells #[.string ⟨#[33]⟩,.string ⟨#[38,38]⟩,.string ⟨#[124,124]⟩] 9)))from among_any (c:=3) [⟨#[33]⟩,⟨#[38,38]⟩,⟨#[124,124]⟩] (ndA l p).tx (strs_new W1 [⟨#[33]⟩,⟨#[38,38]⟩,⟨#[124,124]⟩]) (rfl:3=_) (by decide))
 have HSB:=Lib.hid (heap1 W1 (.cells #[.string ⟨#[33]⟩,.string ⟨#[38,38]⟩,.string ⟨#[124,124]⟩] 9))
 have HAL1:=Lib.hid (fun W (k:Below W1.heap.size W1 W)=>all_any (HT1.out.below k) c (ndA l p).ks K (ndA l p).ks.length cK 1 (HK1.out.below k) rfl hm4 hkn)
 have HAL2:=Lib.hid (fun W (k:Below W1.heap.size W1 W)=>all_any (HT1.out.below k) c (ndA l p).ks K (ndA l p).ks.length cK 2 (HK1.out.below k) rfl hm4 hkn)
 clear h hb0 hX0 hT0 hb1 hX1 hN1 hK hRT hkn hm4
 by_cases htx:(ndA l p).tx=⟨#[61,61]⟩
 ·have hkd:=(nd_ok HRT.out.sh HPL.out)
  have h27:(ndA l p).kd=27:=by
   rcases hk with e |e
   ·have:=hkd.tx
    unfold txA at this
    rw[e,htx]at this
    simp[Tr.txB]at this
   ·exact e
  have hlen2:(kdsA l p).length=2:=by
   have:=hkd.kid
   rw[h27]at this
   simp[Tr.kidB]at this
   exact this.1
  obtain⟨k,j,hks,hkp,hjp,_⟩:=two_kids (snd_ahead (rg_parts HT1.out.rg).1) HPL.out hlen2
  have hkn:k<n:=by omega
  have hjn:j<n:=by omega
  have HTK:=Lib.hid (fun W (q:Below W1.heap.size W1 W)=>typed_any (HT1.out.below q) c k hkn)
  have HTJ:=Lib.hid (fun W (q:Below W1.heap.size W1 W)=>typed_any (HT1.out.below q) c j hjn)
  have hI:=HK1.out
  have hfit:fitB l p=((decide (typA l k=1)&&decide (typA l j=1)) || (decide (typA l k=2)&&decide (typA l j=2))):=by
   unfold fitB
   rw[htx,if_neg (by decide),if_pos (by decide),hks]
   simp[areB]
  rw[hks]at hI es hW1 HX1
  rw[show([(k:Int),(j:Int)]).length=2 from rfl]at es hW1 HX1
  rw[hks,show([(k:Int),(j:Int)]).length=2 from rfl]
  obtain⟨bK,oK,rfl,hbK,hcK⟩:=hI (by simp)
  have ck:=hcK 0 (by simp)
  have cj:=hcK 1 (by simp)
  replace ck:W1.cell? ⟨bK,oK,none⟩=some (.int .i64 (k:Int)):=ck
  replace cj:W1.cell? ⟨bK,oK+1,none⟩=some (.int .i64 (j:Int)):=cj
  have HCJ:=Lib.hid (And.intro hbK cj)
  clear et2
  rw[htx]at et hW1 ⊢
  rw[hfit]
  clear hfit hI hcK hks hlen2 h27 hkd htx hkp hjp HRT HT1 HK1 hk HAL1 HAL2 HS HSB
  generalize typA l k=a at *
  generalize typA l j=b at *
  generalize (ndA l (p:Int)).kd=kd at *
  generalize (ndA l (p:Int)).n=nn at *
  generalize (ndA l (p:Int)).pl=pl at *
  have hs0:=str_eq ⟨#[61,61]⟩
  have hs1:=str_eq ⟨#[33,61]⟩
  have hs2:=str_ne (show(⟨#[33,61]⟩:ByteArray)≠⟨#[61,61]⟩by decide)
  have s0:=cell_regrown e0
  have s1:=cell_regrown e1
  have s2:=cell_regrown es
  have s3:=cell_regrown ck
  have cq:∀d os,Calls Tryz.prog 78 #[.agg #[.slice A n c,.int .i64 r],.int .i64 (k:Int)] (grow (redrawn W1 d) os) fun e w''=>e = .returned (.int .i64 a)∧∃p:Regrown,w''=grow (redrawn W1 p.d) p.os:=fun d os=>Calls.regrown_of (HTK.out _ (below_regrown W1 d os))
  go_enter Tryz.func77,Tryz.ntmps77
  go_upto_region 2 with(fail)
  refine wp_region_quiet_below (by kernel_rfl) (by kernel_rfl) ?_
  repeat (go_big_quiet_step (first|exact cq _ _))
  refine wpQuiet_nil ?_
  intro _ hw'
  obtain⟨⟨dq,osq⟩,hw''⟩:=hw'
  subst hw''
  have hbq:=below_regrown W1 dq osq
  generalize grow (redrawn W1 dq) osq=W4 at *
  clear s0 s1 s2 s3 cq
  have HB4:=Lib.hid hbq
  have v0:=((HX1.out.1.below hbq HX1.out.1.lt).cell 0).trans rfl
  have v1:=((HX1.out.1.below hbq HX1.out.1.lt).cell 1).trans rfl
  have vs:=((HX1.out.2.below hbq HX1.out.2.lt).cell 4).trans rfl
  have vj:=(hbq.cell (p:=⟨bK,oK+1,none⟩) HCJ.out.1).trans HCJ.out.2
  have s0:=cell_regrown v0
  have s1:=cell_regrown v1
  have s2:=cell_regrown vs
  have s3:=cell_regrown vj
  have cq:∀d os,Calls Tryz.prog 78 #[.agg #[.slice A n c,.int .i64 r],.int .i64 (j:Int)] (grow (redrawn W4 d) os) fun e w''=>e = .returned (.int .i64 b)∧∃p:Regrown,w''=grow (redrawn W4 p.d) p.os:=fun d os=>Calls.regrown_of (HTJ.out _ (bt HB4.out (below_regrown W4 d os)))
  clear hbq v0 v1 vs vj
  by_cases hab:a=b
  ·subst hab
   have k0:(a==a)=true:=by simp
   by_cases h1:a=1
   ·subst h1
    go_upto_region 3 with(fail)
    refine wp_region_quiet_below (by kernel_rfl) (by kernel_rfl) ?_
    repeat (go_big_quiet_step (first|exact cq _ _))
    refine wpQuiet_nil ?_
    intro _ hw'
    obtain⟨⟨dq,osq⟩,hw''⟩:=hw'
    subst hw''
    have hbq:=below_regrown W4 dq osq
    generalize grow (redrawn W4 dq) osq=W6 at *
    have HE:=Lib.hid (bt HB1.out (bt HB4.out hbq))
    clear hbq cq
    go_wp2
    go_ret
    exact⟨rfl,HE.out⟩
   ·have k1:(a==1)=false:=beq_eq_false_iff_ne.2 h1
    by_cases h2:a=2
    ·subst h2
     go_upto_region 3 with(fail)
     refine wp_region_quiet_below (by kernel_rfl) (by kernel_rfl) ?_
     repeat (go_big_quiet_step (first|exact cq _ _))
     refine wpQuiet_nil ?_
     intro _ hw'
     obtain⟨⟨dq,osq⟩,hw''⟩:=hw'
     subst hw''
     have hbq:=below_regrown W4 dq osq
     generalize grow (redrawn W4 dq) osq=W6 at *
     have HE:=Lib.hid (bt HB1.out (bt HB4.out hbq))
     clear hbq cq
     go_wp2
     go_ret
     exact⟨rfl,HE.out⟩
    ·have k2:(a==2)=false:=beq_eq_false_iff_ne.2 h2
     have hval:((decide (a=1)&&decide (a=1)) || (decide (a=2)&&decide (a=2)))=false:=by simp[h1,h2]
     have HVL:=Lib.hid hval
     clear hval h1 h2
     go_upto_region 3 with(fail)
     refine wp_region_quiet_below (by kernel_rfl) (by kernel_rfl) ?_
     repeat (go_big_quiet_step (first|exact cq _ _))
     refine wpQuiet_nil ?_
     intro _ hw'
     obtain⟨⟨dq,osq⟩,hw''⟩:=hw'
     subst hw''
     have hbq:=below_regrown W4 dq osq
     generalize grow (redrawn W4 dq) osq=W6 at *
     have HE:=Lib.hid (bt HB1.out (bt HB4.out hbq))
     clear hbq cq
     go_wp2
     go_ret
     exact⟨by rw[HVL.out];try rfl,HE.out⟩
  ·have k0:(a==b)=false:=beq_eq_false_iff_ne.2 hab
   have hval:((decide (a=1)&&decide (b=1)) || (decide (a=2)&&decide (b=2)))=false:=by
    rw[Bool.eq_false_iff]
    intro h2
    simp only[Bool.or_eq_true,Bool.and_eq_true,decide_eq_true_eq]at h2
    omega
   have HVL:=Lib.hid hval
   clear hval hab
   go_upto_region 3 with(fail)
   refine wp_region_quiet_below (by kernel_rfl) (by kernel_rfl) ?_
   repeat (go_big_quiet_step (first|exact cq _ _))
   refine wpQuiet_nil ?_
   intro _ hw'
   obtain⟨⟨dq,osq⟩,hw''⟩:=hw'
   subst hw''
   have hbq:=below_regrown W4 dq osq
   generalize grow (redrawn W4 dq) osq=W6 at *
   have HE:=Lib.hid (bt HB1.out (bt HB4.out hbq))
   clear hbq cq
   go_wp2
   go_ret
   exact⟨by rw[HVL.out];try rfl,HE.out⟩
 by_cases htx2:(ndA l p).tx=⟨#[33,61]⟩
 ·have htx:=htx2
  have hkd:=(nd_ok HRT.out.sh HPL.out)
  have h27:(ndA l p).kd=27:=by
   rcases hk with e |e
   ·have:=hkd.tx
    unfold txA at this
    rw[e,htx]at this
    simp[Tr.txB]at this
   ·exact e
  have hlen2:(kdsA l p).length=2:=by
   have:=hkd.kid
   rw[h27]at this
   simp[Tr.kidB]at this
   exact this.1
  obtain⟨k,j,hks,hkp,hjp,_⟩:=two_kids (snd_ahead (rg_parts HT1.out.rg).1) HPL.out hlen2
  have hkn:k<n:=by omega
  have hjn:j<n:=by omega
  have HTK:=Lib.hid (fun W (q:Below W1.heap.size W1 W)=>typed_any (HT1.out.below q) c k hkn)
  have HTJ:=Lib.hid (fun W (q:Below W1.heap.size W1 W)=>typed_any (HT1.out.below q) c j hjn)
  have hI:=HK1.out
  have hfit:fitB l p=((decide (typA l k=1)&&decide (typA l j=1)) || (decide (typA l k=2)&&decide (typA l j=2))):=by
   unfold fitB
   rw[htx,if_neg (by decide),if_pos (by decide),hks]
   simp[areB]
  rw[hks]at hI es hW1 HX1
  rw[show([(k:Int),(j:Int)]).length=2 from rfl]at es hW1 HX1
  rw[hks,show([(k:Int),(j:Int)]).length=2 from rfl]
  obtain⟨bK,oK,rfl,hbK,hcK⟩:=hI (by simp)
  have ck:=hcK 0 (by simp)
  have cj:=hcK 1 (by simp)
  replace ck:W1.cell? ⟨bK,oK,none⟩=some (.int .i64 (k:Int)):=ck
  replace cj:W1.cell? ⟨bK,oK+1,none⟩=some (.int .i64 (j:Int)):=cj
  have HCJ:=Lib.hid (And.intro hbK cj)
  clear et2
  rw[htx]at et hW1 ⊢
  rw[hfit]
  clear htx2 hfit hI hcK hks hlen2 h27 hkd htx hkp hjp HRT HT1 HK1 hk HAL1 HAL2 HS HSB
  generalize typA l k=a at *
  generalize typA l j=b at *
  generalize (ndA l (p:Int)).kd=kd at *
  generalize (ndA l (p:Int)).n=nn at *
  generalize (ndA l (p:Int)).pl=pl at *
  have hs0:=str_eq ⟨#[61,61]⟩
  have hs1:=str_eq ⟨#[33,61]⟩
  have hs2:=str_ne (show(⟨#[33,61]⟩:ByteArray)≠⟨#[61,61]⟩by decide)
  have s0:=cell_regrown e0
  have s1:=cell_regrown e1
  have s2:=cell_regrown es
  have s3:=cell_regrown ck
  have cq:∀d os,Calls Tryz.prog 78 #[.agg #[.slice A n c,.int .i64 r],.int .i64 (k:Int)] (grow (redrawn W1 d) os) fun e w''=>e = .returned (.int .i64 a)∧∃p:Regrown,w''=grow (redrawn W1 p.d) p.os:=fun d os=>Calls.regrown_of (HTK.out _ (below_regrown W1 d os))
  go_enter Tryz.func77,Tryz.ntmps77
  go_upto_region 2 with(fail)
  refine wp_region_quiet_below (by kernel_rfl) (by kernel_rfl) ?_
  repeat (go_big_quiet_step (first|exact cq _ _))
  refine wpQuiet_nil ?_
  intro _ hw'
  obtain⟨⟨dq,osq⟩,hw''⟩:=hw'
  subst hw''
  have hbq:=below_regrown W1 dq osq
  generalize grow (redrawn W1 dq) osq=W4 at *
  clear s0 s1 s2 s3 cq
  have HB4:=Lib.hid hbq
  have v0:=((HX1.out.1.below hbq HX1.out.1.lt).cell 0).trans rfl
  have v1:=((HX1.out.1.below hbq HX1.out.1.lt).cell 1).trans rfl
  have vs:=((HX1.out.2.below hbq HX1.out.2.lt).cell 4).trans rfl
  have vj:=(hbq.cell (p:=⟨bK,oK+1,none⟩) HCJ.out.1).trans HCJ.out.2
  have s0:=cell_regrown v0
  have s1:=cell_regrown v1
  have s2:=cell_regrown vs
  have s3:=cell_regrown vj
  have cq:∀d os,Calls Tryz.prog 78 #[.agg #[.slice A n c,.int .i64 r],.int .i64 (j:Int)] (grow (redrawn W4 d) os) fun e w''=>e = .returned (.int .i64 b)∧∃p:Regrown,w''=grow (redrawn W4 p.d) p.os:=fun d os=>Calls.regrown_of (HTJ.out _ (bt HB4.out (below_regrown W4 d os)))
  clear hbq v0 v1 vs vj
  by_cases hab:a=b
  ·subst hab
   have k0:(a==a)=true:=by simp
   by_cases h1:a=1
   ·subst h1
    go_upto_region 3 with(fail)
    refine wp_region_quiet_below (by kernel_rfl) (by kernel_rfl) ?_
    repeat (go_big_quiet_step (first|exact cq _ _))
    refine wpQuiet_nil ?_
    intro _ hw'
    obtain⟨⟨dq,osq⟩,hw''⟩:=hw'
    subst hw''
    have hbq:=below_regrown W4 dq osq
    generalize grow (redrawn W4 dq) osq=W6 at *
    have HE:=Lib.hid (bt HB1.out (bt HB4.out hbq))
    clear hbq cq
    go_wp2
    go_ret
    exact⟨rfl,HE.out⟩
   ·have k1:(a==1)=false:=beq_eq_false_iff_ne.2 h1
    by_cases h2:a=2
    ·subst h2
     go_upto_region 3 with(fail)
     refine wp_region_quiet_below (by kernel_rfl) (by kernel_rfl) ?_
     repeat (go_big_quiet_step (first|exact cq _ _))
     refine wpQuiet_nil ?_
     intro _ hw'
     obtain⟨⟨dq,osq⟩,hw''⟩:=hw'
     subst hw''
     have hbq:=below_regrown W4 dq osq
     generalize grow (redrawn W4 dq) osq=W6 at *
     have HE:=Lib.hid (bt HB1.out (bt HB4.out hbq))
     clear hbq cq
     go_wp2
     go_ret
     exact⟨rfl,HE.out⟩
    ·have k2:(a==2)=false:=beq_eq_false_iff_ne.2 h2
     have hval:((decide (a=1)&&decide (a=1)) || (decide (a=2)&&decide (a=2)))=false:=by simp[h1,h2]
     have HVL:=Lib.hid hval
     clear hval h1 h2
     go_upto_region 3 with(fail)
     refine wp_region_quiet_below (by kernel_rfl) (by kernel_rfl) ?_
     repeat (go_big_quiet_step (first|exact cq _ _))
     refine wpQuiet_nil ?_
     intro _ hw'
     obtain⟨⟨dq,osq⟩,hw''⟩:=hw'
     subst hw''
     have hbq:=below_regrown W4 dq osq
     generalize grow (redrawn W4 dq) osq=W6 at *
     have HE:=Lib.hid (bt HB1.out (bt HB4.out hbq))
     clear hbq cq
     go_wp2
     go_ret
     exact⟨by rw[HVL.out];try rfl,HE.out⟩
  ·have k0:(a==b)=false:=beq_eq_false_iff_ne.2 hab
   have hval:((decide (a=1)&&decide (b=1)) || (decide (a=2)&&decide (b=2)))=false:=by
    rw[Bool.eq_false_iff]
    intro h2
    simp only[Bool.or_eq_true,Bool.and_eq_true,decide_eq_true_eq]at h2
    omega
   have HVL:=Lib.hid hval
   clear hval hab
   go_upto_region 3 with(fail)
   refine wp_region_quiet_below (by kernel_rfl) (by kernel_rfl) ?_
   repeat (go_big_quiet_step (first|exact cq _ _))
   refine wpQuiet_nil ?_
   intro _ hw'
   obtain⟨⟨dq,osq⟩,hw''⟩:=hw'
   subst hw''
   have hbq:=below_regrown W4 dq osq
   generalize grow (redrawn W4 dq) osq=W6 at *
   have HE:=Lib.hid (bt HB1.out (bt HB4.out hbq))
   clear hbq cq
   go_wp2
   go_ret
   exact⟨by rw[HVL.out];try rfl,HE.out⟩
 have hs0:=lst_ne htx
 have hs1:=lst_ne htx2
 have hfi:=fit_any (ndA l p).tx
 have hfit:fitB l p=if (([⟨#[33]⟩,⟨#[38,38]⟩,⟨#[124,124]⟩]:List ByteArray).any fun x=>decide (x=(ndA l p).tx))=true then areB l (ndA l p).ks 2 else areB l (ndA l p).ks 1:=by
  unfold fitB
  by_cases e:(ndA l p).tx=⟨#[33]⟩∨(ndA l p).tx=⟨#[38,38]⟩∨(ndA l p).tx=⟨#[124,124]⟩
  ·rw[if_pos e,if_pos (hfi.1 e)]
  ·rw[if_neg e,if_neg (fun e2=>e (hfi.2 e2)),if_neg (by rintro(e2 |e2);exact htx e2;exact htx2 e2)]
 rw[hfit]
 clear hfit hfi htx htx2 HRT HT1 HK1 hk HPL
 generalize (([⟨#[33]⟩,⟨#[38,38]⟩,⟨#[124,124]⟩]:List ByteArray).any fun x=>decide (x=(ndA l (p:Int)).tx))=sb at *
 generalize areB l (ndA l (p:Int)).ks 1=a1 at *
 generalize areB l (ndA l (p:Int)).ks 2=a2 at *
 generalize (ndA l (p:Int)).kd=kd at *
 generalize (ndA l (p:Int)).n=nn at *
 generalize (ndA l (p:Int)).pl=pl at *
 generalize (ndA l (p:Int)).tx=tx at *
 generalize (ndA l (p:Int)).ks.length=m at *
 cases sb with
 |true=>
  rw[if_pos rfl]
  go_enter Tryz.func77,Tryz.ntmps77
  go_wp2_with (go_at_call 105;refine HS.out.mono ?_)
  rintro e w2 ⟨rfl,hb2⟩
  have hb3:=bt HSB.out hb2
  have HB3:=Lib.hid hb3
  have v0:=((HX1.out.1.below hb3 HX1.out.1.lt).cell 0).trans rfl
  have v1:=((HX1.out.1.below hb3 HX1.out.1.lt).cell 1).trans rfl
  have vs:=((HX1.out.2.below hb3 HX1.out.2.lt).cell 4).trans rfl
  clear hb2 hb3 e0 e1 et es
  go_wp2_with (go_at_call 103;refine(HAL2.out _ HB3.out).mono ?_)
  rintro e w4 ⟨rfl,hb4⟩
  have HE:=Lib.hid (bt HB1.out (bt HB3.out hb4))
  clear hb4
  go_wp2
  go_ret
  exact⟨rfl,HE.out⟩
 |false=>
  rw[if_neg (by decide)]
  go_enter Tryz.func77,Tryz.ntmps77
  go_wp2_with (go_at_call 105;refine HS.out.mono ?_)
  rintro e w2 ⟨rfl,hb2⟩
  have hb3:=bt HSB.out hb2
  have HB3:=Lib.hid hb3
  have v0:=((HX1.out.1.below hb3 HX1.out.1.lt).cell 0).trans rfl
  have v1:=((HX1.out.1.below hb3 HX1.out.1.lt).cell 1).trans rfl
  have vs:=((HX1.out.2.below hb3 HX1.out.2.lt).cell 4).trans rfl
  clear hb2 hb3 e0 e1 et es
  go_wp2_with (go_at_call 103;refine(HAL1.out _ HB3.out).mono ?_)
  rintro e w4 ⟨rfl,hb4⟩
  have HE:=Lib.hid (bt HB1.out (bt HB3.out hb4))
  clear hb4
  go_wp2
  go_ret
  exact⟨rfl,HE.out⟩
end
end Go.Proofs.YtignojhijmamhaaGreat.Ty
