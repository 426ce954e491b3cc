/- PROVED here: parts N35 of the claim. No condition but those in each theorem's own head. -/
import Derived.Test.YtedkgofehbecmaaGreatDoorU32
namespace Go.Proofs.YtedkgofehbecmaaGreatDoor
open Go.Lib (hid)
open Go Go.RowKit Go.Sort
open Tr (Bx heap1 bt Nds Ints VPost BPost)
section
variable {w:World} {l:List Tr.Nd} {A O:Option Addr} {n bd bp:Nat}
set_option maxRecDepth 100000 in
set_option maxHeartbeats 6000000 in
theorem isMistyped_any (h:Prg w l A n O bd bp)(hcp:Caps w A l)(c co p:Nat)(hp:p<n)(hF:NdF l p)(hu:unkB l p=false):Calls Tryz.prog 186 #[PrV A n c O co bd bp,.int .i64 (p:Int)] w (BPost (misB l p) w):=by
 unfold PrV
 have hb0:=heap1 w (.cells #[.slice A n c,.slice O n co,.map (some bd),.map (some bp)] 87)
 have xl:p<l.length:=by rw[<- h.len];exact hp
 have xz:(p:Int)<(n:Int):=by omega
 obtain⟨bA,off,K,cK,rfl,xt,x0,x1,x2,x3,x4,xI⟩:=node_at h.nds hb0 p xl
 rw[<- ndA_eq xl]at x0 x1 x2 x3 x4 xI
 have hb1:=bt hb0 (heap1 (w.alloc (.cells #[.slice (some ⟨bA,off,none⟩) n c,.slice O n co,.map (some bd),.map (some bp)] 87)) (.cells #[.int .i64 (ndA l p).kd,.int .i64 (ndA l p).n,.int .i64 (ndA l p).pl,.string (ndA l p).tx,.slice K (ndA l p).ks.length cK] 50))
 have hX:=(Bx.new w 87 [.slice (some ⟨bA,off,none⟩) n c,.slice O n co,.map (some bd),.map (some bp)]).alloc (.cells #[.int .i64 (ndA l p).kd,.int .i64 (ndA l p).n,.int .i64 (ndA l p).pl,.string (ndA l p).tx,.slice K (ndA l p).ks.length cK] 50)
 have hN:=Bx.new (w.alloc (.cells #[.slice (some ⟨bA,off,none⟩) n c,.slice O n co,.map (some bd),.map (some bp)] 87)) 50 [.int .i64 (ndA l p).kd,.int .i64 (ndA l p).n,.int .i64 (ndA l p).pl,.string (ndA l p).tx,.slice K (ndA l p).ks.length cK]
 have hs1:(w.alloc (.cells #[.slice (some ⟨bA,off,none⟩) n c,.slice O n co,.map (some bd),.map (some bp)] 87)).heap.size=w.heap.size+1:=by rw[World.size_alloc]
 rw[hs1]at hN
 have htx:=h.text _ (List.getElem_mem xl)
 rw[<- ndA_eq xl]at htx
 obtain⟨W1,hW1⟩:∃W1,(w.alloc (.cells #[.slice (some ⟨bA,off,none⟩) n c,.slice O n co,.map (some bd),.map (some bp)] 87)).alloc (.cells #[.int .i64 (ndA l p).kd,.int .i64 (ndA l p).n,.int .i64 (ndA l p).pl,.string (ndA l p).tx,.slice K (ndA l p).ks.length cK] 50)=W1:=⟨_,rfl⟩
 rw[hW1]at hb1 hX hN
 have HB1:=hid hb1
 have HX:=hid (And.intro hX hN)
 have HV:=hid (λW (hb:Below W1.heap.size W1 W)=>variable_any (h.below (bt hb1 hb)) c co p hp)
 have HT:=hid (λW (hb:Below W1.heap.size W1 W) (k:Nat) (hk:k<n)=>typeE_any (h.below (bt hb1 hb)) c co k hk)
 have HA:=hid (λW (hb:Below W1.heap.size W1 W)=>areAll_any (h.below (bt hb1 hb)) c co K (ndA l p).ks.length cK (ndA l p).ks 1 (xI.below (bt hb1 hb)) rfl (h.kr hp) (h.kl hp))
 have HS:=hid (fitsSign_any (h.below hb1) c co p hp K (ndA l p).ks.length cK (xI.below hb1) rfl)
 have HP:=hid (λW (hb:Below W1.heap.size W1 W)=>procedure_any (h.below (bt hb1 hb)) c co (ndA l p).tx htx)
 have HQ:=hid (λW (hb:Below W1.heap.size W1 W) (q:Nat) (hq:q<n)=>isPlain_any (h.below (bt hb1 hb)) c co q hq)
 have HR2:=hid (λ(m:Nat) (how:owA l p=(m:Int)) (hm:m<n)=>fitsReturn_any (h.below hb1) c co p m hp how hm)
 have HLC:=hid (show∀q,prF l (ndA l p).tx 0=some q->q<n from λq hq=>by rw[h.len];exact(prF_lt hq).1)
 have HCL:=hid (λ(k:Nat) ks (hks:(ndA l p).ks=(k:Int) :: ks) (hk:k<n) (hkd:(ndA l p).kd=13) (hun:dnA l p (calN l p)≠none\/prF l (calN l p) 0≠none)=>fitsCall_any (h.below hb1) (hcp.below h.nds hb1) c co p k hp hkd ks hks hk hun)
 have HLN:=hid h.len
 have HKR:=hid (h.kr hp)
 have HF:=hid hF
 have HXI:=hid (λW (hb:Below W1.heap.size W1 W)=>xI.below (bt hb1 hb))
 unfold PrV at HV HT HA HS HP HQ HR2 HCL
 obtain⟨R,hR⟩:∃R,R=misB l p:=⟨_,rfl⟩
 rw[<- hR]
 unfold misB at hR
 have HU:=hid hu
 unfold unkB at hu
 clear h hcp hb0 hb1 hX hN xI hp htx hF hs1
 have HXL:=hid xl
 clear xl
 generalize ekd:(ndA l (p:Int)).kd=k at *
 generalize etx:(ndA l (p:Int)).tx=tx at *
 generalize enn:(ndA l (p:Int)).n=nn at *
 generalize epl:(ndA l (p:Int)).pl=pl at *
 generalize eks:(ndA l (p:Int)).ks.length=m at *
 have b0:=(HX.out.1.cell 0).trans rfl
 have b1:=(HX.out.1.cell 1).trans rfl
 have b2:=(HX.out.1.cell 2).trans rfl
 have b3:=(HX.out.1.cell 3).trans rfl
 have n0:=(HX.out.2.cell 0).trans rfl
 have n1:=(HX.out.2.cell 1).trans rfl
 have n2:=(HX.out.2.cell 2).trans rfl
 have n3:=(HX.out.2.cell 3).trans rfl
 have n4:=(HX.out.2.cell 4).trans rfl
 by_cases k23:k=23
 ·subst k23
  have hR2:R=(!decide (vrT l p=3) || !(areB l (ndA l p).ks 1)):=by rw[hR,if_pos (by decide)]
  have HVC:=hid (HV.out _ (Below.refl _ _))
  clear HV HT HS HP HQ HR2 HLC HCL HKR HF HXI HU HLN HXL hu hR ekd etx enn epl eks
  generalize vrT l p=vt at *
  by_cases hv:vt=3
  ·subst hv
   have HR:=hid (show(!(areB l (ndA l p).ks 1))=R by rw[hR2];simp)
   clear hR2
   generalize areB l (ndA l p).ks 1=ar at *
   go_enter Tryz.func186,Tryz.ntmps186
   go_wp2_with (go_at_call 216;refine HVC.out.mono ?_)
   rintro e w2 ⟨rfl,hb2⟩
   have HB2:=hid hb2
   have HAC:=hid (HA.out _ hb2)
   have hBa:=HX.out.1.below hb2 HX.out.1.lt
   have hNa:=HX.out.2.below hb2 HX.out.2.lt
   have c0:=(hBa.cell 0).trans rfl
   have c1:=(hBa.cell 1).trans rfl
   have c2:=(hBa.cell 2).trans rfl
   have c3:=(hBa.cell 3).trans rfl
   have cn4:=(hNa.cell 4).trans rfl
   clear hBa hNa
   clear hb2
   go_wp2_with (go_at_call 217;refine HAC.out.mono ?_)
   rintro e w3 ⟨rfl,hb3⟩
   have HB3:=hid (bt HB2.out hb3)
   clear hb3
   go_wp2
   go_ret
   exact⟨congrArg (λz=>Ending.returned (Value.bool z)) HR.out,bt HB1.out HB3.out⟩
  ·have hvz:(vt != 3)=true:=by simp[hv]
   have HR:=hid (show true=R by rw[hR2];simp[hv])
   clear hR2 hv
   go_enter Tryz.func186,Tryz.ntmps186
   go_wp2_with (go_at_call 216;refine HVC.out.mono ?_)
   rintro e w2 ⟨rfl,hb2⟩
   have HB2:=hid hb2
   clear hb2
   go_wp2
   go_ret
   exact⟨congrArg (λz=>Ending.returned (Value.bool z)) HR.out,bt HB1.out HB2.out⟩
 have f23:(k==23)=false:=beq_eq_false_iff_ne.2 k23
 by_cases k24:k=24
 ·subst k24
  have hR2:R=(!decide (vrT l p=3) || !(areB l (ndA l p).ks 1)):=by rw[hR,if_pos (by decide)]
  have HVC:=hid (HV.out _ (Below.refl _ _))
  clear HV HT HS HP HQ HR2 HLC HCL HKR HF HXI HU HLN HXL hu hR ekd etx enn epl eks
  generalize vrT l p=vt at *
  by_cases hv:vt=3
  ·subst hv
   have HR:=hid (show(!(areB l (ndA l p).ks 1))=R by rw[hR2];simp)
   clear hR2
   generalize areB l (ndA l p).ks 1=ar at *
   go_enter Tryz.func186,Tryz.ntmps186
   go_wp2_with (go_at_call 216;refine HVC.out.mono ?_)
   rintro e w2 ⟨rfl,hb2⟩
   have HB2:=hid hb2
   have HAC:=hid (HA.out _ hb2)
   have hBa:=HX.out.1.below hb2 HX.out.1.lt
   have hNa:=HX.out.2.below hb2 HX.out.2.lt
   have c0:=(hBa.cell 0).trans rfl
   have c1:=(hBa.cell 1).trans rfl
   have c2:=(hBa.cell 2).trans rfl
   have c3:=(hBa.cell 3).trans rfl
   have cn4:=(hNa.cell 4).trans rfl
   clear hBa hNa
   clear hb2
   go_wp2_with (go_at_call 217;refine HAC.out.mono ?_)
   rintro e w3 ⟨rfl,hb3⟩
   have HB3:=hid (bt HB2.out hb3)
   clear hb3
   go_wp2
   go_ret
   exact⟨congrArg (λz=>Ending.returned (Value.bool z)) HR.out,bt HB1.out HB3.out⟩
  ·have hvz:(vt != 3)=true:=by simp[hv]
   have HR:=hid (show true=R by rw[hR2];simp[hv])
   clear hR2 hv
   go_enter Tryz.func186,Tryz.ntmps186
   go_wp2_with (go_at_call 216;refine HVC.out.mono ?_)
   rintro e w2 ⟨rfl,hb2⟩
   have HB2:=hid hb2
   clear hb2
   go_wp2
   go_ret
   exact⟨congrArg (λz=>Ending.returned (Value.bool z)) HR.out,bt HB1.out HB2.out⟩
 have f24:(k==24)=false:=beq_eq_false_iff_ne.2 k24
 by_cases k8:k=8
 ·subst k8
  have hR2:R=(!decide (vrT l p=3) || !(areB l (ndA l p).ks 1)):=by rw[hR,if_pos (by decide)]
  have HVC:=hid (HV.out _ (Below.refl _ _))
  clear HV HT HS HP HQ HR2 HLC HCL HKR HF HXI HU HLN HXL hu hR ekd etx enn epl eks
  generalize vrT l p=vt at *
  by_cases hv:vt=3
  ·subst hv
   have HR:=hid (show(!(areB l (ndA l p).ks 1))=R by rw[hR2];simp)
   clear hR2
   generalize areB l (ndA l p).ks 1=ar at *
   go_enter Tryz.func186,Tryz.ntmps186
   go_wp2_with (go_at_call 216;refine HVC.out.mono ?_)
   rintro e w2 ⟨rfl,hb2⟩
   have HB2:=hid hb2
   have HAC:=hid (HA.out _ hb2)
   have hBa:=HX.out.1.below hb2 HX.out.1.lt
   have hNa:=HX.out.2.below hb2 HX.out.2.lt
   have c0:=(hBa.cell 0).trans rfl
   have c1:=(hBa.cell 1).trans rfl
   have c2:=(hBa.cell 2).trans rfl
   have c3:=(hBa.cell 3).trans rfl
   have cn4:=(hNa.cell 4).trans rfl
   clear hBa hNa
   clear hb2
   go_wp2_with (go_at_call 217;refine HAC.out.mono ?_)
   rintro e w3 ⟨rfl,hb3⟩
   have HB3:=hid (bt HB2.out hb3)
   clear hb3
   go_wp2
   go_ret
   exact⟨congrArg (λz=>Ending.returned (Value.bool z)) HR.out,bt HB1.out HB3.out⟩
  ·have hvz:(vt != 3)=true:=by simp[hv]
   have HR:=hid (show true=R by rw[hR2];simp[hv])
   clear hR2 hv
   go_enter Tryz.func186,Tryz.ntmps186
   go_wp2_with (go_at_call 216;refine HVC.out.mono ?_)
   rintro e w2 ⟨rfl,hb2⟩
   have HB2:=hid hb2
   clear hb2
   go_wp2
   go_ret
   exact⟨congrArg (λz=>Ending.returned (Value.bool z)) HR.out,bt HB1.out HB2.out⟩
 have f8:(k==8)=false:=beq_eq_false_iff_ne.2 k8
 by_cases k17:k=17
 ·subst k17
  have hR2:R=(!decide (vrT l p=3) || !(areB l (ndA l p).ks 1)):=by rw[hR,if_pos (by decide)]
  have HVC:=hid (HV.out _ (Below.refl _ _))
  clear HV HT HS HP HQ HR2 HLC HCL HKR HF HXI HU HLN HXL hu hR ekd etx enn epl eks
  generalize vrT l p=vt at *
  by_cases hv:vt=3
  ·subst hv
   have HR:=hid (show(!(areB l (ndA l p).ks 1))=R by rw[hR2];simp)
   clear hR2
   generalize areB l (ndA l p).ks 1=ar at *
   go_enter Tryz.func186,Tryz.ntmps186
   go_wp2_with (go_at_call 216;refine HVC.out.mono ?_)
   rintro e w2 ⟨rfl,hb2⟩
   have HB2:=hid hb2
   have HAC:=hid (HA.out _ hb2)
   have hBa:=HX.out.1.below hb2 HX.out.1.lt
   have hNa:=HX.out.2.below hb2 HX.out.2.lt
   have c0:=(hBa.cell 0).trans rfl
   have c1:=(hBa.cell 1).trans rfl
   have c2:=(hBa.cell 2).trans rfl
   have c3:=(hBa.cell 3).trans rfl
   have cn4:=(hNa.cell 4).trans rfl
   clear hBa hNa
   clear hb2
   go_wp2_with (go_at_call 217;refine HAC.out.mono ?_)
   rintro e w3 ⟨rfl,hb3⟩
   have HB3:=hid (bt HB2.out hb3)
   clear hb3
   go_wp2
   go_ret
   exact⟨congrArg (λz=>Ending.returned (Value.bool z)) HR.out,bt HB1.out HB3.out⟩
  ·have hvz:(vt != 3)=true:=by simp[hv]
   have HR:=hid (show true=R by rw[hR2];simp[hv])
   clear hR2 hv
   go_enter Tryz.func186,Tryz.ntmps186
   go_wp2_with (go_at_call 216;refine HVC.out.mono ?_)
   rintro e w2 ⟨rfl,hb2⟩
   have HB2:=hid hb2
   clear hb2
   go_wp2
   go_ret
   exact⟨congrArg (λz=>Ending.returned (Value.bool z)) HR.out,bt HB1.out HB2.out⟩
 have f17:(k==17)=false:=beq_eq_false_iff_ne.2 k17
 rw[if_neg (by omega)]at hR
 by_cases k25:k=25
 ·subst k25
  rw[if_pos rfl]at hR
  rw[if_neg (by decide),if_pos rfl]at hu
  cases hq:prF l tx 0 with
  |none=>rw[hq]at hu;cases hu
  |some q=>
   have hqn:=HLC.out q (by rw[<- hq,<- etx])
   have HR:=hid (show(!(plnB l (q:Int)))=R by rw[hR,hq];rfl)
   have c1q:∀d os,Calls Tryz.prog 106 #[.agg #[.slice (some ⟨bA,off,none⟩) n c,.slice O n co,.map (some bd),.map (some bp)],.string tx] (grow (redrawn W1 d) os) λe w''=>e = .returned (.int .i64 (q:Int))/\∃p:Regrown,w''=grow (redrawn W1 p.d) p.os:=λd os=>Calls.regrown_of (by have t:=HP.out _ (below_regrown W1 d os);rw[hq]at t;exact t)
   have c2q:∀d os,Calls Tryz.prog 218 #[.agg #[.slice (some ⟨bA,off,none⟩) n c,.slice O n co,.map (some bd),.map (some bp)],.int .i64 (q:Int)] (grow (redrawn W1 d) os) λe w''=>e = .returned (.bool (plnB l (q:Int)))/\∃p:Regrown,w''=grow (redrawn W1 p.d) p.os:=λd os=>Calls.regrown_of (HQ.out _ (below_regrown W1 d os) q hqn)
   have d0:=cell_regrown b0
   have d1:=cell_regrown b1
   have d2:=cell_regrown b2
   have d3:=cell_regrown b3
   have m3:=cell_regrown n3
   clear HV HT HA HS HP HQ HR2 HLC HCL HKR HF HXI HU HLN HXL hu hR ekd etx enn epl eks
   clear hq hqn
   generalize plnB l (q:Int)=pb at *
   go_enter Tryz.func186,Tryz.ntmps186
   go_wp2
   refine wp_region_quiet_below (by kernel_rfl) (by kernel_rfl) ?_
   repeat (go_big_quiet_step (first|exact c1q _ _ |exact c2q _ _))
   refine wpQuiet_nil ?_
   intro _ hw'
   obtain⟨⟨dq,osq⟩,hw''⟩:=hw'
   subst hw''
   have hbq:=below_regrown W1 dq osq
   generalize grow (redrawn W1 dq) osq=w2 at *
   have HB2:=hid hbq
   clear hbq c1q c2q
   go_wp2
   go_ret
   exact⟨congrArg (λz=>Ending.returned (Value.bool z)) HR.out,bt HB1.out HB2.out⟩
 have f25:(k==25)=false:=beq_eq_false_iff_ne.2 k25
 rw[if_neg k25]at hR
 by_cases k26:k=26
 ·subst k26
  have HR:=hid (show(!fitB l p)=R by rw[hR,if_pos (by decide)])
  have HCC:=hid (HS.out)
  clear HV HT HA HS HP HQ HR2 HLC HCL HKR HF HXI HU HLN HXL hu hR ekd etx enn epl eks
  generalize fitB l p=ar at *
  go_enter Tryz.func186,Tryz.ntmps186
  go_wp2_with (go_at_call 219;refine HCC.out.mono ?_)
  rintro e w2 ⟨rfl,hb2⟩
  have HB2:=hid hb2
  clear hb2
  go_wp2
  go_ret
  exact⟨congrArg (λz=>Ending.returned (Value.bool z)) HR.out,bt HB1.out HB2.out⟩
 have f26:(k==26)=false:=beq_eq_false_iff_ne.2 k26
 by_cases k27:k=27
 ·subst k27
  have HR:=hid (show(!fitB l p)=R by rw[hR,if_pos (by decide)])
  have HCC:=hid (HS.out)
  clear HV HT HA HS HP HQ HR2 HLC HCL HKR HF HXI HU HLN HXL hu hR ekd etx enn epl eks
  generalize fitB l p=ar at *
  go_enter Tryz.func186,Tryz.ntmps186
  go_wp2_with (go_at_call 219;refine HCC.out.mono ?_)
  rintro e w2 ⟨rfl,hb2⟩
  have HB2:=hid hb2
  clear hb2
  go_wp2
  go_ret
  exact⟨congrArg (λz=>Ending.returned (Value.bool z)) HR.out,bt HB1.out HB2.out⟩
 have f27:(k==27)=false:=beq_eq_false_iff_ne.2 k27
 rw[if_neg (by omega)]at hR
 by_cases k7:k=7
 ·subst k7
  obtain⟨kz,kr,hks⟩:=HF.out.one (by omega)
  have hkz:=HKR.out kz (by rw[hks];simp)
  obtain⟨kk,rfl⟩:∃kk:Nat,kz=(kk:Int):=⟨kz.toNat,by omega⟩
  have hkn:kk<n:=by omega
  have hml:0<(ndA l p).ks.length:=by rw[hks];simp
  obtain⟨bk,ok,rfl,hbk,hck⟩:=HXI.out _ (Below.refl _ _) (Nat.lt_of_le_of_lt (Nat.zero_le _) hml)
  have hkc:W1.cell? ⟨bk,ok,none⟩=some (.int .i64 (kk:Int)):=by have t:=hck 0 hml;simp only[hks]at t;exact t
  have hkk:kidA l p 0=(kk:Int):=kidA_0 hks
  have hmz:(0:Int)<(m:Int):=by rw[<- eks];exact Int.ofNat_lt.2 hml
  have hm1:((m:Nat):Int)=(m:Int):=rfl
  have hkr:=cell_regrown hkc
  have HR:=hid (show(vrT l p != typA l kk)=R by rw[hR,if_pos rfl,hkk,Int.toNat_natCast,Bool.eq_iff_iff];simp)
  have ck:∀d os,Calls Tryz.prog 220 #[.agg #[.slice (some ⟨bA,off,none⟩) n c,.slice O n co,.map (some bd),.map (some bp)],.int .i64 (kk:Int)] (grow (redrawn W1 d) os) λe w''=>e = .returned (.int .i64 (typA l kk))/\∃p:Regrown,w''=grow (redrawn W1 p.d) p.os:=λd os=>Calls.regrown_of (HT.out _ (below_regrown W1 d os) kk hkn)
  have cv:∀d os,Calls Tryz.prog 216 #[.agg #[.slice (some ⟨bA,off,none⟩) n c,.slice O n co,.map (some bd),.map (some bp)],.int .i64 (p:Int)] (grow (redrawn W1 d) os) λe w''=>e = .returned (.int .i64 (vrT l p))/\∃p:Regrown,w''=grow (redrawn W1 p.d) p.os:=λd os=>Calls.regrown_of (HV.out _ (below_regrown W1 d os))
  have d0:=cell_regrown b0
  have d1:=cell_regrown b1
  have d2:=cell_regrown b2
  have d3:=cell_regrown b3
  have m4:=cell_regrown n4
  clear HV HT HA HS HP HQ HR2 HLC HCL HKR HF HXI HU HLN HXL hu hR ekd etx enn epl eks
  clear hks hkz hkn hml hbk hck hkc hkk hm1
  generalize typA l kk=ty at *
  generalize vrT l p=vt at *
  go_enter Tryz.func186,Tryz.ntmps186
  go_wp2
  refine wp_region_quiet_below (by kernel_rfl) (by kernel_rfl) ?_
  repeat (go_big_quiet_step (first|exact ck _ _ |exact cv _ _))
  refine wpQuiet_nil ?_
  intro _ hw'
  obtain⟨⟨dq,osq⟩,hw''⟩:=hw'
  subst hw''
  have hbq:=below_regrown W1 dq osq
  generalize grow (redrawn W1 dq) osq=w2 at *
  have HB2:=hid hbq
  clear hbq ck cv
  go_wp2
  go_ret
  exact⟨congrArg (λz=>Ending.returned (Value.bool z)) HR.out,bt HB1.out HB2.out⟩
 have f7:(k==7)=false:=beq_eq_false_iff_ne.2 k7
 rw[if_neg k7]at hR
 by_cases k9:k=9
 ·subst k9
  have HR:=hid (show(vrT l p != 1)=R by rw[hR,if_pos (by decide),Bool.eq_iff_iff];simp)
  have HCC:=hid (HV.out _ (Below.refl _ _))
  clear HV HT HA HS HP HQ HR2 HLC HCL HKR HF HXI HU HLN HXL hu hR ekd etx enn epl eks
  generalize vrT l p=vt at *
  go_enter Tryz.func186,Tryz.ntmps186
  go_wp2_with (go_at_call 216;refine HCC.out.mono ?_)
  rintro e w2 ⟨rfl,hb2⟩
  have HB2:=hid hb2
  clear hb2
  go_wp2
  go_ret
  exact⟨congrArg (λz=>Ending.returned (Value.bool z)) HR.out,bt HB1.out HB2.out⟩
 have f9:(k==9)=false:=beq_eq_false_iff_ne.2 k9
 by_cases k16:k=16
 ·subst k16
  have HR:=hid (show(vrT l p != 1)=R by rw[hR,if_pos (by decide),Bool.eq_iff_iff];simp)
  have HCC:=hid (HV.out _ (Below.refl _ _))
  clear HV HT HA HS HP HQ HR2 HLC HCL HKR HF HXI HU HLN HXL hu hR ekd etx enn epl eks
  generalize vrT l p=vt at *
  go_enter Tryz.func186,Tryz.ntmps186
  go_wp2_with (go_at_call 216;refine HCC.out.mono ?_)
  rintro e w2 ⟨rfl,hb2⟩
  have HB2:=hid hb2
  clear hb2
  go_wp2
  go_ret
  exact⟨congrArg (λz=>Ending.returned (Value.bool z)) HR.out,bt HB1.out HB2.out⟩
 have f16:(k==16)=false:=beq_eq_false_iff_ne.2 k16
 rw[if_neg (by omega)]at hR
 by_cases k10:k=10
 ·subst k10
  obtain⟨kz0,kz,kr,hks⟩:=HF.out.two (by omega)
  have hkz:=HKR.out kz (by rw[hks];simp)
  obtain⟨kk,rfl⟩:∃kk:Nat,kz=(kk:Int):=⟨kz.toNat,by omega⟩
  have hkn:kk<n:=by omega
  have hml:1<(ndA l p).ks.length:=by rw[hks];simp
  obtain⟨bk,ok,rfl,hbk,hck⟩:=HXI.out _ (Below.refl _ _) (Nat.lt_of_le_of_lt (Nat.zero_le _) hml)
  have hkc:W1.cell? ⟨bk,ok+1,none⟩=some (.int .i64 (kk:Int)):=by have t:=hck 1 hml;simp only[hks]at t;exact t
  have hkk:kidA l p 1=(kk:Int):=by unfold kidA;rw[hks];rfl
  have hmz:(1:Int)<(m:Int):=by rw[<- eks];exact Int.ofNat_lt.2 hml
  have hm1:((m:Nat):Int)=(m:Int):=rfl
  have hkr:=cell_regrown hkc
  have HR:=hid (show(typA l kk != 1)=R by rw[hR,if_pos rfl,hkk,Int.toNat_natCast,Bool.eq_iff_iff];simp)
  have ck:∀d os,Calls Tryz.prog 220 #[.agg #[.slice (some ⟨bA,off,none⟩) n c,.slice O n co,.map (some bd),.map (some bp)],.int .i64 (kk:Int)] (grow (redrawn W1 d) os) λe w''=>e = .returned (.int .i64 (typA l kk))/\∃p:Regrown,w''=grow (redrawn W1 p.d) p.os:=λd os=>Calls.regrown_of (HT.out _ (below_regrown W1 d os) kk hkn)
  have d0:=cell_regrown b0
  have d1:=cell_regrown b1
  have d2:=cell_regrown b2
  have d3:=cell_regrown b3
  have m4:=cell_regrown n4
  clear HV HT HA HS HP HQ HR2 HLC HCL HKR HF HXI HU HLN HXL hu hR ekd etx enn epl eks
  clear hks hkz hkn hml hbk hck hkc hkk hm1
  generalize typA l kk=ty at *
  go_enter Tryz.func186,Tryz.ntmps186
  go_wp2
  refine wp_region_quiet_below (by kernel_rfl) (by kernel_rfl) ?_
  repeat (go_big_quiet_step (first|exact ck _ _))
  refine wpQuiet_nil ?_
  intro _ hw'
  obtain⟨⟨dq,osq⟩,hw''⟩:=hw'
  subst hw''
  have hbq:=below_regrown W1 dq osq
  generalize grow (redrawn W1 dq) osq=w2 at *
  have HB2:=hid hbq
  clear hbq ck
  go_wp2
  go_ret
  exact⟨congrArg (λz=>Ending.returned (Value.bool z)) HR.out,bt HB1.out HB2.out⟩
 have f10:(k==10)=false:=beq_eq_false_iff_ne.2 k10
 rw[if_neg k10]at hR
 by_cases k15:k=15
 ·subst k15
  obtain⟨kz,kr,hks⟩:=HF.out.one (by omega)
  have hkz:=HKR.out kz (by rw[hks];simp)
  obtain⟨kk,rfl⟩:∃kk:Nat,kz=(kk:Int):=⟨kz.toNat,by omega⟩
  have hkn:kk<n:=by omega
  have hml:0<(ndA l p).ks.length:=by rw[hks];simp
  obtain⟨bk,ok,rfl,hbk,hck⟩:=HXI.out _ (Below.refl _ _) (Nat.lt_of_le_of_lt (Nat.zero_le _) hml)
  have hkc:W1.cell? ⟨bk,ok,none⟩=some (.int .i64 (kk:Int)):=by have t:=hck 0 hml;simp only[hks]at t;exact t
  have hkk:kidA l p 0=(kk:Int):=kidA_0 hks
  have hmz:(0:Int)<(m:Int):=by rw[<- eks];exact Int.ofNat_lt.2 hml
  have hm1:((m:Nat):Int)=(m:Int):=rfl
  have hkr:=cell_regrown hkc
  have HR:=hid (show(typA l kk != 1)=R by rw[hR,if_pos rfl,hkk,Int.toNat_natCast,Bool.eq_iff_iff];simp)
  have ck:∀d os,Calls Tryz.prog 220 #[.agg #[.slice (some ⟨bA,off,none⟩) n c,.slice O n co,.map (some bd),.map (some bp)],.int .i64 (kk:Int)] (grow (redrawn W1 d) os) λe w''=>e = .returned (.int .i64 (typA l kk))/\∃p:Regrown,w''=grow (redrawn W1 p.d) p.os:=λd os=>Calls.regrown_of (HT.out _ (below_regrown W1 d os) kk hkn)
  have d0:=cell_regrown b0
  have d1:=cell_regrown b1
  have d2:=cell_regrown b2
  have d3:=cell_regrown b3
  have m4:=cell_regrown n4
  clear HV HT HA HS HP HQ HR2 HLC HCL HKR HF HXI HU HLN HXL hu hR ekd etx enn epl eks
  clear hks hkz hkn hml hbk hck hkc hkk hm1
  generalize typA l kk=ty at *
  go_enter Tryz.func186,Tryz.ntmps186
  go_wp2
  refine wp_region_quiet_below (by kernel_rfl) (by kernel_rfl) ?_
  repeat (go_big_quiet_step (first|exact ck _ _))
  refine wpQuiet_nil ?_
  intro _ hw'
  obtain⟨⟨dq,osq⟩,hw''⟩:=hw'
  subst hw''
  have hbq:=below_regrown W1 dq osq
  generalize grow (redrawn W1 dq) osq=w2 at *
  have HB2:=hid hbq
  clear hbq ck
  go_wp2
  go_ret
  exact⟨congrArg (λz=>Ending.returned (Value.bool z)) HR.out,bt HB1.out HB2.out⟩
 have f15:(k==15)=false:=beq_eq_false_iff_ne.2 k15
 rw[if_neg k15]at hR
 by_cases k11:k=11
 ·subst k11
  obtain⟨kz,kr,hks⟩:=HF.out.one (by omega)
  have hkz:=HKR.out kz (by rw[hks];simp)
  obtain⟨kk,rfl⟩:∃kk:Nat,kz=(kk:Int):=⟨kz.toNat,by omega⟩
  have hkn:kk<n:=by omega
  have hml:0<(ndA l p).ks.length:=by rw[hks];simp
  obtain⟨bk,ok,rfl,hbk,hck⟩:=HXI.out _ (Below.refl _ _) (Nat.lt_of_le_of_lt (Nat.zero_le _) hml)
  have hkc:W1.cell? ⟨bk,ok,none⟩=some (.int .i64 (kk:Int)):=by have t:=hck 0 hml;simp only[hks]at t;exact t
  have hkk:kidA l p 0=(kk:Int):=kidA_0 hks
  have hmz:(0:Int)<(m:Int):=by rw[<- eks];exact Int.ofNat_lt.2 hml
  have hm1:((m:Nat):Int)=(m:Int):=rfl
  have hkr:=cell_regrown hkc
  have HR:=hid (show(typA l kk != 2)=R by rw[hR,if_pos (by decide),hkk,Int.toNat_natCast,Bool.eq_iff_iff];simp)
  have ck:∀d os,Calls Tryz.prog 220 #[.agg #[.slice (some ⟨bA,off,none⟩) n c,.slice O n co,.map (some bd),.map (some bp)],.int .i64 (kk:Int)] (grow (redrawn W1 d) os) λe w''=>e = .returned (.int .i64 (typA l kk))/\∃p:Regrown,w''=grow (redrawn W1 p.d) p.os:=λd os=>Calls.regrown_of (HT.out _ (below_regrown W1 d os) kk hkn)
  have d0:=cell_regrown b0
  have d1:=cell_regrown b1
  have d2:=cell_regrown b2
  have d3:=cell_regrown b3
  have m4:=cell_regrown n4
  clear HV HT HA HS HP HQ HR2 HLC HCL HKR HF HXI HU HLN HXL hu hR ekd etx enn epl eks
  clear hks hkz hkn hml hbk hck hkc hkk hm1
  generalize typA l kk=ty at *
  go_enter Tryz.func186,Tryz.ntmps186
  go_wp2
  refine wp_region_quiet_below (by kernel_rfl) (by kernel_rfl) ?_
  repeat (go_big_quiet_step (first|exact ck _ _))
  refine wpQuiet_nil ?_
  intro _ hw'
  obtain⟨⟨dq,osq⟩,hw''⟩:=hw'
  subst hw''
  have hbq:=below_regrown W1 dq osq
  generalize grow (redrawn W1 dq) osq=w2 at *
  have HB2:=hid hbq
  clear hbq ck
  go_wp2
  go_ret
  exact⟨congrArg (λz=>Ending.returned (Value.bool z)) HR.out,bt HB1.out HB2.out⟩
 have f11:(k==11)=false:=beq_eq_false_iff_ne.2 k11
 by_cases k12:k=12
 ·subst k12
  obtain⟨kz,kr,hks⟩:=HF.out.one (by omega)
  have hkz:=HKR.out kz (by rw[hks];simp)
  obtain⟨kk,rfl⟩:∃kk:Nat,kz=(kk:Int):=⟨kz.toNat,by omega⟩
  have hkn:kk<n:=by omega
  have hml:0<(ndA l p).ks.length:=by rw[hks];simp
  obtain⟨bk,ok,rfl,hbk,hck⟩:=HXI.out _ (Below.refl _ _) (Nat.lt_of_le_of_lt (Nat.zero_le _) hml)
  have hkc:W1.cell? ⟨bk,ok,none⟩=some (.int .i64 (kk:Int)):=by have t:=hck 0 hml;simp only[hks]at t;exact t
  have hkk:kidA l p 0=(kk:Int):=kidA_0 hks
  have hmz:(0:Int)<(m:Int):=by rw[<- eks];exact Int.ofNat_lt.2 hml
  have hm1:((m:Nat):Int)=(m:Int):=rfl
  have hkr:=cell_regrown hkc
  have HR:=hid (show(typA l kk != 2)=R by rw[hR,if_pos (by decide),hkk,Int.toNat_natCast,Bool.eq_iff_iff];simp)
  have ck:∀d os,Calls Tryz.prog 220 #[.agg #[.slice (some ⟨bA,off,none⟩) n c,.slice O n co,.map (some bd),.map (some bp)],.int .i64 (kk:Int)] (grow (redrawn W1 d) os) λe w''=>e = .returned (.int .i64 (typA l kk))/\∃p:Regrown,w''=grow (redrawn W1 p.d) p.os:=λd os=>Calls.regrown_of (HT.out _ (below_regrown W1 d os) kk hkn)
  have d0:=cell_regrown b0
  have d1:=cell_regrown b1
  have d2:=cell_regrown b2
  have d3:=cell_regrown b3
  have m4:=cell_regrown n4
  clear HV HT HA HS HP HQ HR2 HLC HCL HKR HF HXI HU HLN HXL hu hR ekd etx enn epl eks
  clear hks hkz hkn hml hbk hck hkc hkk hm1
  generalize typA l kk=ty at *
  go_enter Tryz.func186,Tryz.ntmps186
  go_wp2
  refine wp_region_quiet_below (by kernel_rfl) (by kernel_rfl) ?_
  repeat (go_big_quiet_step (first|exact ck _ _))
  refine wpQuiet_nil ?_
  intro _ hw'
  obtain⟨⟨dq,osq⟩,hw''⟩:=hw'
  subst hw''
  have hbq:=below_regrown W1 dq osq
  generalize grow (redrawn W1 dq) osq=w2 at *
  have HB2:=hid hbq
  clear hbq ck
  go_wp2
  go_ret
  exact⟨congrArg (λz=>Ending.returned (Value.bool z)) HR.out,bt HB1.out HB2.out⟩
 have f12:(k==12)=false:=beq_eq_false_iff_ne.2 k12
 rw[if_neg (by omega)]at hR
 by_cases k13:k=13
 ·subst k13
  obtain⟨kz,kr,hks⟩:=HF.out.one (by omega)
  have hkz:=HKR.out kz (by rw[hks];simp)
  obtain⟨kk,rfl⟩:∃kk:Nat,kz=(kk:Int):=⟨kz.toNat,by omega⟩
  have hkn:kk<n:=by omega
  have hun:dnA l p (calN l p)≠none\/prF l (calN l p) 0≠none:=by
   rw[if_neg (by decide),if_neg (by decide),if_pos rfl]at hu
   cases h1:dnA l p (calN l p) with
   |some d=>exact Or.inl (by simp)
   |none=>
    cases h2:prF l (calN l p) 0 with
    |some d=>exact Or.inr (by simp)
    |none=>rw[h1,h2]at hu;simp at hu
  have HCC:=hid (HCL.out kk kr hks hkn rfl hun)
  have HR:=hid (show(!(fitC l p))=R by rw[hR,if_pos rfl])
  clear HV HT HA HS HP HQ HR2 HLC HCL HKR HF HXI HU HLN HXL hu hR ekd etx enn epl eks
  clear hks hkz hkn hun
  generalize fitC l p=ar at *
  go_enter Tryz.func186,Tryz.ntmps186
  go_wp2_with (go_at_call 221;refine HCC.out.mono ?_)
  rintro e w2 ⟨rfl,hb2⟩
  have HB2:=hid hb2
  clear hb2
  go_wp2
  go_ret
  exact⟨congrArg (λz=>Ending.returned (Value.bool z)) HR.out,bt HB1.out HB2.out⟩
 have f13:(k==13)=false:=beq_eq_false_iff_ne.2 k13
 rw[if_neg k13]at hR
 by_cases k14:k=14
 ·subst k14
  obtain⟨mo,hmo,hml⟩:=HF.out.own (by omega)
  have HCC:=hid (HR2.out mo hmo (by rw[HLN.out];exact hml))
  have HR:=hid (show(!(fitR l p))=R by rw[hR,if_pos rfl])
  clear HV HT HA HS HP HQ HR2 HLC HCL HKR HF HXI HU HLN HXL hu hR ekd etx enn epl eks
  clear hmo hml
  generalize fitR l p=ar at *
  go_enter Tryz.func186,Tryz.ntmps186
  go_wp2_with (go_at_call 222;refine HCC.out.mono ?_)
  rintro e w2 ⟨rfl,hb2⟩
  have HB2:=hid hb2
  clear hb2
  go_wp2
  go_ret
  exact⟨congrArg (λz=>Ending.returned (Value.bool z)) HR.out,bt HB1.out HB2.out⟩
 have f14:(k==14)=false:=beq_eq_false_iff_ne.2 k14
 rw[if_neg k14]at hR
 have HR:=hid hR.symm
 clear HV HT HA HS HP HQ HR2 HLC HCL HKR HF HXI HU HLN HXL hu hR ekd etx enn epl eks
 clear k23 k24 k8 k17 k25 k26 k27 k7 k9 k16 k10 k15 k11 k12 k13 k14
 go_enter Tryz.func186,Tryz.ntmps186
 go_wp2
 go_ret
 exact⟨congrArg (λz=>Ending.returned (Value.bool z)) HR.out,HB1.out⟩
end
end Go.Proofs.YtedkgofehbecmaaGreatDoor
