/- PROVED: Co Cq Cz. No more condition. -/
import Derived.Test.YteecfjhjllajlaaGreatDoorI33
set_option maxHeartbeats 8000000
set_option maxRecDepth 100000
namespace Go.Proofs.YteecfjhjllajlaaGreatDoor
open Go Go.RowKit
section
open Go Go.RowKit Go.Sort
open Tr (Bx heap1 bt Nds Ints VPost BPost)
section
variable {w:World} {l:List Tr.Nd} {A O:Option Addr} {n bd bp:Nat}
theorem isMistyped_any (h:Prg w l A n O bd bp)(hcp:Caps w A l)(c co p:Nat)(hp:p<n)(hF:NdF l p)(hu:unkB l p=false):Calls Tryz.prog 144 #[PrV A n c O co bd bp,.int .i64 (p:Int)] w (BPost (misB l p) w):=by
 unfold PrV
 have hb0:=heap1 w (.cells #[.slice A n c,.slice O n co,.map (some bd),.map (some bp)] 83)
 have xl:p<l.length:=by rw[← h.len];exact hp
 have xz:(p:Int)<(n:Int):=by omega
 obtain⟨bA,off,K,cK,rfl,xt,x0,x1,x2,x3,x4,xI⟩:=node_at h.nds hb0 p xl
 rw[← ndA_eq xl]at x0 x1 x2 x3 x4 xI
 have hb1:=bt hb0 (heap1 (w.alloc (.cells #[.slice (some ⟨bA,off,none⟩) n c,.slice O n co,.map (some bd),.map (some bp)] 83)) (.cells #[.int .i64 (ndA l p).kd,.int .i64 (ndA l p).n,.int .i64 (ndA l p).pl,.string (ndA l p).tx,.slice K (ndA l p).ks.length cK] 37))
 have hX:=(Bx.new w 83 [.slice (some ⟨bA,off,none⟩) n c,.slice O n co,.map (some bd),.map (some bp)]).alloc (.cells #[.int .i64 (ndA l p).kd,.int .i64 (ndA l p).n,.int .i64 (ndA l p).pl,.string (ndA l p).tx,.slice K (ndA l p).ks.length cK] 37)
 have hN:=Bx.new (w.alloc (.cells #[.slice (some ⟨bA,off,none⟩) n c,.slice O n co,.map (some bd),.map (some bp)] 83)) 37 [.int .i64 (ndA l p).kd,.int .i64 (ndA l p).n,.int .i64 (ndA l p).pl,.string (ndA l p).tx,.slice K (ndA l p).ks.length cK]
 have hs1:(w.alloc (.cells #[.slice (some ⟨bA,off,none⟩) n c,.slice O n co,.map (some bd),.map (some bp)] 83)).heap.size=w.heap.size+1:=by rw[World.size_alloc]
 rw[hs1]at hN
 have htx:=h.text _ (List.getElem_mem xl)
 rw[← ndA_eq xl]at htx
 obtain⟨W1,hW1⟩:∃W1,(w.alloc (.cells #[.slice (some ⟨bA,off,none⟩) n c,.slice O n co,.map (some bd),.map (some bp)] 83)).alloc (.cells #[.int .i64 (ndA l p).kd,.int .i64 (ndA l p).n,.int .i64 (ndA l p).pl,.string (ndA l p).tx,.slice K (ndA l p).ks.length cK] 37)=W1:=⟨_,rfl⟩
 rw[hW1]at hb1 hX hN
 have HB1:=Lib.hid hb1
 have HX:=Lib.hid (And.intro hX hN)
 have HV:=Lib.hid (λW (hb:Below W1.heap.size W1 W)=>variable_any (h.below (bt hb1 hb)) c co p hp)
 have HT:=Lib.hid (λW (hb:Below W1.heap.size W1 W) (k:Nat) (hk:k<n)=>typeE_any (h.below (bt hb1 hb)) c co k hk)
 have HA:=Lib.hid (λW (hb:Below W1.heap.size W1 W)=>areAll_any (h.below (bt hb1 hb)) c co K (ndA l p).ks.length cK (ndA l p).ks 1 (xI.below (bt hb1 hb)) rfl (h.kr hp) (h.kl hp))
 have HS:=Lib.hid (fitsSign_any (h.below hb1) c co p hp K (ndA l p).ks.length cK (xI.below hb1) rfl)
 have HP:=Lib.hid (λW (hb:Below W1.heap.size W1 W)=>procedure_any (h.below (bt hb1 hb)) c co (ndA l p).tx htx)
 have HQ:=Lib.hid (λW (hb:Below W1.heap.size W1 W) (q:Nat) (hq:q<n)=>isPlain_any (h.below (bt hb1 hb)) c co q hq)
 have HR2:=Lib.hid (λ(m:Nat) (how:owA l p=(m:Int)) (hm:m<n)=>fitsReturn_any (h.below hb1) c co p m hp how hm)
 have HLC:=Lib.hid (show∀q,prF l (ndA l p).tx 0=some q→q<n from λq hq=>by rw[h.len];exact(prF_lt hq).1)
 have HCL:=Lib.hid (λ(k:Nat) ks (hks:(ndA l p).ks=(k:Int) :: ks) (hk:k<n) (hkd:(ndA l p).kd=13) (hun:dnA l p (calN l p)≠none∨prF l (calN l p) 0≠none)=>fitsCall_any (h.below hb1) (hcp.below h.nds hb1) c co p k hp hkd ks hks hk hun)
 have HLN:=Lib.hid h.len
 have HKR:=Lib.hid (h.kr hp)
 have HF:=Lib.hid hF
 have HXI:=Lib.hid (λW (hb:Below W1.heap.size W1 W)=>xI.below (bt hb1 hb))
 unfold PrV at HV HT HA HS HP HQ HR2 HCL
 obtain⟨R,hR⟩:∃R,R=misB l p:=⟨_,rfl⟩
 rw[← hR]
 unfold misB at hR
 have HU:=Lib.hid hu
 unfold unkB at hu
 clear h hcp hb0 hb1 hX hN xI hp htx hF hs1
 have HXL:=Lib.hid xl
 clear xl
 generalize ekd:(ndA l (p:Int)).kd=k at *
 generalize etx:(ndA l (p:Int)).tx=tx at *
 generalize enn:(ndA l (p:Int)).n=nn at *
 generalize epl:(ndA l (p:Int)).pl=pl at *
 generalize eks:(ndA l (p:Int)).ks.length=m at *
 have b0:=(HX.out.1.cell 0).trans rfl
 have b1:=(HX.out.1.cell 1).trans rfl
 have b2:=(HX.out.1.cell 2).trans rfl
 have b3:=(HX.out.1.cell 3).trans rfl
 have n0:=(HX.out.2.cell 0).trans rfl
 have n1:=(HX.out.2.cell 1).trans rfl
 have n2:=(HX.out.2.cell 2).trans rfl
 have n3:=(HX.out.2.cell 3).trans rfl
 have n4:=(HX.out.2.cell 4).trans rfl
 by_cases k23:k=23
 ·subst k23
  have hR2:R=(!decide (vrT l p=3) || !(areB l (ndA l p).ks 1)):=by rw[hR,if_pos (by decide)]
  have HVC:=Lib.hid (HV.out _ (Below.refl _ _))
  clear HV HT HS HP HQ HR2 HLC HCL HKR HF HXI HU HLN HXL hu hR ekd etx enn epl eks
  generalize vrT l p=vt at *
  by_cases hv:vt=3
  ·subst hv
   have HR:=Lib.hid (show(!(areB l (ndA l p).ks 1))=R by rw[hR2];simp)
   clear hR2
   generalize areB l (ndA l p).ks 1=ar at *
   go_enter Tryz.func144,Tryz.ntmps144
   go_wp2_with (go_at_call 154;refine HVC.out.mono ?_)
   rintro e w2 ⟨rfl,hb2⟩
   have HB2:=Lib.hid hb2
   have HAC:=Lib.hid (HA.out _ hb2)
   have hBa:=HX.out.1.below hb2 HX.out.1.lt
   have hNa:=HX.out.2.below hb2 HX.out.2.lt
   have c0:=(hBa.cell 0).trans rfl
   have c1:=(hBa.cell 1).trans rfl
   have c2:=(hBa.cell 2).trans rfl
   have c3:=(hBa.cell 3).trans rfl
   have cn4:=(hNa.cell 4).trans rfl
   clear hBa hNa
   clear hb2
   go_wp2_with (go_at_call 219;refine HAC.out.mono ?_)
   rintro e w3 ⟨rfl,hb3⟩
   have HB3:=Lib.hid (bt HB2.out hb3)
   clear hb3
   go_wp2
   go_ret
   exact⟨congrArg (λz=>Ending.returned (Value.bool z)) HR.out,bt HB1.out HB3.out⟩
  ·have hvz:(vt != 3)=true:=by simp[hv]
   have HR:=Lib.hid (show true=R by rw[hR2];simp[hv])
   clear hR2 hv
   go_enter Tryz.func144,Tryz.ntmps144
   go_wp2_with (go_at_call 154;refine HVC.out.mono ?_)
   rintro e w2 ⟨rfl,hb2⟩
   have HB2:=Lib.hid hb2
   clear hb2
   go_wp2
   go_ret
   exact⟨congrArg (λz=>Ending.returned (Value.bool z)) HR.out,bt HB1.out HB2.out⟩
 have f23:(k==23)=false:=beq_eq_false_iff_ne.2 k23
 by_cases k24:k=24
 ·subst k24
  have hR2:R=(!decide (vrT l p=3) || !(areB l (ndA l p).ks 1)):=by rw[hR,if_pos (by decide)]
  have HVC:=Lib.hid (HV.out _ (Below.refl _ _))
  clear HV HT HS HP HQ HR2 HLC HCL HKR HF HXI HU HLN HXL hu hR ekd etx enn epl eks
  generalize vrT l p=vt at *
  by_cases hv:vt=3
  ·subst hv
   have HR:=Lib.hid (show(!(areB l (ndA l p).ks 1))=R by rw[hR2];simp)
   clear hR2
   generalize areB l (ndA l p).ks 1=ar at *
   go_enter Tryz.func144,Tryz.ntmps144
   go_wp2_with (go_at_call 154;refine HVC.out.mono ?_)
   rintro e w2 ⟨rfl,hb2⟩
   have HB2:=Lib.hid hb2
   have HAC:=Lib.hid (HA.out _ hb2)
   have hBa:=HX.out.1.below hb2 HX.out.1.lt
   have hNa:=HX.out.2.below hb2 HX.out.2.lt
   have c0:=(hBa.cell 0).trans rfl
   have c1:=(hBa.cell 1).trans rfl
   have c2:=(hBa.cell 2).trans rfl
   have c3:=(hBa.cell 3).trans rfl
   have cn4:=(hNa.cell 4).trans rfl
   clear hBa hNa
   clear hb2
   go_wp2_with (go_at_call 219;refine HAC.out.mono ?_)
   rintro e w3 ⟨rfl,hb3⟩
   have HB3:=Lib.hid (bt HB2.out hb3)
   clear hb3
   go_wp2
   go_ret
   exact⟨congrArg (λz=>Ending.returned (Value.bool z)) HR.out,bt HB1.out HB3.out⟩
  ·have hvz:(vt != 3)=true:=by simp[hv]
   have HR:=Lib.hid (show true=R by rw[hR2];simp[hv])
   clear hR2 hv
   go_enter Tryz.func144,Tryz.ntmps144
   go_wp2_with (go_at_call 154;refine HVC.out.mono ?_)
   rintro e w2 ⟨rfl,hb2⟩
   have HB2:=Lib.hid hb2
   clear hb2
   go_wp2
   go_ret
   exact⟨congrArg (λz=>Ending.returned (Value.bool z)) HR.out,bt HB1.out HB2.out⟩
 have f24:(k==24)=false:=beq_eq_false_iff_ne.2 k24
 by_cases k8:k=8
 ·subst k8
  have hR2:R=(!decide (vrT l p=3) || !(areB l (ndA l p).ks 1)):=by rw[hR,if_pos (by decide)]
  have HVC:=Lib.hid (HV.out _ (Below.refl _ _))
  clear HV HT HS HP HQ HR2 HLC HCL HKR HF HXI HU HLN HXL hu hR ekd etx enn epl eks
  generalize vrT l p=vt at *
  by_cases hv:vt=3
  ·subst hv
   have HR:=Lib.hid (show(!(areB l (ndA l p).ks 1))=R by rw[hR2];simp)
   clear hR2
   generalize areB l (ndA l p).ks 1=ar at *
   go_enter Tryz.func144,Tryz.ntmps144
   go_wp2_with (go_at_call 154;refine HVC.out.mono ?_)
   rintro e w2 ⟨rfl,hb2⟩
   have HB2:=Lib.hid hb2
   have HAC:=Lib.hid (HA.out _ hb2)
   have hBa:=HX.out.1.below hb2 HX.out.1.lt
   have hNa:=HX.out.2.below hb2 HX.out.2.lt
   have c0:=(hBa.cell 0).trans rfl
   have c1:=(hBa.cell 1).trans rfl
   have c2:=(hBa.cell 2).trans rfl
   have c3:=(hBa.cell 3).trans rfl
   have cn4:=(hNa.cell 4).trans rfl
   clear hBa hNa
   clear hb2
   go_wp2_with (go_at_call 219;refine HAC.out.mono ?_)
   rintro e w3 ⟨rfl,hb3⟩
   have HB3:=Lib.hid (bt HB2.out hb3)
   clear hb3
   go_wp2
   go_ret
   exact⟨congrArg (λz=>Ending.returned (Value.bool z)) HR.out,bt HB1.out HB3.out⟩
  ·have hvz:(vt != 3)=true:=by simp[hv]
   have HR:=Lib.hid (show true=R by rw[hR2];simp[hv])
   clear hR2 hv
   go_enter Tryz.func144,Tryz.ntmps144
   go_wp2_with (go_at_call 154;refine HVC.out.mono ?_)
   rintro e w2 ⟨rfl,hb2⟩
   have HB2:=Lib.hid hb2
   clear hb2
   go_wp2
   go_ret
   exact⟨congrArg (λz=>Ending.returned (Value.bool z)) HR.out,bt HB1.out HB2.out⟩
 have f8:(k==8)=false:=beq_eq_false_iff_ne.2 k8
 by_cases k17:k=17
 ·subst k17
  have hR2:R=(!decide (vrT l p=3) || !(areB l (ndA l p).ks 1)):=by rw[hR,if_pos (by decide)]
  have HVC:=Lib.hid (HV.out _ (Below.refl _ _))
  clear HV HT HS HP HQ HR2 HLC HCL HKR HF HXI HU HLN HXL hu hR ekd etx enn epl eks
  generalize vrT l p=vt at *
  by_cases hv:vt=3
  ·subst hv
   have HR:=Lib.hid (show(!(areB l (ndA l p).ks 1))=R by rw[hR2];simp)
   clear hR2
   generalize areB l (ndA l p).ks 1=ar at *
   go_enter Tryz.func144,Tryz.ntmps144
   go_wp2_with (go_at_call 154;refine HVC.out.mono ?_)
   rintro e w2 ⟨rfl,hb2⟩
   have HB2:=Lib.hid hb2
   have HAC:=Lib.hid (HA.out _ hb2)
   have hBa:=HX.out.1.below hb2 HX.out.1.lt
   have hNa:=HX.out.2.below hb2 HX.out.2.lt
   have c0:=(hBa.cell 0).trans rfl
   have c1:=(hBa.cell 1).trans rfl
   have c2:=(hBa.cell 2).trans rfl
   have c3:=(hBa.cell 3).trans rfl
   have cn4:=(hNa.cell 4).trans rfl
   clear hBa hNa
   clear hb2
   go_wp2_with (go_at_call 219;refine HAC.out.mono ?_)
   rintro e w3 ⟨rfl,hb3⟩
   have HB3:=Lib.hid (bt HB2.out hb3)
   clear hb3
   go_wp2
   go_ret
   exact⟨congrArg (λz=>Ending.returned (Value.bool z)) HR.out,bt HB1.out HB3.out⟩
  ·have hvz:(vt != 3)=true:=by simp[hv]
   have HR:=Lib.hid (show true=R by rw[hR2];simp[hv])
   clear hR2 hv
   go_enter Tryz.func144,Tryz.ntmps144
   go_wp2_with (go_at_call 154;refine HVC.out.mono ?_)
   rintro e w2 ⟨rfl,hb2⟩
   have HB2:=Lib.hid hb2
   clear hb2
   go_wp2
   go_ret
   exact⟨congrArg (λz=>Ending.returned (Value.bool z)) HR.out,bt HB1.out HB2.out⟩
 have f17:(k==17)=false:=beq_eq_false_iff_ne.2 k17
 rw[if_neg (by omega)]at hR
 by_cases k25:k=25
 ·subst k25
  rw[if_pos rfl]at hR
  rw[if_neg (by decide),if_pos rfl]at hu
  cases hq:prF l tx 0 with
  |none=>rw[hq]at hu;cases hu
  |some q=>
   have hqn:=HLC.out q (by rw[← hq,← etx])
   have HR:=Lib.hid (show(!(plnB l (q:Int)))=R by rw[hR,hq];rfl)
   have c1q:∀d os,Calls Tryz.prog 91 #[.agg #[.slice (some ⟨bA,off,none⟩) n c,.slice O n co,.map (some bd),.map (some bp)],.string tx] (grow (redrawn W1 d) os) λe w''=>e = .returned (.int .i64 (q:Int))∧∃p:Regrown,w''=grow (redrawn W1 p.d) p.os:=λd os=>Calls.regrown_of (by have t:=HP.out _ (below_regrown W1 d os);rw[hq]at t;exact t)
   have c2q:∀d os,Calls Tryz.prog 92 #[.agg #[.slice (some ⟨bA,off,none⟩) n c,.slice O n co,.map (some bd),.map (some bp)],.int .i64 (q:Int)] (grow (redrawn W1 d) os) λe w''=>e = .returned (.bool (plnB l (q:Int)))∧∃p:Regrown,w''=grow (redrawn W1 p.d) p.os:=λd os=>Calls.regrown_of (HQ.out _ (below_regrown W1 d os) q hqn)
   have d0:=cell_regrown b0
   have d1:=cell_regrown b1
   have d2:=cell_regrown b2
   have d3:=cell_regrown b3
   have m3:=cell_regrown n3
   clear HV HT HA HS HP HQ HR2 HLC HCL HKR HF HXI HU HLN HXL hu hR ekd etx enn epl eks
   clear hq hqn
   generalize plnB l (q:Int)=pb at *
   go_enter Tryz.func144,Tryz.ntmps144
   go_wp2
   refine wp_region_quiet_below (by kernel_rfl) (by kernel_rfl) ?_
   repeat (go_big_quiet_step (first|exact c1q _ _ |exact c2q _ _))
   refine wpQuiet_nil ?_
   intro _ hw'
   obtain⟨⟨dq,osq⟩,hw''⟩:=hw'
   subst hw''
   have hbq:=below_regrown W1 dq osq
   generalize grow (redrawn W1 dq) osq=w2 at *
   have HB2:=Lib.hid hbq
   clear hbq c1q c2q
   go_wp2
   go_ret
   exact⟨congrArg (λz=>Ending.returned (Value.bool z)) HR.out,bt HB1.out HB2.out⟩
 have f25:(k==25)=false:=beq_eq_false_iff_ne.2 k25
 rw[if_neg k25]at hR
 by_cases k26:k=26
 ·subst k26
  have HR:=Lib.hid (show(!fitB l p)=R by rw[hR,if_pos (by decide)])
  have HCC:=Lib.hid (HS.out)
  clear HV HT HA HS HP HQ HR2 HLC HCL HKR HF HXI HU HLN HXL hu hR ekd etx enn epl eks
  generalize fitB l p=ar at *
  go_enter Tryz.func144,Tryz.ntmps144
  go_wp2_with (go_at_call 220;refine HCC.out.mono ?_)
  rintro e w2 ⟨rfl,hb2⟩
  have HB2:=Lib.hid hb2
  clear hb2
  go_wp2
  go_ret
  exact⟨congrArg (λz=>Ending.returned (Value.bool z)) HR.out,bt HB1.out HB2.out⟩
 have f26:(k==26)=false:=beq_eq_false_iff_ne.2 k26
 by_cases k27:k=27
 ·subst k27
  have HR:=Lib.hid (show(!fitB l p)=R by rw[hR,if_pos (by decide)])
  have HCC:=Lib.hid (HS.out)
  clear HV HT HA HS HP HQ HR2 HLC HCL HKR HF HXI HU HLN HXL hu hR ekd etx enn epl eks
  generalize fitB l p=ar at *
  go_enter Tryz.func144,Tryz.ntmps144
  go_wp2_with (go_at_call 220;refine HCC.out.mono ?_)
  rintro e w2 ⟨rfl,hb2⟩
  have HB2:=Lib.hid hb2
  clear hb2
  go_wp2
  go_ret
  exact⟨congrArg (λz=>Ending.returned (Value.bool z)) HR.out,bt HB1.out HB2.out⟩
 have f27:(k==27)=false:=beq_eq_false_iff_ne.2 k27
 rw[if_neg (by omega)]at hR
 by_cases k7:k=7
 ·subst k7
  obtain⟨kz,kr,hks⟩:=HF.out.one (by omega)
  have hkz:=HKR.out kz (by rw[hks];simp)
  obtain⟨kk,rfl⟩:∃kk:Nat,kz=(kk:Int):=⟨kz.toNat,by omega⟩
  have hkn:kk<n:=by omega
  have hml:0<(ndA l p).ks.length:=by rw[hks];simp
  obtain⟨bk,ok,rfl,hbk,hck⟩:=HXI.out _ (Below.refl _ _) (Nat.lt_of_le_of_lt (Nat.zero_le _) hml)
  have hkc:W1.cell? ⟨bk,ok,none⟩=some (.int .i64 (kk:Int)):=by have t:=hck 0 hml;simp only[hks]at t;exact t
  have hkk:kidA l p 0=(kk:Int):=kidA_0 hks
  have hmz:(0:Int)<(m:Int):=by rw[← eks];exact Int.ofNat_lt.2 hml
  have hm1:((m:Nat):Int)=(m:Int):=rfl
  have hkr:=cell_regrown hkc
  have HR:=Lib.hid (show(vrT l p != typA l kk)=R by rw[hR,if_pos rfl,hkk,Int.toNat_natCast,Bool.eq_iff_iff];simp)
  have ck:∀d os,Calls Tryz.prog 94 #[.agg #[.slice (some ⟨bA,off,none⟩) n c,.slice O n co,.map (some bd),.map (some bp)],.int .i64 (kk:Int)] (grow (redrawn W1 d) os) λe w''=>e = .returned (.int .i64 (typA l kk))∧∃p:Regrown,w''=grow (redrawn W1 p.d) p.os:=λd os=>Calls.regrown_of (HT.out _ (below_regrown W1 d os) kk hkn)
  have cv:∀d os,Calls Tryz.prog 154 #[.agg #[.slice (some ⟨bA,off,none⟩) n c,.slice O n co,.map (some bd),.map (some bp)],.int .i64 (p:Int)] (grow (redrawn W1 d) os) λe w''=>e = .returned (.int .i64 (vrT l p))∧∃p:Regrown,w''=grow (redrawn W1 p.d) p.os:=λd os=>Calls.regrown_of (HV.out _ (below_regrown W1 d os))
  have d0:=cell_regrown b0
  have d1:=cell_regrown b1
  have d2:=cell_regrown b2
  have d3:=cell_regrown b3
  have m4:=cell_regrown n4
  clear HV HT HA HS HP HQ HR2 HLC HCL HKR HF HXI HU HLN HXL hu hR ekd etx enn epl eks
  clear hks hkz hkn hml hbk hck hkc hkk hm1
  generalize typA l kk=ty at *
  generalize vrT l p=vt at *
  go_enter Tryz.func144,Tryz.ntmps144
  go_wp2
  refine wp_region_quiet_below (by kernel_rfl) (by kernel_rfl) ?_
  repeat (go_big_quiet_step (first|exact ck _ _ |exact cv _ _))
  refine wpQuiet_nil ?_
  intro _ hw'
  obtain⟨⟨dq,osq⟩,hw''⟩:=hw'
  subst hw''
  have hbq:=below_regrown W1 dq osq
  generalize grow (redrawn W1 dq) osq=w2 at *
  have HB2:=Lib.hid hbq
  clear hbq ck cv
  go_wp2
  go_ret
  exact⟨congrArg (λz=>Ending.returned (Value.bool z)) HR.out,bt HB1.out HB2.out⟩
 have f7:(k==7)=false:=beq_eq_false_iff_ne.2 k7
 rw[if_neg k7]at hR
 by_cases k9:k=9
 ·subst k9
  have HR:=Lib.hid (show(vrT l p != 1)=R by rw[hR,if_pos (by decide),Bool.eq_iff_iff];simp)
  have HCC:=Lib.hid (HV.out _ (Below.refl _ _))
  clear HV HT HA HS HP HQ HR2 HLC HCL HKR HF HXI HU HLN HXL hu hR ekd etx enn epl eks
  generalize vrT l p=vt at *
  go_enter Tryz.func144,Tryz.ntmps144
  go_wp2_with (go_at_call 154;refine HCC.out.mono ?_)
  rintro e w2 ⟨rfl,hb2⟩
  have HB2:=Lib.hid hb2
  clear hb2
  go_wp2
  go_ret
  exact⟨congrArg (λz=>Ending.returned (Value.bool z)) HR.out,bt HB1.out HB2.out⟩
 have f9:(k==9)=false:=beq_eq_false_iff_ne.2 k9
 by_cases k16:k=16
 ·subst k16
  have HR:=Lib.hid (show(vrT l p != 1)=R by rw[hR,if_pos (by decide),Bool.eq_iff_iff];simp)
  have HCC:=Lib.hid (HV.out _ (Below.refl _ _))
  clear HV HT HA HS HP HQ HR2 HLC HCL HKR HF HXI HU HLN HXL hu hR ekd etx enn epl eks
  generalize vrT l p=vt at *
  go_enter Tryz.func144,Tryz.ntmps144
  go_wp2_with (go_at_call 154;refine HCC.out.mono ?_)
  rintro e w2 ⟨rfl,hb2⟩
  have HB2:=Lib.hid hb2
  clear hb2
  go_wp2
  go_ret
  exact⟨congrArg (λz=>Ending.returned (Value.bool z)) HR.out,bt HB1.out HB2.out⟩
 have f16:(k==16)=false:=beq_eq_false_iff_ne.2 k16
 rw[if_neg (by omega)]at hR
 by_cases k10:k=10
 ·subst k10
  obtain⟨kz0,kz,kr,hks⟩:=HF.out.two (by omega)
  have hkz:=HKR.out kz (by rw[hks];simp)
  obtain⟨kk,rfl⟩:∃kk:Nat,kz=(kk:Int):=⟨kz.toNat,by omega⟩
  have hkn:kk<n:=by omega
  have hml:1<(ndA l p).ks.length:=by rw[hks];simp
  obtain⟨bk,ok,rfl,hbk,hck⟩:=HXI.out _ (Below.refl _ _) (Nat.lt_of_le_of_lt (Nat.zero_le _) hml)
  have hkc:W1.cell? ⟨bk,ok+1,none⟩=some (.int .i64 (kk:Int)):=by have t:=hck 1 hml;simp only[hks]at t;exact t
  have hkk:kidA l p 1=(kk:Int):=by unfold kidA;rw[hks];rfl
  have hmz:(1:Int)<(m:Int):=by rw[← eks];exact Int.ofNat_lt.2 hml
  have hm1:((m:Nat):Int)=(m:Int):=rfl
  have hkr:=cell_regrown hkc
  have HR:=Lib.hid (show(typA l kk != 1)=R by rw[hR,if_pos rfl,hkk,Int.toNat_natCast,Bool.eq_iff_iff];simp)
  have ck:∀d os,Calls Tryz.prog 94 #[.agg #[.slice (some ⟨bA,off,none⟩) n c,.slice O n co,.map (some bd),.map (some bp)],.int .i64 (kk:Int)] (grow (redrawn W1 d) os) λe w''=>e = .returned (.int .i64 (typA l kk))∧∃p:Regrown,w''=grow (redrawn W1 p.d) p.os:=λd os=>Calls.regrown_of (HT.out _ (below_regrown W1 d os) kk hkn)
  have d0:=cell_regrown b0
  have d1:=cell_regrown b1
  have d2:=cell_regrown b2
  have d3:=cell_regrown b3
  have m4:=cell_regrown n4
  clear HV HT HA HS HP HQ HR2 HLC HCL HKR HF HXI HU HLN HXL hu hR ekd etx enn epl eks
  clear hks hkz hkn hml hbk hck hkc hkk hm1
  generalize typA l kk=ty at *
  go_enter Tryz.func144,Tryz.ntmps144
  go_wp2
  refine wp_region_quiet_below (by kernel_rfl) (by kernel_rfl) ?_
  repeat (go_big_quiet_step (first|exact ck _ _))
  refine wpQuiet_nil ?_
  intro _ hw'
  obtain⟨⟨dq,osq⟩,hw''⟩:=hw'
  subst hw''
  have hbq:=below_regrown W1 dq osq
  generalize grow (redrawn W1 dq) osq=w2 at *
  have HB2:=Lib.hid hbq
  clear hbq ck
  go_wp2
  go_ret
  exact⟨congrArg (λz=>Ending.returned (Value.bool z)) HR.out,bt HB1.out HB2.out⟩
 have f10:(k==10)=false:=beq_eq_false_iff_ne.2 k10
 rw[if_neg k10]at hR
 by_cases k15:k=15
 ·subst k15
  obtain⟨kz,kr,hks⟩:=HF.out.one (by omega)
  have hkz:=HKR.out kz (by rw[hks];simp)
  obtain⟨kk,rfl⟩:∃kk:Nat,kz=(kk:Int):=⟨kz.toNat,by omega⟩
  have hkn:kk<n:=by omega
  have hml:0<(ndA l p).ks.length:=by rw[hks];simp
  obtain⟨bk,ok,rfl,hbk,hck⟩:=HXI.out _ (Below.refl _ _) (Nat.lt_of_le_of_lt (Nat.zero_le _) hml)
  have hkc:W1.cell? ⟨bk,ok,none⟩=some (.int .i64 (kk:Int)):=by have t:=hck 0 hml;simp only[hks]at t;exact t
  have hkk:kidA l p 0=(kk:Int):=kidA_0 hks
  have hmz:(0:Int)<(m:Int):=by rw[← eks];exact Int.ofNat_lt.2 hml
  have hm1:((m:Nat):Int)=(m:Int):=rfl
  have hkr:=cell_regrown hkc
  have HR:=Lib.hid (show(typA l kk != 1)=R by rw[hR,if_pos rfl,hkk,Int.toNat_natCast,Bool.eq_iff_iff];simp)
  have ck:∀d os,Calls Tryz.prog 94 #[.agg #[.slice (some ⟨bA,off,none⟩) n c,.slice O n co,.map (some bd),.map (some bp)],.int .i64 (kk:Int)] (grow (redrawn W1 d) os) λe w''=>e = .returned (.int .i64 (typA l kk))∧∃p:Regrown,w''=grow (redrawn W1 p.d) p.os:=λd os=>Calls.regrown_of (HT.out _ (below_regrown W1 d os) kk hkn)
  have d0:=cell_regrown b0
  have d1:=cell_regrown b1
  have d2:=cell_regrown b2
  have d3:=cell_regrown b3
  have m4:=cell_regrown n4
  clear HV HT HA HS HP HQ HR2 HLC HCL HKR HF HXI HU HLN HXL hu hR ekd etx enn epl eks
  clear hks hkz hkn hml hbk hck hkc hkk hm1
  generalize typA l kk=ty at *
  go_enter Tryz.func144,Tryz.ntmps144
  go_wp2
  refine wp_region_quiet_below (by kernel_rfl) (by kernel_rfl) ?_
  repeat (go_big_quiet_step (first|exact ck _ _))
  refine wpQuiet_nil ?_
  intro _ hw'
  obtain⟨⟨dq,osq⟩,hw''⟩:=hw'
  subst hw''
  have hbq:=below_regrown W1 dq osq
  generalize grow (redrawn W1 dq) osq=w2 at *
  have HB2:=Lib.hid hbq
  clear hbq ck
  go_wp2
  go_ret
  exact⟨congrArg (λz=>Ending.returned (Value.bool z)) HR.out,bt HB1.out HB2.out⟩
 have f15:(k==15)=false:=beq_eq_false_iff_ne.2 k15
 rw[if_neg k15]at hR
 by_cases k11:k=11
 ·subst k11
  obtain⟨kz,kr,hks⟩:=HF.out.one (by omega)
  have hkz:=HKR.out kz (by rw[hks];simp)
  obtain⟨kk,rfl⟩:∃kk:Nat,kz=(kk:Int):=⟨kz.toNat,by omega⟩
  have hkn:kk<n:=by omega
  have hml:0<(ndA l p).ks.length:=by rw[hks];simp
  obtain⟨bk,ok,rfl,hbk,hck⟩:=HXI.out _ (Below.refl _ _) (Nat.lt_of_le_of_lt (Nat.zero_le _) hml)
  have hkc:W1.cell? ⟨bk,ok,none⟩=some (.int .i64 (kk:Int)):=by have t:=hck 0 hml;simp only[hks]at t;exact t
  have hkk:kidA l p 0=(kk:Int):=kidA_0 hks
  have hmz:(0:Int)<(m:Int):=by rw[← eks];exact Int.ofNat_lt.2 hml
  have hm1:((m:Nat):Int)=(m:Int):=rfl
  have hkr:=cell_regrown hkc
  have HR:=Lib.hid (show(typA l kk != 2)=R by rw[hR,if_pos (by decide),hkk,Int.toNat_natCast,Bool.eq_iff_iff];simp)
  have ck:∀d os,Calls Tryz.prog 94 #[.agg #[.slice (some ⟨bA,off,none⟩) n c,.slice O n co,.map (some bd),.map (some bp)],.int .i64 (kk:Int)] (grow (redrawn W1 d) os) λe w''=>e = .returned (.int .i64 (typA l kk))∧∃p:Regrown,w''=grow (redrawn W1 p.d) p.os:=λd os=>Calls.regrown_of (HT.out _ (below_regrown W1 d os) kk hkn)
  have d0:=cell_regrown b0
  have d1:=cell_regrown b1
  have d2:=cell_regrown b2
  have d3:=cell_regrown b3
  have m4:=cell_regrown n4
  clear HV HT HA HS HP HQ HR2 HLC HCL HKR HF HXI HU HLN HXL hu hR ekd etx enn epl eks
  clear hks hkz hkn hml hbk hck hkc hkk hm1
  generalize typA l kk=ty at *
  go_enter Tryz.func144,Tryz.ntmps144
  go_wp2
  refine wp_region_quiet_below (by kernel_rfl) (by kernel_rfl) ?_
  repeat (go_big_quiet_step (first|exact ck _ _))
  refine wpQuiet_nil ?_
  intro _ hw'
  obtain⟨⟨dq,osq⟩,hw''⟩:=hw'
  subst hw''
  have hbq:=below_regrown W1 dq osq
  generalize grow (redrawn W1 dq) osq=w2 at *
  have HB2:=Lib.hid hbq
  clear hbq ck
  go_wp2
  go_ret
  exact⟨congrArg (λz=>Ending.returned (Value.bool z)) HR.out,bt HB1.out HB2.out⟩
 have f11:(k==11)=false:=beq_eq_false_iff_ne.2 k11
 by_cases k12:k=12
 ·subst k12
  obtain⟨kz,kr,hks⟩:=HF.out.one (by omega)
  have hkz:=HKR.out kz (by rw[hks];simp)
  obtain⟨kk,rfl⟩:∃kk:Nat,kz=(kk:Int):=⟨kz.toNat,by omega⟩
  have hkn:kk<n:=by omega
  have hml:0<(ndA l p).ks.length:=by rw[hks];simp
  obtain⟨bk,ok,rfl,hbk,hck⟩:=HXI.out _ (Below.refl _ _) (Nat.lt_of_le_of_lt (Nat.zero_le _) hml)
  have hkc:W1.cell? ⟨bk,ok,none⟩=some (.int .i64 (kk:Int)):=by have t:=hck 0 hml;simp only[hks]at t;exact t
  have hkk:kidA l p 0=(kk:Int):=kidA_0 hks
  have hmz:(0:Int)<(m:Int):=by rw[← eks];exact Int.ofNat_lt.2 hml
  have hm1:((m:Nat):Int)=(m:Int):=rfl
  have hkr:=cell_regrown hkc
  have HR:=Lib.hid (show(typA l kk != 2)=R by rw[hR,if_pos (by decide),hkk,Int.toNat_natCast,Bool.eq_iff_iff];simp)
  have ck:∀d os,Calls Tryz.prog 94 #[.agg #[.slice (some ⟨bA,off,none⟩) n c,.slice O n co,.map (some bd),.map (some bp)],.int .i64 (kk:Int)] (grow (redrawn W1 d) os) λe w''=>e = .returned (.int .i64 (typA l kk))∧∃p:Regrown,w''=grow (redrawn W1 p.d) p.os:=λd os=>Calls.regrown_of (HT.out _ (below_regrown W1 d os) kk hkn)
  have d0:=cell_regrown b0
  have d1:=cell_regrown b1
  have d2:=cell_regrown b2
  have d3:=cell_regrown b3
  have m4:=cell_regrown n4
  clear HV HT HA HS HP HQ HR2 HLC HCL HKR HF HXI HU HLN HXL hu hR ekd etx enn epl eks
  clear hks hkz hkn hml hbk hck hkc hkk hm1
  generalize typA l kk=ty at *
  go_enter Tryz.func144,Tryz.ntmps144
  go_wp2
  refine wp_region_quiet_below (by kernel_rfl) (by kernel_rfl) ?_
  repeat (go_big_quiet_step (first|exact ck _ _))
  refine wpQuiet_nil ?_
  intro _ hw'
  obtain⟨⟨dq,osq⟩,hw''⟩:=hw'
  subst hw''
  have hbq:=below_regrown W1 dq osq
  generalize grow (redrawn W1 dq) osq=w2 at *
  have HB2:=Lib.hid hbq
  clear hbq ck
  go_wp2
  go_ret
  exact⟨congrArg (λz=>Ending.returned (Value.bool z)) HR.out,bt HB1.out HB2.out⟩
 have f12:(k==12)=false:=beq_eq_false_iff_ne.2 k12
 rw[if_neg (by omega)]at hR
 by_cases k13:k=13
 ·subst k13
  obtain⟨kz,kr,hks⟩:=HF.out.one (by omega)
  have hkz:=HKR.out kz (by rw[hks];simp)
  obtain⟨kk,rfl⟩:∃kk:Nat,kz=(kk:Int):=⟨kz.toNat,by omega⟩
  have hkn:kk<n:=by omega
  have hun:dnA l p (calN l p)≠none∨prF l (calN l p) 0≠none:=by
   rw[if_neg (by decide),if_neg (by decide),if_pos rfl]at hu
   cases h1:dnA l p (calN l p) with
   |some d=>exact Or.inl (by simp)
   |none=>
    cases h2:prF l (calN l p) 0 with
    |some d=>exact Or.inr (by simp)
    |none=>rw[h1,h2]at hu;simp at hu
  have HCC:=Lib.hid (HCL.out kk kr hks hkn rfl hun)
  have HR:=Lib.hid (show(!(fitC l p))=R by rw[hR,if_pos rfl])
  clear HV HT HA HS HP HQ HR2 HLC HCL HKR HF HXI HU HLN HXL hu hR ekd etx enn epl eks
  clear hks hkz hkn hun
  generalize fitC l p=ar at *
  go_enter Tryz.func144,Tryz.ntmps144
  go_wp2_with (go_at_call 221;refine HCC.out.mono ?_)
  rintro e w2 ⟨rfl,hb2⟩
  have HB2:=Lib.hid hb2
  clear hb2
  go_wp2
  go_ret
  exact⟨congrArg (λz=>Ending.returned (Value.bool z)) HR.out,bt HB1.out HB2.out⟩
 have f13:(k==13)=false:=beq_eq_false_iff_ne.2 k13
 rw[if_neg k13]at hR
 by_cases k14:k=14
 ·subst k14
  obtain⟨mo,hmo,hml⟩:=HF.out.own (by omega)
  have HCC:=Lib.hid (HR2.out mo hmo (by rw[HLN.out];exact hml))
  have HR:=Lib.hid (show(!(fitR l p))=R by rw[hR,if_pos rfl])
  clear HV HT HA HS HP HQ HR2 HLC HCL HKR HF HXI HU HLN HXL hu hR ekd etx enn epl eks
  clear hmo hml
  generalize fitR l p=ar at *
  go_enter Tryz.func144,Tryz.ntmps144
  go_wp2_with (go_at_call 222;refine HCC.out.mono ?_)
  rintro e w2 ⟨rfl,hb2⟩
  have HB2:=Lib.hid hb2
  clear hb2
  go_wp2
  go_ret
  exact⟨congrArg (λz=>Ending.returned (Value.bool z)) HR.out,bt HB1.out HB2.out⟩
 have f14:(k==14)=false:=beq_eq_false_iff_ne.2 k14
 rw[if_neg k14]at hR
 have HR:=Lib.hid hR.symm
 clear HV HT HA HS HP HQ HR2 HLC HCL HKR HF HXI HU HLN HXL hu hR ekd etx enn epl eks
 clear k23 k24 k8 k17 k25 k26 k27 k7 k9 k16 k10 k15 k11 k12 k13 k14
 go_enter Tryz.func144,Tryz.ntmps144
 go_wp2
 go_ret
 exact⟨congrArg (λz=>Ending.returned (Value.bool z)) HR.out,HB1.out⟩
end
end
section
open Tr (Bx heap1 bt Nds Ints VPost BPost rgB)
section
variable {w:World} {l:List Tr.Nd} {A O:Option Addr} {n bd bp:Nat}
theorem fault_any (h:Prg w l A n O bd bp)(hcp:Caps w A l)(c co p:Nat)(hp:p<n)(hF:NdF l p):Calls Tryz.prog 82 #[PrV A n c O co bd bp,.int .i64 (p:Int)] w (Tr.IPost (fauA l p) w):=by
 unfold PrV
 have hb0:=heap1 w (.cells #[.slice A n c,.slice O n co,.map (some bd),.map (some bp)] 83)
 have hX:=Bx.new w 83 [.slice A n c,.slice O n co,.map (some bd),.map (some bp)]
 obtain⟨W0,hW0⟩:∃W0,w.alloc (.cells #[.slice A n c,.slice O n co,.map (some bd),.map (some bp)] 83)=W0:=⟨_,rfl⟩
 rw[hW0]at hb0 hX
 have HB0:=Lib.hid hb0
 have HX:=Lib.hid hX
 have b0:=(hX.cell 0).trans rfl
 have b1:=(hX.cell 1).trans rfl
 have b2:=(hX.cell 2).trans rfl
 have b3:=(hX.cell 3).trans rfl
 clear hX
 have HTK:=Lib.hid (λW (hb:Below W0.heap.size W0 W)=>isTaken_any (h.below (bt hb0 hb)) c co p hp)
 have HUK:=Lib.hid (λW (hb:Below W0.heap.size W0 W)=>isUnknown_any (h.below (bt hb0 hb)) c co p hp hF)
 have HMT:=Lib.hid (λW (hb:Below W0.heap.size W0 W) (hu:unkB l p=false)=>isMistyped_any (h.below (bt hb0 hb)) (hcp.below h.nds (bt hb0 hb)) c co p hp hF hu)
 unfold PrV at HTK HUK HMT
 unfold fauA
 clear h hcp hF hp hb0
 cases ht:takB l p with
 |true=>
  have HC1:=Lib.hid (HTK.out _ (Below.refl _ _))
  rw[ht]at HC1
  rw[if_pos rfl]
  clear HTK HUK HMT ht
  go_enter Tryz.func82,Tryz.ntmps82
  try rw[hW0]
  go_wp2_with (go_at_call 142;refine HC1.out.mono ?_)
  rintro e w1 ⟨rfl,hq1⟩
  have hb1:=hq1
  have HB1:=Lib.hid hb1
  clear hb1 hq1
  go_wp2
  go_ret
  exact⟨rfl,bt HB0.out HB1.out⟩
 |false=>
  have HC1:=Lib.hid (HTK.out _ (Below.refl _ _))
  rw[ht]at HC1
  rw[if_neg (by decide)]
  clear HTK ht
  cases hu:unkB l p with
  |true=>
   rw[if_pos rfl]
   clear HMT
   go_enter Tryz.func82,Tryz.ntmps82
   go_wp2_with (go_at_call 142;refine HC1.out.mono ?_)
   rintro e w1 ⟨rfl,hq1⟩
   have hb1:=hq1
   have HB1:=Lib.hid hb1
   have hBa:=HX.out.below hb1 HX.out.lt
   have c0:=(hBa.cell 0).trans rfl
   have c1:=(hBa.cell 1).trans rfl
   have c2:=(hBa.cell 2).trans rfl
   have c3:=(hBa.cell 3).trans rfl
   clear hBa
   have HC2:=Lib.hid (HUK.out _ hb1)
   rw[hu]at HC2
   clear hb1 hq1 hu HUK
   go_wp2_with (go_at_call 143;refine HC2.out.mono ?_)
   rintro e w2 ⟨rfl,hq2⟩
   have hb2:=bt HB1.out hq2
   have HB2:=Lib.hid hb2
   clear hb2 hq2
   go_wp2
   go_ret
   exact⟨rfl,bt HB0.out HB2.out⟩
  |false=>
   rw[if_neg (by decide)]
   cases hm:misB l p with
   |true=>
    rw[if_pos rfl]
    go_enter Tryz.func82,Tryz.ntmps82
    go_wp2_with (go_at_call 142;refine HC1.out.mono ?_)
    rintro e w1 ⟨rfl,hq1⟩
    have hb1:=hq1
    have HB1:=Lib.hid hb1
    have hBa:=HX.out.below hb1 HX.out.lt
    have c0:=(hBa.cell 0).trans rfl
    have c1:=(hBa.cell 1).trans rfl
    have c2:=(hBa.cell 2).trans rfl
    have c3:=(hBa.cell 3).trans rfl
    clear hBa
    have HC2:=Lib.hid (HUK.out _ hb1)
    rw[hu]at HC2
    clear hb1 hq1
    go_wp2_with (go_at_call 143;refine HC2.out.mono ?_)
    rintro e w2 ⟨rfl,hq2⟩
    have hb2:=bt HB1.out hq2
    have HB2:=Lib.hid hb2
    have hBa:=HX.out.below hb2 HX.out.lt
    have d0:=(hBa.cell 0).trans rfl
    have d1:=(hBa.cell 1).trans rfl
    have d2:=(hBa.cell 2).trans rfl
    have d3:=(hBa.cell 3).trans rfl
    clear hBa
    have HC3:=Lib.hid (HMT.out _ hb2 hu)
    rw[hm]at HC3
    clear hb2 hq2 hm hu HUK HMT c0 c1 c2 c3
    go_wp2_with (go_at_call 144;refine HC3.out.mono ?_)
    rintro e w3 ⟨rfl,hq3⟩
    have hb3:=bt HB2.out hq3
    have HB3:=Lib.hid hb3
    clear hb3 hq3
    go_wp2
    go_ret
    exact⟨rfl,bt HB0.out HB3.out⟩
   |false=>
    rw[if_neg (by decide)]
    go_enter Tryz.func82,Tryz.ntmps82
    go_wp2_with (go_at_call 142;refine HC1.out.mono ?_)
    rintro e w1 ⟨rfl,hq1⟩
    have hb1:=hq1
    have HB1:=Lib.hid hb1
    have hBa:=HX.out.below hb1 HX.out.lt
    have c0:=(hBa.cell 0).trans rfl
    have c1:=(hBa.cell 1).trans rfl
    have c2:=(hBa.cell 2).trans rfl
    have c3:=(hBa.cell 3).trans rfl
    clear hBa
    have HC2:=Lib.hid (HUK.out _ hb1)
    rw[hu]at HC2
    clear hb1 hq1
    go_wp2_with (go_at_call 143;refine HC2.out.mono ?_)
    rintro e w2 ⟨rfl,hq2⟩
    have hb2:=bt HB1.out hq2
    have HB2:=Lib.hid hb2
    have hBa:=HX.out.below hb2 HX.out.lt
    have d0:=(hBa.cell 0).trans rfl
    have d1:=(hBa.cell 1).trans rfl
    have d2:=(hBa.cell 2).trans rfl
    have d3:=(hBa.cell 3).trans rfl
    clear hBa
    have HC3:=Lib.hid (HMT.out _ hb2 hu)
    rw[hm]at HC3
    clear hb2 hq2 hm hu HUK HMT c0 c1 c2 c3
    go_wp2_with (go_at_call 144;refine HC3.out.mono ?_)
    rintro e w3 ⟨rfl,hq3⟩
    have hb3:=bt HB2.out hq3
    have HB3:=Lib.hid hb3
    clear hb3 hq3
    go_wp2
    go_ret
    exact⟨rfl,bt HB0.out HB3.out⟩
end
structure TT (w:World) (A:Option Addr) (n:Nat) (l:List Tr.Nd):Prop where
 nds:Nds w A l
 len:n=l.length
 kids:∀x ∈ l,x.ks.length≤4000
 text:∀x ∈ l,x.tx.size≤281474976710656
 num:∀x ∈ l,x.n≤9223372036854775807
 caps:Caps w A l
theorem TT.below {w w':World}{A:Option Addr}{n:Nat}{l:List Tr.Nd}(h:TT w A n l)(hb:Below w.heap.size w w'):TT w' A n l:=
 ⟨h.nds.below hb,h.len,h.kids,h.text,h.num,h.caps.below h.nds hb⟩
theorem TT.right {w:World}{A:Option Addr}{n:Nat}{l:List Tr.Nd}(h:TT w A n l)(c:Nat)(r:Int):Calls Tryz.prog 27 #[.agg #[.slice A n c,.int .i64 r]] w (BPost (rgB l r) w):=Tr.right_any A c n l r w h.nds h.len h.kids h.text h.num
def RPost (L:List Tr.Nd)(w:World)(e:Ending)(w':World):Prop:=
 ∃A n c O co bd bp,e = .returned (PrV A n c O co bd bp)∧Prg w' L A n O bd bp∧Caps w' A L∧Below w.heap.size w w'
theorem read_any {w:World}{A:Option Addr}{n:Nat}{l:List Tr.Nd}(h:TT w A n l)(c:Nat)(r:Int):Calls Tryz.prog 80 #[.agg #[.slice A n c,.int .i64 r]] w (RPost (eff l r) w):=by
 have HR:∀w',Below w.heap.size w w'→Calls Tryz.prog 27 #[.agg #[.slice A n c,.int .i64 r]] w' (BPost (rgB l r) w'):=λw' hb=>(h.below hb).right c r
 cases hr:rgB l r with
 |true=>
  rw[hr]at HR
  rw[eff_yes hr]
  obtain⟨⟨b,hb⟩,h4,_⟩:=rtn_of hr
  have h1:=hb.len
  have hl:=h.len
  refine callsIn_wide.1 (read_go A c n r l w h.nds h.len (by omega) (by omega) h.text HR _ (Lib.hid ?_))
  rintro e w' ⟨n',c',O,co,bd,bp,rfl,hn,hbw,hO,hd,hp⟩
  obtain rfl:n'=n:=by omega
  exact⟨A,n',c',O,co,bd,bp,rfl,⟨h.nds.below hbw,h.len,by omega,hO,hd,hp,h.kids,h.text,snd_ahead (rg_parts hr).1⟩,h.caps.below h.nds hbw,hbw⟩
 |false=>
  rw[hr]at HR
  rw[eff_no hr]
  refine callsIn_wide.1 (read_no A c n r w HR _ (Lib.hid ?_))
  rintro e w' ⟨n',c',O,co,bd,bp,rfl,hn,hbw,hO,hd,hp⟩
  exact⟨none,n',c',O,co,bd,bp,rfl,⟨λh0=>absurd h0 (Nat.lt_irrefl 0),hn,by rw[hn];exact Nat.zero_le _,hO,hd,hp,λx hx=>(by cases hx),λx hx=>(by cases hx),λp hp=>absurd hp (Nat.not_lt_zero _)⟩,λp bA off K m c hp=>absurd hp (Nat.not_lt_zero _),hbw⟩
end
section
open Tr (Bx heap1 bt Nds Ints VPost BPost rgB)
section
variable {w:World} {l:List Tr.Nd} {A:Option Addr} {n:Nat}
theorem check_any (h:TT w A n l)(c:Nat)(r:Int):Calls Tryz.prog 36 #[.agg #[.slice A n c,.int .i64 r]] w (VPost (.tuple #[.int .i64 (chkT l r).1,.int .i64 (chkT l r).2]) w):=by
 have hb0:=heap1 w (.cells #[.slice A n c,.int .i64 r] 25)
 have HB0:=Lib.hid hb0
 have HR:=Lib.hid (read_any (h.below hb0) c r)
 have HT:=Lib.hid (Bx.new w 25 [.slice A n c,.int .i64 r])
 unfold chkT
 cases hr:rgB l r with
 |false=>
  rw[eff_no hr]at HR
  rw[if_neg (by decide)]
  clear h hb0 hr
  go_enter Tryz.func36,Tryz.ntmps36
  go_wp2_with (go_at_call 80;refine HR.out.mono ?_)
  rintro e w1 ⟨A1,n1,c1,O,co,bd,bp,rfl,hP,_,hb1⟩
  unfold PrV
  obtain rfl:n1=0:=hP.len
  have hN:=isNothing_any (w1.alloc (.cells #[.slice A1 0 c1,.slice O 0 co,.map (some bd),.map (some bp)] 83)) A1 O 0 bd bp c1 co
  unfold PrV at hN
  have HN:=Lib.hid hN
  have HB1:=Lib.hid (bt (bt HB0.out hb1) (heap1 w1 (.cells #[.slice A1 0 c1,.slice O 0 co,.map (some bd),.map (some bp)] 83)))
  clear hP hb1 hN
  go_wp2_with (go_at_call 81;refine HN.out.mono ?_)
  rintro e w2 ⟨rfl,hb2⟩
  have HB2:=Lib.hid (bt HB1.out hb2)
  clear hb2
  go_wp2
  exact bodyPost_ret (v :=.tuple #[.int .i64 0,.int .i64 1]) (by simp[results,Tryz.f36,go_sem]) rfl ⟨rfl,HB2.out⟩
 |true=>
  rw[eff_yes hr]at HR
  rw[if_pos rfl]
  obtain⟨⟨b,hRt⟩,hx4,hx5⟩:=rtn_of hr
  have HX4:=Lib.hid hx4
  clear hx4 hx5
  have HRT:=Lib.hid hRt
  clear h hb0 hr hRt
  go_enter Tryz.func36,Tryz.ntmps36
  go_wp2_with (go_at_call 80;refine HR.out.mono ?_)
  rintro e w1 ⟨A1,n1,c1,O,co,bd,bp,rfl,hP,hC,hb1⟩
  unfold PrV
  have hbx:=heap1 w1 (.cells #[.slice A1 n1 c1,.slice O n1 co,.map (some bd),.map (some bp)] 83)
  have hN:=isNothing_any (w1.alloc (.cells #[.slice A1 n1 c1,.slice O n1 co,.map (some bd),.map (some bp)] 83)) A1 O n1 bd bp c1 co
  have hX:=Bx.new w1 83 [.slice A1 n1 c1,.slice O n1 co,.map (some bd),.map (some bp)]
  have hT:=(HT.out.below hb1 HT.out.lt).alloc (.cells #[.slice A1 n1 c1,.slice O n1 co,.map (some bd),.map (some bp)] 83)
  have HL:=Lib.hid hP.len
  have h0:decide (n1=0)=false:=decide_eq_false (by have:=HRT.out.len;have:=HL.out;omega)
  rw[h0]at hN
  unfold PrV at hN
  have HN:=Lib.hid hN
  have HB1:=Lib.hid (bt (bt HB0.out hb1) hbx)
  have HP:=Lib.hid (And.intro (hP.below hbx) (hC.below hP.nds hbx))
  have HX:=Lib.hid (And.intro hX hT)
  clear hP hC hb1 hN hX hT hbx h0 HR HT
  go_wp2_with (go_at_call 81;refine HN.out.mono ?_)
  rintro e w2 ⟨rfl,hb2⟩
  have HX2:=Lib.hid (And.intro (HX.out.1.below hb2 HX.out.1.lt) (HX.out.2.below hb2 HX.out.2.lt))
  have HP2:=Lib.hid (And.intro (HP.out.1.below hb2) (HP.out.2.below HP.out.1.nds hb2))
  have HB2:=Lib.hid (bt HB1.out hb2)
  have c0:=(HX2.out.1.cell 0).trans rfl
  clear hb2 HX HP HB1 HN
  go_wp2
  clear c0
  go_loopg [14] n1 (λg a14 wr=>∃i:Nat,a14 = .int .i64 (i:Int)∧i≤n1∧g=n1-i∧(∀j,j<i→fauA l j=0)∧Below w2.heap.size w2 wr)
  case atStart=>exact⟨0,rfl,Nat.zero_le _,rfl,λj hj=>absurd hj (Nat.not_lt_zero _),Below.refl _ _⟩
  case round=>
   obtain⟨i,rfl,hi,rfl,ht,hb⟩:=hrel
   have HB:=Lib.hid hb
   have HE:=Lib.hid ht
   have hn4:n1≤4000:=by have:=HL.out;have:=HX4.out;omega
   have hXr:=HX2.out.1.below hb HX2.out.1.lt
   have b0:=(hXr.cell 0).trans rfl
   have b1:=(hXr.cell 1).trans rfl
   have b2:=(hXr.cell 2).trans rfl
   have b3:=(hXr.cell 3).trans rfl
   by_cases hlt:i<n1
   ·have hlz:(i:Int)<(n1:Int):=by omega
    have hil:i<l.length:=by rw[← HL.out];exact hlt
    have hC:=fault_any (HP2.out.1.below hb) (HP2.out.2.below HP2.out.1.nds hb) c1 co i hlt (HRT.out.ndf hil)
    unfold PrV at hC
    have HC:=Lib.hid hC
    have HIL:=Lib.hid hil
    obtain⟨fz,hfz⟩:∃fz,fauA l i=fz:=⟨_,rfl⟩
    rw[hfz]at HC
    have HFZ:=Lib.hid hfz
    clear hXr hb ht hC hfz hil
    by_cases hz:fz=0
    ·subst hz
     go_wp2_with (go_at_call 82;refine HC.out.mono ?_)
     rintro e w3 ⟨rfl,hb3⟩
     have HB3:=Lib.hid (bt HB.out hb3)
     clear hb3
     go_wp2
     go_roundg (n1-(i+1))
     case measure=>go_light;omega
     case rel=>
      go_light
      exact⟨i+1,by go_num,by omega,rfl,λj hj=>by rcases Nat.lt_or_eq_of_le (Nat.le_of_lt_succ hj)with e |e;exact HE.out j e;rw[e];exact HFZ.out,HB3.out⟩
    ·have hzn:(fz != 0)=true:=by simp[hz]
     have HRS:=Lib.hid (show chkA l r=((i:Int),fz) by
      unfold chkA
      rw[fstA_is (Nat.zero_le i) HIL.out (by simp[HFZ.out,hz]) (λj _ hj=>by simp[HE.out j hj])]
      show((i:Int),fauA l i)=_
      rw[HFZ.out])
     clear hz
     go_wp2_with (go_at_call 82;refine HC.out.mono ?_)
     rintro e w3 ⟨rfl,hb3⟩
     have HB3:=Lib.hid (bt HB.out hb3)
     clear hb3
     go_wp2
     exact bodyPost_ret (v :=.tuple #[.int .i64 (i:Int),.int .i64 fz]) (by simp[results,Tryz.f36,go_sem]) rfl ⟨by rw[HRS.out];try rfl,bt HB2.out HB3.out⟩
   ·have hlz:¬(i:Int)<(n1:Int):=by omega
    have HN0:=Lib.hid (show fstA (λp => !decide (fauA l p=0)) 0 l.length=none by
     cases e:fstA (λp => !decide (fauA l p=0)) 0 l.length with
     |none=>rfl
     |some q=>
      obtain⟨_,h2,h3,_⟩:=fstA_some e
      have h4:=HE.out q (by have:=HL.out;omega)
      simp[h4]at h3)
    have hC:=hasMain_any (HP2.out.1.below hb) c1 co
    unfold PrV at hC
    have HC:=Lib.hid hC
    have hTr:=HX2.out.2.below hb HX2.out.2.lt
    have HTR:=Lib.hid hTr
    clear hXr hb ht hC hTr
    cases hm:manB l with
    |true=>
     rw[hm]at HC
     have HRS:=Lib.hid (show chkA l r=(0,0)by unfold chkA;rw[HN0.out];show(if manB l then _ else _)=_;rw[hm];rfl)
     clear hm
     go_wp2_with (go_at_call 83;refine HC.out.mono ?_)
     rintro e w3 ⟨rfl,hb3⟩
     have HB3:=Lib.hid (bt HB.out hb3)
     clear hb3
     go_wp2
     exact bodyPost_ret (v :=.tuple #[.int .i64 0,.int .i64 0]) (by simp[results,Tryz.f36,go_sem]) rfl ⟨by rw[HRS.out];try rfl,bt HB2.out HB3.out⟩
    |false=>
     rw[hm]at HC
     have HRS:=Lib.hid (show chkA l r=(r,11)by unfold chkA;rw[HN0.out];show(if manB l then _ else _)=_;rw[hm];rfl)
     clear hm
     go_wp2_with (go_at_call 83;refine HC.out.mono ?_)
     rintro e w3 ⟨rfl,hb3⟩
     have t1:=((HTR.out.below hb3 HTR.out.lt).cell 1).trans rfl
     have HB3:=Lib.hid (bt HB.out hb3)
     clear hb3
     go_wp2
     exact bodyPost_ret (v :=.tuple #[.int .i64 r,.int .i64 11]) (by simp[results,Tryz.f36,go_sem]) rfl ⟨by rw[HRS.out];try rfl,bt HB2.out HB3.out⟩
end
end
end Go.Proofs.YteecfjhjllajlaaGreatDoor
