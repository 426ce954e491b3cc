/- PROVED here: parts N34 of the claim. No condition but those in each theorem's own head. -/
import Derived.Test.YtedkgofehbecmaaGreatDoorU29
import Derived.Test.YtedkgofehbecmaaGreatDoorU30
import Derived.Test.YtedkgofehbecmaaGreatDoorU31
namespace Go.Proofs.YtedkgofehbecmaaGreatDoor
open Go.Lib (hid)
open Go Go.RowKit Go.Sort
open Tr (Bx heap1 bt Nds Ints VPost BPost)
section
variable {w:World} {l:List Tr.Nd} {A O:Option Addr} {n bd bp:Nat}
set_option maxRecDepth 100000 in
set_option maxHeartbeats 1500000 in
theorem isTaken_any (h:Prg w l A n O bd bp)(c co p:Nat)(hp:p<n):Calls Tryz.prog 184 #[PrV A n c O co bd bp,.int .i64 (p:Int)] w (BPost (takB l p) w):=by
 unfold PrV
 have hb0:=heap1 w (.cells #[.slice A n c,.slice O n co,.map (some bd),.map (some bp)] 87)
 have xl:p<l.length:=by rw[<- h.len];exact hp
 have xz:(p:Int)<(n:Int):=by omega
 obtain⟨bA,off,K,cK,rfl,xt,x0,x1,x2,x3,x4,xI⟩:=node_at h.nds hb0 p xl
 rw[<- ndA_eq xl]at x0 x1 x2 x3 x4 xI
 have hb1:=bt hb0 (heap1 (w.alloc (.cells #[.slice (some ⟨bA,off,none⟩) n c,.slice O n co,.map (some bd),.map (some bp)] 87)) (.cells #[.int .i64 (ndA l p).kd,.int .i64 (ndA l p).n,.int .i64 (ndA l p).pl,.string (ndA l p).tx,.slice K (ndA l p).ks.length cK] 50))
 have hX:=(Bx.new w 87 [.slice (some ⟨bA,off,none⟩) n c,.slice O n co,.map (some bd),.map (some bp)]).alloc (.cells #[.int .i64 (ndA l p).kd,.int .i64 (ndA l p).n,.int .i64 (ndA l p).pl,.string (ndA l p).tx,.slice K (ndA l p).ks.length cK] 50)
 have hN:=Bx.new (w.alloc (.cells #[.slice (some ⟨bA,off,none⟩) n c,.slice O n co,.map (some bd),.map (some bp)] 87)) 50 [.int .i64 (ndA l p).kd,.int .i64 (ndA l p).n,.int .i64 (ndA l p).pl,.string (ndA l p).tx,.slice K (ndA l p).ks.length cK]
 have hs1:(w.alloc (.cells #[.slice (some ⟨bA,off,none⟩) n c,.slice O n co,.map (some bd),.map (some bp)] 87)).heap.size=w.heap.size+1:=by rw[World.size_alloc]
 rw[hs1]at hN
 have htx:=h.text _ (List.getElem_mem xl)
 rw[<- ndA_eq xl]at htx
 obtain⟨W1,hW1⟩:∃W1,(w.alloc (.cells #[.slice (some ⟨bA,off,none⟩) n c,.slice O n co,.map (some bd),.map (some bp)] 87)).alloc (.cells #[.int .i64 (ndA l p).kd,.int .i64 (ndA l p).n,.int .i64 (ndA l p).pl,.string (ndA l p).tx,.slice K (ndA l p).ks.length cK] 50)=W1:=⟨_,rfl⟩
 rw[hW1]at hb1 hX hN
 obtain⟨bO,oO,rfl,hOl,hOc⟩:=h.owner_at hb1 hp
 have hpl:=xl
 have how:=owA_wf l p (by rw[<- h.len];exact h.few)
 obtain⟨R,hR⟩:∃R,R=takB l p:=⟨_,rfl⟩
 rw[<- hR]
 unfold takB at hR
 have HB1:=hid hb1
 cases hd:decB (ndA l p).kd with
 |true=>
  obtain⟨q,hq⟩:=dcF_self hpl hd
  have HR:=hid (show((q:Int) != (p:Int))=R by rw[hR,if_pos hd,hq,neq_some])
  have HL:∀d os,(Instr.lookup 84 (.map (some bd)) (.agg #[.int .i64 (owA l p),.string (ndA l p).tx]) false).run Tryz.prog (grow (redrawn W1 d) os) = .ok (.int .i64 (q:Int)) (grow (redrawn W1 d) os):=λd os=>by
   have:=(h.below (bt hb1 (below_regrown W1 d os))).lookd1 (owA l p) (ndA l p).tx how htx
   rw[hq]at this
   exact this
  have b0:=(hX.cell 0).trans rfl
  have b1:=(hX.cell 1).trans rfl
  have b2:=(hX.cell 2).trans rfl
  have b3:=(hX.cell 3).trans rfl
  have n0:=(hN.cell 0).trans rfl
  have n3:=(hN.cell 3).trans rfl
  have d0:=cell_regrown b0
  have d1:=cell_regrown b1
  have d2:=cell_regrown b2
  have d3:=cell_regrown b3
  have m0:=cell_regrown n0
  have m3:=cell_regrown n3
  have e5:=cell_regrown hOc
  clear h hR hq hb1 hb0 hX hN how htx xI hp hpl
  generalize owA l p=ow at *
  generalize (ndA l (p:Int)).kd=k at *
  generalize (ndA l (p:Int)).tx=tx at *
  generalize (ndA l (p:Int)).n=nn at *
  generalize (ndA l (p:Int)).pl=pl at *
  generalize (ndA l (p:Int)).ks.length=m at *
  have HI:∀W,Calls Tryz.prog 105 #[.int .i64 k] W (λe w'=>e = .returned (.bool true)/\W=w'):=λW=>(isDecl_any k W).mono λe w' q=>⟨by rw[q.1,hd],q.2.symm⟩
  clear hd b1 b2 b3 n3 hOc
  go_enter Tryz.func184,Tryz.ntmps184
  go_wp2_with (go_at_call 105;refine(HI _).mono ?_)
  rintro e w2 ⟨rfl,rfl⟩
  go_wp2
  refine wp_region_quiet_below (by kernel_rfl) (by kernel_rfl) ?_
  repeat (go_big_quiet_step (first|fail))
  refine wpQuiet_nil ?_
  intro _ hw'
  obtain⟨⟨dq,osq⟩,hw''⟩:=hw'
  subst hw''
  have hbq:=below_regrown W1 dq osq
  generalize grow (redrawn W1 dq) osq=w3 at *
  have HQ:=hid (bt HB1.out hbq)
  clear hbq
  go_wp2
  go_ret
  exact⟨congrArg (λz=>Ending.returned (Value.bool z)) HR.out,HQ.out⟩
 |false=>
  by_cases h3:(ndA l p).kd=3
  ·obtain⟨q,hq⟩:=prF_self hpl h3
   have HM:=(h.below hb1).lookd (-1) (ndA l p).tx (by decide) htx
   have HP:=(h.below hb1).lookp1 (ndA l p).tx htx
   rw[hq]at HP
   cases hg:dcF l (-1) (ndA l p).tx 0 with
   |some g=>
    rw[hg]at HM
    have HR:=hid (show true=R by rw[hR,if_neg (by rw[hd];decide),if_pos h3,hg];rfl)
    have b0:=(hX.cell 0).trans rfl
    have b1:=(hX.cell 1).trans rfl
    have b2:=(hX.cell 2).trans rfl
    have b3:=(hX.cell 3).trans rfl
    have n0:=(hN.cell 0).trans rfl
    have n3:=(hN.cell 3).trans rfl
    clear h hR hq hb1 hb0 hX hN how htx xI hp hpl hg
    generalize (ndA l (p:Int)).kd=k at *
    generalize (ndA l (p:Int)).tx=tx at *
    generalize (ndA l (p:Int)).n=nn at *
    generalize (ndA l (p:Int)).pl=pl at *
    generalize (ndA l (p:Int)).ks.length=m at *
    have HI:∀W,Calls Tryz.prog 105 #[.int .i64 k] W (λe w'=>e = .returned (.bool false)/\W=w'):=λW=>(isDecl_any k W).mono λe w' q=>⟨by rw[q.1,hd],q.2.symm⟩
    clear hd
    subst h3
    go_enter Tryz.func184,Tryz.ntmps184
    go_wp2_with (go_at_call 105;refine(HI _).mono ?_)
    rintro e w2 ⟨rfl,rfl⟩
    go_wp2
    go_ret
    exact⟨congrArg (λz=>Ending.returned (Value.bool z)) HR.out,HB1.out⟩
   |none=>
    rw[hg]at HM
    have HR:=hid (show((q:Int) != (p:Int))=R by rw[hR,if_neg (by rw[hd];decide),if_pos h3,hg,hq,neq_some];rfl)
    have b0:=(hX.cell 0).trans rfl
    have b1:=(hX.cell 1).trans rfl
    have b2:=(hX.cell 2).trans rfl
    have b3:=(hX.cell 3).trans rfl
    have n0:=(hN.cell 0).trans rfl
    have n3:=(hN.cell 3).trans rfl
    clear h hR hq hb1 hb0 hX hN how htx xI hp hpl hg
    generalize (ndA l (p:Int)).kd=k at *
    generalize (ndA l (p:Int)).tx=tx at *
    generalize (ndA l (p:Int)).n=nn at *
    generalize (ndA l (p:Int)).pl=pl at *
    generalize (ndA l (p:Int)).ks.length=m at *
    have HI:∀W,Calls Tryz.prog 105 #[.int .i64 k] W (λe w'=>e = .returned (.bool false)/\W=w'):=λW=>(isDecl_any k W).mono λe w' q=>⟨by rw[q.1,hd],q.2.symm⟩
    clear hd
    subst h3
    go_enter Tryz.func184,Tryz.ntmps184
    go_wp2_with (go_at_call 105;refine(HI _).mono ?_)
    rintro e w2 ⟨rfl,rfl⟩
    go_wp2
    go_ret
    exact⟨congrArg (λz=>Ending.returned (Value.bool z)) HR.out,HB1.out⟩
  ·have HR:=hid (show false=R by rw[hR,if_neg (by rw[hd];decide),if_neg h3])
   have hk3:((ndA l p).kd==3)=false:=beq_eq_false_iff_ne.2 h3
   have b0:=(hX.cell 0).trans rfl
   have b1:=(hX.cell 1).trans rfl
   have b2:=(hX.cell 2).trans rfl
   have b3:=(hX.cell 3).trans rfl
   have n0:=(hN.cell 0).trans rfl
   have n3:=(hN.cell 3).trans rfl
   clear h hR hb1 hb0 hX hN how htx xI hp hpl h3
   generalize (ndA l (p:Int)).kd=k at *
   generalize (ndA l (p:Int)).tx=tx at *
   generalize (ndA l (p:Int)).n=nn at *
   generalize (ndA l (p:Int)).pl=pl at *
   generalize (ndA l (p:Int)).ks.length=m at *
   have HI:∀W,Calls Tryz.prog 105 #[.int .i64 k] W (λe w'=>e = .returned (.bool false)/\W=w'):=λW=>(isDecl_any k W).mono λe w' q=>⟨by rw[q.1,hd],q.2.symm⟩
   clear hd
   go_enter Tryz.func184,Tryz.ntmps184
   go_wp2_with (go_at_call 105;refine(HI _).mono ?_)
   rintro e w2 ⟨rfl,rfl⟩
   go_wp2
   go_ret
   exact⟨congrArg (λz=>Ending.returned (Value.bool z)) HR.out,HB1.out⟩
set_option maxRecDepth 100000 in
set_option maxHeartbeats 1500000 in
theorem isUnknown_any (h:Prg w l A n O bd bp)(c co p:Nat)(hp:p<n)(hF:NdF l p):Calls Tryz.prog 185 #[PrV A n c O co bd bp,.int .i64 (p:Int)] w (BPost (unkB l p) w):=by
 unfold PrV
 have hb0:=heap1 w (.cells #[.slice A n c,.slice O n co,.map (some bd),.map (some bp)] 87)
 have xl:p<l.length:=by rw[<- h.len];exact hp
 have xz:(p:Int)<(n:Int):=by omega
 obtain⟨bA,off,K,cK,rfl,xt,x0,x1,x2,x3,x4,xI⟩:=node_at h.nds hb0 p xl
 rw[<- ndA_eq xl]at x0 x1 x2 x3 x4 xI
 have hb1:=bt hb0 (heap1 (w.alloc (.cells #[.slice (some ⟨bA,off,none⟩) n c,.slice O n co,.map (some bd),.map (some bp)] 87)) (.cells #[.int .i64 (ndA l p).kd,.int .i64 (ndA l p).n,.int .i64 (ndA l p).pl,.string (ndA l p).tx,.slice K (ndA l p).ks.length cK] 50))
 have hX:=(Bx.new w 87 [.slice (some ⟨bA,off,none⟩) n c,.slice O n co,.map (some bd),.map (some bp)]).alloc (.cells #[.int .i64 (ndA l p).kd,.int .i64 (ndA l p).n,.int .i64 (ndA l p).pl,.string (ndA l p).tx,.slice K (ndA l p).ks.length cK] 50)
 have hN:=Bx.new (w.alloc (.cells #[.slice (some ⟨bA,off,none⟩) n c,.slice O n co,.map (some bd),.map (some bp)] 87)) 50 [.int .i64 (ndA l p).kd,.int .i64 (ndA l p).n,.int .i64 (ndA l p).pl,.string (ndA l p).tx,.slice K (ndA l p).ks.length cK]
 have hs1:(w.alloc (.cells #[.slice (some ⟨bA,off,none⟩) n c,.slice O n co,.map (some bd),.map (some bp)] 87)).heap.size=w.heap.size+1:=by rw[World.size_alloc]
 rw[hs1]at hN
 have htx:=h.text _ (List.getElem_mem xl)
 rw[<- ndA_eq xl]at htx
 have HB1:=hid hb1
 have HX:=hid (And.intro hX hN)
 have HD:=hid (λW (hb:Below ((w.alloc (.cells #[.slice (some ⟨bA,off,none⟩) n c,.slice O n co,.map (some bd),.map (some bp)] 87)).alloc (.cells #[.int .i64 (ndA l p).kd,.int .i64 (ndA l p).n,.int .i64 (ndA l p).pl,.string (ndA l p).tx,.slice K (ndA l p).ks.length cK] 50)).heap.size ((w.alloc (.cells #[.slice (some ⟨bA,off,none⟩) n c,.slice O n co,.map (some bd),.map (some bp)] 87)).alloc (.cells #[.int .i64 (ndA l p).kd,.int .i64 (ndA l p).n,.int .i64 (ndA l p).pl,.string (ndA l p).tx,.slice K (ndA l p).ks.length cK] 50)) W) nm (hn:nm.size<=281474976710656)=>denoted_any (h.below (bt hb1 hb)) c co p hp nm hn)
 have HP:=hid (λW (hb:Below ((w.alloc (.cells #[.slice (some ⟨bA,off,none⟩) n c,.slice O n co,.map (some bd),.map (some bp)] 87)).alloc (.cells #[.int .i64 (ndA l p).kd,.int .i64 (ndA l p).n,.int .i64 (ndA l p).pl,.string (ndA l p).tx,.slice K (ndA l p).ks.length cK] 50)).heap.size ((w.alloc (.cells #[.slice (some ⟨bA,off,none⟩) n c,.slice O n co,.map (some bd),.map (some bp)] 87)).alloc (.cells #[.int .i64 (ndA l p).kd,.int .i64 (ndA l p).n,.int .i64 (ndA l p).pl,.string (ndA l p).tx,.slice K (ndA l p).ks.length cK] 50)) W) nm (hn:nm.size<=281474976710656)=>procedure_any (h.below (bt hb1 hb)) c co nm hn)
 have HC:=hid (λ(k:Nat) ks (hks:(ndA l p).ks=(k:Int) :: ks) (hk:k<n)=>calleeName_any (h.below hb1) c co p k hp hks hk)
 have HNM:=hid (show∀(k:Nat) ks,(ndA l p).ks=(k:Int) :: ks->k<n->(calN l p).size<=281474976710656 from λk ks hks hk=>by
  have hkl:k<l.length:=by rw[<- h.len];exact hk
  have e:calN l p=(ndA l k).tx:=by unfold calN;rw[kidA_0 hks]
  rw[e,ndA_eq hkl]
  exact h.text _ (List.getElem_mem hkl))
 have HKR:=hid (h.kr hp)
 have HF:=hid hF
 have HTX:=hid htx
 unfold PrV at HD HP HC
 obtain⟨R,hR⟩:∃R,R=unkB l p:=⟨_,rfl⟩
 rw[<- hR]
 unfold unkB at hR
 clear h hb0 hb1 hX hN xI hp htx hF xl
 generalize ekd:(ndA l (p:Int)).kd=k at *
 generalize etx:(ndA l (p:Int)).tx=tx at *
 generalize (ndA l (p:Int)).n=nn at *
 generalize (ndA l (p:Int)).pl=pl at *
 generalize eks:(ndA l (p:Int)).ks.length=m at *
 by_cases k22:k=22
 ·subst k22
  have HR:=hid (show(optZ (dnA l p tx) == -1)=R by rw[hR,if_pos (by decide)];exact optZ_none _)
  have HCC:=hid (HD.out _ (Below.refl _ _) tx HTX.out)
  clear hR ekd etx eks HP HC HNM HKR HF
  generalize optZ (dnA l p tx)=zv at *
  go_enter Tryz.func185,Tryz.ntmps185
  go_wp2_with (go_at_call 214;refine HCC.out.mono ?_)
  rintro e w2 ⟨rfl,hb2⟩
  have HB2:=hid (bt HB1.out hb2)
  clear hb2
  go_wp2
  go_ret
  exact⟨congrArg (λz=>Ending.returned (Value.bool z)) HR.out,HB2.out⟩
 have f22:(k==22)=false:=beq_eq_false_iff_ne.2 k22
 by_cases k23:k=23
 ·subst k23
  have HR:=hid (show(optZ (dnA l p tx) == -1)=R by rw[hR,if_pos (by decide)];exact optZ_none _)
  have HCC:=hid (HD.out _ (Below.refl _ _) tx HTX.out)
  clear hR ekd etx eks HP HC HNM HKR HF
  generalize optZ (dnA l p tx)=zv at *
  go_enter Tryz.func185,Tryz.ntmps185
  go_wp2_with (go_at_call 214;refine HCC.out.mono ?_)
  rintro e w2 ⟨rfl,hb2⟩
  have HB2:=hid (bt HB1.out hb2)
  clear hb2
  go_wp2
  go_ret
  exact⟨congrArg (λz=>Ending.returned (Value.bool z)) HR.out,HB2.out⟩
 have f23:(k==23)=false:=beq_eq_false_iff_ne.2 k23
 by_cases k24:k=24
 ·subst k24
  have HR:=hid (show(optZ (dnA l p tx) == -1)=R by rw[hR,if_pos (by decide)];exact optZ_none _)
  have HCC:=hid (HD.out _ (Below.refl _ _) tx HTX.out)
  clear hR ekd etx eks HP HC HNM HKR HF
  generalize optZ (dnA l p tx)=zv at *
  go_enter Tryz.func185,Tryz.ntmps185
  go_wp2_with (go_at_call 214;refine HCC.out.mono ?_)
  rintro e w2 ⟨rfl,hb2⟩
  have HB2:=hid (bt HB1.out hb2)
  clear hb2
  go_wp2
  go_ret
  exact⟨congrArg (λz=>Ending.returned (Value.bool z)) HR.out,HB2.out⟩
 have f24:(k==24)=false:=beq_eq_false_iff_ne.2 k24
 by_cases k7:k=7
 ·subst k7
  have HR:=hid (show(optZ (dnA l p tx) == -1)=R by rw[hR,if_pos (by decide)];exact optZ_none _)
  have HCC:=hid (HD.out _ (Below.refl _ _) tx HTX.out)
  clear hR ekd etx eks HP HC HNM HKR HF
  generalize optZ (dnA l p tx)=zv at *
  go_enter Tryz.func185,Tryz.ntmps185
  go_wp2_with (go_at_call 214;refine HCC.out.mono ?_)
  rintro e w2 ⟨rfl,hb2⟩
  have HB2:=hid (bt HB1.out hb2)
  clear hb2
  go_wp2
  go_ret
  exact⟨congrArg (λz=>Ending.returned (Value.bool z)) HR.out,HB2.out⟩
 have f7:(k==7)=false:=beq_eq_false_iff_ne.2 k7
 by_cases k8:k=8
 ·subst k8
  have HR:=hid (show(optZ (dnA l p tx) == -1)=R by rw[hR,if_pos (by decide)];exact optZ_none _)
  have HCC:=hid (HD.out _ (Below.refl _ _) tx HTX.out)
  clear hR ekd etx eks HP HC HNM HKR HF
  generalize optZ (dnA l p tx)=zv at *
  go_enter Tryz.func185,Tryz.ntmps185
  go_wp2_with (go_at_call 214;refine HCC.out.mono ?_)
  rintro e w2 ⟨rfl,hb2⟩
  have HB2:=hid (bt HB1.out hb2)
  clear hb2
  go_wp2
  go_ret
  exact⟨congrArg (λz=>Ending.returned (Value.bool z)) HR.out,HB2.out⟩
 have f8:(k==8)=false:=beq_eq_false_iff_ne.2 k8
 by_cases k17:k=17
 ·subst k17
  have HR:=hid (show(optZ (dnA l p tx) == -1)=R by rw[hR,if_pos (by decide)];exact optZ_none _)
  have HCC:=hid (HD.out _ (Below.refl _ _) tx HTX.out)
  clear hR ekd etx eks HP HC HNM HKR HF
  generalize optZ (dnA l p tx)=zv at *
  go_enter Tryz.func185,Tryz.ntmps185
  go_wp2_with (go_at_call 214;refine HCC.out.mono ?_)
  rintro e w2 ⟨rfl,hb2⟩
  have HB2:=hid (bt HB1.out hb2)
  clear hb2
  go_wp2
  go_ret
  exact⟨congrArg (λz=>Ending.returned (Value.bool z)) HR.out,HB2.out⟩
 have f17:(k==17)=false:=beq_eq_false_iff_ne.2 k17
 by_cases k9:k=9
 ·subst k9
  have HR:=hid (show(optZ (dnA l p tx) == -1)=R by rw[hR,if_pos (by decide)];exact optZ_none _)
  have HCC:=hid (HD.out _ (Below.refl _ _) tx HTX.out)
  clear hR ekd etx eks HP HC HNM HKR HF
  generalize optZ (dnA l p tx)=zv at *
  go_enter Tryz.func185,Tryz.ntmps185
  go_wp2_with (go_at_call 214;refine HCC.out.mono ?_)
  rintro e w2 ⟨rfl,hb2⟩
  have HB2:=hid (bt HB1.out hb2)
  clear hb2
  go_wp2
  go_ret
  exact⟨congrArg (λz=>Ending.returned (Value.bool z)) HR.out,HB2.out⟩
 have f9:(k==9)=false:=beq_eq_false_iff_ne.2 k9
 by_cases k16:k=16
 ·subst k16
  have HR:=hid (show(optZ (dnA l p tx) == -1)=R by rw[hR,if_pos (by decide)];exact optZ_none _)
  have HCC:=hid (HD.out _ (Below.refl _ _) tx HTX.out)
  clear hR ekd etx eks HP HC HNM HKR HF
  generalize optZ (dnA l p tx)=zv at *
  go_enter Tryz.func185,Tryz.ntmps185
  go_wp2_with (go_at_call 214;refine HCC.out.mono ?_)
  rintro e w2 ⟨rfl,hb2⟩
  have HB2:=hid (bt HB1.out hb2)
  clear hb2
  go_wp2
  go_ret
  exact⟨congrArg (λz=>Ending.returned (Value.bool z)) HR.out,HB2.out⟩
 have f16:(k==16)=false:=beq_eq_false_iff_ne.2 k16
 rw[if_neg (by omega)]at hR
 by_cases k25:k=25
 ·subst k25
  have HR:=hid (show(optZ (prF l tx 0) == -1)=R by rw[hR,if_pos rfl];exact optZ_none _)
  have HCC:=hid (HP.out _ (Below.refl _ _) tx HTX.out)
  clear hR ekd etx eks HD HC HNM HKR HF
  generalize optZ (prF l tx 0)=zv at *
  go_enter Tryz.func185,Tryz.ntmps185
  go_wp2_with (go_at_call 106;refine HCC.out.mono ?_)
  rintro e w2 ⟨rfl,hb2⟩
  have HB2:=hid (bt HB1.out hb2)
  clear hb2
  go_wp2
  go_ret
  exact⟨congrArg (λz=>Ending.returned (Value.bool z)) HR.out,HB2.out⟩
 have f25:(k==25)=false:=beq_eq_false_iff_ne.2 k25
 rw[if_neg k25]at hR
 by_cases k13:k=13
 ·subst k13
  rw[if_pos rfl]at hR
  obtain⟨k0,ks0,hks0⟩:=HF.out.one (by omega)
  obtain⟨hk0,hk1⟩:=HKR.out k0 (by rw[hks0];exact List.mem_cons_self ..)
  obtain⟨k,rfl⟩:∃k:Nat,k0=(k:Int):=⟨k0.toNat,by omega⟩
  have hkn:k<n:=by omega
  have HCN:=hid (HC.out k ks0 hks0 hkn)
  have HNS:=hid (HNM.out k ks0 hks0 hkn)
  clear HC HNM HKR HF hks0 hk0 hk1 hkn ekd etx eks
  generalize calN l p=nm at *
  cases hd:dnA l p nm with
  |some q=>
   have hqz:((q:Int) == -1)=false:=beq_eq_false_iff_ne.2 (by omega)
   go_enter Tryz.func185,Tryz.ntmps185
   go_wp2_with (go_at_call 215;refine HCN.out.mono ?_)
   rintro e w2 ⟨rfl,hb2⟩
   have HB2:=hid hb2
   have hBa:=HX.out.1.below hb2 HX.out.1.lt
   have hNa:=HX.out.2.below hb2 HX.out.2.lt
   have c0:=(hBa.cell 0).trans rfl
   have c1:=(hBa.cell 1).trans rfl
   have c2:=(hBa.cell 2).trans rfl
   have c3:=(hBa.cell 3).trans rfl
   have cn:=(hNa.cell 3).trans rfl
   clear hBa hNa
   have HCD:=hid (HD.out _ hb2 nm HNS.out)
   clear hb2
   rw[hd,show optZ (some q)=(q:Int)from rfl]at HCD
   go_wp2_with (go_at_call 214;refine HCD.out.mono ?_)
   rintro e w3 ⟨rfl,hb3⟩
   have HB3:=hid (bt HB2.out hb3)
   have hb13:=bt HB2.out hb3
   clear c0 c1 c2 c3 cn
   have hBa:=HX.out.1.below hb13 HX.out.1.lt
   have hNa:=HX.out.2.below hb13 HX.out.2.lt
   have d0:=(hBa.cell 0).trans rfl
   have d1:=(hBa.cell 1).trans rfl
   have d2:=(hBa.cell 2).trans rfl
   have d3:=(hBa.cell 3).trans rfl
   have dn:=(hNa.cell 3).trans rfl
   clear hBa hNa
   clear hb3 hb13
   by_cases htx:tx=⟨#[]⟩
   ·have HR:=hid (show false=R by rw[hR,hd,htx];simp)
    clear hR
    subst htx
    go_wp2
    go_ret
    exact⟨congrArg (λz=>Ending.returned (Value.bool z)) HR.out,bt HB1.out HB3.out⟩
   ·have hte:(tx.toList==[])=false:=lst_ne htx
    have HR:=hid (show(optZ (dnA l p tx) == -1)=R by rw[hR,hd,optZ_none];simp[htx])
    have HCE:=hid (HD.out _ HB3.out tx HTX.out)
    clear hR
    generalize optZ (dnA l p tx)=zt at *
    go_wp2_with (go_at_call 214;refine HCE.out.mono ?_)
    rintro e w5 ⟨rfl,hb5⟩
    have HB5:=hid (bt HB1.out (bt HB3.out hb5))
    clear hb5
    go_wp2
    go_ret
    exact⟨congrArg (λz=>Ending.returned (Value.bool z)) HR.out,HB5.out⟩
  |none=>
   go_enter Tryz.func185,Tryz.ntmps185
   go_wp2_with (go_at_call 215;refine HCN.out.mono ?_)
   rintro e w2 ⟨rfl,hb2⟩
   have HB2:=hid hb2
   have hBa:=HX.out.1.below hb2 HX.out.1.lt
   have hNa:=HX.out.2.below hb2 HX.out.2.lt
   have c0:=(hBa.cell 0).trans rfl
   have c1:=(hBa.cell 1).trans rfl
   have c2:=(hBa.cell 2).trans rfl
   have c3:=(hBa.cell 3).trans rfl
   have cn:=(hNa.cell 3).trans rfl
   clear hBa hNa
   have HCD:=hid (HD.out _ hb2 nm HNS.out)
   clear hb2
   rw[hd,show optZ none = -1 from rfl]at HCD
   go_wp2_with (go_at_call 214;refine HCD.out.mono ?_)
   rintro e w3 ⟨rfl,hb3⟩
   have HB3:=hid (bt HB2.out hb3)
   have hb13:=bt HB2.out hb3
   clear c0 c1 c2 c3 cn
   have hBa:=HX.out.1.below hb13 HX.out.1.lt
   have hNa:=HX.out.2.below hb13 HX.out.2.lt
   have d0:=(hBa.cell 0).trans rfl
   have d1:=(hBa.cell 1).trans rfl
   have d2:=(hBa.cell 2).trans rfl
   have d3:=(hBa.cell 3).trans rfl
   have dn:=(hNa.cell 3).trans rfl
   clear hBa hNa
   clear hb3 hb13
   have HCP:=hid (HP.out _ HB3.out nm HNS.out)
   cases hp2:prF l nm 0 with
   |none=>
    rw[hp2,show optZ none = -1 from rfl]at HCP
    have HR:=hid (show true=R by rw[hR,hd,hp2];simp)
    clear hR
    go_wp2_with (go_at_call 106;refine HCP.out.mono ?_)
    rintro e w4 ⟨rfl,hb4⟩
    have HB4:=hid (bt HB3.out hb4)
    clear hb4
    go_wp2
    go_ret
    exact⟨congrArg (λz=>Ending.returned (Value.bool z)) HR.out,bt HB1.out HB4.out⟩
   |some q=>
    rw[hp2,show optZ (some q)=(q:Int)from rfl]at HCP
    have hqz:((q:Int) == -1)=false:=beq_eq_false_iff_ne.2 (by omega)
    go_wp2_with (go_at_call 106;refine HCP.out.mono ?_)
    rintro e w4 ⟨rfl,hb4⟩
    have HB4:=hid (bt HB3.out hb4)
    have hb14:=bt HB3.out hb4
    clear d0 d1 d2 d3 dn
    have hBa:=HX.out.1.below hb14 HX.out.1.lt
    have hNa:=HX.out.2.below hb14 HX.out.2.lt
    have g0:=(hBa.cell 0).trans rfl
    have g1:=(hBa.cell 1).trans rfl
    have g2:=(hBa.cell 2).trans rfl
    have g3:=(hBa.cell 3).trans rfl
    have gn:=(hNa.cell 3).trans rfl
    clear hBa hNa
    clear hb4 hb14
    by_cases htx:tx=⟨#[]⟩
    ·have HR:=hid (show false=R by rw[hR,hd,hp2,htx];simp)
     clear hR
     subst htx
     go_wp2
     go_ret
     exact⟨congrArg (λz=>Ending.returned (Value.bool z)) HR.out,bt HB1.out HB4.out⟩
    ·have hte:(tx.toList==[])=false:=lst_ne htx
     have HR:=hid (show(optZ (dnA l p tx) == -1)=R by rw[hR,hd,hp2,optZ_none];simp[htx])
     have HCE:=hid (HD.out _ HB4.out tx HTX.out)
     clear hR
     generalize optZ (dnA l p tx)=zt at *
     go_wp2_with (go_at_call 214;refine HCE.out.mono ?_)
     rintro e w5 ⟨rfl,hb5⟩
     have HB5:=hid (bt HB1.out (bt HB4.out hb5))
     clear hb5
     go_wp2
     go_ret
     exact⟨congrArg (λz=>Ending.returned (Value.bool z)) HR.out,HB5.out⟩
 have f13:(k==13)=false:=beq_eq_false_iff_ne.2 k13
 rw[if_neg k13]at hR
 have HR:=hid hR.symm
 clear hR HD HP HC HNM HKR HF HTX ekd etx eks k22 k23 k24 k7 k8 k17 k9 k16 k25 k13
 go_enter Tryz.func185,Tryz.ntmps185
 go_wp2
 go_ret
 exact⟨congrArg (λz=>Ending.returned (Value.bool z)) HR.out,HB1.out⟩
end
end Go.Proofs.YtedkgofehbecmaaGreatDoor
