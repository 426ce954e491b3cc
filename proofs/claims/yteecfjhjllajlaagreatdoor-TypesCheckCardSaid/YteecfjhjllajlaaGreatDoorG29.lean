/- PROVED: Cm Co. No more condition. -/
import Derived.Test.YteecfjhjllajlaaGreatDoorG27
import Derived.Test.YteecfjhjllajlaaGreatDoorG28
set_option maxHeartbeats 6000000
set_option maxRecDepth 100000
namespace Go.Proofs.YteecfjhjllajlaaGreatDoor
open Go.Lib (hid)
section
open Go Go.RowKit Go.Sort
open Tr (Bx ag bt bu Ints aG au)
section
variable {w:World} {l:List Tr.Nd} {A O:Option Addr} {n bd bp:Nat}
theorem xC (h:kX w l A n O bd bp)(c co p:Nat)(hp:p<n):Calls Tryz.prog 142 #[fJ A n c O co bd bp,.int .i64 (p:Int)] w (au (nA l p) w):=by
 unfold fJ;have hb0:=ag w (.cells #[.slice A n c,.slice O n co,.map (some bd),.map (some bp)] 83);have xl:p<l.length:=by rw[<- h.len];exact hp
 have xz:(p:Int)<(n:Int):=by omega
 obtain⟨bA,off,K,cK,rfl,xt,x0,x1,x2,x3,x4,xI⟩:=dE h.nds hb0 p xl;rw[<- aH xl]at x0 x1 x2 x3 x4 xI;have hb1:=bt hb0 (ag (w.alloc (.cells #[.slice (some ⟨bA,off,none⟩) n c,.slice O n co,.map (some bd),.map (some bp)] 83)) (.cells #[.int .i64 (ae l p).kd,.int .i64 (ae l p).n,.int .i64 (ae l p).pl,.string (ae l p).tx,.slice K (ae l p).ks.length cK] 37));have hX:=(Bx.new w 83 [.slice (some ⟨bA,off,none⟩) n c,.slice O n co,.map (some bd),.map (some bp)]).alloc (.cells #[.int .i64 (ae l p).kd,.int .i64 (ae l p).n,.int .i64 (ae l p).pl,.string (ae l p).tx,.slice K (ae l p).ks.length cK] 37);have hN:=Bx.new (w.alloc (.cells #[.slice (some ⟨bA,off,none⟩) n c,.slice O n co,.map (some bd),.map (some bp)] 83)) 37 [.int .i64 (ae l p).kd,.int .i64 (ae l p).n,.int .i64 (ae l p).pl,.string (ae l p).tx,.slice K (ae l p).ks.length cK];have hs1:(w.alloc (.cells #[.slice (some ⟨bA,off,none⟩) n c,.slice O n co,.map (some bd),.map (some bp)] 83)).heap.size=w.heap.size+1:=by rw[World.size_alloc]
 rw[hs1]at hN;have htx:=h.text _ (List.getElem_mem xl);rw[<- aH xl]at htx;obtain⟨W1,hW1⟩:∃W1,(w.alloc (.cells #[.slice (some ⟨bA,off,none⟩) n c,.slice O n co,.map (some bd),.map (some bp)] 83)).alloc (.cells #[.int .i64 (ae l p).kd,.int .i64 (ae l p).n,.int .i64 (ae l p).pl,.string (ae l p).tx,.slice K (ae l p).ks.length cK] 37)=W1:=⟨_,rfl⟩;rw[hW1]at hb1 hX hN;obtain⟨bO,oO,rfl,hOl,hOc⟩:=h.owner_at hb1 hp;have hpl:=xl;have how:=EC l p (by rw[<- h.len];exact h.few);obtain⟨R,hR⟩:∃R,R=nA l p:=⟨_,rfl⟩;rw[<- hR];unfold nA at hR;have HB1:=hid hb1;cases hd:jy (ae l p).kd with
 |true=>
  obtain⟨q,hq⟩:=EH hpl hd;have HR:=hid (show((q:Int) != (p:Int))=R by rw[hR,if_pos hd,hq,xB]);have HL:∀d os,(Instr.lookup 80 (.map (some bd)) (.agg #[.int .i64 (eQ l p),.string (ae l p).tx]) false).run Tryz.prog (grow (redrawn W1 d) os)=.ok (.int .i64 (q:Int)) (grow (redrawn W1 d) os):=λd os=>by
   have:=(h.below (bt hb1 (below_regrown W1 d os))).lookd1 (eQ l p) (ae l p).tx how htx;rw[hq]at this;exact this
  have b0:=(hX.cell 0).trans rfl;have b1:=(hX.cell 1).trans rfl;have b2:=(hX.cell 2).trans rfl;have b3:=(hX.cell 3).trans rfl;have n0:=(hN.cell 0).trans rfl;have n3:=(hN.cell 3).trans rfl;have d0:=cell_regrown b0;have d1:=cell_regrown b1;have d2:=cell_regrown b2;have d3:=cell_regrown b3;have m0:=cell_regrown n0;have m3:=cell_regrown n3;have e5:=cell_regrown hOc;clear h hR hq hb1 hb0 hX hN how htx xI hp hpl;generalize eQ l p=ow at *
  generalize (ae l (p:Int)).kd=k at *
  generalize (ae l (p:Int)).tx=tx at *
  generalize (ae l (p:Int)).n=nn at *
  generalize (ae l (p:Int)).pl=pl at *
  generalize (ae l (p:Int)).ks.length=m at *
  have HI:∀W,Calls Tryz.prog 141 #[.int .i64 k] W (λe w'=>e=.returned (.bool true)/\W=w'):=λW=>(eX k W).mono λe w' q=>⟨by rw[q.1,hd],q.2.symm⟩
  clear hd b1 b2 b3 n3 hOc;go_enter Tryz.func142,Tryz.ntmps142
  go_wp2_with (go_at_call 141;refine(HI _).mono ?_);rintro e w2 ⟨rfl,rfl⟩;go_wp2;refine wp_region_quiet_below (by kernel_rfl) (by kernel_rfl) ?_
  repeat (go_big_quiet_step (first|fail))
  refine wpQuiet_nil ?_;intro _ hw';obtain⟨⟨dq,osq⟩,hw''⟩:=hw';subst hw'';have hbq:=below_regrown W1 dq osq;generalize grow (redrawn W1 dq) osq=w3 at *
  have HQ:=hid (bt HB1.out hbq);clear hbq;go_wp2
  go_ret
  exact⟨congrArg (λz=>Ending.returned (Value.bool z)) HR.out,HQ.out⟩
 |false=>
  by_cases h3:(ae l p).kd=3
  ·obtain⟨q,hq⟩:=EG hpl h3;have HM:=(h.below hb1).lookd (-1) (ae l p).tx (by decide) htx;have HP:=(h.below hb1).lookp1 (ae l p).tx htx;rw[hq]at HP;cases hg:qo l (-1) (ae l p).tx 0 with
   |some g=>
    rw[hg]at HM;have HR:=hid (show true=R by rw[hR,if_neg (by rw[hd];decide),if_pos h3,hg];rfl);have b0:=(hX.cell 0).trans rfl;have b1:=(hX.cell 1).trans rfl;have b2:=(hX.cell 2).trans rfl;have b3:=(hX.cell 3).trans rfl;have n0:=(hN.cell 0).trans rfl;have n3:=(hN.cell 3).trans rfl;clear h hR hq hb1 hb0 hX hN how htx xI hp hpl hg;generalize (ae l (p:Int)).kd=k at *
    generalize (ae l (p:Int)).tx=tx at *
    generalize (ae l (p:Int)).n=nn at *
    generalize (ae l (p:Int)).pl=pl at *
    generalize (ae l (p:Int)).ks.length=m at *
    have HI:∀W,Calls Tryz.prog 141 #[.int .i64 k] W (λe w'=>e=.returned (.bool false)/\W=w'):=λW=>(eX k W).mono λe w' q=>⟨by rw[q.1,hd],q.2.symm⟩
    clear hd;subst h3;go_enter Tryz.func142,Tryz.ntmps142
    go_wp2_with (go_at_call 141;refine(HI _).mono ?_);rintro e w2 ⟨rfl,rfl⟩;go_wp2
    go_ret
    exact⟨congrArg (λz=>Ending.returned (Value.bool z)) HR.out,HB1.out⟩
   |none=>
    rw[hg]at HM;have HR:=hid (show((q:Int) != (p:Int))=R by rw[hR,if_neg (by rw[hd];decide),if_pos h3,hg,hq,xB];rfl);have b0:=(hX.cell 0).trans rfl;have b1:=(hX.cell 1).trans rfl;have b2:=(hX.cell 2).trans rfl;have b3:=(hX.cell 3).trans rfl;have n0:=(hN.cell 0).trans rfl;have n3:=(hN.cell 3).trans rfl;clear h hR hq hb1 hb0 hX hN how htx xI hp hpl hg;generalize (ae l (p:Int)).kd=k at *
    generalize (ae l (p:Int)).tx=tx at *
    generalize (ae l (p:Int)).n=nn at *
    generalize (ae l (p:Int)).pl=pl at *
    generalize (ae l (p:Int)).ks.length=m at *
    have HI:∀W,Calls Tryz.prog 141 #[.int .i64 k] W (λe w'=>e=.returned (.bool false)/\W=w'):=λW=>(eX k W).mono λe w' q=>⟨by rw[q.1,hd],q.2.symm⟩
    clear hd;subst h3;go_enter Tryz.func142,Tryz.ntmps142
    go_wp2_with (go_at_call 141;refine(HI _).mono ?_);rintro e w2 ⟨rfl,rfl⟩;go_wp2
    go_ret
    exact⟨congrArg (λz=>Ending.returned (Value.bool z)) HR.out,HB1.out⟩
  ·have HR:=hid (show false=R by rw[hR,if_neg (by rw[hd];decide),if_neg h3]);have hk3:((ae l p).kd==3)=false:=beq_eq_false_iff_ne.2 h3;have b0:=(hX.cell 0).trans rfl;have b1:=(hX.cell 1).trans rfl;have b2:=(hX.cell 2).trans rfl;have b3:=(hX.cell 3).trans rfl;have n0:=(hN.cell 0).trans rfl;have n3:=(hN.cell 3).trans rfl;clear h hR hb1 hb0 hX hN how htx xI hp hpl h3;generalize (ae l (p:Int)).kd=k at *
   generalize (ae l (p:Int)).tx=tx at *
   generalize (ae l (p:Int)).n=nn at *
   generalize (ae l (p:Int)).pl=pl at *
   generalize (ae l (p:Int)).ks.length=m at *
   have HI:∀W,Calls Tryz.prog 141 #[.int .i64 k] W (λe w'=>e=.returned (.bool false)/\W=w'):=λW=>(eX k W).mono λe w' q=>⟨by rw[q.1,hd],q.2.symm⟩
   clear hd;go_enter Tryz.func142,Tryz.ntmps142
   go_wp2_with (go_at_call 141;refine(HI _).mono ?_);rintro e w2 ⟨rfl,rfl⟩;go_wp2
   go_ret
   exact⟨congrArg (λz=>Ending.returned (Value.bool z)) HR.out,HB1.out⟩
theorem sU (h:kX w l A n O bd bp)(c co p:Nat)(hp:p<n)(hF:Mw l p):Calls Tryz.prog 143 #[fJ A n c O co bd bp,.int .i64 (p:Int)] w (au (eT l p) w):=by
 unfold fJ;have hb0:=ag w (.cells #[.slice A n c,.slice O n co,.map (some bd),.map (some bp)] 83);have xl:p<l.length:=by rw[<- h.len];exact hp
 have xz:(p:Int)<(n:Int):=by omega
 obtain⟨bA,off,K,cK,rfl,xt,x0,x1,x2,x3,x4,xI⟩:=dE h.nds hb0 p xl;rw[<- aH xl]at x0 x1 x2 x3 x4 xI;have hb1:=bt hb0 (ag (w.alloc (.cells #[.slice (some ⟨bA,off,none⟩) n c,.slice O n co,.map (some bd),.map (some bp)] 83)) (.cells #[.int .i64 (ae l p).kd,.int .i64 (ae l p).n,.int .i64 (ae l p).pl,.string (ae l p).tx,.slice K (ae l p).ks.length cK] 37));have hX:=(Bx.new w 83 [.slice (some ⟨bA,off,none⟩) n c,.slice O n co,.map (some bd),.map (some bp)]).alloc (.cells #[.int .i64 (ae l p).kd,.int .i64 (ae l p).n,.int .i64 (ae l p).pl,.string (ae l p).tx,.slice K (ae l p).ks.length cK] 37);have hN:=Bx.new (w.alloc (.cells #[.slice (some ⟨bA,off,none⟩) n c,.slice O n co,.map (some bd),.map (some bp)] 83)) 37 [.int .i64 (ae l p).kd,.int .i64 (ae l p).n,.int .i64 (ae l p).pl,.string (ae l p).tx,.slice K (ae l p).ks.length cK];have hs1:(w.alloc (.cells #[.slice (some ⟨bA,off,none⟩) n c,.slice O n co,.map (some bd),.map (some bp)] 83)).heap.size=w.heap.size+1:=by rw[World.size_alloc]
 rw[hs1]at hN;have htx:=h.text _ (List.getElem_mem xl);rw[<- aH xl]at htx;have HB1:=hid hb1;have HX:=hid (And.intro hX hN);have HD:=hid (λW (hb:Below ((w.alloc (.cells #[.slice (some ⟨bA,off,none⟩) n c,.slice O n co,.map (some bd),.map (some bp)] 83)).alloc (.cells #[.int .i64 (ae l p).kd,.int .i64 (ae l p).n,.int .i64 (ae l p).pl,.string (ae l p).tx,.slice K (ae l p).ks.length cK] 37)).heap.size ((w.alloc (.cells #[.slice (some ⟨bA,off,none⟩) n c,.slice O n co,.map (some bd),.map (some bp)] 83)).alloc (.cells #[.int .i64 (ae l p).kd,.int .i64 (ae l p).n,.int .i64 (ae l p).pl,.string (ae l p).tx,.slice K (ae l p).ks.length cK] 37)) W) nm (hn:nm.size<=281474976710656)=>jH (h.below (bt hb1 hb)) c co p hp nm hn);have HP:=hid (λW (hb:Below ((w.alloc (.cells #[.slice (some ⟨bA,off,none⟩) n c,.slice O n co,.map (some bd),.map (some bp)] 83)).alloc (.cells #[.int .i64 (ae l p).kd,.int .i64 (ae l p).n,.int .i64 (ae l p).pl,.string (ae l p).tx,.slice K (ae l p).ks.length cK] 37)).heap.size ((w.alloc (.cells #[.slice (some ⟨bA,off,none⟩) n c,.slice O n co,.map (some bd),.map (some bp)] 83)).alloc (.cells #[.int .i64 (ae l p).kd,.int .i64 (ae l p).n,.int .i64 (ae l p).pl,.string (ae l p).tx,.slice K (ae l p).ks.length cK] 37)) W) nm (hn:nm.size<=281474976710656)=>iC (h.below (bt hb1 hb)) c co nm hn);have HC:=hid (λ(k:Nat) ks (hks:(ae l p).ks=(k:Int) :: ks) (hk:k<n)=>lV (h.below hb1) c co p k hp hks hk)
 have HNM:=hid (show∀(k:Nat) ks,(ae l p).ks=(k:Int) :: ks->k<n->(bC l p).size<=281474976710656 from λk ks hks hk=>by
  have hkl:k<l.length:=by rw[<- h.len];exact hk
  have e:bC l p=(ae l k).tx:=by unfold bC;rw[nu hks]
  rw[e,aH hkl]
  exact h.text _ (List.getElem_mem hkl))
 have HKR:=hid (h.kr hp);have HF:=hid hF;have HTX:=hid htx;unfold fJ at HD HP HC;obtain⟨R,hR⟩:∃R,R=eT l p:=⟨_,rfl⟩;rw[<- hR];unfold eT at hR;clear h hb0 hb1 hX hN xI hp htx hF xl;generalize ekd:(ae l (p:Int)).kd=k at *
 generalize etx:(ae l (p:Int)).tx=tx at *
 generalize (ae l (p:Int)).n=nn at *
 generalize (ae l (p:Int)).pl=pl at *
 generalize eks:(ae l (p:Int)).ks.length=m at *
 by_cases k22:k=22
 ·subst k22;have HR:=hid (show(a_ (eO l p tx) == -1)=R by rw[hR,if_pos (by decide)];exact dR _);have HCC:=hid (HD.out _ (Below.refl _ _) tx HTX.out);clear hR ekd etx eks HP HC HNM HKR HF;generalize a_ (eO l p tx)=zv at *
  go_enter Tryz.func143,Tryz.ntmps143
  go_wp2_with (go_at_call 89;refine HCC.out.mono ?_);rintro e w2 ⟨rfl,hb2⟩;have HB2:=hid (bt HB1.out hb2);clear hb2;go_wp2
  go_ret
  exact⟨congrArg (λz=>Ending.returned (Value.bool z)) HR.out,HB2.out⟩
 have f22:(k==22)=false:=beq_eq_false_iff_ne.2 k22;by_cases k23:k=23
 ·subst k23;have HR:=hid (show(a_ (eO l p tx) == -1)=R by rw[hR,if_pos (by decide)];exact dR _);have HCC:=hid (HD.out _ (Below.refl _ _) tx HTX.out);clear hR ekd etx eks HP HC HNM HKR HF;generalize a_ (eO l p tx)=zv at *
  go_enter Tryz.func143,Tryz.ntmps143
  go_wp2_with (go_at_call 89;refine HCC.out.mono ?_);rintro e w2 ⟨rfl,hb2⟩;have HB2:=hid (bt HB1.out hb2);clear hb2;go_wp2
  go_ret
  exact⟨congrArg (λz=>Ending.returned (Value.bool z)) HR.out,HB2.out⟩
 have f23:(k==23)=false:=beq_eq_false_iff_ne.2 k23;by_cases k24:k=24
 ·subst k24;have HR:=hid (show(a_ (eO l p tx) == -1)=R by rw[hR,if_pos (by decide)];exact dR _);have HCC:=hid (HD.out _ (Below.refl _ _) tx HTX.out);clear hR ekd etx eks HP HC HNM HKR HF;generalize a_ (eO l p tx)=zv at *
  go_enter Tryz.func143,Tryz.ntmps143
  go_wp2_with (go_at_call 89;refine HCC.out.mono ?_);rintro e w2 ⟨rfl,hb2⟩;have HB2:=hid (bt HB1.out hb2);clear hb2;go_wp2
  go_ret
  exact⟨congrArg (λz=>Ending.returned (Value.bool z)) HR.out,HB2.out⟩
 have f24:(k==24)=false:=beq_eq_false_iff_ne.2 k24;by_cases k7:k=7
 ·subst k7;have HR:=hid (show(a_ (eO l p tx) == -1)=R by rw[hR,if_pos (by decide)];exact dR _);have HCC:=hid (HD.out _ (Below.refl _ _) tx HTX.out);clear hR ekd etx eks HP HC HNM HKR HF;generalize a_ (eO l p tx)=zv at *
  go_enter Tryz.func143,Tryz.ntmps143
  go_wp2_with (go_at_call 89;refine HCC.out.mono ?_);rintro e w2 ⟨rfl,hb2⟩;have HB2:=hid (bt HB1.out hb2);clear hb2;go_wp2
  go_ret
  exact⟨congrArg (λz=>Ending.returned (Value.bool z)) HR.out,HB2.out⟩
 have f7:(k==7)=false:=beq_eq_false_iff_ne.2 k7;by_cases k8:k=8
 ·subst k8;have HR:=hid (show(a_ (eO l p tx) == -1)=R by rw[hR,if_pos (by decide)];exact dR _);have HCC:=hid (HD.out _ (Below.refl _ _) tx HTX.out);clear hR ekd etx eks HP HC HNM HKR HF;generalize a_ (eO l p tx)=zv at *
  go_enter Tryz.func143,Tryz.ntmps143
  go_wp2_with (go_at_call 89;refine HCC.out.mono ?_);rintro e w2 ⟨rfl,hb2⟩;have HB2:=hid (bt HB1.out hb2);clear hb2;go_wp2
  go_ret
  exact⟨congrArg (λz=>Ending.returned (Value.bool z)) HR.out,HB2.out⟩
 have f8:(k==8)=false:=beq_eq_false_iff_ne.2 k8;by_cases k17:k=17
 ·subst k17;have HR:=hid (show(a_ (eO l p tx) == -1)=R by rw[hR,if_pos (by decide)];exact dR _);have HCC:=hid (HD.out _ (Below.refl _ _) tx HTX.out);clear hR ekd etx eks HP HC HNM HKR HF;generalize a_ (eO l p tx)=zv at *
  go_enter Tryz.func143,Tryz.ntmps143
  go_wp2_with (go_at_call 89;refine HCC.out.mono ?_);rintro e w2 ⟨rfl,hb2⟩;have HB2:=hid (bt HB1.out hb2);clear hb2;go_wp2
  go_ret
  exact⟨congrArg (λz=>Ending.returned (Value.bool z)) HR.out,HB2.out⟩
 have f17:(k==17)=false:=beq_eq_false_iff_ne.2 k17;by_cases k9:k=9
 ·subst k9;have HR:=hid (show(a_ (eO l p tx) == -1)=R by rw[hR,if_pos (by decide)];exact dR _);have HCC:=hid (HD.out _ (Below.refl _ _) tx HTX.out);clear hR ekd etx eks HP HC HNM HKR HF;generalize a_ (eO l p tx)=zv at *
  go_enter Tryz.func143,Tryz.ntmps143
  go_wp2_with (go_at_call 89;refine HCC.out.mono ?_);rintro e w2 ⟨rfl,hb2⟩;have HB2:=hid (bt HB1.out hb2);clear hb2;go_wp2
  go_ret
  exact⟨congrArg (λz=>Ending.returned (Value.bool z)) HR.out,HB2.out⟩
 have f9:(k==9)=false:=beq_eq_false_iff_ne.2 k9;by_cases k16:k=16
 ·subst k16;have HR:=hid (show(a_ (eO l p tx) == -1)=R by rw[hR,if_pos (by decide)];exact dR _);have HCC:=hid (HD.out _ (Below.refl _ _) tx HTX.out);clear hR ekd etx eks HP HC HNM HKR HF;generalize a_ (eO l p tx)=zv at *
  go_enter Tryz.func143,Tryz.ntmps143
  go_wp2_with (go_at_call 89;refine HCC.out.mono ?_);rintro e w2 ⟨rfl,hb2⟩;have HB2:=hid (bt HB1.out hb2);clear hb2;go_wp2
  go_ret
  exact⟨congrArg (λz=>Ending.returned (Value.bool z)) HR.out,HB2.out⟩
 have f16:(k==16)=false:=beq_eq_false_iff_ne.2 k16;rw[if_neg (by omega)]at hR;by_cases k25:k=25
 ·subst k25;have HR:=hid (show(a_ (ic l tx 0) == -1)=R by rw[hR,if_pos rfl];exact dR _);have HCC:=hid (HP.out _ (Below.refl _ _) tx HTX.out);clear hR ekd etx eks HD HC HNM HKR HF;generalize a_ (ic l tx 0)=zv at *
  go_enter Tryz.func143,Tryz.ntmps143
  go_wp2_with (go_at_call 91;refine HCC.out.mono ?_);rintro e w2 ⟨rfl,hb2⟩;have HB2:=hid (bt HB1.out hb2);clear hb2;go_wp2
  go_ret
  exact⟨congrArg (λz=>Ending.returned (Value.bool z)) HR.out,HB2.out⟩
 have f25:(k==25)=false:=beq_eq_false_iff_ne.2 k25;rw[if_neg k25]at hR;by_cases k13:k=13
 ·subst k13;rw[if_pos rfl]at hR;obtain⟨k0,ks0,hks0⟩:=HF.out.one (by omega);obtain⟨hk0,hk1⟩:=HKR.out k0 (by rw[hks0];exact List.mem_cons_self ..);obtain⟨k,rfl⟩:∃k:Nat,k0=(k:Int):=⟨k0.toNat,by omega⟩;have hkn:k<n:=by omega
  have HCN:=hid (HC.out k ks0 hks0 hkn);have HNS:=hid (HNM.out k ks0 hks0 hkn);clear HC HNM HKR HF hks0 hk0 hk1 hkn ekd etx eks;generalize bC l p=nm at *
  cases hd:eO l p nm with
  |some q=>
   have hqz:((q:Int) == -1)=false:=beq_eq_false_iff_ne.2 (by omega);go_enter Tryz.func143,Tryz.ntmps143
   go_wp2_with (go_at_call 218;refine HCN.out.mono ?_);rintro e w2 ⟨rfl,hb2⟩;have HB2:=hid hb2;have hBa:=HX.out.1.below hb2 HX.out.1.lt;have hNa:=HX.out.2.below hb2 HX.out.2.lt;have c0:=(hBa.cell 0).trans rfl;have c1:=(hBa.cell 1).trans rfl;have c2:=(hBa.cell 2).trans rfl;have c3:=(hBa.cell 3).trans rfl;have cn:=(hNa.cell 3).trans rfl;clear hBa hNa;have HCD:=hid (HD.out _ hb2 nm HNS.out);clear hb2;rw[hd,show a_ (some q)=(q:Int)from rfl]at HCD;go_wp2_with (go_at_call 89;refine HCD.out.mono ?_);rintro e w3 ⟨rfl,hb3⟩;have HB3:=hid (bt HB2.out hb3);have hb13:=bt HB2.out hb3;clear c0 c1 c2 c3 cn;have hBa:=HX.out.1.below hb13 HX.out.1.lt;have hNa:=HX.out.2.below hb13 HX.out.2.lt;have d0:=(hBa.cell 0).trans rfl;have d1:=(hBa.cell 1).trans rfl;have d2:=(hBa.cell 2).trans rfl;have d3:=(hBa.cell 3).trans rfl;have dn:=(hNa.cell 3).trans rfl;clear hBa hNa;clear hb3 hb13;by_cases htx:tx=⟨#[]⟩
   ·have HR:=hid (show false=R by rw[hR,hd,htx];simp);clear hR;subst htx;go_wp2
    go_ret
    exact⟨congrArg (λz=>Ending.returned (Value.bool z)) HR.out,bt HB1.out HB3.out⟩
   ·have hte:(tx.toList==[])=false:=eU htx;have HR:=hid (show(a_ (eO l p tx) == -1)=R by rw[hR,hd,dR];simp[htx]);have HCE:=hid (HD.out _ HB3.out tx HTX.out);clear hR;generalize a_ (eO l p tx)=zt at *
    go_wp2_with (go_at_call 89;refine HCE.out.mono ?_);rintro e w5 ⟨rfl,hb5⟩;have HB5:=hid (bt HB1.out (bt HB3.out hb5));clear hb5;go_wp2
    go_ret
    exact⟨congrArg (λz=>Ending.returned (Value.bool z)) HR.out,HB5.out⟩
  |none=>
   go_enter Tryz.func143,Tryz.ntmps143
   go_wp2_with (go_at_call 218;refine HCN.out.mono ?_);rintro e w2 ⟨rfl,hb2⟩;have HB2:=hid hb2;have hBa:=HX.out.1.below hb2 HX.out.1.lt;have hNa:=HX.out.2.below hb2 HX.out.2.lt;have c0:=(hBa.cell 0).trans rfl;have c1:=(hBa.cell 1).trans rfl;have c2:=(hBa.cell 2).trans rfl;have c3:=(hBa.cell 3).trans rfl;have cn:=(hNa.cell 3).trans rfl;clear hBa hNa;have HCD:=hid (HD.out _ hb2 nm HNS.out);clear hb2;rw[hd,show a_ none = -1 from rfl]at HCD;go_wp2_with (go_at_call 89;refine HCD.out.mono ?_);rintro e w3 ⟨rfl,hb3⟩;have HB3:=hid (bt HB2.out hb3);have hb13:=bt HB2.out hb3;clear c0 c1 c2 c3 cn;have hBa:=HX.out.1.below hb13 HX.out.1.lt;have hNa:=HX.out.2.below hb13 HX.out.2.lt;have d0:=(hBa.cell 0).trans rfl;have d1:=(hBa.cell 1).trans rfl;have d2:=(hBa.cell 2).trans rfl;have d3:=(hBa.cell 3).trans rfl;have dn:=(hNa.cell 3).trans rfl;clear hBa hNa;clear hb3 hb13;have HCP:=hid (HP.out _ HB3.out nm HNS.out);cases hp2:ic l nm 0 with
   |none=>
    rw[hp2,show a_ none = -1 from rfl]at HCP;have HR:=hid (show true=R by rw[hR,hd,hp2];simp);clear hR;go_wp2_with (go_at_call 91;refine HCP.out.mono ?_);rintro e w4 ⟨rfl,hb4⟩;have HB4:=hid (bt HB3.out hb4);clear hb4;go_wp2
    go_ret
    exact⟨congrArg (λz=>Ending.returned (Value.bool z)) HR.out,bt HB1.out HB4.out⟩
   |some q=>
    rw[hp2,show a_ (some q)=(q:Int)from rfl]at HCP;have hqz:((q:Int) == -1)=false:=beq_eq_false_iff_ne.2 (by omega);go_wp2_with (go_at_call 91;refine HCP.out.mono ?_);rintro e w4 ⟨rfl,hb4⟩;have HB4:=hid (bt HB3.out hb4);have hb14:=bt HB3.out hb4;clear d0 d1 d2 d3 dn;have hBa:=HX.out.1.below hb14 HX.out.1.lt;have hNa:=HX.out.2.below hb14 HX.out.2.lt;have g0:=(hBa.cell 0).trans rfl;have g1:=(hBa.cell 1).trans rfl;have g2:=(hBa.cell 2).trans rfl;have g3:=(hBa.cell 3).trans rfl;have gn:=(hNa.cell 3).trans rfl;clear hBa hNa;clear hb4 hb14;by_cases htx:tx=⟨#[]⟩
    ·have HR:=hid (show false=R by rw[hR,hd,hp2,htx];simp);clear hR;subst htx;go_wp2
     go_ret
     exact⟨congrArg (λz=>Ending.returned (Value.bool z)) HR.out,bt HB1.out HB4.out⟩
    ·have hte:(tx.toList==[])=false:=eU htx;have HR:=hid (show(a_ (eO l p tx) == -1)=R by rw[hR,hd,hp2,dR];simp[htx]);have HCE:=hid (HD.out _ HB4.out tx HTX.out);clear hR;generalize a_ (eO l p tx)=zt at *
     go_wp2_with (go_at_call 89;refine HCE.out.mono ?_);rintro e w5 ⟨rfl,hb5⟩;have HB5:=hid (bt HB1.out (bt HB4.out hb5));clear hb5;go_wp2
     go_ret
     exact⟨congrArg (λz=>Ending.returned (Value.bool z)) HR.out,HB5.out⟩
 have f13:(k==13)=false:=beq_eq_false_iff_ne.2 k13;rw[if_neg k13]at hR;have HR:=hid hR.symm;clear hR HD HP HC HNM HKR HF HTX ekd etx eks k22 k23 k24 k7 k8 k17 k9 k16 k25 k13;go_enter Tryz.func143,Tryz.ntmps143
 go_wp2
 go_ret
 exact⟨congrArg (λz=>Ending.returned (Value.bool z)) HR.out,HB1.out⟩
end
end
section
open Go Go.RowKit Go.Sort
open Tr (Bx ag bt bu Ints aG au)
section
variable {w:World} {l:List Tr.Nd} {A O:Option Addr} {n bd bp:Nat}
theorem rZ (h:kX w l A n O bd bp)(hcp:n_ w A l)(c co p:Nat)(hp:p<n)(hF:Mw l p)(hu:eT l p=false):Calls Tryz.prog 144 #[fJ A n c O co bd bp,.int .i64 (p:Int)] w (au (f_ l p) w):=by
 unfold fJ;have hb0:=ag w (.cells #[.slice A n c,.slice O n co,.map (some bd),.map (some bp)] 83);have xl:p<l.length:=by rw[<- h.len];exact hp
 have xz:(p:Int)<(n:Int):=by omega
 obtain⟨bA,off,K,cK,rfl,xt,x0,x1,x2,x3,x4,xI⟩:=dE h.nds hb0 p xl;rw[<- aH xl]at x0 x1 x2 x3 x4 xI;have hb1:=bt hb0 (ag (w.alloc (.cells #[.slice (some ⟨bA,off,none⟩) n c,.slice O n co,.map (some bd),.map (some bp)] 83)) (.cells #[.int .i64 (ae l p).kd,.int .i64 (ae l p).n,.int .i64 (ae l p).pl,.string (ae l p).tx,.slice K (ae l p).ks.length cK] 37));have hX:=(Bx.new w 83 [.slice (some ⟨bA,off,none⟩) n c,.slice O n co,.map (some bd),.map (some bp)]).alloc (.cells #[.int .i64 (ae l p).kd,.int .i64 (ae l p).n,.int .i64 (ae l p).pl,.string (ae l p).tx,.slice K (ae l p).ks.length cK] 37);have hN:=Bx.new (w.alloc (.cells #[.slice (some ⟨bA,off,none⟩) n c,.slice O n co,.map (some bd),.map (some bp)] 83)) 37 [.int .i64 (ae l p).kd,.int .i64 (ae l p).n,.int .i64 (ae l p).pl,.string (ae l p).tx,.slice K (ae l p).ks.length cK];have hs1:(w.alloc (.cells #[.slice (some ⟨bA,off,none⟩) n c,.slice O n co,.map (some bd),.map (some bp)] 83)).heap.size=w.heap.size+1:=by rw[World.size_alloc]
 rw[hs1]at hN;have htx:=h.text _ (List.getElem_mem xl);rw[<- aH xl]at htx;obtain⟨W1,hW1⟩:∃W1,(w.alloc (.cells #[.slice (some ⟨bA,off,none⟩) n c,.slice O n co,.map (some bd),.map (some bp)] 83)).alloc (.cells #[.int .i64 (ae l p).kd,.int .i64 (ae l p).n,.int .i64 (ae l p).pl,.string (ae l p).tx,.slice K (ae l p).ks.length cK] 37)=W1:=⟨_,rfl⟩;rw[hW1]at hb1 hX hN;have HB1:=hid hb1;have HX:=hid (And.intro hX hN);have HV:=hid (λW (hb:Below W1.heap.size W1 W)=>kR (h.below (bt hb1 hb)) c co p hp);have HT:=hid (λW (hb:Below W1.heap.size W1 W) (k:Nat) (hk:k<n)=>mq (h.below (bt hb1 hb)) c co k hk);have HA:=hid (λW (hb:Below W1.heap.size W1 W)=>rW (h.below (bt hb1 hb)) c co K (ae l p).ks.length cK (ae l p).ks 1 (xI.below (bt hb1 hb)) rfl (h.kr hp) (h.kl hp));have HS:=hid (vG (h.below hb1) c co p hp K (ae l p).ks.length cK (xI.below hb1) rfl);have HP:=hid (λW (hb:Below W1.heap.size W1 W)=>iC (h.below (bt hb1 hb)) c co (ae l p).tx htx);have HQ:=hid (λW (hb:Below W1.heap.size W1 W) (q:Nat) (hq:q<n)=>xq (h.below (bt hb1 hb)) c co q hq);have HR2:=hid (λ(m:Nat) (how:eQ l p=(m:Int)) (hm:m<n)=>rY (h.below hb1) c co p m hp how hm);have HLC:=hid (show∀q,ic l (ae l p).tx 0=some q->q<n from λq hq=>by rw[h.len];exact(lT hq).1)
 have HCL:=hid (λ(k:Nat) ks (hks:(ae l p).ks=(k:Int) :: ks) (hk:k<n) (hkd:(ae l p).kd=13) (hun:eO l p (bC l p)≠none\/ic l (bC l p) 0≠none)=>vH (h.below hb1) (hcp.below h.nds hb1) c co p k hp hkd ks hks hk hun);have HLN:=hid h.len;have HKR:=hid (h.kr hp);have HF:=hid hF;have HXI:=hid (λW (hb:Below W1.heap.size W1 W)=>xI.below (bt hb1 hb));unfold fJ at HV HT HA HS HP HQ HR2 HCL;obtain⟨R,hR⟩:∃R,R=f_ l p:=⟨_,rfl⟩;rw[<- hR];unfold f_ at hR;have HU:=hid hu;unfold eT at hu;clear h hcp hb0 hb1 hX hN xI hp htx hF hs1;have HXL:=hid xl;clear xl;generalize ekd:(ae l (p:Int)).kd=k at *
 generalize etx:(ae l (p:Int)).tx=tx at *
 generalize enn:(ae l (p:Int)).n=nn at *
 generalize epl:(ae l (p:Int)).pl=pl at *
 generalize eks:(ae l (p:Int)).ks.length=m at *
 have b0:=(HX.out.1.cell 0).trans rfl;have b1:=(HX.out.1.cell 1).trans rfl;have b2:=(HX.out.1.cell 2).trans rfl;have b3:=(HX.out.1.cell 3).trans rfl;have n0:=(HX.out.2.cell 0).trans rfl;have n1:=(HX.out.2.cell 1).trans rfl;have n2:=(HX.out.2.cell 2).trans rfl;have n3:=(HX.out.2.cell 3).trans rfl;have n4:=(HX.out.2.cell 4).trans rfl;by_cases k23:k=23
 ·subst k23;have hR2:R=(!decide (jo l p=3) || !(dU l (ae l p).ks 1)):=by rw[hR,if_pos (by decide)]
  have HVC:=hid (HV.out _ (Below.refl _ _));clear HV HT HS HP HQ HR2 HLC HCL HKR HF HXI HU HLN HXL hu hR ekd etx enn epl eks;generalize jo l p=vt at *
  by_cases hv:vt=3
  ·subst hv;have HR:=hid (show(!(dU l (ae l p).ks 1))=R by rw[hR2];simp);clear hR2;generalize dU l (ae l p).ks 1=ar at *
   go_enter Tryz.func144,Tryz.ntmps144
   go_wp2_with (go_at_call 154;refine HVC.out.mono ?_);rintro e w2 ⟨rfl,hb2⟩;have HB2:=hid hb2;have HAC:=hid (HA.out _ hb2);have hBa:=HX.out.1.below hb2 HX.out.1.lt;have hNa:=HX.out.2.below hb2 HX.out.2.lt;have c0:=(hBa.cell 0).trans rfl;have c1:=(hBa.cell 1).trans rfl;have c2:=(hBa.cell 2).trans rfl;have c3:=(hBa.cell 3).trans rfl;have cn4:=(hNa.cell 4).trans rfl;clear hBa hNa;clear hb2;go_wp2_with (go_at_call 219;refine HAC.out.mono ?_);rintro e w3 ⟨rfl,hb3⟩;have HB3:=hid (bt HB2.out hb3);clear hb3;go_wp2
   go_ret
   exact⟨congrArg (λz=>Ending.returned (Value.bool z)) HR.out,bt HB1.out HB3.out⟩
  ·have hvz:(vt != 3)=true:=by simp[hv]
   have HR:=hid (show true=R by rw[hR2];simp[hv]);clear hR2 hv;go_enter Tryz.func144,Tryz.ntmps144
   go_wp2_with (go_at_call 154;refine HVC.out.mono ?_);rintro e w2 ⟨rfl,hb2⟩;have HB2:=hid hb2;clear hb2;go_wp2
   go_ret
   exact⟨congrArg (λz=>Ending.returned (Value.bool z)) HR.out,bt HB1.out HB2.out⟩
 have f23:(k==23)=false:=beq_eq_false_iff_ne.2 k23;by_cases k24:k=24
 ·subst k24;have hR2:R=(!decide (jo l p=3) || !(dU l (ae l p).ks 1)):=by rw[hR,if_pos (by decide)]
  have HVC:=hid (HV.out _ (Below.refl _ _));clear HV HT HS HP HQ HR2 HLC HCL HKR HF HXI HU HLN HXL hu hR ekd etx enn epl eks;generalize jo l p=vt at *
  by_cases hv:vt=3
  ·subst hv;have HR:=hid (show(!(dU l (ae l p).ks 1))=R by rw[hR2];simp);clear hR2;generalize dU l (ae l p).ks 1=ar at *
   go_enter Tryz.func144,Tryz.ntmps144
   go_wp2_with (go_at_call 154;refine HVC.out.mono ?_);rintro e w2 ⟨rfl,hb2⟩;have HB2:=hid hb2;have HAC:=hid (HA.out _ hb2);have hBa:=HX.out.1.below hb2 HX.out.1.lt;have hNa:=HX.out.2.below hb2 HX.out.2.lt;have c0:=(hBa.cell 0).trans rfl;have c1:=(hBa.cell 1).trans rfl;have c2:=(hBa.cell 2).trans rfl;have c3:=(hBa.cell 3).trans rfl;have cn4:=(hNa.cell 4).trans rfl;clear hBa hNa;clear hb2;go_wp2_with (go_at_call 219;refine HAC.out.mono ?_);rintro e w3 ⟨rfl,hb3⟩;have HB3:=hid (bt HB2.out hb3);clear hb3;go_wp2
   go_ret
   exact⟨congrArg (λz=>Ending.returned (Value.bool z)) HR.out,bt HB1.out HB3.out⟩
  ·have hvz:(vt != 3)=true:=by simp[hv]
   have HR:=hid (show true=R by rw[hR2];simp[hv]);clear hR2 hv;go_enter Tryz.func144,Tryz.ntmps144
   go_wp2_with (go_at_call 154;refine HVC.out.mono ?_);rintro e w2 ⟨rfl,hb2⟩;have HB2:=hid hb2;clear hb2;go_wp2
   go_ret
   exact⟨congrArg (λz=>Ending.returned (Value.bool z)) HR.out,bt HB1.out HB2.out⟩
 have f24:(k==24)=false:=beq_eq_false_iff_ne.2 k24;by_cases k8:k=8
 ·subst k8;have hR2:R=(!decide (jo l p=3) || !(dU l (ae l p).ks 1)):=by rw[hR,if_pos (by decide)]
  have HVC:=hid (HV.out _ (Below.refl _ _));clear HV HT HS HP HQ HR2 HLC HCL HKR HF HXI HU HLN HXL hu hR ekd etx enn epl eks;generalize jo l p=vt at *
  by_cases hv:vt=3
  ·subst hv;have HR:=hid (show(!(dU l (ae l p).ks 1))=R by rw[hR2];simp);clear hR2;generalize dU l (ae l p).ks 1=ar at *
   go_enter Tryz.func144,Tryz.ntmps144
   go_wp2_with (go_at_call 154;refine HVC.out.mono ?_);rintro e w2 ⟨rfl,hb2⟩;have HB2:=hid hb2;have HAC:=hid (HA.out _ hb2);have hBa:=HX.out.1.below hb2 HX.out.1.lt;have hNa:=HX.out.2.below hb2 HX.out.2.lt;have c0:=(hBa.cell 0).trans rfl;have c1:=(hBa.cell 1).trans rfl;have c2:=(hBa.cell 2).trans rfl;have c3:=(hBa.cell 3).trans rfl;have cn4:=(hNa.cell 4).trans rfl;clear hBa hNa;clear hb2;go_wp2_with (go_at_call 219;refine HAC.out.mono ?_);rintro e w3 ⟨rfl,hb3⟩;have HB3:=hid (bt HB2.out hb3);clear hb3;go_wp2
   go_ret
   exact⟨congrArg (λz=>Ending.returned (Value.bool z)) HR.out,bt HB1.out HB3.out⟩
  ·have hvz:(vt != 3)=true:=by simp[hv]
   have HR:=hid (show true=R by rw[hR2];simp[hv]);clear hR2 hv;go_enter Tryz.func144,Tryz.ntmps144
   go_wp2_with (go_at_call 154;refine HVC.out.mono ?_);rintro e w2 ⟨rfl,hb2⟩;have HB2:=hid hb2;clear hb2;go_wp2
   go_ret
   exact⟨congrArg (λz=>Ending.returned (Value.bool z)) HR.out,bt HB1.out HB2.out⟩
 have f8:(k==8)=false:=beq_eq_false_iff_ne.2 k8;by_cases k17:k=17
 ·subst k17;have hR2:R=(!decide (jo l p=3) || !(dU l (ae l p).ks 1)):=by rw[hR,if_pos (by decide)]
  have HVC:=hid (HV.out _ (Below.refl _ _));clear HV HT HS HP HQ HR2 HLC HCL HKR HF HXI HU HLN HXL hu hR ekd etx enn epl eks;generalize jo l p=vt at *
  by_cases hv:vt=3
  ·subst hv;have HR:=hid (show(!(dU l (ae l p).ks 1))=R by rw[hR2];simp);clear hR2;generalize dU l (ae l p).ks 1=ar at *
   go_enter Tryz.func144,Tryz.ntmps144
   go_wp2_with (go_at_call 154;refine HVC.out.mono ?_);rintro e w2 ⟨rfl,hb2⟩;have HB2:=hid hb2;have HAC:=hid (HA.out _ hb2);have hBa:=HX.out.1.below hb2 HX.out.1.lt;have hNa:=HX.out.2.below hb2 HX.out.2.lt;have c0:=(hBa.cell 0).trans rfl;have c1:=(hBa.cell 1).trans rfl;have c2:=(hBa.cell 2).trans rfl;have c3:=(hBa.cell 3).trans rfl;have cn4:=(hNa.cell 4).trans rfl;clear hBa hNa;clear hb2;go_wp2_with (go_at_call 219;refine HAC.out.mono ?_);rintro e w3 ⟨rfl,hb3⟩;have HB3:=hid (bt HB2.out hb3);clear hb3;go_wp2
   go_ret
   exact⟨congrArg (λz=>Ending.returned (Value.bool z)) HR.out,bt HB1.out HB3.out⟩
  ·have hvz:(vt != 3)=true:=by simp[hv]
   have HR:=hid (show true=R by rw[hR2];simp[hv]);clear hR2 hv;go_enter Tryz.func144,Tryz.ntmps144
   go_wp2_with (go_at_call 154;refine HVC.out.mono ?_);rintro e w2 ⟨rfl,hb2⟩;have HB2:=hid hb2;clear hb2;go_wp2
   go_ret
   exact⟨congrArg (λz=>Ending.returned (Value.bool z)) HR.out,bt HB1.out HB2.out⟩
 have f17:(k==17)=false:=beq_eq_false_iff_ne.2 k17;rw[if_neg (by omega)]at hR;by_cases k25:k=25
 ·subst k25;rw[if_pos rfl]at hR;rw[if_neg (by decide),if_pos rfl]at hu;cases hq:ic l tx 0 with
  |none=>rw[hq]at hu;cases hu
  |some q=>
   have hqn:=HLC.out q (by rw[<- hq,<- etx]);have HR:=hid (show(!(pR l (q:Int)))=R by rw[hR,hq];rfl);have c1q:∀d os,Calls Tryz.prog 91 #[.agg #[.slice (some ⟨bA,off,none⟩) n c,.slice O n co,.map (some bd),.map (some bp)],.string tx] (grow (redrawn W1 d) os) λe w''=>e=.returned (.int .i64 (q:Int))/\∃p:Regrown,w''=grow (redrawn W1 p.d) p.os:=λd os=>Calls.regrown_of (by have t:=HP.out _ (below_regrown W1 d os);rw[hq]at t;exact t)
   have c2q:∀d os,Calls Tryz.prog 92 #[.agg #[.slice (some ⟨bA,off,none⟩) n c,.slice O n co,.map (some bd),.map (some bp)],.int .i64 (q:Int)] (grow (redrawn W1 d) os) λe w''=>e=.returned (.bool (pR l (q:Int)))/\∃p:Regrown,w''=grow (redrawn W1 p.d) p.os:=λd os=>Calls.regrown_of (HQ.out _ (below_regrown W1 d os) q hqn)
   have d0:=cell_regrown b0;have d1:=cell_regrown b1;have d2:=cell_regrown b2;have d3:=cell_regrown b3;have m3:=cell_regrown n3;clear HV HT HA HS HP HQ HR2 HLC HCL HKR HF HXI HU HLN HXL hu hR ekd etx enn epl eks;clear hq hqn;generalize pR l (q:Int)=pb at *
   go_enter Tryz.func144,Tryz.ntmps144
   go_wp2;refine wp_region_quiet_below (by kernel_rfl) (by kernel_rfl) ?_
   repeat (go_big_quiet_step (first|exact c1q _ _ |exact c2q _ _))
   refine wpQuiet_nil ?_;intro _ hw';obtain⟨⟨dq,osq⟩,hw''⟩:=hw';subst hw'';have hbq:=below_regrown W1 dq osq;generalize grow (redrawn W1 dq) osq=w2 at *
   have HB2:=hid hbq;clear hbq c1q c2q;go_wp2
   go_ret
   exact⟨congrArg (λz=>Ending.returned (Value.bool z)) HR.out,bt HB1.out HB2.out⟩
 have f25:(k==25)=false:=beq_eq_false_iff_ne.2 k25;rw[if_neg k25]at hR;by_cases k26:k=26
 ·subst k26;have HR:=hid (show(!kQ l p)=R by rw[hR,if_pos (by decide)]);have HCC:=hid (HS.out);clear HV HT HA HS HP HQ HR2 HLC HCL HKR HF HXI HU HLN HXL hu hR ekd etx enn epl eks;generalize kQ l p=ar at *
  go_enter Tryz.func144,Tryz.ntmps144
  go_wp2_with (go_at_call 220;refine HCC.out.mono ?_);rintro e w2 ⟨rfl,hb2⟩;have HB2:=hid hb2;clear hb2;go_wp2
  go_ret
  exact⟨congrArg (λz=>Ending.returned (Value.bool z)) HR.out,bt HB1.out HB2.out⟩
 have f26:(k==26)=false:=beq_eq_false_iff_ne.2 k26;by_cases k27:k=27
 ·subst k27;have HR:=hid (show(!kQ l p)=R by rw[hR,if_pos (by decide)]);have HCC:=hid (HS.out);clear HV HT HA HS HP HQ HR2 HLC HCL HKR HF HXI HU HLN HXL hu hR ekd etx enn epl eks;generalize kQ l p=ar at *
  go_enter Tryz.func144,Tryz.ntmps144
  go_wp2_with (go_at_call 220;refine HCC.out.mono ?_);rintro e w2 ⟨rfl,hb2⟩;have HB2:=hid hb2;clear hb2;go_wp2
  go_ret
  exact⟨congrArg (λz=>Ending.returned (Value.bool z)) HR.out,bt HB1.out HB2.out⟩
 have f27:(k==27)=false:=beq_eq_false_iff_ne.2 k27;rw[if_neg (by omega)]at hR;by_cases k7:k=7
 ·subst k7;obtain⟨kz,kr,hks⟩:=HF.out.one (by omega);have hkz:=HKR.out kz (by rw[hks];simp);obtain⟨kk,rfl⟩:∃kk:Nat,kz=(kk:Int):=⟨kz.toNat,by omega⟩;have hkn:kk<n:=by omega
  have hml:0<(ae l p).ks.length:=by rw[hks];simp
  obtain⟨bk,ok,rfl,hbk,hck⟩:=HXI.out _ (Below.refl _ _) (Nat.lt_of_le_of_lt (Nat.zero_le _) hml);have hkc:W1.cell? ⟨bk,ok,none⟩=some (.int .i64 (kk:Int)):=by have t:=hck 0 hml;simp only[hks]at t;exact t
  have hkk:dH l p 0=(kk:Int):=nu hks;have hmz:(0:Int)<(m:Int):=by rw[<- eks];exact Int.ofNat_lt.2 hml
  have hm1:((m:Nat):Int)=(m:Int):=rfl;have hkr:=cell_regrown hkc;have HR:=hid (show(jo l p != aC l kk)=R by rw[hR,if_pos rfl,hkk,Int.toNat_natCast,Bool.eq_iff_iff];simp);have ck:∀d os,Calls Tryz.prog 94 #[.agg #[.slice (some ⟨bA,off,none⟩) n c,.slice O n co,.map (some bd),.map (some bp)],.int .i64 (kk:Int)] (grow (redrawn W1 d) os) λe w''=>e=.returned (.int .i64 (aC l kk))/\∃p:Regrown,w''=grow (redrawn W1 p.d) p.os:=λd os=>Calls.regrown_of (HT.out _ (below_regrown W1 d os) kk hkn)
  have cv:∀d os,Calls Tryz.prog 154 #[.agg #[.slice (some ⟨bA,off,none⟩) n c,.slice O n co,.map (some bd),.map (some bp)],.int .i64 (p:Int)] (grow (redrawn W1 d) os) λe w''=>e=.returned (.int .i64 (jo l p))/\∃p:Regrown,w''=grow (redrawn W1 p.d) p.os:=λd os=>Calls.regrown_of (HV.out _ (below_regrown W1 d os))
  have d0:=cell_regrown b0;have d1:=cell_regrown b1;have d2:=cell_regrown b2;have d3:=cell_regrown b3;have m4:=cell_regrown n4;clear HV HT HA HS HP HQ HR2 HLC HCL HKR HF HXI HU HLN HXL hu hR ekd etx enn epl eks;clear hks hkz hkn hml hbk hck hkc hkk hm1;generalize aC l kk=ty at *
  generalize jo l p=vt at *
  go_enter Tryz.func144,Tryz.ntmps144
  go_wp2;refine wp_region_quiet_below (by kernel_rfl) (by kernel_rfl) ?_
  repeat (go_big_quiet_step (first|exact ck _ _ |exact cv _ _))
  refine wpQuiet_nil ?_;intro _ hw';obtain⟨⟨dq,osq⟩,hw''⟩:=hw';subst hw'';have hbq:=below_regrown W1 dq osq;generalize grow (redrawn W1 dq) osq=w2 at *
  have HB2:=hid hbq;clear hbq ck cv;go_wp2
  go_ret
  exact⟨congrArg (λz=>Ending.returned (Value.bool z)) HR.out,bt HB1.out HB2.out⟩
 have f7:(k==7)=false:=beq_eq_false_iff_ne.2 k7;rw[if_neg k7]at hR;by_cases k9:k=9
 ·subst k9;have HR:=hid (show(jo l p != 1)=R by rw[hR,if_pos (by decide),Bool.eq_iff_iff];simp);have HCC:=hid (HV.out _ (Below.refl _ _));clear HV HT HA HS HP HQ HR2 HLC HCL HKR HF HXI HU HLN HXL hu hR ekd etx enn epl eks;generalize jo l p=vt at *
  go_enter Tryz.func144,Tryz.ntmps144
  go_wp2_with (go_at_call 154;refine HCC.out.mono ?_);rintro e w2 ⟨rfl,hb2⟩;have HB2:=hid hb2;clear hb2;go_wp2
  go_ret
  exact⟨congrArg (λz=>Ending.returned (Value.bool z)) HR.out,bt HB1.out HB2.out⟩
 have f9:(k==9)=false:=beq_eq_false_iff_ne.2 k9;by_cases k16:k=16
 ·subst k16;have HR:=hid (show(jo l p != 1)=R by rw[hR,if_pos (by decide),Bool.eq_iff_iff];simp);have HCC:=hid (HV.out _ (Below.refl _ _));clear HV HT HA HS HP HQ HR2 HLC HCL HKR HF HXI HU HLN HXL hu hR ekd etx enn epl eks;generalize jo l p=vt at *
  go_enter Tryz.func144,Tryz.ntmps144
  go_wp2_with (go_at_call 154;refine HCC.out.mono ?_);rintro e w2 ⟨rfl,hb2⟩;have HB2:=hid hb2;clear hb2;go_wp2
  go_ret
  exact⟨congrArg (λz=>Ending.returned (Value.bool z)) HR.out,bt HB1.out HB2.out⟩
 have f16:(k==16)=false:=beq_eq_false_iff_ne.2 k16;rw[if_neg (by omega)]at hR;by_cases k10:k=10
 ·subst k10;obtain⟨kz0,kz,kr,hks⟩:=HF.out.two (by omega);have hkz:=HKR.out kz (by rw[hks];simp);obtain⟨kk,rfl⟩:∃kk:Nat,kz=(kk:Int):=⟨kz.toNat,by omega⟩;have hkn:kk<n:=by omega
  have hml:1<(ae l p).ks.length:=by rw[hks];simp
  obtain⟨bk,ok,rfl,hbk,hck⟩:=HXI.out _ (Below.refl _ _) (Nat.lt_of_le_of_lt (Nat.zero_le _) hml);have hkc:W1.cell? ⟨bk,ok+1,none⟩=some (.int .i64 (kk:Int)):=by have t:=hck 1 hml;simp only[hks]at t;exact t
  have hkk:dH l p 1=(kk:Int):=by unfold dH;rw[hks];rfl
  have hmz:(1:Int)<(m:Int):=by rw[<- eks];exact Int.ofNat_lt.2 hml
  have hm1:((m:Nat):Int)=(m:Int):=rfl;have hkr:=cell_regrown hkc;have HR:=hid (show(aC l kk != 1)=R by rw[hR,if_pos rfl,hkk,Int.toNat_natCast,Bool.eq_iff_iff];simp);have ck:∀d os,Calls Tryz.prog 94 #[.agg #[.slice (some ⟨bA,off,none⟩) n c,.slice O n co,.map (some bd),.map (some bp)],.int .i64 (kk:Int)] (grow (redrawn W1 d) os) λe w''=>e=.returned (.int .i64 (aC l kk))/\∃p:Regrown,w''=grow (redrawn W1 p.d) p.os:=λd os=>Calls.regrown_of (HT.out _ (below_regrown W1 d os) kk hkn)
  have d0:=cell_regrown b0;have d1:=cell_regrown b1;have d2:=cell_regrown b2;have d3:=cell_regrown b3;have m4:=cell_regrown n4;clear HV HT HA HS HP HQ HR2 HLC HCL HKR HF HXI HU HLN HXL hu hR ekd etx enn epl eks;clear hks hkz hkn hml hbk hck hkc hkk hm1;generalize aC l kk=ty at *
  go_enter Tryz.func144,Tryz.ntmps144
  go_wp2;refine wp_region_quiet_below (by kernel_rfl) (by kernel_rfl) ?_
  repeat (go_big_quiet_step (first|exact ck _ _))
  refine wpQuiet_nil ?_;intro _ hw';obtain⟨⟨dq,osq⟩,hw''⟩:=hw';subst hw'';have hbq:=below_regrown W1 dq osq;generalize grow (redrawn W1 dq) osq=w2 at *
  have HB2:=hid hbq;clear hbq ck;go_wp2
  go_ret
  exact⟨congrArg (λz=>Ending.returned (Value.bool z)) HR.out,bt HB1.out HB2.out⟩
 have f10:(k==10)=false:=beq_eq_false_iff_ne.2 k10;rw[if_neg k10]at hR;by_cases k15:k=15
 ·subst k15;obtain⟨kz,kr,hks⟩:=HF.out.one (by omega);have hkz:=HKR.out kz (by rw[hks];simp);obtain⟨kk,rfl⟩:∃kk:Nat,kz=(kk:Int):=⟨kz.toNat,by omega⟩;have hkn:kk<n:=by omega
  have hml:0<(ae l p).ks.length:=by rw[hks];simp
  obtain⟨bk,ok,rfl,hbk,hck⟩:=HXI.out _ (Below.refl _ _) (Nat.lt_of_le_of_lt (Nat.zero_le _) hml);have hkc:W1.cell? ⟨bk,ok,none⟩=some (.int .i64 (kk:Int)):=by have t:=hck 0 hml;simp only[hks]at t;exact t
  have hkk:dH l p 0=(kk:Int):=nu hks;have hmz:(0:Int)<(m:Int):=by rw[<- eks];exact Int.ofNat_lt.2 hml
  have hm1:((m:Nat):Int)=(m:Int):=rfl;have hkr:=cell_regrown hkc;have HR:=hid (show(aC l kk != 1)=R by rw[hR,if_pos rfl,hkk,Int.toNat_natCast,Bool.eq_iff_iff];simp);have ck:∀d os,Calls Tryz.prog 94 #[.agg #[.slice (some ⟨bA,off,none⟩) n c,.slice O n co,.map (some bd),.map (some bp)],.int .i64 (kk:Int)] (grow (redrawn W1 d) os) λe w''=>e=.returned (.int .i64 (aC l kk))/\∃p:Regrown,w''=grow (redrawn W1 p.d) p.os:=λd os=>Calls.regrown_of (HT.out _ (below_regrown W1 d os) kk hkn)
  have d0:=cell_regrown b0;have d1:=cell_regrown b1;have d2:=cell_regrown b2;have d3:=cell_regrown b3;have m4:=cell_regrown n4;clear HV HT HA HS HP HQ HR2 HLC HCL HKR HF HXI HU HLN HXL hu hR ekd etx enn epl eks;clear hks hkz hkn hml hbk hck hkc hkk hm1;generalize aC l kk=ty at *
  go_enter Tryz.func144,Tryz.ntmps144
  go_wp2;refine wp_region_quiet_below (by kernel_rfl) (by kernel_rfl) ?_
  repeat (go_big_quiet_step (first|exact ck _ _))
  refine wpQuiet_nil ?_;intro _ hw';obtain⟨⟨dq,osq⟩,hw''⟩:=hw';subst hw'';have hbq:=below_regrown W1 dq osq;generalize grow (redrawn W1 dq) osq=w2 at *
  have HB2:=hid hbq;clear hbq ck;go_wp2
  go_ret
  exact⟨congrArg (λz=>Ending.returned (Value.bool z)) HR.out,bt HB1.out HB2.out⟩
 have f15:(k==15)=false:=beq_eq_false_iff_ne.2 k15;rw[if_neg k15]at hR;by_cases k11:k=11
 ·subst k11;obtain⟨kz,kr,hks⟩:=HF.out.one (by omega);have hkz:=HKR.out kz (by rw[hks];simp);obtain⟨kk,rfl⟩:∃kk:Nat,kz=(kk:Int):=⟨kz.toNat,by omega⟩;have hkn:kk<n:=by omega
  have hml:0<(ae l p).ks.length:=by rw[hks];simp
  obtain⟨bk,ok,rfl,hbk,hck⟩:=HXI.out _ (Below.refl _ _) (Nat.lt_of_le_of_lt (Nat.zero_le _) hml);have hkc:W1.cell? ⟨bk,ok,none⟩=some (.int .i64 (kk:Int)):=by have t:=hck 0 hml;simp only[hks]at t;exact t
  have hkk:dH l p 0=(kk:Int):=nu hks;have hmz:(0:Int)<(m:Int):=by rw[<- eks];exact Int.ofNat_lt.2 hml
  have hm1:((m:Nat):Int)=(m:Int):=rfl;have hkr:=cell_regrown hkc;have HR:=hid (show(aC l kk != 2)=R by rw[hR,if_pos (by decide),hkk,Int.toNat_natCast,Bool.eq_iff_iff];simp);have ck:∀d os,Calls Tryz.prog 94 #[.agg #[.slice (some ⟨bA,off,none⟩) n c,.slice O n co,.map (some bd),.map (some bp)],.int .i64 (kk:Int)] (grow (redrawn W1 d) os) λe w''=>e=.returned (.int .i64 (aC l kk))/\∃p:Regrown,w''=grow (redrawn W1 p.d) p.os:=λd os=>Calls.regrown_of (HT.out _ (below_regrown W1 d os) kk hkn)
  have d0:=cell_regrown b0;have d1:=cell_regrown b1;have d2:=cell_regrown b2;have d3:=cell_regrown b3;have m4:=cell_regrown n4;clear HV HT HA HS HP HQ HR2 HLC HCL HKR HF HXI HU HLN HXL hu hR ekd etx enn epl eks;clear hks hkz hkn hml hbk hck hkc hkk hm1;generalize aC l kk=ty at *
  go_enter Tryz.func144,Tryz.ntmps144
  go_wp2;refine wp_region_quiet_below (by kernel_rfl) (by kernel_rfl) ?_
  repeat (go_big_quiet_step (first|exact ck _ _))
  refine wpQuiet_nil ?_;intro _ hw';obtain⟨⟨dq,osq⟩,hw''⟩:=hw';subst hw'';have hbq:=below_regrown W1 dq osq;generalize grow (redrawn W1 dq) osq=w2 at *
  have HB2:=hid hbq;clear hbq ck;go_wp2
  go_ret
  exact⟨congrArg (λz=>Ending.returned (Value.bool z)) HR.out,bt HB1.out HB2.out⟩
 have f11:(k==11)=false:=beq_eq_false_iff_ne.2 k11;by_cases k12:k=12
 ·subst k12;obtain⟨kz,kr,hks⟩:=HF.out.one (by omega);have hkz:=HKR.out kz (by rw[hks];simp);obtain⟨kk,rfl⟩:∃kk:Nat,kz=(kk:Int):=⟨kz.toNat,by omega⟩;have hkn:kk<n:=by omega
  have hml:0<(ae l p).ks.length:=by rw[hks];simp
  obtain⟨bk,ok,rfl,hbk,hck⟩:=HXI.out _ (Below.refl _ _) (Nat.lt_of_le_of_lt (Nat.zero_le _) hml);have hkc:W1.cell? ⟨bk,ok,none⟩=some (.int .i64 (kk:Int)):=by have t:=hck 0 hml;simp only[hks]at t;exact t
  have hkk:dH l p 0=(kk:Int):=nu hks;have hmz:(0:Int)<(m:Int):=by rw[<- eks];exact Int.ofNat_lt.2 hml
  have hm1:((m:Nat):Int)=(m:Int):=rfl;have hkr:=cell_regrown hkc;have HR:=hid (show(aC l kk != 2)=R by rw[hR,if_pos (by decide),hkk,Int.toNat_natCast,Bool.eq_iff_iff];simp);have ck:∀d os,Calls Tryz.prog 94 #[.agg #[.slice (some ⟨bA,off,none⟩) n c,.slice O n co,.map (some bd),.map (some bp)],.int .i64 (kk:Int)] (grow (redrawn W1 d) os) λe w''=>e=.returned (.int .i64 (aC l kk))/\∃p:Regrown,w''=grow (redrawn W1 p.d) p.os:=λd os=>Calls.regrown_of (HT.out _ (below_regrown W1 d os) kk hkn)
  have d0:=cell_regrown b0;have d1:=cell_regrown b1;have d2:=cell_regrown b2;have d3:=cell_regrown b3;have m4:=cell_regrown n4;clear HV HT HA HS HP HQ HR2 HLC HCL HKR HF HXI HU HLN HXL hu hR ekd etx enn epl eks;clear hks hkz hkn hml hbk hck hkc hkk hm1;generalize aC l kk=ty at *
  go_enter Tryz.func144,Tryz.ntmps144
  go_wp2;refine wp_region_quiet_below (by kernel_rfl) (by kernel_rfl) ?_
  repeat (go_big_quiet_step (first|exact ck _ _))
  refine wpQuiet_nil ?_;intro _ hw';obtain⟨⟨dq,osq⟩,hw''⟩:=hw';subst hw'';have hbq:=below_regrown W1 dq osq;generalize grow (redrawn W1 dq) osq=w2 at *
  have HB2:=hid hbq;clear hbq ck;go_wp2
  go_ret
  exact⟨congrArg (λz=>Ending.returned (Value.bool z)) HR.out,bt HB1.out HB2.out⟩
 have f12:(k==12)=false:=beq_eq_false_iff_ne.2 k12;rw[if_neg (by omega)]at hR;by_cases k13:k=13
 ·subst k13;obtain⟨kz,kr,hks⟩:=HF.out.one (by omega);have hkz:=HKR.out kz (by rw[hks];simp);obtain⟨kk,rfl⟩:∃kk:Nat,kz=(kk:Int):=⟨kz.toNat,by omega⟩;have hkn:kk<n:=by omega
  have hun:eO l p (bC l p)≠none\/ic l (bC l p) 0≠none:=by
   rw[if_neg (by decide),if_neg (by decide),if_pos rfl]at hu;cases h1:eO l p (bC l p) with
   |some d=>exact Or.inl (by simp)
   |none=>
    cases h2:ic l (bC l p) 0 with
    |some d=>exact Or.inr (by simp)
    |none=>rw[h1,h2]at hu;simp at hu
  have HCC:=hid (HCL.out kk kr hks hkn rfl hun);have HR:=hid (show(!(yP l p))=R by rw[hR,if_pos rfl]);clear HV HT HA HS HP HQ HR2 HLC HCL HKR HF HXI HU HLN HXL hu hR ekd etx enn epl eks;clear hks hkz hkn hun;generalize yP l p=ar at *
  go_enter Tryz.func144,Tryz.ntmps144
  go_wp2_with (go_at_call 221;refine HCC.out.mono ?_);rintro e w2 ⟨rfl,hb2⟩;have HB2:=hid hb2;clear hb2;go_wp2
  go_ret
  exact⟨congrArg (λz=>Ending.returned (Value.bool z)) HR.out,bt HB1.out HB2.out⟩
 have f13:(k==13)=false:=beq_eq_false_iff_ne.2 k13;rw[if_neg k13]at hR;by_cases k14:k=14
 ·subst k14;obtain⟨mo,hmo,hml⟩:=HF.out.own (by omega);have HCC:=hid (HR2.out mo hmo (by rw[HLN.out];exact hml));have HR:=hid (show(!(rR l p))=R by rw[hR,if_pos rfl]);clear HV HT HA HS HP HQ HR2 HLC HCL HKR HF HXI HU HLN HXL hu hR ekd etx enn epl eks;clear hmo hml;generalize rR l p=ar at *
  go_enter Tryz.func144,Tryz.ntmps144
  go_wp2_with (go_at_call 222;refine HCC.out.mono ?_);rintro e w2 ⟨rfl,hb2⟩;have HB2:=hid hb2;clear hb2;go_wp2
  go_ret
  exact⟨congrArg (λz=>Ending.returned (Value.bool z)) HR.out,bt HB1.out HB2.out⟩
 have f14:(k==14)=false:=beq_eq_false_iff_ne.2 k14;rw[if_neg k14]at hR;have HR:=hid hR.symm;clear HV HT HA HS HP HQ HR2 HLC HCL HKR HF HXI HU HLN HXL hu hR ekd etx enn epl eks;clear k23 k24 k8 k17 k25 k26 k27 k7 k9 k16 k10 k15 k11 k12 k13 k14;go_enter Tryz.func144,Tryz.ntmps144
 go_wp2
 go_ret
 exact⟨congrArg (λz=>Ending.returned (Value.bool z)) HR.out,HB1.out⟩
end
end
end Go.Proofs.YteecfjhjllajlaaGreatDoor
