/- PROVED here: parts Rk RchTL RchTK RchTR of the claim. No condition but those in each theorem's own head. -/
import Derived.Test.YtedkgofehbecmaaGreatDoorU43
import Derived.Test.YtedkgofehbecmaaGreatDoorU44
import Derived.Test.YtedkgofehbecmaaGreatDoorU45
import Derived.Deep.RegionHeld3
import Derived.Deep.DeepCutAuto
import Derived.Deep.CutBlock
import Derived.BigQuiet
import Derived.Lib.QuietBelow
import Derived.Test.YtedkgofehbecmaaGreatDoorU01
import Derived.Test.YtedkgofehbecmaaGreatDoorU42
import Derived.SevenTiedAt
import Derived.ChangeMaps5
import Derived.Test.YtedkgofehbecmaaGreatDoorRows
import Derived.JoinedOf
namespace Go.Proofs.YtedkgofehbecmaaGreatDoor
open Go.Lib (hid)
open Go Go.RowKit Go.Sort
open Tr (Bx heap1 bt Nds Ints BPost rgB)
set_option maxRecDepth 100000 in
set_option maxHeartbeats 8000000 in
theorem flowReach_any (A:Option Addr)(c n:Nat)(l:List Tr.Nd)(r:Int)(fr:Int)(w:World)(hn:n=l.length)(hE:Tk.Errs w)(hN:Nds w A l)(hnum:∀x ∈ l,x.n<=9223372036854775807)(hc:Caps w A l):Calls Tryz.prog 7 #[.agg #[.slice A n c,.int .i64 r],.int .i64 fr] w (VPost (.bool true) w):=by
 have hb0:=heap1 w (.cells #[.slice A n c,.int .i64 r] 24)
 have HX:=hid (Bx.new w 24 [.slice A n c,.int .i64 r])
 have HB0:=hid hb0
 have HS:=hid (shown14_any _ (hE.below hb0))
 have HSM:=hid (show∀w',Below w.heap.size w w'->Calls Tryz.prog 15 #[.agg #[.slice A n c,.int .i64 r]] w' (SmPost8 l w')from λw' q=>small15_any A n c l r w' (hN.below q) hn)
 have HTT:=hid (show OkT8 l->∀w',Below w.heap.size w w'->TT w' A n l from λh w' q=>(TT.mk hN hn (λx hx=>by have:=(h.2 x hx).1;omega) (λx hx=>by have:=(h.2 x hx).2;omega) hnum hc).below q)
 have HL:=hid hn
 clear hE hN hnum hc hb0 hn
 obtain⟨W0,hW0⟩:∃W0,w.alloc (.cells #[.slice A n c,.int .i64 r] 24)=W0:=⟨_,rfl⟩
 rw[hW0]at HX HB0 HS
 go_enter Tryz.func7,Tryz.ntmps7
 go_wp2_with (go_at_call 14;refine HS.out.mono ?_)
 rintro e w1 ⟨rfl,hb1⟩
 have HX1:=hid (HX.out.below hb1 HX.out.lt)
 have HB1:=hid (bt HB0.out hb1)
 have a0:=(HX1.out.cell 0).trans rfl
 have a1:=(HX1.out.cell 1).trans rfl
 clear hb1 hW0 HS HX HB0
 go_wp2_with (go_at_call 15;refine(HSM.out _ HB1.out).mono ?_)
 rintro e w2 ⟨hb2,bo,rfl,hok⟩
 have HB2:=hid (bt HB1.out hb2)
 cases bo with
 |false=>
  clear hb2 hok a0 a1
  go_wp2
  go_ret
  exact⟨rfl,HB2.out⟩
 |true=>
  have HOK:=hid (hok rfl)
  have HX2:=hid (HX1.out.below hb2 HX1.out.lt)
  clear hb2 hok a0 a1
  have a0:=(HX2.out.cell 0).trans rfl
  have a1:=(HX2.out.cell 1).trans rfl
  cases hr:okT l r with
  |false=>
   have HBN:=hid (build_no (HTT.out HOK.out _ HB2.out) c r hr)
   clear hr
   go_wp2_with (go_at_call 16;refine HBN.out.mono ?_)
   rintro e w3 ⟨rfl,hb3⟩
   have HE:=hid (bt (bt HB2.out hb3) (heap1 w3 (.cells #[.slice none 0 0,.slice none 0 0] 30)))
   clear hb3 a0 a1
   go_wp2
   go_ret
   exact⟨rfl,HE.out⟩
  |true=>
   have HBN:=hid (build_yes (HTT.out HOK.out _ HB2.out) c r hr)
   have HR:=hid hr
   obtain⟨⟨b,hRt⟩,hl4,hrr⟩:=rtn_of (ok_rg hr)
   obtain⟨R,hRs⟩:∃R,rsF l r n=R:=⟨_,rfl⟩
   rw[hRs]at HBN
   obtain⟨t,hIs⟩:=gr_is hRt R
   have hself:∀q,(Tr.nth l q).kd=15->q<l.length->R q=true:=λq hk hq=>by
    rw[<- hRs]
    exact rsF_self r n q (by rw[HL.out];exact hq) (by unfold selfB;rw[hk];rfl)
   have HSF:=hid hself
   obtain⟨s,hs⟩:∃s,grG l R=s:=⟨_,rfl⟩
   rw[hs]at HBN hIs
   have HIS:=hid hIs
   have HRT:=hid hRt
   have HPS:=hid hIs.P
   have HPL:=hid (show s.P.length=t.length by rw[hIs.P,List.length_map])
   have hpos:0<s.G.length:=by
    have h1:=hIs.pos hRt (r:=r) (by have:=hr;unfold okT chkT at this;rw[ok_rg hr]at this;simpa using this)
    have:=hIs.big.1
    omega
   have hbig:s.G.length<=20000:=by have:=hIs.big.2;omega
   have HBIG:=hid hbig
   clear hr hRs hIs hs hrr hself hRt hbig
   go_wp2_with (go_at_call 16;refine HBN.out.mono ?_)
   rintro e w3 ⟨v,rfl,V,U,base,rfl,hb3,hbase,hGn,hOw⟩
   obtain⟨VA,vc,hV⟩:=hGn.slice
   obtain⟨UA,uc,hU⟩:=own_slice hOw
   subst hV
   subst hU
   obtain⟨NG,hNG⟩:∃NG,s.G.length=NG:=⟨_,rfl⟩
   obtain⟨NP,hNP⟩:∃NP,s.P.length=NP:=⟨_,rfl⟩
   rw[hNG,hNP]
   have hbx:=heap1 w3 (.cells #[.slice VA NG vc,.slice UA NP uc] 30)
   have HG3:=hid (Bx.new w3 30 [.slice VA NG vc,.slice UA NP uc])
   have HB3:=hid (bt (bt HB2.out hb3) hbx)
   have HGn:=hid (hGn.move (E:=λ_=>False) (X':=λ_=>False) (Fr.of hbx) (λ_ _=>id) (λ_ _ _ _ _=>⟨id,id⟩))
   have HNG:=hid (And.intro hNG hNP)
   obtain⟨z3,hz3⟩:∃z3,w3.heap.size=z3:=⟨_,rfl⟩
   obtain⟨W3,hW3⟩:∃W3,w3.alloc (.cells #[.slice VA NG vc,.slice UA NP uc] 30)=W3:=⟨_,rfl⟩
   rw[hW3]at HG3 HB3 HGn
   rw[hz3]at HG3
   clear hb3 hbase hGn hOw hbx hNG hNP a0 a1 HBN HX1 HX2 HB1 HB2
   obtain⟨gb,cap,hVA,hgb,hcp,hcm,hGR⟩:=HGn.out.gr hpos
   have hVA2:VA=some ⟨gb,0,none⟩:=by injection hVA
   have hvc:vc=cap:=by injection hVA
   subst hVA2
   subst hvc
   have HGR:=hid hGR
   clear hVA hgb hcp hcm hGR hpos
   have hn4:n<=4000:=by rw[HL.out];exact hl4
   have hng:NG<=20000:=by rw[<- HNG.out.1];exact HBIG.out
   have hnp:NP<=4000:=by rw[<- HNG.out.2,HPL.out];have:=HIS.out.bnd;omega
   have HGB:=hid (λ(W:World) (q:Below W3.heap.size W3 W)=>show W.cell? ⟨z3,0,none⟩=some (.slice (some ⟨gb,0,none⟩) NG vc)/\W.cell? ⟨z3,1,none⟩=some (.slice UA NP uc) from⟨((HG3.out.below q HG3.out.lt).cell 0).trans rfl,((HG3.out.below q HG3.out.lt).cell 1).trans rfl⟩)
   have HAFT:=hid (λ(i:Nat) (hi:i<s.G.length)=>HIS.out.aft HSF.out (λp hp=>Nat.le_of_lt (HIS.out.ok _ (List.getElem_mem hp)).1) hi)
   have HAF:=hid (λ(W:World) (q:Below W3.heap.size W3 W) (j:Nat) (hj:j<NG)=>show Calls Tryz.prog 27 #[.agg #[.slice (some ⟨gb,0,none⟩) NG vc,.slice UA NP uc],.int .i64 (j:Int)] W (IsP (aftG s.G j) W)from by
    have hj2:j<s.G.length:=by rw[HNG.out.1];exact hj
    have t:=after_in (HGR.out.below q) vc UA NP uc hj2 (by have:=(HAFT.out j hj2).2.2;omega)
    rw[HNG.out.1,<- nthG_at hj2]at t
    exact t)
   have HRE:=hid (λ(W:World) (q:Below W3.heap.size W3 W) (j:Nat) (hj:j<NG)=>show Calls Tryz.prog 29 #[.agg #[.slice (some ⟨gb,0,none⟩) NG vc,.slice UA NP uc],.int .i64 (j:Int)] W (λe w'=>∃xs,RchS (aftG s.G) NG j xs/\IsP (rchI xs) W e w') from
    reach_in (some ⟨gb,0,none⟩) UA NG vc NP uc (aftG s.G) hng hj (λj hj k hk=>by
     have hj2:j<s.G.length:=by rw[HNG.out.1];exact hj
     unfold aftG at hk
     rw[nthG_at hj2]at hk
     obtain⟨m,e,hm,_⟩:=(HAFT.out j hj2).1 k hk
     exact⟨m,e,by rw[<- HNG.out.1];exact hm⟩) (λj hj=>by
     have hj2:j<s.G.length:=by rw[HNG.out.1];exact hj
     unfold aftG
     rw[nthG_at hj2]
     have:=aft_len s.G[j]
     have:=(HAFT.out j hj2).2.2
     omega) (λW' q' j hj=>HAF.out W' (bt q q') j hj))
   obtain⟨g0,g1⟩:=HGB.out _ (Below.refl _ _)
   by_cases hin:0<=fr/\fr<(NG:Int)
   ·obtain⟨i0,hi0⟩:∃i0:Nat,fr=(i0:Int):=⟨fr.toNat,by omega⟩
    subst hi0
    have hil:i0<NG:=by omega
    have q1:¬((i0:Int)<0):=by omega
    have q2:¬((NG:Int)<=(i0:Int)):=by omega
    have HC:=hid (HRE.out W3 (Below.refl _ _) i0 hil)
    have HIL:=hid hil
    clear hin hil
    go_upto_region 9 with(go_at_call 29;refine HC.out.mono ?_;rintro e w5 ⟨xs,hxs,AA,ca,rfl,hI5,hb5⟩)
    have hlen:=hxs.len
    obtain⟨ts,hts⟩:∃ts,rchI xs=ts:=⟨_,rfl⟩
    rw[hts]at hI5
    rw[hts]
    have HTS:=hid hts
    obtain⟨m,hm⟩:∃m,ts.length=m:=⟨_,rfl⟩
    rw[hm]
    have hm2:m<=20000:=by rw[<- hm,<- hts,rchI_len];omega
    have hm0:0<m:=by rw[<- hm,<- hts,rchI_len];exact List.length_pos_of_mem hxs.fr
    have HM:=hid hm
    have HUP:=hid (show ts.Pairwise (· < ·)by rw[<- hts];exact rchI_up hxs.nd)
    have HTM:=hid (show∀j (hj:j<ts.length),∃q:Nat,q ∈ xs/\q<NG/\ts[j]=(q:Int)from λj hj=>by
     obtain⟨q,h1,h2⟩:=(rchI_mem xs ts[j]).1 (by rw[hts];exact List.getElem_mem hj)
     exact⟨q,h1,hxs.rg q h1,h2⟩)
    obtain⟨bm,hbm⟩:∃bm:Int->Bool,bm=λz=>decide (z ∈ ts):=⟨_,rfl⟩
    have HAM:=hid (λ(W:World) (q:Below w5.heap.size w5 W) (z:Int)=>show Calls Tryz.prog 31 #[.slice AA m ca,.int .i64 z] W (VPost (.bool (bm z)) W)from by
     rw[hbm,<- hm]
     exact among31_any (hI5.below q) (by omega) ca z)
    have HBT:=hid (show∀q ∈ xs,bm (q:Int)=true from λq hq=>by rw[hbm];exact decide_eq_true (by rw[<- hts];exact(rchI_mem xs _).2 ⟨q,hq,rfl⟩))
    have HXS:=hid hxs
    have HB5:=hid hb5
    obtain⟨ba,oa,e5,hla,hca⟩:=hI5 (by omega)
    subst e5
    have HLC:=hid (λ(W:World) (q:Below w5.heap.size w5 W) (j:Nat) (hj:j<ts.length)=>show W.cell? ⟨ba,oa+j,none⟩=some (.int .i64 ts[j]) from(q.cell (p:=⟨ba,oa+j,none⟩) hla).trans (hca j hj))
    clear g0 g1 hts hI5 hbm hxs hb5 hla hca hm hlen HC
    go_wp2
    go_loopg [10] m (λk v10 wr=>∃p:Nat,p+k=m/\v10 = .int .i64 (p:Int)/\Below w5.heap.size w5 wr)
    case atStart=>exact⟨0,Nat.zero_add _,rfl,Below.refl _ _⟩
    case round=>
     obtain⟨p,hp,rfl,hb6⟩:=hrel
     obtain⟨W6,rfl⟩:∃W6,W6=wr:=⟨_,rfl⟩
     have HB6:=hid hb6
     have HG6:=hid (bt HB5.out hb6)
     have HPK:=hid hp
     by_cases hpl:p<m
     ·have hpz:(p:Int)<(m:Int):=by omega
      have hpt:p<ts.length:=by rw[HM.out];exact hpl
      obtain⟨q,hq,hqN,hqe⟩:=HTM.out p hpt
      have HQ:=hid (And.intro hq (And.intro hqN hqe))
      have y:∀w',Below W6.heap.size W6 w'->w'.cell? ⟨ba,oa+p,none⟩=some (.int .i64 (q:Int)):=λw' z=>by rw[<- hqe];exact HLC.out w' (bt HB6.out z) p hpt
      have g0:∀w',Below W6.heap.size W6 w'->w'.cell? ⟨z3,0,none⟩=some (.slice (some ⟨gb,0,none⟩) NG vc):=λw' z=>(HGB.out w' (bt HG6.out z)).1
      have g1:∀w',Below W6.heap.size W6 w'->w'.cell? ⟨z3,1,none⟩=some (.slice UA NP uc):=λw' z=>(HGB.out w' (bt HG6.out z)).2
      have HC:=hid (λ(W:World) (z:Below W6.heap.size W6 W)=>HAF.out W (bt HG6.out z) q hqN)
      obtain⟨sx,hsx⟩:∃sx,aftG s.G q=sx:=⟨_,rfl⟩
      rw[hsx]at HC
      have HAS:=hid hsx
      obtain⟨m2,hm2'⟩:∃m2,sx.length=m2:=⟨_,rfl⟩
      have HM2:=hid hm2'
      clear hp hb6 hq hqN hqe hsx hm2'
      go_upto_region 12 with(fail)
      go_cut [11] (λx wx=>∃A2 c2,x = .slice A2 m2 c2/\Ints wx A2 sx/\Below W6.heap.size W6 wx)
      case first=>
       go_region_held3 (λw'=>Below W6.heap.size W6 w') (first|exact(Below.refl _ _).drew |exact bt (by assumption) (by assumption) |assumption |go_keep) ((go_at_call 27;refine(HC.out _ (by first|assumption |exact(Below.refl _ _).drew)).mono ?_;rintro e w7 ⟨A2,c2,rfl,hI7,hb7⟩))
       all_goals (go_wp2_with fail;go_meet;exact⟨A2,c2,by rw[HM2.out],hI7,by assumption⟩)
      case rest=>
       obtain⟨A2,c2,rfl,hI7,hb7⟩:=hcut
       have HI7:=hid hI7
       have HB7:=hid (bt HB6.out hb7)
       have hm4:m2<=4:=by
        have hqs:q<s.G.length:=by rw[HNG.out.1];exact HQ.out.2.1
        rw[<- HM2.out,<- HAS.out]
        unfold aftG
        rw[nthG_at hqs]
        have:=aft_len s.G[q]
        have:=(HAFT.out q hqs).2.2
        omega
       clear y g0 g1 hI7 hb7
       go_wp2
       go_loopg [12] m2 (λk v12 wr=>∃j:Nat,j+k=m2/\v12 = .int .i64 (j:Int)/\Below wc.heap.size wc wr)
       case atStart=>exact⟨0,Nat.zero_add _,rfl,Below.refl _ _⟩
       case round=>
        obtain⟨j,hj,rfl,hb8⟩:=hrel
        obtain⟨W8,rfl⟩:∃W8,W8=wr:=⟨_,rfl⟩
        have HB8:=hid (bt HB7.out hb8)
        have HB78:=hid hb8
        have HJK:=hid hj
        by_cases hjl:j<m2
        ·have hjz:(j:Int)<(m2:Int):=by omega
         have hjt:j<sx.length:=by rw[HM2.out];exact hjl
         obtain⟨bc,oc,e7,hlc,hcc⟩:=HI7.out (by omega)
         subst e7
         obtain⟨k2,hk2x,hk2⟩:=HXS.out.cl q HQ.out.1 sx[j] (by rw[HAS.out];exact List.getElem_mem hjt)
         have y1:=(hb8.cell (p:=⟨bc,oc+j,none⟩) hlc).trans (hcc j hjt)
         rw[hk2]at y1
         have cq:∀d os,Calls Tryz.prog 31 #[.slice (some ⟨ba,oa,none⟩) m ca,.int .i64 (k2:Int)] (grow (redrawn W8 d) os) λe w''=>e = .returned (.bool true)/\∃p:Regrown,w''=grow (redrawn W8 p.d) p.os:=λd os=>Calls.regrown_of (by have t:=HAM.out _ (bt HB8.out (below_regrown W8 d os)) (k2:Int);rw[HBT.out k2 hk2x]at t;exact t)
         have z1:=cell_regrown y1
         by_cases hj0:j=0
         ·subst hj0
          have z2:=z1
          simp only[Nat.add_zero]at z2
          clear hcc hlc hk2 hk2x hjt hb8 hj y1
          go_upto_region 16 with(fail)
          refine wp_region_quiet_below (by kernel_rfl) (by kernel_rfl) ?_
          repeat (first|go_big_quiet_step (first|exact cq _ _) |go_big_quiet_skip)
          refine wpQuiet_nil ?_
          intro _ hw'
          obtain⟨⟨dq,osq⟩,hw''⟩:=hw'
          subst hw''
          have hbq:=below_regrown W8 dq osq
          generalize grow (redrawn W8 dq) osq=w9 at *
          have HBQ:=hid (HB78.out.trans (hbq.mono HB78.out.size))
          clear cq hbq z1 z2
          go_wp2
          go_roundg (m2-(0+1))
          case measure=>have:=HJK.out;omega
          case rel=>exact⟨0+1,by omega,by go_num,HBQ.out⟩
         ·obtain⟨jp,hjp⟩:∃jp,j=jp+1:=⟨j-1,by omega⟩
          subst hjp
          have y2:=(hb8.cell (p:=⟨bc,oc+jp,none⟩) hlc).trans (hcc jp (by omega))
          have hup:sx[jp]<sx[jp+1]:=by
           have h:=aft_up (nthG s.G q)
           have h2:aftL (nthG s.G q)=sx:=HAS.out
           rw[h2]at h
           exact List.pairwise_iff_getElem.1 h jp (jp+1) (by omega) hjt (by omega)
          rw[hk2]at hup
          generalize sx[jp]=zz at *
          have z2:=cell_regrown y2
          have hnl:¬(k2:Int)<=zz:=by omega
          have hjm:(0:Int)<=(jp:Int):=by omega
          have hjn:(jp:Int)<(m2:Int):=by omega
          clear hcc hlc hk2 hk2x hjt hb8 hj y1 y2 hup hj0
          go_upto_region 16 with(fail)
          refine wp_region_quiet_below (by kernel_rfl) (by kernel_rfl) ?_
          repeat (first|go_big_quiet_step (first|exact cq _ _) |go_big_quiet_skip)
          refine wpQuiet_nil ?_
          intro _ hw'
          obtain⟨⟨dq,osq⟩,hw''⟩:=hw'
          subst hw''
          have hbq:=below_regrown W8 dq osq
          generalize grow (redrawn W8 dq) osq=w9 at *
          have HBQ:=hid (HB78.out.trans (hbq.mono HB78.out.size))
          clear cq hbq z1 z2
          go_wp2
          go_roundg (m2-((jp+1)+1))
          case measure=>have:=HJK.out;omega
          case rel=>exact⟨(jp+1)+1,by omega,by go_num,HBQ.out⟩
        ·obtain rfl:j=m2:=by omega
         have hjz:¬(j:Int)<(j:Int):=by omega
         have hpt2:p<ts.length:=by rw[HM.out];exact hpl
         have yl:W8.cell? ⟨ba,oa+p,none⟩=some (.int .i64 (q:Int)):=by rw[<- HQ.out.2.2];exact HLC.out W8 HB8.out p hpt2
         clear hj hb8
         go_upto_region 18 with(fail)
         go_cut [13] (λx wx=>∃bf:Bool,x = .bool bf/\(bf=false->q≠i0)/\Below W8.heap.size W8 wx)
         case first=>
          by_cases e:q=i0
          ·have h1:((q:Int)==(i0:Int))=true:=by rw[e];simp
           go_wp2_with fail
           go_meet
           exact⟨_,rfl,λh=>by simp at h,Below.refl _ _⟩
          ·have h1:((q:Int)==(i0:Int))=false:=beq_eq_false_iff_ne.2 (by omega)
           go_wp2_with fail
           go_meet
           exact⟨_,rfl,λ_=>e,Below.refl _ _⟩
         case rest=>
          rename_i w9
          obtain⟨bf,rfl,hbf,hb9⟩:=hcut
          have HBF:=hid hbf
          have HB9:=hid (bt HB8.out hb9)
          clear hbf hb9 yl
          go_wp2
          go_loopg [13,14] m (λk v13 v14 wr=>∃(j:Nat) (bf:Bool),j+k=m/\v14 = .int .i64 (j:Int)/\v13 = .bool bf/\(bf=false->q≠i0/\∀k' (h:k'<ts.length),k'<j->(q:Int) ∉ aftG s.G (ts[k']).toNat)/\Below wc.heap.size wc wr)
          case atStart=>exact⟨0,bf,Nat.zero_add _,rfl,rfl,λh=>⟨HBF.out h,λk' h1 h2=>absurd h2 (Nat.not_lt_zero _)⟩,Below.refl _ _⟩
          case round=>
           obtain⟨j2,bf2,hj,rfl,rfl,hbf2,hb10⟩:=hrel
           obtain⟨W10,rfl⟩:∃W10,W10=wr:=⟨_,rfl⟩
           have HB10:=hid (bt HB9.out hb10)
           have HB910:=hid hb10
           have HJK:=hid hj
           have HBF2:=hid hbf2
           by_cases hjl:j2<m
           ·have hjz:(j2:Int)<(m:Int):=by omega
            have hjt:j2<ts.length:=by rw[HM.out];exact hjl
            obtain⟨k2,hk2x,hk2N,hk2e⟩:=HTM.out j2 hjt
            have HK2:=hid hk2e
            have hkz:(k2:Int)<(NG:Int):=by omega
            have hpt2:p<ts.length:=by rw[HM.out];exact hpl
            clear hj hbf2 hb10
            go_upto_region 22 with(fail)
            cases bf2 with
            |true=>
             clear hk2x hk2e hpt2 hkz
             refine wp_region_quiet_below (by kernel_rfl) (by kernel_rfl) ?_
             repeat (first|go_big_quiet_step (fail) |go_big_quiet_skip)
             refine wpQuiet_nil ?_
             intro _ hw'
             obtain⟨⟨dq,osq⟩,hw''⟩:=hw'
             subst hw''
             have hbq:=below_regrown W10 dq osq
             generalize grow (redrawn W10 dq) osq=w12 at *
             have HBQ:=hid (HB910.out.trans (hbq.mono HB910.out.size))
             clear hbq
             go_wp2
             go_roundg (m-(j2+1))
             case measure=>have:=HJK.out;omega
             case rel=>exact⟨j2+1,true,by omega,by go_num,rfl,(λh=>by cases h),HBQ.out⟩
            |false=>
             have y:∀w',Below W10.heap.size W10 w'->w'.cell? ⟨ba,oa+p,none⟩=some (.int .i64 (q:Int)):=λw' z=>by rw[<- HQ.out.2.2];exact HLC.out w' (bt HB10.out z) p hpt2
             have y2:∀w',Below W10.heap.size W10 w'->w'.cell? ⟨ba,oa+j2,none⟩=some (.int .i64 (k2:Int)):=λw' z=>by rw[<- hk2e];exact HLC.out w' (bt HB10.out z) j2 hjt
             have g0:∀w',Below W10.heap.size W10 w'->w'.cell? ⟨z3,0,none⟩=some (.slice (some ⟨gb,0,none⟩) NG vc):=λw' z=>(HGB.out w' (bt HB5.out (bt HB10.out z))).1
             have g1:∀w',Below W10.heap.size W10 w'->w'.cell? ⟨z3,1,none⟩=some (.slice UA NP uc):=λw' z=>(HGB.out w' (bt HB5.out (bt HB10.out z))).2
             have HC:=hid (λ(W:World) (z:Below W10.heap.size W10 W)=>HAF.out W (bt HB5.out (bt HB10.out z)) k2 hk2N)
             obtain⟨sy,hsy⟩:∃sy,aftG s.G k2=sy:=⟨_,rfl⟩
             rw[hsy]at HC
             have HSY:=hid hsy
             have HLS:=hid (show sy.length<=1000000 by
              have hks:k2<s.G.length:=by rw[HNG.out.1];exact hk2N
              rw[<- hsy]
              unfold aftG
              rw[nthG_at hks]
              have:=aft_len s.G[k2]
              have:=(HAFT.out k2 hks).2.2
              omega)
             clear hk2x hk2e hpt2 hsy
             go_region_held3 (λw'=>Below W10.heap.size W10 w') (first|exact(Below.refl _ _).drew |exact bt (by assumption) (by assumption) |assumption |go_keep) ((first|(go_at_call 27;refine(HC.out _ (by first|assumption |exact(Below.refl _ _).drew)).mono ?_;rintro e w11 ⟨A3,c3,rfl,hI11,hb11⟩;have hq11:=bt (show Below W10.heap.size W10 W10.drew from(Below.refl _ _).drew) hb11) |(go_at_call 31;refine(among31_any hI11 HLS.out c3 (q:Int)).mono ?_;rintro e w12 ⟨rfl,hb12⟩;have hq12:=hid (bt hq11 hb12))))
             all_goals (
              clear y y2 g0 g1
              have HB12:=hid (HB910.out.trans (hq12.out.mono HB910.out.size))
              clear hb12 hq11 hI11 hb11
              go_wp2
              go_roundg (m-(j2+1))
              case measure=>have:=HJK.out;omega
              case rel=>
               refine⟨j2+1,_,by omega,by go_num,rfl,λh=>⟨(HBF2.out (by trivial)).1,λk' h1 h2 =>?_⟩,HB12.out⟩
               by_cases e:k'=j2
               ·subst e
                rw[HK2.out,Int.toNat_natCast,HSY.out]
                exact of_decide_eq_false h
               ·exact(HBF2.out (by trivial)).2 k' h1 (by omega))
           ·obtain rfl:j2=m:=by have:=HJK.out;omega
            have hjz:¬(j2:Int)<(j2:Int):=by omega
            have htrue:bf2=true:=by
             cases bf2 with
             |true=>rfl
             |false=>
              obtain⟨h1,h2⟩:=hbf2 rfl
              rcases HXS.out.dv q HQ.out.1 with e |⟨yy,hy,e⟩
              ·exact absurd e h1
              ·have hmm:((yy:Nat):Int) ∈ ts:=by rw[<- HTS.out];exact(rchI_mem xs _).2 ⟨yy,hy,rfl⟩
               obtain⟨k',hk',hke⟩:=List.getElem_of_mem hmm
               exact absurd (by rw[hke,Int.toNat_natCast];exact e) (h2 k' hk' (by have:=HM.out;omega))
            subst htrue
            have hpt2:p<ts.length:=by rw[HM.out];exact hpl
            have y1:W10.cell? ⟨ba,oa+p,none⟩=some (.int .i64 (q:Int)):=by rw[<- HQ.out.2.2];exact HLC.out W10 HB10.out p hpt2
            have z1:=cell_regrown y1
            by_cases hp0:p=0
            ·subst hp0
             clear hj hbf2 hb10 y1
             go_upto_region 23 with(fail)
             refine wp_region_quiet_below (by kernel_rfl) (by kernel_rfl) ?_
             repeat (first|go_big_quiet_step (fail) |go_big_quiet_skip)
             refine wpQuiet_nil ?_
             intro _ hw'
             obtain⟨⟨dq,osq⟩,hw''⟩:=hw'
             subst hw''
             have hbq:=below_regrown W10 dq osq
             generalize grow (redrawn W10 dq) osq=w12 at *
             have HBQ:=hid (bt HB10.out hbq)
             clear hbq z1
             go_wp2
             go_roundg (j2-(0+1))
             case measure=>have:=HPK.out;omega
             case rel=>exact⟨0+1,by omega,by go_num,HBQ.out⟩
            ·obtain⟨pp,hpp⟩:∃pp,p=pp+1:=⟨p-1,by omega⟩
             subst hpp
             have y2:=HLC.out W10 HB10.out pp (by omega)
             have hup:ts[pp]'(by omega)<(q:Int):=by
              rw[<- HQ.out.2.2]
              exact List.pairwise_iff_getElem.1 HUP.out pp (pp+1) (by omega) hpt2 (by omega)
             generalize ts[pp]'(by omega)=zz at *
             have z2:=cell_regrown y2
             have hnl:¬(q:Int)<=zz:=by omega
             have hjm:(0:Int)<=(pp:Int):=by omega
             have hjn:(pp:Int)<(j2:Int):=by omega
             clear hj hbf2 hb10 y1 y2 hup hp0
             go_upto_region 23 with(fail)
             refine wp_region_quiet_below (by kernel_rfl) (by kernel_rfl) ?_
             repeat (first|go_big_quiet_step (fail) |go_big_quiet_skip)
             refine wpQuiet_nil ?_
             intro _ hw'
             obtain⟨⟨dq,osq⟩,hw''⟩:=hw'
             subst hw''
             have hbq:=below_regrown W10 dq osq
             generalize grow (redrawn W10 dq) osq=w12 at *
             have HBQ:=hid (bt HB10.out hbq)
             clear hbq z1 z2
             go_wp2
             go_roundg (j2-((pp+1)+1))
             case measure=>have:=HPK.out;omega
             case rel=>exact⟨(pp+1)+1,by omega,by go_num,HBQ.out⟩
     ·obtain rfl:p=m:=by omega
      have hpz:¬(p:Int)<(p:Int):=by omega
      have HT0:=hid (HBT.out i0 HXS.out.fr)
      clear hp hb6 hpl
      go_wp2_with (go_at_call 31;refine(HAM.out _ HB6.out _).mono ?_;rintro e w7 ⟨rfl,hb7⟩;have HB7:=hid (bt HG6.out hb7);clear hb7)
      go_ret
      rw[HT0.out]
      exact⟨rfl,bt HB3.out HB7.out⟩
   ·have HRO:=hid (λ(W:World)=>reach_out (w:=W) (some ⟨gb,0,none⟩) UA NG vc NP uc hng hin)
    have HAO:=hid (λ(W:World)=>after_out W (some ⟨gb,0,none⟩) UA NG vc NP uc fr hin)
    by_cases hneg:fr<0
    ·clear hin
     go_wp2_with (first|(go_at_call 29;refine(HRO.out _).mono ?_;rintro e w5 ⟨A5,c5,rfl,hI5,hb5⟩;clear g0 g1;obtain⟨g0,g1⟩:=HGB.out _ hb5;have HB5:=hid hb5;clear hI5 hb5) |(go_at_call 27;refine(HAO.out _).mono ?_;rintro e w6 ⟨A6,c6,rfl,hI6,hb6⟩;have HB6:=hid (bt HB5.out hb6);clear hI6 hb6))
     go_ret
     exact⟨rfl,bt HB3.out HB6.out⟩
    ·have hge:(NG:Int)<=fr:=by omega
     clear hin
     go_wp2_with (first|(go_at_call 29;refine(HRO.out _).mono ?_;rintro e w5 ⟨A5,c5,rfl,hI5,hb5⟩;clear g0 g1;obtain⟨g0,g1⟩:=HGB.out _ hb5;have HB5:=hid hb5;clear hI5 hb5) |(go_at_call 27;refine(HAO.out _).mono ?_;rintro e w6 ⟨A6,c6,rfl,hI6,hb6⟩;have HB6:=hid (bt HB5.out hb6);clear hI6 hb6))
     go_ret
     exact⟨rfl,bt HB3.out HB6.out⟩
theorem flowReach_w (A:Option Addr)(c:Nat)(l:List Tr.Nd)(r:Int)(fr:Int)(w:World)(hE:Tk.Errs w)(hN:Nds w A l)(hnum:∀x ∈ l,x.n<=9223372036854775807)(hc:Caps w A l)(_:(Lit.int .i64 fr).wf=true):Calls Tryz.prog 7 #[.agg #[.slice A l.length c,.int .i64 r],.int .i64 fr] w (VPost (.bool true) w):=flowReach_any A c l.length l r fr w rfl hE hN hnum hc
end Go.Proofs.YtedkgofehbecmaaGreatDoor
namespace Go.Proofs.YtedkgofehbecmaaGreatDoor
open Go.Lib (hid)
open Go Go.ChangeShapes Go.WideShapes Go.ChangeAt Go.RowKit
set_option maxRecDepth 100000 in
theorem flowReach_lifted (os:Os)(started:os.Started)(H:Type)(enc:TypeId × Value->H) :
  ReturnsInHanded {} Tryz.checked os 7 .any (λw args=>(Rows.flowReachSpec.pre enc Tryz.prog Tryz.f7 [] false w args/\laidMetH Tryz.prog laid5 w)/\sizedMet enc Tryz.prog Tryz.f7 (OpenSpec.ofChange Rows.flowReachSpec) false w args)
   (Rows.flowReachSpec.post enc Tryz.prog Tryz.f7 false true false false):=by
 refine returnsInHanded_of_change_and (C:=Tryz.checked) (X:=λw _=>laidMetH Tryz.prog laid5 w) (λ_ _ _ hh h=>h.of_heap hh) ownK started (by kernel_rfl) Tryz.func7
  (ChangeSpec.witness_shaped (enc:=enc) (C:=Tryz.checked) (os:=os) (X:=λw _=>laidMetH Tryz.prog laid5 w) false (World.doorLaid Tryz.prog 62 os) #[.agg #[.slice none 0 0,.int .i64 0],.int .i64 0] 8 rfl (World.shaped_of_RefB (by kernel_rfl) (by kernel_rfl)) (by kernel_rfl) (by kernel_rfl) (by kernel_rfl) (door_met os _)) ?_
 intro W base args ds gs before hval0 hW _ _ hL _
 have hval:∀(j:Nat) t v,Tryz.f7.params[j]?=some t->args[j]?=some v->Value.okWide Tryz.prog W .any base t v:=hval0
 have hW':=hW
 obtain⟨p,q,hA0,hV,rfl,hfz,hnd⟩:=hW
 have hA:DataW.TrodAll enc Tryz.prog W 0 (λ_=>true) true Tryz.f7.params.toList args.toList ds p:=hA0
 rw[Tryz.params7]at hA hval
 obtain⟨v0,vs0,d0,ds0,p0,q0,hargs,rfl,rfl,h0,r0⟩:=trodAll_cons hA
 obtain⟨v1,vs1,d1,ds1,p1,q1,rfl,rfl,rfl,h1,r1⟩:=trodAll_cons r0
 obtain⟨rfl,rfl,rfl⟩:=trodAll_nil r1
 obtain rfl:args = #[v0,v1]:=by cases args;simp_all
 obtain⟨rfl,rfl⟩:=trodVars_none hV
 have hT:=errs_of_laid hL
 clear hA0 hval0
 simp only[List.append_nil]at hW'
 have hlt:∀x ∈ p0++p1,x.block<W.heap.size:=λx hx=>by simpa using hW'.lt x (by simpa using hx)
 obtain⟨A0,c0,l0,r0t,rfl,hN0,hc0,hm0,hC0⟩:=Vw.viewTr (hval 0 24 v0 rfl rfl) h0
 obtain⟨n1,rfl,hd1,hp1,hw1⟩:=open_int Tryz.underlying3 (hval 1 3 v1 rfl rfl) h1
 refine(flowReach_w A0 c0 l0 r0t n1 W hT hN0 hm0 hC0 hw1).mono ?_
 rintro e W' ⟨rfl,hnx⟩
 refine⟨_,rfl,_,_,_,[],_,[],hW',trodAll_cons_mk (shut_bool lit4 _) trodAll_mk0,trodAll_cons_mk (Below.trod laidOut (by kernel_rfl) (of_decide_eq_true (by kernel_rfl)) h0 hnx (λx hx=>hlt x (by simp[hx]))) (trodAll_cons_mk (Below.trod laidOut (by kernel_rfl) (of_decide_eq_true (by kernel_rfl)) h1 hnx (λx hx=>hlt x (by simp[hx]))) trodAll_mk0),rfl,hnx.frame _,λh=>by cases h⟩
end Go.Proofs.YtedkgofehbecmaaGreatDoor
namespace Go.Proofs.YtedkgofehbecmaaGreatDoor
open Go.Lib (hid)
open Go Go.ChangeShapes Go.WideShapes Go.ChangeAt Go.RowKit
theorem flowReach_and {a b:Bool}(h:a=true)(k:b=true):(a&&b)=true:=by rw[h,k];rfl
theorem flowReach_k0:(Rows.flowReachRow.wf (OpenSpec.ofChange Rows.flowReachSpec))=true:=by kernel_rfl
theorem flowReach_k1:(laidOutB Tryz.prog)=true:=by kernel_rfl
theorem flowReach_k2:(mapsRowed Tryz.prog)=true:=by kernel_rfl
theorem flowReach_k3:(Tryz.f7.params.all (Tryz.prog.readableRec ·))=true:=by kernel_rfl
theorem flowReach_k4:(namedTie Tryz.prog Rows.flowReachRow.named Rows.flowReachSpec.vars)=true:=by kernel_rfl
theorem flowReach_k5:((Rows.flowReachRow.stops==[]))=true:=by kernel_rfl
theorem flowReach_k6:((Tryz.prog.stops==[]))=true:=by kernel_rfl
theorem flowReach_k7:((Rows.flowReachRow.knobs==[]))=true:=by kernel_rfl
theorem flowReach_k8:((Tryz.prog.stopKnobs==[]))=true:=by kernel_rfl
theorem flowReach_k9:((Rows.flowReachRow.inPlace==Tryz.prog.inPlace 7))=true:=by kernel_rfl
theorem flowReach_k10:((Rows.flowReachRow.unfollowed==Tryz.prog.unfollowed 7))=true:=by kernel_rfl
theorem flowReach_k11:((Rows.flowReachRow.recurses==Tryz.prog.recurses 7))=true:=by kernel_rfl
theorem flowReach_k12:((Rows.flowReachRow.named==Tryz.prog.varsNamed 7))=true:=by kernel_rfl
theorem flowReach_k13:((Rows.flowReachRow.maps==(Tryz.f7.params.toList++Rows.flowReachSpec.plain.varTypes Tryz.prog).any (Tryz.prog.mapsRec ·)))=true:=by kernel_rfl
theorem flowReach_k14:((Rows.flowReachRow.ifaces==(Tryz.f7.params.toList++Rows.flowReachSpec.plain.varTypes Tryz.prog).any (Tryz.prog.ifacesRec ·)))=true:=by kernel_rfl
theorem flowReach_k15:((Rows.flowReachRow.mapsOut==Tryz.prog.mapsAmong Tryz.f7.resultTypes.toList))=true:=by kernel_rfl
theorem flowReach_k16:((Rows.flowReachRow.loops==(Tryz.f7.params.toList++Rows.flowReachSpec.plain.varTypes Tryz.prog).any (Tryz.prog.loopsFrom ·)))=true:=by kernel_rfl
theorem flowReach_k17:((Rows.flowReachRow.wideKeys==(Tryz.f7.params.toList++Rows.flowReachSpec.plain.varTypes Tryz.prog++Tryz.f7.resultTypes.toList).any (Tryz.prog.wideKeysFrom ·)))=true:=by kernel_rfl
theorem flowReach_k18:(Rows.flowReachSpec.vars.all (Tryz.prog.varReadable ·))=true:=by kernel_rfl
theorem flowReach_k19:(Tryz.f7.resultTypes.all (λt=>Tryz.prog.readableRec t&&decide (t<Tryz.prog.types.size)))=true:=by kernel_rfl
theorem flowReach_k20:((Rows.flowReachRow.ifacesOut==Tryz.f7.resultTypes.toList.any (Tryz.prog.ifacesRec ·)))=true:=by kernel_rfl
theorem flowReach_k21:((Rows.flowReachRow.loopsOut==Tryz.f7.resultTypes.toList.any (Tryz.prog.loopsFrom ·)))=true:=by kernel_rfl
theorem flowReach_k22:((Rows.flowReachRow.plainKeys==Tryz.prog.plainKeys))=true:=by kernel_rfl
theorem flowReach_k23:(Rows.flowReachRow.shortTexts.isNone)=true:=by kernel_rfl
theorem flowReach_k24:(Tryz.prog.stopsHeard)=true:=by kernel_rfl
theorem flowReach_k25:(Tryz.prog.mayEnter)=true:=by kernel_rfl
theorem flowReach_k26:((Rows.flowReachRow.lifted==Tryz.prog.liftsFinal))=true:=by kernel_rfl
theorem flowReach_k27:((Tryz.prog.make==some Rows.flowReachRow.make))=true:=by kernel_rfl
theorem flowReach_k28:((Rows.flowReachRow.kinds==(if Rows.flowReachRow.domain.isEmpty then [] else Tryz.f7.params.toList.map λt=>match Tryz.prog.underlying t with|some (.int k)=>some k |_=>none)))=true:=by kernel_rfl
theorem flowReach_k29:((Rows.flowReachRow.pinned==Rows.flowReachRow.pinnedBy))=true:=by kernel_rfl
theorem flowReach_k30:((Rows.flowReachRow.veiled==(Tryz.f7.params.toList++Rows.flowReachSpec.plain.varTypes Tryz.prog++Tryz.f7.resultTypes.toList).any (Tryz.prog.veiledRec ·)))=true:=by kernel_rfl
theorem flowReach_k31:(Rows.flowReachRow.veiledFits Tryz.prog Tryz.f7.params.toList (Tryz.f7.params.toList++Rows.flowReachSpec.plain.varTypes Tryz.prog++Tryz.f7.resultTypes.toList))=true:=by kernel_rfl
theorem flowReach_kn:Tryz.prog.funcNamed "runnel/runnellaw8.FlowReach" = some 7:=by kernel_rfl
theorem flowReach_inst:Tryz.f7.isInstance Tryz.prog Rows.flowReachRow.origin Rows.flowReachRow.targs:=of_decide_eq_true (by kernel_rfl)
theorem flowReach_wrap:Tryz.f7.isWrapper Tryz.prog Rows.flowReachRow.wrapper Rows.flowReachRow.mainSum:=by
 unfold Func.isWrapper
 first
  |(rw[if_pos (by decide +kernel)];kernel_rfl)
  |(rw[if_neg (by decide +kernel)];exact⟨rfl,rfl⟩)
end Go.Proofs.YtedkgofehbecmaaGreatDoor
namespace Go.Proofs.YtedkgofehbecmaaGreatDoor
open Go.Lib (hid)
open Go Go.ChangeShapes Go.WideShapes Go.ChangeAt Go.RowKit
set_option maxRecDepth 100000 in
theorem flowReach_closed:joinedFacts Tryz.prog 7 Tryz.f7 Rows.flowReachSpec Rows.flowReachRow=true:=(flowReach_and (flowReach_and (flowReach_and (flowReach_and (flowReach_and (flowReach_and (flowReach_and (flowReach_and (flowReach_and (flowReach_and (flowReach_and (flowReach_and (flowReach_and (flowReach_and (flowReach_and (flowReach_and (flowReach_and (flowReach_and (flowReach_and (flowReach_and (flowReach_and (flowReach_and (flowReach_and (flowReach_and (flowReach_and (flowReach_and (flowReach_and (flowReach_and (flowReach_and (flowReach_and (flowReach_and flowReach_k0 flowReach_k1) flowReach_k2) flowReach_k3) flowReach_k4) flowReach_k5) flowReach_k6) flowReach_k7) flowReach_k8) flowReach_k9) flowReach_k10) flowReach_k11) flowReach_k12) flowReach_k13) flowReach_k14) flowReach_k15) flowReach_k16) flowReach_k17) flowReach_k18) flowReach_k19) flowReach_k20) flowReach_k21) flowReach_k22) flowReach_k23) flowReach_k24) flowReach_k25) flowReach_k26) flowReach_k27) flowReach_k28) flowReach_k29) flowReach_k30) flowReach_k31)
set_option maxRecDepth 100000 in
set_option maxHeartbeats 4000000 in
theorem flowReach_row:Rows.FlowReachSaid:=
 OpenClaim.holds_of_wide 7 Tryz.f7 rfl rfl rfl rfl rfl rfl rfl ⟨rfl,rfl,rfl,rfl,rfl⟩ rfl rfl rfl rfl rfl flowReach_kn Tryz.func7 flowReach_closed flowReach_inst flowReach_wrap
  (λos started H enc _=>flowReach_lifted os started H enc)
end Go.Proofs.YtedkgofehbecmaaGreatDoor
