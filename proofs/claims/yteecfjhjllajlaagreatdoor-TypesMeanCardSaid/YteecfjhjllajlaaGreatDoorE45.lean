/- PROVED here: parts Cu of the claim. No condition but those in each theorem's own head. -/
import Derived.Test.YteecfjhjllajlaaGreatDoorE43
import Derived.Test.YteecfjhjllajlaaGreatDoorE44
namespace Go.Proofs.YteecfjhjllajlaaGreatDoor
section
set_option maxHeartbeats 8000000
set_option maxRecDepth 100000
open Go Go.RowKit Go.Sort
open Tr (Bx heap1 bt Nds Ints VPost BPost rgB par par_yes par_root par_node paL kidsAt IsPost)
theorem pcT_in {l:List Tr.Nd}{r:Int}(hr:rgB l r=true)(nm:ByteArray):pcT l r nm=optZ (prF l nm 0):=by unfold pcT;rw[eff_yes hr]
theorem tyT_in {l:List Tr.Nd}{r:Int}(hr:rgB l r=true){i:Nat}(hi:i<l.length):tpT l r i=typA l i:=by
 unfold tpT;rw[eff_yes hr,if_pos (by omega)];rfl
theorem plT_in {l:List Tr.Nd}{r:Int}(hr:rgB l r=true){q:Nat}(hq:q<l.length)(h3:(ndA l q).kd=3)(h:plnB l q=true):plT l r (q:Int)=true:=by
 unfold plT;rw[eff_yes hr,if_pos (by omega),h3,h];rfl
theorem chk_main {l:List Tr.Nd}{r:Int}(h:(chkT l r).2=0):rgB l r=true∧(chkA l r).2=0∧∃q,prF l ⟨#[109,97,105,110]⟩ 0=some q:=by
 unfold chkT at h
 cases hr:rgB l r with
 |false=>rw[hr]at h;simp at h
 |true=>
  rw[hr,if_pos rfl]at h
  refine⟨rfl,h,?_⟩
  have hm:=(chk_ok h).2
  unfold manB at hm
  cases e:prF l ⟨#[109,97,105,110]⟩ 0 with
  |none=>rw[e]at hm;cases hm
  |some q=>exact⟨q,rfl⟩
theorem str_neq (x:ByteArray):(x.toList != x.toList)=false:=by simp
theorem int_neq (x:Int):(x != x)=false:=by simp
theorem mean_kind (k:Int):k=22∨(k=23∨k=24∨k=8∨k=17)∨(k=9∨k=16)∨k=7∨k=25∨k=19∨((k==22)=false∧(k==23)=false∧(k==24)=false∧(k==8)=false∧(k==17)=false∧(k==9)=false∧(k==16)=false∧(k==7)=false∧(k==25)=false∧(k==19)=false):=by
 simp only[beq_eq_false_iff_ne]
 omega
theorem typesMean_any (A:Option Addr)(c n:Nat)(l:List Tr.Nd)(r:Int)(w:World)(hn:n=l.length)(hE:Tk.Errs w)(hN:Nds w A l)(hnum:∀x ∈ l,x.n≤9223372036854775807)(hc:Caps w A l):Calls Tryz.prog 11 #[.agg #[.slice A n c,.int .i64 r]] w (VPost (.bool true) w):=by
 have hb0:=heap1 w (.cells #[.slice A n c,.int .i64 r] 25)
 have HX:=Lib.hid (Bx.new w 25 [.slice A n c,.int .i64 r])
 have HB0:=Lib.hid hb0
 have HS:=Lib.hid (shown34_any _ (hE.below hb0))
 have HSM:=Lib.hid (show∀w',Below w.heap.size w w'→Calls Tryz.prog 35 #[.agg #[.slice A n c,.int .i64 r]] w' (SmPost7 l w')from fun w' q=>small35t_any A n c l r w' (hN.below q) hn)
 have HTT:=Lib.hid (show OkT7 l→∀w',Below w.heap.size w w'→TT w' A n l from fun h w' q=>(TT.mk hN hn (fun x hx=>by have:=(h.2 x hx).1;omega) (fun x hx=>by have:=(h.2 x hx).2;omega) hnum hc).below q)
 have HL:=Lib.hid hn
 clear hE hN hnum hc hb0 hn
 obtain⟨W0,hW0⟩:∃W0,w.alloc (.cells #[.slice A n c,.int .i64 r] 25)=W0:=⟨_,rfl⟩
 rw[hW0]at HX HB0 HS
 go_enter Tryz.func11,Tryz.ntmps11
 go_wp2_with (go_at_call 34;refine HS.out.mono ?_)
 rintro e w1 ⟨rfl,hb1⟩
 have HX1:=Lib.hid (HX.out.below hb1 HX.out.lt)
 have HB1:=Lib.hid (bt HB0.out hb1)
 have a0:=(HX1.out.cell 0).trans rfl
 have a1:=(HX1.out.cell 1).trans rfl
 clear hb1 hW0 HS HX HB0
 go_wp2_with (go_at_call 35;refine(HSM.out _ HB1.out).mono ?_)
 rintro e w2 ⟨hb2,bo,rfl,hok⟩
 have HB2:=Lib.hid (bt HB1.out hb2)
 cases bo with
 |false=>
  clear hb2 hok a0 a1
  go_wp2
  go_ret
  exact⟨rfl,HB2.out⟩
 |true=>
  have HOK:=Lib.hid (hok rfl)
  have HX2:=Lib.hid (HX1.out.below hb2 HX1.out.lt)
  clear hb2 hok a0 a1 HX1
  have a0:=(HX2.out.cell 0).trans rfl
  have a1:=(HX2.out.cell 1).trans rfl
  have HCK:=Lib.hid (check_any (HTT.out HOK.out _ HB2.out) c r)
  obtain⟨cz,hcz⟩:∃cz,(chkT l r).2=cz:=⟨_,rfl⟩
  rw[hcz]at HCK
  have HCZ:=Lib.hid hcz
  clear hcz
  generalize (chkT l r).1=cp at *
  by_cases hz:cz=0
  ·subst hz
   go_wp2_with (go_at_call 36;refine HCK.out.mono ?_)
   rintro e w3 ⟨rfl,hb3⟩
   have HB3:=Lib.hid (bt HB2.out hb3)
   have HX3:=Lib.hid (HX2.out.below hb3 HX2.out.lt)
   clear hb3 a0 a1 HCK HX2
   obtain⟨hr,hca,qm,hqm⟩:=chk_main HCZ.out
   have hMN:=main_any (HTT.out HOK.out _ HB3.out) c r
   rw[pcT_in hr,hqm]at hMN
   have HMN:=Lib.hid (show Calls Tryz.prog 48 #[.agg #[.slice A n c,.int .i64 r]] w3 (Tr.IPost (qm:Int) w3)from hMN)
   obtain⟨hqm1,hqm2,hqm3⟩:=prF_lt hqm
   clear hqm2
   have HQM:=Lib.hid (And.intro hqm1 hqm3)
   have HR:=Lib.hid hr
   have HCA:=Lib.hid hca
   have a0:=(HX3.out.cell 0).trans rfl
   have a1:=(HX3.out.cell 1).trans rfl
   clear hr hca hqm hqm1 hqm3 hMN HCZ
   go_wp2_with (go_at_call 48;refine HMN.out.mono ?_)
   rintro e w4 ⟨rfl,hb4⟩
   have HB4:=Lib.hid (bt HB3.out hb4)
   have HX4:=Lib.hid (HX3.out.below hb4 HX3.out.lt)
   clear hb4 a0 a1 HMN HX3
   have a0:=(HX4.out.cell 0).trans rfl
   have a1:=(HX4.out.cell 1).trans rfl
   have hRG:=(HTT.out HOK.out _ HB4.out).right c r
   rw[HR.out]at hRG
   have HRG:=Lib.hid hRG
   clear hRG
   go_wp2_with (go_at_call 27;refine HRG.out.mono ?_)
   rintro e w5 ⟨rfl,hb5⟩
   have HB5:=Lib.hid (bt HB4.out hb5)
   have HX5:=Lib.hid (HX4.out.below hb5 HX4.out.lt)
   clear hb5 a0 a1 HRG HX4
   have a0:=(HX5.out.cell 0).trans rfl
   have a1:=(HX5.out.cell 1).trans rfl
   have hT5:=HTT.out HOK.out _ HB5.out
   obtain⟨bM,oM,kM,cM,hAe,mt,m0,m1,m2,m3,m4,mI⟩:=node_at hT5.nds (Below.refl _ w5) qm HQM.out.1
   clear mt m0 m1 m2 m4 mI
   rw[← ndA_eq HQM.out.1,HQM.out.2]at m3
   have hAe:=hAe
   subst hAe
   have hqm0:¬(qm:Int)<0:=by omega
   have hqmn:(qm:Int)<(n:Int):=by have:=HQM.out.1;have:=HL.out;omega
   have hxm:=str_neq ⟨#[109,97,105,110]⟩
   clear hT5
   go_wp2
   clear m3 hxm hqm0 hqmn HQM
   go_loopg [8] n (fun g a8 wr=>∃i:Nat,a8 = .int .i64 (i:Int)∧i≤n∧g=n-i∧Below w5.heap.size w5 wr)
   case atStart=>exact⟨0,rfl,Nat.zero_le _,rfl,Below.refl _ _⟩
   case round=>
    obtain⟨i,rfl,hi,rfl,hb⟩:=hrel
    have hn4:n≤400:=by have:=HOK.out.1;have:=HL.out;omega
    have HB:=Lib.hid hb
    have hXr:=HX5.out.below hb HX5.out.lt
    have a0:=(hXr.cell 0).trans rfl
    have a1:=(hXr.cell 1).trans rfl
    by_cases hlt:i<n
    ·have hlz:(i:Int)<(n:Int):=by omega
     have hil:i<l.length:=by rw[← HL.out];exact hlt
     have hTr:=HTT.out HOK.out _ (bt HB5.out hb)
     obtain⟨bA,off,K,cK,e0,xt,x0,x1,x2,x3,x4,xI⟩:=node_at hTr.nds (Below.refl _ wr) i hil
     cases e0
     rw[← ndA_eq hil]at x0 x1 x2 x3 x4 xI
     have HNQ:=Lib.hid (show∀q:Nat,q<l.length→bM<wr.heap.size∧wr.cell? ⟨bM,oM+q*5+1,none⟩=some (.int .i64 (ndA l q).n)from fun q hq=>by
      obtain⟨b2,o2,_,_,e2,yt,_,y1,_⟩:=node_at hTr.nds (Below.refl _ wr) q hq
      cases e2
      rw[ndA_eq hq]
      exact⟨yt,y1⟩)
     have htx:(ndA l i).tx.size≤281474976710656:=by rw[ndA_eq hil];exact hTr.text _ (List.getElem_mem hil)
     have HTY:=Lib.hid (fun W (q:Below wr.heap.size wr W) (z:Int)=>type_any (HTT.out HOK.out _ (bt HB5.out (bt hb q))) c r z)
     have HPL:=Lib.hid (fun W (q:Below wr.heap.size wr W) (z:Int)=>plain_any (HTT.out HOK.out _ (bt HB5.out (bt hb q))) c r z)
     have hLK:=fun W (q:Below wr.heap.size wr W)=>lookup_any (HTT.out HOK.out _ (bt HB5.out (bt hb q))) c r (i:Int) (ndA l i).tx htx
     rw[lkT_in HR.out hil]at hLK
     have hPC:=fun W (q:Below wr.heap.size wr W)=>procT_any (HTT.out HOK.out _ (bt HB5.out (bt hb q))) c r (ndA l i).tx htx
     rw[pcT_in HR.out]at hPC
     obtain⟨bb,hRT⟩:=(rtn_of HR.out).1
     have hMNS:=hRT.means HCA.out hil
     have hF:=hRT.ndf hil
     have HNAT:=Lib.hid (hRT.nat hil)
     have HI:=Lib.hid xI
     have HNX:=Lib.hid (heap1 wr (.cells #[.int .i64 (ndA l i).kd,.int .i64 (ndA l i).n,.int .i64 (ndA l i).pl,.string (ndA l i).tx,.slice K (ndA l i).ks.length cK] 37))
     have hX6:=hXr.alloc (.cells #[.int .i64 (ndA l i).kd,.int .i64 (ndA l i).n,.int .i64 (ndA l i).pl,.string (ndA l i).tx,.slice K (ndA l i).ks.length cK] 37)
     have hN6:=Bx.new wr 37 [.int .i64 (ndA l i).kd,.int .i64 (ndA l i).n,.int .i64 (ndA l i).pl,.string (ndA l i).tx,.slice K (ndA l i).ks.length cK]
     obtain⟨w6,hw6⟩:∃w6,wr.alloc (.cells #[.int .i64 (ndA l i).kd,.int .i64 (ndA l i).n,.int .i64 (ndA l i).pl,.string (ndA l i).tx,.slice K (ndA l i).ks.length cK] 37)=w6:=⟨_,rfl⟩
     rw[hw6]at HNX hX6 hN6
     have HX6:=Lib.hid (And.intro hX6 hN6)
     have e0:=(hX6.cell 0).trans rfl
     have e1:=(hX6.cell 1).trans rfl
     have e3:=(hN6.cell 3).trans rfl
     have HLC:=Lib.hid (hLK w6 HNX.out)
     have HPC:=Lib.hid (fun W (q:Below w6.heap.size w6 W)=>hPC W (bt HNX.out q))
     have HRT:=Lib.hid hRT
     have HIL:=Lib.hid hil
     have HMS:=Lib.hid hMNS
     have HFF:=Lib.hid hF
     clear hTr xI hLK hPC hX6 hN6 hXr hb htx hRT hMNS hF
     rcases mean_kind (ndA l i).kd with hk |hk |hk |hk |hk |hk |hk
     ·obtain⟨d,hd,hdt⟩:=HMS.out.1 hk
      have hdl:=(dnA_lt hd).1
      have hd0:¬(d:Int)<0:=by omega
      have hd00:(0:Int)≤(d:Int):=by omega
      have hd0d:decide ((d:Int)<0)=false:=decide_eq_false hd0
      have hdn:(d:Int)<(n:Int):=by have:=HL.out;omega
      have HND:=Lib.hid (HNQ.out d hdl)
      rw[hd,show optZ (some d)=(d:Int)from rfl]at HLC
      have hty:=fun W (q:Below w6.heap.size w6 W)=>HTY.out W (bt HNX.out q) (i:Int)
      rw[tyT_in HR.out HIL.out,hdt]at hty
      have HTC:=Lib.hid hty
      rw[hk]at hw6 x0 HX6
      clear HTY HPL HRT HIL HMS HFF HNAT HI HNQ
      clear hty hdt hd hdl hk
      generalize (ndA l (d:Int)).n=dn at *
      generalize optZ (prF l (ndA l (i:Int)).tx 0)=pz at *
      generalize (ndA l (i:Int)).tx=tx at *
      generalize (ndA l (i:Int)).n=nn at *
      generalize (ndA l (i:Int)).pl=pl at *
      generalize (ndA l (i:Int)).ks.length=mk at *
      have hne:=int_neq dn
      go_wp2_with (go_at_call 40;refine HLC.out.mono ?_)
      rintro e w7 ⟨rfl,hb7⟩
      have HB7:=Lib.hid hb7
      have u0:=((HX6.out.1.below hb7 HX6.out.1.lt).cell 0).trans rfl
      have u1:=((HX6.out.1.below hb7 HX6.out.1.lt).cell 1).trans rfl
      have u3:=((HX6.out.2.below hb7 HX6.out.2.lt).cell 3).trans rfl
      clear hb7 e0 e1 e3
      go_wp2_with (go_at_call 42;refine(HPC.out _ HB7.out).mono ?_)
      rintro e w8 ⟨rfl,hb8⟩
      have hb9:=bt HB7.out hb8
      have HB8:=Lib.hid hb9
      clear u0 u1 u3 hb8
      have v0:=((HX6.out.1.below hb9 HX6.out.1.lt).cell 0).trans rfl
      have v1:=((HX6.out.1.below hb9 HX6.out.1.lt).cell 1).trans rfl
      have vk:=((HX6.out.2.below hb9 HX6.out.2.lt).cell 0).trans rfl
      have v4:=((HX6.out.2.below hb9 HX6.out.2.lt).cell 4).trans rfl
      have vn:=(bt HNX.out hb9).cell (p:=⟨bM,oM+d*5+1,none⟩) HND.out.1 |>.trans HND.out.2
      have r0:=cell_regrown v0
      have r1:=cell_regrown v1
      have r2:=cell_regrown vn
      have cq:∀d os,Calls Tryz.prog 46 #[.agg #[.slice (some ⟨bM,oM,none⟩) n c,.int .i64 r],.int .i64 (i:Int)] (grow (redrawn w8 d) os) fun e w''=>e = .returned (.int .i64 dn)∧∃p:Regrown,w''=grow (redrawn w8 p.d) p.os:=fun d os=>Calls.regrown_of (HTC.out _ (bt HB8.out (below_regrown w8 d os)))
      clear v0 v1 vn hb9
      go_wp2
      refine wp_region_quiet_below (by kernel_rfl) (by kernel_rfl) ?_
      repeat (go_big_quiet_step (first|exact cq _ _))
      refine wpQuiet_nil ?_
      intro _ hw'
      obtain⟨⟨dq,osq⟩,hw''⟩:=hw'
      subst hw''
      have hbq:=below_regrown w8 dq osq
      generalize grow (redrawn w8 dq) osq=w9 at *
      have HE:=Lib.hid (bt HB.out (bt HNX.out (bt HB8.out hbq)))
      clear hbq cq
      go_wp2
      go_roundg (n-(i+1))
      case measure=>go_light;omega
      case rel=>
       go_light
       exact⟨i+1,by go_num,by omega,rfl,HE.out⟩
     ·obtain⟨d,hd,hdt⟩:=HMS.out.2.1 hk
      have hdl:=(dnA_lt hd).1
      have hd0:¬(d:Int)<0:=by omega
      have hd00:(0:Int)≤(d:Int):=by omega
      have hd0d:decide ((d:Int)<0)=false:=decide_eq_false hd0
      have hdn:(d:Int)<(n:Int):=by have:=HL.out;omega
      have HND:=Lib.hid (HNQ.out d hdl)
      rw[hd,show optZ (some d)=(d:Int)from rfl]at HLC
      clear HTY HPL HRT HIL HMS HFF HNAT HI HNQ
      rw[hdt]at HND
      clear hdt hd hdl
      generalize optZ (prF l (ndA l (i:Int)).tx 0)=pz at *
      generalize (ndA l (i:Int)).tx=tx at *
      generalize (ndA l (i:Int)).n=nn at *
      generalize (ndA l (i:Int)).pl=pl at *
      generalize (ndA l (i:Int)).ks.length=mk at *
      rcases hk with hk |hk |hk |hk
      ·rw[hk]at hw6 x0 HX6
       clear hk
       go_wp2_with (go_at_call 40;refine HLC.out.mono ?_)
       rintro e w7 ⟨rfl,hb7⟩
       have HB7:=Lib.hid hb7
       have u0:=((HX6.out.1.below hb7 HX6.out.1.lt).cell 0).trans rfl
       have u1:=((HX6.out.1.below hb7 HX6.out.1.lt).cell 1).trans rfl
       have u3:=((HX6.out.2.below hb7 HX6.out.2.lt).cell 3).trans rfl
       clear hb7 e0 e1 e3
       go_wp2_with (go_at_call 42;refine(HPC.out _ HB7.out).mono ?_)
       rintro e w8 ⟨rfl,hb8⟩
       have hb9:=bt HB7.out hb8
       have HB8:=Lib.hid hb9
       clear u0 u1 u3 hb8
       have v0:=((HX6.out.1.below hb9 HX6.out.1.lt).cell 0).trans rfl
       have v1:=((HX6.out.1.below hb9 HX6.out.1.lt).cell 1).trans rfl
       have vk:=((HX6.out.2.below hb9 HX6.out.2.lt).cell 0).trans rfl
       have v4:=((HX6.out.2.below hb9 HX6.out.2.lt).cell 4).trans rfl
       have vn:=(bt HNX.out hb9).cell (p:=⟨bM,oM+d*5+1,none⟩) HND.out.1 |>.trans HND.out.2
       have HE:=Lib.hid (bt HB.out (bt HNX.out HB8.out))
       clear hb9
       go_wp2
       go_roundg (n-(i+1))
       case measure=>go_light;omega
       case rel=>
        go_light
        exact⟨i+1,by go_num,by omega,rfl,HE.out⟩
      ·rw[hk]at hw6 x0 HX6
       clear hk
       go_wp2_with (go_at_call 40;refine HLC.out.mono ?_)
       rintro e w7 ⟨rfl,hb7⟩
       have HB7:=Lib.hid hb7
       have u0:=((HX6.out.1.below hb7 HX6.out.1.lt).cell 0).trans rfl
       have u1:=((HX6.out.1.below hb7 HX6.out.1.lt).cell 1).trans rfl
       have u3:=((HX6.out.2.below hb7 HX6.out.2.lt).cell 3).trans rfl
       clear hb7 e0 e1 e3
       go_wp2_with (go_at_call 42;refine(HPC.out _ HB7.out).mono ?_)
       rintro e w8 ⟨rfl,hb8⟩
       have hb9:=bt HB7.out hb8
       have HB8:=Lib.hid hb9
       clear u0 u1 u3 hb8
       have v0:=((HX6.out.1.below hb9 HX6.out.1.lt).cell 0).trans rfl
       have v1:=((HX6.out.1.below hb9 HX6.out.1.lt).cell 1).trans rfl
       have vk:=((HX6.out.2.below hb9 HX6.out.2.lt).cell 0).trans rfl
       have v4:=((HX6.out.2.below hb9 HX6.out.2.lt).cell 4).trans rfl
       have vn:=(bt HNX.out hb9).cell (p:=⟨bM,oM+d*5+1,none⟩) HND.out.1 |>.trans HND.out.2
       have HE:=Lib.hid (bt HB.out (bt HNX.out HB8.out))
       clear hb9
       go_wp2
       go_roundg (n-(i+1))
       case measure=>go_light;omega
       case rel=>
        go_light
        exact⟨i+1,by go_num,by omega,rfl,HE.out⟩
      ·rw[hk]at hw6 x0 HX6
       clear hk
       go_wp2_with (go_at_call 40;refine HLC.out.mono ?_)
       rintro e w7 ⟨rfl,hb7⟩
       have HB7:=Lib.hid hb7
       have u0:=((HX6.out.1.below hb7 HX6.out.1.lt).cell 0).trans rfl
       have u1:=((HX6.out.1.below hb7 HX6.out.1.lt).cell 1).trans rfl
       have u3:=((HX6.out.2.below hb7 HX6.out.2.lt).cell 3).trans rfl
       clear hb7 e0 e1 e3
       go_wp2_with (go_at_call 42;refine(HPC.out _ HB7.out).mono ?_)
       rintro e w8 ⟨rfl,hb8⟩
       have hb9:=bt HB7.out hb8
       have HB8:=Lib.hid hb9
       clear u0 u1 u3 hb8
       have v0:=((HX6.out.1.below hb9 HX6.out.1.lt).cell 0).trans rfl
       have v1:=((HX6.out.1.below hb9 HX6.out.1.lt).cell 1).trans rfl
       have vk:=((HX6.out.2.below hb9 HX6.out.2.lt).cell 0).trans rfl
       have v4:=((HX6.out.2.below hb9 HX6.out.2.lt).cell 4).trans rfl
       have vn:=(bt HNX.out hb9).cell (p:=⟨bM,oM+d*5+1,none⟩) HND.out.1 |>.trans HND.out.2
       have HE:=Lib.hid (bt HB.out (bt HNX.out HB8.out))
       clear hb9
       go_wp2
       go_roundg (n-(i+1))
       case measure=>go_light;omega
       case rel=>
        go_light
        exact⟨i+1,by go_num,by omega,rfl,HE.out⟩
      ·rw[hk]at hw6 x0 HX6
       clear hk
       go_wp2_with (go_at_call 40;refine HLC.out.mono ?_)
       rintro e w7 ⟨rfl,hb7⟩
       have HB7:=Lib.hid hb7
       have u0:=((HX6.out.1.below hb7 HX6.out.1.lt).cell 0).trans rfl
       have u1:=((HX6.out.1.below hb7 HX6.out.1.lt).cell 1).trans rfl
       have u3:=((HX6.out.2.below hb7 HX6.out.2.lt).cell 3).trans rfl
       clear hb7 e0 e1 e3
       go_wp2_with (go_at_call 42;refine(HPC.out _ HB7.out).mono ?_)
       rintro e w8 ⟨rfl,hb8⟩
       have hb9:=bt HB7.out hb8
       have HB8:=Lib.hid hb9
       clear u0 u1 u3 hb8
       have v0:=((HX6.out.1.below hb9 HX6.out.1.lt).cell 0).trans rfl
       have v1:=((HX6.out.1.below hb9 HX6.out.1.lt).cell 1).trans rfl
       have vk:=((HX6.out.2.below hb9 HX6.out.2.lt).cell 0).trans rfl
       have v4:=((HX6.out.2.below hb9 HX6.out.2.lt).cell 4).trans rfl
       have vn:=(bt HNX.out hb9).cell (p:=⟨bM,oM+d*5+1,none⟩) HND.out.1 |>.trans HND.out.2
       have HE:=Lib.hid (bt HB.out (bt HNX.out HB8.out))
       clear hb9
       go_wp2
       go_roundg (n-(i+1))
       case measure=>go_light;omega
       case rel=>
        go_light
        exact⟨i+1,by go_num,by omega,rfl,HE.out⟩
     ·obtain⟨d,hd,hdt⟩:=HMS.out.2.2.1 hk
      have hdl:=(dnA_lt hd).1
      have hd0:¬(d:Int)<0:=by omega
      have hd00:(0:Int)≤(d:Int):=by omega
      have hd0d:decide ((d:Int)<0)=false:=decide_eq_false hd0
      have hdn:(d:Int)<(n:Int):=by have:=HL.out;omega
      have HND:=Lib.hid (HNQ.out d hdl)
      rw[hd,show optZ (some d)=(d:Int)from rfl]at HLC
      clear HTY HPL HRT HIL HMS HFF HNAT HI HNQ
      rw[hdt]at HND
      clear hdt hd hdl
      generalize optZ (prF l (ndA l (i:Int)).tx 0)=pz at *
      generalize (ndA l (i:Int)).tx=tx at *
      generalize (ndA l (i:Int)).n=nn at *
      generalize (ndA l (i:Int)).pl=pl at *
      generalize (ndA l (i:Int)).ks.length=mk at *
      rcases hk with hk |hk
      ·rw[hk]at hw6 x0 HX6
       clear hk
       go_wp2_with (go_at_call 40;refine HLC.out.mono ?_)
       rintro e w7 ⟨rfl,hb7⟩
       have HB7:=Lib.hid hb7
       have u0:=((HX6.out.1.below hb7 HX6.out.1.lt).cell 0).trans rfl
       have u1:=((HX6.out.1.below hb7 HX6.out.1.lt).cell 1).trans rfl
       have u3:=((HX6.out.2.below hb7 HX6.out.2.lt).cell 3).trans rfl
       clear hb7 e0 e1 e3
       go_wp2_with (go_at_call 42;refine(HPC.out _ HB7.out).mono ?_)
       rintro e w8 ⟨rfl,hb8⟩
       have hb9:=bt HB7.out hb8
       have HB8:=Lib.hid hb9
       clear u0 u1 u3 hb8
       have v0:=((HX6.out.1.below hb9 HX6.out.1.lt).cell 0).trans rfl
       have v1:=((HX6.out.1.below hb9 HX6.out.1.lt).cell 1).trans rfl
       have vk:=((HX6.out.2.below hb9 HX6.out.2.lt).cell 0).trans rfl
       have v4:=((HX6.out.2.below hb9 HX6.out.2.lt).cell 4).trans rfl
       have vn:=(bt HNX.out hb9).cell (p:=⟨bM,oM+d*5+1,none⟩) HND.out.1 |>.trans HND.out.2
       have HE:=Lib.hid (bt HB.out (bt HNX.out HB8.out))
       clear hb9
       go_wp2
       go_roundg (n-(i+1))
       case measure=>go_light;omega
       case rel=>
        go_light
        exact⟨i+1,by go_num,by omega,rfl,HE.out⟩
      ·rw[hk]at hw6 x0 HX6
       clear hk
       go_wp2_with (go_at_call 40;refine HLC.out.mono ?_)
       rintro e w7 ⟨rfl,hb7⟩
       have HB7:=Lib.hid hb7
       have u0:=((HX6.out.1.below hb7 HX6.out.1.lt).cell 0).trans rfl
       have u1:=((HX6.out.1.below hb7 HX6.out.1.lt).cell 1).trans rfl
       have u3:=((HX6.out.2.below hb7 HX6.out.2.lt).cell 3).trans rfl
       clear hb7 e0 e1 e3
       go_wp2_with (go_at_call 42;refine(HPC.out _ HB7.out).mono ?_)
       rintro e w8 ⟨rfl,hb8⟩
       have hb9:=bt HB7.out hb8
       have HB8:=Lib.hid hb9
       clear u0 u1 u3 hb8
       have v0:=((HX6.out.1.below hb9 HX6.out.1.lt).cell 0).trans rfl
       have v1:=((HX6.out.1.below hb9 HX6.out.1.lt).cell 1).trans rfl
       have vk:=((HX6.out.2.below hb9 HX6.out.2.lt).cell 0).trans rfl
       have v4:=((HX6.out.2.below hb9 HX6.out.2.lt).cell 4).trans rfl
       have vn:=(bt HNX.out hb9).cell (p:=⟨bM,oM+d*5+1,none⟩) HND.out.1 |>.trans HND.out.2
       have HE:=Lib.hid (bt HB.out (bt HNX.out HB8.out))
       clear hb9
       go_wp2
       go_roundg (n-(i+1))
       case measure=>go_light;omega
       case rel=>
        go_light
        exact⟨i+1,by go_num,by omega,rfl,HE.out⟩
     ·obtain⟨d,hd,hdt⟩:=HMS.out.2.2.2.1 hk
      have hdl:=(dnA_lt hd).1
      have hd0:¬(d:Int)<0:=by omega
      have hd00:(0:Int)≤(d:Int):=by omega
      have hd0d:decide ((d:Int)<0)=false:=decide_eq_false hd0
      have hdn:(d:Int)<(n:Int):=by have:=HL.out;omega
      have HND:=Lib.hid (HNQ.out d hdl)
      rw[hd,show optZ (some d)=(d:Int)from rfl]at HLC
      obtain⟨k0,ks0,hks⟩:=HFF.out.one (Or.inl hk)
      obtain⟨k,rfl,hki⟩:=HNAT.out k0 (by rw[hks];simp)
      have hkl:k<l.length:=by have:=HIL.out;omega
      have hka:(kidA l i 0).toNat=k:=by unfold kidA;rw[hks];rfl
      have hty:=fun W (q:Below w6.heap.size w6 W)=>HTY.out W (bt HNX.out q) (k:Int)
      rw[tyT_in HR.out hkl]at hty
      rw[hka]at hdt
      rw[← hdt]at hty
      have HTC:=Lib.hid hty
      have hI2:=HI.out
      rw[hks]at hI2 x4 HX6 hw6
      obtain⟨bK,oK,rfl,hbK,hcK⟩:=hI2 (by simp)
      have hk0:=hcK 0 (by simp)
      have HK0:=Lib.hid (And.intro hbK (show wr.cell? ⟨bK,oK,none⟩=some (.int .i64 (k:Int))from hk0))
      rw[show((k:Int) :: ks0).length=ks0.length+1 from rfl]at x4 HX6 hw6
      have hmk:(0:Int)<((ks0.length+1:Nat):Int):=by omega
      rw[hk]at hw6 x0 HX6
      clear HTY HPL HRT HIL HMS HFF HNAT HI HNQ
      clear hty hdt hd hdl hk hka hki hkl hks hI2 hbK hcK hk0
      generalize ks0.length+1=mk at *
      generalize (ndA l (d:Int)).n=dn at *
      generalize optZ (prF l (ndA l (i:Int)).tx 0)=pz at *
      generalize (ndA l (i:Int)).tx=tx at *
      generalize (ndA l (i:Int)).n=nn at *
      generalize (ndA l (i:Int)).pl=pl at *
      have hne:=int_neq dn
      go_wp2_with (go_at_call 40;refine HLC.out.mono ?_)
      rintro e w7 ⟨rfl,hb7⟩
      have HB7:=Lib.hid hb7
      have u0:=((HX6.out.1.below hb7 HX6.out.1.lt).cell 0).trans rfl
      have u1:=((HX6.out.1.below hb7 HX6.out.1.lt).cell 1).trans rfl
      have u3:=((HX6.out.2.below hb7 HX6.out.2.lt).cell 3).trans rfl
      clear hb7 e0 e1 e3
      go_wp2_with (go_at_call 42;refine(HPC.out _ HB7.out).mono ?_)
      rintro e w8 ⟨rfl,hb8⟩
      have hb9:=bt HB7.out hb8
      have HB8:=Lib.hid hb9
      clear u0 u1 u3 hb8
      have v0:=((HX6.out.1.below hb9 HX6.out.1.lt).cell 0).trans rfl
      have v1:=((HX6.out.1.below hb9 HX6.out.1.lt).cell 1).trans rfl
      have vk:=((HX6.out.2.below hb9 HX6.out.2.lt).cell 0).trans rfl
      have v4:=((HX6.out.2.below hb9 HX6.out.2.lt).cell 4).trans rfl
      have vn:=(bt HNX.out hb9).cell (p:=⟨bM,oM+d*5+1,none⟩) HND.out.1 |>.trans HND.out.2
      have vk0:=(bt HNX.out hb9).cell (p:=⟨bK,oK,none⟩) HK0.out.1 |>.trans HK0.out.2
      have r0:=cell_regrown v0
      have r1:=cell_regrown v1
      have r2:=cell_regrown vn
      have r4:=cell_regrown v4
      have r5:=cell_regrown vk0
      have cq:∀d os,Calls Tryz.prog 46 #[.agg #[.slice (some ⟨bM,oM,none⟩) n c,.int .i64 r],.int .i64 (k:Int)] (grow (redrawn w8 d) os) fun e w''=>e = .returned (.int .i64 dn)∧∃p:Regrown,w''=grow (redrawn w8 p.d) p.os:=fun d os=>Calls.regrown_of (HTC.out _ (bt HB8.out (below_regrown w8 d os)))
      clear v0 v1 vn v4 vk0 hb9
      go_wp2
      refine wp_region_quiet_below (by kernel_rfl) (by kernel_rfl) ?_
      repeat (go_big_quiet_step (first|exact cq _ _))
      refine wpQuiet_nil ?_
      intro _ hw'
      obtain⟨⟨dq,osq⟩,hw''⟩:=hw'
      subst hw''
      have hbq:=below_regrown w8 dq osq
      generalize grow (redrawn w8 dq) osq=w9 at *
      have HE:=Lib.hid (bt HB.out (bt HNX.out (bt HB8.out hbq)))
      clear hbq cq
      go_wp2
      go_roundg (n-(i+1))
      case measure=>go_light;omega
      case rel=>
       go_light
       exact⟨i+1,by go_num,by omega,rfl,HE.out⟩
     ·obtain⟨q,hq,hpl⟩:=HMS.out.2.2.2.2.1 hk
      obtain⟨hql,hq3,_⟩:=prF_lt hq
      have hPQ:=fun W (q2:Below w6.heap.size w6 W)=>HPL.out W (bt HNX.out q2) (q:Int)
      rw[plT_in HR.out hql hq3 hpl]at hPQ
      have HPQ:=Lib.hid hPQ
      rw[hq,show optZ (some q)=(q:Int)from rfl]at HPC
      rw[hk]at hw6 x0 HX6
      clear HTY HPL HRT HIL HMS HFF HNAT HI HNQ
      clear hPQ hq hpl hql hq3 hk
      generalize optZ (dnA l i (ndA l (i:Int)).tx)=dz at *
      generalize (ndA l (i:Int)).tx=tx at *
      generalize (ndA l (i:Int)).n=nn at *
      generalize (ndA l (i:Int)).pl=pl at *
      generalize (ndA l (i:Int)).ks.length=mk at *
      go_wp2_with (go_at_call 40;refine HLC.out.mono ?_)
      rintro e w7 ⟨rfl,hb7⟩
      have HB7:=Lib.hid hb7
      have u0:=((HX6.out.1.below hb7 HX6.out.1.lt).cell 0).trans rfl
      have u1:=((HX6.out.1.below hb7 HX6.out.1.lt).cell 1).trans rfl
      have u3:=((HX6.out.2.below hb7 HX6.out.2.lt).cell 3).trans rfl
      clear hb7 e0 e1 e3
      go_wp2_with (go_at_call 42;refine(HPC.out _ HB7.out).mono ?_)
      rintro e w8 ⟨rfl,hb8⟩
      have hb9:=bt HB7.out hb8
      have HB8:=Lib.hid hb9
      clear u0 u1 u3 hb8
      have v0:=((HX6.out.1.below hb9 HX6.out.1.lt).cell 0).trans rfl
      have v1:=((HX6.out.1.below hb9 HX6.out.1.lt).cell 1).trans rfl
      have vk:=((HX6.out.2.below hb9 HX6.out.2.lt).cell 0).trans rfl
      have v4:=((HX6.out.2.below hb9 HX6.out.2.lt).cell 4).trans rfl
      clear hb9
      go_wp2_with (go_at_call 44;refine(HPQ.out _ HB8.out).mono ?_)
      rintro e w9 ⟨rfl,hb10⟩
      have HE:=Lib.hid (bt HB.out (bt HNX.out (bt HB8.out hb10)))
      clear hb10
      go_wp2
      go_roundg (n-(i+1))
      case measure=>go_light;omega
      case rel=>
       go_light
       exact⟨i+1,by go_num,by omega,rfl,HE.out⟩
     ·rcases HMS.out.2.2.2.2.2 hk with⟨d,hd,hdt⟩ |⟨hdn,q,hq⟩
      ·have hdl:=(dnA_lt hd).1
       have hd0:¬(d:Int)<0:=by omega
       have hd00:(0:Int)≤(d:Int):=by omega
       have hd0d:decide ((d:Int)<0)=false:=decide_eq_false hd0
       have hdn:(d:Int)<(n:Int):=by have:=HL.out;omega
       have HND:=Lib.hid (HNQ.out d hdl)
       rw[hd,show optZ (some d)=(d:Int)from rfl]at HLC
       clear HTY HPL HRT HIL HMS HFF HNAT HI HNQ
       rw[hdt]at HND
       rw[hk]at hw6 x0 HX6
       clear hdt hd hdl hk
       generalize optZ (prF l (ndA l (i:Int)).tx 0)=pz at *
       generalize (ndA l (i:Int)).tx=tx at *
       generalize (ndA l (i:Int)).n=nn at *
       generalize (ndA l (i:Int)).pl=pl at *
       generalize (ndA l (i:Int)).ks.length=mk at *
       go_wp2_with (go_at_call 40;refine HLC.out.mono ?_)
       rintro e w7 ⟨rfl,hb7⟩
       have HB7:=Lib.hid hb7
       have u0:=((HX6.out.1.below hb7 HX6.out.1.lt).cell 0).trans rfl
       have u1:=((HX6.out.1.below hb7 HX6.out.1.lt).cell 1).trans rfl
       have u3:=((HX6.out.2.below hb7 HX6.out.2.lt).cell 3).trans rfl
       clear hb7 e0 e1 e3
       go_wp2_with (go_at_call 42;refine(HPC.out _ HB7.out).mono ?_)
       rintro e w8 ⟨rfl,hb8⟩
       have hb9:=bt HB7.out hb8
       have HB8:=Lib.hid hb9
       clear u0 u1 u3 hb8
       have v0:=((HX6.out.1.below hb9 HX6.out.1.lt).cell 0).trans rfl
       have v1:=((HX6.out.1.below hb9 HX6.out.1.lt).cell 1).trans rfl
       have vk:=((HX6.out.2.below hb9 HX6.out.2.lt).cell 0).trans rfl
       have v4:=((HX6.out.2.below hb9 HX6.out.2.lt).cell 4).trans rfl
       have vn:=(bt HNX.out hb9).cell (p:=⟨bM,oM+d*5+1,none⟩) HND.out.1 |>.trans HND.out.2
       have HE:=Lib.hid (bt HB.out (bt HNX.out HB8.out))
       clear hb9
       go_wp2
       go_roundg (n-(i+1))
       case measure=>go_light;omega
       case rel=>
        go_light
        exact⟨i+1,by go_num,by omega,rfl,HE.out⟩
      ·rw[hdn,show optZ none = -1 from rfl]at HLC
       rw[hq,show optZ (some q)=(q:Int)from rfl]at HPC
       have hq0:¬(q:Int)<0:=by omega
       have hm1:¬(0:Int) ≤ -1:=by decide
       rw[hk]at hw6 x0 HX6
       clear HTY HPL HRT HIL HMS HFF HNAT HI HNQ
       clear hdn hq hk
       generalize (ndA l (i:Int)).tx=tx at *
       generalize (ndA l (i:Int)).n=nn at *
       generalize (ndA l (i:Int)).pl=pl at *
       generalize (ndA l (i:Int)).ks.length=mk at *
       go_wp2_with (go_at_call 40;refine HLC.out.mono ?_)
       rintro e w7 ⟨rfl,hb7⟩
       have HB7:=Lib.hid hb7
       have u0:=((HX6.out.1.below hb7 HX6.out.1.lt).cell 0).trans rfl
       have u1:=((HX6.out.1.below hb7 HX6.out.1.lt).cell 1).trans rfl
       have u3:=((HX6.out.2.below hb7 HX6.out.2.lt).cell 3).trans rfl
       clear hb7 e0 e1 e3
       go_wp2_with (go_at_call 42;refine(HPC.out _ HB7.out).mono ?_)
       rintro e w8 ⟨rfl,hb8⟩
       have hb9:=bt HB7.out hb8
       have HB8:=Lib.hid hb9
       clear u0 u1 u3 hb8
       have v0:=((HX6.out.1.below hb9 HX6.out.1.lt).cell 0).trans rfl
       have v1:=((HX6.out.1.below hb9 HX6.out.1.lt).cell 1).trans rfl
       have vk:=((HX6.out.2.below hb9 HX6.out.2.lt).cell 0).trans rfl
       have v4:=((HX6.out.2.below hb9 HX6.out.2.lt).cell 4).trans rfl
       have HE:=Lib.hid (bt HB.out (bt HNX.out HB8.out))
       clear hb9
       go_wp2
       go_roundg (n-(i+1))
       case measure=>go_light;omega
       case rel=>
        go_light
        exact⟨i+1,by go_num,by omega,rfl,HE.out⟩
     ·obtain⟨k22,k23,k24,k8,k17,k9,k16,k7,k25,k19⟩:=hk
      clear HTY HPL HRT HIL HMS HFF HNAT HI HNQ
      generalize optZ (prF l (ndA l (i:Int)).tx 0)=pz at *
      generalize optZ (dnA l i (ndA l (i:Int)).tx)=dz at *
      generalize (ndA l (i:Int)).kd=kd at *
      generalize (ndA l (i:Int)).tx=tx at *
      generalize (ndA l (i:Int)).n=nn at *
      generalize (ndA l (i:Int)).pl=pl at *
      generalize (ndA l (i:Int)).ks.length=mk at *
      go_wp2_with (go_at_call 40;refine HLC.out.mono ?_)
      rintro e w7 ⟨rfl,hb7⟩
      have HB7:=Lib.hid hb7
      have u0:=((HX6.out.1.below hb7 HX6.out.1.lt).cell 0).trans rfl
      have u1:=((HX6.out.1.below hb7 HX6.out.1.lt).cell 1).trans rfl
      have u3:=((HX6.out.2.below hb7 HX6.out.2.lt).cell 3).trans rfl
      clear hb7 e0 e1 e3
      go_wp2_with (go_at_call 42;refine(HPC.out _ HB7.out).mono ?_)
      rintro e w8 ⟨rfl,hb8⟩
      have hb9:=bt HB7.out hb8
      have HB8:=Lib.hid hb9
      clear u0 u1 u3 hb8
      have v0:=((HX6.out.1.below hb9 HX6.out.1.lt).cell 0).trans rfl
      have v1:=((HX6.out.1.below hb9 HX6.out.1.lt).cell 1).trans rfl
      have vk:=((HX6.out.2.below hb9 HX6.out.2.lt).cell 0).trans rfl
      have v4:=((HX6.out.2.below hb9 HX6.out.2.lt).cell 4).trans rfl
      have HE:=Lib.hid (bt HB.out (bt HNX.out HB8.out))
      clear hb9
      go_wp2
      go_roundg (n-(i+1))
      case measure=>go_light;omega
      case rel=>
       go_light
       exact⟨i+1,by go_num,by omega,rfl,HE.out⟩
    ·obtain rfl:i=n:=by omega
     have hlz:¬(i:Int)<(i:Int):=by omega
     go_wp2
     go_ret
     exact⟨rfl,bt HB5.out HB.out⟩
  ·have hzn:(cz != 0)=true:=by simp[hz]
   clear hz
   go_wp2_with (go_at_call 36;refine HCK.out.mono ?_)
   rintro e w3 ⟨rfl,hb3⟩
   have HB3:=Lib.hid (bt HB2.out hb3)
   clear hb3
   go_wp2
   go_ret
   exact⟨rfl,HB3.out⟩
theorem typesMean_w (A:Option Addr)(c:Nat)(l:List Tr.Nd)(r:Int)(w:World)(hE:Tk.Errs w)(hN:Nds w A l)(hnum:∀x ∈ l,x.n≤9223372036854775807)(hc:Caps w A l):Calls Tryz.prog 11 #[.agg #[.slice A l.length c,.int .i64 r]] w (VPost (.bool true) w):=typesMean_any A c l.length l r w rfl hE hN hnum hc
end
end Go.Proofs.YteecfjhjllajlaaGreatDoor
