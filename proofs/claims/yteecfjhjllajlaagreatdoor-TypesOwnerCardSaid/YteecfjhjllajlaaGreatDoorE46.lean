/- PROVED here: parts Ct of the claim. No condition but those in each theorem's own head. -/
import Derived.Test.YteecfjhjllajlaaGreatDoorE43
import Derived.Test.YteecfjhjllajlaaGreatDoorE44
namespace Go.Proofs.YteecfjhjllajlaaGreatDoor
section
set_option maxHeartbeats 8000000
set_option maxRecDepth 100000
open Go Go.RowKit Go.Sort
open Tr (Bx heap1 bt Nds Ints VPost BPost rgB par par_yes par_root par_node paL kidsAt IsPost)
theorem typesOwner_any (A:Option Addr)(c n:Nat)(l:List Tr.Nd)(r:Int)(w:World)(hn:n=l.length)(hE:Tk.Errs w)(hN:Nds w A l)(hnum:∀x ∈ l,x.n≤9223372036854775807)(hc:Caps w A l):Calls Tryz.prog 13 #[.agg #[.slice A n c,.int .i64 r]] w (VPost (.bool true) w):=by
 have hb0:=heap1 w (.cells #[.slice A n c,.int .i64 r] 25)
 have HX:=Lib.hid (Bx.new w 25 [.slice A n c,.int .i64 r])
 have HB0:=Lib.hid hb0
 have HS:=Lib.hid (shown34_any _ (hE.below hb0))
 have HSM:=Lib.hid (show∀w',Below w.heap.size w w'→Calls Tryz.prog 35 #[.agg #[.slice A n c,.int .i64 r]] w' (SmPost7 l w')from fun w' q=>small35t_any A n c l r w' (hN.below q) hn)
 have HTT:=Lib.hid (show OkT7 l→∀w',Below w.heap.size w w'→TT w' A n l from fun h w' q=>(TT.mk hN hn (fun x hx=>by have:=(h.2 x hx).1;omega) (fun x hx=>by have:=(h.2 x hx).2;omega) hnum hc).below q)
 have HL:=Lib.hid hn
 clear hE hN hnum hc hb0 hn
 obtain⟨W0,hW0⟩:∃W0,w.alloc (.cells #[.slice A n c,.int .i64 r] 25)=W0:=⟨_,rfl⟩
 rw[hW0]at HX HB0 HS
 go_enter Tryz.func13,Tryz.ntmps13
 go_wp2_with (go_at_call 34;refine HS.out.mono ?_)
 rintro e w1 ⟨rfl,hb1⟩
 have HX1:=Lib.hid (HX.out.below hb1 HX.out.lt)
 have HB1:=Lib.hid (bt HB0.out hb1)
 have a0:=(HX1.out.cell 0).trans rfl
 have a1:=(HX1.out.cell 1).trans rfl
 clear hb1 hW0 HS HX HB0
 go_wp2_with (go_at_call 35;refine(HSM.out _ HB1.out).mono ?_)
 rintro e w2 ⟨hb2,bo,rfl,hok⟩
 have HB2:=Lib.hid (bt HB1.out hb2)
 cases bo with
 |false=>
  clear hb2 hok a0 a1
  go_wp2
  go_ret
  exact⟨rfl,HB2.out⟩
 |true=>
  have HOK:=Lib.hid (hok rfl)
  have HX2:=Lib.hid (HX1.out.below hb2 HX1.out.lt)
  clear hb2 hok a0 a1
  have a0:=(HX2.out.cell 0).trans rfl
  have a1:=(HX2.out.cell 1).trans rfl
  have HRG:=Lib.hid ((HTT.out HOK.out _ HB2.out).right c r)
  cases hr:rgB l r with
  |false=>
   rw[hr]at HRG
   clear hr
   go_wp2_with (go_at_call 27;refine HRG.out.mono ?_)
   rintro e w3 ⟨rfl,hb3⟩
   have HB3:=Lib.hid (bt HB2.out hb3)
   clear hb3
   go_wp2
   go_ret
   exact⟨rfl,HB3.out⟩
  |true=>
   rw[hr]at HRG
   have HR:=Lib.hid hr
   clear hr
   go_wp2_with (go_at_call 27;refine HRG.out.mono ?_)
   rintro e w3 ⟨rfl,hb3⟩
   have HB3:=Lib.hid (bt HB2.out hb3)
   have HX3:=Lib.hid (HX2.out.below hb3 HX2.out.lt)
   clear hb3 a0 a1 HRG HX1 HX2
   have a0:=(HX3.out.cell 0).trans rfl
   have a1:=(HX3.out.cell 1).trans rfl
   have hT3:=HTT.out HOK.out _ HB3.out
   have HPA:=Lib.hid (Tr.parents_any A c n l r w3 hT3.nds hT3.len hT3.kids)
   clear hT3
   go_wp2_with (go_at_call 53;refine HPA.out.mono ?_)
   rintro e w4 ⟨P,cp,rfl,hP,hb4⟩
   obtain⟨hpl,hpa⟩:=par_at HR.out
   rw[hpl]
   have HB4:=Lib.hid (bt HB3.out hb4)
   have HX4:=Lib.hid (HX3.out.below hb4 HX3.out.lt)
   have HP:=Lib.hid (And.intro hP (And.intro hpl hpa))
   clear hb4 a0 a1 HPA HX3 hP hpl hpa
   rw[← HL.out]
   go_wp2
   go_loopg [6] n (fun g a6 wr=>∃i:Nat,a6 = .int .i64 (i:Int)∧i≤n∧g=n-i∧Below w4.heap.size w4 wr)
   case atStart=>exact⟨0,rfl,Nat.zero_le _,rfl,Below.refl _ _⟩
   case round=>
    obtain⟨i,rfl,hi,rfl,hb⟩:=hrel
    have hn4:n≤400:=by have:=HOK.out.1;have:=HL.out;omega
    have HB:=Lib.hid hb
    have hXr:=HX4.out.below hb HX4.out.lt
    have a0:=(hXr.cell 0).trans rfl
    have a1:=(hXr.cell 1).trans rfl
    by_cases hlt:i<n
    ·have hlz:(i:Int)<(n:Int):=by omega
     have hil:i<l.length:=by rw[← HL.out];exact hlt
     have hTr:=HTT.out HOK.out _ (bt HB4.out hb)
     obtain⟨bA,off,K,cK,rfl,xt,x0,x1,x2,x3,x4,xI⟩:=node_at hTr.nds (Below.refl _ wr) i hil
     rw[← ndA_eq hil]at x0 x1 x2 x3 x4 xI
     have HNQ:=Lib.hid (show∀q:Nat,q<l.length→bA<wr.heap.size∧wr.cell? ⟨bA,off+q*5+3,none⟩=some (.string (ndA l q).tx)from fun q hq=>by
      obtain⟨b2,o2,_,_,e2,yt,_,_,_,y3,_⟩:=node_at hTr.nds (Below.refl _ wr) q hq
      cases e2
      rw[ndA_eq hq]
      exact⟨yt,y3⟩)
     have htx:(ndA l i).tx.size≤281474976710656:=by rw[ndA_eq hil];exact hTr.text _ (List.getElem_mem hil)
     have hOW:=fun W (q:Below wr.heap.size wr W) (z:Int)=>owner_any (HTT.out HOK.out _ (bt HB4.out (bt hb q))) c r z
     have hLK:=fun W (q:Below wr.heap.size wr W)=>lookup_any (HTT.out HOK.out _ (bt HB4.out (bt hb q))) c r (i:Int) (ndA l i).tx htx
     rw[lkT_in HR.out hil]at hLK
     have HOW:=Lib.hid hOW
     have HLK:=Lib.hid hLK
     have h3:=(rtn_of HR.out).1
     obtain⟨bb,hRT⟩:=h3
     have hr1:=(rtn_of HR.out).2.2
     have hat:=hRT.at3 hil
     have HRT:=Lib.hid hRT
     have HNX:=Lib.hid (heap1 wr (.cells #[.int .i64 (ndA l i).kd,.int .i64 (ndA l i).n,.int .i64 (ndA l i).pl,.string (ndA l i).tx,.slice K (ndA l i).ks.length cK] 37))
     have hX5:=hXr.alloc (.cells #[.int .i64 (ndA l i).kd,.int .i64 (ndA l i).n,.int .i64 (ndA l i).pl,.string (ndA l i).tx,.slice K (ndA l i).ks.length cK] 37)
     have hN5:=Bx.new wr 37 [.int .i64 (ndA l i).kd,.int .i64 (ndA l i).n,.int .i64 (ndA l i).pl,.string (ndA l i).tx,.slice K (ndA l i).ks.length cK]
     obtain⟨w5,hw5⟩:∃w5,wr.alloc (.cells #[.int .i64 (ndA l i).kd,.int .i64 (ndA l i).n,.int .i64 (ndA l i).pl,.string (ndA l i).tx,.slice K (ndA l i).ks.length cK] 37)=w5:=⟨_,rfl⟩
     rw[hw5]at HNX hX5 hN5
     have e0:=(hX5.cell 0).trans rfl
     have e1:=(hX5.cell 1).trans rfl
     have hoc0:=fun W (q:Below w5.heap.size w5 W)=>HOW.out W (bt HNX.out q) (i:Int)
     rw[owT_in HR.out hil]at hoc0
     have hoc:=hoc0
     have HLC:=Lib.hid (fun W (q:Below w5.heap.size w5 W)=>HLK.out W (bt HNX.out q))
     have HOM0:=Lib.hid (fun(m:Nat) (hm:m<l.length) W (q:Below w5.heap.size w5 W)=>show Calls Tryz.prog 38 #[.agg #[.slice (some ⟨bA,off,none⟩) n c,.int .i64 r],.int .i64 (m:Int)] W (Tr.IPost (owA l m) W)from by have t:=HOW.out W (bt HNX.out q) (m:Int);rw[owT_in HR.out hm]at t;exact t)
     have HX5:=Lib.hid (And.intro hX5 hN5)
     have HB5:=Lib.hid HNX.out
     have HBE:=Lib.hid hb
     have HPI:=Lib.hid (show∀m:Nat,paL l (l.length-1) l.length i=(m:Int)→∃bP oP,P=some ⟨bP,oP,none⟩∧bP<wr.heap.size∧wr.cell? ⟨bP,oP+i,none⟩=some (.int .i64 (m:Int))from fun m hm=>by
      have h1:i<(par l r).length:=by rw[HP.out.2.1];exact hil
      obtain⟨b3,o3,e3,h4,h5⟩:=HP.out.1 (by omega)
      exact⟨b3,o3,e3,Nat.lt_of_lt_of_le h4 hb.size,(hb.cell (p:=⟨b3,o3+i,none⟩) h4).trans (by rw[h5 i h1,HP.out.2.2 i h1,hm])⟩)
     clear hTr xI hOW hLK hoc0 hX5 hN5 hXr hb htx
     have hrz:r=((n-1:Nat):Int):=by rw[hr1,HL.out];have:=HRT.out.len;omega
     clear hr1
     rcases hat with⟨hk,how,hroot⟩ |⟨hroot,hk,how⟩ |⟨hk,hroot,m,hm,hpm,how⟩
     ·have hir:((i:Int)==r)=false:=beq_eq_false_iff_ne.2 (by rw[hrz];have:=HL.out;omega)
      have hirn:((i:Int) != r)=true:=by rw[bne,hir];rfl
      have hii:((i:Int) != (i:Int))=false:=by simp
      have hi0:¬(i:Int)<0:=by omega
      rw[how]at hoc
      rw[hk]at hw5 x0 HX5
      clear how hk hroot HPI HOM0 HNQ HRT hrz HOW HLK
      generalize optZ (dnA l i (ndA l (i:Int)).tx)=dz at *
      generalize (ndA l (i:Int)).tx=tx at *
      generalize (ndA l (i:Int)).n=nn at *
      generalize (ndA l (i:Int)).pl=pl at *
      generalize (ndA l (i:Int)).ks.length=mk at *
      clear hlz
      have hlz:(i:Int)<(n:Int):=by omega
      have HOC:=Lib.hid (hoc w5 (Below.refl _ _))
      go_wp2_with (go_at_call 38;refine HOC.out.mono ?_)
      rintro e w6 ⟨rfl,hb6⟩
      have HB6:=Lib.hid hb6
      have u0:=((HX5.out.1.below hb6 HX5.out.1.lt).cell 0).trans rfl
      have u1:=((HX5.out.1.below hb6 HX5.out.1.lt).cell 1).trans rfl
      have uk:=((HX5.out.2.below hb6 HX5.out.2.lt).cell 0).trans rfl
      have ut:=((HX5.out.2.below hb6 HX5.out.2.lt).cell 3).trans rfl
      have r0:=cell_regrown u0
      have r1:=cell_regrown u1
      have r2:=cell_regrown uk
      have r3:=cell_regrown ut
      clear u0 u1 uk ut hb6
      go_wp2
      refine wp_region_quiet_below (by kernel_rfl) (by kernel_rfl) ?_
      repeat (go_big_quiet_step (first|fail))
      refine wpQuiet_nil ?_
      intro _ hw'
      obtain⟨⟨dq,osq⟩,hw''⟩:=hw'
      subst hw''
      have hbq:=below_regrown w6 dq osq
      generalize grow (redrawn w6 dq) osq=w7 at *
      have hb7:=bt HB6.out hbq
      have HB7:=Lib.hid hb7
      have v0:=((HX5.out.1.below hb7 HX5.out.1.lt).cell 0).trans rfl
      have v1:=((HX5.out.1.below hb7 HX5.out.1.lt).cell 1).trans rfl
      have vk:=((HX5.out.2.below hb7 HX5.out.2.lt).cell 0).trans rfl
      have vt:=((HX5.out.2.below hb7 HX5.out.2.lt).cell 3).trans rfl
      clear hb7 hbq
      go_wp2_with (go_at_call 40;refine(HLC.out _ HB7.out).mono ?_)
      rintro e w8 ⟨rfl,hb8⟩
      have hb9:=bt HB7.out hb8
      have HB8:=Lib.hid hb9
      clear v0 v1 vk vt
      have u0:=((HX5.out.1.below hb9 HX5.out.1.lt).cell 0).trans rfl
      have u1:=((HX5.out.1.below hb9 HX5.out.1.lt).cell 1).trans rfl
      have uk:=((HX5.out.2.below hb9 HX5.out.2.lt).cell 0).trans rfl
      have ut:=((HX5.out.2.below hb9 HX5.out.2.lt).cell 3).trans rfl
      have r0:=cell_regrown u0
      have r1:=cell_regrown u1
      have r2:=cell_regrown uk
      have r3:=cell_regrown ut
      clear u0 u1 uk ut hb8 hb9
      go_wp2
      refine wp_region_quiet_below (by kernel_rfl) (by kernel_rfl) ?_
      repeat (go_big_quiet_step (first|fail))
      refine wpQuiet_nil ?_
      intro _ hw'
      obtain⟨⟨dq,osq⟩,hw''⟩:=hw'
      subst hw''
      have hbq:=below_regrown w8 dq osq
      generalize grow (redrawn w8 dq) osq=w9 at *
      have HB9:=Lib.hid (bt HBE.out (bt HB5.out (bt HB8.out hbq)))
      clear hbq
      go_wp2
      go_roundg (n-(i+1))
      case measure=>go_light;omega
      case rel=>
       go_light
       exact⟨i+1,by go_num,by omega,rfl,HB9.out⟩
     ·have hir:((i:Int)==r)=true:=by rw[hrz];have:=HL.out;simp;omega
      have hirn:((i:Int) != r)=false:=by rw[bne,hir];rfl
      have hnn1:((-1:Int) != -1)=false:=by decide
      rw[how]at hoc
      rw[dn_no how,show optZ none = -1 from rfl]at HLC
      rw[hk]at hw5 x0 HX5
      clear how hk hroot HPI HOM0 HNQ HRT hrz HOW HLK
      generalize (ndA l (i:Int)).tx=tx at *
      generalize (ndA l (i:Int)).n=nn at *
      generalize (ndA l (i:Int)).pl=pl at *
      generalize (ndA l (i:Int)).ks.length=mk at *
      have HOC:=Lib.hid (hoc w5 (Below.refl _ _))
      go_wp2_with (go_at_call 38;refine HOC.out.mono ?_)
      rintro e w6 ⟨rfl,hb6⟩
      have HB6:=Lib.hid hb6
      have u0:=((HX5.out.1.below hb6 HX5.out.1.lt).cell 0).trans rfl
      have u1:=((HX5.out.1.below hb6 HX5.out.1.lt).cell 1).trans rfl
      have uk:=((HX5.out.2.below hb6 HX5.out.2.lt).cell 0).trans rfl
      have ut:=((HX5.out.2.below hb6 HX5.out.2.lt).cell 3).trans rfl
      have r0:=cell_regrown u0
      have r1:=cell_regrown u1
      have r2:=cell_regrown uk
      have r3:=cell_regrown ut
      clear u0 u1 uk ut hb6
      go_wp2
      refine wp_region_quiet_below (by kernel_rfl) (by kernel_rfl) ?_
      repeat (go_big_quiet_step (first|fail))
      refine wpQuiet_nil ?_
      intro _ hw'
      obtain⟨⟨dq,osq⟩,hw''⟩:=hw'
      subst hw''
      have hbq:=below_regrown w6 dq osq
      generalize grow (redrawn w6 dq) osq=w7 at *
      have hb7:=bt HB6.out hbq
      have HB7:=Lib.hid hb7
      have v0:=((HX5.out.1.below hb7 HX5.out.1.lt).cell 0).trans rfl
      have v1:=((HX5.out.1.below hb7 HX5.out.1.lt).cell 1).trans rfl
      have vk:=((HX5.out.2.below hb7 HX5.out.2.lt).cell 0).trans rfl
      have vt:=((HX5.out.2.below hb7 HX5.out.2.lt).cell 3).trans rfl
      clear hb7 hbq
      go_wp2_with (go_at_call 40;refine(HLC.out _ HB7.out).mono ?_)
      rintro e w8 ⟨rfl,hb8⟩
      have hb9:=bt HB7.out hb8
      have HB8:=Lib.hid hb9
      clear v0 v1 vk vt
      have u0:=((HX5.out.1.below hb9 HX5.out.1.lt).cell 0).trans rfl
      have u1:=((HX5.out.1.below hb9 HX5.out.1.lt).cell 1).trans rfl
      have uk:=((HX5.out.2.below hb9 HX5.out.2.lt).cell 0).trans rfl
      have ut:=((HX5.out.2.below hb9 HX5.out.2.lt).cell 3).trans rfl
      have r0:=cell_regrown u0
      have r1:=cell_regrown u1
      have r2:=cell_regrown uk
      have r3:=cell_regrown ut
      clear u0 u1 uk ut hb8 hb9
      go_wp2
      refine wp_region_quiet_below (by kernel_rfl) (by kernel_rfl) ?_
      repeat (go_big_quiet_step (first|fail))
      refine wpQuiet_nil ?_
      intro _ hw'
      obtain⟨⟨dq,osq⟩,hw''⟩:=hw'
      subst hw''
      have hbq:=below_regrown w8 dq osq
      generalize grow (redrawn w8 dq) osq=w9 at *
      have HB9:=Lib.hid (bt HBE.out (bt HB5.out (bt HB8.out hbq)))
      clear hbq
      go_wp2
      go_roundg (n-(i+1))
      case measure=>go_light;omega
      case rel=>
       go_light
       exact⟨i+1,by go_num,by omega,rfl,HB9.out⟩
     ·have hir:((i:Int)==r)=false:=beq_eq_false_iff_ne.2 (by rw[hrz];have:=HL.out;omega)
      have hirn:((i:Int) != r)=true:=by rw[bne,hir];rfl
      have hk3:((ndA l i).kd==3)=false:=beq_eq_false_iff_ne.2 hk
      have hk3n:((ndA l i).kd != 3)=true:=by rw[bne,hk3];rfl
      obtain⟨bP,oP,rfl,hPl,hPc⟩:=HPI.out m hpm
      have HPC:=Lib.hid (And.intro hPl hPc)
      have HOM:=Lib.hid (HOM0.out m hm)
      rw[← how]at HOM
      obtain⟨ow,how2⟩:∃ow,owA l i=ow:=⟨_,rfl⟩
      have hoo:(ow != ow)=false:=by simp
      have HOQ0:=Lib.hid (fun(q:Nat) (hq:q<l.length) (he:owA l q=ow)=>he▸HOM0.out q hq)
      by_cases hd4:(ndA l i).kd=4∨(ndA l i).kd=5
      ·obtain⟨q,hd,hqi,hqt,hqo⟩:=HRT.out.decl hil hd4
       obtain⟨mo,hmo,_⟩:=HRT.out.owns hil (by omega)
       have hql:q<l.length:=by omega
       obtain⟨z1,z2⟩:=HNQ.out q hql
       rw[hqt]at z2
       have HQT:=Lib.hid (And.intro z1 z2)
       have HOQ:=Lib.hid (HOQ0.out q hql (by rw[hqo,how2]))
       have hq0:¬(q:Int)<0:=by omega
       have hqi2:(q:Int)≤(i:Int):=by omega
       have hq0d:decide ((q:Int)<0)=false:=decide_eq_false hq0
       have hqin:decide (i<q)=false:=decide_eq_false (by omega)
       have hqn:(q:Int)<(n:Int):=by have:=HL.out;omega
       rw[hd,show optZ (some q)=(q:Int)from rfl]at HLC
       rw[how2]at hoc HOM
       have hom:ow=(mo:Int):=by rw[← how2];exact hmo
       have how0:¬ow<0:=by omega
       clear how how2 hroot HPI HOM0 HNQ HRT hrz HOW HLK hPl hPc z1 z2 hd hqi hqt hqo hmo hql hpm hm HOQ0 hom
       have hxx:∀x:ByteArray,(x.toList != x.toList)=false:=fun x=>by simp
       rcases hd4 with e4 |e4
       ·rw[e4]at hw5 x0 HX5 hk3 hk3n
        clear e4 hk
        generalize (ndA l (i:Int)).tx=tx at *
        generalize (ndA l (i:Int)).n=nn at *
        generalize (ndA l (i:Int)).pl=pl at *
        generalize (ndA l (i:Int)).ks.length=mk at *
        have HOC:=Lib.hid (hoc w5 (Below.refl _ _))
        go_wp2_with (go_at_call 38;refine HOC.out.mono ?_)
        rintro e w6 ⟨rfl,hb6⟩
        have HB6:=Lib.hid hb6
        have u0:=((HX5.out.1.below hb6 HX5.out.1.lt).cell 0).trans rfl
        have u1:=((HX5.out.1.below hb6 HX5.out.1.lt).cell 1).trans rfl
        have uk:=((HX5.out.2.below hb6 HX5.out.2.lt).cell 0).trans rfl
        have ut:=((HX5.out.2.below hb6 HX5.out.2.lt).cell 3).trans rfl
        have r0:=cell_regrown u0
        have r1:=cell_regrown u1
        have r2:=cell_regrown uk
        have r3:=cell_regrown ut
        have hpc:w6.cell? ⟨bP,oP+i,none⟩=some (.int .i64 (m:Int)):=(bt HB5.out hb6).cell (p:=⟨bP,oP+i,none⟩) HPC.out.1 |>.trans HPC.out.2
        have r4:=cell_regrown hpc
        have cq:∀d os,Calls Tryz.prog 38 #[.agg #[.slice (some ⟨bA,off,none⟩) n c,.int .i64 r],.int .i64 (m:Int)] (grow (redrawn w6 d) os) fun e w''=>e = .returned (.int .i64 ow)∧∃p:Regrown,w''=grow (redrawn w6 p.d) p.os:=fun d os=>Calls.regrown_of (HOM.out _ (bt HB6.out (below_regrown w6 d os)))
        clear hpc
        clear u0 u1 uk ut hb6
        go_wp2
        refine wp_region_quiet_below (by kernel_rfl) (by kernel_rfl) ?_
        repeat (go_big_quiet_step (first|exact cq _ _))
        refine wpQuiet_nil ?_
        intro _ hw'
        obtain⟨⟨dq,osq⟩,hw''⟩:=hw'
        subst hw''
        have hbq:=below_regrown w6 dq osq
        generalize grow (redrawn w6 dq) osq=w7 at *
        have hb7:=bt HB6.out hbq
        have HB7:=Lib.hid hb7
        have v0:=((HX5.out.1.below hb7 HX5.out.1.lt).cell 0).trans rfl
        have v1:=((HX5.out.1.below hb7 HX5.out.1.lt).cell 1).trans rfl
        have vk:=((HX5.out.2.below hb7 HX5.out.2.lt).cell 0).trans rfl
        have vt:=((HX5.out.2.below hb7 HX5.out.2.lt).cell 3).trans rfl
        clear hb7 hbq cq
        go_wp2_with (go_at_call 40;refine(HLC.out _ HB7.out).mono ?_)
        rintro e w8 ⟨rfl,hb8⟩
        have hb9:=bt HB7.out hb8
        have HB8:=Lib.hid hb9
        clear v0 v1 vk vt
        have u0:=((HX5.out.1.below hb9 HX5.out.1.lt).cell 0).trans rfl
        have u1:=((HX5.out.1.below hb9 HX5.out.1.lt).cell 1).trans rfl
        have uk:=((HX5.out.2.below hb9 HX5.out.2.lt).cell 0).trans rfl
        have ut:=((HX5.out.2.below hb9 HX5.out.2.lt).cell 3).trans rfl
        have r0:=cell_regrown u0
        have r1:=cell_regrown u1
        have r2:=cell_regrown uk
        have r3:=cell_regrown ut
        have hqt:=(bt HB5.out hb9).cell (p:=⟨bA,off+q*5+3,none⟩) HQT.out.1 |>.trans HQT.out.2
        have r5:=cell_regrown hqt
        have cq:∀d os,Calls Tryz.prog 38 #[.agg #[.slice (some ⟨bA,off,none⟩) n c,.int .i64 r],.int .i64 (q:Int)] (grow (redrawn w8 d) os) fun e w''=>e = .returned (.int .i64 ow)∧∃p:Regrown,w''=grow (redrawn w8 p.d) p.os:=fun d os=>Calls.regrown_of (HOQ.out _ (bt HB8.out (below_regrown w8 d os)))
        clear hqt
        clear u0 u1 uk ut hb8 hb9
        go_wp2
        refine wp_region_quiet_below (by kernel_rfl) (by kernel_rfl) ?_
        repeat (go_big_quiet_step (first|exact cq _ _))
        refine wpQuiet_nil ?_
        intro _ hw'
        obtain⟨⟨dq,osq⟩,hw''⟩:=hw'
        subst hw''
        have hbq:=below_regrown w8 dq osq
        generalize grow (redrawn w8 dq) osq=w9 at *
        have HB9:=Lib.hid (bt HBE.out (bt HB5.out (bt HB8.out hbq)))
        clear hbq cq
        go_wp2
        go_roundg (n-(i+1))
        case measure=>go_light;omega
        case rel=>
         go_light
         exact⟨i+1,by go_num,by omega,rfl,HB9.out⟩
       ·rw[e4]at hw5 x0 HX5 hk3 hk3n
        clear e4 hk
        generalize (ndA l (i:Int)).tx=tx at *
        generalize (ndA l (i:Int)).n=nn at *
        generalize (ndA l (i:Int)).pl=pl at *
        generalize (ndA l (i:Int)).ks.length=mk at *
        have HOC:=Lib.hid (hoc w5 (Below.refl _ _))
        go_wp2_with (go_at_call 38;refine HOC.out.mono ?_)
        rintro e w6 ⟨rfl,hb6⟩
        have HB6:=Lib.hid hb6
        have u0:=((HX5.out.1.below hb6 HX5.out.1.lt).cell 0).trans rfl
        have u1:=((HX5.out.1.below hb6 HX5.out.1.lt).cell 1).trans rfl
        have uk:=((HX5.out.2.below hb6 HX5.out.2.lt).cell 0).trans rfl
        have ut:=((HX5.out.2.below hb6 HX5.out.2.lt).cell 3).trans rfl
        have r0:=cell_regrown u0
        have r1:=cell_regrown u1
        have r2:=cell_regrown uk
        have r3:=cell_regrown ut
        have hpc:w6.cell? ⟨bP,oP+i,none⟩=some (.int .i64 (m:Int)):=(bt HB5.out hb6).cell (p:=⟨bP,oP+i,none⟩) HPC.out.1 |>.trans HPC.out.2
        have r4:=cell_regrown hpc
        have cq:∀d os,Calls Tryz.prog 38 #[.agg #[.slice (some ⟨bA,off,none⟩) n c,.int .i64 r],.int .i64 (m:Int)] (grow (redrawn w6 d) os) fun e w''=>e = .returned (.int .i64 ow)∧∃p:Regrown,w''=grow (redrawn w6 p.d) p.os:=fun d os=>Calls.regrown_of (HOM.out _ (bt HB6.out (below_regrown w6 d os)))
        clear hpc
        clear u0 u1 uk ut hb6
        go_wp2
        refine wp_region_quiet_below (by kernel_rfl) (by kernel_rfl) ?_
        repeat (go_big_quiet_step (first|exact cq _ _))
        refine wpQuiet_nil ?_
        intro _ hw'
        obtain⟨⟨dq,osq⟩,hw''⟩:=hw'
        subst hw''
        have hbq:=below_regrown w6 dq osq
        generalize grow (redrawn w6 dq) osq=w7 at *
        have hb7:=bt HB6.out hbq
        have HB7:=Lib.hid hb7
        have v0:=((HX5.out.1.below hb7 HX5.out.1.lt).cell 0).trans rfl
        have v1:=((HX5.out.1.below hb7 HX5.out.1.lt).cell 1).trans rfl
        have vk:=((HX5.out.2.below hb7 HX5.out.2.lt).cell 0).trans rfl
        have vt:=((HX5.out.2.below hb7 HX5.out.2.lt).cell 3).trans rfl
        clear hb7 hbq cq
        go_wp2_with (go_at_call 40;refine(HLC.out _ HB7.out).mono ?_)
        rintro e w8 ⟨rfl,hb8⟩
        have hb9:=bt HB7.out hb8
        have HB8:=Lib.hid hb9
        clear v0 v1 vk vt
        have u0:=((HX5.out.1.below hb9 HX5.out.1.lt).cell 0).trans rfl
        have u1:=((HX5.out.1.below hb9 HX5.out.1.lt).cell 1).trans rfl
        have uk:=((HX5.out.2.below hb9 HX5.out.2.lt).cell 0).trans rfl
        have ut:=((HX5.out.2.below hb9 HX5.out.2.lt).cell 3).trans rfl
        have r0:=cell_regrown u0
        have r1:=cell_regrown u1
        have r2:=cell_regrown uk
        have r3:=cell_regrown ut
        have hqt:=(bt HB5.out hb9).cell (p:=⟨bA,off+q*5+3,none⟩) HQT.out.1 |>.trans HQT.out.2
        have r5:=cell_regrown hqt
        have cq:∀d os,Calls Tryz.prog 38 #[.agg #[.slice (some ⟨bA,off,none⟩) n c,.int .i64 r],.int .i64 (q:Int)] (grow (redrawn w8 d) os) fun e w''=>e = .returned (.int .i64 ow)∧∃p:Regrown,w''=grow (redrawn w8 p.d) p.os:=fun d os=>Calls.regrown_of (HOQ.out _ (bt HB8.out (below_regrown w8 d os)))
        clear hqt
        clear u0 u1 uk ut hb8 hb9
        go_wp2
        refine wp_region_quiet_below (by kernel_rfl) (by kernel_rfl) ?_
        repeat (go_big_quiet_step (first|exact cq _ _))
        refine wpQuiet_nil ?_
        intro _ hw'
        obtain⟨⟨dq,osq⟩,hw''⟩:=hw'
        subst hw''
        have hbq:=below_regrown w8 dq osq
        generalize grow (redrawn w8 dq) osq=w9 at *
        have HB9:=Lib.hid (bt HBE.out (bt HB5.out (bt HB8.out hbq)))
        clear hbq cq
        go_wp2
        go_roundg (n-(i+1))
        case measure=>go_light;omega
        case rel=>
         go_light
         exact⟨i+1,by go_num,by omega,rfl,HB9.out⟩
      ·have hk4:((ndA l i).kd==4)=false:=beq_eq_false_iff_ne.2 (by omega)
       have hk5:((ndA l i).kd==5)=false:=beq_eq_false_iff_ne.2 (by omega)
       rcases owA_range l i with e |⟨q,e,_⟩
       ·rw[dn_no e,show optZ none = -1 from rfl]at HLC
        rw[how2]at e
        subst e
        rw[how2]at hoc HOM
        clear how how2 hroot HPI HOM0 HNQ HRT hrz HOW HLK hPl hPc hpm hm HOQ0 hd4 hk
        generalize (ndA l (i:Int)).kd=kd at *
        generalize (ndA l (i:Int)).tx=tx at *
        generalize (ndA l (i:Int)).n=nn at *
        generalize (ndA l (i:Int)).pl=pl at *
        generalize (ndA l (i:Int)).ks.length=mk at *
        have HOC:=Lib.hid (hoc w5 (Below.refl _ _))
        go_wp2_with (go_at_call 38;refine HOC.out.mono ?_)
        rintro e w6 ⟨rfl,hb6⟩
        have HB6:=Lib.hid hb6
        have u0:=((HX5.out.1.below hb6 HX5.out.1.lt).cell 0).trans rfl
        have u1:=((HX5.out.1.below hb6 HX5.out.1.lt).cell 1).trans rfl
        have uk:=((HX5.out.2.below hb6 HX5.out.2.lt).cell 0).trans rfl
        have ut:=((HX5.out.2.below hb6 HX5.out.2.lt).cell 3).trans rfl
        have r0:=cell_regrown u0
        have r1:=cell_regrown u1
        have r2:=cell_regrown uk
        have r3:=cell_regrown ut
        have hpc:w6.cell? ⟨bP,oP+i,none⟩=some (.int .i64 (m:Int)):=(bt HB5.out hb6).cell (p:=⟨bP,oP+i,none⟩) HPC.out.1 |>.trans HPC.out.2
        have r4:=cell_regrown hpc
        have cq:∀d os,Calls Tryz.prog 38 #[.agg #[.slice (some ⟨bA,off,none⟩) n c,.int .i64 r],.int .i64 (m:Int)] (grow (redrawn w6 d) os) fun e w''=>e = .returned (.int .i64 (-1))∧∃p:Regrown,w''=grow (redrawn w6 p.d) p.os:=fun d os=>Calls.regrown_of (HOM.out _ (bt HB6.out (below_regrown w6 d os)))
        clear hpc
        clear u0 u1 uk ut hb6
        go_wp2
        refine wp_region_quiet_below (by kernel_rfl) (by kernel_rfl) ?_
        repeat (go_big_quiet_step (first|exact cq _ _))
        refine wpQuiet_nil ?_
        intro _ hw'
        obtain⟨⟨dq,osq⟩,hw''⟩:=hw'
        subst hw''
        have hbq:=below_regrown w6 dq osq
        generalize grow (redrawn w6 dq) osq=w7 at *
        have hb7:=bt HB6.out hbq
        have HB7:=Lib.hid hb7
        have v0:=((HX5.out.1.below hb7 HX5.out.1.lt).cell 0).trans rfl
        have v1:=((HX5.out.1.below hb7 HX5.out.1.lt).cell 1).trans rfl
        have vk:=((HX5.out.2.below hb7 HX5.out.2.lt).cell 0).trans rfl
        have vt:=((HX5.out.2.below hb7 HX5.out.2.lt).cell 3).trans rfl
        clear hb7 hbq cq
        go_wp2_with (go_at_call 40;refine(HLC.out _ HB7.out).mono ?_)
        rintro e w8 ⟨rfl,hb8⟩
        have hb9:=bt HB7.out hb8
        have HB8:=Lib.hid hb9
        clear v0 v1 vk vt
        have u0:=((HX5.out.1.below hb9 HX5.out.1.lt).cell 0).trans rfl
        have u1:=((HX5.out.1.below hb9 HX5.out.1.lt).cell 1).trans rfl
        have uk:=((HX5.out.2.below hb9 HX5.out.2.lt).cell 0).trans rfl
        have ut:=((HX5.out.2.below hb9 HX5.out.2.lt).cell 3).trans rfl
        have r0:=cell_regrown u0
        have r1:=cell_regrown u1
        have r2:=cell_regrown uk
        have r3:=cell_regrown ut
        clear u0 u1 uk ut hb8 hb9
        go_wp2
        refine wp_region_quiet_below (by kernel_rfl) (by kernel_rfl) ?_
        repeat (go_big_quiet_step (first|fail))
        refine wpQuiet_nil ?_
        intro _ hw'
        obtain⟨⟨dq,osq⟩,hw''⟩:=hw'
        subst hw''
        have hbq:=below_regrown w8 dq osq
        generalize grow (redrawn w8 dq) osq=w9 at *
        have HB9:=Lib.hid (bt HBE.out (bt HB5.out (bt HB8.out hbq)))
        clear hbq
        go_wp2
        go_roundg (n-(i+1))
        case measure=>go_light;omega
        case rel=>
         go_light
         exact⟨i+1,by go_num,by omega,rfl,HB9.out⟩
       ·have how0:¬ow<0:=by rw[← how2,e];omega
        rw[how2]at hoc HOM
        clear how how2 hroot HPI HOM0 HNQ HRT hrz HOW HLK hPl hPc hpm hm HOQ0 hd4 hk e
        generalize optZ (dnA l i (ndA l (i:Int)).tx)=dz at *
        generalize (ndA l (i:Int)).kd=kd at *
        generalize (ndA l (i:Int)).tx=tx at *
        generalize (ndA l (i:Int)).n=nn at *
        generalize (ndA l (i:Int)).pl=pl at *
        generalize (ndA l (i:Int)).ks.length=mk at *
        have HOC:=Lib.hid (hoc w5 (Below.refl _ _))
        go_wp2_with (go_at_call 38;refine HOC.out.mono ?_)
        rintro e w6 ⟨rfl,hb6⟩
        have HB6:=Lib.hid hb6
        have u0:=((HX5.out.1.below hb6 HX5.out.1.lt).cell 0).trans rfl
        have u1:=((HX5.out.1.below hb6 HX5.out.1.lt).cell 1).trans rfl
        have uk:=((HX5.out.2.below hb6 HX5.out.2.lt).cell 0).trans rfl
        have ut:=((HX5.out.2.below hb6 HX5.out.2.lt).cell 3).trans rfl
        have r0:=cell_regrown u0
        have r1:=cell_regrown u1
        have r2:=cell_regrown uk
        have r3:=cell_regrown ut
        have hpc:w6.cell? ⟨bP,oP+i,none⟩=some (.int .i64 (m:Int)):=(bt HB5.out hb6).cell (p:=⟨bP,oP+i,none⟩) HPC.out.1 |>.trans HPC.out.2
        have r4:=cell_regrown hpc
        have cq:∀d os,Calls Tryz.prog 38 #[.agg #[.slice (some ⟨bA,off,none⟩) n c,.int .i64 r],.int .i64 (m:Int)] (grow (redrawn w6 d) os) fun e w''=>e = .returned (.int .i64 ow)∧∃p:Regrown,w''=grow (redrawn w6 p.d) p.os:=fun d os=>Calls.regrown_of (HOM.out _ (bt HB6.out (below_regrown w6 d os)))
        clear hpc
        clear u0 u1 uk ut hb6
        go_wp2
        refine wp_region_quiet_below (by kernel_rfl) (by kernel_rfl) ?_
        repeat (go_big_quiet_step (first|exact cq _ _))
        refine wpQuiet_nil ?_
        intro _ hw'
        obtain⟨⟨dq,osq⟩,hw''⟩:=hw'
        subst hw''
        have hbq:=below_regrown w6 dq osq
        generalize grow (redrawn w6 dq) osq=w7 at *
        have hb7:=bt HB6.out hbq
        have HB7:=Lib.hid hb7
        have v0:=((HX5.out.1.below hb7 HX5.out.1.lt).cell 0).trans rfl
        have v1:=((HX5.out.1.below hb7 HX5.out.1.lt).cell 1).trans rfl
        have vk:=((HX5.out.2.below hb7 HX5.out.2.lt).cell 0).trans rfl
        have vt:=((HX5.out.2.below hb7 HX5.out.2.lt).cell 3).trans rfl
        clear hb7 hbq cq
        go_wp2_with (go_at_call 40;refine(HLC.out _ HB7.out).mono ?_)
        rintro e w8 ⟨rfl,hb8⟩
        have hb9:=bt HB7.out hb8
        have HB8:=Lib.hid hb9
        clear v0 v1 vk vt
        have u0:=((HX5.out.1.below hb9 HX5.out.1.lt).cell 0).trans rfl
        have u1:=((HX5.out.1.below hb9 HX5.out.1.lt).cell 1).trans rfl
        have uk:=((HX5.out.2.below hb9 HX5.out.2.lt).cell 0).trans rfl
        have ut:=((HX5.out.2.below hb9 HX5.out.2.lt).cell 3).trans rfl
        have r0:=cell_regrown u0
        have r1:=cell_regrown u1
        have r2:=cell_regrown uk
        have r3:=cell_regrown ut
        clear u0 u1 uk ut hb8 hb9
        go_wp2
        refine wp_region_quiet_below (by kernel_rfl) (by kernel_rfl) ?_
        repeat (go_big_quiet_step (first|fail))
        refine wpQuiet_nil ?_
        intro _ hw'
        obtain⟨⟨dq,osq⟩,hw''⟩:=hw'
        subst hw''
        have hbq:=below_regrown w8 dq osq
        generalize grow (redrawn w8 dq) osq=w9 at *
        have HB9:=Lib.hid (bt HBE.out (bt HB5.out (bt HB8.out hbq)))
        clear hbq
        go_wp2
        go_roundg (n-(i+1))
        case measure=>go_light;omega
        case rel=>
         go_light
         exact⟨i+1,by go_num,by omega,rfl,HB9.out⟩
    ·obtain rfl:i=n:=by omega
     have hlz:¬(i:Int)<(i:Int):=by omega
     have hO1:=fun W (q:Below wr.heap.size wr W)=>owner_any (HTT.out HOK.out _ (bt HB4.out (bt hb q))) c r (-1)
     have hO2:=fun W (q:Below wr.heap.size wr W)=>owner_any (HTT.out HOK.out _ (bt HB4.out (bt hb q))) c r (i:Int)
     rw[owT_out HR.out (Or.inl (by omega))]at hO1
     rw[owT_out HR.out (Or.inr (by have:=HL.out;omega))]at hO2
     have HO1:=Lib.hid (hO1 _ (Below.refl _ _))
     have HO2:=Lib.hid hO2
     have HXR:=Lib.hid hXr
     clear hO1 hO2 hXr hb
     go_wp2_with (go_at_call 38;refine HO1.out.mono ?_)
     rintro e w5 ⟨rfl,hb5⟩
     have HC2:=Lib.hid (HO2.out _ hb5)
     have b0:=((HXR.out.below hb5 HXR.out.lt).cell 0).trans rfl
     have b1:=((HXR.out.below hb5 HXR.out.lt).cell 1).trans rfl
     have HB5:=Lib.hid (bt HB.out hb5)
     clear hb5 a0 a1
     go_wp2_with (go_at_call 38;refine HC2.out.mono ?_)
     rintro e w6 ⟨rfl,hb6⟩
     have HB6:=Lib.hid (bt HB4.out (bt HB5.out hb6))
     clear hb6
     go_wp2
     go_ret
     exact⟨rfl,HB6.out⟩
theorem typesOwner_w (A:Option Addr)(c:Nat)(l:List Tr.Nd)(r:Int)(w:World)(hE:Tk.Errs w)(hN:Nds w A l)(hnum:∀x ∈ l,x.n≤9223372036854775807)(hc:Caps w A l):Calls Tryz.prog 13 #[.agg #[.slice A l.length c,.int .i64 r]] w (VPost (.bool true) w):=typesOwner_any A c l.length l r w rfl hE hN hnum hc
end
end Go.Proofs.YteecfjhjllajlaaGreatDoor
