/- PROVED here: parts Ec of the claim. No condition but those in each theorem's own head. -/
import Derived.Test.YteecfjhjllajlaaGreatDoorH43
import Derived.Test.YteecfjhjllajlaaGreatDoorH44
import Derived.Test.YteecfjhjllajlaaGreatDoorH32
import Derived.Test.YteecfjhjllajlaaGreatDoorH39
import Derived.Test.YteecfjhjllajlaaGreatDoorH45
namespace Go.Proofs.YteecfjhjllajlaaGreatDoor
section
set_option maxHeartbeats 8000000
set_option maxRecDepth 100000
open Go Go.RowKit Go.Sort
open Tr (Bx heap1 bt Nds Ints VPost BPost rgB par par_yes par_root par_node paL kidsAt IsPost)
theorem plT_yes {l:List Tr.Nd}{r:Int}(hr:rgB l r=true){i:Nat}(hi:i<l.length)(h:plT l r (i:Int)=true):(ndA l i).kd=3∧(ndA l i).n=1:=by
 unfold plT at h
 rw[eff_yes hr,if_pos (by omega),Bool.and_eq_true]at h
 have h2:=h.2
 unfold plnB at h2
 rw[Bool.and_eq_true]at h2
 exact⟨of_decide_eq_true h.1,of_decide_eq_true h2.2⟩
theorem enc_gt {x y:List UInt8}{X Y:ByteArray}(hX:Go.Proofs.encStr x = .string X)(hY:Go.Proofs.encStr y = .string Y)(h:y<x):(Op.bytesLess X.toList Y.toList || X.toList==Y.toList)=false:=by
 cases hX;cases hY
 rw[bytesLess_eq,Lib.toList_data,Lib.toList_data]
 have h1:¬x<y:=List.not_lt.2 (List.le_of_lt h)
 have h2:x≠y:=fun e=>by subst e;exact List.lt_irrefl _ h
 show(decide (x<y) || x==y)=false
 rw[decide_eq_false h1,beq_eq_false_iff_ne.2 h2];rfl
theorem enc_is {x:List UInt8}{X:ByteArray}(hX:Go.Proofs.encStr x = .string X)(t:ByteArray):(X.toList==t.toList)=decide (x=t.data.toList):=by
 cases hX
 rw[Lib.toList_data,Lib.toList_data]
 show(x==t.data.toList)=_
 by_cases e:x=t.data.toList
 ·rw[e];simp
 ·rw[beq_eq_false_iff_ne.2 e,decide_eq_false e]
theorem leq_str (X Y:ByteArray):binOp .leq 9 (.string X) (.string Y)=pure (.bool (Op.bytesLess X.toList Y.toList || X.toList==Y.toList)):=by simp[binOp,Op.stringOp]
def fnd (ts:List (List UInt8))(t:List UInt8)(k:Nat):Bool:=(ts.take k).any fun y=>decide (y=t)
theorem fnd_step {ts:List (List UInt8)}(t:List UInt8){k:Nat}(h:k<ts.length):fnd ts t (k+1)=(fnd ts t k || decide (ts[k]=t)):=by
 unfold fnd
 rw[List.take_succ_eq_append_getElem h,List.any_append];simp
theorem fnd_all {ts:List (List UInt8)}{t:List UInt8}(h:t ∈ ts):fnd ts t ts.length=true:=by
 unfold fnd
 rw[List.take_length,List.any_eq_true]
 exact⟨t,h,by simp⟩
theorem chn_step18 {l:List Tr.Nd}{i:Nat}(h:i<l.length)(hk:(ndA l i).kd=18):(chn (l.take (i+1))).length=(chn (l.take i)).length+1:=by
 rw[ndA_eq h]at hk
 rw[chn_step h,if_pos hk,List.length_append];rfl
theorem chn_stepn {l:List Tr.Nd}{i:Nat}(h:i<l.length)(hk:(ndA l i).kd≠18):(chn (l.take (i+1))).length=(chn (l.take i)).length:=by
 rw[ndA_eq h]at hk
 rw[chn_step h,if_neg hk,List.append_nil]
theorem chl_has {l:List Tr.Nd}{i:Nat}(h:i<l.length)(hk:(ndA l i).kd=18):(ndA l i).tx.data.toList ∈ chL l:=by
 rw[ndA_eq h]at hk ⊢
 exact(chl_mem l _).2 ⟨_,List.getElem_mem h,hk,rfl⟩
theorem typesChannels_any (A:Option Addr)(c n:Nat)(l:List Tr.Nd)(r:Int)(w:World)(hn:n=l.length)(hE:Tk.Errs w)(hN:Nds w A l)(hnum:∀x ∈ l,x.n≤9223372036854775807)(hc:Caps w A l):Calls Tryz.prog 14 #[.agg #[.slice A n c,.int .i64 r]] w (VPost (.bool true) w):=by
 have hb0:=heap1 w (.cells #[.slice A n c,.int .i64 r] 25)
 have HX:=Lib.hid (Bx.new w 25 [.slice A n c,.int .i64 r])
 have HB0:=Lib.hid hb0
 have HS:=Lib.hid (shown34_any _ (hE.below hb0))
 have HSM:=Lib.hid (show∀w',Below w.heap.size w w'→Calls Tryz.prog 35 #[.agg #[.slice A n c,.int .i64 r]] w' (SmPost7 l w')from fun w' q=>small35t_any A n c l r w' (hN.below q) hn)
 have HTT:=Lib.hid (show OkT7 l→∀w',Below w.heap.size w w'→TT w' A n l from fun h w' q=>(TT.mk hN hn (fun x hx=>by have:=(h.2 x hx).1;omega) (fun x hx=>by have:=(h.2 x hx).2;omega) hnum hc).below q)
 have HL:=Lib.hid hn
 clear hE hN hnum hc hb0 hn
 obtain⟨W0,hW0⟩:∃W0,w.alloc (.cells #[.slice A n c,.int .i64 r] 25)=W0:=⟨_,rfl⟩
 rw[hW0]at HX HB0 HS
 go_enter Tryz.func14,Tryz.ntmps14
 go_wp2_with (go_at_call 34;refine HS.out.mono ?_)
 rintro e w1 ⟨rfl,hb1⟩
 have HX1:=Lib.hid (HX.out.below hb1 HX.out.lt)
 have HB1:=Lib.hid (bt HB0.out hb1)
 have a0:=(HX1.out.cell 0).trans rfl
 have a1:=(HX1.out.cell 1).trans rfl
 clear hb1 hW0 HS HX HB0
 go_wp2_with (go_at_call 35;refine(HSM.out _ HB1.out).mono ?_)
 rintro e w2 ⟨hb2,bo,rfl,hok⟩
 have HB2:=Lib.hid (bt HB1.out hb2)
 cases bo with
 |false=>
  clear hb2 hok a0 a1
  go_wp2
  go_ret
  exact⟨rfl,HB2.out⟩
 |true=>
  have HOK:=Lib.hid (hok rfl)
  have HX2:=Lib.hid (HX1.out.below hb2 HX1.out.lt)
  clear hb2 hok a0 a1
  have a0:=(HX2.out.cell 0).trans rfl
  have a1:=(HX2.out.cell 1).trans rfl
  have HRG:=Lib.hid ((HTT.out HOK.out _ HB2.out).right c r)
  cases hr:rgB l r with
  |false=>
   rw[hr]at HRG
   clear hr
   go_wp2_with (go_at_call 27;refine HRG.out.mono ?_)
   rintro e w3 ⟨rfl,hb3⟩
   have HB3:=Lib.hid (bt HB2.out hb3)
   clear hb3
   go_wp2
   go_ret
   exact⟨rfl,HB3.out⟩
  |true=>
   rw[hr]at HRG
   have HR:=Lib.hid hr
   clear hr
   go_wp2_with (go_at_call 27;refine HRG.out.mono ?_)
   rintro e w3 ⟨rfl,hb3⟩
   have HB3:=Lib.hid (bt HB2.out hb3)
   have HX3:=Lib.hid (HX2.out.below hb3 HX2.out.lt)
   clear hb3 a0 a1 HRG HX1 HX2
   have a0:=(HX3.out.cell 0).trans rfl
   have a1:=(HX3.out.cell 1).trans rfl
   have hch:=channels_any (HTT.out HOK.out _ HB3.out) c r
   rw[eff_yes HR.out]at hch
   have HCH:=Lib.hid hch
   clear hch
   go_wp2_with (go_at_call 51;refine HCH.out.mono ?_)
   rintro e w4 ⟨S,cs,rfl,hS,hb4⟩
   obtain⟨ts,hts⟩:∃ts,chL l=ts:=⟨_,rfl⟩
   obtain⟨m,hm⟩:∃m,ts.length=m:=⟨_,rfl⟩
   rw[hts]at hS ⊢
   rw[hm]
   have HS:=Lib.hid hS
   have HM:=Lib.hid hm
   have HTS:=Lib.hid hts
   have HB4:=Lib.hid (bt HB3.out hb4)
   have HX4:=Lib.hid (HX3.out.below hb4 HX3.out.lt)
   have hn4:n≤400:=by have:=HOK.out.1;have:=HL.out;omega
   have hm4:m≤400:=by
    have h1:=chl_len l
    have h2:=chn_len l
    rw[hts,hm]at h1
    have:=HL.out
    omega
   clear hb4 a0 a1 HCH HX3 hS hm hts
   go_wp2
   go_loopw [6] (fun a6 wr=>∃k:Nat,a6 = .int .i64 ((k+1:Nat):Int)∧k≤m∧Below w4.heap.size w4 wr) (fun a6 _=>m+1-(intOf a6).toNat)
   case atStart=>exact⟨0,rfl,Nat.zero_le _,Below.refl _ _⟩
   case round=>
    obtain⟨k,rfl,hk,hb⟩:=hrel
    have HB:=Lib.hid hb
    obtain⟨kn,hkn⟩:∃kn,k+1=kn:=⟨_,rfl⟩
    rw[hkn]
    by_cases hlt:kn<m
    ·have hlz:(kn:Int)<(m:Int):=by omega
     have hkz:(k:Int)<(m:Int):=by omega
     have h1:k+1<ts.length:=by rw[HM.out,hkn];exact hlt
     obtain⟨bS,oS,rfl,hbS,hcS⟩:=(HS.out.below hb) (by omega)
     have c1:=hcS (k+1) h1
     have c0:=hcS k (by omega)
     have hup:ts[k]<ts[k+1]:=by
      have h2:=HTS.out
      subst h2
      exact chl_rise l h1
     obtain⟨X,hX⟩:∃X:ByteArray,Go.Proofs.encStr ts[k+1] = .string X:=⟨_,rfl⟩
     obtain⟨Y,hY⟩:∃Y:ByteArray,Go.Proofs.encStr ts[k] = .string Y:=⟨_,rfl⟩
     rw[hX,hkn]at c1
     rw[hY]at c0
     have hgt:=enc_gt hX hY hup
     have hleq:=leq_str X Y
     rw[hgt]at hleq
     have s0:=cell_regrown c0
     have s1:=cell_regrown c1
     have hj1:(kn:Int)-1=(k:Int):=by omega
     have HK:=Lib.hid (And.intro hkn (And.intro hk hlt))
     clear hkn hk hlt h1 hcS c0 c1 hup hX hY hgt hb hbS
     go_upto_region 9 with(fail)
     refine wp_region_quiet_below (by kernel_rfl) (by kernel_rfl) ?_
     repeat (first|rw[hj1] |go_big_quiet_step (first|fail))
     refine wpQuiet_nil ?_
     intro _ hw'
     obtain⟨⟨dq,osq⟩,hw''⟩:=hw'
     subst hw''
     have hbq:=below_regrown wr dq osq
     generalize grow (redrawn wr dq) osq=w9 at *
     have HE:=Lib.hid (HB.out.trans (hbq.mono HB.out.size))
     clear hbq s0 s1 hj1 hleq
     go_wp2
     go_roundw
     case measure=>
      obtain⟨h1,h2,h3⟩:=HK.out
      simp[intOf];omega
     case rel=>
      obtain⟨h1,h2,h3⟩:=HK.out
      exact⟨kn,by go_num,by omega,HE.out⟩
    ·have hlz:¬(kn:Int)<(m:Int):=by omega
     have HX5:=Lib.hid (HX4.out.below hb HX4.out.lt)
     have HB5:=Lib.hid (bt HB4.out hb)
     have HS5:=Lib.hid (HS.out.below hb)
     obtain⟨w5,rfl⟩:∃w5,w5=wr:=⟨_,rfl⟩
     clear hb hkn hk hlt
     go_wp2
     clear hlz
     go_loopw [7,8] (fun a7 a8 wr=>∃i:Nat,a7 = .int .i64 ((chn (l.take i)).length:Int)∧a8 = .int .i64 (i:Int)∧i≤n∧Below w5.heap.size w5 wr) (fun _ a8 _=>n-(intOf a8).toNat)
     case atStart=>exact⟨0,by simp[chn],rfl,Nat.zero_le _,Below.refl _ _⟩
     case round=>
      obtain⟨i,rfl,rfl,hi,hb⟩:=hrel
      obtain⟨W6,rfl⟩:∃W6,W6=wr:=⟨_,rfl⟩
      have HB:=Lib.hid hb
      have hXr:=HX5.out.below hb HX5.out.lt
      have a0:=(hXr.cell 0).trans rfl
      have a1:=(hXr.cell 1).trans rfl
      by_cases hlt:i<n
      ·have hlz:(i:Int)<(n:Int):=by omega
       have hil:i<l.length:=by rw[← HL.out];exact hlt
       have hTr:=HTT.out HOK.out _ (bt HB5.out hb)
       obtain⟨bA,off,K,cK,e0,xt,x0,x1,x2,x3,x4,xI⟩:=node_at hTr.nds (Below.refl _ W6) i hil
       cases e0
       rw[← ndA_eq hil]at x0 x1 x2 x3 x4 xI
       have HPL0:=Lib.hid (fun W (q:Below W6.heap.size W6 W)=>plain_any (HTT.out HOK.out _ (bt HB5.out (bt hb q))) c r (i:Int))
       have hOW:=fun W (q:Below W6.heap.size W6 W)=>owner_any (HTT.out HOK.out _ (bt HB5.out (bt hb q))) c r (i:Int)
       rw[owT_in HR.out hil]at hOW
       have HOW0:=Lib.hid hOW
       have HPY:=Lib.hid (plT_yes HR.out hil)
       have HIL:=Lib.hid hil
       have hq4:(chn (l.take i)).length≤400:=Nat.le_trans (chn_upto l i) (by omega)
       obtain⟨q,hq⟩:∃q,(chn (l.take i)).length=q:=⟨_,rfl⟩
       rw[hq]at hq4 ⊢
       have HQ:=Lib.hid hq
       clear hTr xI x2 x4 hOW hb hil hlt hq
       by_cases hk:(ndA l i).kd=18
       ·have HST:=Lib.hid (chn_step18 HIL.out hk)
        have HHAS:=Lib.hid (chl_has HIL.out hk)
        have hpf:plT l r (i:Int)=false:=by
         cases h:plT l r (i:Int) with
         |false=>rfl
         |true=>have:=(HPY.out h).1;omega
        have hPL:=HPL0.out
        rw[hpf]at hPL
        have HPL:=Lib.hid hPL
        rw[hk]at x0
        clear hk hpf hPL HPL0 HOW0 HPY
        generalize (ndA l (i:Int)).tx=tx at *
        generalize (ndA l (i:Int)).n=nn at *
        go_wp2
        go_loopw [9,10] (fun a9 a10 wr=>∃k:Nat,a9 = .bool (fnd ts tx.data.toList k)∧a10 = .int .i64 (k:Int)∧k≤m∧Below W6.heap.size W6 wr) (fun _ a10 _=>m-(intOf a10).toNat)
        case atStart=>exact⟨0,by simp[fnd],rfl,Nat.zero_le _,Below.refl _ _⟩
        case round=>
         obtain⟨k,rfl,rfl,hk,hb2⟩:=hrel
         obtain⟨W7,rfl⟩:∃W7,W7=wr:=⟨_,rfl⟩
         have HB2':=Lib.hid hb2
         by_cases hlt:k<m
         ·have hlz2:(k:Int)<(m:Int):=by omega
          have hkl:k<ts.length:=by rw[HM.out];exact hlt
          have HF:=Lib.hid (fnd_step tx.data.toList hkl)
          obtain⟨bo,hbo⟩:∃bo,fnd ts tx.data.toList k=bo:=⟨_,rfl⟩
          rw[hbo]at HF ⊢
          have HK:=Lib.hid (And.intro hk hlt)
          cases bo with
          |true=>
           clear hbo hk hlt hb2
           go_upto_region 21 with(fail)
           refine wp_region_quiet_below (by kernel_rfl) (by kernel_rfl) ?_
           repeat (first|go_big_quiet_step (first|fail))
           refine wpQuiet_nil ?_
           intro _ hw'
           obtain⟨⟨dq,osq⟩,hw''⟩:=hw'
           subst hw''
           have hbq:=below_regrown W7 dq osq
           generalize grow (redrawn W7 dq) osq=w8 at *
           have HE:=Lib.hid (bt HB2'.out hbq)
           clear hbq
           go_wp2
           go_roundw
           case measure=>have:=HK.out.2;simp[intOf];omega
           case rel=>
            have:=HK.out.2
            exact⟨k+1,by rw[HF.out];rfl,by go_num,by omega,HE.out⟩
          |false=>
           obtain⟨bS,oS,rfl,hbS,hcS⟩:=(HS5.out.below (HB.out.trans (hb2.mono HB.out.size))) (by omega)
           have c0:=hcS k hkl
           obtain⟨X,hX⟩:∃X:ByteArray,Go.Proofs.encStr ts[k] = .string X:=⟨_,rfl⟩
           rw[hX]at c0
           have hxe:=enc_is hX tx
           obtain⟨bq,hbq0⟩:∃bq,(X.toList==tx.toList)=bq:=⟨_,rfl⟩
           rw[hbq0]at hxe
           have HXE:=Lib.hid hxe
           have s0:=cell_regrown c0
           have s1:=cell_regrown (((hXr.below hb2 hXr.lt).cell 0).trans rfl)
           have s2:=cell_regrown ((hb2.cell (p:=⟨bA,off+i*5+3,none⟩) xt).trans x3)
           clear hbo hk hlt hb2 hcS c0 hX hxe hbS
           go_upto_region 21 with(fail)
           refine wp_region_quiet_below (by kernel_rfl) (by kernel_rfl) ?_
           repeat (first|go_big_quiet_step (first|fail))
           refine wpQuiet_nil ?_
           intro _ hw'
           obtain⟨⟨dq,osq⟩,hw''⟩:=hw'
           subst hw''
           have hbq:=below_regrown W7 dq osq
           generalize grow (redrawn W7 dq) osq=w8 at *
           have HE:=Lib.hid (bt HB2'.out hbq)
           clear hbq s0 s1 s2
           go_wp2
           go_roundw
           case measure=>have:=HK.out.2;simp[intOf];omega
           case rel=>
            have:=HK.out.2
            exact⟨k+1,by rw[HF.out,← HXE.out];rfl,by go_num,by omega,HE.out⟩
         ·have hlz2:¬(k:Int)<(m:Int):=by omega
          obtain rfl:k=m:=by omega
          have hfd:fnd ts tx.data.toList k=true:=by
           rw[← HM.out]
           have h2:=HHAS.out
           rw[HTS.out]at h2
           exact fnd_all h2
          rw[hfd]
          clear hfd hb2 hlt hk
          have hbw:=HB2'.out
          have p0:=((hXr.below hbw hXr.lt).cell 0).trans rfl
          have p1:=((hXr.below hbw hXr.lt).cell 1).trans rfl
          have p2:=(hbw.cell (p:=⟨bA,off+i*5,none⟩) xt).trans x0
          have p3:=(hbw.cell (p:=⟨bA,off+i*5+1,none⟩) xt).trans x1
          clear hbw
          go_wp2_with (go_at_call 44;refine(HPL.out _ HB2'.out).mono ?_)
          rintro e w9 ⟨rfl,hb9⟩
          clear p0 p1 p2 p3
          have hbw:=bt HB2'.out hb9
          have HB9:=Lib.hid hbw
          have HE:=Lib.hid (bt HB.out hbw)
          clear hbw hb9
          go_wp2
          go_roundw
          case measure=>simp[intOf];omega
          case rel=>exact⟨i+1,by rw[HST.out,HQ.out];go_num,by go_num,by omega,HE.out⟩
       ·have HST:=Lib.hid (chn_stepn HIL.out hk)
        have hkb:((ndA l i).kd==18)=false:=beq_eq_false_iff_ne.2 hk
        have hk18:=hk
        have HBR:=Lib.hid (Below.refl W6.heap.size W6)
        obtain⟨pv,hpv⟩:∃pv,plT l r (i:Int)=pv:=⟨_,rfl⟩
        cases pv with
        |false=>
         have hPL:=HPL0.out
         rw[hpv]at hPL
         have HPL:=Lib.hid hPL
         clear hpv hPL HPL0 HOW0 HPY hk
         generalize (ndA l (i:Int)).kd=kd at *
         generalize (ndA l (i:Int)).tx=tx at *
         generalize (ndA l (i:Int)).n=nn at *
         have hbw:=HBR.out
         have p0:=((hXr.below hbw hXr.lt).cell 0).trans rfl
         have p1:=((hXr.below hbw hXr.lt).cell 1).trans rfl
         have p2:=(hbw.cell (p:=⟨bA,off+i*5,none⟩) xt).trans x0
         have p3:=(hbw.cell (p:=⟨bA,off+i*5+1,none⟩) xt).trans x1
         clear hbw
         go_wp2_with (go_at_call 44;refine(HPL.out _ HBR.out).mono ?_)
         rintro e w9 ⟨rfl,hb9⟩
         clear p0 p1 p2 p3
         have hbw:=bt HBR.out hb9
         have HB9:=Lib.hid hbw
         have HE:=Lib.hid (bt HB.out hbw)
         clear hbw hb9
         go_wp2
         go_roundw
         case measure=>simp[intOf];omega
         case rel=>exact⟨i+1,by rw[HST.out,HQ.out],by go_num,by omega,HE.out⟩
        |true=>
         obtain⟨h3,h1⟩:=HPY.out hpv
         have hPL:=HPL0.out
         rw[hpv]at hPL
         have HPL:=Lib.hid hPL
         have hOW:=HOW0.out
         rw[owA_proc HIL.out h3]at hOW
         have HOW:=Lib.hid hOW
         rw[h3]at x0 hkb hk18
         rw[h1]at x1
         clear hpv hPL HPL0 HOW0 HPY hk h3 h1 hOW
         generalize (ndA l (i:Int)).tx=tx at *
         have hbw:=HBR.out
         have p0:=((hXr.below hbw hXr.lt).cell 0).trans rfl
         have p1:=((hXr.below hbw hXr.lt).cell 1).trans rfl
         have p2:=(hbw.cell (p:=⟨bA,off+i*5,none⟩) xt).trans x0
         have p3:=(hbw.cell (p:=⟨bA,off+i*5+1,none⟩) xt).trans x1
         have hii:((i:Int) != (i:Int))=false:=by simp
         clear hbw
         go_wp2_with (go_at_call 44;refine(HPL.out _ HBR.out).mono ?_)
         rintro e w9 ⟨rfl,hb9⟩
         clear p0 p1 p2 p3
         have hbw:=bt HBR.out hb9
         have HB9:=Lib.hid hbw
         have p0:=((hXr.below hbw hXr.lt).cell 0).trans rfl
         have p1:=((hXr.below hbw hXr.lt).cell 1).trans rfl
         have p2:=(hbw.cell (p:=⟨bA,off+i*5,none⟩) xt).trans x0
         have p3:=(hbw.cell (p:=⟨bA,off+i*5+1,none⟩) xt).trans x1
         clear hbw hb9
         go_wp2_with (go_at_call 38;refine(HOW.out _ HB9.out).mono ?_)
         rintro e w10 ⟨rfl,hb10⟩
         clear p0 p1 p2 p3
         have HE:=Lib.hid (bt HB.out (bt HB9.out hb10))
         clear hb10
         go_wp2
         go_roundw
         case measure=>simp[intOf];omega
         case rel=>exact⟨i+1,by rw[HST.out,HQ.out],by go_num,by omega,HE.out⟩
      ·obtain rfl:i=n:=by omega
       have hlz:¬(i:Int)<(i:Int):=by omega
       have hle:(m:Int)≤((chn (l.take i)).length:Int):=by
        have h1:=chl_len l
        rw[HTS.out,HM.out]at h1
        rw[List.take_of_length_le (by have:=HL.out;omega)]
        exact Int.ofNat_le.2 h1
       clear hb
       generalize (chn (l.take i)).length=q at *
       go_wp2
       go_ret
       exact⟨by simp,bt HB5.out HB.out⟩
theorem typesChannels_w (A:Option Addr)(c:Nat)(l:List Tr.Nd)(r:Int)(w:World)(hE:Tk.Errs w)(hN:Nds w A l)(hnum:∀x ∈ l,x.n≤9223372036854775807)(hc:Caps w A l):Calls Tryz.prog 14 #[.agg #[.slice A l.length c,.int .i64 r]] w (VPost (.bool true) w):=typesChannels_any A c l.length l r w rfl hE hN hnum hc
end
end Go.Proofs.YteecfjhjllajlaaGreatDoor
