/- PROVED here: parts TyCq TyCz TyCr TyWv of the claim. No condition but those in each theorem's own head. -/
import Derived.Test.YtignojhijmamhaaGreatJ21
import Derived.Test.YtignojhijmamhaaGreatJ19
import Derived.Test.YtignojhijmamhaaGreatRows
import Derived.ChangeMaps5
import Derived.ProofKit
import Derived.WalkKit
import Derived.OpenShut
import Derived.Carry
import Derived.Deep.Strs
import Derived.Deep.Slices
namespace Go.Proofs.YtignojhijmamhaaGreat.Ty
open Go Go.RowKit
open Tr (Bx heap1 bt Nds Ints VPost BPost rgB)
section
variable {w:World} {l:List Tr.Nd} {A O:Option Addr} {n bd bp:Nat}
set_option maxRecDepth 100000 in
set_option maxHeartbeats 1500000 in
theorem fault_any (h:Prg w l A n O bd bp)(hcp:Caps w A l)(c co p:Nat)(hp:p<n)(hF:NdF l p):Calls Tryz.prog 36 #[PrV A n c O co bd bp,.int .i64 (p:Int)] w (Tr.IPost (fauA l p) w):=by
 unfold PrV
 have hb0:=heap1 w (.cells #[.slice A n c,.slice O n co,.map (some bd),.map (some bp)] 92)
 have hX:=Bx.new w 92 [.slice A n c,.slice O n co,.map (some bd),.map (some bp)]
 obtain⟨W0,hW0⟩:∃W0,w.alloc (.cells #[.slice A n c,.slice O n co,.map (some bd),.map (some bp)] 92)=W0:=⟨_,rfl⟩
 rw[hW0]at hb0 hX
 have HB0:=Lib.hid hb0
 have HX:=Lib.hid hX
 have b0:=(hX.cell 0).trans rfl
 have b1:=(hX.cell 1).trans rfl
 have b2:=(hX.cell 2).trans rfl
 have b3:=(hX.cell 3).trans rfl
 clear hX
 have HTK:=Lib.hid (fun W (hb:Below W0.heap.size W0 W)=>isTaken_any (h.below (bt hb0 hb)) c co p hp)
 have HUK:=Lib.hid (fun W (hb:Below W0.heap.size W0 W)=>isUnknown_any (h.below (bt hb0 hb)) c co p hp hF)
 have HMT:=Lib.hid (fun W (hb:Below W0.heap.size W0 W) (hu:unkB l p=false)=>isMistyped_any (h.below (bt hb0 hb)) (hcp.below h.nds (bt hb0 hb)) c co p hp hF hu)
 unfold PrV at HTK HUK HMT
 unfold fauA
 clear h hcp hF hp hb0
 cases ht:takB l p with
 |true=>
  have HC1:=Lib.hid (HTK.out _ (Below.refl _ _))
  rw[ht]at HC1
  rw[if_pos rfl]
  clear HTK HUK HMT ht
  go_enter Tryz.func36,Tryz.ntmps36
  try rw[hW0]
  go_wp2_with (go_at_call 60;refine HC1.out.mono ?_)
  rintro e w1 ⟨rfl,hq1⟩
  have hb1:=hq1
  have HB1:=Lib.hid hb1
  clear hb1 hq1
  go_wp2
  go_ret
  exact⟨rfl,bt HB0.out HB1.out⟩
 |false=>
  have HC1:=Lib.hid (HTK.out _ (Below.refl _ _))
  rw[ht]at HC1
  rw[if_neg (by decide)]
  clear HTK ht
  cases hu:unkB l p with
  |true=>
   rw[if_pos rfl]
   clear HMT
   go_enter Tryz.func36,Tryz.ntmps36
   go_wp2_with (go_at_call 60;refine HC1.out.mono ?_)
   rintro e w1 ⟨rfl,hq1⟩
   have hb1:=hq1
   have HB1:=Lib.hid hb1
   have hBa:=HX.out.below hb1 HX.out.lt
   have c0:=(hBa.cell 0).trans rfl
   have c1:=(hBa.cell 1).trans rfl
   have c2:=(hBa.cell 2).trans rfl
   have c3:=(hBa.cell 3).trans rfl
   clear hBa
   have HC2:=Lib.hid (HUK.out _ hb1)
   rw[hu]at HC2
   clear hb1 hq1 hu HUK
   go_wp2_with (go_at_call 61;refine HC2.out.mono ?_)
   rintro e w2 ⟨rfl,hq2⟩
   have hb2:=bt HB1.out hq2
   have HB2:=Lib.hid hb2
   clear hb2 hq2
   go_wp2
   go_ret
   exact⟨rfl,bt HB0.out HB2.out⟩
  |false=>
   rw[if_neg (by decide)]
   cases hm:misB l p with
   |true=>
    rw[if_pos rfl]
    go_enter Tryz.func36,Tryz.ntmps36
    go_wp2_with (go_at_call 60;refine HC1.out.mono ?_)
    rintro e w1 ⟨rfl,hq1⟩
    have hb1:=hq1
    have HB1:=Lib.hid hb1
    have hBa:=HX.out.below hb1 HX.out.lt
    have c0:=(hBa.cell 0).trans rfl
    have c1:=(hBa.cell 1).trans rfl
    have c2:=(hBa.cell 2).trans rfl
    have c3:=(hBa.cell 3).trans rfl
    clear hBa
    have HC2:=Lib.hid (HUK.out _ hb1)
    rw[hu]at HC2
    clear hb1 hq1
    go_wp2_with (go_at_call 61;refine HC2.out.mono ?_)
    rintro e w2 ⟨rfl,hq2⟩
    have hb2:=bt HB1.out hq2
    have HB2:=Lib.hid hb2
    have hBa:=HX.out.below hb2 HX.out.lt
    have d0:=(hBa.cell 0).trans rfl
    have d1:=(hBa.cell 1).trans rfl
    have d2:=(hBa.cell 2).trans rfl
    have d3:=(hBa.cell 3).trans rfl
    clear hBa
    have HC3:=Lib.hid (HMT.out _ hb2 hu)
    rw[hm]at HC3
    clear hb2 hq2 hm hu HUK HMT c0 c1 c2 c3
    go_wp2_with (go_at_call 62;refine HC3.out.mono ?_)
    rintro e w3 ⟨rfl,hq3⟩
    have hb3:=bt HB2.out hq3
    have HB3:=Lib.hid hb3
    clear hb3 hq3
    go_wp2
    go_ret
    exact⟨rfl,bt HB0.out HB3.out⟩
   |false=>
    rw[if_neg (by decide)]
    go_enter Tryz.func36,Tryz.ntmps36
    go_wp2_with (go_at_call 60;refine HC1.out.mono ?_)
    rintro e w1 ⟨rfl,hq1⟩
    have hb1:=hq1
    have HB1:=Lib.hid hb1
    have hBa:=HX.out.below hb1 HX.out.lt
    have c0:=(hBa.cell 0).trans rfl
    have c1:=(hBa.cell 1).trans rfl
    have c2:=(hBa.cell 2).trans rfl
    have c3:=(hBa.cell 3).trans rfl
    clear hBa
    have HC2:=Lib.hid (HUK.out _ hb1)
    rw[hu]at HC2
    clear hb1 hq1
    go_wp2_with (go_at_call 61;refine HC2.out.mono ?_)
    rintro e w2 ⟨rfl,hq2⟩
    have hb2:=bt HB1.out hq2
    have HB2:=Lib.hid hb2
    have hBa:=HX.out.below hb2 HX.out.lt
    have d0:=(hBa.cell 0).trans rfl
    have d1:=(hBa.cell 1).trans rfl
    have d2:=(hBa.cell 2).trans rfl
    have d3:=(hBa.cell 3).trans rfl
    clear hBa
    have HC3:=Lib.hid (HMT.out _ hb2 hu)
    rw[hm]at HC3
    clear hb2 hq2 hm hu HUK HMT c0 c1 c2 c3
    go_wp2_with (go_at_call 62;refine HC3.out.mono ?_)
    rintro e w3 ⟨rfl,hq3⟩
    have hb3:=bt HB2.out hq3
    have HB3:=Lib.hid hb3
    clear hb3 hq3
    go_wp2
    go_ret
    exact⟨rfl,bt HB0.out HB3.out⟩
end
structure TT (w:World) (A:Option Addr) (n:Nat) (l:List Tr.Nd):Prop where
 nds:Nds w A l
 len:n=l.length
 kids:∀x ∈ l,x.ks.length≤4000
 text:∀x ∈ l,x.tx.size≤281474976710656
 num:∀x ∈ l,x.n≤9223372036854775807
 caps:Caps w A l
theorem TT.below {w w':World}{A:Option Addr}{n:Nat}{l:List Tr.Nd}(h:TT w A n l)(hb:Below w.heap.size w w'):TT w' A n l:=
 ⟨h.nds.below hb,h.len,h.kids,h.text,h.num,h.caps.below h.nds hb⟩
theorem TT.right {w:World}{A:Option Addr}{n:Nat}{l:List Tr.Nd}(h:TT w A n l)(c:Nat)(r:Int):Calls Tryz.prog 57 #[.agg #[.slice A n c,.int .i64 r]] w (BPost (rgB l r) w):=Tr.right_any A c n l r w h.nds h.len h.kids h.text h.num
def RPost (L:List Tr.Nd)(w:World)(e:Ending)(w':World):Prop:=
 ∃A n c O co bd bp,e = .returned (PrV A n c O co bd bp)∧Prg w' L A n O bd bp∧Caps w' A L∧Below w.heap.size w w'
theorem read_any {w:World}{A:Option Addr}{n:Nat}{l:List Tr.Nd}(h:TT w A n l)(c:Nat)(r:Int):Calls Tryz.prog 34 #[.agg #[.slice A n c,.int .i64 r]] w (RPost (eff l r) w):=by
 have HR:∀w',Below w.heap.size w w'→Calls Tryz.prog 57 #[.agg #[.slice A n c,.int .i64 r]] w' (BPost (rgB l r) w'):=fun w' hb=>(h.below hb).right c r
 cases hr:rgB l r with
 |true=>
  rw[hr]at HR
  rw[eff_yes hr]
  obtain⟨⟨b,hb⟩,h4,_⟩:=rtn_of hr
  have h1:=hb.len
  have hl:=h.len
  refine callsIn_wide.1 (read_go A c n r l w h.nds h.len (by omega) (by omega) h.text HR _ (Lib.hid ?_))
  rintro e w' ⟨n',c',O,co,bd,bp,rfl,hn,hbw,hO,hd,hp⟩
  obtain rfl:n'=n:=by omega
  exact⟨A,n',c',O,co,bd,bp,rfl,⟨h.nds.below hbw,h.len,by omega,hO,hd,hp,h.kids,h.text,snd_ahead (rg_parts hr).1⟩,h.caps.below h.nds hbw,hbw⟩
 |false=>
  rw[hr]at HR
  rw[eff_no hr]
  refine callsIn_wide.1 (read_no A c n r w HR _ (Lib.hid ?_))
  rintro e w' ⟨n',c',O,co,bd,bp,rfl,hn,hbw,hO,hd,hp⟩
  exact⟨none,n',c',O,co,bd,bp,rfl,⟨fun h0=>absurd h0 (Nat.lt_irrefl 0),hn,by rw[hn];exact Nat.zero_le _,hO,hd,hp,fun x hx=>(by cases hx),fun x hx=>(by cases hx),fun p hp=>absurd hp (Nat.not_lt_zero _)⟩,fun p bA off K m c hp=>absurd hp (Nat.not_lt_zero _),hbw⟩
end Go.Proofs.YtignojhijmamhaaGreat.Ty
namespace Go.Proofs.YtignojhijmamhaaGreat.Ty
open Go Go.RowKit
open Tr (Bx heap1 bt Nds Ints VPost BPost rgB)
section
variable {w:World} {l:List Tr.Nd} {A:Option Addr} {n:Nat}
set_option maxRecDepth 100000 in
set_option maxHeartbeats 8000000 in
theorem check_any (h:TT w A n l)(c:Nat)(r:Int):Calls Tryz.prog 21 #[.agg #[.slice A n c,.int .i64 r]] w (VPost (.tuple #[.int .i64 (chkT l r).1,.int .i64 (chkT l r).2]) w):=by
 have hb0:=heap1 w (.cells #[.slice A n c,.int .i64 r] 24)
 have HB0:=Lib.hid hb0
 have HR:=Lib.hid (read_any (h.below hb0) c r)
 have HT:=Lib.hid (Bx.new w 24 [.slice A n c,.int .i64 r])
 unfold chkT
 cases hr:rgB l r with
 |false=>
  rw[eff_no hr]at HR
  rw[if_neg (by decide)]
  clear h hb0 hr
  go_enter Tryz.func21,Tryz.ntmps21
  go_wp2_with (go_at_call 34;refine HR.out.mono ?_)
  rintro e w1 ⟨A1,n1,c1,O,co,bd,bp,rfl,hP,_,hb1⟩
  unfold PrV
  obtain rfl:n1=0:=hP.len
  have hN:=isNothing_any (w1.alloc (.cells #[.slice A1 0 c1,.slice O 0 co,.map (some bd),.map (some bp)] 92)) A1 O 0 bd bp c1 co
  unfold PrV at hN
  have HN:=Lib.hid hN
  have HB1:=Lib.hid (bt (bt HB0.out hb1) (heap1 w1 (.cells #[.slice A1 0 c1,.slice O 0 co,.map (some bd),.map (some bp)] 92)))
  clear hP hb1 hN
  go_wp2_with (go_at_call 35;refine HN.out.mono ?_)
  rintro e w2 ⟨rfl,hb2⟩
  have HB2:=Lib.hid (bt HB1.out hb2)
  clear hb2
  go_wp2
  exact bodyPost_ret (v :=.tuple #[.int .i64 0,.int .i64 1]) (by simp[results,Tryz.f21,go_sem]) rfl ⟨rfl,HB2.out⟩
 |true=>
  rw[eff_yes hr]at HR
  rw[if_pos rfl]
  obtain⟨⟨b,hRt⟩,hx4,hx5⟩:=rtn_of hr
  have HX4:=Lib.hid hx4
  clear hx4 hx5
  have HRT:=Lib.hid hRt
  clear h hb0 hr hRt
  go_enter Tryz.func21,Tryz.ntmps21
  go_wp2_with (go_at_call 34;refine HR.out.mono ?_)
  rintro e w1 ⟨A1,n1,c1,O,co,bd,bp,rfl,hP,hC,hb1⟩
  unfold PrV
  have hbx:=heap1 w1 (.cells #[.slice A1 n1 c1,.slice O n1 co,.map (some bd),.map (some bp)] 92)
  have hN:=isNothing_any (w1.alloc (.cells #[.slice A1 n1 c1,.slice O n1 co,.map (some bd),.map (some bp)] 92)) A1 O n1 bd bp c1 co
  have hX:=Bx.new w1 92 [.slice A1 n1 c1,.slice O n1 co,.map (some bd),.map (some bp)]
  have hT:=(HT.out.below hb1 HT.out.lt).alloc (.cells #[.slice A1 n1 c1,.slice O n1 co,.map (some bd),.map (some bp)] 92)
  have HL:=Lib.hid hP.len
  have h0:decide (n1=0)=false:=decide_eq_false (by have:=HRT.out.len;have:=HL.out;omega)
  rw[h0]at hN
  unfold PrV at hN
  have HN:=Lib.hid hN
  have HB1:=Lib.hid (bt (bt HB0.out hb1) hbx)
  have HP:=Lib.hid (And.intro (hP.below hbx) (hC.below hP.nds hbx))
  have HX:=Lib.hid (And.intro hX hT)
  clear hP hC hb1 hN hX hT hbx h0 HR HT
  go_wp2_with (go_at_call 35;refine HN.out.mono ?_)
  rintro e w2 ⟨rfl,hb2⟩
  have HX2:=Lib.hid (And.intro (HX.out.1.below hb2 HX.out.1.lt) (HX.out.2.below hb2 HX.out.2.lt))
  have HP2:=Lib.hid (And.intro (HP.out.1.below hb2) (HP.out.2.below HP.out.1.nds hb2))
  have HB2:=Lib.hid (bt HB1.out hb2)
  have c0:=(HX2.out.1.cell 0).trans rfl
  clear hb2 HX HP HB1 HN
  go_wp2
  clear c0
  go_loopg [14] n1 (fun g a14 wr=>∃i:Nat,a14 = .int .i64 (i:Int)∧i≤n1∧g=n1-i∧(∀j,j<i→fauA l j=0)∧Below w2.heap.size w2 wr)
  case atStart=>exact⟨0,rfl,Nat.zero_le _,rfl,fun j hj=>absurd hj (Nat.not_lt_zero _),Below.refl _ _⟩
  case round=>
   obtain⟨i,rfl,hi,rfl,ht,hb⟩:=hrel
   have HB:=Lib.hid hb
   have HE:=Lib.hid ht
   have hn4:n1≤4000:=by have:=HL.out;have:=HX4.out;omega
   have hXr:=HX2.out.1.below hb HX2.out.1.lt
   have b0:=(hXr.cell 0).trans rfl
   have b1:=(hXr.cell 1).trans rfl
   have b2:=(hXr.cell 2).trans rfl
   have b3:=(hXr.cell 3).trans rfl
   by_cases hlt:i<n1
   ·have hlz:(i:Int)<(n1:Int):=by omega
    have hil:i<l.length:=by rw[← HL.out];exact hlt
    have hC:=fault_any (HP2.out.1.below hb) (HP2.out.2.below HP2.out.1.nds hb) c1 co i hlt (HRT.out.ndf hil)
    unfold PrV at hC
    have HC:=Lib.hid hC
    have HIL:=Lib.hid hil
    obtain⟨fz,hfz⟩:∃fz,fauA l i=fz:=⟨_,rfl⟩
    rw[hfz]at HC
    have HFZ:=Lib.hid hfz
    clear hXr hb ht hC hfz hil
    by_cases hz:fz=0
    ·subst hz
     go_wp2_with (go_at_call 36;refine HC.out.mono ?_)
     rintro e w3 ⟨rfl,hb3⟩
     have HB3:=Lib.hid (bt HB.out hb3)
     clear hb3
     go_wp2
     go_roundg (n1-(i+1))
     case measure=>go_light;omega
     case rel=>
      go_light
      exact⟨i+1,by go_num,by omega,rfl,fun j hj=>by rcases Nat.lt_or_eq_of_le (Nat.le_of_lt_succ hj)with e |e;exact HE.out j e;rw[e];exact HFZ.out,HB3.out⟩
    ·have hzn:(fz != 0)=true:=by simp[hz]
     have HRS:=Lib.hid (show chkA l r=((i:Int),fz) by
      unfold chkA
      rw[fstA_is (Nat.zero_le i) HIL.out (by simp[HFZ.out,hz]) (fun j _ hj=>by simp[HE.out j hj])]
      show((i:Int),fauA l i)=_
      rw[HFZ.out])
     clear hz
     go_wp2_with (go_at_call 36;refine HC.out.mono ?_)
     rintro e w3 ⟨rfl,hb3⟩
     have HB3:=Lib.hid (bt HB.out hb3)
     clear hb3
     go_wp2
     exact bodyPost_ret (v :=.tuple #[.int .i64 (i:Int),.int .i64 fz]) (by simp[results,Tryz.f21,go_sem]) rfl ⟨by rw[HRS.out];try rfl,bt HB2.out HB3.out⟩
   ·have hlz:¬(i:Int)<(n1:Int):=by omega
    have HN0:=Lib.hid (show fstA (fun p => !decide (fauA l p=0)) 0 l.length=none by
     cases e:fstA (fun p => !decide (fauA l p=0)) 0 l.length with
     |none=>rfl
     |some q=>
      obtain⟨_,h2,h3,_⟩:=fstA_some e
      have h4:=HE.out q (by have:=HL.out;omega)
      simp[h4]at h3)
    have hC:=hasMain_any (HP2.out.1.below hb) c1 co
    unfold PrV at hC
    have HC:=Lib.hid hC
    have hTr:=HX2.out.2.below hb HX2.out.2.lt
    have HTR:=Lib.hid hTr
    clear hXr hb ht hC hTr
    cases hm:manB l with
    |true=>
     rw[hm]at HC
     have HRS:=Lib.hid (show chkA l r=(0,0)by unfold chkA;rw[HN0.out];show(if manB l then _ else _)=_;rw[hm];rfl)
     clear hm
     go_wp2_with (go_at_call 37;refine HC.out.mono ?_)
     rintro e w3 ⟨rfl,hb3⟩
     have HB3:=Lib.hid (bt HB.out hb3)
     clear hb3
     go_wp2
     exact bodyPost_ret (v :=.tuple #[.int .i64 0,.int .i64 0]) (by simp[results,Tryz.f21,go_sem]) rfl ⟨by rw[HRS.out];try rfl,bt HB2.out HB3.out⟩
    |false=>
     rw[hm]at HC
     have HRS:=Lib.hid (show chkA l r=(r,11)by unfold chkA;rw[HN0.out];show(if manB l then _ else _)=_;rw[hm];rfl)
     clear hm
     go_wp2_with (go_at_call 37;refine HC.out.mono ?_)
     rintro e w3 ⟨rfl,hb3⟩
     have t1:=((HTR.out.below hb3 HTR.out.lt).cell 1).trans rfl
     have HB3:=Lib.hid (bt HB.out hb3)
     clear hb3
     go_wp2
     exact bodyPost_ret (v :=.tuple #[.int .i64 r,.int .i64 11]) (by simp[results,Tryz.f21,go_sem]) rfl ⟨by rw[HRS.out];try rfl,bt HB2.out HB3.out⟩
end
end Go.Proofs.YtignojhijmamhaaGreat.Ty
namespace Go.Proofs.YtignojhijmamhaaGreat.Ty
open Go Go.RowKit
open Tr (Bx heap1 bt Nds Ints VPost BPost rgB)
section
variable (l:List Tr.Nd) (r z:Int) (nm:ByteArray)
noncomputable def pcT:Int:=optZ (prF (eff l r) nm 0)
noncomputable def tpT:Int:=if 0≤z∧z<((eff l r).length:Int) then typA (eff l r) z.toNat else 0
end
section
variable {w:World} {l:List Tr.Nd} {A:Option Addr} {n:Nat}
set_option maxRecDepth 100000 in
set_option maxHeartbeats 1500000 in
theorem type_any (h:TT w A n l)(c:Nat)(r z:Int):Calls Tryz.prog 97 #[.agg #[.slice A n c,.int .i64 r],.int .i64 z] w (Tr.IPost (tpT l r z) w):=by
 have hb0:=heap1 w (.cells #[.slice A n c,.int .i64 r] 24)
 have HB0:=Lib.hid hb0
 have HR:=Lib.hid (read_any (h.below hb0) c r)
 obtain⟨ov,hov⟩:∃ov,tpT l r z=ov:=⟨_,rfl⟩
 rw[hov]
 unfold tpT at hov
 have HOV:=Lib.hid hov
 clear h hb0 hov
 generalize eff l r=L at *
 go_enter Tryz.func97,Tryz.ntmps97
 go_wp2_with (go_at_call 34;refine HR.out.mono ?_)
 rintro e w1 ⟨A1,n1,c1,O,co,bd,bp,rfl,hP,hC,hb1⟩
 unfold PrV
 have hbx:=heap1 w1 (.cells #[.slice A1 n1 c1,.slice O n1 co,.map (some bd),.map (some bp)] 92)
 have hh:=has_any (w1.alloc (.cells #[.slice A1 n1 c1,.slice O n1 co,.map (some bd),.map (some bp)] 92)) A1 O n1 bd bp c1 co z
 unfold PrV at hh
 have HX:=Lib.hid (Bx.new w1 92 [.slice A1 n1 c1,.slice O n1 co,.map (some bd),.map (some bp)])
 have HP:=Lib.hid (hP.below hbx)
 have HB1:=Lib.hid (bt (bt HB0.out hb1) hbx)
 have HL:=Lib.hid hP.len
 clear HR hP hC hb1 hbx
 by_cases hz:0≤z∧z<(L.length:Int)
 ·have hv:=HOV.out
  rw[if_pos hz]at hv
  clear HOV
  obtain⟨k,rfl⟩:∃k:Nat,z=(k:Int):=⟨z.toNat,by omega⟩
  replace hv:typA L k=ov:=hv
  subst hv
  have hk:k<n1:=by have:=HL.out;omega
  have hkz:(k:Int)<(n1:Int):=by omega
  rw[decide_eq_true hz.1,decide_eq_true hkz]at hh
  have HH:=Lib.hid (show Calls Tryz.prog 114 #[.agg #[.slice A1 n1 c1,.slice O n1 co,.map (some bd),.map (some bp)],.int .i64 (k:Int)] (w1.alloc (.cells #[.slice A1 n1 c1,.slice O n1 co,.map (some bd),.map (some bp)] 92)) (BPost true (w1.alloc (.cells #[.slice A1 n1 c1,.slice O n1 co,.map (some bd),.map (some bp)] 92)))from hh)
  clear hh hz
  go_wp2_with (go_at_call 114;refine HH.out.mono ?_)
  rintro e w2 ⟨rfl,hb2⟩
  have hX2:=HX.out.below hb2 HX.out.lt
  have q0:=(hX2.cell 0).trans rfl
  have q1:=(hX2.cell 1).trans rfl
  have q2:=(hX2.cell 2).trans rfl
  have q3:=(hX2.cell 3).trans rfl
  have HP2:=Lib.hid (HP.out.below hb2)
  have HX2:=Lib.hid hX2
  have HB2:=Lib.hid (bt HB1.out hb2)
  have hq:=typeE_any HP2.out c1 co k hk
  unfold PrV at hq
  have HQ:=Lib.hid hq
  clear hb2 hX2 hq
  go_wp2_with (go_at_call 92;refine HQ.out.mono ?_)
  rintro e w3 ⟨rfl,hb3⟩
  have HB3:=Lib.hid (bt HB2.out hb3)
  clear hb3
  go_wp2
  go_ret
  exact⟨rfl,HB3.out⟩
 ·have hv:=HOV.out
  rw[if_neg hz]at hv
  subst hv
  clear HOV
  have hf:(decide (0≤z)&&decide (z<(n1:Int)))=false:=by
   rw[HL.out,Bool.eq_false_iff]
   intro h2
   simp only[Bool.and_eq_true,decide_eq_true_eq]at h2
   exact hz h2
  rw[hf]at hh
  have HH:=Lib.hid hh
  clear hh hz hf
  go_wp2_with (go_at_call 114;refine HH.out.mono ?_)
  rintro e w2 ⟨rfl,hb2⟩
  have HB2:=Lib.hid (bt HB1.out hb2)
  clear hb2
  go_wp2
  go_ret
  exact⟨rfl,HB2.out⟩
set_option maxRecDepth 100000 in
set_option maxHeartbeats 1500000 in
theorem procT_any (h:TT w A n l)(c:Nat)(r:Int)(nm:ByteArray)(hn:nm.size≤281474976710656):Calls Tryz.prog 68 #[.agg #[.slice A n c,.int .i64 r],.string nm] w (Tr.IPost (pcT l r nm) w):=by
 have hb0:=heap1 w (.cells #[.slice A n c,.int .i64 r] 24)
 have HB0:=Lib.hid hb0
 have HR:=Lib.hid (read_any (h.below hb0) c r)
 unfold pcT
 clear h hb0
 generalize eff l r=L at *
 go_enter Tryz.func68,Tryz.ntmps68
 go_wp2_with (go_at_call 34;refine HR.out.mono ?_)
 rintro e w1 ⟨A1,n1,c1,O,co,bd,bp,rfl,hP,hC,hb1⟩
 unfold PrV
 have hq:=procedure_any hP c1 co nm hn
 unfold PrV at hq
 have HQ:=Lib.hid hq
 have HB1:=Lib.hid (bt HB0.out hb1)
 clear HR hP hC hb1 hq
 go_wp2_with (go_at_call 63;refine HQ.out.mono ?_)
 rintro e w3 ⟨rfl,hb3⟩
 have HB3:=Lib.hid (bt HB1.out hb3)
 clear hb3
 go_wp2
 go_ret
 exact⟨rfl,HB3.out⟩
end
end Go.Proofs.YtignojhijmamhaaGreat.Ty
namespace Go.Proofs.YtignojhijmamhaaGreat.Ty.Vw
open Go Go.ChangeShapes Go.WideShapes Go.ChangeAt Go.RowKit Go.Deep
set_option maxRecDepth 100000
theorem cells3:Tryz.prog.cellsOf 3=1:=by kernel_rfl
theorem cells9:Tryz.prog.cellsOf 9=1:=by kernel_rfl
theorem cells35:Tryz.prog.cellsOf 64=1:=by kernel_rfl
theorem cells23:Tryz.prog.cellsOf 22=1:=by kernel_rfl
theorem cells37:Tryz.prog.cellsOf 66=5:=by kernel_rfl
theorem cells25:Tryz.prog.cellsOf 24=2:=by kernel_rfl
theorem fields37:(Tryz.prog.fieldsOf 66).toList.map (fun f=>(f.name,f.type,f.offset))=[("Kind",3,0),("N",3,1),("At",3,2),("Text",9,3),("Kids",64,4)]:=by kernel_rfl
theorem fields25:(Tryz.prog.fieldsOf 24).toList.map (fun f=>(f.name,f.type,f.offset))=[("Nodes",22,0),("Root",3,1)]:=by kernel_rfl
theorem under37:Tryz.prog.underlying 66=some (.struct (Tryz.prog.fieldsOf 66)):=by kernel_rfl
theorem under25:Tryz.prog.underlying 24=some (.struct (Tryz.prog.fieldsOf 24)):=by kernel_rfl
theorem size37:(Tryz.prog.fieldsOf 66).size=5:=by kernel_rfl
theorem size25:(Tryz.prog.fieldsOf 24).size=2:=by kernel_rfl
theorem pick_lt {α:Type}{P:Nat→α→Prop}{m:Nat}(d:α)(h:∀i,i<m→∃q,P i q):∃Q:Nat→α,∀i,i<m→P i (Q i):=
 ⟨fun i=>if hi:i<m then (h i hi).choose else d,fun i hi=>by
  show P i (dite (i<m) _ _)
  rw[dif_pos hi]
  exact(h i hi).choose_spec⟩
theorem field_of {T:TypeId}{L:List (String × Nat × Nat)}(hL:(Tryz.prog.fieldsOf T).toList.map (fun f=>(f.name,f.type,f.offset))=L){i:Nat}{n:String}{t o:Nat}(h:L[i]?=some (n,t,o)):∃f,(Tryz.prog.fieldsOf T)[i]?=some f∧f.type=t∧f.offset=o:=by
 rw[← hL,List.getElem?_map]at h
 cases hq:(Tryz.prog.fieldsOf T).toList[i]? with
 |none=>rw[hq]at h;cases h
 |some f=>
  rw[hq]at h
  simp only[Option.map_some,Option.some.injEq,Prod.mk.injEq]at h
  exact⟨f,by rw[← Array.getElem?_toList];exact hq,h.2.1,h.2.2⟩
theorem add_flat (b off k:Nat):(⟨b,off,none⟩:Addr).add k=⟨b,off+k,none⟩:=by simp[Addr.add]
theorem wf_le {n:Int}(h:(Lit.int .i64 n).wf=true):n≤9223372036854775807:=by
 unfold Lit.wf at h
 simp only[Bool.and_eq_true,decide_eq_true_eq]at h
 have h2:=h.2
 rw[show IntKind.i64.max=9223372036854775807 by rfl]at h2
 exact h2
section
variable {H:Type} {enc:TypeId × Value→H} {W:World}
theorem ints_of {n:Nat}{cs:List Value}{x:DataW H × List MemPlace}(h:DataW.trod enc Tryz.prog W 0 (fun _=>true) true n 64 cs=some x):∃(K:Option Addr) (ks:List Int) (c:Nat),cs=[.slice K ks.length c]∧Tr.Ints W K ks∧ks.length≤c:=by
 rcases open_slice Tryz.underlying64 h with⟨hcs,hx⟩ |⟨a,len,cap,m,n,D,Pl,hcs,_,hl,hm,hmm,hx,hcell⟩
 ·exact⟨none,[],0,hcs,(fun h=>by simp at h),by simp⟩
 ·simp only[if_true]at hmm
  subst hmm
  have each:∀i,i<m→∃q:Int,W.cell? (a.add i)=some (.int .i64 q):=fun i hi=>by
   obtain⟨cs',h1,h2⟩:=hcell i hi
   rw[cells3]at h1
   obtain⟨_,hlen,hc⟩:=World.cells?_some h1
   obtain⟨q,hq,_,_⟩:=DataW.trod_int Tryz.underlying3 h2
   refine⟨q,?_⟩
   have:=hc 0 (by omega)
   subst hq
   simpa [Addr.add]using this
  obtain⟨Q,hQ⟩:=pick_lt 0 each
  refine⟨some a,(List.range len).map Q,m,by rw[hcs];simp,fun h0 =>?_,by simpa using hl⟩
  have h0':0<m:=by simp at h0;omega
  obtain⟨b,off,spot⟩:=a
  have hspot:spot=none:=by
   have:=World.cell?_spot (hQ 0 h0')
   simpa [Addr.add]using this
  subst hspot
  refine⟨b,off,rfl,World.block_lt_of_cell? W _ (by have:=hQ 0 h0';rw[add_flat]at this;exact this),fun j hj =>?_⟩
  have hj':j<len:=by simpa using hj
  have:=hQ j (by omega)
  rw[add_flat]at this
  rw[this];simp
set_option maxRecDepth 100000 in
theorem node_ofB {n:Nat}{cs:List Value}{x:DataW H × List MemPlace}(hlen:cs.length=5)(h:DataW.trod enc Tryz.prog W 0 (fun _=>true) true n 66 cs=some x) :
  ∃(q:Tr.Nd) (K:Option Addr) (c:Nat),cs=[.int .i64 q.kd,.int .i64 q.n,.int .i64 q.pl,.string q.tx,.slice K q.ks.length c]∧Tr.Ints W K q.ks∧q.n≤9223372036854775807∧q.ks.length≤c:=by
 obtain⟨d,pl⟩:=x
 obtain⟨xs,k,_,_,_,hxl,hel⟩:=DataW.trod_struct under37 h
 obtain⟨f0,g0,t0,o0⟩:=field_of fields37 (i:=0) rfl
 obtain⟨f1,g1,t1,o1⟩:=field_of fields37 (i:=1) rfl
 obtain⟨f2,g2,t2,o2⟩:=field_of fields37 (i:=2) rfl
 obtain⟨f3,g3,t3,o3⟩:=field_of fields37 (i:=3) rfl
 obtain⟨f4,g4,t4,o4⟩:=field_of fields37 (i:=4) rfl
 rw[size37]at hxl
 match cs,hlen,xs,hxl with
 | [v0,v1,v2,v3,v4],_,[x0,x1,x2,x3,x4],_=>
  have e0:=hel 0 f0 g0
  have e1:=hel 1 f1 g1
  have e2:=hel 2 f2 g2
  have e3:=hel 3 f3 g3
  have e4:=hel 4 f4 g4
  rw[t0,o0,cells3]at e0
  rw[t1,o1,cells3]at e1
  rw[t2,o2,cells3]at e2
  rw[t3,o3,cells9]at e3
  rw[t4,o4,cells35]at e4
  obtain⟨a0,q0,_,_⟩:=DataW.trod_int Tryz.underlying3 e0
  obtain⟨a1,q1,_,hw1⟩:=DataW.trod_int Tryz.underlying3 e1
  obtain⟨a2,q2,_,_⟩:=DataW.trod_int Tryz.underlying3 e2
  obtain⟨s3,q3,_,_⟩:=DataW.trod_string Tryz.underlying9 e3
  obtain⟨K,ks,c,q4,hI,hKc⟩:=ints_of e4
  simp at q0 q1 q2 q3 q4
  exact⟨(⟨a0,a1,a2,s3,ks⟩:Tr.Nd),K,c,by rw[q0,q1,q2,q3,q4],hI,wf_le hw1,hKc⟩
set_option maxRecDepth 100000 in
theorem nodes_ofB {n:Nat}{cs:List Value}{x:DataW H × List MemPlace}(h:DataW.trod enc Tryz.prog W 0 (fun _=>true) true n 22 cs=some x):∃(A:Option Addr) (l:List Tr.Nd) (c:Nat),cs=[.slice A l.length c]∧Tr.Nds W A l∧l.length≤c∧(∀x ∈ l,x.n≤9223372036854775807)∧Caps W A l:=by
 rcases open_slice Tryz.underlying22 h with⟨hcs,hx⟩ |⟨a,len,cap,m,n,D,Pl,hcs,_,hl,hm,hmm,hx,hcell⟩
 ·exact⟨none,[],0,hcs,fun h=>by simp at h,by simp,(fun x hx=>by cases hx),fun p bA off K m c hp=>absurd hp (Nat.not_lt_zero _)⟩
 ·simp only[if_true]at hmm
  subst hmm
  have each:∀i,i<m→∃q:Tr.Nd,∃K c,(W.cell? ((a.add (i*5)).add 0)=some (.int .i64 q.kd)∧W.cell? ((a.add (i*5)).add 1)=some (.int .i64 q.n)∧W.cell? ((a.add (i*5)).add 2)=some (.int .i64 q.pl)∧W.cell? ((a.add (i*5)).add 3)=some (.string q.tx)∧W.cell? ((a.add (i*5)).add 4)=some (.slice K q.ks.length c))∧Tr.Ints W K q.ks∧q.n≤9223372036854775807∧q.ks.length≤c:=fun i hi=>by
   obtain⟨cs',h1,h2⟩:=hcell i hi
   rw[cells37]at h1
   obtain⟨_,hlen,hc⟩:=World.cells?_some h1
   obtain⟨q,K,c,hq,hI⟩:=node_ofB hlen h2
   subst hq
   exact⟨q,K,c,⟨hc 0 (by omega),hc 1 (by omega),hc 2 (by omega),hc 3 (by omega),hc 4 (by omega)⟩,hI⟩
  obtain⟨Q,hQ⟩:=pick_lt ⟨0,0,0,⟨#[]⟩,[]⟩ each
  refine⟨some a,(List.range len).map Q,m,by rw[hcs];simp,fun h0 =>?_,by simpa using hl,(fun x hx=>by
   obtain⟨i,hi,rfl⟩:=List.mem_map.1 hx
   obtain⟨_,_,_,_,h,_⟩:=hQ i (by have:=List.mem_range.1 hi;omega)
   exact h),fun p bA off K m2 c2 hp hA hcl _ h2=>by
   have hp':p<len:=by simpa using hp
   obtain⟨K3,c3,⟨_,_,_,_,e4⟩,_,_,h5⟩:=hQ p (by omega)
   rw[Option.some.inj hA,add_flat,add_flat]at e4
   have h6:=hcl.symm.trans e4
   injection h6 with h6
   injection h6 with x1 x2 x3
   omega⟩
  have h0':0<m:=by simp at h0;omega
  obtain⟨b,off,spot⟩:=a
  obtain⟨K0,c0,⟨h00,_⟩,_⟩:=hQ 0 h0'
  have hspot:spot=none:=by
   have:=World.cell?_spot h00
   simpa [Addr.add]using this
  subst hspot
  have eqs:∀i o,(((⟨b,off,none⟩:Addr).add (i*5)).add o)=⟨b,off+i*5+o,none⟩:=fun i o=>by rw[add_flat,add_flat]
  refine⟨b,off,rfl,World.block_lt_of_cell? W _ (by rw[eqs]at h00;exact h00),fun j hj =>?_⟩
  have hj':j<len:=by simpa using hj
  obtain⟨K,c,⟨e0,e1,e2,e3,e4⟩,hI,_⟩:=hQ j (by omega)
  rw[eqs]at e0 e1 e2 e3 e4
  simp only[List.getElem_map,List.getElem_range]
  exact⟨K,c,by simpa using e0,e1,e2,e3,e4,hI⟩
set_option maxRecDepth 100000 in
theorem tree_ofB {n:Nat}{cs:List Value}{x:DataW H × List MemPlace}(hlen:cs.length=2)(h:DataW.trod enc Tryz.prog W 0 (fun _=>true) true n 24 cs=some x) :
  ∃(A:Option Addr) (l:List Tr.Nd) (c:Nat) (r:Int),cs=[.slice A l.length c,.int .i64 r]∧Tr.Nds W A l∧l.length≤c∧(∀x ∈ l,x.n≤9223372036854775807)∧Caps W A l:=by
 obtain⟨d,pl⟩:=x
 obtain⟨xs,k,_,_,_,hxl,hel⟩:=DataW.trod_struct under25 h
 obtain⟨f0,g0,t0,o0⟩:=field_of fields25 (i:=0) rfl
 obtain⟨f1,g1,t1,o1⟩:=field_of fields25 (i:=1) rfl
 rw[size25]at hxl
 match cs,hlen,xs,hxl with
 | [v0,v1],_,[x0,x1],_=>
  have e0:=hel 0 f0 g0
  have e1:=hel 1 f1 g1
  rw[t0,o0,cells23]at e0
  rw[t1,o1,cells3]at e1
  obtain⟨A,l,c,q0,hN,hc⟩:=nodes_ofB e0
  obtain⟨a1,q1,_,_⟩:=DataW.trod_int Tryz.underlying3 e1
  simp at q0 q1
  exact⟨A,l,c,a1,by rw[q0,q1],hN,hc⟩
set_option maxRecDepth 100000 in
theorem viewTr {base:Nat}{v:Value}{d:DataW H}{p:List MemPlace}(hv:Value.okWide Tryz.prog W .any base 24 v)(h:DataW.Trod enc Tryz.prog W 0 (fun _=>true) true 24 v d p) :
  ∃(A:Option Addr) (c:Nat) (l:List Tr.Nd) (r:Int),v = .agg #[.slice A l.length c,.int .i64 r]∧Tr.Nds W A l∧l.length≤c∧(∀x ∈ l,x.n≤9223372036854775807)∧Caps W A l:=by
 obtain⟨cs,rfl,hsz⟩:=okWide_struct under25 hv
 rw[cells25]at hsz
 obtain⟨fuel,hf⟩:=h
 obtain⟨A,l,c,r,e,hN,hc⟩:=tree_ofB (cs:=cs.toList) (by simpa using hsz) (by simpa [Value.cells]using hf)
 exact⟨A,c,l,r,by rw[← e],hN,hc⟩
end
end Go.Proofs.YtignojhijmamhaaGreat.Ty.Vw
