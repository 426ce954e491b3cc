/- PROVED: Cr Cs Cx TrPa Cp. No more condition. -/
import Derived.Test.YteecfjhjllajlaaGreatDoorI34
set_option maxHeartbeats 1500000
set_option maxRecDepth 100000
namespace Go.Proofs.YteecfjhjllajlaaGreatDoor
open Go Go.RowKit
section
open Tr (Bx heap1 bt Nds Ints VPost BPost rgB)
section
variable (l:List Tr.Nd) (r z:Int) (nm:ByteArray)
noncomputable def owT:Int:=if 0≤z∧z<((eff l r).length:Int) then owA (eff l r) z.toNat else -1
noncomputable def lkT:Int:=if 0≤z∧z<((eff l r).length:Int) then optZ (dnA (eff l r) z.toNat nm) else -1
noncomputable def pcT:Int:=optZ (prF (eff l r) nm 0)
noncomputable def plT:Bool:=if 0≤z∧z<((eff l r).length:Int) then decide ((ndA (eff l r) z).kd=3)&&plnB (eff l r) z else false
noncomputable def tpT:Int:=if 0≤z∧z<((eff l r).length:Int) then typA (eff l r) z.toNat else 0
end
section
variable {w:World} {l:List Tr.Nd} {A:Option Addr} {n:Nat}
theorem owner_any (h:TT w A n l)(c:Nat)(r z:Int):Calls Tryz.prog 38 #[.agg #[.slice A n c,.int .i64 r],.int .i64 z] w (Tr.IPost (owT l r z) w):=by
 have hb0:=heap1 w (.cells #[.slice A n c,.int .i64 r] 25)
 have HB0:=Lib.hid hb0
 have HR:=Lib.hid (read_any (h.below hb0) c r)
 obtain⟨ov,hov⟩:∃ov,owT l r z=ov:=⟨_,rfl⟩
 rw[hov]
 unfold owT at hov
 have HOV:=Lib.hid hov
 clear h hb0 hov
 generalize eff l r=L at *
 go_enter Tryz.func38,Tryz.ntmps38
 go_wp2_with (go_at_call 80;refine HR.out.mono ?_)
 rintro e w1 ⟨A1,n1,c1,O,co,bd,bp,rfl,hP,hC,hb1⟩
 unfold PrV
 have hbx:=heap1 w1 (.cells #[.slice A1 n1 c1,.slice O n1 co,.map (some bd),.map (some bp)] 83)
 have hh:=has_any (w1.alloc (.cells #[.slice A1 n1 c1,.slice O n1 co,.map (some bd),.map (some bp)] 83)) A1 O n1 bd bp c1 co z
 unfold PrV at hh
 have HX:=Lib.hid (Bx.new w1 83 [.slice A1 n1 c1,.slice O n1 co,.map (some bd),.map (some bp)])
 have HP:=Lib.hid (hP.below hbx)
 have HB1:=Lib.hid (bt (bt HB0.out hb1) hbx)
 have HL:=Lib.hid hP.len
 clear HR hP hC hb1 hbx
 by_cases hz:0≤z∧z<(L.length:Int)
 ·have hv:=HOV.out
  rw[if_pos hz]at hv
  clear HOV
  obtain⟨k,rfl⟩:∃k:Nat,z=(k:Int):=⟨z.toNat,by omega⟩
  replace hv:owA L k=ov:=hv
  subst hv
  have hk:k<n1:=by have:=HL.out;omega
  have hkz:(k:Int)<(n1:Int):=by omega
  rw[decide_eq_true hz.1,decide_eq_true hkz]at hh
  have HH:=Lib.hid (show Calls Tryz.prog 87 #[.agg #[.slice A1 n1 c1,.slice O n1 co,.map (some bd),.map (some bp)],.int .i64 (k:Int)] (w1.alloc (.cells #[.slice A1 n1 c1,.slice O n1 co,.map (some bd),.map (some bp)] 83)) (BPost true (w1.alloc (.cells #[.slice A1 n1 c1,.slice O n1 co,.map (some bd),.map (some bp)] 83)))from hh)
  clear hh hz
  go_wp2_with (go_at_call 87;refine HH.out.mono ?_)
  rintro e w2 ⟨rfl,hb2⟩
  have hX2:=HX.out.below hb2 HX.out.lt
  have q0:=(hX2.cell 0).trans rfl
  have q1:=(hX2.cell 1).trans rfl
  have q2:=(hX2.cell 2).trans rfl
  have q3:=(hX2.cell 3).trans rfl
  have HP2:=Lib.hid (HP.out.below hb2)
  have HX2:=Lib.hid hX2
  have HB2:=Lib.hid (bt HB1.out hb2)
  obtain⟨b,ob,rfl,hlt,hcell⟩:=HP.out.owner_at hb2 hk
  clear hb2 hX2
  generalize owA L k=ow at *
  go_wp2
  go_ret
  exact⟨rfl,HB2.out⟩
 ·have hv:=HOV.out
  rw[if_neg hz]at hv
  subst hv
  clear HOV
  have hf:(decide (0≤z)&&decide (z<(n1:Int)))=false:=by
   rw[HL.out,Bool.eq_false_iff]
   intro h2
   simp only[Bool.and_eq_true,decide_eq_true_eq]at h2
   exact hz h2
  rw[hf]at hh
  have HH:=Lib.hid hh
  clear hh hz hf
  go_wp2_with (go_at_call 87;refine HH.out.mono ?_)
  rintro e w2 ⟨rfl,hb2⟩
  have HB2:=Lib.hid (bt HB1.out hb2)
  clear hb2
  go_wp2
  go_ret
  exact⟨rfl,HB2.out⟩
theorem lookup_any (h:TT w A n l)(c:Nat)(r z:Int)(nm:ByteArray)(hn:nm.size≤281474976710656):Calls Tryz.prog 40 #[.agg #[.slice A n c,.int .i64 r],.int .i64 z,.string nm] w (Tr.IPost (lkT l r z nm) w):=by
 have hb0:=heap1 w (.cells #[.slice A n c,.int .i64 r] 25)
 have HB0:=Lib.hid hb0
 have HR:=Lib.hid (read_any (h.below hb0) c r)
 obtain⟨ov,hov⟩:∃ov,lkT l r z nm=ov:=⟨_,rfl⟩
 rw[hov]
 unfold lkT at hov
 have HOV:=Lib.hid hov
 clear h hb0 hov
 generalize eff l r=L at *
 go_enter Tryz.func40,Tryz.ntmps40
 go_wp2_with (go_at_call 80;refine HR.out.mono ?_)
 rintro e w1 ⟨A1,n1,c1,O,co,bd,bp,rfl,hP,hC,hb1⟩
 unfold PrV
 have hbx:=heap1 w1 (.cells #[.slice A1 n1 c1,.slice O n1 co,.map (some bd),.map (some bp)] 83)
 have hh:=has_any (w1.alloc (.cells #[.slice A1 n1 c1,.slice O n1 co,.map (some bd),.map (some bp)] 83)) A1 O n1 bd bp c1 co z
 unfold PrV at hh
 have HX:=Lib.hid (Bx.new w1 83 [.slice A1 n1 c1,.slice O n1 co,.map (some bd),.map (some bp)])
 have HP:=Lib.hid (hP.below hbx)
 have HB1:=Lib.hid (bt (bt HB0.out hb1) hbx)
 have HL:=Lib.hid hP.len
 clear HR hP hC hb1 hbx
 by_cases hz:0≤z∧z<(L.length:Int)
 ·have hv:=HOV.out
  rw[if_pos hz]at hv
  clear HOV
  obtain⟨k,rfl⟩:∃k:Nat,z=(k:Int):=⟨z.toNat,by omega⟩
  replace hv:optZ (dnA L k nm)=ov:=hv
  subst hv
  have hk:k<n1:=by have:=HL.out;omega
  have hkz:(k:Int)<(n1:Int):=by omega
  rw[decide_eq_true hz.1,decide_eq_true hkz]at hh
  have HH:=Lib.hid (show Calls Tryz.prog 87 #[.agg #[.slice A1 n1 c1,.slice O n1 co,.map (some bd),.map (some bp)],.int .i64 (k:Int)] (w1.alloc (.cells #[.slice A1 n1 c1,.slice O n1 co,.map (some bd),.map (some bp)] 83)) (BPost true (w1.alloc (.cells #[.slice A1 n1 c1,.slice O n1 co,.map (some bd),.map (some bp)] 83)))from hh)
  clear hh hz
  go_wp2_with (go_at_call 87;refine HH.out.mono ?_)
  rintro e w2 ⟨rfl,hb2⟩
  have hX2:=HX.out.below hb2 HX.out.lt
  have q0:=(hX2.cell 0).trans rfl
  have q1:=(hX2.cell 1).trans rfl
  have q2:=(hX2.cell 2).trans rfl
  have q3:=(hX2.cell 3).trans rfl
  have HP2:=Lib.hid (HP.out.below hb2)
  have HX2:=Lib.hid hX2
  have HB2:=Lib.hid (bt HB1.out hb2)
  have hq:=denoted_any HP2.out c1 co k hk nm hn
  unfold PrV at hq
  have HQ:=Lib.hid hq
  clear hb2 hX2 hq
  go_wp2_with (go_at_call 89;refine HQ.out.mono ?_)
  rintro e w3 ⟨rfl,hb3⟩
  have HB3:=Lib.hid (bt HB2.out hb3)
  clear hb3
  go_wp2
  go_ret
  exact⟨rfl,HB3.out⟩
 ·have hv:=HOV.out
  rw[if_neg hz]at hv
  subst hv
  clear HOV
  have hf:(decide (0≤z)&&decide (z<(n1:Int)))=false:=by
   rw[HL.out,Bool.eq_false_iff]
   intro h2
   simp only[Bool.and_eq_true,decide_eq_true_eq]at h2
   exact hz h2
  rw[hf]at hh
  have HH:=Lib.hid hh
  clear hh hz hf
  go_wp2_with (go_at_call 87;refine HH.out.mono ?_)
  rintro e w2 ⟨rfl,hb2⟩
  have HB2:=Lib.hid (bt HB1.out hb2)
  clear hb2
  go_wp2
  go_ret
  exact⟨rfl,HB2.out⟩
theorem type_any (h:TT w A n l)(c:Nat)(r z:Int):Calls Tryz.prog 46 #[.agg #[.slice A n c,.int .i64 r],.int .i64 z] w (Tr.IPost (tpT l r z) w):=by
 have hb0:=heap1 w (.cells #[.slice A n c,.int .i64 r] 25)
 have HB0:=Lib.hid hb0
 have HR:=Lib.hid (read_any (h.below hb0) c r)
 obtain⟨ov,hov⟩:∃ov,tpT l r z=ov:=⟨_,rfl⟩
 rw[hov]
 unfold tpT at hov
 have HOV:=Lib.hid hov
 clear h hb0 hov
 generalize eff l r=L at *
 go_enter Tryz.func46,Tryz.ntmps46
 go_wp2_with (go_at_call 80;refine HR.out.mono ?_)
 rintro e w1 ⟨A1,n1,c1,O,co,bd,bp,rfl,hP,hC,hb1⟩
 unfold PrV
 have hbx:=heap1 w1 (.cells #[.slice A1 n1 c1,.slice O n1 co,.map (some bd),.map (some bp)] 83)
 have hh:=has_any (w1.alloc (.cells #[.slice A1 n1 c1,.slice O n1 co,.map (some bd),.map (some bp)] 83)) A1 O n1 bd bp c1 co z
 unfold PrV at hh
 have HX:=Lib.hid (Bx.new w1 83 [.slice A1 n1 c1,.slice O n1 co,.map (some bd),.map (some bp)])
 have HP:=Lib.hid (hP.below hbx)
 have HB1:=Lib.hid (bt (bt HB0.out hb1) hbx)
 have HL:=Lib.hid hP.len
 clear HR hP hC hb1 hbx
 by_cases hz:0≤z∧z<(L.length:Int)
 ·have hv:=HOV.out
  rw[if_pos hz]at hv
  clear HOV
  obtain⟨k,rfl⟩:∃k:Nat,z=(k:Int):=⟨z.toNat,by omega⟩
  replace hv:typA L k=ov:=hv
  subst hv
  have hk:k<n1:=by have:=HL.out;omega
  have hkz:(k:Int)<(n1:Int):=by omega
  rw[decide_eq_true hz.1,decide_eq_true hkz]at hh
  have HH:=Lib.hid (show Calls Tryz.prog 87 #[.agg #[.slice A1 n1 c1,.slice O n1 co,.map (some bd),.map (some bp)],.int .i64 (k:Int)] (w1.alloc (.cells #[.slice A1 n1 c1,.slice O n1 co,.map (some bd),.map (some bp)] 83)) (BPost true (w1.alloc (.cells #[.slice A1 n1 c1,.slice O n1 co,.map (some bd),.map (some bp)] 83)))from hh)
  clear hh hz
  go_wp2_with (go_at_call 87;refine HH.out.mono ?_)
  rintro e w2 ⟨rfl,hb2⟩
  have hX2:=HX.out.below hb2 HX.out.lt
  have q0:=(hX2.cell 0).trans rfl
  have q1:=(hX2.cell 1).trans rfl
  have q2:=(hX2.cell 2).trans rfl
  have q3:=(hX2.cell 3).trans rfl
  have HP2:=Lib.hid (HP.out.below hb2)
  have HX2:=Lib.hid hX2
  have HB2:=Lib.hid (bt HB1.out hb2)
  have hq:=typeE_any HP2.out c1 co k hk
  unfold PrV at hq
  have HQ:=Lib.hid hq
  clear hb2 hX2 hq
  go_wp2_with (go_at_call 94;refine HQ.out.mono ?_)
  rintro e w3 ⟨rfl,hb3⟩
  have HB3:=Lib.hid (bt HB2.out hb3)
  clear hb3
  go_wp2
  go_ret
  exact⟨rfl,HB3.out⟩
 ·have hv:=HOV.out
  rw[if_neg hz]at hv
  subst hv
  clear HOV
  have hf:(decide (0≤z)&&decide (z<(n1:Int)))=false:=by
   rw[HL.out,Bool.eq_false_iff]
   intro h2
   simp only[Bool.and_eq_true,decide_eq_true_eq]at h2
   exact hz h2
  rw[hf]at hh
  have HH:=Lib.hid hh
  clear hh hz hf
  go_wp2_with (go_at_call 87;refine HH.out.mono ?_)
  rintro e w2 ⟨rfl,hb2⟩
  have HB2:=Lib.hid (bt HB1.out hb2)
  clear hb2
  go_wp2
  go_ret
  exact⟨rfl,HB2.out⟩
theorem plain_any (h:TT w A n l)(c:Nat)(r z:Int):Calls Tryz.prog 44 #[.agg #[.slice A n c,.int .i64 r],.int .i64 z] w (BPost (plT l r z) w):=by
 have hb0:=heap1 w (.cells #[.slice A n c,.int .i64 r] 25)
 have HB0:=Lib.hid hb0
 have HR:=Lib.hid (read_any (h.below hb0) c r)
 obtain⟨ov,hov⟩:∃ov,plT l r z=ov:=⟨_,rfl⟩
 rw[hov]
 unfold plT at hov
 have HOV:=Lib.hid hov
 clear h hb0 hov
 generalize eff l r=L at *
 go_enter Tryz.func44,Tryz.ntmps44
 go_wp2_with (go_at_call 80;refine HR.out.mono ?_)
 rintro e w1 ⟨A1,n1,c1,O,co,bd,bp,rfl,hP,hC,hb1⟩
 unfold PrV
 have hbx:=heap1 w1 (.cells #[.slice A1 n1 c1,.slice O n1 co,.map (some bd),.map (some bp)] 83)
 have hh:=has_any (w1.alloc (.cells #[.slice A1 n1 c1,.slice O n1 co,.map (some bd),.map (some bp)] 83)) A1 O n1 bd bp c1 co z
 unfold PrV at hh
 have HX:=Lib.hid (Bx.new w1 83 [.slice A1 n1 c1,.slice O n1 co,.map (some bd),.map (some bp)])
 have HP:=Lib.hid (hP.below hbx)
 have HB1:=Lib.hid (bt (bt HB0.out hb1) hbx)
 have HL:=Lib.hid hP.len
 clear HR hP hC hb1 hbx
 by_cases hz:0≤z∧z<(L.length:Int)
 ·have hv:=HOV.out
  rw[if_pos hz]at hv
  clear HOV
  obtain⟨k,rfl⟩:∃k:Nat,z=(k:Int):=⟨z.toNat,by omega⟩
  replace hv:(decide ((ndA L (k:Int)).kd=3)&&plnB L (k:Int))=ov:=hv
  have HV:=Lib.hid hv
  clear hv
  have hk:k<n1:=by have:=HL.out;omega
  have hkz:(k:Int)<(n1:Int):=by omega
  rw[decide_eq_true hz.1,decide_eq_true hkz]at hh
  have HH:=Lib.hid (show Calls Tryz.prog 87 #[.agg #[.slice A1 n1 c1,.slice O n1 co,.map (some bd),.map (some bp)],.int .i64 (k:Int)] (w1.alloc (.cells #[.slice A1 n1 c1,.slice O n1 co,.map (some bd),.map (some bp)] 83)) (BPost true (w1.alloc (.cells #[.slice A1 n1 c1,.slice O n1 co,.map (some bd),.map (some bp)] 83)))from hh)
  clear hh hz
  go_wp2_with (go_at_call 87;refine HH.out.mono ?_)
  rintro e w2 ⟨rfl,hb2⟩
  have hX2:=HX.out.below hb2 HX.out.lt
  have q0:=(hX2.cell 0).trans rfl
  have q1:=(hX2.cell 1).trans rfl
  have q2:=(hX2.cell 2).trans rfl
  have q3:=(hX2.cell 3).trans rfl
  have HP2:=Lib.hid (HP.out.below hb2)
  have HX2:=Lib.hid hX2
  have HB2:=Lib.hid (bt HB1.out hb2)
  have hkl:k<L.length:=by rw[← HL.out];exact hk
  obtain⟨bA,off,K,cK,rfl,xt,x0,x1,x2,x3,x4,xI⟩:=node_at HP2.out.nds (Below.refl _ w2) k hkl
  rw[← ndA_eq hkl]at x0
  by_cases h3:(ndA L k).kd=3
  ·have hq:=isPlain_any HP2.out c1 co k hk
   unfold PrV at hq
   have HQ:=Lib.hid hq
   rw[h3]at x0
   have HW:=Lib.hid (show ov=plnB L (k:Int)by rw[← HV.out,h3,decide_eq_true rfl,Bool.true_and])
   generalize plnB L (k:Int)=pb at *
   clear hb2 hX2 hq x1 x2 x3 x4 xI h3 xt hkl
   go_wp2_with (go_at_call 92;refine HQ.out.mono ?_)
   rintro e w3 ⟨rfl,hb3⟩
   have HB3:=Lib.hid (bt HB2.out hb3)
   clear hb3
   go_wp2
   go_ret
   exact⟨by rw[HW.out];try rfl,HB3.out⟩
  ·have hk3:((ndA L k).kd==3)=false:=beq_eq_false_iff_ne.2 h3
   have HW:=Lib.hid (show ov=false by rw[← HV.out,decide_eq_false h3,Bool.false_and])
   generalize (ndA L (k:Int)).kd=kd at *
   clear hb2 hX2 x1 x2 x3 x4 xI h3 xt hkl
   go_wp2
   go_ret
   exact⟨by rw[HW.out];try rfl,HB2.out⟩
 ·have hv:=HOV.out
  rw[if_neg hz]at hv
  subst hv
  clear HOV
  have hf:(decide (0≤z)&&decide (z<(n1:Int)))=false:=by
   rw[HL.out,Bool.eq_false_iff]
   intro h2
   simp only[Bool.and_eq_true,decide_eq_true_eq]at h2
   exact hz h2
  rw[hf]at hh
  have HH:=Lib.hid hh
  clear hh hz hf
  go_wp2_with (go_at_call 87;refine HH.out.mono ?_)
  rintro e w2 ⟨rfl,hb2⟩
  have HB2:=Lib.hid (bt HB1.out hb2)
  clear hb2
  go_wp2
  go_ret
  exact⟨rfl,HB2.out⟩
theorem procT_any (h:TT w A n l)(c:Nat)(r:Int)(nm:ByteArray)(hn:nm.size≤281474976710656):Calls Tryz.prog 42 #[.agg #[.slice A n c,.int .i64 r],.string nm] w (Tr.IPost (pcT l r nm) w):=by
 have hb0:=heap1 w (.cells #[.slice A n c,.int .i64 r] 25)
 have HB0:=Lib.hid hb0
 have HR:=Lib.hid (read_any (h.below hb0) c r)
 unfold pcT
 clear h hb0
 generalize eff l r=L at *
 go_enter Tryz.func42,Tryz.ntmps42
 go_wp2_with (go_at_call 80;refine HR.out.mono ?_)
 rintro e w1 ⟨A1,n1,c1,O,co,bd,bp,rfl,hP,hC,hb1⟩
 unfold PrV
 have hq:=procedure_any hP c1 co nm hn
 unfold PrV at hq
 have HQ:=Lib.hid hq
 have HB1:=Lib.hid (bt HB0.out hb1)
 clear HR hP hC hb1 hq
 go_wp2_with (go_at_call 91;refine HQ.out.mono ?_)
 rintro e w3 ⟨rfl,hb3⟩
 have HB3:=Lib.hid (bt HB1.out hb3)
 clear hb3
 go_wp2
 go_ret
 exact⟨rfl,HB3.out⟩
theorem main_any (h:TT w A n l)(c:Nat)(r:Int):Calls Tryz.prog 48 #[.agg #[.slice A n c,.int .i64 r]] w (Tr.IPost (pcT l r ⟨#[109,97,105,110]⟩) w):=by
 have hb0:=heap1 w (.cells #[.slice A n c,.int .i64 r] 25)
 have HB0:=Lib.hid hb0
 have HR:=Lib.hid (procT_any (h.below hb0) c r ⟨#[109,97,105,110]⟩ (by decide))
 clear h hb0
 generalize pcT l r ⟨#[109,97,105,110]⟩=pz at *
 go_enter Tryz.func48,Tryz.ntmps48
 go_wp2_with (go_at_call 42;refine HR.out.mono ?_)
 rintro e w1 ⟨rfl,hb1⟩
 have HB1:=Lib.hid (bt HB0.out hb1)
 clear hb1
 go_wp2
 go_ret
 exact⟨rfl,HB1.out⟩
end
end
section
open Tr (Bx heap1 bt Nds Ints VPost BPost rgB)
def GT1 (w:World)(e:Ending)(w':World):Prop:=∃A c,e = .returned (.tuple #[.agg #[.slice A 6 c,.int .i64 5],.int .i64 0,.int .i64 0])∧Below w.heap.size w w'∧NdsB w.heap.size w' A (tn1.map cvN)
theorem ttn1 {B:Nat}{w:World}{A:Option Addr}(h:NdsB B w A (tn1.map cvN)):TT w A 6 (tn1.map cvN):=⟨h.nds,rfl,by decide +kernel,by decide +kernel,by decide +kernel,λp bA off K m c hp hA hc _ h2=>by have:=h.room hp hA hc;omega⟩
def GT2 (w:World)(e:Ending)(w':World):Prop:=∃A c,e = .returned (.tuple #[.agg #[.slice A 3 c,.int .i64 2],.int .i64 0,.int .i64 0])∧Below w.heap.size w w'∧NdsB w.heap.size w' A (tn2.map cvN)
theorem ttn2 {B:Nat}{w:World}{A:Option Addr}(h:NdsB B w A (tn2.map cvN)):TT w A 3 (tn2.map cvN):=⟨h.nds,rfl,by decide +kernel,by decide +kernel,by decide +kernel,λp bA off K m c hp hA hc _ h2=>by have:=h.room hp hA hc;omega⟩
def GT3 (w:World)(e:Ending)(w':World):Prop:=∃A c,e = .returned (.tuple #[.agg #[.slice A 5 c,.int .i64 4],.int .i64 0,.int .i64 0])∧Below w.heap.size w w'∧NdsB w.heap.size w' A (tn3.map cvN)
theorem ttn3 {B:Nat}{w:World}{A:Option Addr}(h:NdsB B w A (tn3.map cvN)):TT w A 5 (tn3.map cvN):=⟨h.nds,rfl,by decide +kernel,by decide +kernel,by decide +kernel,λp bA off K m c hp hA hc _ h2=>by have:=h.room hp hA hc;omega⟩
theorem shown34_any (w:World)(hE:Tk.Errs w):Calls Tryz.prog 34 #[] w (VPost (.bool true) w):=by
 have H1:=Lib.hid (show Calls Tryz.prog 16 #[.string ⟨#[112,114,111,99,32,109,97,105,110,40,41,32,123,32,118,97,114,32,120,32,105,110,116,59,32,120,32,61,32,116,114,117,101,59,32,125]⟩] w (GT1 w) from(program_any _ w hE (by decide)).mono λ_ _ q=>tree_good q tans1.choose_spec)
 have H2:=Lib.hid (λw' (q:Below w.heap.size w w')=>show Calls Tryz.prog 16 #[.string ⟨#[112,114,111,99,32,102,40,41,32,123,32,125]⟩] w' (GT2 w') from(program_any _ w' (hE.below q) (by decide)).mono λ_ _ q=>tree_good q tans2.choose_spec)
 have H3:=Lib.hid (λw' (q:Below w.heap.size w w')=>show Calls Tryz.prog 16 #[.string ⟨#[112,114,111,99,32,109,97,105,110,40,41,32,123,32,121,32,61,32,49,59,32,125]⟩] w' (GT3 w') from(program_any _ w' (hE.below q) (by decide)).mono λ_ _ q=>tree_good q tans3.choose_spec)
 clear hE
 go_enter Tryz.func34,Tryz.ntmps34
 go_wp2_with (go_at_call 16;refine H1.out.mono ?_)
 rintro e w1 ⟨A1,c1,rfl,hb1,hN1⟩
 have HA1:=Lib.hid (bt hb1 (heap1 w1 (.cells #[.slice A1 6 c1,.int .i64 5] 25)))
 have HT1:=Lib.hid ((ttn1 hN1).below (heap1 w1 (.cells #[.slice A1 6 c1,.int .i64 5] 25)))
 have HX1:=Lib.hid (Bx.new w1 25 [.slice A1 6 c1,.int .i64 5])
 clear hb1 hN1 H1
 obtain⟨U1,hU1⟩:∃U1,w1.alloc (.cells #[.slice A1 6 c1,.int .i64 5] 25)=U1:=⟨_,rfl⟩
 rw[hU1]at HA1 HT1 HX1
 go_wp2_with (go_at_call 16;refine(H2.out _ HA1.out).mono ?_)
 rintro e w2 ⟨A2,c2,rfl,hb2,hN2⟩
 have hbx:=heap1 w2 (.cells #[.slice A2 3 c2,.int .i64 2] 25)
 have HA2:=Lib.hid (bt (bt HA1.out hb2) hbx)
 have HT2:=Lib.hid ((ttn2 hN2).below hbx)
 have HT12:=Lib.hid ((HT1.out.below hb2).below hbx)
 have HX2:=Lib.hid (Bx.new w2 25 [.slice A2 3 c2,.int .i64 2])
 have HX12:=Lib.hid ((HX1.out.below hb2 HX1.out.lt).below hbx (HX1.out.below hb2 HX1.out.lt).lt)
 clear hb2 hN2 H2 hbx HT1 HX1 hU1
 obtain⟨U2,hU2⟩:∃U2,w2.alloc (.cells #[.slice A2 3 c2,.int .i64 2] 25)=U2:=⟨_,rfl⟩
 rw[hU2]at HA2 HT2 HT12 HX2 HX12
 go_wp2_with (go_at_call 16;refine(H3.out _ HA2.out).mono ?_)
 rintro e w3 ⟨A3,c3,rfl,hb3,hN3⟩
 have hbx:=heap1 w3 (.cells #[.slice A3 5 c3,.int .i64 4] 25)
 have hb4:=bt hb3 hbx
 have HA3:=Lib.hid (bt (bt HA2.out hb3) hbx)
 have HT3:=Lib.hid ((ttn3 hN3).below hbx)
 have HT13:=Lib.hid (HT12.out.below hb4)
 have HT23:=Lib.hid (HT2.out.below hb4)
 have HX3:=Lib.hid (Bx.new w3 25 [.slice A3 5 c3,.int .i64 4])
 have HX13:=Lib.hid (HX12.out.below hb4 HX12.out.lt)
 have HX23:=Lib.hid (HX2.out.below hb4 HX2.out.lt)
 clear hb3 hN3 H3 hbx hb4 HT2 HT12 HX2 HX12 hU2
 obtain⟨U3,hU3⟩:∃U3,w3.alloc (.cells #[.slice A3 5 c3,.int .i64 4] 25)=U3:=⟨_,rfl⟩
 rw[hU3]at HA3 HT3 HT13 HT23 HX3 HX13 HX23
 have q1:∀W,Below U3.heap.size U3 W→Calls Tryz.prog 36 #[.agg #[.slice A1 6 c1,.int .i64 5]] W (VPost (.tuple #[.int .i64 2,.int .i64 5]) W):=λW hb=>by have t:=check_any (HT13.out.below hb) c1 5;rw[tchk1]at t;exact t
 have q2:∀W,Below U3.heap.size U3 W→Calls Tryz.prog 36 #[.agg #[.slice A2 3 c2,.int .i64 2]] W (VPost (.tuple #[.int .i64 2,.int .i64 11]) W):=λW hb=>by have t:=check_any (HT23.out.below hb) c2 2;rw[tchk2]at t;exact t
 have q3:∀W,Below U3.heap.size U3 W→Calls Tryz.prog 36 #[.agg #[.slice A3 5 c3,.int .i64 4]] W (VPost (.tuple #[.int .i64 1,.int .i64 3]) W):=λW hb=>by have t:=check_any (HT3.out.below hb) c3 4;rw[tchk3]at t;exact t
 have Q1:=Lib.hid q1
 have Q2:=Lib.hid q2
 have Q3:=Lib.hid q3
 have a0:=(HX13.out.cell 0).trans rfl
 have a1:=(HX13.out.cell 1).trans rfl
 clear q1 q2 q3
 go_wp2_with (go_at_call 36;refine(Q1.out _ (Below.refl _ _)).mono ?_)
 rintro e w4 ⟨rfl,hb4⟩
 have HB4:=Lib.hid hb4
 have b0:=((HX23.out.below hb4 HX23.out.lt).cell 0).trans rfl
 have b1:=((HX23.out.below hb4 HX23.out.lt).cell 1).trans rfl
 clear hb4 a0 a1
 go_wp2_with (go_at_call 36;refine(Q2.out _ HB4.out).mono ?_)
 rintro e w5 ⟨rfl,hb5⟩
 have HB5:=Lib.hid (bt HB4.out hb5)
 have d0:=((HX3.out.below HB5.out HX3.out.lt).cell 0).trans rfl
 have d1:=((HX3.out.below HB5.out HX3.out.lt).cell 1).trans rfl
 clear hb5 b0 b1
 go_wp2_with (go_at_call 36;refine(Q3.out _ HB5.out).mono ?_)
 rintro e w6 ⟨rfl,hb6⟩
 have hb:=bt HB5.out hb6
 have HB:=Lib.hid (bt HA3.out hb)
 have e0:=((HX13.out.below hb HX13.out.lt).cell 0).trans rfl
 have f1:=((HX23.out.below hb HX23.out.lt).cell 1).trans rfl
 have g0:=((HX3.out.below hb HX3.out.lt).cell 0).trans rfl
 obtain⟨bA,off,K,cK,rfl,xt,x0,_⟩:=node_at (HT13.out.below hb).nds (Below.refl _ w6) 2 (by decide)
 obtain⟨bB,offB,K2,cK2,rfl,yt,y0,_⟩:=node_at (HT3.out.below hb).nds (Below.refl _ w6) 1 (by decide)
 replace x0:w6.cell? ⟨bA,off+2*5,none⟩=some (.int .i64 7):=x0
 replace y0:w6.cell? ⟨bB,offB+5,none⟩=some (.int .i64 7):=by have:=y0;simp only[Nat.one_mul]at this;exact this
 clear hb hb6 d0 d1
 go_wp2
 go_ret
 exact⟨rfl,HB.out⟩
end
section
open Tr (Bx heap1 bt Nds Ints VPost BPost rgB)
def OkT7 (l:List Tr.Nd):Prop:=l.length≤400∧∀x ∈ l,x.ks.length≤400∧x.tx.size≤200
def SmPost7 (l:List Tr.Nd)(w:World)(e:Ending)(w':World):Prop:=Below w.heap.size w w'∧∃b,e = .returned (.bool b)∧(b=true→OkT7 l)
theorem small35t_any (A:Option Addr)(n c:Nat)(l:List Tr.Nd)(r:Int)(w:World)(hN:Nds w A l)(hn:n=l.length):Calls Tryz.prog 35 #[.agg #[.slice A n c,.int .i64 r]] w (SmPost7 l w):=by
 have hb0:=heap1 w (.cells #[.slice A n c,.int .i64 r] 25)
 have HNN:=Lib.hid (hN.below hb0)
 have HB:=Lib.hid hb0
 have HN:=Lib.hid hn
 clear hN hn hb0
 by_cases h4:(400:Int)<(n:Int)
 ·have hd4:decide ((400:Int)<(n:Int))=true:=decide_eq_true h4
  go_enter Tryz.func35,Tryz.ntmps35
  go_wp2
  go_ret
  exact⟨HB.out,false,rfl,λh=>by cases h⟩
 ·have hd4:decide ((400:Int)<(n:Int))=false:=decide_eq_false h4
  go_enter Tryz.func35,Tryz.ntmps35
  go_wp2
  go_loop [3] (λi=>∃k:Nat,k≤n∧i = .int .i64 (k:Int)∧∀x ∈ l.take k,x.ks.length≤400∧x.tx.size≤200) (λi=>n-(intOf i).toNat)
  case atStart=>exact⟨0,Nat.zero_le _,rfl,λt ht=>by simp at ht⟩
  case round=>
   obtain⟨k,hk,rfl,hok2⟩:=hrel
   have HOK2:=Lib.hid hok2
   clear hok2
   by_cases hkl:k<n
   ·have hkz:(k:Int)<(n:Int):=by omega
    have hkt:k<l.length:=by rw[← HN.out];exact hkl
    obtain⟨bN,oN,rfl,hbN,hcN⟩:=HNN.out (by omega)
    obtain⟨K2,c2,_,_,_,c3,c4,_⟩:=hcN k hkt
    have HXX:=Lib.hid (show l.take (k+1)=l.take k++[l[k]]from List.take_succ_eq_append_getElem hkt)
    clear hcN
    generalize l[k]=x at *
    obtain⟨kd,nn,pl,tx,ks⟩:=x
    dsimp only at c3 c4
    generalize hq:ks.length=q at *
    have HQ:=Lib.hid hq
    clear hq
    by_cases h1:(400:Int)<(q:Int)
    ·have hd1:decide ((400:Int)<(q:Int))=true:=decide_eq_true h1
     go_wp2
     go_ret
     exact⟨HB.out,false,rfl,λh=>by cases h⟩
    ·have hd1:decide ((400:Int)<(q:Int))=false:=decide_eq_false h1
     by_cases h2:(200:Int)<(tx.size:Int)
     ·have hd2:decide ((200:Int)<(tx.size:Int))=true:=decide_eq_true h2
      go_wp2
      go_ret
      exact⟨HB.out,false,rfl,λh=>by cases h⟩
     ·have hd2:decide ((200:Int)<(tx.size:Int))=false:=decide_eq_false h2
      go_wp2
      go_round
      case rel=>
       refine⟨k+1,by omega,by go_num,?_⟩
       rw[HXX.out]
       intro x hx
       rcases List.mem_append.1 hx with hx |hx
       ·exact HOK2.out x hx
       ·simp at hx;subst hx;exact⟨by show ks.length≤400;rw[HQ.out];omega,by show tx.size≤200;omega⟩
      case measure=>simp[intOf];omega
   ·obtain rfl:k=n:=by omega
    have hkz:¬(k:Int)<(k:Int):=by omega
    go_wp2
    go_ret
    refine⟨HB.out,true,rfl,λ_=>⟨by rw[← HN.out];omega,?_⟩⟩
    have h5:=HOK2.out
    rw[List.take_of_length_le (by rw[← HN.out];omega)]at h5
    exact h5
end
namespace Tr
section
def paL (l:List Nd)(r:Nat):Nat→Nat→Int
 |0=>λj=>if j=r then -1 else 0
 |n+1=>λj=>if (j:Int) ∈ kidsAt l n then (n:Int) else paL l r n j
def IsPost (l:List Int)(w:World)(e:Ending)(w':World):Prop:=∃A c,e = .returned (.slice A l.length c)∧Ints w' A l∧Below w.heap.size w w'
open Classical in
noncomputable def par (l:List Nd)(r:Int):List Int:=if Snd l r then (List.range l.length).map (paL l (l.length-1) l.length) else []
open Classical in
theorem par_yes {l:List Nd}{r:Int}(h:Snd l r):par l r=(List.range l.length).map (paL l (l.length-1) l.length):=if_pos h
open Classical in
theorem par_no {l:List Nd}{r:Int}(h:¬Snd l r):par l r=[]:=if_neg h
theorem stK_count {b:Nat→Nat}(k:Int):∀(ks:List Int) (s e:Nat),(∀q,q<s→b q≤q)→stK b ks s=some e→ks.count k≤1
 | [],_,_,_,_=>by simp
 |x :: ks,s,e,hb,h=>by
  unfold stK at h
  split at h
  ·cases h
  split at h
  case isFalse=>cases h
  case isTrue h0 h1=>
   have h2:=hb (s-1) (by omega)
   have hb':∀q,q<b (s-1)→b q≤q:=λq hq=>hb q (by omega)
   rw[List.count_cons]
   by_cases e1:x=k
   ·have h3:ks.count k=0:=List.count_eq_zero.2 λhm=>by
     obtain⟨m,e2,e3,_⟩:=stK_mem ks _ e hb' h k hm
     omega
    rw[h3];split<;>omega
   ·have:=stK_count k ks _ e hb' h
    have e2:(x==k)=false:=by simpa using e1
    rw[e2];simpa using this
theorem StU.count {l:List Nd}{b:Nat→Nat}{n p:Nat}(h:StU l b n)(hp:p<n){k:Int}(hk:k ∈ kidsAt l p):(kidsAt l p).count k=1:=by
 have h1:=stK_count k _ p _ (λq hq=>h.le q (by omega)) (h p hp)
 rw[List.count_reverse]at h1
 have h2:=List.count_pos_iff.2 hk
 omega
theorem StU.parent {l:List Nd}{b:Nat→Nat}{n:Nat}(h:StU l b n):∀p,p<n→∀q,b p≤q→q<p→∃m,m≤p∧(q:Int) ∈ kidsAt l m:=by
 intro p
 induction p using Nat.strongRecOn with
 |_ p ih=>
  intro hp q h1 h2
  obtain⟨m,e1,e2,e3,e4⟩:=h.inKid hp h1 h2
  by_cases e:q=m
  ·subst e;exact⟨p,Nat.le_refl _,e1⟩
  ·obtain⟨m',h3,h4⟩:=ih m e4 (by omega) q e2 (by omega)
   exact⟨m',by omega,h4⟩
theorem paL_some {l:List Nd}{r:Nat}{q:Nat}:∀ {n:Nat},(∃m,m<n∧(q:Int) ∈ kidsAt l m)→∃m:Nat,m<n∧(q:Int) ∈ kidsAt l m∧paL l r n q=(m:Int)
 |0,⟨m,hm,_⟩=>absurd hm (Nat.not_lt_zero m)
 |n+1,⟨m,hm,hk⟩=>by
  by_cases e:(q:Int) ∈ kidsAt l n
  ·exact⟨n,by omega,e,if_pos e⟩
  ·have:m≠n:=λe'=>e (e'▸hk)
   obtain⟨m',h1,h2,h3⟩:=paL_some (r:=r) (n:=n) ⟨m,by omega,hk⟩
   exact⟨m',by omega,h2,(if_neg e).trans h3⟩
theorem paL_none {l:List Nd}{r:Nat}{q:Nat}:∀ {n:Nat},(∀m,m<n→(q:Int) ∉ kidsAt l m)→paL l r n q=if q=r then -1 else 0
 |0,_=>rfl
 |n+1,h=>(if_neg (h n (by omega))).trans (paL_none λm hm=>h m (by omega))
theorem par_root {l:List Nd}{b:Nat→Nat}{n:Nat}(h:StU l b n):paL l (n-1) n (n-1) = -1:=by
 rw[paL_none λm hm hk =>?_,if_pos rfl]
 obtain⟨m',e,h1,_⟩:=h.kid hm hk
 omega
theorem par_node {l:List Nd}{b:Nat→Nat}{n i:Nat}(h:StU l b n)(h0:b (n-1)=0)(hi:i<n-1):∃m:Nat,m<n∧i<m∧paL l (n-1) n i=(m:Int)∧(kidsAt l m).count (i:Int)=1:=by
 obtain⟨m,h1,h2⟩:=h.parent (n-1) (by omega) i (by omega) hi
 obtain⟨m,h3,h4,h5⟩:=paL_some (r:=n-1) (n:=n) ⟨m,by omega,h2⟩
 obtain⟨m',e,h6,_⟩:=h.kid h3 h4
 exact⟨m,h3,by omega,h5,h.count h3 h4⟩
end
end Tr
section
open Tr (Bx heap1 bt Nds Ints VPost BPost rgB par par_yes par_root par_node paL kidsAt IsPost)
theorem par_at {l:List Tr.Nd}{r:Int}(hr:rgB l r=true):(par l r).length=l.length∧∀i (hi:i<(par l r).length),(par l r)[i]=paL l (l.length-1) l.length i:=by
 have h1:=(rg_parts hr).1
 rw[par_yes h1]
 exact⟨by simp,λi hi=>by simp⟩
theorem RtN.at3 {l:List Tr.Nd}{b:Nat→Nat}(h:RtN l b){i:Nat}(hi:i<l.length) :
  ((ndA l i).kd=3∧owA l i=(i:Int)∧i<l.length-1)∨(i=l.length-1∧(ndA l i).kd=1∧owA l i = -1) ∨
  ((ndA l i).kd≠3∧i<l.length-1∧∃m:Nat,m<l.length∧paL l (l.length-1) l.length i=(m:Int)∧owA l i=owA l m):=by
 by_cases hroot:i=l.length-1
 ·right;left
  refine⟨hroot,?_,?_⟩
  ·rw[hroot];exact h.root
  ·rw[hroot];exact h.rootow
 ·have hlt:i<l.length-1:=by omega
  by_cases h3:(ndA l i).kd=3
  ·exact Or.inl ⟨h3,owA_proc hi h3,hlt⟩
  ·right;right
   obtain⟨m,h4,_,h5,h6⟩:=par_node h.st h.zero hlt
   have h7:(i:Int) ∈ kidsAt l m:=List.count_pos_iff.1 (by omega)
   have h8:(i:Int) ∈ (ndA l m).ks:=by rw[ndA_eq h4,← Tr.kidsAt_eq h4];exact h7
   exact⟨h3,hlt,m,h4,h5,h.kid h4 h8 h3⟩
theorem dn_no {l:List Tr.Nd}{i:Nat}{nm:ByteArray}(h:owA l i = -1):dnA l i nm=none:=by unfold dnA;rw[if_pos h]
structure RT (w:World) (A:Option Addr) (n:Nat) (l:List Tr.Nd) (r:Int):Prop where
 tt:TT w A n l
 rg:rgB l r=true
theorem RT.below {w w':World}{A:Option Addr}{n:Nat}{l:List Tr.Nd}{r:Int}(h:RT w A n l r)(hb:Below w.heap.size w w'):RT w' A n l r:=⟨h.tt.below hb,h.rg⟩
theorem RT.rtn {w:World}{A:Option Addr}{n:Nat}{l:List Tr.Nd}{r:Int}(h:RT w A n l r):∃b,RtN l b:=(rtn_of h.rg).1
theorem RT.root {w:World}{A:Option Addr}{n:Nat}{l:List Tr.Nd}{r:Int}(h:RT w A n l r):r=((l.length-1:Nat):Int):=by
 obtain⟨⟨b,hb⟩,_,e⟩:=rtn_of h.rg
 have:=hb.len
 rw[e];omega
theorem RT.few {w:World}{A:Option Addr}{n:Nat}{l:List Tr.Nd}{r:Int}(h:RT w A n l r):n≤4000:=by
 have:=(rtn_of h.rg).2.1
 rw[h.tt.len];exact this
end
end Go.Proofs.YteecfjhjllajlaaGreatDoor
