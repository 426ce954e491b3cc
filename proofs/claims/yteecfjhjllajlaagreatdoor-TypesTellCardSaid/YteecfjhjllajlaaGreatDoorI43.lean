/- PROVED: Dl. No more condition. -/
import Derived.Test.YteecfjhjllajlaaGreatDoorI42
namespace Go.Proofs.YteecfjhjllajlaaGreatDoor
section
set_option maxHeartbeats 4000000
set_option maxRecDepth 100000
open Go Go.RowKit Go.Sort
open Tr (Bx heap1 bt Nds Ints VPost BPost rgB par par_yes par_root par_node paL kidsAt IsPost)
section
variable {w:World} {l:List Tr.Nd} {A:Option Addr} {n:Nat}
theorem rOwner_any (h:TT w A n l)(c:Nat)(r z:Int):Calls Tryz.prog 39 #[.agg #[.slice A n c,.int .i64 r],.int .i64 z] w (Tr.IPost (owT l r z) w):=by
 have hb0:=heap1 w (.cells #[.slice A n c,.int .i64 r] 25)
 have HX:=Lib.hid (Bx.new w 25 [.slice A n c,.int .i64 r])
 have HB0:=Lib.hid hb0
 have HT:=Lib.hid (h.below hb0)
 obtain⟨W0,hW0⟩:∃W0,w.alloc (.cells #[.slice A n c,.int .i64 r] 25)=W0:=⟨_,rfl⟩
 rw[hW0]at HX HB0 HT
 clear h hb0
 have HRG:=Lib.hid (Tr.rright_any A c n l r W0 HT.out.nds HT.out.len HT.out.kids HT.out.text)
 have a0:=(HX.out.cell 0).trans rfl
 have a1:=(HX.out.cell 1).trans rfl
 have HLN:=Lib.hid HT.out.len
 obtain⟨ov,hov⟩:∃ov,owT l r z=ov:=⟨_,rfl⟩
 rw[hov]
 have HOV:=Lib.hid hov
 clear hov
 cases hr:rgB l r with
 |false=>
  rw[hr]at HRG
  have HV:=Lib.hid (show ov = -1 by
   have:=HOV.out
   unfold owT at this
   rw[eff_no hr,if_neg (by simp)]at this
   exact this.symm)
  clear hr HOV
  go_enter Tryz.func39,Tryz.ntmps39
  go_wp2_with (go_at_call 62;refine HRG.out.mono ?_)
  rintro e w1 ⟨rfl,hb1⟩
  have HE:=Lib.hid (bt HB0.out hb1)
  have b0:=((HX.out.below hb1 HX.out.lt).cell 0).trans rfl
  clear hb1 a0 a1
  go_wp2
  go_ret
  exact⟨by rw[HV.out];try rfl,HE.out⟩
 |true=>
  rw[hr]at HRG
  have HR:=Lib.hid hr
  clear hr
  by_cases hz0:z<0
  ·have HV:=Lib.hid (show ov = -1 by
    have:=HOV.out
    unfold owT at this
    rw[eff_yes HR.out,if_neg (by omega)]at this
    exact this.symm)
   clear HOV
   go_enter Tryz.func39,Tryz.ntmps39
   go_wp2_with (go_at_call 62;refine HRG.out.mono ?_)
   rintro e w1 ⟨rfl,hb1⟩
   have HE:=Lib.hid (bt HB0.out hb1)
   have b0:=((HX.out.below hb1 HX.out.lt).cell 0).trans rfl
   clear hb1 a0 a1
   go_wp2
   go_ret
   exact⟨by rw[HV.out];try rfl,HE.out⟩
  ·obtain⟨k,rfl⟩:∃k:Nat,z=(k:Int):=⟨z.toNat,by omega⟩
   by_cases hk:k<n
   ·have hkz:¬(n:Int)≤(k:Int):=by omega
    have hkz2:(k:Int)<(n:Int):=by omega
    have HV:=Lib.hid (show ov=owA l k by
     have:=HOV.out
     unfold owT at this
     rw[eff_yes HR.out,if_pos (by have:=HLN.out;omega)]at this
     exact this.symm)
    have HCC:=Lib.hid (λW (q:Below W0.heap.size W0 W)=>rowner_any (RT.mk (HT.out.below q) HR.out) c k hk)
    clear HOV
    go_enter Tryz.func39,Tryz.ntmps39
    go_wp2_with (go_at_call 62;refine HRG.out.mono ?_)
    rintro e w1 ⟨rfl,hb1⟩
    have HB1:=Lib.hid hb1
    have b0:=((HX.out.below hb1 HX.out.lt).cell 0).trans rfl
    have b1:=((HX.out.below hb1 HX.out.lt).cell 1).trans rfl
    have HC:=Lib.hid (HCC.out _ hb1)
    clear hb1 a0 a1
    go_wp2_with (go_at_call 88;refine HC.out.mono ?_)
    rintro e w2 ⟨rfl,hb2⟩
    have HE:=Lib.hid (bt HB0.out (bt HB1.out hb2))
    clear hb2
    go_wp2
    go_ret
    exact⟨by rw[HV.out];try rfl,HE.out⟩
   ·have hkz:(n:Int)≤(k:Int):=by omega
    have HV:=Lib.hid (show ov = -1 by
     have:=HOV.out
     unfold owT at this
     rw[eff_yes HR.out,if_neg (by have:=HLN.out;omega)]at this
     exact this.symm)
    clear HOV
    go_enter Tryz.func39,Tryz.ntmps39
    go_wp2_with (go_at_call 62;refine HRG.out.mono ?_)
    rintro e w1 ⟨rfl,hb1⟩
    have HE:=Lib.hid (bt HB0.out hb1)
    have b0:=((HX.out.below hb1 HX.out.lt).cell 0).trans rfl
    clear hb1 a0 a1
    go_wp2
    go_ret
    exact⟨by rw[HV.out];try rfl,HE.out⟩
theorem rLookup_any (h:TT w A n l)(c:Nat)(r z:Int)(nm:ByteArray):Calls Tryz.prog 41 #[.agg #[.slice A n c,.int .i64 r],.int .i64 z,.string nm] w (Tr.IPost (lkT l r z nm) w):=by
 have hb0:=heap1 w (.cells #[.slice A n c,.int .i64 r] 25)
 have HX:=Lib.hid (Bx.new w 25 [.slice A n c,.int .i64 r])
 have HB0:=Lib.hid hb0
 have HT:=Lib.hid (h.below hb0)
 obtain⟨W0,hW0⟩:∃W0,w.alloc (.cells #[.slice A n c,.int .i64 r] 25)=W0:=⟨_,rfl⟩
 rw[hW0]at HX HB0 HT
 clear h hb0
 have HRG:=Lib.hid (Tr.rright_any A c n l r W0 HT.out.nds HT.out.len HT.out.kids HT.out.text)
 have a0:=(HX.out.cell 0).trans rfl
 have a1:=(HX.out.cell 1).trans rfl
 have HLN:=Lib.hid HT.out.len
 obtain⟨ov,hov⟩:∃ov,lkT l r z nm=ov:=⟨_,rfl⟩
 rw[hov]
 have HOV:=Lib.hid hov
 clear hov
 cases hr:rgB l r with
 |false=>
  rw[hr]at HRG
  have HV:=Lib.hid (show ov = -1 by
   have:=HOV.out
   unfold lkT at this
   rw[eff_no hr,if_neg (by simp)]at this
   exact this.symm)
  clear hr HOV
  go_enter Tryz.func41,Tryz.ntmps41
  go_wp2_with (go_at_call 62;refine HRG.out.mono ?_)
  rintro e w1 ⟨rfl,hb1⟩
  have HE:=Lib.hid (bt HB0.out hb1)
  have b0:=((HX.out.below hb1 HX.out.lt).cell 0).trans rfl
  clear hb1 a0 a1
  go_wp2
  go_ret
  exact⟨by rw[HV.out];try rfl,HE.out⟩
 |true=>
  rw[hr]at HRG
  have HR:=Lib.hid hr
  clear hr
  by_cases hz0:z<0
  ·have HV:=Lib.hid (show ov = -1 by
    have:=HOV.out
    unfold lkT at this
    rw[eff_yes HR.out,if_neg (by omega)]at this
    exact this.symm)
   clear HOV
   go_enter Tryz.func41,Tryz.ntmps41
   go_wp2_with (go_at_call 62;refine HRG.out.mono ?_)
   rintro e w1 ⟨rfl,hb1⟩
   have HE:=Lib.hid (bt HB0.out hb1)
   have b0:=((HX.out.below hb1 HX.out.lt).cell 0).trans rfl
   clear hb1 a0 a1
   go_wp2
   go_ret
   exact⟨by rw[HV.out];try rfl,HE.out⟩
  ·obtain⟨k,rfl⟩:∃k:Nat,z=(k:Int):=⟨z.toNat,by omega⟩
   by_cases hk:k<n
   ·have hkz:¬(n:Int)≤(k:Int):=by omega
    have hkz2:(k:Int)<(n:Int):=by omega
    have HV:=Lib.hid (show ov=optZ (dnA l k nm) by
     have:=HOV.out
     unfold lkT at this
     rw[eff_yes HR.out,if_pos (by have:=HLN.out;omega)]at this
     exact this.symm)
    have HCC:=Lib.hid (λW (q:Below W0.heap.size W0 W)=>means_any (RT.mk (HT.out.below q) HR.out) c k nm hk)
    clear HOV
    go_enter Tryz.func41,Tryz.ntmps41
    go_wp2_with (go_at_call 62;refine HRG.out.mono ?_)
    rintro e w1 ⟨rfl,hb1⟩
    have HB1:=Lib.hid hb1
    have b0:=((HX.out.below hb1 HX.out.lt).cell 0).trans rfl
    have b1:=((HX.out.below hb1 HX.out.lt).cell 1).trans rfl
    have HC:=Lib.hid (HCC.out _ hb1)
    clear hb1 a0 a1
    go_wp2_with (go_at_call 90;refine HC.out.mono ?_)
    rintro e w2 ⟨rfl,hb2⟩
    have HE:=Lib.hid (bt HB0.out (bt HB1.out hb2))
    clear hb2
    go_wp2
    go_ret
    exact⟨by rw[HV.out];try rfl,HE.out⟩
   ·have hkz:(n:Int)≤(k:Int):=by omega
    have HV:=Lib.hid (show ov = -1 by
     have:=HOV.out
     unfold lkT at this
     rw[eff_yes HR.out,if_neg (by have:=HLN.out;omega)]at this
     exact this.symm)
    clear HOV
    go_enter Tryz.func41,Tryz.ntmps41
    go_wp2_with (go_at_call 62;refine HRG.out.mono ?_)
    rintro e w1 ⟨rfl,hb1⟩
    have HE:=Lib.hid (bt HB0.out hb1)
    have b0:=((HX.out.below hb1 HX.out.lt).cell 0).trans rfl
    clear hb1 a0 a1
    go_wp2
    go_ret
    exact⟨by rw[HV.out];try rfl,HE.out⟩
theorem rType_any (h:TT w A n l)(c:Nat)(r z:Int):Calls Tryz.prog 47 #[.agg #[.slice A n c,.int .i64 r],.int .i64 z] w (Tr.IPost (tpT l r z) w):=by
 have hb0:=heap1 w (.cells #[.slice A n c,.int .i64 r] 25)
 have HX:=Lib.hid (Bx.new w 25 [.slice A n c,.int .i64 r])
 have HB0:=Lib.hid hb0
 have HT:=Lib.hid (h.below hb0)
 obtain⟨W0,hW0⟩:∃W0,w.alloc (.cells #[.slice A n c,.int .i64 r] 25)=W0:=⟨_,rfl⟩
 rw[hW0]at HX HB0 HT
 clear h hb0
 have HRG:=Lib.hid (Tr.rright_any A c n l r W0 HT.out.nds HT.out.len HT.out.kids HT.out.text)
 have a0:=(HX.out.cell 0).trans rfl
 have a1:=(HX.out.cell 1).trans rfl
 have HLN:=Lib.hid HT.out.len
 obtain⟨ov,hov⟩:∃ov,tpT l r z=ov:=⟨_,rfl⟩
 rw[hov]
 have HOV:=Lib.hid hov
 clear hov
 cases hr:rgB l r with
 |false=>
  rw[hr]at HRG
  have HV:=Lib.hid (show ov=0 by
   have:=HOV.out
   unfold tpT at this
   rw[eff_no hr,if_neg (by simp)]at this
   exact this.symm)
  clear hr HOV
  go_enter Tryz.func47,Tryz.ntmps47
  go_wp2_with (go_at_call 62;refine HRG.out.mono ?_)
  rintro e w1 ⟨rfl,hb1⟩
  have HE:=Lib.hid (bt HB0.out hb1)
  have b0:=((HX.out.below hb1 HX.out.lt).cell 0).trans rfl
  clear hb1 a0 a1
  go_wp2
  go_ret
  exact⟨by rw[HV.out];try rfl,HE.out⟩
 |true=>
  rw[hr]at HRG
  have HR:=Lib.hid hr
  clear hr
  by_cases hz0:z<0
  ·have HV:=Lib.hid (show ov=0 by
    have:=HOV.out
    unfold tpT at this
    rw[eff_yes HR.out,if_neg (by omega)]at this
    exact this.symm)
   clear HOV
   go_enter Tryz.func47,Tryz.ntmps47
   go_wp2_with (go_at_call 62;refine HRG.out.mono ?_)
   rintro e w1 ⟨rfl,hb1⟩
   have HE:=Lib.hid (bt HB0.out hb1)
   have b0:=((HX.out.below hb1 HX.out.lt).cell 0).trans rfl
   clear hb1 a0 a1
   go_wp2
   go_ret
   exact⟨by rw[HV.out];try rfl,HE.out⟩
  ·obtain⟨k,rfl⟩:∃k:Nat,z=(k:Int):=⟨z.toNat,by omega⟩
   by_cases hk:k<n
   ·have hkz:¬(n:Int)≤(k:Int):=by omega
    have hkz2:(k:Int)<(n:Int):=by omega
    have HV:=Lib.hid (show ov=typA l k by
     have:=HOV.out
     unfold tpT at this
     rw[eff_yes HR.out,if_pos (by have:=HLN.out;omega)]at this
     exact this.symm)
    have HCC:=Lib.hid (λW (q:Below W0.heap.size W0 W)=>typed_any (RT.mk (HT.out.below q) HR.out) c k hk)
    clear HOV
    go_enter Tryz.func47,Tryz.ntmps47
    go_wp2_with (go_at_call 62;refine HRG.out.mono ?_)
    rintro e w1 ⟨rfl,hb1⟩
    have HB1:=Lib.hid hb1
    have b0:=((HX.out.below hb1 HX.out.lt).cell 0).trans rfl
    have b1:=((HX.out.below hb1 HX.out.lt).cell 1).trans rfl
    have HC:=Lib.hid (HCC.out _ hb1)
    clear hb1 a0 a1
    go_wp2_with (go_at_call 95;refine HC.out.mono ?_)
    rintro e w2 ⟨rfl,hb2⟩
    have HE:=Lib.hid (bt HB0.out (bt HB1.out hb2))
    clear hb2
    go_wp2
    go_ret
    exact⟨by rw[HV.out];try rfl,HE.out⟩
   ·have hkz:(n:Int)≤(k:Int):=by omega
    have HV:=Lib.hid (show ov=0 by
     have:=HOV.out
     unfold tpT at this
     rw[eff_yes HR.out,if_neg (by have:=HLN.out;omega)]at this
     exact this.symm)
    clear HOV
    go_enter Tryz.func47,Tryz.ntmps47
    go_wp2_with (go_at_call 62;refine HRG.out.mono ?_)
    rintro e w1 ⟨rfl,hb1⟩
    have HE:=Lib.hid (bt HB0.out hb1)
    have b0:=((HX.out.below hb1 HX.out.lt).cell 0).trans rfl
    clear hb1 a0 a1
    go_wp2
    go_ret
    exact⟨by rw[HV.out];try rfl,HE.out⟩
theorem rProc_any (h:TT w A n l)(c:Nat)(r:Int)(nm:ByteArray):Calls Tryz.prog 43 #[.agg #[.slice A n c,.int .i64 r],.string nm] w (Tr.IPost (pcT l r nm) w):=by
 have hb0:=heap1 w (.cells #[.slice A n c,.int .i64 r] 25)
 have HX:=Lib.hid (Bx.new w 25 [.slice A n c,.int .i64 r])
 have HB0:=Lib.hid hb0
 have HT:=Lib.hid (h.below hb0)
 obtain⟨W0,hW0⟩:∃W0,w.alloc (.cells #[.slice A n c,.int .i64 r] 25)=W0:=⟨_,rfl⟩
 rw[hW0]at HX HB0 HT
 clear h hb0
 have HRG:=Lib.hid (Tr.rright_any A c n l r W0 HT.out.nds HT.out.len HT.out.kids HT.out.text)
 have a0:=(HX.out.cell 0).trans rfl
 have a1:=(HX.out.cell 1).trans rfl
 have HLN:=Lib.hid HT.out.len
 obtain⟨ov,hov⟩:∃ov,pcT l r nm=ov:=⟨_,rfl⟩
 rw[hov]
 have HOV:=Lib.hid hov
 clear hov
 cases hr:rgB l r with
 |false=>
  rw[hr]at HRG
  have HV:=Lib.hid (show ov = -1 by
   have:=HOV.out
   unfold pcT at this
   rw[eff_no hr]at this
   exact this.symm)
  clear hr HOV
  go_enter Tryz.func43,Tryz.ntmps43
  go_wp2_with (go_at_call 62;refine HRG.out.mono ?_)
  rintro e w1 ⟨rfl,hb1⟩
  have HE:=Lib.hid (bt HB0.out hb1)
  have b0:=((HX.out.below hb1 HX.out.lt).cell 0).trans rfl
  clear hb1 a0 a1
  go_wp2
  go_ret
  exact⟨by rw[HV.out];try rfl,HE.out⟩
 |true=>
  rw[hr]at HRG
  have HR:=Lib.hid hr
  have HRT:=Lib.hid (show RT W0 A n l r from RT.mk HT.out hr)
  clear hr
  obtain⟨b,hRT⟩:=HRT.out.rtn
  have hroot:=HRT.out.root
  have hrl:l.length-1<n:=by have:=hRT.len;rw[HLN.out];omega
  have hof:=λW (q:Below W0.heap.size W0 W)=>of_any (HRT.out.below q) c (l.length-1) hrl 3 3 nm
  rw[hRT.of33,← hroot]at hof
  have HCC:=Lib.hid hof
  have HV:=Lib.hid (show ov=optZ (prF l nm 0) by
   have:=HOV.out
   unfold pcT at this
   rw[eff_yes HR.out]at this
   exact this.symm)
  clear HOV hof hroot hrl hRT
  go_enter Tryz.func43,Tryz.ntmps43
  go_wp2_with (go_at_call 62;refine HRG.out.mono ?_)
  rintro e w1 ⟨rfl,hb1⟩
  have HB1:=Lib.hid hb1
  have b0:=((HX.out.below hb1 HX.out.lt).cell 0).trans rfl
  have b1:=((HX.out.below hb1 HX.out.lt).cell 1).trans rfl
  have HC:=Lib.hid (HCC.out _ hb1)
  clear hb1 a0 a1
  go_wp2_with (go_at_call 85;refine HC.out.mono ?_)
  rintro e w2 ⟨rfl,hb2⟩
  have HE:=Lib.hid (bt HB0.out (bt HB1.out hb2))
  clear hb2
  go_wp2
  go_ret
  exact⟨by rw[HV.out];try rfl,HE.out⟩
theorem rMain_any (h:TT w A n l)(c:Nat)(r:Int):Calls Tryz.prog 49 #[.agg #[.slice A n c,.int .i64 r]] w (Tr.IPost (pcT l r ⟨#[109,97,105,110]⟩) w):=by
 have hb0:=heap1 w (.cells #[.slice A n c,.int .i64 r] 25)
 have HB0:=Lib.hid hb0
 have HR:=Lib.hid (rProc_any (h.below hb0) c r ⟨#[109,97,105,110]⟩)
 clear h hb0
 generalize pcT l r ⟨#[109,97,105,110]⟩=pz at *
 go_enter Tryz.func49,Tryz.ntmps49
 go_wp2_with (go_at_call 43;refine HR.out.mono ?_)
 rintro e w1 ⟨rfl,hb1⟩
 have HB1:=Lib.hid (bt HB0.out hb1)
 clear hb1
 go_wp2
 go_ret
 exact⟨rfl,HB1.out⟩
theorem rPlain_any (h:TT w A n l)(c:Nat)(r z:Int):Calls Tryz.prog 45 #[.agg #[.slice A n c,.int .i64 r],.int .i64 z] w (BPost (plT l r z) w):=by
 have hb0:=heap1 w (.cells #[.slice A n c,.int .i64 r] 25)
 have HX:=Lib.hid (Bx.new w 25 [.slice A n c,.int .i64 r])
 have HB0:=Lib.hid hb0
 have HT:=Lib.hid (h.below hb0)
 obtain⟨W0,hW0⟩:∃W0,w.alloc (.cells #[.slice A n c,.int .i64 r] 25)=W0:=⟨_,rfl⟩
 rw[hW0]at HX HB0 HT
 clear h hb0
 have HRG:=Lib.hid (Tr.rright_any A c n l r W0 HT.out.nds HT.out.len HT.out.kids HT.out.text)
 have a0:=(HX.out.cell 0).trans rfl
 have a1:=(HX.out.cell 1).trans rfl
 have HLN:=Lib.hid HT.out.len
 obtain⟨ov,hov⟩:∃ov,plT l r z=ov:=⟨_,rfl⟩
 rw[hov]
 have HOV:=Lib.hid hov
 clear hov
 cases hr:rgB l r with
 |false=>
  rw[hr]at HRG
  have HV:=Lib.hid (show ov=false by
   have:=HOV.out
   unfold plT at this
   rw[eff_no hr,if_neg (by simp)]at this
   exact this.symm)
  clear hr HOV
  go_enter Tryz.func45,Tryz.ntmps45
  go_wp2_with (go_at_call 62;refine HRG.out.mono ?_)
  rintro e w1 ⟨rfl,hb1⟩
  have HE:=Lib.hid (bt HB0.out hb1)
  have b0:=((HX.out.below hb1 HX.out.lt).cell 0).trans rfl
  clear hb1 a0 a1
  go_wp2
  go_ret
  exact⟨by rw[HV.out];try rfl,HE.out⟩
 |true=>
  rw[hr]at HRG
  have HR:=Lib.hid hr
  clear hr
  by_cases hz0:z<0
  ·have HV:=Lib.hid (show ov=false by
    have:=HOV.out
    unfold plT at this
    rw[eff_yes HR.out,if_neg (by omega)]at this
    exact this.symm)
   clear HOV
   go_enter Tryz.func45,Tryz.ntmps45
   go_wp2_with (go_at_call 62;refine HRG.out.mono ?_)
   rintro e w1 ⟨rfl,hb1⟩
   have HE:=Lib.hid (bt HB0.out hb1)
   have b0:=((HX.out.below hb1 HX.out.lt).cell 0).trans rfl
   clear hb1 a0 a1
   go_wp2
   go_ret
   exact⟨by rw[HV.out];try rfl,HE.out⟩
  ·obtain⟨k,rfl⟩:∃k:Nat,z=(k:Int):=⟨z.toNat,by omega⟩
   by_cases hk:k<n
   ·have hkz:¬(n:Int)≤(k:Int):=by omega
    have hkz2:(k:Int)<(n:Int):=by omega
    have HV0:=Lib.hid (show ov=(decide ((ndA l (k:Int)).kd=3)&&plnB l (k:Int)) by
     have:=HOV.out
     unfold plT at this
     rw[eff_yes HR.out,if_pos (by have:=HLN.out;omega)]at this
     exact this.symm)
    have HCC:=Lib.hid (λW (q:Below W0.heap.size W0 W)=>rplain_any (RT.mk (HT.out.below q) HR.out) c k hk)
    have HND:=Lib.hid (λW (q:Below W0.heap.size W0 W)=>RT.node (RT.mk (HT.out.below q) HR.out) hk)
    clear HOV
    by_cases h3:(ndA l (k:Int)).kd=3
    ·have HV:=Lib.hid (show ov=plnB l (k:Int)by rw[HV0.out,decide_eq_true h3,Bool.true_and])
     have H3:=Lib.hid h3
     clear h3 HV0
     go_enter Tryz.func45,Tryz.ntmps45
     go_wp2_with (go_at_call 62;refine HRG.out.mono ?_)
     rintro e w1 ⟨rfl,hb1⟩
     have HB1:=Lib.hid hb1
     have b0:=((HX.out.below hb1 HX.out.lt).cell 0).trans rfl
     have b1:=((HX.out.below hb1 HX.out.lt).cell 1).trans rfl
     have HC:=Lib.hid (HCC.out _ hb1)
     obtain⟨bA,off,_,_,e3,_,x0,_⟩:=HND.out _ hb1
     subst e3
     rw[H3.out]at x0
     clear hb1 a0 a1
     go_wp2_with (go_at_call 93;refine HC.out.mono ?_)
     rintro e w2 ⟨rfl,hb2⟩
     have HE:=Lib.hid (bt HB0.out (bt HB1.out hb2))
     clear hb2
     go_wp2
     go_ret
     exact⟨by rw[HV.out];try rfl,HE.out⟩
    ·have HV:=Lib.hid (show ov=false by rw[HV0.out,decide_eq_false h3,Bool.false_and])
     have h4:((ndA l (k:Int)).kd != 3)=true:=by simp[h3]
     clear h3 HV0
     go_enter Tryz.func45,Tryz.ntmps45
     go_wp2_with (go_at_call 62;refine HRG.out.mono ?_)
     rintro e w1 ⟨rfl,hb1⟩
     have HE:=Lib.hid (bt HB0.out hb1)
     have b0:=((HX.out.below hb1 HX.out.lt).cell 0).trans rfl
     obtain⟨bA,off,_,_,e3,_,x0,_⟩:=HND.out _ hb1
     subst e3
     clear hb1 a0 a1
     generalize (ndA l (k:Int)).kd=kd at *
     go_wp2
     go_ret
     exact⟨by rw[HV.out];try rfl,HE.out⟩
   ·have hkz:(n:Int)≤(k:Int):=by omega
    have HV:=Lib.hid (show ov=false by
     have:=HOV.out
     unfold plT at this
     rw[eff_yes HR.out,if_neg (by have:=HLN.out;omega)]at this
     exact this.symm)
    clear HOV
    go_enter Tryz.func45,Tryz.ntmps45
    go_wp2_with (go_at_call 62;refine HRG.out.mono ?_)
    rintro e w1 ⟨rfl,hb1⟩
    have HE:=Lib.hid (bt HB0.out hb1)
    have b0:=((HX.out.below hb1 HX.out.lt).cell 0).trans rfl
    clear hb1 a0 a1
    go_wp2
    go_ret
    exact⟨by rw[HV.out];try rfl,HE.out⟩
end
end
end Go.Proofs.YteecfjhjllajlaaGreatDoor
