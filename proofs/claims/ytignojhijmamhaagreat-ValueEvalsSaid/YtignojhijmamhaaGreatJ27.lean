/- PROVED here: parts VaJ of the claim. No condition but those in each theorem's own head. -/
import Derived.Test.YtignojhijmamhaaGreatJ26
namespace Go.Proofs.YtignojhijmamhaaGreat.Va
open Go Go.RowKit Go.Sort
set_option maxRecDepth 100000 in
theorem wrong_any {w:World}{base g:Nat}{v:Value}{vs:List Value}{L:List (List Int)}(h:Hp 40 C49 w base g v vs L)(k n j i:Int):Calls Tryz.prog 33 #[.pointer (some ⟨g,0,none⟩),.agg #[.int .i64 k,.int .i64 n],.agg #[.int .i64 j,.int .i64 i]] w (IP (wrongH L k n j i) w):=by
 have hX0:=Bx.new w 49 [.int .i64 k,.int .i64 n]
 replace hX0:=hX0.alloc (.cells #[.int .i64 j,.int .i64 i] 49)
 have hX1:=Bx.new (w.alloc (.cells #[.int .i64 k,.int .i64 n] 49)) 49 [.int .i64 j,.int .i64 i]
 simp only[World.size_alloc]at hX1
 have hb0:Below w.heap.size w ((w.alloc (.cells #[.int .i64 k,.int .i64 n] 49)).alloc (.cells #[.int .i64 j,.int .i64 i] 49)):=(heap1 _ _).alloc (by simp only[World.size_alloc];omega) _
 have hg0:=h.below hb0
 obtain⟨W0,hW0⟩:∃W0,((w.alloc (.cells #[.int .i64 k,.int .i64 n] 49)).alloc (.cells #[.int .i64 j,.int .i64 i] 49))=W0:=⟨_,rfl⟩
 have HX0:=Lib.hid (show Bx W0 (w.heap.size) 49 [.int .i64 k,.int .i64 n]by rw[← hW0];exact hX0)
 have HX1:=Lib.hid (show Bx W0 (w.heap.size+1) 49 [.int .i64 j,.int .i64 i]by rw[← hW0];exact hX1)
 rw[hW0]at hb0 hg0
 have HB0:=Lib.hid hb0
 have HG:=Lib.hid hg0
 have x00:=(HX0.out.cell 0).trans rfl
 have x01:=(HX0.out.cell 1).trans rfl
 have x10:=(HX1.out.cell 0).trans rfl
 have x11:=(HX1.out.cell 1).trans rfl
 clear hb0 hg0 hX0 hX1
 have hfew:=h.few
 clear h
 have HH:=Lib.hid (rhas_any HG.out k n)
 cases hb:hasB L k n
 ·rw[hb]at HH
  rw[show wrongH L k n j i=3 by unfold wrongH;rw[hb];rfl]
  clear hb
  go_enter Tryz.func33,Tryz.ntmps33
  go_wp2_with (go_at_call 56;refine HH.out.mono ?_;rintro e w1 ⟨rfl,hb1⟩)
  go_ret
  exact⟨rfl,bt HB0.out hb1⟩
 ·rw[hb]at HH
  have hlen:lenH L k n=((rowAt L n).length:Int):=by unfold lenH;rw[hb];rfl
  have HL:=Lib.hid (fun W (q:Below W0.heap.size W0 W)=>rlen_any (HG.out.below q) k n)
  rw[hlen]at HL
  generalize hm:(rowAt L n).length=m at *
  have HM:=Lib.hid hm
  clear hlen hm
  have hv:wrongH L k n j i=if j=1∧0≤i∧i<(m:Int) then 0 else 2:=by unfold wrongH;rw[hb,HM.out];rfl
  rw[hv]
  clear hv hb
  by_cases h1:j=1
  ·subst h1
   have b1:((1:Int) != 1)=false:=rfl
   by_cases h2:0≤i
   ·have b2:decide (i<0)=false:=decide_eq_false (by omega)
    by_cases h3:i<(m:Int)
    ·have b3:decide ((m:Int)≤i)=false:=decide_eq_false (by omega)
     rw[if_pos ⟨rfl,h2,h3⟩]
     clear h2 h3
     go_enter Tryz.func33,Tryz.ntmps33
     go_wp2_with (go_at_call 56;refine HH.out.mono ?_;rintro e w1 ⟨rfl,hb1⟩)
     have s0:=cell_regrown (((HX1.out.below hb1 HX1.out.lt).cell 0).trans rfl)
     have s1:=cell_regrown (((HX1.out.below hb1 HX1.out.lt).cell 1).trans rfl)
     have s2:=cell_regrown (((HX0.out.below hb1 HX0.out.lt).cell 0).trans rfl)
     have s3:=cell_regrown (((HX0.out.below hb1 HX0.out.lt).cell 1).trans rfl)
     have cq:∀d os,Calls Tryz.prog 44 #[.pointer (some ⟨g,0,none⟩),.agg #[.int .i64 k,.int .i64 n]] (grow (redrawn w1 d) os) fun e w''=>e = .returned (.int .i64 (m:Int))∧∃p:Regrown,w''=grow (redrawn w1 p.d) p.os:=fun d os=>Calls.regrown_of (HL.out _ (bt hb1 (below_regrown w1 d os)))
     have HB1:=Lib.hid (bt HB0.out hb1)
     clear x00 x01 x10 x11 hb1
     go_upto_region 3 with(fail)
     refine wp_region_quiet_below (by kernel_rfl) (by kernel_rfl) ?_
     repeat (first|go_big_quiet_step (first|exact cq _ _))
     refine wpQuiet_nil ?_
     intro _ hw'
     obtain⟨⟨dq,osq⟩,hw''⟩:=hw'
     subst hw''
     have hbq:=below_regrown w1 dq osq
     generalize grow (redrawn w1 dq) osq=w9 at *
     have HE:=Lib.hid (bt HB1.out hbq)
     clear hbq s0 s1 s2 s3 cq
     go_wp2
     go_ret
     exact⟨rfl,HE.out⟩
    ·have b3:decide ((m:Int)≤i)=true:=decide_eq_true (by omega)
     rw[if_neg (fun q=>h3 q.2.2)]
     clear h2 h3
     go_enter Tryz.func33,Tryz.ntmps33
     go_wp2_with (go_at_call 56;refine HH.out.mono ?_;rintro e w1 ⟨rfl,hb1⟩)
     have s0:=cell_regrown (((HX1.out.below hb1 HX1.out.lt).cell 0).trans rfl)
     have s1:=cell_regrown (((HX1.out.below hb1 HX1.out.lt).cell 1).trans rfl)
     have s2:=cell_regrown (((HX0.out.below hb1 HX0.out.lt).cell 0).trans rfl)
     have s3:=cell_regrown (((HX0.out.below hb1 HX0.out.lt).cell 1).trans rfl)
     have cq:∀d os,Calls Tryz.prog 44 #[.pointer (some ⟨g,0,none⟩),.agg #[.int .i64 k,.int .i64 n]] (grow (redrawn w1 d) os) fun e w''=>e = .returned (.int .i64 (m:Int))∧∃p:Regrown,w''=grow (redrawn w1 p.d) p.os:=fun d os=>Calls.regrown_of (HL.out _ (bt hb1 (below_regrown w1 d os)))
     have HB1:=Lib.hid (bt HB0.out hb1)
     clear x00 x01 x10 x11 hb1
     go_upto_region 3 with(fail)
     refine wp_region_quiet_below (by kernel_rfl) (by kernel_rfl) ?_
     repeat (first|go_big_quiet_step (first|exact cq _ _))
     refine wpQuiet_nil ?_
     intro _ hw'
     obtain⟨⟨dq,osq⟩,hw''⟩:=hw'
     subst hw''
     have hbq:=below_regrown w1 dq osq
     generalize grow (redrawn w1 dq) osq=w9 at *
     have HE:=Lib.hid (bt HB1.out hbq)
     clear hbq s0 s1 s2 s3 cq
     go_wp2
     go_ret
     exact⟨rfl,HE.out⟩
   ·have b2:decide (i<0)=true:=decide_eq_true (by omega)
    rw[if_neg (fun q=>h2 q.2.1)]
    clear h2
    go_enter Tryz.func33,Tryz.ntmps33
    go_wp2_with (go_at_call 56;refine HH.out.mono ?_;rintro e w1 ⟨rfl,hb1⟩)
    have s0:=cell_regrown (((HX1.out.below hb1 HX1.out.lt).cell 0).trans rfl)
    have s1:=cell_regrown (((HX1.out.below hb1 HX1.out.lt).cell 1).trans rfl)
    have s2:=cell_regrown (((HX0.out.below hb1 HX0.out.lt).cell 0).trans rfl)
    have s3:=cell_regrown (((HX0.out.below hb1 HX0.out.lt).cell 1).trans rfl)
    have cq:∀d os,Calls Tryz.prog 44 #[.pointer (some ⟨g,0,none⟩),.agg #[.int .i64 k,.int .i64 n]] (grow (redrawn w1 d) os) fun e w''=>e = .returned (.int .i64 (m:Int))∧∃p:Regrown,w''=grow (redrawn w1 p.d) p.os:=fun d os=>Calls.regrown_of (HL.out _ (bt hb1 (below_regrown w1 d os)))
    have HB1:=Lib.hid (bt HB0.out hb1)
    clear x00 x01 x10 x11 hb1
    go_upto_region 3 with(fail)
    refine wp_region_quiet_below (by kernel_rfl) (by kernel_rfl) ?_
    repeat (first|go_big_quiet_step (first|exact cq _ _))
    refine wpQuiet_nil ?_
    intro _ hw'
    obtain⟨⟨dq,osq⟩,hw''⟩:=hw'
    subst hw''
    have hbq:=below_regrown w1 dq osq
    generalize grow (redrawn w1 dq) osq=w9 at *
    have HE:=Lib.hid (bt HB1.out hbq)
    clear hbq s0 s1 s2 s3 cq
    go_wp2
    go_ret
    exact⟨rfl,HE.out⟩
  ·have b1:(j != 1)=true:=by simpa using h1
   rw[if_neg (fun q=>h1 q.1)]
   clear h1
   go_enter Tryz.func33,Tryz.ntmps33
   go_wp2_with (go_at_call 56;refine HH.out.mono ?_;rintro e w1 ⟨rfl,hb1⟩)
   have s0:=cell_regrown (((HX1.out.below hb1 HX1.out.lt).cell 0).trans rfl)
   have s1:=cell_regrown (((HX1.out.below hb1 HX1.out.lt).cell 1).trans rfl)
   have s2:=cell_regrown (((HX0.out.below hb1 HX0.out.lt).cell 0).trans rfl)
   have s3:=cell_regrown (((HX0.out.below hb1 HX0.out.lt).cell 1).trans rfl)
   have cq:∀d os,Calls Tryz.prog 44 #[.pointer (some ⟨g,0,none⟩),.agg #[.int .i64 k,.int .i64 n]] (grow (redrawn w1 d) os) fun e w''=>e = .returned (.int .i64 (m:Int))∧∃p:Regrown,w''=grow (redrawn w1 p.d) p.os:=fun d os=>Calls.regrown_of (HL.out _ (bt hb1 (below_regrown w1 d os)))
   have HB1:=Lib.hid (bt HB0.out hb1)
   clear x00 x01 x10 x11 hb1
   go_upto_region 3 with(fail)
   refine wp_region_quiet_below (by kernel_rfl) (by kernel_rfl) ?_
   repeat (first|go_big_quiet_step (first|exact cq _ _))
   refine wpQuiet_nil ?_
   intro _ hw'
   obtain⟨⟨dq,osq⟩,hw''⟩:=hw'
   subst hw''
   have hbq:=below_regrown w1 dq osq
   generalize grow (redrawn w1 dq) osq=w9 at *
   have HE:=Lib.hid (bt HB1.out hbq)
   clear hbq s0 s1 s2 s3 cq
   go_wp2
   go_ret
   exact⟨rfl,HE.out⟩
def CellP (vs:List Value)(i q:Nat)(w:World)(e:Ending)(w':World):Prop:=∃r n d,vs[i]?=some (.slice (some ⟨r,0,none⟩) n d)∧e = .returned (.tuple #[.pointer (some ⟨r,q,none⟩),.int .i64 0])∧Below w.heap.size w w'
def NoP (x:Int)(w:World)(e:Ending)(w':World):Prop:=e = .returned (.tuple #[.pointer none,.int .i64 x])∧Below w.heap.size w w'
set_option maxRecDepth 100000 in
theorem cell_no {w:World}{base g:Nat}{v:Value}{vs:List Value}{L:List (List Int)}(h:Hp 37 C46 w base g v vs L)(k n j i:Int)(hw:wrongH L k n j i≠0):Calls Tryz.prog 30 #[.pointer (some ⟨g,0,none⟩),.agg #[.int .i64 k,.int .i64 n],.agg #[.int .i64 j,.int .i64 i]] w (NoP (wrongH L k n j i) w):=by
 have hX0:=Bx.new w 43 [.int .i64 k,.int .i64 n]
 replace hX0:=hX0.alloc (.cells #[.int .i64 j,.int .i64 i] 43)
 have hX1:=Bx.new (w.alloc (.cells #[.int .i64 k,.int .i64 n] 43)) 43 [.int .i64 j,.int .i64 i]
 simp only[World.size_alloc]at hX1
 have hb0:Below w.heap.size w ((w.alloc (.cells #[.int .i64 k,.int .i64 n] 43)).alloc (.cells #[.int .i64 j,.int .i64 i] 43)):=(heap1 _ _).alloc (by simp only[World.size_alloc];omega) _
 have hg0:=h.below hb0
 obtain⟨W0,hW0⟩:∃W0,((w.alloc (.cells #[.int .i64 k,.int .i64 n] 43)).alloc (.cells #[.int .i64 j,.int .i64 i] 43))=W0:=⟨_,rfl⟩
 have HX0:=Lib.hid (show Bx W0 (w.heap.size) 43 [.int .i64 k,.int .i64 n]by rw[← hW0];exact hX0)
 have HX1:=Lib.hid (show Bx W0 (w.heap.size+1) 43 [.int .i64 j,.int .i64 i]by rw[← hW0];exact hX1)
 rw[hW0]at hb0 hg0
 have HB0:=Lib.hid hb0
 have HG:=Lib.hid hg0
 have x00:=(HX0.out.cell 0).trans rfl
 have x01:=(HX0.out.cell 1).trans rfl
 have x10:=(HX1.out.cell 0).trans rfl
 have x11:=(HX1.out.cell 1).trans rfl
 clear hb0 hg0 hX0 hX1
 have hfew:=h.few
 clear h
 have HH:=Lib.hid (has_any HG.out k n)
 cases hb:hasB L k n
 ·rw[hb]at HH
  rw[show wrongH L k n j i=3 by unfold wrongH;rw[hb];rfl]
  clear hb hw
  go_enter Tryz.func30,Tryz.ntmps30
  go_wp2_with (go_at_call 55;refine HH.out.mono ?_;rintro e w1 ⟨rfl,hb1⟩)
  go_ret2
  exact⟨rfl,bt HB0.out hb1⟩
 ·rw[hb]at HH
  have hv:wrongH L k n j i=if j=1∧0≤i∧i<((rowAt L n).length:Int) then 0 else 2:=by unfold wrongH;rw[hb];rfl
  have hno:¬(j=1∧0≤i∧i<((rowAt L n).length:Int)):=fun q=>hw (by rw[hv,if_pos q])
  rw[hv,if_neg hno]
  clear hv hw
  obtain⟨p,rfl,hp,hr⟩:=has_at hb
  rw[hr]at hno
  clear hb hr
  have HW:=Lib.hid (wrap_pred p (by omega))
  have HI:=Lib.hid hp
  have HN:=Lib.hid hno
  clear hno
  obtain⟨m,hm⟩:∃m,(L[p]'hp).length=m:=⟨_,rfl⟩
  rw[hm]at HN
  have HM:=Lib.hid hm
  clear hm
  go_enter Tryz.func30,Tryz.ntmps30
  go_wp2_with (go_at_call 55;refine HH.out.mono ?_;rintro e w1 ⟨rfl,hb1⟩)
  have hG1:=HG.out.below hb1
  obtain⟨b,c,e1,hbl,A,d,hc,-⟩:=hG1.row HI.out
  rw[HM.out]at hc
  have hg0:=(hG1.bx.cell 0).trans rfl
  rw[e1]at hg0
  have s0:=cell_regrown hg0
  have s1:=cell_regrown (((HX0.out.below hb1 HX0.out.lt).cell 1).trans rfl)
  have s2:=cell_regrown hc
  have y0:=(HX1.out.below hb1 HX1.out.lt)
  have hiz:(p:Int)<(L.length:Int):=by have:=HI.out;omega
  have HB1:=Lib.hid (bt HB0.out hb1)
  have HY:=Lib.hid y0
  clear hg0 hc hb1 hG1 e1 x00 x01 x10 x11 y0
  have hw:=HW.out
  go_upto_region 3 with(fail)
  refine wp_region_quiet_below (by kernel_rfl) (by kernel_rfl) ?_
  repeat (first|go_big_quiet_step (first|fail))
  refine wpQuiet_nil ?_
  intro _ hw'
  obtain⟨⟨dq,osq⟩,hw''⟩:=hw'
  subst hw''
  have hbq:=below_regrown w1 dq osq
  generalize grow (redrawn w1 dq) osq=w9 at *
  have HE:=Lib.hid (bt HB1.out hbq)
  have z0:=((HY.out.below hbq HY.out.lt).cell 0).trans rfl
  have z1:=((HY.out.below hbq HY.out.lt).cell 1).trans rfl
  clear hbq s0 s1 s2 hw
  by_cases h1:j=1
  ·subst h1
   by_cases h2:0≤i
   ·have b2:¬i<0:=by omega
    have b3:(m:Int)≤i:=by have:=HN.out;omega
    go_wp2
    go_ret2
    exact⟨rfl,HE.out⟩
   ·have b2:i<0:=by omega
    go_wp2
    go_ret2
    exact⟨rfl,HE.out⟩
  ·have b1:(j != 1)=true:=by simpa using h1
   go_wp2
   go_ret2
   exact⟨rfl,HE.out⟩
set_option maxRecDepth 100000 in
theorem cell_yes {w:World}{base g:Nat}{v:Value}{vs:List Value}{L:List (List Int)}(h:Hp 37 C46 w base g v vs L){p:Nat}(hp:p<L.length){q:Nat}(hq:q<L[p].length):Calls Tryz.prog 30 #[.pointer (some ⟨g,0,none⟩),.agg #[.int .i64 3,.int .i64 ((p:Int)+1)],.agg #[.int .i64 1,.int .i64 (q:Int)]] w (CellP vs p q w):=by
 have hX0:=Bx.new w 43 [.int .i64 3,.int .i64 ((p:Int)+1)]
 replace hX0:=hX0.alloc (.cells #[.int .i64 1,.int .i64 (q:Int)] 43)
 have hX1:=Bx.new (w.alloc (.cells #[.int .i64 3,.int .i64 ((p:Int)+1)] 43)) 43 [.int .i64 1,.int .i64 (q:Int)]
 simp only[World.size_alloc]at hX1
 have hb0:Below w.heap.size w ((w.alloc (.cells #[.int .i64 3,.int .i64 ((p:Int)+1)] 43)).alloc (.cells #[.int .i64 1,.int .i64 (q:Int)] 43)):=(heap1 _ _).alloc (by simp only[World.size_alloc];omega) _
 have hg0:=h.below hb0
 obtain⟨W0,hW0⟩:∃W0,((w.alloc (.cells #[.int .i64 3,.int .i64 ((p:Int)+1)] 43)).alloc (.cells #[.int .i64 1,.int .i64 (q:Int)] 43))=W0:=⟨_,rfl⟩
 have HX0:=Lib.hid (show Bx W0 (w.heap.size) 43 [.int .i64 3,.int .i64 ((p:Int)+1)]by rw[← hW0];exact hX0)
 have HX1:=Lib.hid (show Bx W0 (w.heap.size+1) 43 [.int .i64 1,.int .i64 (q:Int)]by rw[← hW0];exact hX1)
 rw[hW0]at hb0 hg0
 have HB0:=Lib.hid hb0
 have HG:=Lib.hid hg0
 have x00:=(HX0.out.cell 0).trans rfl
 have x01:=(HX0.out.cell 1).trans rfl
 have x10:=(HX1.out.cell 0).trans rfl
 have x11:=(HX1.out.cell 1).trans rfl
 clear hb0 hg0 hX0 hX1
 have hfew:=h.few
 clear h
 have HH:=Lib.hid (has_any HG.out 3 ((p:Int)+1))
 rw[show hasB L 3 ((p:Int)+1)=true by unfold hasB;simp;omega]at HH
 have HW:=Lib.hid (wrap_pred p (by omega))
 have HI:=Lib.hid hp
 obtain⟨m,hm⟩:∃m,(L[p]'hp).length=m:=⟨_,rfl⟩
 have HQ:=Lib.hid hq
 have HM:=Lib.hid hm
 have hmb:m≤262144:=by have:=cells_row hp;have:=HG.out.cap;omega
 rw[hm]at hq
 clear hm
 have hqz:(q:Int)<(m:Int):=by omega
 have b2:¬(q:Int)<0:=by omega
 have b3:¬(m:Int)≤(q:Int):=by omega
 go_enter Tryz.func30,Tryz.ntmps30
 go_wp2_with (go_at_call 55;refine HH.out.mono ?_;rintro e w1 ⟨rfl,hb1⟩)
 have hG1:=HG.out.below hb1
 obtain⟨b,c,r,d,e1,hbl,hvs,hc,-⟩:=hG1.at_ HI.out HQ.out
 rw[HM.out]at hc hvs
 have hg0:=(hG1.bx.cell 0).trans rfl
 rw[e1]at hg0
 have s0:=cell_regrown hg0
 have s1:=cell_regrown (((HX0.out.below hb1 HX0.out.lt).cell 1).trans rfl)
 have s2:=cell_regrown hc
 have HY:=Lib.hid (HX1.out.below hb1 HX1.out.lt)
 have HV:=Lib.hid hvs
 have hiz:(p:Int)<(L.length:Int):=by have:=HI.out;omega
 have HB1:=Lib.hid (bt HB0.out hb1)
 clear hg0 hc hb1 hG1 e1 x00 x01 x10 x11 hvs
 have hw:=HW.out
 go_upto_region 3 with(fail)
 refine wp_region_quiet_below (by kernel_rfl) (by kernel_rfl) ?_
 repeat (first|go_big_quiet_step (first|fail))
 refine wpQuiet_nil ?_
 intro _ hw'
 obtain⟨⟨dq,osq⟩,hw''⟩:=hw'
 subst hw''
 have hbq:=below_regrown w1 dq osq
 generalize grow (redrawn w1 dq) osq=w9 at *
 have HE:=Lib.hid (bt HB1.out hbq)
 have z0:=((HY.out.below hbq HY.out.lt).cell 0).trans rfl
 have z1:=((HY.out.below hbq HY.out.lt).cell 1).trans rfl
 clear hbq s0 s1 s2 hw
 go_wp2
 go_ret2
 exact⟨r,m,d,HV.out,rfl,HE.out⟩
end Go.Proofs.YtignojhijmamhaaGreat.Va
