/- PROVED here: parts VaK VaL of the claim. No condition but those in each theorem's own head. -/
import Derived.Test.YtignojhijmamhaaGreatJ27
import Derived.Lib.SmallJoins
namespace Go.Proofs.YtignojhijmamhaaGreat.Va
open Go Go.RowKit Go.Sort
theorem get_yes {L:List (List Int)}{k n j i:Int}(h:wrongH L k n j i=0):∃p q:Nat,k=3∧n=(p:Int)+1∧j=1∧i=(q:Int)∧∃(hp:p<L.length) (hq:q<(L[p]'hp).length),getV L k n j i=((1,(L[p]'hp)[q]'hq),0)∧∀x,setH L k n j i 1 x=L.set p ((L[p]'hp).set q x):=by
 obtain⟨hb,h1,h2,h3⟩:=wrong_zero h
 obtain⟨p,hn,hp,hr⟩:=has_at hb
 obtain⟨q,hq⟩:∃q:Nat,i=(q:Int):=⟨i.toNat,by omega⟩
 subst hq hn
 have hk:=(has_yes hb).1
 rw[hr]at h3
 refine⟨p,q,hk,rfl,h1,rfl,hp,by omega,?_,fun x =>?_⟩
 ·unfold getV
  rw[if_pos h,hr,List.getD_eq_getElem?_getD,List.getElem?_eq_getElem (show((q:Nat):Int).toNat<L[p].length by omega)]
  rfl
 ·unfold setH
  rw[if_pos ⟨h,rfl⟩,hr]
  rw[show((p:Int)+1-1).toNat=p by omega]
  rfl
theorem wrap_self (i:Nat)(h:i<4000000):IntKind.i64.wrap (i:Int)=(i:Int):=IntWalk.i64_in _ (by omega)
def SetP (T:TypeId)(C:List (List Int)→List Value)(base g:Nat)(v:Value)(vs:List Value)(L:List (List Int))(x:Int)(w:World)(e:Ending)(w':World):Prop:=e = .returned (.int .i64 x)∧Hp T C w' base g v vs L∧Fr (Fp g v vs) w w'
theorem frT {w w1:World}{g:Nat}{v:Value}{vs:List Value}(h:Below w.heap.size w w1){w2:World}(k:Fr (Fp g v vs) w1 w2):Fr (Fp g v vs) w w2:=(Fr.of_below (F:=Fp g v vs) h).trans k fun _ hx =>.inl hx
set_option maxRecDepth 100000 in
set_option maxHeartbeats 1000000 in
theorem get_any {w:World}{base g:Nat}{v:Value}{vs:List Value}{L:List (List Int)}(h:Hp 37 C46 w base g v vs L)(k n j i:Int):Calls Tryz.prog 14 #[.pointer (some ⟨g,0,none⟩),.agg #[.int .i64 k,.int .i64 n],.agg #[.int .i64 j,.int .i64 i]] w (VI (getV L k n j i).1.1 (getV L k n j i).1.2 (getV L k n j i).2 w):=by
 have hX0:=Bx.new w 43 [.int .i64 k,.int .i64 n]
 replace hX0:=hX0.alloc (.cells #[.int .i64 j,.int .i64 i] 43)
 replace hX0:=hX0.alloc (.cells #[.int .i64 0,.int .i64 0] 43)
 have hX1:=Bx.new (w.alloc (.cells #[.int .i64 k,.int .i64 n] 43)) 43 [.int .i64 j,.int .i64 i]
 simp only[World.size_alloc]at hX1
 replace hX1:=hX1.alloc (.cells #[.int .i64 0,.int .i64 0] 43)
 have hX2:=Bx.new ((w.alloc (.cells #[.int .i64 k,.int .i64 n] 43)).alloc (.cells #[.int .i64 j,.int .i64 i] 43)) 43 [.int .i64 0,.int .i64 0]
 simp only[World.size_alloc]at hX2
 have hb0:Below w.heap.size w (((w.alloc (.cells #[.int .i64 k,.int .i64 n] 43)).alloc (.cells #[.int .i64 j,.int .i64 i] 43)).alloc (.cells #[.int .i64 0,.int .i64 0] 43)):=((heap1 _ _).alloc (by simp only[World.size_alloc];omega) _).alloc (by simp only[World.size_alloc];omega) _
 have hg0:=h.below hb0
 obtain⟨W0,hW0⟩:∃W0,(((w.alloc (.cells #[.int .i64 k,.int .i64 n] 43)).alloc (.cells #[.int .i64 j,.int .i64 i] 43)).alloc (.cells #[.int .i64 0,.int .i64 0] 43))=W0:=⟨_,rfl⟩
 have HX0:=Lib.hid (show Bx W0 (w.heap.size) 43 [.int .i64 k,.int .i64 n]by rw[← hW0];exact hX0)
 have HX1:=Lib.hid (show Bx W0 (w.heap.size+1) 43 [.int .i64 j,.int .i64 i]by rw[← hW0];exact hX1)
 have HX2:=Lib.hid (show Bx W0 (w.heap.size+1+1) 43 [.int .i64 0,.int .i64 0]by rw[← hW0];exact hX2)
 rw[hW0]at hb0 hg0
 have HB0:=Lib.hid hb0
 have HG:=Lib.hid hg0
 have x00:=(HX0.out.cell 0).trans rfl
 have x01:=(HX0.out.cell 1).trans rfl
 have x10:=(HX1.out.cell 0).trans rfl
 have x11:=(HX1.out.cell 1).trans rfl
 have x20:=(HX2.out.cell 0).trans rfl
 have x21:=(HX2.out.cell 1).trans rfl
 clear hb0 hg0 hX0 hX1 hX2
 clear h
 have hfew:=HG.out.few
 by_cases hw:wrongH L k n j i=0
 ·obtain⟨p,q,rfl,rfl,rfl,rfl,hp,hq,hv,-⟩:=get_yes hw
  rw[hv]
  have HV:=Lib.hid hp
  have HQ:=Lib.hid hq
  have HC:=Lib.hid (cell_yes HG.out hp hq)
  have HN:=Lib.hid (fun W=>number_any (L[p]'hp)[q] W)
  have HM:=Lib.hid (fun(r n d:Nat) (W:World) (hb:Below W0.heap.size W0 W) (e:vs[p]?=some (.slice (some ⟨r,0,none⟩) n d))=>show W.cell? ⟨r,q,none⟩=some (.int .i64 (L[p]'hp)[q])from by
   obtain⟨_,_,r2,d2,_,_,hv2,_,_,hc2,_⟩:=(HG.out.below hb).at_ hp hq
   rw[e]at hv2
   injection hv2 with hv2
   injection hv2 with h1 _ _
   injection h1 with h1
   injection h1 with h1
   rw[h1];exact hc2)
  generalize (L[p]'hp)[q]=z at *
  clear hw hv
  go_enter Tryz.func14,Tryz.ntmps14
  go_wp2_with (go_at_call 30;refine HC.out.mono ?_)
  rintro e w1 ⟨r,nn,d,hr,rfl,hb1⟩
  have hcz:=HM.out r nn d w1 hb1 hr
  have hR:=HX2.out.below hb1 HX2.out.lt
  have c0:=(hR.cell 0).trans rfl
  have c1:=(hR.cell 1).trans rfl
  have g0:=hR.frozen 0
  have g1:=hR.frozen 1
  have hz:=hR.lt
  have HB1:=Lib.hid (bt HB0.out hb1)
  clear hr hb1 hR x00 x01 x10 x11 x20 x21
  go_wp2_with (go_at_call 31;refine(HN.out _).mono ?_;rintro e w' ⟨rfl,rfl⟩)
  exact bodyPost_ret (v :=.tuple #[.agg #[.int .i64 1,.int .i64 z],.int .i64 0]) (by simp[results,Tryz.results14,go_sem,c0,c1,hz]) rfl ⟨rfl,(below2 HB1.out (by omega)).alloc (by have:=HB1.out.size;simpa using this) _⟩
 ·rw[show getV L k n j i=((0,0),wrongH L k n j i)by unfold getV;rw[if_neg hw]]
  have hw2:(wrongH L k n j i != 0)=true:=by simpa using hw
  have HC:=Lib.hid (cell_no HG.out k n j i hw)
  generalize wrongH L k n j i=x at *
  clear hw
  go_enter Tryz.func14,Tryz.ntmps14
  go_wp2_with (go_at_call 30;refine HC.out.mono ?_)
  rintro e w1 ⟨rfl,hb1⟩
  have hR:=HX2.out.below hb1 HX2.out.lt
  have c0:=(hR.cell 0).trans rfl
  have c1:=(hR.cell 1).trans rfl
  have g0:=hR.frozen 0
  have g1:=hR.frozen 1
  have HB1:=Lib.hid (bt HB0.out hb1)
  clear hb1 hR x00 x01 x10 x11 x20 x21
  go_wp2
  exact bodyPost_ret (v :=.tuple #[.agg #[.int .i64 0,.int .i64 0],.int .i64 x]) (by simp[results,Tryz.results14,go_sem,c0,c1]) rfl ⟨rfl,below2 HB1.out (by omega)⟩
set_option maxRecDepth 100000 in
set_option maxHeartbeats 1000000 in
theorem rget_any {w:World}{base g:Nat}{v:Value}{vs:List Value}{L:List (List Int)}(h:Hp 40 C49 w base g v vs L)(k n j i:Int):Calls Tryz.prog 18 #[.pointer (some ⟨g,0,none⟩),.agg #[.int .i64 k,.int .i64 n],.agg #[.int .i64 j,.int .i64 i]] w (VI (getV L k n j i).1.1 (getV L k n j i).1.2 (getV L k n j i).2 w):=by
 have hX0:=Bx.new w 49 [.int .i64 k,.int .i64 n]
 replace hX0:=hX0.alloc (.cells #[.int .i64 j,.int .i64 i] 49)
 replace hX0:=hX0.alloc (.cells #[.int .i64 0,.int .i64 0] 49)
 have hX1:=Bx.new (w.alloc (.cells #[.int .i64 k,.int .i64 n] 49)) 49 [.int .i64 j,.int .i64 i]
 simp only[World.size_alloc]at hX1
 replace hX1:=hX1.alloc (.cells #[.int .i64 0,.int .i64 0] 49)
 have hX2:=Bx.new ((w.alloc (.cells #[.int .i64 k,.int .i64 n] 49)).alloc (.cells #[.int .i64 j,.int .i64 i] 49)) 49 [.int .i64 0,.int .i64 0]
 simp only[World.size_alloc]at hX2
 have hb0:Below w.heap.size w (((w.alloc (.cells #[.int .i64 k,.int .i64 n] 49)).alloc (.cells #[.int .i64 j,.int .i64 i] 49)).alloc (.cells #[.int .i64 0,.int .i64 0] 49)):=((heap1 _ _).alloc (by simp only[World.size_alloc];omega) _).alloc (by simp only[World.size_alloc];omega) _
 have hg0:=h.below hb0
 obtain⟨W0,hW0⟩:∃W0,(((w.alloc (.cells #[.int .i64 k,.int .i64 n] 49)).alloc (.cells #[.int .i64 j,.int .i64 i] 49)).alloc (.cells #[.int .i64 0,.int .i64 0] 49))=W0:=⟨_,rfl⟩
 have HX0:=Lib.hid (show Bx W0 (w.heap.size) 49 [.int .i64 k,.int .i64 n]by rw[← hW0];exact hX0)
 have HX1:=Lib.hid (show Bx W0 (w.heap.size+1) 49 [.int .i64 j,.int .i64 i]by rw[← hW0];exact hX1)
 have HX2:=Lib.hid (show Bx W0 (w.heap.size+1+1) 49 [.int .i64 0,.int .i64 0]by rw[← hW0];exact hX2)
 rw[hW0]at hb0 hg0
 have HB0:=Lib.hid hb0
 have HG:=Lib.hid hg0
 have x00:=(HX0.out.cell 0).trans rfl
 have x01:=(HX0.out.cell 1).trans rfl
 have x10:=(HX1.out.cell 0).trans rfl
 have x11:=(HX1.out.cell 1).trans rfl
 have x20:=(HX2.out.cell 0).trans rfl
 have x21:=(HX2.out.cell 1).trans rfl
 clear hb0 hg0 hX0 hX1 hX2
 clear h
 have hfew:=HG.out.few
 by_cases hw:wrongH L k n j i=0
 ·obtain⟨p,q,rfl,rfl,rfl,rfl,hp,hq,hv,-⟩:=get_yes hw
  rw[hv]
  have HV:=Lib.hid hp
  have HQ:=Lib.hid hq
  have HC:=Lib.hid (wrong_any HG.out 3 ((p:Int)+1) 1 (q:Int))
  rw[hw]at HC
  have HM:=Lib.hid (fun(W:World) (hb:Below W0.heap.size W0 W)=>(HG.out.below hb).at_ hp hq)
  have HW:=Lib.hid (wrap_self p (by omega))
  obtain⟨m,hm⟩:∃m,(L[p]'hp).length=m:=⟨_,rfl⟩
  have hpz:(p:Int)<(L.length:Int):=by omega
  have hqz:(q:Int)<(m:Int):=by omega
  have hmb:m≤262144:=by have:=cells_row hp;have:=HG.out.cap;omega
  rw[hm]at HM
  generalize (L[p]'hp)[q]=z at *
  clear hw hv hq hm
  go_enter Tryz.func18,Tryz.ntmps18
  go_wp2_with (go_at_call 33;refine HC.out.mono ?_)
  rintro e w1 ⟨rfl,hb1⟩
  obtain⟨b,c,r,d,ev,hbl,-,hcb,hrl,hcz,-⟩:=HM.out w1 hb1
  have hg0:=((HG.out.below hb1).bx.cell 0).trans rfl
  rw[ev]at hg0
  have y01:=((HX0.out.below hb1 HX0.out.lt).cell 1).trans rfl
  have y11:=((HX1.out.below hb1 HX1.out.lt).cell 1).trans rfl
  have hR:=HX2.out.below hb1 HX2.out.lt
  have c0:=(hR.cell 0).trans rfl
  have c1:=(hR.cell 1).trans rfl
  have g0:=hR.frozen 0
  have g1:=hR.frozen 1
  have HB1:=Lib.hid (bt HB0.out hb1)
  clear hb1 hR x00 x01 x10 x11 x20 x21 ev
  have hw:=HW.out
  go_upto_region 4 with(fail)
  go_still_tail 14,(by kernel_rfl)
  change wpList _ _ _ _ _ _
  go_wp2
  exact bodyPost_ret (v :=.tuple #[.agg #[.int .i64 1,.int .i64 z],.int .i64 0]) (by simp[results,Tryz.results18,go_sem,c0,c1]) rfl ⟨rfl,below2 HB1.out.drew (by omega)⟩
 ·rw[show getV L k n j i=((0,0),wrongH L k n j i)by unfold getV;rw[if_neg hw]]
  have hw2:(wrongH L k n j i != 0)=true:=by simpa using hw
  have HC:=Lib.hid (wrong_any HG.out k n j i)
  generalize wrongH L k n j i=x at *
  clear hw
  go_enter Tryz.func18,Tryz.ntmps18
  go_wp2_with (go_at_call 33;refine HC.out.mono ?_)
  rintro e w1 ⟨rfl,hb1⟩
  have hR:=HX2.out.below hb1 HX2.out.lt
  have c0:=(hR.cell 0).trans rfl
  have c1:=(hR.cell 1).trans rfl
  have g0:=hR.frozen 0
  have g1:=hR.frozen 1
  have HB1:=Lib.hid (bt HB0.out hb1)
  clear hb1 hR x00 x01 x10 x11 x20 x21
  go_wp2
  exact bodyPost_ret (v :=.tuple #[.agg #[.int .i64 0,.int .i64 0],.int .i64 x]) (by simp[results,Tryz.results18,go_sem,c0,c1]) rfl ⟨rfl,below2 HB1.out (by omega)⟩
set_option maxRecDepth 100000 in
set_option maxHeartbeats 1000000 in
theorem set_any {w:World}{base g:Nat}{v:Value}{vs:List Value}{L:List (List Int)}(h:Hp 37 C46 w base g v vs L)(k n j i a x:Int):Calls Tryz.prog 13 #[.pointer (some ⟨g,0,none⟩),.agg #[.int .i64 k,.int .i64 n],.agg #[.int .i64 j,.int .i64 i],.agg #[.int .i64 a,.int .i64 x]] w (SetP 37 C46 base g v vs (setH L k n j i a x) (wrongH L k n j i) w):=by
 have hX0:=Bx.new w 43 [.int .i64 k,.int .i64 n]
 replace hX0:=hX0.alloc (.cells #[.int .i64 j,.int .i64 i] 43)
 replace hX0:=hX0.alloc (.cells #[.int .i64 a,.int .i64 x] 43)
 have hX1:=Bx.new (w.alloc (.cells #[.int .i64 k,.int .i64 n] 43)) 43 [.int .i64 j,.int .i64 i]
 simp only[World.size_alloc]at hX1
 replace hX1:=hX1.alloc (.cells #[.int .i64 a,.int .i64 x] 43)
 have hX2:=Bx.new ((w.alloc (.cells #[.int .i64 k,.int .i64 n] 43)).alloc (.cells #[.int .i64 j,.int .i64 i] 43)) 43 [.int .i64 a,.int .i64 x]
 simp only[World.size_alloc]at hX2
 have hb0:Below w.heap.size w (((w.alloc (.cells #[.int .i64 k,.int .i64 n] 43)).alloc (.cells #[.int .i64 j,.int .i64 i] 43)).alloc (.cells #[.int .i64 a,.int .i64 x] 43)):=((heap1 _ _).alloc (by simp only[World.size_alloc];omega) _).alloc (by simp only[World.size_alloc];omega) _
 have hg0:=h.below hb0
 obtain⟨W0,hW0⟩:∃W0,(((w.alloc (.cells #[.int .i64 k,.int .i64 n] 43)).alloc (.cells #[.int .i64 j,.int .i64 i] 43)).alloc (.cells #[.int .i64 a,.int .i64 x] 43))=W0:=⟨_,rfl⟩
 have HX0:=Lib.hid (show Bx W0 (w.heap.size) 43 [.int .i64 k,.int .i64 n]by rw[← hW0];exact hX0)
 have HX1:=Lib.hid (show Bx W0 (w.heap.size+1) 43 [.int .i64 j,.int .i64 i]by rw[← hW0];exact hX1)
 have HX2:=Lib.hid (show Bx W0 (w.heap.size+1+1) 43 [.int .i64 a,.int .i64 x]by rw[← hW0];exact hX2)
 rw[hW0]at hb0 hg0
 have HB0:=Lib.hid hb0
 have HG:=Lib.hid hg0
 have x00:=(HX0.out.cell 0).trans rfl
 have x01:=(HX0.out.cell 1).trans rfl
 have x10:=(HX1.out.cell 0).trans rfl
 have x11:=(HX1.out.cell 1).trans rfl
 have x20:=(HX2.out.cell 0).trans rfl
 have x21:=(HX2.out.cell 1).trans rfl
 clear hb0 hg0 hX0 hX1 hX2
 clear h
 have hfew:=HG.out.few
 by_cases hw:wrongH L k n j i=0
 ·obtain⟨p,q,rfl,rfl,rfl,rfl,hp,hq,-,hset⟩:=get_yes hw
  have hnot:a≠1→setH L 3 ((p:Int)+1) 1 (q:Int) a x=L:=fun ha=>by unfold setH;rw[if_neg (fun z=>ha z.2)]
  have HN:=Lib.hid hnot
  have HS:=Lib.hid (hset x)
  rw[hw]
  have HV:=Lib.hid hp
  have HC:=Lib.hid (cell_yes HG.out hp hq)
  have HM:=Lib.hid (fun(r n d:Nat) (W:World) (hb:Below W0.heap.size W0 W) (e:vs[p]?=some (.slice (some ⟨r,0,none⟩) n d))=>show(∃u,W.cell? ⟨r,q,none⟩=some u)∧W.frozen? ⟨r,q,none⟩=false∧(Hp 37 C46 (W.setCell ⟨r,q,none⟩ (.int .i64 x)) base g v vs (L.set p ((L[p]'hp).set q x))∧Fr (Fp g v vs) W (W.setCell ⟨r,q,none⟩ (.int .i64 x)))from by
   obtain⟨_,_,r2,d2,_,_,hv2,_,_,hc2,hf2⟩:=(HG.out.below hb).at_ hp hq
   have hset2:=(HG.out.below hb).set_ k46 (by decide) hp hv2 (q:=q) x
   rw[e]at hv2
   injection hv2 with hv2
   injection hv2 with h1 _ _
   injection h1 with h1
   injection h1 with h1
   rw[h1];exact⟨⟨_,hc2⟩,hf2,hset2⟩)
  clear hw hset hnot
  by_cases ha:a=1
  ·subst ha
   rw[HS.out]
   go_enter Tryz.func13,Tryz.ntmps13
   go_wp2_with (go_at_call 30;refine HC.out.mono ?_)
   rintro e w1 ⟨r,nn,d,hr,rfl,hb1⟩
   obtain⟨⟨u,hcz⟩,hfz,hH,hF⟩:=HM.out r nn d w1 hb1 hr
   have y20:=((HX2.out.below hb1 HX2.out.lt).cell 0).trans rfl
   have y21:=((HX2.out.below hb1 HX2.out.lt).cell 1).trans rfl
   have HE:=Lib.hid (And.intro hH (frT (bt HB0.out hb1) hF))
   clear hr hb1 x00 x01 x10 x11 x20 x21 hH hF
   go_wp2
   go_ret
   exact⟨rfl,HE.out⟩
  ·have ha2:(a==1)=false:=beq_eq_false_iff_ne.2 ha
   rw[HN.out ha]
   clear ha
   go_enter Tryz.func13,Tryz.ntmps13
   go_wp2_with (go_at_call 30;refine HC.out.mono ?_)
   rintro e w1 ⟨r,nn,d,hr,rfl,hb1⟩
   have y20:=((HX2.out.below hb1 HX2.out.lt).cell 0).trans rfl
   have y21:=((HX2.out.below hb1 HX2.out.lt).cell 1).trans rfl
   have HE:=Lib.hid (And.intro (HG.out.below hb1) (Fr.of_below (F:=Fp g v vs) (bt HB0.out hb1)))
   clear hr hb1 x00 x01 x10 x11 x20 x21
   go_wp2
   go_ret
   exact⟨rfl,HE.out⟩
 ·rw[show setH L k n j i a x=L by unfold setH;rw[if_neg (fun z=>hw z.1)]]
  have hw2:(wrongH L k n j i==0)=false:=beq_eq_false_iff_ne.2 hw
  have HC:=Lib.hid (cell_no HG.out k n j i hw)
  generalize wrongH L k n j i=x at *
  clear hw
  go_enter Tryz.func13,Tryz.ntmps13
  go_wp2_with (go_at_call 30;refine HC.out.mono ?_)
  rintro e w1 ⟨rfl,hb1⟩
  have HE:=Lib.hid (And.intro (HG.out.below hb1) (Fr.of_below (F:=Fp g v vs) (bt HB0.out hb1)))
  clear hb1 x00 x01 x10 x11 x20 x21
  go_wp2
  go_ret
  exact⟨rfl,HE.out⟩
set_option maxRecDepth 100000 in
set_option maxHeartbeats 1000000 in
theorem rset_any {w:World}{base g:Nat}{v:Value}{vs:List Value}{L:List (List Int)}(h:Hp 40 C49 w base g v vs L)(k n j i a x:Int):Calls Tryz.prog 19 #[.pointer (some ⟨g,0,none⟩),.agg #[.int .i64 k,.int .i64 n],.agg #[.int .i64 j,.int .i64 i],.agg #[.int .i64 a,.int .i64 x]] w (SetP 40 C49 base g v vs (setH L k n j i a x) (wrongH L k n j i) w):=by
 have hX0:=Bx.new w 49 [.int .i64 k,.int .i64 n]
 replace hX0:=hX0.alloc (.cells #[.int .i64 j,.int .i64 i] 49)
 replace hX0:=hX0.alloc (.cells #[.int .i64 a,.int .i64 x] 49)
 have hX1:=Bx.new (w.alloc (.cells #[.int .i64 k,.int .i64 n] 49)) 49 [.int .i64 j,.int .i64 i]
 simp only[World.size_alloc]at hX1
 replace hX1:=hX1.alloc (.cells #[.int .i64 a,.int .i64 x] 49)
 have hX2:=Bx.new ((w.alloc (.cells #[.int .i64 k,.int .i64 n] 49)).alloc (.cells #[.int .i64 j,.int .i64 i] 49)) 49 [.int .i64 a,.int .i64 x]
 simp only[World.size_alloc]at hX2
 have hb0:Below w.heap.size w (((w.alloc (.cells #[.int .i64 k,.int .i64 n] 49)).alloc (.cells #[.int .i64 j,.int .i64 i] 49)).alloc (.cells #[.int .i64 a,.int .i64 x] 49)):=((heap1 _ _).alloc (by simp only[World.size_alloc];omega) _).alloc (by simp only[World.size_alloc];omega) _
 have hg0:=h.below hb0
 obtain⟨W0,hW0⟩:∃W0,(((w.alloc (.cells #[.int .i64 k,.int .i64 n] 49)).alloc (.cells #[.int .i64 j,.int .i64 i] 49)).alloc (.cells #[.int .i64 a,.int .i64 x] 49))=W0:=⟨_,rfl⟩
 have HX0:=Lib.hid (show Bx W0 (w.heap.size) 49 [.int .i64 k,.int .i64 n]by rw[← hW0];exact hX0)
 have HX1:=Lib.hid (show Bx W0 (w.heap.size+1) 49 [.int .i64 j,.int .i64 i]by rw[← hW0];exact hX1)
 have HX2:=Lib.hid (show Bx W0 (w.heap.size+1+1) 49 [.int .i64 a,.int .i64 x]by rw[← hW0];exact hX2)
 rw[hW0]at hb0 hg0
 have HB0:=Lib.hid hb0
 have HG:=Lib.hid hg0
 have x00:=(HX0.out.cell 0).trans rfl
 have x01:=(HX0.out.cell 1).trans rfl
 have x10:=(HX1.out.cell 0).trans rfl
 have x11:=(HX1.out.cell 1).trans rfl
 have x20:=(HX2.out.cell 0).trans rfl
 have x21:=(HX2.out.cell 1).trans rfl
 clear hb0 hg0 hX0 hX1 hX2
 clear h
 have hfew:=HG.out.few
 by_cases hw:wrongH L k n j i=0
 ·obtain⟨p,q,rfl,rfl,rfl,rfl,hp,hq,-,hset⟩:=get_yes hw
  have hnot:a≠1→setH L 3 ((p:Int)+1) 1 (q:Int) a x=L:=fun ha=>by unfold setH;rw[if_neg (fun z=>ha z.2)]
  have HN:=Lib.hid hnot
  have HS:=Lib.hid (hset x)
  rw[hw]
  have HV:=Lib.hid hp
  have HC:=Lib.hid (wrong_any HG.out 3 ((p:Int)+1) 1 (q:Int))
  rw[hw]at HC
  have HM:=Lib.hid (fun(W:World) (hb:Below W0.heap.size W0 W)=>show∃b c r d,v = .slice (some ⟨b,0,none⟩) L.length c∧b<W.heap.size∧W.cell? ⟨b,p,none⟩=some (.slice (some ⟨r,0,none⟩) (L[p]'hp).length d)∧(∃u,W.cell? ⟨r,q,none⟩=some u)∧W.frozen? ⟨r,q,none⟩=false∧(Hp 40 C49 (W.setCell ⟨r,q,none⟩ (.int .i64 x)) base g v vs (L.set p ((L[p]'hp).set q x))∧Fr (Fp g v vs) W (W.setCell ⟨r,q,none⟩ (.int .i64 x)))from by
   obtain⟨b,c,r,d,ev,hbl,hv2,hcb,_,hc2,hf2⟩:=(HG.out.below hb).at_ hp hq
   exact⟨b,c,r,d,ev,hbl,hcb,⟨_,hc2⟩,hf2,(HG.out.below hb).set_ k49 (by decide) hp hv2 x⟩)
  have HW:=Lib.hid (wrap_self p (by omega))
  obtain⟨m,hm⟩:∃m,(L[p]'hp).length=m:=⟨_,rfl⟩
  have hpz:(p:Int)<(L.length:Int):=by omega
  have hqz:(q:Int)<(m:Int):=by omega
  have hmb:m≤262144:=by have:=cells_row hp;have:=HG.out.cap;omega
  rw[hm]at HM
  clear hw hset hnot hq hm
  by_cases ha:a=1
  ·subst ha
   rw[HS.out]
   go_enter Tryz.func19,Tryz.ntmps19
   go_wp2_with (go_at_call 33;refine HC.out.mono ?_)
   rintro e w1 ⟨rfl,hb1⟩
   obtain⟨b,c,r,d,ev,hbl,hcb,⟨u,hcz⟩,hfz,hH,hF⟩:=HM.out w1 hb1
   have hg0:=((HG.out.below hb1).bx.cell 0).trans rfl
   rw[ev]at hg0
   have y01:=((HX0.out.below hb1 HX0.out.lt).cell 1).trans rfl
   have y11:=((HX1.out.below hb1 HX1.out.lt).cell 1).trans rfl
   have y20:=((HX2.out.below hb1 HX2.out.lt).cell 0).trans rfl
   have y21:=((HX2.out.below hb1 HX2.out.lt).cell 1).trans rfl
   have HE:=Lib.hid (And.intro (hH.fr (F:=fun _=>False) (Fr.of_below ((Below.refl _ _).drew)) (fun _ _=>id)) (frT (bt HB0.out hb1) hF).drew)
   clear hb1 x00 x01 x10 x11 x20 x21 ev hH hF
   have hw:=HW.out
   go_upto_region 3 with(fail)
   go_still_tail 14,(by kernel_rfl)
   change wpList _ _ _ _ _ _
   go_wp2
   go_ret
   exact⟨rfl,HE.out⟩
  ·have ha2:(a==1)=false:=beq_eq_false_iff_ne.2 ha
   rw[HN.out ha]
   clear ha
   go_enter Tryz.func19,Tryz.ntmps19
   go_wp2_with (go_at_call 33;refine HC.out.mono ?_)
   rintro e w1 ⟨rfl,hb1⟩
   have y20:=((HX2.out.below hb1 HX2.out.lt).cell 0).trans rfl
   have y21:=((HX2.out.below hb1 HX2.out.lt).cell 1).trans rfl
   have HE:=Lib.hid (And.intro (HG.out.below hb1) (Fr.of_below (F:=Fp g v vs) (bt HB0.out hb1)))
   clear hb1 x00 x01 x10 x11 x20 x21
   go_wp2
   go_ret
   exact⟨rfl,HE.out⟩
 ·rw[show setH L k n j i a x=L by unfold setH;rw[if_neg (fun z=>hw z.1)]]
  have hw2:(wrongH L k n j i==0)=false:=beq_eq_false_iff_ne.2 hw
  have HC:=Lib.hid (wrong_any HG.out k n j i)
  generalize wrongH L k n j i=x at *
  clear hw
  go_enter Tryz.func19,Tryz.ntmps19
  go_wp2_with (go_at_call 33;refine HC.out.mono ?_)
  rintro e w1 ⟨rfl,hb1⟩
  have HE:=Lib.hid (And.intro (HG.out.below hb1) (Fr.of_below (F:=Fp g v vs) (bt HB0.out hb1)))
  clear hb1 x00 x01 x10 x11 x20 x21
  go_wp2
  go_ret
  exact⟨rfl,HE.out⟩
end Go.Proofs.YtignojhijmamhaaGreat.Va
namespace Go.Proofs.YtignojhijmamhaaGreat.Va
open Go Go.RowKit Go.Sort
theorem ap:(∀(a:Act) (t:Tmp) (v:Value),a.put (some t) v = { a with tmps:=a.tmps.setIfInBounds t v })∧(∀ {α:Type} (l:List α) (i:Nat) (v:α),l.toArray.setIfInBounds i v=(l.set i v).toArray)∧(∀ {α:Type} (x:α) (l:List α) (v:α),(x :: l).set 0 v=v :: l)∧∀ {α:Type} (x:α) (l:List α) (i:Nat) (v:α),(x :: l).set (i+1) v=x :: l.set i v:=
 ⟨fun _ _ _=>rfl,fun l i v=>List.setIfInBounds_toArray l i v,fun _ _ _=>rfl,fun _ _ _ _=>rfl⟩
theorem info3:(Tryz.prog.info? 3).map (fun i=>(i.zero,i.size,i.bytes))=some (some (.int .i64 0),1,8):=by kernel_rfl
theorem info78:(Tryz.prog.info? 64).map (fun i=>(i.zero,i.size,i.bytes))=some (some (.slice none 0 0),1,24):=by kernel_rfl
def noughts (n:Nat):List Int:=List.replicate n 0
theorem noughts_len (n:Nat):(noughts n).length=n:=List.length_replicate
theorem made0 (n:Nat):madeCells #[.int .i64 0] n=(ints (noughts n)).toArray:=by
 apply Array.toList_inj.1
 rw[toList_madeCells_one]
 simp[ints,noughts]
theorem make78 (n:Nat)(hn:n≤4000000000)(w:World):(Instr.makeSlice 64 (.int .i64 (n:Int)) (.int .i64 (n:Int))).run Tryz.prog w = .ok (.slice (some ⟨w.heap.size,0,none⟩) n n) (w.alloc (.cells (ints (noughts n)).toArray 3)):=by
 have h:=info3
 cases hq:Tryz.prog.info? 3 with
 |none=>rw[hq]at h;cases h
 |some i=>
  rw[hq]at h
  simp only[Option.map_some,Option.some.injEq,Prod.mk.injEq]at h
  obtain⟨h1,h2,h3⟩:=h
  have:=run_make (P:=Tryz.prog) w 64 3 i (.int .i64 0) Tryz.underlying64 hq h1 .i64 .i64 (n:Int) (n:Int) (by omega) (Int.le_refl _) (by rw[h3];omega) (by omega)
  rw[this,h2]
  simp only[Int.toNat_natCast,Nat.mul_one]
  rw[show(Value.int .i64 0).cells = #[.int .i64 0]from rfl,made0]
section
variable {ops:Array Oper} {Q:Exit→Act→World→Prop} {S:World→Prop} {fuel:Nat} {listed:Array Bool} {a:Act} {w:World} {o:Oper} {K:Act→World→Prop}
theorem hpu (i:Nat)(v:Value){o:Oper}{t:Tmp}(hc:(Region.noSelect ops&&(Region.free .any ops listed i&&(Region.ready .any ops listed).contains i))=true)(hi:ops[i]?=some o)(hd:o.dst=some t)
  (hQ:∀c a w,Q (.panic c) (a.put (some t) v) w→Q (.panic c) a w) (hw:Region.wanted o (yielded ops a.tmps)=true) (hy:∀w,S w→(execOp a.eval o).run Tryz.prog w = .ok (.value v) w) (hS:S w)
  (h:wpAnyH Tryz.prog .any ops Q S fuel (listed.setIfInBounds i true) (a.put (some t) v) w):wpAnyH Tryz.prog .any ops Q S (fuel+1) listed a w:=by
 simp only[Bool.and_eq_true]at hc
 rw[← hd]at hQ h
 exact wpAnyH_take hi hc.1 hc.2.1 hc.2.2 hQ (.inl ⟨hw,hy⟩) hS h
theorem h_one (i:Nat)(o:Oper)(hi:ops[i]?=some o)(hr:Region.ready .any ops listed=[i])(hw:Region.wanted o (yielded ops a.tmps)=true)
  (h:o.wp Tryz.prog a w (fun a' w'=>S w'∧wpAnyH Tryz.prog .any ops Q S fuel (listed.setIfInBounds i true) a' w') Q):wpAnyH Tryz.prog .any ops Q S (fuel+1) listed a w:=
 wpAnyH_all hr (by simp) fun j hj=>by
  obtain rfl:j=i:=by simpa using hj
  unfold wpOp
  simp only[hi,hw,if_true]
  exact .inl h
theorem h_two (i j:Nat)(oi oj:Oper)(hi:ops[i]?=some oi)(hj:ops[j]?=some oj)(hr:Region.ready .any ops listed=[i,j])(hwi:Region.wanted oi (yielded ops a.tmps)=true)(hwj:Region.wanted oj (yielded ops a.tmps)=true)
  (h1:oi.wp Tryz.prog a w (fun a' w'=>S w'∧wpAnyH Tryz.prog .any ops Q S fuel (listed.setIfInBounds i true) a' w') Q) (h2:oj.wp Tryz.prog a w (fun a' w'=>S w'∧wpAnyH Tryz.prog .any ops Q S fuel (listed.setIfInBounds j true) a' w') Q):wpAnyH Tryz.prog .any ops Q S (fuel+1) listed a w:=
 wpAnyH_all hr (by simp) fun k hk=>by
  have:k=i∨k=j:=by simpa using hk
  rcases this with rfl |rfl
  ·unfold wpOp
   simp only[hi,hwi,if_true]
   exact .inl h1
  ·unfold wpOp
   simp only[hj,hwj,if_true]
   exact .inl h2
theorem y_move {x:Operand}{v:Value}(ho:o.op = .move x)(hx:a.eval x=v):∀w,S w→(execOp a.eval o).run Tryz.prog w = .ok (.value v) w:=fun w _=>by unfold execOp;simp only[ho,hx,Sem.run_pure]
theorem y_nil {x:Operand}{ad:Addr}(ho:o.op = .nilCheck x)(hx:a.eval x = .pointer (some ad)):∀w,S w→(execOp a.eval o).run Tryz.prog w = .ok (.value (.pointer (some ad))) w:=fun w _=>by
 unfold execOp;simp only[ho,hx];rfl
theorem y_field {t:TypeId}{k:Nat}{x:Operand}{ad ad':Addr}(ho:o.op = .fieldAddr t x k)(hx:a.eval x = .pointer (some ad))(hl:∀w,(Instr.fieldAt t (.pointer (some ad)) k).run Tryz.prog w = .ok (.pointer (some ad')) w):∀w,S w→(execOp a.eval o).run Tryz.prog w = .ok (.value (.pointer (some ad'))) w:=fun w _=>by
 unfold execOp;simp only[ho,hx,Sem.run_bind,hl w,Sem.run_pure,Result.andThen_ok]
theorem load_wp {t:TypeId}{x:Operand}{ad:Addr}{v:Value}(ho:o.op = .load t x)(hx:a.eval x = .pointer (some ad))(hl:(Instr.loadAt t (.pointer (some ad))).run Tryz.prog w = .ok v w)(h:K (a.put o.dst v) w):o.wp Tryz.prog a w K Q:=by
 unfold Oper.wp execOp
 simp only[ho,hx,Sem.run_bind,hl,Sem.run_pure,Result.andThen_ok]
 exact h
theorem make_wp {x:Operand}{n:Nat}(ho:o.op = .makeSlice 64 x x)(hx:a.eval x = .int .i64 (n:Int))(hn:n≤4000000000)(h:K (a.put o.dst (.slice (some ⟨w.heap.size,0,none⟩) n n)) (w.alloc (.cells (ints (noughts n)).toArray 3))):o.wp Tryz.prog a w K Q:=by
 unfold Oper.wp execOp
 simp only[ho,hx,Sem.run_bind,make78 n hn,Sem.run_pure,Result.andThen_ok]
 exact h
theorem build1_wp {x:Operand}{A:Option Addr}{n c:Nat}(ho:o.op = .buildSlice 30 1 #[(0,x)])(hx:a.eval x = .slice A n c)(h:K (a.put o.dst (.slice (some ⟨w.heap.size,0,none⟩) 1 1)) (w.alloc (.cells #[.slice A n c] 64))):o.wp Tryz.prog a w K Q:=by
 unfold Oper.wp execOp
 simp only[ho,List.map_toArray,List.map_cons,List.map_nil,hx]
 simp[go_sem]
 exact h
theorem append_wp (s x:Operand)(t:TypeId)(ho:o.op = .call { callee :=.builtin .append,args := #[s,x],argTypes := #[t,t] })
  (base:Nat) (e:TypeId) (i:TypeInfo) (z:Value) (size bytes:Nat) (ht:Tryz.prog.underlying t=some (.slice e)) (hi:Tryz.prog.info? e=some i) (hz:i.zero=some z)
  (hsize:i.size=size) (hby:i.bytes=bytes) (hzs:z.cells.size=size) (hsz:0<size)
  (v:Value) (n:Nat) (xs:List Value) (hs:a.eval s=v) (hown:w.ownsRow base e size v n xs)
  (ad:Addr) (m c:Nat) (news:List Value) (hx:a.eval x = .slice (some ad) m c) (hl:news.length=m*size) (hnews:∀j u,news[j]?=some u→w.cell? (ad.add j)=some u) (h1:∀u ∈ news,u.oneCell'=true)
  (h63:n+m≤maxLen) (hbytes:(n+m)*bytes≤140737488355328) (hbase:base≤w.heap.size)
  (h:∀v' w',w'.ownsRow base e size v' (n+m) (xs++news)→w.grownBy w' v.ownBlock→(v'.ownBlock=v.ownBlock∨v'.ownBlock=some w.heap.size)→K (a.put o.dst v') w'):o.wp Tryz.prog a w K Q:=by
 obtain⟨v',w',hrun,h2,h3,_,h4⟩:=run_append_own_at (P:=Tryz.prog) w base t o.type e i z size bytes ht hi hz hsize hby hzs hsz v n xs hown ad m c news hl hnews h1 h63 hbytes hbase
 unfold Oper.wp execOp
 simp only[ho,resolve,invoke,builtin,Sem.run_bind,Sem.run_pure,Result.andThen_ok,List.map_toArray,List.map_cons,List.map_nil,hs,hx,hrun]
 exact h v' w' h2 h3 h4
theorem store39_wp {x y:Operand}{g n c:Nat}{A:Option Addr}{u:Value}(ho:o.op = .store 30 x y)(hx:a.eval x = .pointer (some ⟨g,0,none⟩))(hy:a.eval y = .slice A n c)(hc:w.cell? ⟨g,0,none⟩=some u)(hf:w.frozen? ⟨g,0,none⟩=false)
  (h:K (a.put o.dst undef) (w.setCell ⟨g,0,none⟩ (.slice A n c))):o.wp Tryz.prog a w K Q:=by
 unfold Oper.wp execOp
 simp only[ho,hx,hy]
 simp[go_sem,hc,hf]
 exact h
end
theorem run_load39 {w:World}{b off n c:Nat}{A:Option Addr}(h:w.cell? ⟨b,off,none⟩=some (.slice A n c)):(Instr.loadAt 30 (.pointer (some ⟨b,off,none⟩))).run Tryz.prog w = .ok (.slice A n c) w:=by
 simp[go_sem,h]
theorem run_field46_0 (b:Nat)(w:World):(Instr.fieldAt 37 (.pointer (some ⟨b,0,none⟩)) 0).run Tryz.prog w = .ok (.pointer (some ⟨b,0,none⟩)) w:=by kernel_rfl
theorem run_field49_0 (b:Nat)(w:World):(Instr.fieldAt 40 (.pointer (some ⟨b,0,none⟩)) 0).run Tryz.prog w = .ok (.pointer (some ⟨b,0,none⟩)) w:=by kernel_rfl
theorem own_slice {base n size:Nat}{e:TypeId}{v:Value}{ls:List Value}{w:World}(h:w.ownsRow base e size v n ls):∃A c,v = .slice A n c:=by
 rcases h.2 with⟨e1,e2⟩ |⟨g,cap,cur,e1,_⟩
 ·exact⟨none,0,by rw[e1,e2]⟩
 ·exact⟨_,_,e1⟩
theorem blk_cells (w:World)(l:List Value)(t:TypeId):∀j u,l[j]?=some u→(w.alloc (.cells l.toArray t)).cell? ((⟨w.heap.size,0,none⟩:Addr).add j)=some u:=fun j u hj=>by
 have hB:=Bx.new w t l
 rw[show(⟨w.heap.size,0,none⟩:Addr).add j=⟨w.heap.size,j,none⟩by simp[Addr.add];omega,hB.cell j,hj]
theorem Ars.fr2 {w w':World}{base:Nat}{v:Value}{vs:List Value}{L:List (List Int)}(h:Ars w base v vs L){F:Nat→Prop}(k:Fr F w w')(h1:∀b,v.ownBlock=some b→¬F b)(h2:∀x ∈ vs,∀b,x.ownBlock=some b→¬F b):Ars w' base v vs L:=
 ⟨h.len,own_fr h.own k h1,fun i hi hl=>own_fr (h.row i hi hl) k (h2 _ (List.getElem_mem hi)),h.ne⟩
theorem Hp.more {T:TypeId}{C:List (List Int)→List Value}{w2 w4:World}{base g n:Nat}{v v':Value}{vs:List Value}{L:List (List Int)}(hT3:T≠3)(hT78:T≠64)(hA:Ars w2 base v vs L)(hB:Bx w2 g T (v :: C (L++[noughts n])))(hg:base≤g)
  (hcap:cellsL (L++[noughts n])≤262144)
  (hown:w4.ownsRow base 64 1 v' (L.length+1) (vs++[.slice (some ⟨w2.heap.size,0,none⟩) n n])) (hgrow:((w2.alloc (.cells (ints (noughts n)).toArray 3)).alloc (.cells #[.slice (some ⟨w2.heap.size,0,none⟩) n n] 64)).grownBy w4 v.ownBlock)
  (hat:v'.ownBlock=v.ownBlock∨v'.ownBlock=some (w2.heap.size+1+1)) :
  Hp T C (w4.setCell ⟨g,0,none⟩ v') base g v' (vs++[.slice (some ⟨w2.heap.size,0,none⟩) n n]) (L++[noughts n])∧Fr (Fp g v vs) w2 (w4.setCell ⟨g,0,none⟩ v')∧∀b,Fp g v' (vs++[.slice (some ⟨w2.heap.size,0,none⟩) n n]) b→Fp g v vs b∨w2.heap.size≤b:=by
 have hb3:Below w2.heap.size w2 ((w2.alloc (.cells (ints (noughts n)).toArray 3)).alloc (.cells #[.slice (some ⟨w2.heap.size,0,none⟩) n n] 64)):=(heap1 _ _).alloc (by simp) _
 have hsz3:((w2.alloc (.cells (ints (noughts n)).toArray 3)).alloc (.cells #[.slice (some ⟨w2.heap.size,0,none⟩) n n] 64)).heap.size=w2.heap.size+1+1:=by simp
 have hrow3:Bx ((w2.alloc (.cells (ints (noughts n)).toArray 3)).alloc (.cells #[.slice (some ⟨w2.heap.size,0,none⟩) n n] 64)) w2.heap.size 3 (ints (noughts n)):=(Bx.new w2 3 (ints (noughts n))).alloc _
 generalize ((w2.alloc (.cells (ints (noughts n)).toArray 3)).alloc (.cells #[.slice (some ⟨w2.heap.size,0,none⟩) n n] 64))=w3 at *
 have F3:Fr (fun b=>v.ownBlock=some b) w3 w4:=⟨hgrow.os,hgrow.tape,hgrow.output,hgrow.size,fun b hb hn=>hgrow.block b hb (fun e=>hn e.symm)⟩
 have F4:Fr (fun b=>v.ownBlock=some b) w2 w4:=(Fr.of_below hb3).trans F3 fun _ h =>.inl h
 have hvg:v.ownBlock≠some g:=own_bx_ne hA.own hB (fun e=>hT78 e.symm)
 have hB4:Bx w4 g T (v :: C (L++[noughts n])):=hB.fr F4 hvg
 have hv2:v.ownBlock≠some w2.heap.size:=fun e=>by have:=own_lt hA.own e;omega
 have hrow4:w4.ownsRow base 3 1 (.slice (some ⟨w2.heap.size,0,none⟩) n n) (noughts n).length (ints (noughts n)):=by
  have hb4:=hrow3.fr F3 hv2
  rw[noughts_len]
  exact⟨by simp[ints_len,noughts_len],.inr ⟨w2.heap.size,n,(ints (noughts n)).toArray,rfl,Nat.le_trans hg (Nat.le_of_lt hB.lt),hb4,Nat.le_refl _,by have:=cells_ge (L++[noughts n]);have h9:=cells_row (L:=L++[noughts n]) (k:=L.length) (by simp);simp[noughts_len]at h9;unfold maxLen;omega,by simp[ints_len,noughts_len],by simp;exact List.take_of_length_le (by rw[ints_len,noughts_len];exact Nat.le_refl _)⟩⟩
 have hA4:=hA.more F4 hrow4 (fun b hb=>by simp[Value.ownBlock]at hb;omega) hown
 have F5:Fr (fun b=>b=g) w4 (w4.setCell ⟨g,0,none⟩ v'):=fr_set (fun b=>b=g) w4 (p:=⟨g,0,none⟩) rfl _
 have hg2:g<w2.heap.size:=hB.lt
 refine⟨⟨?_,hA4.fr2 F5 ?_ ?_,hcap,hg⟩,?_,?_⟩
 ·have:=hB4.set_ 0 v'
  simpa using this
 ·intro b hb e
  subst e
  exact own_bx_ne hA4.own hB4 (fun e=>hT78 e.symm) hb
 ·intro x hx b hb e
  subst e
  obtain⟨i,hi,rfl⟩:=List.mem_iff_getElem.1 hx
  exact own_bx_ne (hA4.row i hi (by rw[← hA4.len];exact hi)) hB4 (fun e=>hT3 e.symm) hb
 ·refine(F4.mono fun b hb =>.inr (.inl hb)).trans (F5.mono (G:=Fp g v vs) fun b hb =>.inl hb) fun _ h =>.inl h
 ·intro b hb
  rcases hb with rfl |hb |⟨x,hx,hb⟩
  ·exact .inl (.inl rfl)
  ·rcases hat with e |e
   ·exact .inl (.inr (.inl (by rw[← e];exact hb)))
   ·rw[e]at hb;injection hb with hb;exact .inr (by omega)
  ·rcases List.mem_append.1 hx with hx |hx
   ·exact .inl (.inr (.inr ⟨x,hx,hb⟩))
   ·rw[List.mem_singleton.1 hx]at hb
    simp[Value.ownBlock]at hb
    exact .inr (by omega)
end Go.Proofs.YtignojhijmamhaaGreat.Va
