/- PROVED here: parts N20 of the claim. No condition but those in each theorem's own head. -/
import Derived.Test.YtedkgofehbecmaaGreatDoorU19
namespace Go.Proofs.YtedkgofehbecmaaGreatDoor.Tr
open Go.Lib (hid)
section
open Go Go.RowKit
set_option maxRecDepth 100000 in
set_option maxHeartbeats 20000000 in
theorem shapes_1_2_4_5_6_7 (w:World)(kd:Int)(hkd:kd=1\/kd=2\/kd=4\/kd=5\/kd=6\/kd=7):Calls Tryz.prog 203 #[.int .i64 kd] w (ShPost kd w):=by
 have hst:=st_func
 have hb0:Below w.heap.size w (w.alloc (.cells #[.nilFunc,.int .i64 0,.int .i64 0,.nilFunc] 209)):=heap1 _ _
 have hB0:=Bx.new w 209 [.nilFunc,.int .i64 0,.int .i64 0,.nilFunc]
 go_enter Tryz.func203,Tryz.ntmps203
 go_wp2_with (go_at_call 231;refine(one_any _ _ _ _).mono ?_)
 rintro e w1 ⟨rfl,hb1⟩
 go_wp2_with (go_at_call 233;refine(is_any _ _).mono ?_)
 rintro e w2 ⟨gb,rfl,hBb,hgb,hb2⟩
 go_wp2_with (go_at_call 231;refine(one_any _ _ _ _).mono ?_)
 rintro e w3 ⟨rfl,hb3⟩
 have hB3:=((hB0.below hb1 hB0.lt).below hb2 (hB0.below hb1 hB0.lt).lt).below hb3 ((hB0.below hb1 hB0.lt).below hb2 (hB0.below hb1 hB0.lt).lt).lt
 have hBb3:=hBb.below hb3 hBb.lt
 have hbw3:=bt (bt (bt hb0 hb1) hb2) hb3
 clear hb0 hb1 hb2 hb3 hB0 hBb hgb
 obtain⟨W5,hW5⟩:∃W5,(w3.alloc (.cells #[.nilFunc,.int .i64 0,.int .i64 0] 226)).alloc (.cells #[.nilFunc,.int .i64 0,.int .i64 0] 226)=W5:=⟨_,rfl⟩
 have h45:w3.heap.size≠w3.heap.size+1:=by omega
 have hb5:Below w3.heap.size w3 W5:=by rw[<- hW5];exact(heap1 _ _).alloc (by simp) _
 have hB4:Bx W5 w3.heap.size 226 [.nilFunc,.int .i64 0,.int .i64 0]:=by rw[<- hW5];exact(Bx.new w3 226 _).alloc _
 have hB5:Bx W5 (w3.heap.size+1) 226 [.nilFunc,.int .i64 0,.int .i64 0]:=by
  rw[<- hW5];have:=Bx.new (w3.alloc (.cells #[.nilFunc,.int .i64 0,.int .i64 0] 226)) 226 [.nilFunc,.int .i64 0,.int .i64 0]
  rw[World.size_alloc]at this;exact this
 have hne1:w.heap.size≠w3.heap.size:=λh=>by have:=hB3.lt;omega
 have hne2:w.heap.size≠w3.heap.size+1:=λh=>by have:=hB3.lt;omega
 have HH:=hid (show HeadR w w3.heap.size (w3.heap.size+1) ((((((W5.setCell ⟨w3.heap.size,0,none⟩ (.func (.func 232) #[] #[])).setCell ⟨w3.heap.size,1,none⟩ (.int .i64 1)).setCell ⟨w3.heap.size,2,none⟩ (.int .i64 1)).setCell ⟨w3.heap.size+1,0,none⟩ (.func (.func 265) #[] #[.pointer (some ⟨gb,0,none⟩)])).setCell ⟨w3.heap.size+1,1,none⟩ (.int .i64 1)).setCell ⟨w3.heap.size+1,2,none⟩ (.int .i64 1))from by
  have hq:=hB3.below hb5 hB3.lt
  have hb:=hBb3.below hb5 hBb3.lt
  have n1:gb≠w3.heap.size:=λh=>by have:=hBb3.lt;omega
  have n2:gb≠w3.heap.size+1:=λh=>by have:=hBb3.lt;omega
  have k1:w.heap.size<=w3.heap.size:=hbw3.size
  refine⟨gb,?_,?_,?_,?_,?_⟩
  ·exact(((((hq.far (p:=⟨w3.heap.size,0,none⟩) hne1 _).far (p:=⟨w3.heap.size,1,none⟩) hne1 _).far (p:=⟨w3.heap.size,2,none⟩) hne1 _).far (p:=⟨w3.heap.size+1,0,none⟩) hne2 _).far (p:=⟨w3.heap.size+1,1,none⟩) hne2 _).far (p:=⟨w3.heap.size+1,2,none⟩) hne2 _
  ·exact(((((hB4.set_ 0 _).set_ 1 _).set_ 2 _).far (p:=⟨w3.heap.size+1,0,none⟩) h45 _).far (p:=⟨w3.heap.size+1,1,none⟩) h45 _).far (p:=⟨w3.heap.size+1,2,none⟩) h45 _
  ·exact(((((hB5.far (p:=⟨w3.heap.size,0,none⟩) h45.symm _).far (p:=⟨w3.heap.size,1,none⟩) h45.symm _).far (p:=⟨w3.heap.size,2,none⟩) h45.symm _).set_ 0 _).set_ 1 _).set_ 2 _
  ·exact((((((hb.far (p:=⟨w3.heap.size,0,none⟩) n1 _).far (p:=⟨w3.heap.size,1,none⟩) n1 _).far (p:=⟨w3.heap.size,2,none⟩) n1 _).far (p:=⟨w3.heap.size+1,0,none⟩) n2 _).far (p:=⟨w3.heap.size+1,1,none⟩) n2 _).far (p:=⟨w3.heap.size+1,2,none⟩) n2 _)
  ·exact((((((bt hbw3 hb5).setCell (p:=⟨w3.heap.size,0,none⟩) k1 _).setCell (p:=⟨w3.heap.size,1,none⟩) k1 _).setCell (p:=⟨w3.heap.size,2,none⟩) k1 _).setCell (p:=⟨w3.heap.size+1,0,none⟩) (Nat.le_succ_of_le k1) _).setCell (p:=⟨w3.heap.size+1,1,none⟩) (Nat.le_succ_of_le k1) _).setCell (p:=⟨w3.heap.size+1,2,none⟩) (Nat.le_succ_of_le k1) _)
 have x0:=hB4.cell 0
 have x1:=hB4.cell 1
 have x2:=hB4.cell 2
 have y0:=hB5.cell 0
 have y1:=hB5.cell 1
 have y2:=hB5.cell 2
 have fx0:=hB4.frozen 0
 have fx1:=hB4.frozen 1
 have fx2:=hB4.frozen 2
 have fy0:=hB5.frozen 0
 have fy1:=hB5.frozen 1
 have fy2:=hB5.frozen 2
 simp only[List.getElem?_cons_zero,List.getElem?_cons_succ]at x0 x1 x2 y0 y1 y2
 clear hB3 hBb3 hbw3 hb5 hB4 hB5 hne1 hne2
 rcases hkd with rfl |rfl |rfl |rfl |rfl |rfl
 ·go_upto_region 4 with(fail)
  refine gen_world (HeadR w w3.heap.size (w3.heap.size+1)) HH.out λV0 hV0 =>?_
  clear HH x0 x1 x2 y0 y1 y2 fx0 fx1 fx2 fy0 fy1 fy2 hW5
  obtain⟨g4,hg4⟩:∃g4,g4=w3.heap.size:=⟨_,rfl⟩
  obtain⟨g5,hg5⟩:∃g5,g5=w3.heap.size+1:=⟨_,rfl⟩
  rw[<- hg5,<- hg4]at hV0
  rw[<- hg5,<- hg4]
  clear hg4 hg5 h45
  obtain⟨g6,hR,h4,h5,h6,hbw⟩:=hV0
  go_wp2_with (go_at_call 233;refine(is_any _ _).mono ?_)
  rintro e Va1 ⟨ga1,rfl,hF11,hga,hb1⟩
  have hR:=hR.below hb1 hR.lt
  have h4:=h4.below hb1 h4.lt
  have h5:=h5.below hb1 h5.lt
  have h6:=h6.below hb1 h6.lt
  have hbw:=bt hbw hb1
  clear hb1
  clear hga
  go_wp2_with (go_at_call 236;refine(many_any _ _ _ _).mono ?_)
  rintro e Vb1 ⟨rfl,hc1⟩
  have hR:=hR.below hc1 hR.lt
  have h4:=h4.below hc1 h4.lt
  have h5:=h5.below hc1 h5.lt
  have h6:=h6.below hc1 h6.lt
  have hF11:=hF11.below hc1 hF11.lt
  have hbw:=bt hbw hc1
  clear hc1
  go_wp2_with (go_at_call 233;refine(is_any _ _).mono ?_)
  rintro e Va2 ⟨ga2,rfl,hF12,hga,hb2⟩
  have hR:=hR.below hb2 hR.lt
  have h4:=h4.below hb2 h4.lt
  have h5:=h5.below hb2 h5.lt
  have h6:=h6.below hb2 h6.lt
  have hF11:=hF11.below hb2 hF11.lt
  have hbw:=bt hbw hb2
  clear hb2
  clear hga
  go_wp2_with (go_at_call 236;refine(many_any _ _ _ _).mono ?_)
  rintro e Vb2 ⟨rfl,hc2⟩
  have hR:=hR.below hc2 hR.lt
  have h4:=h4.below hc2 h4.lt
  have h5:=h5.below hc2 h5.lt
  have h6:=h6.below hc2 h6.lt
  have hF11:=hF11.below hc2 hF11.lt
  have hF12:=hF12.below hc2 hF12.lt
  have hbw:=bt hbw hc2
  clear hc2
  have v0:=(h4.cell 0).trans rfl
  have v1:=(h4.cell 1).trans rfl
  have v2:=(h4.cell 2).trans rfl
  have u0:=(h5.cell 0).trans rfl
  have u1:=(h5.cell 1).trans rfl
  have u2:=(h5.cell 2).trans rfl
  have hP:=Bx.new Vb2 226 [.func (.func 265) #[] #[.pointer (some ⟨ga1,0,none⟩)],.int .i64 0,.int .i64 9223372036854775807,.func (.func 265) #[] #[.pointer (some ⟨ga2,0,none⟩)],.int .i64 0,.int .i64 9223372036854775807]
  have hbP:=heap1 Vb2 (.cells #[.func (.func 265) #[] #[.pointer (some ⟨ga1,0,none⟩)],.int .i64 0,.int .i64 9223372036854775807,.func (.func 265) #[] #[.pointer (some ⟨ga2,0,none⟩)],.int .i64 0,.int .i64 9223372036854775807] 226)
  have hR:=hR.below hbP hR.lt
  have h4:=h4.below hbP h4.lt
  have h5:=h5.below hbP h5.lt
  have h6:=h6.below hbP h6.lt
  have hF11:=hF11.below hbP hF11.lt
  have hF12:=hF12.below hbP hF12.lt
  have hbw:=bt hbw hbP
  clear hbP
  go_wp2_with (go_at_call 235;refine(row_any _ _ _ _).mono ?_)
  rintro e V9 ⟨g,rfl,hBg,hgl,hb9⟩
  have hR:=hR.below hb9 hR.lt
  have h4:=h4.below hb9 h4.lt
  have h5:=h5.below hb9 h5.lt
  have h6:=h6.below hb9 h6.lt
  have hP:=hP.below hb9 hP.lt
  have hF11:=hF11.below hb9 hF11.lt
  have hF12:=hF12.below hb9 hF12.lt
  have hbw:=bt hbw hb9
  have hpe:partsOf 1=[pMany (isB 2),pMany (isB 3)]:=by rfl
  have HRF:=hid (show RowAt _ g (partsOf 1)from by
   rw[hpe]
   have hBg:=far4 hR hBg (by decide) (.func (.func 234) #[] #[]) (.int .i64 0) (.int .i64 0) (.func (.func 266) #[] #[.pointer (some ⟨g,0,none⟩)])
   have hP:=far4 hR hP (by decide) (.func (.func 234) #[] #[]) (.int .i64 0) (.int .i64 0) (.func (.func 266) #[] #[.pointer (some ⟨g,0,none⟩)])
   have h6:=far4 hR h6 (by decide) (.func (.func 234) #[] #[]) (.int .i64 0) (.int .i64 0) (.func (.func 266) #[] #[.pointer (some ⟨g,0,none⟩)])
   have hF11:=far4 hR hF11 (by decide) (.func (.func 234) #[] #[]) (.int .i64 0) (.int .i64 0) (.func (.func 266) #[] #[.pointer (some ⟨g,0,none⟩)])
   have hF12:=far4 hR hF12 (by decide) (.func (.func 234) #[] #[]) (.int .i64 0) (.int .i64 0) (.func (.func 266) #[] #[.pointer (some ⟨g,0,none⟩)])
   refine⟨_,_,_,(hBg.cell 0).trans rfl,parts_of hP.lt (λj hj =>?_),rfl,hBg.lt⟩
   match j,hj with
   |0,_=>exact⟨_,_,(hP.cell 0).trans rfl,(hP.cell 1).trans rfl,(hP.cell 2).trans rfl,.inl ⟨ga1,2,rfl,rfl,(hF11.cell 0).trans rfl,hF11.lt,rfl⟩,show(9223372036854775807:Nat)<=9223372036854775807 by omega⟩
   |1,_=>exact⟨_,_,(hP.cell 3).trans rfl,(hP.cell 4).trans rfl,(hP.cell 5).trans rfl,.inl ⟨ga2,3,rfl,rfl,(hF12.cell 0).trans rfl,hF12.lt,rfl⟩,show(9223372036854775807:Nat)<=9223372036854775807 by omega⟩
   |k+2,h=>exact absurd h (by simp only[List.length_cons,List.length_nil];omega))
  have hE:=(((hR.set_ 0 (.func (.func 234) #[] #[])).set_ 1 (.int .i64 (loB 1))).set_ 2 (.int .i64 (hiB 1))).set_ 3 (.func (.func 266) #[] #[.pointer (some ⟨g,0,none⟩)])
  have hbE:=(((hbw.setCell (p:=⟨w.heap.size,0,none⟩) (Nat.le_refl _) (.func (.func 234) #[] #[])).setCell (p:=⟨w.heap.size,1,none⟩) (Nat.le_refl _) (.int .i64 (loB 1))).setCell (p:=⟨w.heap.size,2,none⟩) (Nat.le_refl _) (.int .i64 (hiB 1))).setCell (p:=⟨w.heap.size,3,none⟩) (Nat.le_refl _) (.func (.func 266) #[] #[.pointer (some ⟨g,0,none⟩)])
  have hlo:loB 1=0:=by rfl
  have hhi:hiB 1=0:=by rfl
  rw[hlo,hhi]at hE hbE
  simp only[List.set_cons_zero,List.set_cons_succ]at hE
  have HH:=hid (And.intro hE hbE)
  have r0:=(hR.cell 0).trans rfl
  have fr0:=hR.frozen 0
  have r1:=(hR.cell 1).trans rfl
  have fr1:=hR.frozen 1
  have r2:=(hR.cell 2).trans rfl
  have fr2:=hR.frozen 2
  have r3:=(hR.cell 3).trans rfl
  have fr3:=hR.frozen 3
  clear hE hbE v0 v1 v2 u0 u1 u2 hR h4 h5 hbw hBg hgl h6 hP hF11 hF12 hb9 hpe hlo hhi
  go_wp2
  obtain⟨hE,hbE⟩:=HH.out
  have z0:=(hE.cell 0).trans rfl
  have z1:=(hE.cell 1).trans rfl
  have z2:=(hE.cell 2).trans rfl
  have z3:=(hE.cell 3).trans rfl
  have HRF:=HRF.out
  generalize (((V9.setCell ⟨w.heap.size,0,none⟩ (.func (.func 234) #[] #[])).setCell ⟨w.heap.size,1,none⟩ (.int .i64 0)).setCell ⟨w.heap.size,2,none⟩ (.int .i64 0)).setCell ⟨w.heap.size,3,none⟩ (.func (.func 266) #[] #[.pointer (some ⟨g,0,none⟩)])=WE at *
  exact bodyPost_ret (v :=.tuple #[.agg #[.func (.func 234) #[] #[],.int .i64 0,.int .i64 0,.func (.func 266) #[] #[.pointer (some ⟨g,0,none⟩)]],.bool true]) (by simp[results,Tryz.f203,go_sem,z0,z1,z2,z3]) rfl ⟨g,rfl,HRF,hbE⟩
 ·go_upto_region 8 with(fail)
  refine gen_world (HeadR w w3.heap.size (w3.heap.size+1)) HH.out λV0 hV0 =>?_
  clear HH x0 x1 x2 y0 y1 y2 fx0 fx1 fx2 fy0 fy1 fy2 hW5
  obtain⟨g4,hg4⟩:∃g4,g4=w3.heap.size:=⟨_,rfl⟩
  obtain⟨g5,hg5⟩:∃g5,g5=w3.heap.size+1:=⟨_,rfl⟩
  rw[<- hg5,<- hg4]at hV0
  rw[<- hg5,<- hg4]
  clear hg4 hg5 h45
  obtain⟨g6,hR,h4,h5,h6,hbw⟩:=hV0
  have v0:=(h4.cell 0).trans rfl
  have v1:=(h4.cell 1).trans rfl
  have v2:=(h4.cell 2).trans rfl
  have u0:=(h5.cell 0).trans rfl
  have u1:=(h5.cell 1).trans rfl
  have u2:=(h5.cell 2).trans rfl
  go_wp2_with (go_at_call 235;refine(row_any _ _ _ _).mono ?_)
  rintro e V9 ⟨g,rfl,hBg,hgl,hb9⟩
  have hR:=hR.below hb9 hR.lt
  have h4:=h4.below hb9 h4.lt
  have h5:=h5.below hb9 h5.lt
  have h6:=h6.below hb9 h6.lt
  have hbw:=bt hbw hb9
  have hpe:partsOf 2=[]:=by rfl
  have HRF:=hid (show RowAt _ g (partsOf 2)from by rw[hpe];have hBg:=far4 hR hBg (by decide) (.func (.func 208) #[] #[]) (.int .i64 1) (.int .i64 4) (.func (.func 266) #[] #[.pointer (some ⟨g,0,none⟩)]);exact⟨_,_,_,(hBg.cell 0).trans rfl,λh=>absurd h (by decide),rfl,hBg.lt⟩)
  have hE:=(((hR.set_ 0 (.func (.func 208) #[] #[])).set_ 1 (.int .i64 (loB 2))).set_ 2 (.int .i64 (hiB 2))).set_ 3 (.func (.func 266) #[] #[.pointer (some ⟨g,0,none⟩)])
  have hbE:=(((hbw.setCell (p:=⟨w.heap.size,0,none⟩) (Nat.le_refl _) (.func (.func 208) #[] #[])).setCell (p:=⟨w.heap.size,1,none⟩) (Nat.le_refl _) (.int .i64 (loB 2))).setCell (p:=⟨w.heap.size,2,none⟩) (Nat.le_refl _) (.int .i64 (hiB 2))).setCell (p:=⟨w.heap.size,3,none⟩) (Nat.le_refl _) (.func (.func 266) #[] #[.pointer (some ⟨g,0,none⟩)])
  have hlo:loB 2=1:=by rfl
  have hhi:hiB 2=4:=by rfl
  rw[hlo,hhi]at hE hbE
  simp only[List.set_cons_zero,List.set_cons_succ]at hE
  have HH:=hid (And.intro hE hbE)
  have r0:=(hR.cell 0).trans rfl
  have fr0:=hR.frozen 0
  have r1:=(hR.cell 1).trans rfl
  have fr1:=hR.frozen 1
  have r2:=(hR.cell 2).trans rfl
  have fr2:=hR.frozen 2
  have r3:=(hR.cell 3).trans rfl
  have fr3:=hR.frozen 3
  clear hE hbE v0 v1 v2 u0 u1 u2 hR h4 h5 hbw hBg hgl h6 hb9 hpe hlo hhi
  go_wp2
  obtain⟨hE,hbE⟩:=HH.out
  have z0:=(hE.cell 0).trans rfl
  have z1:=(hE.cell 1).trans rfl
  have z2:=(hE.cell 2).trans rfl
  have z3:=(hE.cell 3).trans rfl
  have HRF:=HRF.out
  generalize (((V9.setCell ⟨w.heap.size,0,none⟩ (.func (.func 208) #[] #[])).setCell ⟨w.heap.size,1,none⟩ (.int .i64 1)).setCell ⟨w.heap.size,2,none⟩ (.int .i64 4)).setCell ⟨w.heap.size,3,none⟩ (.func (.func 266) #[] #[.pointer (some ⟨g,0,none⟩)])=WE at *
  exact bodyPost_ret (v :=.tuple #[.agg #[.func (.func 208) #[] #[],.int .i64 1,.int .i64 4,.func (.func 266) #[] #[.pointer (some ⟨g,0,none⟩)]],.bool true]) (by simp[results,Tryz.f203,go_sem,z0,z1,z2,z3]) rfl ⟨g,rfl,HRF,hbE⟩
 ·go_upto_region 8 with(fail)
  refine gen_world (HeadR w w3.heap.size (w3.heap.size+1)) HH.out λV0 hV0 =>?_
  clear HH x0 x1 x2 y0 y1 y2 fx0 fx1 fx2 fy0 fy1 fy2 hW5
  obtain⟨g4,hg4⟩:∃g4,g4=w3.heap.size:=⟨_,rfl⟩
  obtain⟨g5,hg5⟩:∃g5,g5=w3.heap.size+1:=⟨_,rfl⟩
  rw[<- hg5,<- hg4]at hV0
  rw[<- hg5,<- hg4]
  clear hg4 hg5 h45
  obtain⟨g6,hR,h4,h5,h6,hbw⟩:=hV0
  have v0:=(h4.cell 0).trans rfl
  have v1:=(h4.cell 1).trans rfl
  have v2:=(h4.cell 2).trans rfl
  have u0:=(h5.cell 0).trans rfl
  have u1:=(h5.cell 1).trans rfl
  have u2:=(h5.cell 2).trans rfl
  go_wp2_with (go_at_call 235;refine(row_any _ _ _ _).mono ?_)
  rintro e V9 ⟨g,rfl,hBg,hgl,hb9⟩
  have hR:=hR.below hb9 hR.lt
  have h4:=h4.below hb9 h4.lt
  have h5:=h5.below hb9 h5.lt
  have h6:=h6.below hb9 h6.lt
  have hbw:=bt hbw hb9
  have hpe:partsOf 4=[]:=by rfl
  have HRF:=hid (show RowAt _ g (partsOf 4)from by rw[hpe];have hBg:=far4 hR hBg (by decide) (.func (.func 208) #[] #[]) (.int .i64 1) (.int .i64 4) (.func (.func 266) #[] #[.pointer (some ⟨g,0,none⟩)]);exact⟨_,_,_,(hBg.cell 0).trans rfl,λh=>absurd h (by decide),rfl,hBg.lt⟩)
  have hE:=(((hR.set_ 0 (.func (.func 208) #[] #[])).set_ 1 (.int .i64 (loB 4))).set_ 2 (.int .i64 (hiB 4))).set_ 3 (.func (.func 266) #[] #[.pointer (some ⟨g,0,none⟩)])
  have hbE:=(((hbw.setCell (p:=⟨w.heap.size,0,none⟩) (Nat.le_refl _) (.func (.func 208) #[] #[])).setCell (p:=⟨w.heap.size,1,none⟩) (Nat.le_refl _) (.int .i64 (loB 4))).setCell (p:=⟨w.heap.size,2,none⟩) (Nat.le_refl _) (.int .i64 (hiB 4))).setCell (p:=⟨w.heap.size,3,none⟩) (Nat.le_refl _) (.func (.func 266) #[] #[.pointer (some ⟨g,0,none⟩)])
  have hlo:loB 4=1:=by rfl
  have hhi:hiB 4=4:=by rfl
  rw[hlo,hhi]at hE hbE
  simp only[List.set_cons_zero,List.set_cons_succ]at hE
  have HH:=hid (And.intro hE hbE)
  have r0:=(hR.cell 0).trans rfl
  have fr0:=hR.frozen 0
  have r1:=(hR.cell 1).trans rfl
  have fr1:=hR.frozen 1
  have r2:=(hR.cell 2).trans rfl
  have fr2:=hR.frozen 2
  have r3:=(hR.cell 3).trans rfl
  have fr3:=hR.frozen 3
  clear hE hbE v0 v1 v2 u0 u1 u2 hR h4 h5 hbw hBg hgl h6 hb9 hpe hlo hhi
  go_wp2
  obtain⟨hE,hbE⟩:=HH.out
  have z0:=(hE.cell 0).trans rfl
  have z1:=(hE.cell 1).trans rfl
  have z2:=(hE.cell 2).trans rfl
  have z3:=(hE.cell 3).trans rfl
  have HRF:=HRF.out
  generalize (((V9.setCell ⟨w.heap.size,0,none⟩ (.func (.func 208) #[] #[])).setCell ⟨w.heap.size,1,none⟩ (.int .i64 1)).setCell ⟨w.heap.size,2,none⟩ (.int .i64 4)).setCell ⟨w.heap.size,3,none⟩ (.func (.func 266) #[] #[.pointer (some ⟨g,0,none⟩)])=WE at *
  exact bodyPost_ret (v :=.tuple #[.agg #[.func (.func 208) #[] #[],.int .i64 1,.int .i64 4,.func (.func 266) #[] #[.pointer (some ⟨g,0,none⟩)]],.bool true]) (by simp[results,Tryz.f203,go_sem,z0,z1,z2,z3]) rfl ⟨g,rfl,HRF,hbE⟩
 ·go_upto_region 8 with(fail)
  refine gen_world (HeadR w w3.heap.size (w3.heap.size+1)) HH.out λV0 hV0 =>?_
  clear HH x0 x1 x2 y0 y1 y2 fx0 fx1 fx2 fy0 fy1 fy2 hW5
  obtain⟨g4,hg4⟩:∃g4,g4=w3.heap.size:=⟨_,rfl⟩
  obtain⟨g5,hg5⟩:∃g5,g5=w3.heap.size+1:=⟨_,rfl⟩
  rw[<- hg5,<- hg4]at hV0
  rw[<- hg5,<- hg4]
  clear hg4 hg5 h45
  obtain⟨g6,hR,h4,h5,h6,hbw⟩:=hV0
  have v0:=(h4.cell 0).trans rfl
  have v1:=(h4.cell 1).trans rfl
  have v2:=(h4.cell 2).trans rfl
  have u0:=(h5.cell 0).trans rfl
  have u1:=(h5.cell 1).trans rfl
  have u2:=(h5.cell 2).trans rfl
  go_wp2_with (go_at_call 235;refine(row_any _ _ _ _).mono ?_)
  rintro e V9 ⟨g,rfl,hBg,hgl,hb9⟩
  have hR:=hR.below hb9 hR.lt
  have h4:=h4.below hb9 h4.lt
  have h5:=h5.below hb9 h5.lt
  have h6:=h6.below hb9 h6.lt
  have hbw:=bt hbw hb9
  have hpe:partsOf 5=[]:=by rfl
  have HRF:=hid (show RowAt _ g (partsOf 5)from by rw[hpe];have hBg:=far4 hR hBg (by decide) (.func (.func 208) #[] #[]) (.int .i64 1) (.int .i64 4) (.func (.func 266) #[] #[.pointer (some ⟨g,0,none⟩)]);exact⟨_,_,_,(hBg.cell 0).trans rfl,λh=>absurd h (by decide),rfl,hBg.lt⟩)
  have hE:=(((hR.set_ 0 (.func (.func 208) #[] #[])).set_ 1 (.int .i64 (loB 5))).set_ 2 (.int .i64 (hiB 5))).set_ 3 (.func (.func 266) #[] #[.pointer (some ⟨g,0,none⟩)])
  have hbE:=(((hbw.setCell (p:=⟨w.heap.size,0,none⟩) (Nat.le_refl _) (.func (.func 208) #[] #[])).setCell (p:=⟨w.heap.size,1,none⟩) (Nat.le_refl _) (.int .i64 (loB 5))).setCell (p:=⟨w.heap.size,2,none⟩) (Nat.le_refl _) (.int .i64 (hiB 5))).setCell (p:=⟨w.heap.size,3,none⟩) (Nat.le_refl _) (.func (.func 266) #[] #[.pointer (some ⟨g,0,none⟩)])
  have hlo:loB 5=1:=by rfl
  have hhi:hiB 5=4:=by rfl
  rw[hlo,hhi]at hE hbE
  simp only[List.set_cons_zero,List.set_cons_succ]at hE
  have HH:=hid (And.intro hE hbE)
  have r0:=(hR.cell 0).trans rfl
  have fr0:=hR.frozen 0
  have r1:=(hR.cell 1).trans rfl
  have fr1:=hR.frozen 1
  have r2:=(hR.cell 2).trans rfl
  have fr2:=hR.frozen 2
  have r3:=(hR.cell 3).trans rfl
  have fr3:=hR.frozen 3
  clear hE hbE v0 v1 v2 u0 u1 u2 hR h4 h5 hbw hBg hgl h6 hb9 hpe hlo hhi
  go_wp2
  obtain⟨hE,hbE⟩:=HH.out
  have z0:=(hE.cell 0).trans rfl
  have z1:=(hE.cell 1).trans rfl
  have z2:=(hE.cell 2).trans rfl
  have z3:=(hE.cell 3).trans rfl
  have HRF:=HRF.out
  generalize (((V9.setCell ⟨w.heap.size,0,none⟩ (.func (.func 208) #[] #[])).setCell ⟨w.heap.size,1,none⟩ (.int .i64 1)).setCell ⟨w.heap.size,2,none⟩ (.int .i64 4)).setCell ⟨w.heap.size,3,none⟩ (.func (.func 266) #[] #[.pointer (some ⟨g,0,none⟩)])=WE at *
  exact bodyPost_ret (v :=.tuple #[.agg #[.func (.func 208) #[] #[],.int .i64 1,.int .i64 4,.func (.func 266) #[] #[.pointer (some ⟨g,0,none⟩)]],.bool true]) (by simp[results,Tryz.f203,go_sem,z0,z1,z2,z3]) rfl ⟨g,rfl,HRF,hbE⟩
 ·go_upto_region 12 with(fail)
  refine gen_world (HeadR w w3.heap.size (w3.heap.size+1)) HH.out λV0 hV0 =>?_
  clear HH x0 x1 x2 y0 y1 y2 fx0 fx1 fx2 fy0 fy1 fy2 hW5
  obtain⟨g4,hg4⟩:∃g4,g4=w3.heap.size:=⟨_,rfl⟩
  obtain⟨g5,hg5⟩:∃g5,g5=w3.heap.size+1:=⟨_,rfl⟩
  rw[<- hg5,<- hg4]at hV0
  rw[<- hg5,<- hg4]
  clear hg4 hg5 h45
  obtain⟨g6,hR,h4,h5,h6,hbw⟩:=hV0
  go_wp2_with (go_at_call 236;refine(many_any _ _ _ _).mono ?_)
  rintro e Vb1 ⟨rfl,hc1⟩
  have hR:=hR.below hc1 hR.lt
  have h4:=h4.below hc1 h4.lt
  have h5:=h5.below hc1 h5.lt
  have h6:=h6.below hc1 h6.lt
  have hbw:=bt hbw hc1
  clear hc1
  have v0:=(h4.cell 0).trans rfl
  have v1:=(h4.cell 1).trans rfl
  have v2:=(h4.cell 2).trans rfl
  have u0:=(h5.cell 0).trans rfl
  have u1:=(h5.cell 1).trans rfl
  have u2:=(h5.cell 2).trans rfl
  have hP:=Bx.new Vb1 226 [.func (.func 237) #[] #[],.int .i64 0,.int .i64 9223372036854775807]
  have hbP:=heap1 Vb1 (.cells #[.func (.func 237) #[] #[],.int .i64 0,.int .i64 9223372036854775807] 226)
  have hR:=hR.below hbP hR.lt
  have h4:=h4.below hbP h4.lt
  have h5:=h5.below hbP h5.lt
  have h6:=h6.below hbP h6.lt
  have hbw:=bt hbw hbP
  clear hbP
  go_wp2_with (go_at_call 235;refine(row_any _ _ _ _).mono ?_)
  rintro e V9 ⟨g,rfl,hBg,hgl,hb9⟩
  have hR:=hR.below hb9 hR.lt
  have h4:=h4.below hb9 h4.lt
  have h5:=h5.below hb9 h5.lt
  have h6:=h6.below hb9 h6.lt
  have hP:=hP.below hb9 hP.lt
  have hbw:=bt hbw hb9
  have hpe:partsOf 6=[pMany (stmB)]:=by rfl
  have HRF:=hid (show RowAt _ g (partsOf 6)from by
   rw[hpe]
   have hBg:=far4 hR hBg (by decide) (.func (.func 234) #[] #[]) (.int .i64 0) (.int .i64 0) (.func (.func 266) #[] #[.pointer (some ⟨g,0,none⟩)])
   have hP:=far4 hR hP (by decide) (.func (.func 234) #[] #[]) (.int .i64 0) (.int .i64 0) (.func (.func 266) #[] #[.pointer (some ⟨g,0,none⟩)])
   have h6:=far4 hR h6 (by decide) (.func (.func 234) #[] #[]) (.int .i64 0) (.int .i64 0) (.func (.func 266) #[] #[.pointer (some ⟨g,0,none⟩)])
   refine⟨_,_,_,(hBg.cell 0).trans rfl,parts_of hP.lt (λj hj =>?_),rfl,hBg.lt⟩
   match j,hj with
   |0,_=>exact⟨_,_,(hP.cell 0).trans rfl,(hP.cell 1).trans rfl,(hP.cell 2).trans rfl,(.inr (.inr ⟨rfl,rfl,rfl⟩)),show(9223372036854775807:Nat)<=9223372036854775807 by omega⟩
   |k+1,h=>exact absurd h (by simp only[List.length_cons,List.length_nil];omega))
  have hE:=(((hR.set_ 0 (.func (.func 234) #[] #[])).set_ 1 (.int .i64 (loB 6))).set_ 2 (.int .i64 (hiB 6))).set_ 3 (.func (.func 266) #[] #[.pointer (some ⟨g,0,none⟩)])
  have hbE:=(((hbw.setCell (p:=⟨w.heap.size,0,none⟩) (Nat.le_refl _) (.func (.func 234) #[] #[])).setCell (p:=⟨w.heap.size,1,none⟩) (Nat.le_refl _) (.int .i64 (loB 6))).setCell (p:=⟨w.heap.size,2,none⟩) (Nat.le_refl _) (.int .i64 (hiB 6))).setCell (p:=⟨w.heap.size,3,none⟩) (Nat.le_refl _) (.func (.func 266) #[] #[.pointer (some ⟨g,0,none⟩)])
  have hlo:loB 6=0:=by rfl
  have hhi:hiB 6=0:=by rfl
  rw[hlo,hhi]at hE hbE
  simp only[List.set_cons_zero,List.set_cons_succ]at hE
  have HH:=hid (And.intro hE hbE)
  have r0:=(hR.cell 0).trans rfl
  have fr0:=hR.frozen 0
  have r1:=(hR.cell 1).trans rfl
  have fr1:=hR.frozen 1
  have r2:=(hR.cell 2).trans rfl
  have fr2:=hR.frozen 2
  have r3:=(hR.cell 3).trans rfl
  have fr3:=hR.frozen 3
  clear hE hbE v0 v1 v2 u0 u1 u2 hR h4 h5 hbw hBg hgl h6 hP hb9 hpe hlo hhi
  go_wp2
  obtain⟨hE,hbE⟩:=HH.out
  have z0:=(hE.cell 0).trans rfl
  have z1:=(hE.cell 1).trans rfl
  have z2:=(hE.cell 2).trans rfl
  have z3:=(hE.cell 3).trans rfl
  have HRF:=HRF.out
  generalize (((V9.setCell ⟨w.heap.size,0,none⟩ (.func (.func 234) #[] #[])).setCell ⟨w.heap.size,1,none⟩ (.int .i64 0)).setCell ⟨w.heap.size,2,none⟩ (.int .i64 0)).setCell ⟨w.heap.size,3,none⟩ (.func (.func 266) #[] #[.pointer (some ⟨g,0,none⟩)])=WE at *
  exact bodyPost_ret (v :=.tuple #[.agg #[.func (.func 234) #[] #[],.int .i64 0,.int .i64 0,.func (.func 266) #[] #[.pointer (some ⟨g,0,none⟩)]],.bool true]) (by simp[results,Tryz.f203,go_sem,z0,z1,z2,z3]) rfl ⟨g,rfl,HRF,hbE⟩
 ·go_upto_region 16 with(fail)
  refine gen_world (HeadR w w3.heap.size (w3.heap.size+1)) HH.out λV0 hV0 =>?_
  clear HH x0 x1 x2 y0 y1 y2 fx0 fx1 fx2 fy0 fy1 fy2 hW5
  obtain⟨g4,hg4⟩:∃g4,g4=w3.heap.size:=⟨_,rfl⟩
  obtain⟨g5,hg5⟩:∃g5,g5=w3.heap.size+1:=⟨_,rfl⟩
  rw[<- hg5,<- hg4]at hV0
  rw[<- hg5,<- hg4]
  clear hg4 hg5 h45
  obtain⟨g6,hR,h4,h5,h6,hbw⟩:=hV0
  have v0:=(h4.cell 0).trans rfl
  have v1:=(h4.cell 1).trans rfl
  have v2:=(h4.cell 2).trans rfl
  have u0:=(h5.cell 0).trans rfl
  have u1:=(h5.cell 1).trans rfl
  have u2:=(h5.cell 2).trans rfl
  have hP:=Bx.new V0 226 [.func (.func 232) #[] #[],.int .i64 1,.int .i64 1]
  have hbP:=heap1 V0 (.cells #[.func (.func 232) #[] #[],.int .i64 1,.int .i64 1] 226)
  have hR:=hR.below hbP hR.lt
  have h4:=h4.below hbP h4.lt
  have h5:=h5.below hbP h5.lt
  have h6:=h6.below hbP h6.lt
  have hbw:=bt hbw hbP
  clear hbP
  go_wp2_with (go_at_call 235;refine(row_any _ _ _ _).mono ?_)
  rintro e V9 ⟨g,rfl,hBg,hgl,hb9⟩
  have hR:=hR.below hb9 hR.lt
  have h4:=h4.below hb9 h4.lt
  have h5:=h5.below hb9 h5.lt
  have h6:=h6.below hb9 h6.lt
  have hP:=hP.below hb9 hP.lt
  have hbw:=bt hbw hb9
  have hpe:partsOf 7=[pOne (expB)]:=by rfl
  have HRF:=hid (show RowAt _ g (partsOf 7)from by
   rw[hpe]
   have hBg:=far4 hR hBg (by decide) (.func (.func 208) #[] #[]) (.int .i64 0) (.int .i64 0) (.func (.func 266) #[] #[.pointer (some ⟨g,0,none⟩)])
   have hP:=far4 hR hP (by decide) (.func (.func 208) #[] #[]) (.int .i64 0) (.int .i64 0) (.func (.func 266) #[] #[.pointer (some ⟨g,0,none⟩)])
   have h6:=far4 hR h6 (by decide) (.func (.func 208) #[] #[]) (.int .i64 0) (.int .i64 0) (.func (.func 266) #[] #[.pointer (some ⟨g,0,none⟩)])
   refine⟨_,_,_,(hBg.cell 0).trans rfl,parts_of hP.lt (λj hj =>?_),rfl,hBg.lt⟩
   match j,hj with
   |0,_=>exact⟨_,_,(hP.cell 0).trans rfl,(hP.cell 1).trans rfl,(hP.cell 2).trans rfl,(.inr (.inl ⟨rfl,rfl,rfl⟩)),show(1:Nat)<=9223372036854775807 by omega⟩
   |k+1,h=>exact absurd h (by simp only[List.length_cons,List.length_nil];omega))
  have hE:=(((hR.set_ 0 (.func (.func 208) #[] #[])).set_ 1 (.int .i64 (loB 7))).set_ 2 (.int .i64 (hiB 7))).set_ 3 (.func (.func 266) #[] #[.pointer (some ⟨g,0,none⟩)])
  have hbE:=(((hbw.setCell (p:=⟨w.heap.size,0,none⟩) (Nat.le_refl _) (.func (.func 208) #[] #[])).setCell (p:=⟨w.heap.size,1,none⟩) (Nat.le_refl _) (.int .i64 (loB 7))).setCell (p:=⟨w.heap.size,2,none⟩) (Nat.le_refl _) (.int .i64 (hiB 7))).setCell (p:=⟨w.heap.size,3,none⟩) (Nat.le_refl _) (.func (.func 266) #[] #[.pointer (some ⟨g,0,none⟩)])
  have hlo:loB 7=0:=by rfl
  have hhi:hiB 7=0:=by rfl
  rw[hlo,hhi]at hE hbE
  simp only[List.set_cons_zero,List.set_cons_succ]at hE
  have HH:=hid (And.intro hE hbE)
  have r0:=(hR.cell 0).trans rfl
  have fr0:=hR.frozen 0
  have r1:=(hR.cell 1).trans rfl
  have fr1:=hR.frozen 1
  have r2:=(hR.cell 2).trans rfl
  have fr2:=hR.frozen 2
  have r3:=(hR.cell 3).trans rfl
  have fr3:=hR.frozen 3
  clear hE hbE v0 v1 v2 u0 u1 u2 hR h4 h5 hbw hBg hgl h6 hP hb9 hpe hlo hhi
  go_wp2
  obtain⟨hE,hbE⟩:=HH.out
  have z0:=(hE.cell 0).trans rfl
  have z1:=(hE.cell 1).trans rfl
  have z2:=(hE.cell 2).trans rfl
  have z3:=(hE.cell 3).trans rfl
  have HRF:=HRF.out
  generalize (((V9.setCell ⟨w.heap.size,0,none⟩ (.func (.func 208) #[] #[])).setCell ⟨w.heap.size,1,none⟩ (.int .i64 0)).setCell ⟨w.heap.size,2,none⟩ (.int .i64 0)).setCell ⟨w.heap.size,3,none⟩ (.func (.func 266) #[] #[.pointer (some ⟨g,0,none⟩)])=WE at *
  exact bodyPost_ret (v :=.tuple #[.agg #[.func (.func 208) #[] #[],.int .i64 0,.int .i64 0,.func (.func 266) #[] #[.pointer (some ⟨g,0,none⟩)]],.bool true]) (by simp[results,Tryz.f203,go_sem,z0,z1,z2,z3]) rfl ⟨g,rfl,HRF,hbE⟩
theorem shape_1 (w:World):Calls Tryz.prog 203 #[.int .i64 1] w (ShPost 1 w):=shapes_1_2_4_5_6_7 w 1 (by simp)
theorem shape_2 (w:World):Calls Tryz.prog 203 #[.int .i64 2] w (ShPost 2 w):=shapes_1_2_4_5_6_7 w 2 (by simp)
theorem shape_4 (w:World):Calls Tryz.prog 203 #[.int .i64 4] w (ShPost 4 w):=shapes_1_2_4_5_6_7 w 4 (by simp)
theorem shape_5 (w:World):Calls Tryz.prog 203 #[.int .i64 5] w (ShPost 5 w):=shapes_1_2_4_5_6_7 w 5 (by simp)
theorem shape_6 (w:World):Calls Tryz.prog 203 #[.int .i64 6] w (ShPost 6 w):=shapes_1_2_4_5_6_7 w 6 (by simp)
theorem shape_7 (w:World):Calls Tryz.prog 203 #[.int .i64 7] w (ShPost 7 w):=shapes_1_2_4_5_6_7 w 7 (by simp)
set_option maxRecDepth 100000 in
set_option maxHeartbeats 20000000 in
theorem shapes_8_9_11_12_13_17_23 (w:World)(kd:Int)(hkd:kd=8\/kd=9\/kd=11\/kd=12\/kd=13\/kd=17\/kd=23):Calls Tryz.prog 203 #[.int .i64 kd] w (ShPost kd w):=by
 have hst:=st_func
 have hb0:Below w.heap.size w (w.alloc (.cells #[.nilFunc,.int .i64 0,.int .i64 0,.nilFunc] 209)):=heap1 _ _
 have hB0:=Bx.new w 209 [.nilFunc,.int .i64 0,.int .i64 0,.nilFunc]
 go_enter Tryz.func203,Tryz.ntmps203
 go_wp2_with (go_at_call 231;refine(one_any _ _ _ _).mono ?_)
 rintro e w1 ⟨rfl,hb1⟩
 go_wp2_with (go_at_call 233;refine(is_any _ _).mono ?_)
 rintro e w2 ⟨gb,rfl,hBb,hgb,hb2⟩
 go_wp2_with (go_at_call 231;refine(one_any _ _ _ _).mono ?_)
 rintro e w3 ⟨rfl,hb3⟩
 have hB3:=((hB0.below hb1 hB0.lt).below hb2 (hB0.below hb1 hB0.lt).lt).below hb3 ((hB0.below hb1 hB0.lt).below hb2 (hB0.below hb1 hB0.lt).lt).lt
 have hBb3:=hBb.below hb3 hBb.lt
 have hbw3:=bt (bt (bt hb0 hb1) hb2) hb3
 clear hb0 hb1 hb2 hb3 hB0 hBb hgb
 obtain⟨W5,hW5⟩:∃W5,(w3.alloc (.cells #[.nilFunc,.int .i64 0,.int .i64 0] 226)).alloc (.cells #[.nilFunc,.int .i64 0,.int .i64 0] 226)=W5:=⟨_,rfl⟩
 have h45:w3.heap.size≠w3.heap.size+1:=by omega
 have hb5:Below w3.heap.size w3 W5:=by rw[<- hW5];exact(heap1 _ _).alloc (by simp) _
 have hB4:Bx W5 w3.heap.size 226 [.nilFunc,.int .i64 0,.int .i64 0]:=by rw[<- hW5];exact(Bx.new w3 226 _).alloc _
 have hB5:Bx W5 (w3.heap.size+1) 226 [.nilFunc,.int .i64 0,.int .i64 0]:=by
  rw[<- hW5];have:=Bx.new (w3.alloc (.cells #[.nilFunc,.int .i64 0,.int .i64 0] 226)) 226 [.nilFunc,.int .i64 0,.int .i64 0]
  rw[World.size_alloc]at this;exact this
 have hne1:w.heap.size≠w3.heap.size:=λh=>by have:=hB3.lt;omega
 have hne2:w.heap.size≠w3.heap.size+1:=λh=>by have:=hB3.lt;omega
 have HH:=hid (show HeadR w w3.heap.size (w3.heap.size+1) ((((((W5.setCell ⟨w3.heap.size,0,none⟩ (.func (.func 232) #[] #[])).setCell ⟨w3.heap.size,1,none⟩ (.int .i64 1)).setCell ⟨w3.heap.size,2,none⟩ (.int .i64 1)).setCell ⟨w3.heap.size+1,0,none⟩ (.func (.func 265) #[] #[.pointer (some ⟨gb,0,none⟩)])).setCell ⟨w3.heap.size+1,1,none⟩ (.int .i64 1)).setCell ⟨w3.heap.size+1,2,none⟩ (.int .i64 1))from by
  have hq:=hB3.below hb5 hB3.lt
  have hb:=hBb3.below hb5 hBb3.lt
  have n1:gb≠w3.heap.size:=λh=>by have:=hBb3.lt;omega
  have n2:gb≠w3.heap.size+1:=λh=>by have:=hBb3.lt;omega
  have k1:w.heap.size<=w3.heap.size:=hbw3.size
  refine⟨gb,?_,?_,?_,?_,?_⟩
  ·exact(((((hq.far (p:=⟨w3.heap.size,0,none⟩) hne1 _).far (p:=⟨w3.heap.size,1,none⟩) hne1 _).far (p:=⟨w3.heap.size,2,none⟩) hne1 _).far (p:=⟨w3.heap.size+1,0,none⟩) hne2 _).far (p:=⟨w3.heap.size+1,1,none⟩) hne2 _).far (p:=⟨w3.heap.size+1,2,none⟩) hne2 _
  ·exact(((((hB4.set_ 0 _).set_ 1 _).set_ 2 _).far (p:=⟨w3.heap.size+1,0,none⟩) h45 _).far (p:=⟨w3.heap.size+1,1,none⟩) h45 _).far (p:=⟨w3.heap.size+1,2,none⟩) h45 _
  ·exact(((((hB5.far (p:=⟨w3.heap.size,0,none⟩) h45.symm _).far (p:=⟨w3.heap.size,1,none⟩) h45.symm _).far (p:=⟨w3.heap.size,2,none⟩) h45.symm _).set_ 0 _).set_ 1 _).set_ 2 _
  ·exact((((((hb.far (p:=⟨w3.heap.size,0,none⟩) n1 _).far (p:=⟨w3.heap.size,1,none⟩) n1 _).far (p:=⟨w3.heap.size,2,none⟩) n1 _).far (p:=⟨w3.heap.size+1,0,none⟩) n2 _).far (p:=⟨w3.heap.size+1,1,none⟩) n2 _).far (p:=⟨w3.heap.size+1,2,none⟩) n2 _)
  ·exact((((((bt hbw3 hb5).setCell (p:=⟨w3.heap.size,0,none⟩) k1 _).setCell (p:=⟨w3.heap.size,1,none⟩) k1 _).setCell (p:=⟨w3.heap.size,2,none⟩) k1 _).setCell (p:=⟨w3.heap.size+1,0,none⟩) (Nat.le_succ_of_le k1) _).setCell (p:=⟨w3.heap.size+1,1,none⟩) (Nat.le_succ_of_le k1) _).setCell (p:=⟨w3.heap.size+1,2,none⟩) (Nat.le_succ_of_le k1) _)
 have x0:=hB4.cell 0
 have x1:=hB4.cell 1
 have x2:=hB4.cell 2
 have y0:=hB5.cell 0
 have y1:=hB5.cell 1
 have y2:=hB5.cell 2
 have fx0:=hB4.frozen 0
 have fx1:=hB4.frozen 1
 have fx2:=hB4.frozen 2
 have fy0:=hB5.frozen 0
 have fy1:=hB5.frozen 1
 have fy2:=hB5.frozen 2
 simp only[List.getElem?_cons_zero,List.getElem?_cons_succ]at x0 x1 x2 y0 y1 y2
 clear hB3 hBb3 hbw3 hb5 hB4 hB5 hne1 hne2
 rcases hkd with rfl |rfl |rfl |rfl |rfl |rfl |rfl
 ·go_upto_region 18 with(fail)
  refine gen_world (HeadR w w3.heap.size (w3.heap.size+1)) HH.out λV0 hV0 =>?_
  clear HH x0 x1 x2 y0 y1 y2 fx0 fx1 fx2 fy0 fy1 fy2 hW5
  obtain⟨g4,hg4⟩:∃g4,g4=w3.heap.size:=⟨_,rfl⟩
  obtain⟨g5,hg5⟩:∃g5,g5=w3.heap.size+1:=⟨_,rfl⟩
  rw[<- hg5,<- hg4]at hV0
  rw[<- hg5,<- hg4]
  clear hg4 hg5 h45
  obtain⟨g6,hR,h4,h5,h6,hbw⟩:=hV0
  have v0:=(h4.cell 0).trans rfl
  have v1:=(h4.cell 1).trans rfl
  have v2:=(h4.cell 2).trans rfl
  have u0:=(h5.cell 0).trans rfl
  have u1:=(h5.cell 1).trans rfl
  have u2:=(h5.cell 2).trans rfl
  have hP:=Bx.new V0 226 [.func (.func 232) #[] #[],.int .i64 1,.int .i64 1,.func (.func 232) #[] #[],.int .i64 1,.int .i64 1]
  have hbP:=heap1 V0 (.cells #[.func (.func 232) #[] #[],.int .i64 1,.int .i64 1,.func (.func 232) #[] #[],.int .i64 1,.int .i64 1] 226)
  have hR:=hR.below hbP hR.lt
  have h4:=h4.below hbP h4.lt
  have h5:=h5.below hbP h5.lt
  have h6:=h6.below hbP h6.lt
  have hbw:=bt hbw hbP
  clear hbP
  go_wp2_with (go_at_call 235;refine(row_any _ _ _ _).mono ?_)
  rintro e V9 ⟨g,rfl,hBg,hgl,hb9⟩
  have hR:=hR.below hb9 hR.lt
  have h4:=h4.below hb9 h4.lt
  have h5:=h5.below hb9 h5.lt
  have h6:=h6.below hb9 h6.lt
  have hP:=hP.below hb9 hP.lt
  have hbw:=bt hbw hb9
  have hpe:partsOf 8=[pOne (expB),pOne (expB)]:=by rfl
  have HRF:=hid (show RowAt _ g (partsOf 8)from by
   rw[hpe]
   have hBg:=far4 hR hBg (by decide) (.func (.func 208) #[] #[]) (.int .i64 0) (.int .i64 0) (.func (.func 266) #[] #[.pointer (some ⟨g,0,none⟩)])
   have hP:=far4 hR hP (by decide) (.func (.func 208) #[] #[]) (.int .i64 0) (.int .i64 0) (.func (.func 266) #[] #[.pointer (some ⟨g,0,none⟩)])
   have h6:=far4 hR h6 (by decide) (.func (.func 208) #[] #[]) (.int .i64 0) (.int .i64 0) (.func (.func 266) #[] #[.pointer (some ⟨g,0,none⟩)])
   refine⟨_,_,_,(hBg.cell 0).trans rfl,parts_of hP.lt (λj hj =>?_),rfl,hBg.lt⟩
   match j,hj with
   |0,_=>exact⟨_,_,(hP.cell 0).trans rfl,(hP.cell 1).trans rfl,(hP.cell 2).trans rfl,(.inr (.inl ⟨rfl,rfl,rfl⟩)),show(1:Nat)<=9223372036854775807 by omega⟩
   |1,_=>exact⟨_,_,(hP.cell 3).trans rfl,(hP.cell 4).trans rfl,(hP.cell 5).trans rfl,(.inr (.inl ⟨rfl,rfl,rfl⟩)),show(1:Nat)<=9223372036854775807 by omega⟩
   |k+2,h=>exact absurd h (by simp only[List.length_cons,List.length_nil];omega))
  have hE:=(((hR.set_ 0 (.func (.func 208) #[] #[])).set_ 1 (.int .i64 (loB 8))).set_ 2 (.int .i64 (hiB 8))).set_ 3 (.func (.func 266) #[] #[.pointer (some ⟨g,0,none⟩)])
  have hbE:=(((hbw.setCell (p:=⟨w.heap.size,0,none⟩) (Nat.le_refl _) (.func (.func 208) #[] #[])).setCell (p:=⟨w.heap.size,1,none⟩) (Nat.le_refl _) (.int .i64 (loB 8))).setCell (p:=⟨w.heap.size,2,none⟩) (Nat.le_refl _) (.int .i64 (hiB 8))).setCell (p:=⟨w.heap.size,3,none⟩) (Nat.le_refl _) (.func (.func 266) #[] #[.pointer (some ⟨g,0,none⟩)])
  have hlo:loB 8=0:=by rfl
  have hhi:hiB 8=0:=by rfl
  rw[hlo,hhi]at hE hbE
  simp only[List.set_cons_zero,List.set_cons_succ]at hE
  have HH:=hid (And.intro hE hbE)
  have r0:=(hR.cell 0).trans rfl
  have fr0:=hR.frozen 0
  have r1:=(hR.cell 1).trans rfl
  have fr1:=hR.frozen 1
  have r2:=(hR.cell 2).trans rfl
  have fr2:=hR.frozen 2
  have r3:=(hR.cell 3).trans rfl
  have fr3:=hR.frozen 3
  clear hE hbE v0 v1 v2 u0 u1 u2 hR h4 h5 hbw hBg hgl h6 hP hb9 hpe hlo hhi
  go_wp2
  obtain⟨hE,hbE⟩:=HH.out
  have z0:=(hE.cell 0).trans rfl
  have z1:=(hE.cell 1).trans rfl
  have z2:=(hE.cell 2).trans rfl
  have z3:=(hE.cell 3).trans rfl
  have HRF:=HRF.out
  generalize (((V9.setCell ⟨w.heap.size,0,none⟩ (.func (.func 208) #[] #[])).setCell ⟨w.heap.size,1,none⟩ (.int .i64 0)).setCell ⟨w.heap.size,2,none⟩ (.int .i64 0)).setCell ⟨w.heap.size,3,none⟩ (.func (.func 266) #[] #[.pointer (some ⟨g,0,none⟩)])=WE at *
  exact bodyPost_ret (v :=.tuple #[.agg #[.func (.func 208) #[] #[],.int .i64 0,.int .i64 0,.func (.func 266) #[] #[.pointer (some ⟨g,0,none⟩)]],.bool true]) (by simp[results,Tryz.f203,go_sem,z0,z1,z2,z3]) rfl ⟨g,rfl,HRF,hbE⟩
 ·go_upto_region 20 with(fail)
  refine gen_world (HeadR w w3.heap.size (w3.heap.size+1)) HH.out λV0 hV0 =>?_
  clear HH x0 x1 x2 y0 y1 y2 fx0 fx1 fx2 fy0 fy1 fy2 hW5
  obtain⟨g4,hg4⟩:∃g4,g4=w3.heap.size:=⟨_,rfl⟩
  obtain⟨g5,hg5⟩:∃g5,g5=w3.heap.size+1:=⟨_,rfl⟩
  rw[<- hg5,<- hg4]at hV0
  rw[<- hg5,<- hg4]
  clear hg4 hg5 h45
  obtain⟨g6,hR,h4,h5,h6,hbw⟩:=hV0
  go_wp2_with (go_at_call 233;refine(is_any _ _).mono ?_)
  rintro e Va1 ⟨ga1,rfl,hF11,hga,hb1⟩
  have hR:=hR.below hb1 hR.lt
  have h4:=h4.below hb1 h4.lt
  have h5:=h5.below hb1 h5.lt
  have h6:=h6.below hb1 h6.lt
  have hbw:=bt hbw hb1
  clear hb1
  clear hga
  go_wp2_with (go_at_call 231;refine(one_any _ _ _ _).mono ?_)
  rintro e Vb1 ⟨rfl,hc1⟩
  have hR:=hR.below hc1 hR.lt
  have h4:=h4.below hc1 h4.lt
  have h5:=h5.below hc1 h5.lt
  have h6:=h6.below hc1 h6.lt
  have hF11:=hF11.below hc1 hF11.lt
  have hbw:=bt hbw hc1
  clear hc1
  have v0:=(h4.cell 0).trans rfl
  have v1:=(h4.cell 1).trans rfl
  have v2:=(h4.cell 2).trans rfl
  have u0:=(h5.cell 0).trans rfl
  have u1:=(h5.cell 1).trans rfl
  have u2:=(h5.cell 2).trans rfl
  have hP:=Bx.new Vb1 226 [.func (.func 265) #[] #[.pointer (some ⟨ga1,0,none⟩)],.int .i64 1,.int .i64 1]
  have hbP:=heap1 Vb1 (.cells #[.func (.func 265) #[] #[.pointer (some ⟨ga1,0,none⟩)],.int .i64 1,.int .i64 1] 226)
  have hR:=hR.below hbP hR.lt
  have h4:=h4.below hbP h4.lt
  have h5:=h5.below hbP h5.lt
  have h6:=h6.below hbP h6.lt
  have hF11:=hF11.below hbP hF11.lt
  have hbw:=bt hbw hbP
  clear hbP
  go_wp2_with (go_at_call 235;refine(row_any _ _ _ _).mono ?_)
  rintro e V9 ⟨g,rfl,hBg,hgl,hb9⟩
  have hR:=hR.below hb9 hR.lt
  have h4:=h4.below hb9 h4.lt
  have h5:=h5.below hb9 h5.lt
  have h6:=h6.below hb9 h6.lt
  have hP:=hP.below hb9 hP.lt
  have hF11:=hF11.below hb9 hF11.lt
  have hbw:=bt hbw hb9
  have hpe:partsOf 9=[pOne (isB 18)]:=by rfl
  have HRF:=hid (show RowAt _ g (partsOf 9)from by
   rw[hpe]
   have hBg:=far4 hR hBg (by decide) (.func (.func 208) #[] #[]) (.int .i64 0) (.int .i64 0) (.func (.func 266) #[] #[.pointer (some ⟨g,0,none⟩)])
   have hP:=far4 hR hP (by decide) (.func (.func 208) #[] #[]) (.int .i64 0) (.int .i64 0) (.func (.func 266) #[] #[.pointer (some ⟨g,0,none⟩)])
   have h6:=far4 hR h6 (by decide) (.func (.func 208) #[] #[]) (.int .i64 0) (.int .i64 0) (.func (.func 266) #[] #[.pointer (some ⟨g,0,none⟩)])
   have hF11:=far4 hR hF11 (by decide) (.func (.func 208) #[] #[]) (.int .i64 0) (.int .i64 0) (.func (.func 266) #[] #[.pointer (some ⟨g,0,none⟩)])
   refine⟨_,_,_,(hBg.cell 0).trans rfl,parts_of hP.lt (λj hj =>?_),rfl,hBg.lt⟩
   match j,hj with
   |0,_=>exact⟨_,_,(hP.cell 0).trans rfl,(hP.cell 1).trans rfl,(hP.cell 2).trans rfl,.inl ⟨ga1,18,rfl,rfl,(hF11.cell 0).trans rfl,hF11.lt,rfl⟩,show(1:Nat)<=9223372036854775807 by omega⟩
   |k+1,h=>exact absurd h (by simp only[List.length_cons,List.length_nil];omega))
  have hE:=(((hR.set_ 0 (.func (.func 208) #[] #[])).set_ 1 (.int .i64 (loB 9))).set_ 2 (.int .i64 (hiB 9))).set_ 3 (.func (.func 266) #[] #[.pointer (some ⟨g,0,none⟩)])
  have hbE:=(((hbw.setCell (p:=⟨w.heap.size,0,none⟩) (Nat.le_refl _) (.func (.func 208) #[] #[])).setCell (p:=⟨w.heap.size,1,none⟩) (Nat.le_refl _) (.int .i64 (loB 9))).setCell (p:=⟨w.heap.size,2,none⟩) (Nat.le_refl _) (.int .i64 (hiB 9))).setCell (p:=⟨w.heap.size,3,none⟩) (Nat.le_refl _) (.func (.func 266) #[] #[.pointer (some ⟨g,0,none⟩)])
  have hlo:loB 9=0:=by rfl
  have hhi:hiB 9=0:=by rfl
  rw[hlo,hhi]at hE hbE
  simp only[List.set_cons_zero,List.set_cons_succ]at hE
  have HH:=hid (And.intro hE hbE)
  have r0:=(hR.cell 0).trans rfl
  have fr0:=hR.frozen 0
  have r1:=(hR.cell 1).trans rfl
  have fr1:=hR.frozen 1
  have r2:=(hR.cell 2).trans rfl
  have fr2:=hR.frozen 2
  have r3:=(hR.cell 3).trans rfl
  have fr3:=hR.frozen 3
  clear hE hbE v0 v1 v2 u0 u1 u2 hR h4 h5 hbw hBg hgl h6 hP hF11 hb9 hpe hlo hhi
  go_wp2
  obtain⟨hE,hbE⟩:=HH.out
  have z0:=(hE.cell 0).trans rfl
  have z1:=(hE.cell 1).trans rfl
  have z2:=(hE.cell 2).trans rfl
  have z3:=(hE.cell 3).trans rfl
  have HRF:=HRF.out
  generalize (((V9.setCell ⟨w.heap.size,0,none⟩ (.func (.func 208) #[] #[])).setCell ⟨w.heap.size,1,none⟩ (.int .i64 0)).setCell ⟨w.heap.size,2,none⟩ (.int .i64 0)).setCell ⟨w.heap.size,3,none⟩ (.func (.func 266) #[] #[.pointer (some ⟨g,0,none⟩)])=WE at *
  exact bodyPost_ret (v :=.tuple #[.agg #[.func (.func 208) #[] #[],.int .i64 0,.int .i64 0,.func (.func 266) #[] #[.pointer (some ⟨g,0,none⟩)]],.bool true]) (by simp[results,Tryz.f203,go_sem,z0,z1,z2,z3]) rfl ⟨g,rfl,HRF,hbE⟩
 ·go_upto_region 24 with(fail)
  refine gen_world (HeadR w w3.heap.size (w3.heap.size+1)) HH.out λV0 hV0 =>?_
  clear HH x0 x1 x2 y0 y1 y2 fx0 fx1 fx2 fy0 fy1 fy2 hW5
  obtain⟨g4,hg4⟩:∃g4,g4=w3.heap.size:=⟨_,rfl⟩
  obtain⟨g5,hg5⟩:∃g5,g5=w3.heap.size+1:=⟨_,rfl⟩
  rw[<- hg5,<- hg4]at hV0
  rw[<- hg5,<- hg4]
  clear hg4 hg5 h45
  obtain⟨g6,hR,h4,h5,h6,hbw⟩:=hV0
  have v0:=(h4.cell 0).trans rfl
  have v1:=(h4.cell 1).trans rfl
  have v2:=(h4.cell 2).trans rfl
  have u0:=(h5.cell 0).trans rfl
  have u1:=(h5.cell 1).trans rfl
  have u2:=(h5.cell 2).trans rfl
  have hP:=Bx.new V0 226 [.func (.func 232) #[] #[],.int .i64 1,.int .i64 1,.func (.func 265) #[] #[.pointer (some ⟨g6,0,none⟩)],.int .i64 1,.int .i64 1,.func (.func 265) #[] #[.pointer (some ⟨g6,0,none⟩)],.int .i64 1,.int .i64 1]
  have hbP:=heap1 V0 (.cells #[.func (.func 232) #[] #[],.int .i64 1,.int .i64 1,.func (.func 265) #[] #[.pointer (some ⟨g6,0,none⟩)],.int .i64 1,.int .i64 1,.func (.func 265) #[] #[.pointer (some ⟨g6,0,none⟩)],.int .i64 1,.int .i64 1] 226)
  have hR:=hR.below hbP hR.lt
  have h4:=h4.below hbP h4.lt
  have h5:=h5.below hbP h5.lt
  have h6:=h6.below hbP h6.lt
  have hbw:=bt hbw hbP
  clear hbP
  go_wp2_with (go_at_call 235;refine(row_any _ _ _ _).mono ?_)
  rintro e V9 ⟨g,rfl,hBg,hgl,hb9⟩
  have hR:=hR.below hb9 hR.lt
  have h4:=h4.below hb9 h4.lt
  have h5:=h5.below hb9 h5.lt
  have h6:=h6.below hb9 h6.lt
  have hP:=hP.below hb9 hP.lt
  have hbw:=bt hbw hb9
  have hpe:partsOf 11=[pOne (expB),pOne (isB 6),pOne (isB 6)]:=by rfl
  have HRF:=hid (show RowAt _ g (partsOf 11)from by
   rw[hpe]
   have hBg:=far4 hR hBg (by decide) (.func (.func 234) #[] #[]) (.int .i64 0) (.int .i64 0) (.func (.func 266) #[] #[.pointer (some ⟨g,0,none⟩)])
   have hP:=far4 hR hP (by decide) (.func (.func 234) #[] #[]) (.int .i64 0) (.int .i64 0) (.func (.func 266) #[] #[.pointer (some ⟨g,0,none⟩)])
   have h6:=far4 hR h6 (by decide) (.func (.func 234) #[] #[]) (.int .i64 0) (.int .i64 0) (.func (.func 266) #[] #[.pointer (some ⟨g,0,none⟩)])
   refine⟨_,_,_,(hBg.cell 0).trans rfl,parts_of hP.lt (λj hj =>?_),rfl,hBg.lt⟩
   match j,hj with
   |0,_=>exact⟨_,_,(hP.cell 0).trans rfl,(hP.cell 1).trans rfl,(hP.cell 2).trans rfl,(.inr (.inl ⟨rfl,rfl,rfl⟩)),show(1:Nat)<=9223372036854775807 by omega⟩
   |1,_=>exact⟨_,_,(hP.cell 3).trans rfl,(hP.cell 4).trans rfl,(hP.cell 5).trans rfl,.inl ⟨g6,6,rfl,rfl,(h6.cell 0).trans rfl,h6.lt,rfl⟩,show(1:Nat)<=9223372036854775807 by omega⟩
   |2,_=>exact⟨_,_,(hP.cell 6).trans rfl,(hP.cell 7).trans rfl,(hP.cell 8).trans rfl,.inl ⟨g6,6,rfl,rfl,(h6.cell 0).trans rfl,h6.lt,rfl⟩,show(1:Nat)<=9223372036854775807 by omega⟩
   |k+3,h=>exact absurd h (by simp only[List.length_cons,List.length_nil];omega))
  have hE:=(((hR.set_ 0 (.func (.func 234) #[] #[])).set_ 1 (.int .i64 (loB 11))).set_ 2 (.int .i64 (hiB 11))).set_ 3 (.func (.func 266) #[] #[.pointer (some ⟨g,0,none⟩)])
  have hbE:=(((hbw.setCell (p:=⟨w.heap.size,0,none⟩) (Nat.le_refl _) (.func (.func 234) #[] #[])).setCell (p:=⟨w.heap.size,1,none⟩) (Nat.le_refl _) (.int .i64 (loB 11))).setCell (p:=⟨w.heap.size,2,none⟩) (Nat.le_refl _) (.int .i64 (hiB 11))).setCell (p:=⟨w.heap.size,3,none⟩) (Nat.le_refl _) (.func (.func 266) #[] #[.pointer (some ⟨g,0,none⟩)])
  have hlo:loB 11=0:=by rfl
  have hhi:hiB 11=0:=by rfl
  rw[hlo,hhi]at hE hbE
  simp only[List.set_cons_zero,List.set_cons_succ]at hE
  have HH:=hid (And.intro hE hbE)
  have r0:=(hR.cell 0).trans rfl
  have fr0:=hR.frozen 0
  have r1:=(hR.cell 1).trans rfl
  have fr1:=hR.frozen 1
  have r2:=(hR.cell 2).trans rfl
  have fr2:=hR.frozen 2
  have r3:=(hR.cell 3).trans rfl
  have fr3:=hR.frozen 3
  clear hE hbE v0 v1 v2 u0 u1 u2 hR h4 h5 hbw hBg hgl h6 hP hb9 hpe hlo hhi
  go_wp2
  obtain⟨hE,hbE⟩:=HH.out
  have z0:=(hE.cell 0).trans rfl
  have z1:=(hE.cell 1).trans rfl
  have z2:=(hE.cell 2).trans rfl
  have z3:=(hE.cell 3).trans rfl
  have HRF:=HRF.out
  generalize (((V9.setCell ⟨w.heap.size,0,none⟩ (.func (.func 234) #[] #[])).setCell ⟨w.heap.size,1,none⟩ (.int .i64 0)).setCell ⟨w.heap.size,2,none⟩ (.int .i64 0)).setCell ⟨w.heap.size,3,none⟩ (.func (.func 266) #[] #[.pointer (some ⟨g,0,none⟩)])=WE at *
  exact bodyPost_ret (v :=.tuple #[.agg #[.func (.func 234) #[] #[],.int .i64 0,.int .i64 0,.func (.func 266) #[] #[.pointer (some ⟨g,0,none⟩)]],.bool true]) (by simp[results,Tryz.f203,go_sem,z0,z1,z2,z3]) rfl ⟨g,rfl,HRF,hbE⟩
 ·go_upto_region 26 with(fail)
  refine gen_world (HeadR w w3.heap.size (w3.heap.size+1)) HH.out λV0 hV0 =>?_
  clear HH x0 x1 x2 y0 y1 y2 fx0 fx1 fx2 fy0 fy1 fy2 hW5
  obtain⟨g4,hg4⟩:∃g4,g4=w3.heap.size:=⟨_,rfl⟩
  obtain⟨g5,hg5⟩:∃g5,g5=w3.heap.size+1:=⟨_,rfl⟩
  rw[<- hg5,<- hg4]at hV0
  rw[<- hg5,<- hg4]
  clear hg4 hg5 h45
  obtain⟨g6,hR,h4,h5,h6,hbw⟩:=hV0
  have v0:=(h4.cell 0).trans rfl
  have v1:=(h4.cell 1).trans rfl
  have v2:=(h4.cell 2).trans rfl
  have u0:=(h5.cell 0).trans rfl
  have u1:=(h5.cell 1).trans rfl
  have u2:=(h5.cell 2).trans rfl
  have hP:=Bx.new V0 226 [.func (.func 232) #[] #[],.int .i64 1,.int .i64 1,.func (.func 265) #[] #[.pointer (some ⟨g6,0,none⟩)],.int .i64 1,.int .i64 1]
  have hbP:=heap1 V0 (.cells #[.func (.func 232) #[] #[],.int .i64 1,.int .i64 1,.func (.func 265) #[] #[.pointer (some ⟨g6,0,none⟩)],.int .i64 1,.int .i64 1] 226)
  have hR:=hR.below hbP hR.lt
  have h4:=h4.below hbP h4.lt
  have h5:=h5.below hbP h5.lt
  have h6:=h6.below hbP h6.lt
  have hbw:=bt hbw hbP
  clear hbP
  go_wp2_with (go_at_call 235;refine(row_any _ _ _ _).mono ?_)
  rintro e V9 ⟨g,rfl,hBg,hgl,hb9⟩
  have hR:=hR.below hb9 hR.lt
  have h4:=h4.below hb9 h4.lt
  have h5:=h5.below hb9 h5.lt
  have h6:=h6.below hb9 h6.lt
  have hP:=hP.below hb9 hP.lt
  have hbw:=bt hbw hb9
  have hpe:partsOf 12=[pOne (expB),pOne (isB 6)]:=by rfl
  have HRF:=hid (show RowAt _ g (partsOf 12)from by
   rw[hpe]
   have hBg:=far4 hR hBg (by decide) (.func (.func 234) #[] #[]) (.int .i64 0) (.int .i64 0) (.func (.func 266) #[] #[.pointer (some ⟨g,0,none⟩)])
   have hP:=far4 hR hP (by decide) (.func (.func 234) #[] #[]) (.int .i64 0) (.int .i64 0) (.func (.func 266) #[] #[.pointer (some ⟨g,0,none⟩)])
   have h6:=far4 hR h6 (by decide) (.func (.func 234) #[] #[]) (.int .i64 0) (.int .i64 0) (.func (.func 266) #[] #[.pointer (some ⟨g,0,none⟩)])
   refine⟨_,_,_,(hBg.cell 0).trans rfl,parts_of hP.lt (λj hj =>?_),rfl,hBg.lt⟩
   match j,hj with
   |0,_=>exact⟨_,_,(hP.cell 0).trans rfl,(hP.cell 1).trans rfl,(hP.cell 2).trans rfl,(.inr (.inl ⟨rfl,rfl,rfl⟩)),show(1:Nat)<=9223372036854775807 by omega⟩
   |1,_=>exact⟨_,_,(hP.cell 3).trans rfl,(hP.cell 4).trans rfl,(hP.cell 5).trans rfl,.inl ⟨g6,6,rfl,rfl,(h6.cell 0).trans rfl,h6.lt,rfl⟩,show(1:Nat)<=9223372036854775807 by omega⟩
   |k+2,h=>exact absurd h (by simp only[List.length_cons,List.length_nil];omega))
  have hE:=(((hR.set_ 0 (.func (.func 234) #[] #[])).set_ 1 (.int .i64 (loB 12))).set_ 2 (.int .i64 (hiB 12))).set_ 3 (.func (.func 266) #[] #[.pointer (some ⟨g,0,none⟩)])
  have hbE:=(((hbw.setCell (p:=⟨w.heap.size,0,none⟩) (Nat.le_refl _) (.func (.func 234) #[] #[])).setCell (p:=⟨w.heap.size,1,none⟩) (Nat.le_refl _) (.int .i64 (loB 12))).setCell (p:=⟨w.heap.size,2,none⟩) (Nat.le_refl _) (.int .i64 (hiB 12))).setCell (p:=⟨w.heap.size,3,none⟩) (Nat.le_refl _) (.func (.func 266) #[] #[.pointer (some ⟨g,0,none⟩)])
  have hlo:loB 12=0:=by rfl
  have hhi:hiB 12=0:=by rfl
  rw[hlo,hhi]at hE hbE
  simp only[List.set_cons_zero,List.set_cons_succ]at hE
  have HH:=hid (And.intro hE hbE)
  have r0:=(hR.cell 0).trans rfl
  have fr0:=hR.frozen 0
  have r1:=(hR.cell 1).trans rfl
  have fr1:=hR.frozen 1
  have r2:=(hR.cell 2).trans rfl
  have fr2:=hR.frozen 2
  have r3:=(hR.cell 3).trans rfl
  have fr3:=hR.frozen 3
  clear hE hbE v0 v1 v2 u0 u1 u2 hR h4 h5 hbw hBg hgl h6 hP hb9 hpe hlo hhi
  go_wp2
  obtain⟨hE,hbE⟩:=HH.out
  have z0:=(hE.cell 0).trans rfl
  have z1:=(hE.cell 1).trans rfl
  have z2:=(hE.cell 2).trans rfl
  have z3:=(hE.cell 3).trans rfl
  have HRF:=HRF.out
  generalize (((V9.setCell ⟨w.heap.size,0,none⟩ (.func (.func 234) #[] #[])).setCell ⟨w.heap.size,1,none⟩ (.int .i64 0)).setCell ⟨w.heap.size,2,none⟩ (.int .i64 0)).setCell ⟨w.heap.size,3,none⟩ (.func (.func 266) #[] #[.pointer (some ⟨g,0,none⟩)])=WE at *
  exact bodyPost_ret (v :=.tuple #[.agg #[.func (.func 234) #[] #[],.int .i64 0,.int .i64 0,.func (.func 266) #[] #[.pointer (some ⟨g,0,none⟩)]],.bool true]) (by simp[results,Tryz.f203,go_sem,z0,z1,z2,z3]) rfl ⟨g,rfl,HRF,hbE⟩
 ·go_upto_region 28 with(fail)
  refine gen_world (HeadR w w3.heap.size (w3.heap.size+1)) HH.out λV0 hV0 =>?_
  clear HH x0 x1 x2 y0 y1 y2 fx0 fx1 fx2 fy0 fy1 fy2 hW5
  obtain⟨g4,hg4⟩:∃g4,g4=w3.heap.size:=⟨_,rfl⟩
  obtain⟨g5,hg5⟩:∃g5,g5=w3.heap.size+1:=⟨_,rfl⟩
  rw[<- hg5,<- hg4]at hV0
  rw[<- hg5,<- hg4]
  clear hg4 hg5 h45
  obtain⟨g6,hR,h4,h5,h6,hbw⟩:=hV0
  go_wp2_with (go_at_call 233;refine(is_any _ _).mono ?_)
  rintro e Va1 ⟨ga1,rfl,hF11,hga,hb1⟩
  have hR:=hR.below hb1 hR.lt
  have h4:=h4.below hb1 h4.lt
  have h5:=h5.below hb1 h5.lt
  have h6:=h6.below hb1 h6.lt
  have hbw:=bt hbw hb1
  clear hb1
  clear hga
  go_wp2_with (go_at_call 231;refine(one_any _ _ _ _).mono ?_)
  rintro e Vb1 ⟨rfl,hc1⟩
  have hR:=hR.below hc1 hR.lt
  have h4:=h4.below hc1 h4.lt
  have h5:=h5.below hc1 h5.lt
  have h6:=h6.below hc1 h6.lt
  have hF11:=hF11.below hc1 hF11.lt
  have hbw:=bt hbw hc1
  clear hc1
  go_wp2_with (go_at_call 236;refine(many_any _ _ _ _).mono ?_)
  rintro e Vb2 ⟨rfl,hc2⟩
  have hR:=hR.below hc2 hR.lt
  have h4:=h4.below hc2 h4.lt
  have h5:=h5.below hc2 h5.lt
  have h6:=h6.below hc2 h6.lt
  have hF11:=hF11.below hc2 hF11.lt
  have hbw:=bt hbw hc2
  clear hc2
  have v0:=(h4.cell 0).trans rfl
  have v1:=(h4.cell 1).trans rfl
  have v2:=(h4.cell 2).trans rfl
  have u0:=(h5.cell 0).trans rfl
  have u1:=(h5.cell 1).trans rfl
  have u2:=(h5.cell 2).trans rfl
  have hP:=Bx.new Vb2 226 [.func (.func 265) #[] #[.pointer (some ⟨ga1,0,none⟩)],.int .i64 1,.int .i64 1,.func (.func 232) #[] #[],.int .i64 0,.int .i64 9223372036854775807]
  have hbP:=heap1 Vb2 (.cells #[.func (.func 265) #[] #[.pointer (some ⟨ga1,0,none⟩)],.int .i64 1,.int .i64 1,.func (.func 232) #[] #[],.int .i64 0,.int .i64 9223372036854775807] 226)
  have hR:=hR.below hbP hR.lt
  have h4:=h4.below hbP h4.lt
  have h5:=h5.below hbP h5.lt
  have h6:=h6.below hbP h6.lt
  have hF11:=hF11.below hbP hF11.lt
  have hbw:=bt hbw hbP
  clear hbP
  go_wp2_with (go_at_call 235;refine(row_any _ _ _ _).mono ?_)
  rintro e V9 ⟨g,rfl,hBg,hgl,hb9⟩
  have hR:=hR.below hb9 hR.lt
  have h4:=h4.below hb9 h4.lt
  have h5:=h5.below hb9 h5.lt
  have h6:=h6.below hb9 h6.lt
  have hP:=hP.below hb9 hP.lt
  have hF11:=hF11.below hb9 hF11.lt
  have hbw:=bt hbw hb9
  have hpe:partsOf 13=[pOne (isB 19),pMany (expB)]:=by rfl
  have HRF:=hid (show RowAt _ g (partsOf 13)from by
   rw[hpe]
   have hBg:=far4 hR hBg (by decide) (.func (.func 238) #[] #[]) (.int .i64 0) (.int .i64 0) (.func (.func 266) #[] #[.pointer (some ⟨g,0,none⟩)])
   have hP:=far4 hR hP (by decide) (.func (.func 238) #[] #[]) (.int .i64 0) (.int .i64 0) (.func (.func 266) #[] #[.pointer (some ⟨g,0,none⟩)])
   have h6:=far4 hR h6 (by decide) (.func (.func 238) #[] #[]) (.int .i64 0) (.int .i64 0) (.func (.func 266) #[] #[.pointer (some ⟨g,0,none⟩)])
   have hF11:=far4 hR hF11 (by decide) (.func (.func 238) #[] #[]) (.int .i64 0) (.int .i64 0) (.func (.func 266) #[] #[.pointer (some ⟨g,0,none⟩)])
   refine⟨_,_,_,(hBg.cell 0).trans rfl,parts_of hP.lt (λj hj =>?_),rfl,hBg.lt⟩
   match j,hj with
   |0,_=>exact⟨_,_,(hP.cell 0).trans rfl,(hP.cell 1).trans rfl,(hP.cell 2).trans rfl,.inl ⟨ga1,19,rfl,rfl,(hF11.cell 0).trans rfl,hF11.lt,rfl⟩,show(1:Nat)<=9223372036854775807 by omega⟩
   |1,_=>exact⟨_,_,(hP.cell 3).trans rfl,(hP.cell 4).trans rfl,(hP.cell 5).trans rfl,(.inr (.inl ⟨rfl,rfl,rfl⟩)),show(9223372036854775807:Nat)<=9223372036854775807 by omega⟩
   |k+2,h=>exact absurd h (by simp only[List.length_cons,List.length_nil];omega))
  have hE:=(((hR.set_ 0 (.func (.func 238) #[] #[])).set_ 1 (.int .i64 (loB 13))).set_ 2 (.int .i64 (hiB 13))).set_ 3 (.func (.func 266) #[] #[.pointer (some ⟨g,0,none⟩)])
  have hbE:=(((hbw.setCell (p:=⟨w.heap.size,0,none⟩) (Nat.le_refl _) (.func (.func 238) #[] #[])).setCell (p:=⟨w.heap.size,1,none⟩) (Nat.le_refl _) (.int .i64 (loB 13))).setCell (p:=⟨w.heap.size,2,none⟩) (Nat.le_refl _) (.int .i64 (hiB 13))).setCell (p:=⟨w.heap.size,3,none⟩) (Nat.le_refl _) (.func (.func 266) #[] #[.pointer (some ⟨g,0,none⟩)])
  have hlo:loB 13=0:=by rfl
  have hhi:hiB 13=0:=by rfl
  rw[hlo,hhi]at hE hbE
  simp only[List.set_cons_zero,List.set_cons_succ]at hE
  have HH:=hid (And.intro hE hbE)
  have r0:=(hR.cell 0).trans rfl
  have fr0:=hR.frozen 0
  have r1:=(hR.cell 1).trans rfl
  have fr1:=hR.frozen 1
  have r2:=(hR.cell 2).trans rfl
  have fr2:=hR.frozen 2
  have r3:=(hR.cell 3).trans rfl
  have fr3:=hR.frozen 3
  clear hE hbE v0 v1 v2 u0 u1 u2 hR h4 h5 hbw hBg hgl h6 hP hF11 hb9 hpe hlo hhi
  go_wp2
  obtain⟨hE,hbE⟩:=HH.out
  have z0:=(hE.cell 0).trans rfl
  have z1:=(hE.cell 1).trans rfl
  have z2:=(hE.cell 2).trans rfl
  have z3:=(hE.cell 3).trans rfl
  have HRF:=HRF.out
  generalize (((V9.setCell ⟨w.heap.size,0,none⟩ (.func (.func 238) #[] #[])).setCell ⟨w.heap.size,1,none⟩ (.int .i64 0)).setCell ⟨w.heap.size,2,none⟩ (.int .i64 0)).setCell ⟨w.heap.size,3,none⟩ (.func (.func 266) #[] #[.pointer (some ⟨g,0,none⟩)])=WE at *
  exact bodyPost_ret (v :=.tuple #[.agg #[.func (.func 238) #[] #[],.int .i64 0,.int .i64 0,.func (.func 266) #[] #[.pointer (some ⟨g,0,none⟩)]],.bool true]) (by simp[results,Tryz.f203,go_sem,z0,z1,z2,z3]) rfl ⟨g,rfl,HRF,hbE⟩
 ·go_upto_region 16 with(fail)
  refine gen_world (HeadR w w3.heap.size (w3.heap.size+1)) HH.out λV0 hV0 =>?_
  clear HH x0 x1 x2 y0 y1 y2 fx0 fx1 fx2 fy0 fy1 fy2 hW5
  obtain⟨g4,hg4⟩:∃g4,g4=w3.heap.size:=⟨_,rfl⟩
  obtain⟨g5,hg5⟩:∃g5,g5=w3.heap.size+1:=⟨_,rfl⟩
  rw[<- hg5,<- hg4]at hV0
  rw[<- hg5,<- hg4]
  clear hg4 hg5 h45
  obtain⟨g6,hR,h4,h5,h6,hbw⟩:=hV0
  have v0:=(h4.cell 0).trans rfl
  have v1:=(h4.cell 1).trans rfl
  have v2:=(h4.cell 2).trans rfl
  have u0:=(h5.cell 0).trans rfl
  have u1:=(h5.cell 1).trans rfl
  have u2:=(h5.cell 2).trans rfl
  have hP:=Bx.new V0 226 [.func (.func 232) #[] #[],.int .i64 1,.int .i64 1]
  have hbP:=heap1 V0 (.cells #[.func (.func 232) #[] #[],.int .i64 1,.int .i64 1] 226)
  have hR:=hR.below hbP hR.lt
  have h4:=h4.below hbP h4.lt
  have h5:=h5.below hbP h5.lt
  have h6:=h6.below hbP h6.lt
  have hbw:=bt hbw hbP
  clear hbP
  go_wp2_with (go_at_call 235;refine(row_any _ _ _ _).mono ?_)
  rintro e V9 ⟨g,rfl,hBg,hgl,hb9⟩
  have hR:=hR.below hb9 hR.lt
  have h4:=h4.below hb9 h4.lt
  have h5:=h5.below hb9 h5.lt
  have h6:=h6.below hb9 h6.lt
  have hP:=hP.below hb9 hP.lt
  have hbw:=bt hbw hb9
  have hpe:partsOf 17=[pOne (expB)]:=by rfl
  have HRF:=hid (show RowAt _ g (partsOf 17)from by
   rw[hpe]
   have hBg:=far4 hR hBg (by decide) (.func (.func 208) #[] #[]) (.int .i64 0) (.int .i64 0) (.func (.func 266) #[] #[.pointer (some ⟨g,0,none⟩)])
   have hP:=far4 hR hP (by decide) (.func (.func 208) #[] #[]) (.int .i64 0) (.int .i64 0) (.func (.func 266) #[] #[.pointer (some ⟨g,0,none⟩)])
   have h6:=far4 hR h6 (by decide) (.func (.func 208) #[] #[]) (.int .i64 0) (.int .i64 0) (.func (.func 266) #[] #[.pointer (some ⟨g,0,none⟩)])
   refine⟨_,_,_,(hBg.cell 0).trans rfl,parts_of hP.lt (λj hj =>?_),rfl,hBg.lt⟩
   match j,hj with
   |0,_=>exact⟨_,_,(hP.cell 0).trans rfl,(hP.cell 1).trans rfl,(hP.cell 2).trans rfl,(.inr (.inl ⟨rfl,rfl,rfl⟩)),show(1:Nat)<=9223372036854775807 by omega⟩
   |k+1,h=>exact absurd h (by simp only[List.length_cons,List.length_nil];omega))
  have hE:=(((hR.set_ 0 (.func (.func 208) #[] #[])).set_ 1 (.int .i64 (loB 17))).set_ 2 (.int .i64 (hiB 17))).set_ 3 (.func (.func 266) #[] #[.pointer (some ⟨g,0,none⟩)])
  have hbE:=(((hbw.setCell (p:=⟨w.heap.size,0,none⟩) (Nat.le_refl _) (.func (.func 208) #[] #[])).setCell (p:=⟨w.heap.size,1,none⟩) (Nat.le_refl _) (.int .i64 (loB 17))).setCell (p:=⟨w.heap.size,2,none⟩) (Nat.le_refl _) (.int .i64 (hiB 17))).setCell (p:=⟨w.heap.size,3,none⟩) (Nat.le_refl _) (.func (.func 266) #[] #[.pointer (some ⟨g,0,none⟩)])
  have hlo:loB 17=0:=by rfl
  have hhi:hiB 17=0:=by rfl
  rw[hlo,hhi]at hE hbE
  simp only[List.set_cons_zero,List.set_cons_succ]at hE
  have HH:=hid (And.intro hE hbE)
  have r0:=(hR.cell 0).trans rfl
  have fr0:=hR.frozen 0
  have r1:=(hR.cell 1).trans rfl
  have fr1:=hR.frozen 1
  have r2:=(hR.cell 2).trans rfl
  have fr2:=hR.frozen 2
  have r3:=(hR.cell 3).trans rfl
  have fr3:=hR.frozen 3
  clear hE hbE v0 v1 v2 u0 u1 u2 hR h4 h5 hbw hBg hgl h6 hP hb9 hpe hlo hhi
  go_wp2
  obtain⟨hE,hbE⟩:=HH.out
  have z0:=(hE.cell 0).trans rfl
  have z1:=(hE.cell 1).trans rfl
  have z2:=(hE.cell 2).trans rfl
  have z3:=(hE.cell 3).trans rfl
  have HRF:=HRF.out
  generalize (((V9.setCell ⟨w.heap.size,0,none⟩ (.func (.func 208) #[] #[])).setCell ⟨w.heap.size,1,none⟩ (.int .i64 0)).setCell ⟨w.heap.size,2,none⟩ (.int .i64 0)).setCell ⟨w.heap.size,3,none⟩ (.func (.func 266) #[] #[.pointer (some ⟨g,0,none⟩)])=WE at *
  exact bodyPost_ret (v :=.tuple #[.agg #[.func (.func 208) #[] #[],.int .i64 0,.int .i64 0,.func (.func 266) #[] #[.pointer (some ⟨g,0,none⟩)]],.bool true]) (by simp[results,Tryz.f203,go_sem,z0,z1,z2,z3]) rfl ⟨g,rfl,HRF,hbE⟩
 ·go_upto_region 16 with(fail)
  refine gen_world (HeadR w w3.heap.size (w3.heap.size+1)) HH.out λV0 hV0 =>?_
  clear HH x0 x1 x2 y0 y1 y2 fx0 fx1 fx2 fy0 fy1 fy2 hW5
  obtain⟨g4,hg4⟩:∃g4,g4=w3.heap.size:=⟨_,rfl⟩
  obtain⟨g5,hg5⟩:∃g5,g5=w3.heap.size+1:=⟨_,rfl⟩
  rw[<- hg5,<- hg4]at hV0
  rw[<- hg5,<- hg4]
  clear hg4 hg5 h45
  obtain⟨g6,hR,h4,h5,h6,hbw⟩:=hV0
  have v0:=(h4.cell 0).trans rfl
  have v1:=(h4.cell 1).trans rfl
  have v2:=(h4.cell 2).trans rfl
  have u0:=(h5.cell 0).trans rfl
  have u1:=(h5.cell 1).trans rfl
  have u2:=(h5.cell 2).trans rfl
  have hP:=Bx.new V0 226 [.func (.func 232) #[] #[],.int .i64 1,.int .i64 1]
  have hbP:=heap1 V0 (.cells #[.func (.func 232) #[] #[],.int .i64 1,.int .i64 1] 226)
  have hR:=hR.below hbP hR.lt
  have h4:=h4.below hbP h4.lt
  have h5:=h5.below hbP h5.lt
  have h6:=h6.below hbP h6.lt
  have hbw:=bt hbw hbP
  clear hbP
  go_wp2_with (go_at_call 235;refine(row_any _ _ _ _).mono ?_)
  rintro e V9 ⟨g,rfl,hBg,hgl,hb9⟩
  have hR:=hR.below hb9 hR.lt
  have h4:=h4.below hb9 h4.lt
  have h5:=h5.below hb9 h5.lt
  have h6:=h6.below hb9 h6.lt
  have hP:=hP.below hb9 hP.lt
  have hbw:=bt hbw hb9
  have hpe:partsOf 23=[pOne (expB)]:=by rfl
  have HRF:=hid (show RowAt _ g (partsOf 23)from by
   rw[hpe]
   have hBg:=far4 hR hBg (by decide) (.func (.func 208) #[] #[]) (.int .i64 0) (.int .i64 0) (.func (.func 266) #[] #[.pointer (some ⟨g,0,none⟩)])
   have hP:=far4 hR hP (by decide) (.func (.func 208) #[] #[]) (.int .i64 0) (.int .i64 0) (.func (.func 266) #[] #[.pointer (some ⟨g,0,none⟩)])
   have h6:=far4 hR h6 (by decide) (.func (.func 208) #[] #[]) (.int .i64 0) (.int .i64 0) (.func (.func 266) #[] #[.pointer (some ⟨g,0,none⟩)])
   refine⟨_,_,_,(hBg.cell 0).trans rfl,parts_of hP.lt (λj hj =>?_),rfl,hBg.lt⟩
   match j,hj with
   |0,_=>exact⟨_,_,(hP.cell 0).trans rfl,(hP.cell 1).trans rfl,(hP.cell 2).trans rfl,(.inr (.inl ⟨rfl,rfl,rfl⟩)),show(1:Nat)<=9223372036854775807 by omega⟩
   |k+1,h=>exact absurd h (by simp only[List.length_cons,List.length_nil];omega))
  have hE:=(((hR.set_ 0 (.func (.func 208) #[] #[])).set_ 1 (.int .i64 (loB 23))).set_ 2 (.int .i64 (hiB 23))).set_ 3 (.func (.func 266) #[] #[.pointer (some ⟨g,0,none⟩)])
  have hbE:=(((hbw.setCell (p:=⟨w.heap.size,0,none⟩) (Nat.le_refl _) (.func (.func 208) #[] #[])).setCell (p:=⟨w.heap.size,1,none⟩) (Nat.le_refl _) (.int .i64 (loB 23))).setCell (p:=⟨w.heap.size,2,none⟩) (Nat.le_refl _) (.int .i64 (hiB 23))).setCell (p:=⟨w.heap.size,3,none⟩) (Nat.le_refl _) (.func (.func 266) #[] #[.pointer (some ⟨g,0,none⟩)])
  have hlo:loB 23=0:=by rfl
  have hhi:hiB 23=0:=by rfl
  rw[hlo,hhi]at hE hbE
  simp only[List.set_cons_zero,List.set_cons_succ]at hE
  have HH:=hid (And.intro hE hbE)
  have r0:=(hR.cell 0).trans rfl
  have fr0:=hR.frozen 0
  have r1:=(hR.cell 1).trans rfl
  have fr1:=hR.frozen 1
  have r2:=(hR.cell 2).trans rfl
  have fr2:=hR.frozen 2
  have r3:=(hR.cell 3).trans rfl
  have fr3:=hR.frozen 3
  clear hE hbE v0 v1 v2 u0 u1 u2 hR h4 h5 hbw hBg hgl h6 hP hb9 hpe hlo hhi
  go_wp2
  obtain⟨hE,hbE⟩:=HH.out
  have z0:=(hE.cell 0).trans rfl
  have z1:=(hE.cell 1).trans rfl
  have z2:=(hE.cell 2).trans rfl
  have z3:=(hE.cell 3).trans rfl
  have HRF:=HRF.out
  generalize (((V9.setCell ⟨w.heap.size,0,none⟩ (.func (.func 208) #[] #[])).setCell ⟨w.heap.size,1,none⟩ (.int .i64 0)).setCell ⟨w.heap.size,2,none⟩ (.int .i64 0)).setCell ⟨w.heap.size,3,none⟩ (.func (.func 266) #[] #[.pointer (some ⟨g,0,none⟩)])=WE at *
  exact bodyPost_ret (v :=.tuple #[.agg #[.func (.func 208) #[] #[],.int .i64 0,.int .i64 0,.func (.func 266) #[] #[.pointer (some ⟨g,0,none⟩)]],.bool true]) (by simp[results,Tryz.f203,go_sem,z0,z1,z2,z3]) rfl ⟨g,rfl,HRF,hbE⟩
theorem shape_8 (w:World):Calls Tryz.prog 203 #[.int .i64 8] w (ShPost 8 w):=shapes_8_9_11_12_13_17_23 w 8 (by simp)
theorem shape_9 (w:World):Calls Tryz.prog 203 #[.int .i64 9] w (ShPost 9 w):=shapes_8_9_11_12_13_17_23 w 9 (by simp)
theorem shape_11 (w:World):Calls Tryz.prog 203 #[.int .i64 11] w (ShPost 11 w):=shapes_8_9_11_12_13_17_23 w 11 (by simp)
theorem shape_12 (w:World):Calls Tryz.prog 203 #[.int .i64 12] w (ShPost 12 w):=shapes_8_9_11_12_13_17_23 w 12 (by simp)
theorem shape_13 (w:World):Calls Tryz.prog 203 #[.int .i64 13] w (ShPost 13 w):=shapes_8_9_11_12_13_17_23 w 13 (by simp)
theorem shape_17 (w:World):Calls Tryz.prog 203 #[.int .i64 17] w (ShPost 17 w):=shapes_8_9_11_12_13_17_23 w 17 (by simp)
theorem shape_23 (w:World):Calls Tryz.prog 203 #[.int .i64 23] w (ShPost 23 w):=shapes_8_9_11_12_13_17_23 w 23 (by simp)
end
end Go.Proofs.YtedkgofehbecmaaGreatDoor.Tr
