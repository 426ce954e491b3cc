/- PROVED here: parts N21 of the claim. No condition but those in each theorem's own head. -/
import Derived.Test.YtedkgofehbecmaaGreatDoorU19
namespace Go.Proofs.YtedkgofehbecmaaGreatDoor.Tr
open Go.Lib (hid)
section
open Go Go.RowKit
set_option maxRecDepth 100000 in
set_option maxHeartbeats 20000000 in
theorem shapes_14_15_16_18_19_20_21 (w:World)(kd:Int)(hkd:kd=14\/kd=15\/kd=16\/kd=18\/kd=19\/kd=20\/kd=21):Calls Tryz.prog 203 #[.int .i64 kd] w (ShPost kd w):=by
 have hst:=st_func
 have hb0:Below w.heap.size w (w.alloc (.cells #[.nilFunc,.int .i64 0,.int .i64 0,.nilFunc] 209)):=heap1 _ _
 have hB0:=Bx.new w 209 [.nilFunc,.int .i64 0,.int .i64 0,.nilFunc]
 go_enter Tryz.func203,Tryz.ntmps203
 go_wp2_with (go_at_call 231;refine(one_any _ _ _ _).mono ?_)
 rintro e w1 ⟨rfl,hb1⟩
 go_wp2_with (go_at_call 233;refine(is_any _ _).mono ?_)
 rintro e w2 ⟨gb,rfl,hBb,hgb,hb2⟩
 go_wp2_with (go_at_call 231;refine(one_any _ _ _ _).mono ?_)
 rintro e w3 ⟨rfl,hb3⟩
 have hB3:=((hB0.below hb1 hB0.lt).below hb2 (hB0.below hb1 hB0.lt).lt).below hb3 ((hB0.below hb1 hB0.lt).below hb2 (hB0.below hb1 hB0.lt).lt).lt
 have hBb3:=hBb.below hb3 hBb.lt
 have hbw3:=bt (bt (bt hb0 hb1) hb2) hb3
 clear hb0 hb1 hb2 hb3 hB0 hBb hgb
 obtain⟨W5,hW5⟩:∃W5,(w3.alloc (.cells #[.nilFunc,.int .i64 0,.int .i64 0] 226)).alloc (.cells #[.nilFunc,.int .i64 0,.int .i64 0] 226)=W5:=⟨_,rfl⟩
 have h45:w3.heap.size≠w3.heap.size+1:=by omega
 have hb5:Below w3.heap.size w3 W5:=by rw[<- hW5];exact(heap1 _ _).alloc (by simp) _
 have hB4:Bx W5 w3.heap.size 226 [.nilFunc,.int .i64 0,.int .i64 0]:=by rw[<- hW5];exact(Bx.new w3 226 _).alloc _
 have hB5:Bx W5 (w3.heap.size+1) 226 [.nilFunc,.int .i64 0,.int .i64 0]:=by
  rw[<- hW5];have:=Bx.new (w3.alloc (.cells #[.nilFunc,.int .i64 0,.int .i64 0] 226)) 226 [.nilFunc,.int .i64 0,.int .i64 0]
  rw[World.size_alloc]at this;exact this
 have hne1:w.heap.size≠w3.heap.size:=λh=>by have:=hB3.lt;omega
 have hne2:w.heap.size≠w3.heap.size+1:=λh=>by have:=hB3.lt;omega
 have HH:=hid (show HeadR w w3.heap.size (w3.heap.size+1) ((((((W5.setCell ⟨w3.heap.size,0,none⟩ (.func (.func 232) #[] #[])).setCell ⟨w3.heap.size,1,none⟩ (.int .i64 1)).setCell ⟨w3.heap.size,2,none⟩ (.int .i64 1)).setCell ⟨w3.heap.size+1,0,none⟩ (.func (.func 265) #[] #[.pointer (some ⟨gb,0,none⟩)])).setCell ⟨w3.heap.size+1,1,none⟩ (.int .i64 1)).setCell ⟨w3.heap.size+1,2,none⟩ (.int .i64 1))from by
  have hq:=hB3.below hb5 hB3.lt
  have hb:=hBb3.below hb5 hBb3.lt
  have n1:gb≠w3.heap.size:=λh=>by have:=hBb3.lt;omega
  have n2:gb≠w3.heap.size+1:=λh=>by have:=hBb3.lt;omega
  have k1:w.heap.size<=w3.heap.size:=hbw3.size
  refine⟨gb,?_,?_,?_,?_,?_⟩
  ·exact(((((hq.far (p:=⟨w3.heap.size,0,none⟩) hne1 _).far (p:=⟨w3.heap.size,1,none⟩) hne1 _).far (p:=⟨w3.heap.size,2,none⟩) hne1 _).far (p:=⟨w3.heap.size+1,0,none⟩) hne2 _).far (p:=⟨w3.heap.size+1,1,none⟩) hne2 _).far (p:=⟨w3.heap.size+1,2,none⟩) hne2 _
  ·exact(((((hB4.set_ 0 _).set_ 1 _).set_ 2 _).far (p:=⟨w3.heap.size+1,0,none⟩) h45 _).far (p:=⟨w3.heap.size+1,1,none⟩) h45 _).far (p:=⟨w3.heap.size+1,2,none⟩) h45 _
  ·exact(((((hB5.far (p:=⟨w3.heap.size,0,none⟩) h45.symm _).far (p:=⟨w3.heap.size,1,none⟩) h45.symm _).far (p:=⟨w3.heap.size,2,none⟩) h45.symm _).set_ 0 _).set_ 1 _).set_ 2 _
  ·exact((((((hb.far (p:=⟨w3.heap.size,0,none⟩) n1 _).far (p:=⟨w3.heap.size,1,none⟩) n1 _).far (p:=⟨w3.heap.size,2,none⟩) n1 _).far (p:=⟨w3.heap.size+1,0,none⟩) n2 _).far (p:=⟨w3.heap.size+1,1,none⟩) n2 _).far (p:=⟨w3.heap.size+1,2,none⟩) n2 _)
  ·exact((((((bt hbw3 hb5).setCell (p:=⟨w3.heap.size,0,none⟩) k1 _).setCell (p:=⟨w3.heap.size,1,none⟩) k1 _).setCell (p:=⟨w3.heap.size,2,none⟩) k1 _).setCell (p:=⟨w3.heap.size+1,0,none⟩) (Nat.le_succ_of_le k1) _).setCell (p:=⟨w3.heap.size+1,1,none⟩) (Nat.le_succ_of_le k1) _).setCell (p:=⟨w3.heap.size+1,2,none⟩) (Nat.le_succ_of_le k1) _)
 have x0:=hB4.cell 0
 have x1:=hB4.cell 1
 have x2:=hB4.cell 2
 have y0:=hB5.cell 0
 have y1:=hB5.cell 1
 have y2:=hB5.cell 2
 have fx0:=hB4.frozen 0
 have fx1:=hB4.frozen 1
 have fx2:=hB4.frozen 2
 have fy0:=hB5.frozen 0
 have fy1:=hB5.frozen 1
 have fy2:=hB5.frozen 2
 simp only[List.getElem?_cons_zero,List.getElem?_cons_succ]at x0 x1 x2 y0 y1 y2
 clear hB3 hBb3 hbw3 hb5 hB4 hB5 hne1 hne2
 rcases hkd with rfl |rfl |rfl |rfl |rfl |rfl |rfl
 ·go_upto_region 30 with(fail)
  refine gen_world (HeadR w w3.heap.size (w3.heap.size+1)) HH.out λV0 hV0 =>?_
  clear HH x0 x1 x2 y0 y1 y2 fx0 fx1 fx2 fy0 fy1 fy2 hW5
  obtain⟨g4,hg4⟩:∃g4,g4=w3.heap.size:=⟨_,rfl⟩
  obtain⟨g5,hg5⟩:∃g5,g5=w3.heap.size+1:=⟨_,rfl⟩
  rw[<- hg5,<- hg4]at hV0
  rw[<- hg5,<- hg4]
  clear hg4 hg5 h45
  obtain⟨g6,hR,h4,h5,h6,hbw⟩:=hV0
  go_wp2_with (go_at_call 239;refine(maybe_any _ _ _ _).mono ?_)
  rintro e Vb1 ⟨rfl,hc1⟩
  have hR:=hR.below hc1 hR.lt
  have h4:=h4.below hc1 h4.lt
  have h5:=h5.below hc1 h5.lt
  have h6:=h6.below hc1 h6.lt
  have hbw:=bt hbw hc1
  clear hc1
  have v0:=(h4.cell 0).trans rfl
  have v1:=(h4.cell 1).trans rfl
  have v2:=(h4.cell 2).trans rfl
  have u0:=(h5.cell 0).trans rfl
  have u1:=(h5.cell 1).trans rfl
  have u2:=(h5.cell 2).trans rfl
  have hP:=Bx.new Vb1 226 [.func (.func 232) #[] #[],.int .i64 0,.int .i64 1]
  have hbP:=heap1 Vb1 (.cells #[.func (.func 232) #[] #[],.int .i64 0,.int .i64 1] 226)
  have hR:=hR.below hbP hR.lt
  have h4:=h4.below hbP h4.lt
  have h5:=h5.below hbP h5.lt
  have h6:=h6.below hbP h6.lt
  have hbw:=bt hbw hbP
  clear hbP
  go_wp2_with (go_at_call 235;refine(row_any _ _ _ _).mono ?_)
  rintro e V9 ⟨g,rfl,hBg,hgl,hb9⟩
  have hR:=hR.below hb9 hR.lt
  have h4:=h4.below hb9 h4.lt
  have h5:=h5.below hb9 h5.lt
  have h6:=h6.below hb9 h6.lt
  have hP:=hP.below hb9 hP.lt
  have hbw:=bt hbw hb9
  have hpe:partsOf 14=[pMaybe (expB)]:=by rfl
  have HRF:=hid (show RowAt _ g (partsOf 14)from by
   rw[hpe]
   have hBg:=far4 hR hBg (by decide) (.func (.func 234) #[] #[]) (.int .i64 0) (.int .i64 0) (.func (.func 266) #[] #[.pointer (some ⟨g,0,none⟩)])
   have hP:=far4 hR hP (by decide) (.func (.func 234) #[] #[]) (.int .i64 0) (.int .i64 0) (.func (.func 266) #[] #[.pointer (some ⟨g,0,none⟩)])
   have h6:=far4 hR h6 (by decide) (.func (.func 234) #[] #[]) (.int .i64 0) (.int .i64 0) (.func (.func 266) #[] #[.pointer (some ⟨g,0,none⟩)])
   refine⟨_,_,_,(hBg.cell 0).trans rfl,parts_of hP.lt (λj hj =>?_),rfl,hBg.lt⟩
   match j,hj with
   |0,_=>exact⟨_,_,(hP.cell 0).trans rfl,(hP.cell 1).trans rfl,(hP.cell 2).trans rfl,(.inr (.inl ⟨rfl,rfl,rfl⟩)),show(1:Nat)<=9223372036854775807 by omega⟩
   |k+1,h=>exact absurd h (by simp only[List.length_cons,List.length_nil];omega))
  have hE:=(((hR.set_ 0 (.func (.func 234) #[] #[])).set_ 1 (.int .i64 (loB 14))).set_ 2 (.int .i64 (hiB 14))).set_ 3 (.func (.func 266) #[] #[.pointer (some ⟨g,0,none⟩)])
  have hbE:=(((hbw.setCell (p:=⟨w.heap.size,0,none⟩) (Nat.le_refl _) (.func (.func 234) #[] #[])).setCell (p:=⟨w.heap.size,1,none⟩) (Nat.le_refl _) (.int .i64 (loB 14))).setCell (p:=⟨w.heap.size,2,none⟩) (Nat.le_refl _) (.int .i64 (hiB 14))).setCell (p:=⟨w.heap.size,3,none⟩) (Nat.le_refl _) (.func (.func 266) #[] #[.pointer (some ⟨g,0,none⟩)])
  have hlo:loB 14=0:=by rfl
  have hhi:hiB 14=0:=by rfl
  rw[hlo,hhi]at hE hbE
  simp only[List.set_cons_zero,List.set_cons_succ]at hE
  have HH:=hid (And.intro hE hbE)
  have r0:=(hR.cell 0).trans rfl
  have fr0:=hR.frozen 0
  have r1:=(hR.cell 1).trans rfl
  have fr1:=hR.frozen 1
  have r2:=(hR.cell 2).trans rfl
  have fr2:=hR.frozen 2
  have r3:=(hR.cell 3).trans rfl
  have fr3:=hR.frozen 3
  clear hE hbE v0 v1 v2 u0 u1 u2 hR h4 h5 hbw hBg hgl h6 hP hb9 hpe hlo hhi
  go_wp2
  obtain⟨hE,hbE⟩:=HH.out
  have z0:=(hE.cell 0).trans rfl
  have z1:=(hE.cell 1).trans rfl
  have z2:=(hE.cell 2).trans rfl
  have z3:=(hE.cell 3).trans rfl
  have HRF:=HRF.out
  generalize (((V9.setCell ⟨w.heap.size,0,none⟩ (.func (.func 234) #[] #[])).setCell ⟨w.heap.size,1,none⟩ (.int .i64 0)).setCell ⟨w.heap.size,2,none⟩ (.int .i64 0)).setCell ⟨w.heap.size,3,none⟩ (.func (.func 266) #[] #[.pointer (some ⟨g,0,none⟩)])=WE at *
  exact bodyPost_ret (v :=.tuple #[.agg #[.func (.func 234) #[] #[],.int .i64 0,.int .i64 0,.func (.func 266) #[] #[.pointer (some ⟨g,0,none⟩)]],.bool true]) (by simp[results,Tryz.f203,go_sem,z0,z1,z2,z3]) rfl ⟨g,rfl,HRF,hbE⟩
 ·go_upto_region 32 with(fail)
  refine gen_world (HeadR w w3.heap.size (w3.heap.size+1)) HH.out λV0 hV0 =>?_
  clear HH x0 x1 x2 y0 y1 y2 fx0 fx1 fx2 fy0 fy1 fy2 hW5
  obtain⟨g4,hg4⟩:∃g4,g4=w3.heap.size:=⟨_,rfl⟩
  obtain⟨g5,hg5⟩:∃g5,g5=w3.heap.size+1:=⟨_,rfl⟩
  rw[<- hg5,<- hg4]at hV0
  rw[<- hg5,<- hg4]
  clear hg4 hg5 h45
  obtain⟨g6,hR,h4,h5,h6,hbw⟩:=hV0
  have v0:=(h4.cell 0).trans rfl
  have v1:=(h4.cell 1).trans rfl
  have v2:=(h4.cell 2).trans rfl
  have u0:=(h5.cell 0).trans rfl
  have u1:=(h5.cell 1).trans rfl
  have u2:=(h5.cell 2).trans rfl
  have hP:=Bx.new V0 226 [.func (.func 232) #[] #[],.int .i64 1,.int .i64 1]
  have hbP:=heap1 V0 (.cells #[.func (.func 232) #[] #[],.int .i64 1,.int .i64 1] 226)
  have hR:=hR.below hbP hR.lt
  have h4:=h4.below hbP h4.lt
  have h5:=h5.below hbP h5.lt
  have h6:=h6.below hbP h6.lt
  have hbw:=bt hbw hbP
  clear hbP
  go_wp2_with (go_at_call 235;refine(row_any _ _ _ _).mono ?_)
  rintro e V9 ⟨g,rfl,hBg,hgl,hb9⟩
  have hR:=hR.below hb9 hR.lt
  have h4:=h4.below hb9 h4.lt
  have h5:=h5.below hb9 h5.lt
  have h6:=h6.below hb9 h6.lt
  have hP:=hP.below hb9 hP.lt
  have hbw:=bt hbw hb9
  have hpe:partsOf 15=[pOne (expB)]:=by rfl
  have HRF:=hid (show RowAt _ g (partsOf 15)from by
   rw[hpe]
   have hBg:=far4 hR hBg (by decide) (.func (.func 234) #[] #[]) (.int .i64 0) (.int .i64 0) (.func (.func 266) #[] #[.pointer (some ⟨g,0,none⟩)])
   have hP:=far4 hR hP (by decide) (.func (.func 234) #[] #[]) (.int .i64 0) (.int .i64 0) (.func (.func 266) #[] #[.pointer (some ⟨g,0,none⟩)])
   have h6:=far4 hR h6 (by decide) (.func (.func 234) #[] #[]) (.int .i64 0) (.int .i64 0) (.func (.func 266) #[] #[.pointer (some ⟨g,0,none⟩)])
   refine⟨_,_,_,(hBg.cell 0).trans rfl,parts_of hP.lt (λj hj =>?_),rfl,hBg.lt⟩
   match j,hj with
   |0,_=>exact⟨_,_,(hP.cell 0).trans rfl,(hP.cell 1).trans rfl,(hP.cell 2).trans rfl,(.inr (.inl ⟨rfl,rfl,rfl⟩)),show(1:Nat)<=9223372036854775807 by omega⟩
   |k+1,h=>exact absurd h (by simp only[List.length_cons,List.length_nil];omega))
  have hE:=(((hR.set_ 0 (.func (.func 234) #[] #[])).set_ 1 (.int .i64 (loB 15))).set_ 2 (.int .i64 (hiB 15))).set_ 3 (.func (.func 266) #[] #[.pointer (some ⟨g,0,none⟩)])
  have hbE:=(((hbw.setCell (p:=⟨w.heap.size,0,none⟩) (Nat.le_refl _) (.func (.func 234) #[] #[])).setCell (p:=⟨w.heap.size,1,none⟩) (Nat.le_refl _) (.int .i64 (loB 15))).setCell (p:=⟨w.heap.size,2,none⟩) (Nat.le_refl _) (.int .i64 (hiB 15))).setCell (p:=⟨w.heap.size,3,none⟩) (Nat.le_refl _) (.func (.func 266) #[] #[.pointer (some ⟨g,0,none⟩)])
  have hlo:loB 15=0:=by rfl
  have hhi:hiB 15=0:=by rfl
  rw[hlo,hhi]at hE hbE
  simp only[List.set_cons_zero,List.set_cons_succ]at hE
  have HH:=hid (And.intro hE hbE)
  have r0:=(hR.cell 0).trans rfl
  have fr0:=hR.frozen 0
  have r1:=(hR.cell 1).trans rfl
  have fr1:=hR.frozen 1
  have r2:=(hR.cell 2).trans rfl
  have fr2:=hR.frozen 2
  have r3:=(hR.cell 3).trans rfl
  have fr3:=hR.frozen 3
  clear hE hbE v0 v1 v2 u0 u1 u2 hR h4 h5 hbw hBg hgl h6 hP hb9 hpe hlo hhi
  go_wp2
  obtain⟨hE,hbE⟩:=HH.out
  have z0:=(hE.cell 0).trans rfl
  have z1:=(hE.cell 1).trans rfl
  have z2:=(hE.cell 2).trans rfl
  have z3:=(hE.cell 3).trans rfl
  have HRF:=HRF.out
  generalize (((V9.setCell ⟨w.heap.size,0,none⟩ (.func (.func 234) #[] #[])).setCell ⟨w.heap.size,1,none⟩ (.int .i64 0)).setCell ⟨w.heap.size,2,none⟩ (.int .i64 0)).setCell ⟨w.heap.size,3,none⟩ (.func (.func 266) #[] #[.pointer (some ⟨g,0,none⟩)])=WE at *
  exact bodyPost_ret (v :=.tuple #[.agg #[.func (.func 234) #[] #[],.int .i64 0,.int .i64 0,.func (.func 266) #[] #[.pointer (some ⟨g,0,none⟩)]],.bool true]) (by simp[results,Tryz.f203,go_sem,z0,z1,z2,z3]) rfl ⟨g,rfl,HRF,hbE⟩
 ·go_upto_region 34 with(fail)
  refine gen_world (HeadR w w3.heap.size (w3.heap.size+1)) HH.out λV0 hV0 =>?_
  clear HH x0 x1 x2 y0 y1 y2 fx0 fx1 fx2 fy0 fy1 fy2 hW5
  obtain⟨g4,hg4⟩:∃g4,g4=w3.heap.size:=⟨_,rfl⟩
  obtain⟨g5,hg5⟩:∃g5,g5=w3.heap.size+1:=⟨_,rfl⟩
  rw[<- hg5,<- hg4]at hV0
  rw[<- hg5,<- hg4]
  clear hg4 hg5 h45
  obtain⟨g6,hR,h4,h5,h6,hbw⟩:=hV0
  have v0:=(h4.cell 0).trans rfl
  have v1:=(h4.cell 1).trans rfl
  have v2:=(h4.cell 2).trans rfl
  have u0:=(h5.cell 0).trans rfl
  have u1:=(h5.cell 1).trans rfl
  have u2:=(h5.cell 2).trans rfl
  have hP:=Bx.new V0 226 [.func (.func 265) #[] #[.pointer (some ⟨g6,0,none⟩)],.int .i64 1,.int .i64 1,.func (.func 265) #[] #[.pointer (some ⟨g6,0,none⟩)],.int .i64 1,.int .i64 1]
  have hbP:=heap1 V0 (.cells #[.func (.func 265) #[] #[.pointer (some ⟨g6,0,none⟩)],.int .i64 1,.int .i64 1,.func (.func 265) #[] #[.pointer (some ⟨g6,0,none⟩)],.int .i64 1,.int .i64 1] 226)
  have hR:=hR.below hbP hR.lt
  have h4:=h4.below hbP h4.lt
  have h5:=h5.below hbP h5.lt
  have h6:=h6.below hbP h6.lt
  have hbw:=bt hbw hbP
  clear hbP
  go_wp2_with (go_at_call 235;refine(row_any _ _ _ _).mono ?_)
  rintro e V9 ⟨g,rfl,hBg,hgl,hb9⟩
  have hR:=hR.below hb9 hR.lt
  have h4:=h4.below hb9 h4.lt
  have h5:=h5.below hb9 h5.lt
  have h6:=h6.below hb9 h6.lt
  have hP:=hP.below hb9 hP.lt
  have hbw:=bt hbw hb9
  have hpe:partsOf 16=[pOne (isB 6),pOne (isB 6)]:=by rfl
  have HRF:=hid (show RowAt _ g (partsOf 16)from by
   rw[hpe]
   have hBg:=far4 hR hBg (by decide) (.func (.func 208) #[] #[]) (.int .i64 0) (.int .i64 0) (.func (.func 266) #[] #[.pointer (some ⟨g,0,none⟩)])
   have hP:=far4 hR hP (by decide) (.func (.func 208) #[] #[]) (.int .i64 0) (.int .i64 0) (.func (.func 266) #[] #[.pointer (some ⟨g,0,none⟩)])
   have h6:=far4 hR h6 (by decide) (.func (.func 208) #[] #[]) (.int .i64 0) (.int .i64 0) (.func (.func 266) #[] #[.pointer (some ⟨g,0,none⟩)])
   refine⟨_,_,_,(hBg.cell 0).trans rfl,parts_of hP.lt (λj hj =>?_),rfl,hBg.lt⟩
   match j,hj with
   |0,_=>exact⟨_,_,(hP.cell 0).trans rfl,(hP.cell 1).trans rfl,(hP.cell 2).trans rfl,.inl ⟨g6,6,rfl,rfl,(h6.cell 0).trans rfl,h6.lt,rfl⟩,show(1:Nat)<=9223372036854775807 by omega⟩
   |1,_=>exact⟨_,_,(hP.cell 3).trans rfl,(hP.cell 4).trans rfl,(hP.cell 5).trans rfl,.inl ⟨g6,6,rfl,rfl,(h6.cell 0).trans rfl,h6.lt,rfl⟩,show(1:Nat)<=9223372036854775807 by omega⟩
   |k+2,h=>exact absurd h (by simp only[List.length_cons,List.length_nil];omega))
  have hE:=(((hR.set_ 0 (.func (.func 208) #[] #[])).set_ 1 (.int .i64 (loB 16))).set_ 2 (.int .i64 (hiB 16))).set_ 3 (.func (.func 266) #[] #[.pointer (some ⟨g,0,none⟩)])
  have hbE:=(((hbw.setCell (p:=⟨w.heap.size,0,none⟩) (Nat.le_refl _) (.func (.func 208) #[] #[])).setCell (p:=⟨w.heap.size,1,none⟩) (Nat.le_refl _) (.int .i64 (loB 16))).setCell (p:=⟨w.heap.size,2,none⟩) (Nat.le_refl _) (.int .i64 (hiB 16))).setCell (p:=⟨w.heap.size,3,none⟩) (Nat.le_refl _) (.func (.func 266) #[] #[.pointer (some ⟨g,0,none⟩)])
  have hlo:loB 16=0:=by rfl
  have hhi:hiB 16=0:=by rfl
  rw[hlo,hhi]at hE hbE
  simp only[List.set_cons_zero,List.set_cons_succ]at hE
  have HH:=hid (And.intro hE hbE)
  have r0:=(hR.cell 0).trans rfl
  have fr0:=hR.frozen 0
  have r1:=(hR.cell 1).trans rfl
  have fr1:=hR.frozen 1
  have r2:=(hR.cell 2).trans rfl
  have fr2:=hR.frozen 2
  have r3:=(hR.cell 3).trans rfl
  have fr3:=hR.frozen 3
  clear hE hbE v0 v1 v2 u0 u1 u2 hR h4 h5 hbw hBg hgl h6 hP hb9 hpe hlo hhi
  go_wp2
  obtain⟨hE,hbE⟩:=HH.out
  have z0:=(hE.cell 0).trans rfl
  have z1:=(hE.cell 1).trans rfl
  have z2:=(hE.cell 2).trans rfl
  have z3:=(hE.cell 3).trans rfl
  have HRF:=HRF.out
  generalize (((V9.setCell ⟨w.heap.size,0,none⟩ (.func (.func 208) #[] #[])).setCell ⟨w.heap.size,1,none⟩ (.int .i64 0)).setCell ⟨w.heap.size,2,none⟩ (.int .i64 0)).setCell ⟨w.heap.size,3,none⟩ (.func (.func 266) #[] #[.pointer (some ⟨g,0,none⟩)])=WE at *
  exact bodyPost_ret (v :=.tuple #[.agg #[.func (.func 208) #[] #[],.int .i64 0,.int .i64 0,.func (.func 266) #[] #[.pointer (some ⟨g,0,none⟩)]],.bool true]) (by simp[results,Tryz.f203,go_sem,z0,z1,z2,z3]) rfl ⟨g,rfl,HRF,hbE⟩
 ·go_upto_region 40 with(fail)
  refine gen_world (HeadR w w3.heap.size (w3.heap.size+1)) HH.out λV0 hV0 =>?_
  clear HH x0 x1 x2 y0 y1 y2 fx0 fx1 fx2 fy0 fy1 fy2 hW5
  obtain⟨g4,hg4⟩:∃g4,g4=w3.heap.size:=⟨_,rfl⟩
  obtain⟨g5,hg5⟩:∃g5,g5=w3.heap.size+1:=⟨_,rfl⟩
  rw[<- hg5,<- hg4]at hV0
  rw[<- hg5,<- hg4]
  clear hg4 hg5 h45
  obtain⟨g6,hR,h4,h5,h6,hbw⟩:=hV0
  have v0:=(h4.cell 0).trans rfl
  have v1:=(h4.cell 1).trans rfl
  have v2:=(h4.cell 2).trans rfl
  have u0:=(h5.cell 0).trans rfl
  have u1:=(h5.cell 1).trans rfl
  have u2:=(h5.cell 2).trans rfl
  go_wp2_with (go_at_call 235;refine(row_any _ _ _ _).mono ?_)
  rintro e V9 ⟨g,rfl,hBg,hgl,hb9⟩
  have hR:=hR.below hb9 hR.lt
  have h4:=h4.below hb9 h4.lt
  have h5:=h5.below hb9 h5.lt
  have h6:=h6.below hb9 h6.lt
  have hbw:=bt hbw hb9
  have hpe:partsOf 18=[]:=by rfl
  have HRF:=hid (show RowAt _ g (partsOf 18)from by rw[hpe];have hBg:=far4 hR hBg (by decide) (.func (.func 208) #[] #[]) (.int .i64 0) (.int .i64 0) (.func (.func 266) #[] #[.pointer (some ⟨g,0,none⟩)]);exact⟨_,_,_,(hBg.cell 0).trans rfl,λh=>absurd h (by decide),rfl,hBg.lt⟩)
  have hE:=(((hR.set_ 0 (.func (.func 208) #[] #[])).set_ 1 (.int .i64 (loB 18))).set_ 2 (.int .i64 (hiB 18))).set_ 3 (.func (.func 266) #[] #[.pointer (some ⟨g,0,none⟩)])
  have hbE:=(((hbw.setCell (p:=⟨w.heap.size,0,none⟩) (Nat.le_refl _) (.func (.func 208) #[] #[])).setCell (p:=⟨w.heap.size,1,none⟩) (Nat.le_refl _) (.int .i64 (loB 18))).setCell (p:=⟨w.heap.size,2,none⟩) (Nat.le_refl _) (.int .i64 (hiB 18))).setCell (p:=⟨w.heap.size,3,none⟩) (Nat.le_refl _) (.func (.func 266) #[] #[.pointer (some ⟨g,0,none⟩)])
  have hlo:loB 18=0:=by rfl
  have hhi:hiB 18=0:=by rfl
  rw[hlo,hhi]at hE hbE
  simp only[List.set_cons_zero,List.set_cons_succ]at hE
  have HH:=hid (And.intro hE hbE)
  have r0:=(hR.cell 0).trans rfl
  have fr0:=hR.frozen 0
  have r1:=(hR.cell 1).trans rfl
  have fr1:=hR.frozen 1
  have r2:=(hR.cell 2).trans rfl
  have fr2:=hR.frozen 2
  have r3:=(hR.cell 3).trans rfl
  have fr3:=hR.frozen 3
  clear hE hbE v0 v1 v2 u0 u1 u2 hR h4 h5 hbw hBg hgl h6 hb9 hpe hlo hhi
  go_wp2
  obtain⟨hE,hbE⟩:=HH.out
  have z0:=(hE.cell 0).trans rfl
  have z1:=(hE.cell 1).trans rfl
  have z2:=(hE.cell 2).trans rfl
  have z3:=(hE.cell 3).trans rfl
  have HRF:=HRF.out
  generalize (((V9.setCell ⟨w.heap.size,0,none⟩ (.func (.func 208) #[] #[])).setCell ⟨w.heap.size,1,none⟩ (.int .i64 0)).setCell ⟨w.heap.size,2,none⟩ (.int .i64 0)).setCell ⟨w.heap.size,3,none⟩ (.func (.func 266) #[] #[.pointer (some ⟨g,0,none⟩)])=WE at *
  exact bodyPost_ret (v :=.tuple #[.agg #[.func (.func 208) #[] #[],.int .i64 0,.int .i64 0,.func (.func 266) #[] #[.pointer (some ⟨g,0,none⟩)]],.bool true]) (by simp[results,Tryz.f203,go_sem,z0,z1,z2,z3]) rfl ⟨g,rfl,HRF,hbE⟩
 ·go_upto_region 40 with(fail)
  refine gen_world (HeadR w w3.heap.size (w3.heap.size+1)) HH.out λV0 hV0 =>?_
  clear HH x0 x1 x2 y0 y1 y2 fx0 fx1 fx2 fy0 fy1 fy2 hW5
  obtain⟨g4,hg4⟩:∃g4,g4=w3.heap.size:=⟨_,rfl⟩
  obtain⟨g5,hg5⟩:∃g5,g5=w3.heap.size+1:=⟨_,rfl⟩
  rw[<- hg5,<- hg4]at hV0
  rw[<- hg5,<- hg4]
  clear hg4 hg5 h45
  obtain⟨g6,hR,h4,h5,h6,hbw⟩:=hV0
  have v0:=(h4.cell 0).trans rfl
  have v1:=(h4.cell 1).trans rfl
  have v2:=(h4.cell 2).trans rfl
  have u0:=(h5.cell 0).trans rfl
  have u1:=(h5.cell 1).trans rfl
  have u2:=(h5.cell 2).trans rfl
  go_wp2_with (go_at_call 235;refine(row_any _ _ _ _).mono ?_)
  rintro e V9 ⟨g,rfl,hBg,hgl,hb9⟩
  have hR:=hR.below hb9 hR.lt
  have h4:=h4.below hb9 h4.lt
  have h5:=h5.below hb9 h5.lt
  have h6:=h6.below hb9 h6.lt
  have hbw:=bt hbw hb9
  have hpe:partsOf 19=[]:=by rfl
  have HRF:=hid (show RowAt _ g (partsOf 19)from by rw[hpe];have hBg:=far4 hR hBg (by decide) (.func (.func 208) #[] #[]) (.int .i64 0) (.int .i64 0) (.func (.func 266) #[] #[.pointer (some ⟨g,0,none⟩)]);exact⟨_,_,_,(hBg.cell 0).trans rfl,λh=>absurd h (by decide),rfl,hBg.lt⟩)
  have hE:=(((hR.set_ 0 (.func (.func 208) #[] #[])).set_ 1 (.int .i64 (loB 19))).set_ 2 (.int .i64 (hiB 19))).set_ 3 (.func (.func 266) #[] #[.pointer (some ⟨g,0,none⟩)])
  have hbE:=(((hbw.setCell (p:=⟨w.heap.size,0,none⟩) (Nat.le_refl _) (.func (.func 208) #[] #[])).setCell (p:=⟨w.heap.size,1,none⟩) (Nat.le_refl _) (.int .i64 (loB 19))).setCell (p:=⟨w.heap.size,2,none⟩) (Nat.le_refl _) (.int .i64 (hiB 19))).setCell (p:=⟨w.heap.size,3,none⟩) (Nat.le_refl _) (.func (.func 266) #[] #[.pointer (some ⟨g,0,none⟩)])
  have hlo:loB 19=0:=by rfl
  have hhi:hiB 19=0:=by rfl
  rw[hlo,hhi]at hE hbE
  simp only[List.set_cons_zero,List.set_cons_succ]at hE
  have HH:=hid (And.intro hE hbE)
  have r0:=(hR.cell 0).trans rfl
  have fr0:=hR.frozen 0
  have r1:=(hR.cell 1).trans rfl
  have fr1:=hR.frozen 1
  have r2:=(hR.cell 2).trans rfl
  have fr2:=hR.frozen 2
  have r3:=(hR.cell 3).trans rfl
  have fr3:=hR.frozen 3
  clear hE hbE v0 v1 v2 u0 u1 u2 hR h4 h5 hbw hBg hgl h6 hb9 hpe hlo hhi
  go_wp2
  obtain⟨hE,hbE⟩:=HH.out
  have z0:=(hE.cell 0).trans rfl
  have z1:=(hE.cell 1).trans rfl
  have z2:=(hE.cell 2).trans rfl
  have z3:=(hE.cell 3).trans rfl
  have HRF:=HRF.out
  generalize (((V9.setCell ⟨w.heap.size,0,none⟩ (.func (.func 208) #[] #[])).setCell ⟨w.heap.size,1,none⟩ (.int .i64 0)).setCell ⟨w.heap.size,2,none⟩ (.int .i64 0)).setCell ⟨w.heap.size,3,none⟩ (.func (.func 266) #[] #[.pointer (some ⟨g,0,none⟩)])=WE at *
  exact bodyPost_ret (v :=.tuple #[.agg #[.func (.func 208) #[] #[],.int .i64 0,.int .i64 0,.func (.func 266) #[] #[.pointer (some ⟨g,0,none⟩)]],.bool true]) (by simp[results,Tryz.f203,go_sem,z0,z1,z2,z3]) rfl ⟨g,rfl,HRF,hbE⟩
 ·go_upto_region 42 with(fail)
  refine gen_world (HeadR w w3.heap.size (w3.heap.size+1)) HH.out λV0 hV0 =>?_
  clear HH x0 x1 x2 y0 y1 y2 fx0 fx1 fx2 fy0 fy1 fy2 hW5
  obtain⟨g4,hg4⟩:∃g4,g4=w3.heap.size:=⟨_,rfl⟩
  obtain⟨g5,hg5⟩:∃g5,g5=w3.heap.size+1:=⟨_,rfl⟩
  rw[<- hg5,<- hg4]at hV0
  rw[<- hg5,<- hg4]
  clear hg4 hg5 h45
  obtain⟨g6,hR,h4,h5,h6,hbw⟩:=hV0
  have v0:=(h4.cell 0).trans rfl
  have v1:=(h4.cell 1).trans rfl
  have v2:=(h4.cell 2).trans rfl
  have u0:=(h5.cell 0).trans rfl
  have u1:=(h5.cell 1).trans rfl
  have u2:=(h5.cell 2).trans rfl
  go_wp2_with (go_at_call 235;refine(row_any _ _ _ _).mono ?_)
  rintro e V9 ⟨g,rfl,hBg,hgl,hb9⟩
  have hR:=hR.below hb9 hR.lt
  have h4:=h4.below hb9 h4.lt
  have h5:=h5.below hb9 h5.lt
  have h6:=h6.below hb9 h6.lt
  have hbw:=bt hbw hb9
  have hpe:partsOf 20=[]:=by rfl
  have HRF:=hid (show RowAt _ g (partsOf 20)from by rw[hpe];have hBg:=far4 hR hBg (by decide) (.func (.func 234) #[] #[]) (.int .i64 0) (.int .i64 9223372036854775807) (.func (.func 266) #[] #[.pointer (some ⟨g,0,none⟩)]);exact⟨_,_,_,(hBg.cell 0).trans rfl,λh=>absurd h (by decide),rfl,hBg.lt⟩)
  have hE:=(((hR.set_ 0 (.func (.func 234) #[] #[])).set_ 1 (.int .i64 (loB 20))).set_ 2 (.int .i64 (hiB 20))).set_ 3 (.func (.func 266) #[] #[.pointer (some ⟨g,0,none⟩)])
  have hbE:=(((hbw.setCell (p:=⟨w.heap.size,0,none⟩) (Nat.le_refl _) (.func (.func 234) #[] #[])).setCell (p:=⟨w.heap.size,1,none⟩) (Nat.le_refl _) (.int .i64 (loB 20))).setCell (p:=⟨w.heap.size,2,none⟩) (Nat.le_refl _) (.int .i64 (hiB 20))).setCell (p:=⟨w.heap.size,3,none⟩) (Nat.le_refl _) (.func (.func 266) #[] #[.pointer (some ⟨g,0,none⟩)])
  have hlo:loB 20=0:=by rfl
  have hhi:hiB 20=9223372036854775807:=by rfl
  rw[hlo,hhi]at hE hbE
  simp only[List.set_cons_zero,List.set_cons_succ]at hE
  have HH:=hid (And.intro hE hbE)
  have r0:=(hR.cell 0).trans rfl
  have fr0:=hR.frozen 0
  have r1:=(hR.cell 1).trans rfl
  have fr1:=hR.frozen 1
  have r2:=(hR.cell 2).trans rfl
  have fr2:=hR.frozen 2
  have r3:=(hR.cell 3).trans rfl
  have fr3:=hR.frozen 3
  clear hE hbE v0 v1 v2 u0 u1 u2 hR h4 h5 hbw hBg hgl h6 hb9 hpe hlo hhi
  go_wp2
  obtain⟨hE,hbE⟩:=HH.out
  have z0:=(hE.cell 0).trans rfl
  have z1:=(hE.cell 1).trans rfl
  have z2:=(hE.cell 2).trans rfl
  have z3:=(hE.cell 3).trans rfl
  have HRF:=HRF.out
  generalize (((V9.setCell ⟨w.heap.size,0,none⟩ (.func (.func 234) #[] #[])).setCell ⟨w.heap.size,1,none⟩ (.int .i64 0)).setCell ⟨w.heap.size,2,none⟩ (.int .i64 9223372036854775807)).setCell ⟨w.heap.size,3,none⟩ (.func (.func 266) #[] #[.pointer (some ⟨g,0,none⟩)])=WE at *
  exact bodyPost_ret (v :=.tuple #[.agg #[.func (.func 234) #[] #[],.int .i64 0,.int .i64 9223372036854775807,.func (.func 266) #[] #[.pointer (some ⟨g,0,none⟩)]],.bool true]) (by simp[results,Tryz.f203,go_sem,z0,z1,z2,z3]) rfl ⟨g,rfl,HRF,hbE⟩
 ·go_upto_region 44 with(fail)
  refine gen_world (HeadR w w3.heap.size (w3.heap.size+1)) HH.out λV0 hV0 =>?_
  clear HH x0 x1 x2 y0 y1 y2 fx0 fx1 fx2 fy0 fy1 fy2 hW5
  obtain⟨g4,hg4⟩:∃g4,g4=w3.heap.size:=⟨_,rfl⟩
  obtain⟨g5,hg5⟩:∃g5,g5=w3.heap.size+1:=⟨_,rfl⟩
  rw[<- hg5,<- hg4]at hV0
  rw[<- hg5,<- hg4]
  clear hg4 hg5 h45
  obtain⟨g6,hR,h4,h5,h6,hbw⟩:=hV0
  have v0:=(h4.cell 0).trans rfl
  have v1:=(h4.cell 1).trans rfl
  have v2:=(h4.cell 2).trans rfl
  have u0:=(h5.cell 0).trans rfl
  have u1:=(h5.cell 1).trans rfl
  have u2:=(h5.cell 2).trans rfl
  go_wp2_with (go_at_call 235;refine(row_any _ _ _ _).mono ?_)
  rintro e V9 ⟨g,rfl,hBg,hgl,hb9⟩
  have hR:=hR.below hb9 hR.lt
  have h4:=h4.below hb9 h4.lt
  have h5:=h5.below hb9 h5.lt
  have h6:=h6.below hb9 h6.lt
  have hbw:=bt hbw hb9
  have hpe:partsOf 21=[]:=by rfl
  have HRF:=hid (show RowAt _ g (partsOf 21)from by rw[hpe];have hBg:=far4 hR hBg (by decide) (.func (.func 234) #[] #[]) (.int .i64 0) (.int .i64 1) (.func (.func 266) #[] #[.pointer (some ⟨g,0,none⟩)]);exact⟨_,_,_,(hBg.cell 0).trans rfl,λh=>absurd h (by decide),rfl,hBg.lt⟩)
  have hE:=(((hR.set_ 0 (.func (.func 234) #[] #[])).set_ 1 (.int .i64 (loB 21))).set_ 2 (.int .i64 (hiB 21))).set_ 3 (.func (.func 266) #[] #[.pointer (some ⟨g,0,none⟩)])
  have hbE:=(((hbw.setCell (p:=⟨w.heap.size,0,none⟩) (Nat.le_refl _) (.func (.func 234) #[] #[])).setCell (p:=⟨w.heap.size,1,none⟩) (Nat.le_refl _) (.int .i64 (loB 21))).setCell (p:=⟨w.heap.size,2,none⟩) (Nat.le_refl _) (.int .i64 (hiB 21))).setCell (p:=⟨w.heap.size,3,none⟩) (Nat.le_refl _) (.func (.func 266) #[] #[.pointer (some ⟨g,0,none⟩)])
  have hlo:loB 21=0:=by rfl
  have hhi:hiB 21=1:=by rfl
  rw[hlo,hhi]at hE hbE
  simp only[List.set_cons_zero,List.set_cons_succ]at hE
  have HH:=hid (And.intro hE hbE)
  have r0:=(hR.cell 0).trans rfl
  have fr0:=hR.frozen 0
  have r1:=(hR.cell 1).trans rfl
  have fr1:=hR.frozen 1
  have r2:=(hR.cell 2).trans rfl
  have fr2:=hR.frozen 2
  have r3:=(hR.cell 3).trans rfl
  have fr3:=hR.frozen 3
  clear hE hbE v0 v1 v2 u0 u1 u2 hR h4 h5 hbw hBg hgl h6 hb9 hpe hlo hhi
  go_wp2
  obtain⟨hE,hbE⟩:=HH.out
  have z0:=(hE.cell 0).trans rfl
  have z1:=(hE.cell 1).trans rfl
  have z2:=(hE.cell 2).trans rfl
  have z3:=(hE.cell 3).trans rfl
  have HRF:=HRF.out
  generalize (((V9.setCell ⟨w.heap.size,0,none⟩ (.func (.func 234) #[] #[])).setCell ⟨w.heap.size,1,none⟩ (.int .i64 0)).setCell ⟨w.heap.size,2,none⟩ (.int .i64 1)).setCell ⟨w.heap.size,3,none⟩ (.func (.func 266) #[] #[.pointer (some ⟨g,0,none⟩)])=WE at *
  exact bodyPost_ret (v :=.tuple #[.agg #[.func (.func 234) #[] #[],.int .i64 0,.int .i64 1,.func (.func 266) #[] #[.pointer (some ⟨g,0,none⟩)]],.bool true]) (by simp[results,Tryz.f203,go_sem,z0,z1,z2,z3]) rfl ⟨g,rfl,HRF,hbE⟩
theorem shape_14 (w:World):Calls Tryz.prog 203 #[.int .i64 14] w (ShPost 14 w):=shapes_14_15_16_18_19_20_21 w 14 (by simp)
theorem shape_15 (w:World):Calls Tryz.prog 203 #[.int .i64 15] w (ShPost 15 w):=shapes_14_15_16_18_19_20_21 w 15 (by simp)
theorem shape_16 (w:World):Calls Tryz.prog 203 #[.int .i64 16] w (ShPost 16 w):=shapes_14_15_16_18_19_20_21 w 16 (by simp)
theorem shape_18 (w:World):Calls Tryz.prog 203 #[.int .i64 18] w (ShPost 18 w):=shapes_14_15_16_18_19_20_21 w 18 (by simp)
theorem shape_19 (w:World):Calls Tryz.prog 203 #[.int .i64 19] w (ShPost 19 w):=shapes_14_15_16_18_19_20_21 w 19 (by simp)
theorem shape_20 (w:World):Calls Tryz.prog 203 #[.int .i64 20] w (ShPost 20 w):=shapes_14_15_16_18_19_20_21 w 20 (by simp)
theorem shape_21 (w:World):Calls Tryz.prog 203 #[.int .i64 21] w (ShPost 21 w):=shapes_14_15_16_18_19_20_21 w 21 (by simp)
set_option maxRecDepth 100000 in
set_option maxHeartbeats 20000000 in
theorem shapes_22_24_25_26_27 (w:World)(kd:Int)(hkd:kd=22\/kd=24\/kd=25\/kd=26\/kd=27):Calls Tryz.prog 203 #[.int .i64 kd] w (ShPost kd w):=by
 have hst:=st_func
 have hb0:Below w.heap.size w (w.alloc (.cells #[.nilFunc,.int .i64 0,.int .i64 0,.nilFunc] 209)):=heap1 _ _
 have hB0:=Bx.new w 209 [.nilFunc,.int .i64 0,.int .i64 0,.nilFunc]
 go_enter Tryz.func203,Tryz.ntmps203
 go_wp2_with (go_at_call 231;refine(one_any _ _ _ _).mono ?_)
 rintro e w1 ⟨rfl,hb1⟩
 go_wp2_with (go_at_call 233;refine(is_any _ _).mono ?_)
 rintro e w2 ⟨gb,rfl,hBb,hgb,hb2⟩
 go_wp2_with (go_at_call 231;refine(one_any _ _ _ _).mono ?_)
 rintro e w3 ⟨rfl,hb3⟩
 have hB3:=((hB0.below hb1 hB0.lt).below hb2 (hB0.below hb1 hB0.lt).lt).below hb3 ((hB0.below hb1 hB0.lt).below hb2 (hB0.below hb1 hB0.lt).lt).lt
 have hBb3:=hBb.below hb3 hBb.lt
 have hbw3:=bt (bt (bt hb0 hb1) hb2) hb3
 clear hb0 hb1 hb2 hb3 hB0 hBb hgb
 obtain⟨W5,hW5⟩:∃W5,(w3.alloc (.cells #[.nilFunc,.int .i64 0,.int .i64 0] 226)).alloc (.cells #[.nilFunc,.int .i64 0,.int .i64 0] 226)=W5:=⟨_,rfl⟩
 have h45:w3.heap.size≠w3.heap.size+1:=by omega
 have hb5:Below w3.heap.size w3 W5:=by rw[<- hW5];exact(heap1 _ _).alloc (by simp) _
 have hB4:Bx W5 w3.heap.size 226 [.nilFunc,.int .i64 0,.int .i64 0]:=by rw[<- hW5];exact(Bx.new w3 226 _).alloc _
 have hB5:Bx W5 (w3.heap.size+1) 226 [.nilFunc,.int .i64 0,.int .i64 0]:=by
  rw[<- hW5];have:=Bx.new (w3.alloc (.cells #[.nilFunc,.int .i64 0,.int .i64 0] 226)) 226 [.nilFunc,.int .i64 0,.int .i64 0]
  rw[World.size_alloc]at this;exact this
 have hne1:w.heap.size≠w3.heap.size:=λh=>by have:=hB3.lt;omega
 have hne2:w.heap.size≠w3.heap.size+1:=λh=>by have:=hB3.lt;omega
 have HH:=hid (show HeadR w w3.heap.size (w3.heap.size+1) ((((((W5.setCell ⟨w3.heap.size,0,none⟩ (.func (.func 232) #[] #[])).setCell ⟨w3.heap.size,1,none⟩ (.int .i64 1)).setCell ⟨w3.heap.size,2,none⟩ (.int .i64 1)).setCell ⟨w3.heap.size+1,0,none⟩ (.func (.func 265) #[] #[.pointer (some ⟨gb,0,none⟩)])).setCell ⟨w3.heap.size+1,1,none⟩ (.int .i64 1)).setCell ⟨w3.heap.size+1,2,none⟩ (.int .i64 1))from by
  have hq:=hB3.below hb5 hB3.lt
  have hb:=hBb3.below hb5 hBb3.lt
  have n1:gb≠w3.heap.size:=λh=>by have:=hBb3.lt;omega
  have n2:gb≠w3.heap.size+1:=λh=>by have:=hBb3.lt;omega
  have k1:w.heap.size<=w3.heap.size:=hbw3.size
  refine⟨gb,?_,?_,?_,?_,?_⟩
  ·exact(((((hq.far (p:=⟨w3.heap.size,0,none⟩) hne1 _).far (p:=⟨w3.heap.size,1,none⟩) hne1 _).far (p:=⟨w3.heap.size,2,none⟩) hne1 _).far (p:=⟨w3.heap.size+1,0,none⟩) hne2 _).far (p:=⟨w3.heap.size+1,1,none⟩) hne2 _).far (p:=⟨w3.heap.size+1,2,none⟩) hne2 _
  ·exact(((((hB4.set_ 0 _).set_ 1 _).set_ 2 _).far (p:=⟨w3.heap.size+1,0,none⟩) h45 _).far (p:=⟨w3.heap.size+1,1,none⟩) h45 _).far (p:=⟨w3.heap.size+1,2,none⟩) h45 _
  ·exact(((((hB5.far (p:=⟨w3.heap.size,0,none⟩) h45.symm _).far (p:=⟨w3.heap.size,1,none⟩) h45.symm _).far (p:=⟨w3.heap.size,2,none⟩) h45.symm _).set_ 0 _).set_ 1 _).set_ 2 _
  ·exact((((((hb.far (p:=⟨w3.heap.size,0,none⟩) n1 _).far (p:=⟨w3.heap.size,1,none⟩) n1 _).far (p:=⟨w3.heap.size,2,none⟩) n1 _).far (p:=⟨w3.heap.size+1,0,none⟩) n2 _).far (p:=⟨w3.heap.size+1,1,none⟩) n2 _).far (p:=⟨w3.heap.size+1,2,none⟩) n2 _)
  ·exact((((((bt hbw3 hb5).setCell (p:=⟨w3.heap.size,0,none⟩) k1 _).setCell (p:=⟨w3.heap.size,1,none⟩) k1 _).setCell (p:=⟨w3.heap.size,2,none⟩) k1 _).setCell (p:=⟨w3.heap.size+1,0,none⟩) (Nat.le_succ_of_le k1) _).setCell (p:=⟨w3.heap.size+1,1,none⟩) (Nat.le_succ_of_le k1) _).setCell (p:=⟨w3.heap.size+1,2,none⟩) (Nat.le_succ_of_le k1) _)
 have x0:=hB4.cell 0
 have x1:=hB4.cell 1
 have x2:=hB4.cell 2
 have y0:=hB5.cell 0
 have y1:=hB5.cell 1
 have y2:=hB5.cell 2
 have fx0:=hB4.frozen 0
 have fx1:=hB4.frozen 1
 have fx2:=hB4.frozen 2
 have fy0:=hB5.frozen 0
 have fy1:=hB5.frozen 1
 have fy2:=hB5.frozen 2
 simp only[List.getElem?_cons_zero,List.getElem?_cons_succ]at x0 x1 x2 y0 y1 y2
 clear hB3 hBb3 hbw3 hb5 hB4 hB5 hne1 hne2
 rcases hkd with rfl |rfl |rfl |rfl |rfl
 ·go_upto_region 40 with(fail)
  refine gen_world (HeadR w w3.heap.size (w3.heap.size+1)) HH.out λV0 hV0 =>?_
  clear HH x0 x1 x2 y0 y1 y2 fx0 fx1 fx2 fy0 fy1 fy2 hW5
  obtain⟨g4,hg4⟩:∃g4,g4=w3.heap.size:=⟨_,rfl⟩
  obtain⟨g5,hg5⟩:∃g5,g5=w3.heap.size+1:=⟨_,rfl⟩
  rw[<- hg5,<- hg4]at hV0
  rw[<- hg5,<- hg4]
  clear hg4 hg5 h45
  obtain⟨g6,hR,h4,h5,h6,hbw⟩:=hV0
  have v0:=(h4.cell 0).trans rfl
  have v1:=(h4.cell 1).trans rfl
  have v2:=(h4.cell 2).trans rfl
  have u0:=(h5.cell 0).trans rfl
  have u1:=(h5.cell 1).trans rfl
  have u2:=(h5.cell 2).trans rfl
  go_wp2_with (go_at_call 235;refine(row_any _ _ _ _).mono ?_)
  rintro e V9 ⟨g,rfl,hBg,hgl,hb9⟩
  have hR:=hR.below hb9 hR.lt
  have h4:=h4.below hb9 h4.lt
  have h5:=h5.below hb9 h5.lt
  have h6:=h6.below hb9 h6.lt
  have hbw:=bt hbw hb9
  have hpe:partsOf 22=[]:=by rfl
  have HRF:=hid (show RowAt _ g (partsOf 22)from by rw[hpe];have hBg:=far4 hR hBg (by decide) (.func (.func 208) #[] #[]) (.int .i64 0) (.int .i64 0) (.func (.func 266) #[] #[.pointer (some ⟨g,0,none⟩)]);exact⟨_,_,_,(hBg.cell 0).trans rfl,λh=>absurd h (by decide),rfl,hBg.lt⟩)
  have hE:=(((hR.set_ 0 (.func (.func 208) #[] #[])).set_ 1 (.int .i64 (loB 22))).set_ 2 (.int .i64 (hiB 22))).set_ 3 (.func (.func 266) #[] #[.pointer (some ⟨g,0,none⟩)])
  have hbE:=(((hbw.setCell (p:=⟨w.heap.size,0,none⟩) (Nat.le_refl _) (.func (.func 208) #[] #[])).setCell (p:=⟨w.heap.size,1,none⟩) (Nat.le_refl _) (.int .i64 (loB 22))).setCell (p:=⟨w.heap.size,2,none⟩) (Nat.le_refl _) (.int .i64 (hiB 22))).setCell (p:=⟨w.heap.size,3,none⟩) (Nat.le_refl _) (.func (.func 266) #[] #[.pointer (some ⟨g,0,none⟩)])
  have hlo:loB 22=0:=by rfl
  have hhi:hiB 22=0:=by rfl
  rw[hlo,hhi]at hE hbE
  simp only[List.set_cons_zero,List.set_cons_succ]at hE
  have HH:=hid (And.intro hE hbE)
  have r0:=(hR.cell 0).trans rfl
  have fr0:=hR.frozen 0
  have r1:=(hR.cell 1).trans rfl
  have fr1:=hR.frozen 1
  have r2:=(hR.cell 2).trans rfl
  have fr2:=hR.frozen 2
  have r3:=(hR.cell 3).trans rfl
  have fr3:=hR.frozen 3
  clear hE hbE v0 v1 v2 u0 u1 u2 hR h4 h5 hbw hBg hgl h6 hb9 hpe hlo hhi
  go_wp2
  obtain⟨hE,hbE⟩:=HH.out
  have z0:=(hE.cell 0).trans rfl
  have z1:=(hE.cell 1).trans rfl
  have z2:=(hE.cell 2).trans rfl
  have z3:=(hE.cell 3).trans rfl
  have HRF:=HRF.out
  generalize (((V9.setCell ⟨w.heap.size,0,none⟩ (.func (.func 208) #[] #[])).setCell ⟨w.heap.size,1,none⟩ (.int .i64 0)).setCell ⟨w.heap.size,2,none⟩ (.int .i64 0)).setCell ⟨w.heap.size,3,none⟩ (.func (.func 266) #[] #[.pointer (some ⟨g,0,none⟩)])=WE at *
  exact bodyPost_ret (v :=.tuple #[.agg #[.func (.func 208) #[] #[],.int .i64 0,.int .i64 0,.func (.func 266) #[] #[.pointer (some ⟨g,0,none⟩)]],.bool true]) (by simp[results,Tryz.f203,go_sem,z0,z1,z2,z3]) rfl ⟨g,rfl,HRF,hbE⟩
 ·go_upto_region 40 with(fail)
  refine gen_world (HeadR w w3.heap.size (w3.heap.size+1)) HH.out λV0 hV0 =>?_
  clear HH x0 x1 x2 y0 y1 y2 fx0 fx1 fx2 fy0 fy1 fy2 hW5
  obtain⟨g4,hg4⟩:∃g4,g4=w3.heap.size:=⟨_,rfl⟩
  obtain⟨g5,hg5⟩:∃g5,g5=w3.heap.size+1:=⟨_,rfl⟩
  rw[<- hg5,<- hg4]at hV0
  rw[<- hg5,<- hg4]
  clear hg4 hg5 h45
  obtain⟨g6,hR,h4,h5,h6,hbw⟩:=hV0
  have v0:=(h4.cell 0).trans rfl
  have v1:=(h4.cell 1).trans rfl
  have v2:=(h4.cell 2).trans rfl
  have u0:=(h5.cell 0).trans rfl
  have u1:=(h5.cell 1).trans rfl
  have u2:=(h5.cell 2).trans rfl
  go_wp2_with (go_at_call 235;refine(row_any _ _ _ _).mono ?_)
  rintro e V9 ⟨g,rfl,hBg,hgl,hb9⟩
  have hR:=hR.below hb9 hR.lt
  have h4:=h4.below hb9 h4.lt
  have h5:=h5.below hb9 h5.lt
  have h6:=h6.below hb9 h6.lt
  have hbw:=bt hbw hb9
  have hpe:partsOf 24=[]:=by rfl
  have HRF:=hid (show RowAt _ g (partsOf 24)from by rw[hpe];have hBg:=far4 hR hBg (by decide) (.func (.func 208) #[] #[]) (.int .i64 0) (.int .i64 0) (.func (.func 266) #[] #[.pointer (some ⟨g,0,none⟩)]);exact⟨_,_,_,(hBg.cell 0).trans rfl,λh=>absurd h (by decide),rfl,hBg.lt⟩)
  have hE:=(((hR.set_ 0 (.func (.func 208) #[] #[])).set_ 1 (.int .i64 (loB 24))).set_ 2 (.int .i64 (hiB 24))).set_ 3 (.func (.func 266) #[] #[.pointer (some ⟨g,0,none⟩)])
  have hbE:=(((hbw.setCell (p:=⟨w.heap.size,0,none⟩) (Nat.le_refl _) (.func (.func 208) #[] #[])).setCell (p:=⟨w.heap.size,1,none⟩) (Nat.le_refl _) (.int .i64 (loB 24))).setCell (p:=⟨w.heap.size,2,none⟩) (Nat.le_refl _) (.int .i64 (hiB 24))).setCell (p:=⟨w.heap.size,3,none⟩) (Nat.le_refl _) (.func (.func 266) #[] #[.pointer (some ⟨g,0,none⟩)])
  have hlo:loB 24=0:=by rfl
  have hhi:hiB 24=0:=by rfl
  rw[hlo,hhi]at hE hbE
  simp only[List.set_cons_zero,List.set_cons_succ]at hE
  have HH:=hid (And.intro hE hbE)
  have r0:=(hR.cell 0).trans rfl
  have fr0:=hR.frozen 0
  have r1:=(hR.cell 1).trans rfl
  have fr1:=hR.frozen 1
  have r2:=(hR.cell 2).trans rfl
  have fr2:=hR.frozen 2
  have r3:=(hR.cell 3).trans rfl
  have fr3:=hR.frozen 3
  clear hE hbE v0 v1 v2 u0 u1 u2 hR h4 h5 hbw hBg hgl h6 hb9 hpe hlo hhi
  go_wp2
  obtain⟨hE,hbE⟩:=HH.out
  have z0:=(hE.cell 0).trans rfl
  have z1:=(hE.cell 1).trans rfl
  have z2:=(hE.cell 2).trans rfl
  have z3:=(hE.cell 3).trans rfl
  have HRF:=HRF.out
  generalize (((V9.setCell ⟨w.heap.size,0,none⟩ (.func (.func 208) #[] #[])).setCell ⟨w.heap.size,1,none⟩ (.int .i64 0)).setCell ⟨w.heap.size,2,none⟩ (.int .i64 0)).setCell ⟨w.heap.size,3,none⟩ (.func (.func 266) #[] #[.pointer (some ⟨g,0,none⟩)])=WE at *
  exact bodyPost_ret (v :=.tuple #[.agg #[.func (.func 208) #[] #[],.int .i64 0,.int .i64 0,.func (.func 266) #[] #[.pointer (some ⟨g,0,none⟩)]],.bool true]) (by simp[results,Tryz.f203,go_sem,z0,z1,z2,z3]) rfl ⟨g,rfl,HRF,hbE⟩
 ·go_upto_region 40 with(fail)
  refine gen_world (HeadR w w3.heap.size (w3.heap.size+1)) HH.out λV0 hV0 =>?_
  clear HH x0 x1 x2 y0 y1 y2 fx0 fx1 fx2 fy0 fy1 fy2 hW5
  obtain⟨g4,hg4⟩:∃g4,g4=w3.heap.size:=⟨_,rfl⟩
  obtain⟨g5,hg5⟩:∃g5,g5=w3.heap.size+1:=⟨_,rfl⟩
  rw[<- hg5,<- hg4]at hV0
  rw[<- hg5,<- hg4]
  clear hg4 hg5 h45
  obtain⟨g6,hR,h4,h5,h6,hbw⟩:=hV0
  have v0:=(h4.cell 0).trans rfl
  have v1:=(h4.cell 1).trans rfl
  have v2:=(h4.cell 2).trans rfl
  have u0:=(h5.cell 0).trans rfl
  have u1:=(h5.cell 1).trans rfl
  have u2:=(h5.cell 2).trans rfl
  go_wp2_with (go_at_call 235;refine(row_any _ _ _ _).mono ?_)
  rintro e V9 ⟨g,rfl,hBg,hgl,hb9⟩
  have hR:=hR.below hb9 hR.lt
  have h4:=h4.below hb9 h4.lt
  have h5:=h5.below hb9 h5.lt
  have h6:=h6.below hb9 h6.lt
  have hbw:=bt hbw hb9
  have hpe:partsOf 25=[]:=by rfl
  have HRF:=hid (show RowAt _ g (partsOf 25)from by rw[hpe];have hBg:=far4 hR hBg (by decide) (.func (.func 208) #[] #[]) (.int .i64 0) (.int .i64 0) (.func (.func 266) #[] #[.pointer (some ⟨g,0,none⟩)]);exact⟨_,_,_,(hBg.cell 0).trans rfl,λh=>absurd h (by decide),rfl,hBg.lt⟩)
  have hE:=(((hR.set_ 0 (.func (.func 208) #[] #[])).set_ 1 (.int .i64 (loB 25))).set_ 2 (.int .i64 (hiB 25))).set_ 3 (.func (.func 266) #[] #[.pointer (some ⟨g,0,none⟩)])
  have hbE:=(((hbw.setCell (p:=⟨w.heap.size,0,none⟩) (Nat.le_refl _) (.func (.func 208) #[] #[])).setCell (p:=⟨w.heap.size,1,none⟩) (Nat.le_refl _) (.int .i64 (loB 25))).setCell (p:=⟨w.heap.size,2,none⟩) (Nat.le_refl _) (.int .i64 (hiB 25))).setCell (p:=⟨w.heap.size,3,none⟩) (Nat.le_refl _) (.func (.func 266) #[] #[.pointer (some ⟨g,0,none⟩)])
  have hlo:loB 25=0:=by rfl
  have hhi:hiB 25=0:=by rfl
  rw[hlo,hhi]at hE hbE
  simp only[List.set_cons_zero,List.set_cons_succ]at hE
  have HH:=hid (And.intro hE hbE)
  have r0:=(hR.cell 0).trans rfl
  have fr0:=hR.frozen 0
  have r1:=(hR.cell 1).trans rfl
  have fr1:=hR.frozen 1
  have r2:=(hR.cell 2).trans rfl
  have fr2:=hR.frozen 2
  have r3:=(hR.cell 3).trans rfl
  have fr3:=hR.frozen 3
  clear hE hbE v0 v1 v2 u0 u1 u2 hR h4 h5 hbw hBg hgl h6 hb9 hpe hlo hhi
  go_wp2
  obtain⟨hE,hbE⟩:=HH.out
  have z0:=(hE.cell 0).trans rfl
  have z1:=(hE.cell 1).trans rfl
  have z2:=(hE.cell 2).trans rfl
  have z3:=(hE.cell 3).trans rfl
  have HRF:=HRF.out
  generalize (((V9.setCell ⟨w.heap.size,0,none⟩ (.func (.func 208) #[] #[])).setCell ⟨w.heap.size,1,none⟩ (.int .i64 0)).setCell ⟨w.heap.size,2,none⟩ (.int .i64 0)).setCell ⟨w.heap.size,3,none⟩ (.func (.func 266) #[] #[.pointer (some ⟨g,0,none⟩)])=WE at *
  exact bodyPost_ret (v :=.tuple #[.agg #[.func (.func 208) #[] #[],.int .i64 0,.int .i64 0,.func (.func 266) #[] #[.pointer (some ⟨g,0,none⟩)]],.bool true]) (by simp[results,Tryz.f203,go_sem,z0,z1,z2,z3]) rfl ⟨g,rfl,HRF,hbE⟩
 ·go_upto_region 46 with(fail)
  refine gen_world (HeadR w w3.heap.size (w3.heap.size+1)) HH.out λV0 hV0 =>?_
  clear HH x0 x1 x2 y0 y1 y2 fx0 fx1 fx2 fy0 fy1 fy2 hW5
  obtain⟨g4,hg4⟩:∃g4,g4=w3.heap.size:=⟨_,rfl⟩
  obtain⟨g5,hg5⟩:∃g5,g5=w3.heap.size+1:=⟨_,rfl⟩
  rw[<- hg5,<- hg4]at hV0
  rw[<- hg5,<- hg4]
  clear hg4 hg5 h45
  obtain⟨g6,hR,h4,h5,h6,hbw⟩:=hV0
  have v0:=(h4.cell 0).trans rfl
  have v1:=(h4.cell 1).trans rfl
  have v2:=(h4.cell 2).trans rfl
  have u0:=(h5.cell 0).trans rfl
  have u1:=(h5.cell 1).trans rfl
  have u2:=(h5.cell 2).trans rfl
  have hP:=Bx.new V0 226 [.func (.func 232) #[] #[],.int .i64 1,.int .i64 1]
  have hbP:=heap1 V0 (.cells #[.func (.func 232) #[] #[],.int .i64 1,.int .i64 1] 226)
  have hR:=hR.below hbP hR.lt
  have h4:=h4.below hbP h4.lt
  have h5:=h5.below hbP h5.lt
  have h6:=h6.below hbP h6.lt
  have hbw:=bt hbw hbP
  clear hbP
  go_wp2_with (go_at_call 235;refine(row_any _ _ _ _).mono ?_)
  rintro e V9 ⟨g,rfl,hBg,hgl,hb9⟩
  have hR:=hR.below hb9 hR.lt
  have h4:=h4.below hb9 h4.lt
  have h5:=h5.below hb9 h5.lt
  have h6:=h6.below hb9 h6.lt
  have hP:=hP.below hb9 hP.lt
  have hbw:=bt hbw hb9
  have hpe:partsOf 26=[pOne (expB)]:=by rfl
  have HRF:=hid (show RowAt _ g (partsOf 26)from by
   rw[hpe]
   have hBg:=far4 hR hBg (by decide) (.func (.func 240) #[] #[]) (.int .i64 0) (.int .i64 0) (.func (.func 266) #[] #[.pointer (some ⟨g,0,none⟩)])
   have hP:=far4 hR hP (by decide) (.func (.func 240) #[] #[]) (.int .i64 0) (.int .i64 0) (.func (.func 266) #[] #[.pointer (some ⟨g,0,none⟩)])
   have h6:=far4 hR h6 (by decide) (.func (.func 240) #[] #[]) (.int .i64 0) (.int .i64 0) (.func (.func 266) #[] #[.pointer (some ⟨g,0,none⟩)])
   refine⟨_,_,_,(hBg.cell 0).trans rfl,parts_of hP.lt (λj hj =>?_),rfl,hBg.lt⟩
   match j,hj with
   |0,_=>exact⟨_,_,(hP.cell 0).trans rfl,(hP.cell 1).trans rfl,(hP.cell 2).trans rfl,(.inr (.inl ⟨rfl,rfl,rfl⟩)),show(1:Nat)<=9223372036854775807 by omega⟩
   |k+1,h=>exact absurd h (by simp only[List.length_cons,List.length_nil];omega))
  have hE:=(((hR.set_ 0 (.func (.func 240) #[] #[])).set_ 1 (.int .i64 (loB 26))).set_ 2 (.int .i64 (hiB 26))).set_ 3 (.func (.func 266) #[] #[.pointer (some ⟨g,0,none⟩)])
  have hbE:=(((hbw.setCell (p:=⟨w.heap.size,0,none⟩) (Nat.le_refl _) (.func (.func 240) #[] #[])).setCell (p:=⟨w.heap.size,1,none⟩) (Nat.le_refl _) (.int .i64 (loB 26))).setCell (p:=⟨w.heap.size,2,none⟩) (Nat.le_refl _) (.int .i64 (hiB 26))).setCell (p:=⟨w.heap.size,3,none⟩) (Nat.le_refl _) (.func (.func 266) #[] #[.pointer (some ⟨g,0,none⟩)])
  have hlo:loB 26=0:=by rfl
  have hhi:hiB 26=0:=by rfl
  rw[hlo,hhi]at hE hbE
  simp only[List.set_cons_zero,List.set_cons_succ]at hE
  have HH:=hid (And.intro hE hbE)
  have r0:=(hR.cell 0).trans rfl
  have fr0:=hR.frozen 0
  have r1:=(hR.cell 1).trans rfl
  have fr1:=hR.frozen 1
  have r2:=(hR.cell 2).trans rfl
  have fr2:=hR.frozen 2
  have r3:=(hR.cell 3).trans rfl
  have fr3:=hR.frozen 3
  clear hE hbE v0 v1 v2 u0 u1 u2 hR h4 h5 hbw hBg hgl h6 hP hb9 hpe hlo hhi
  go_wp2
  obtain⟨hE,hbE⟩:=HH.out
  have z0:=(hE.cell 0).trans rfl
  have z1:=(hE.cell 1).trans rfl
  have z2:=(hE.cell 2).trans rfl
  have z3:=(hE.cell 3).trans rfl
  have HRF:=HRF.out
  generalize (((V9.setCell ⟨w.heap.size,0,none⟩ (.func (.func 240) #[] #[])).setCell ⟨w.heap.size,1,none⟩ (.int .i64 0)).setCell ⟨w.heap.size,2,none⟩ (.int .i64 0)).setCell ⟨w.heap.size,3,none⟩ (.func (.func 266) #[] #[.pointer (some ⟨g,0,none⟩)])=WE at *
  exact bodyPost_ret (v :=.tuple #[.agg #[.func (.func 240) #[] #[],.int .i64 0,.int .i64 0,.func (.func 266) #[] #[.pointer (some ⟨g,0,none⟩)]],.bool true]) (by simp[results,Tryz.f203,go_sem,z0,z1,z2,z3]) rfl ⟨g,rfl,HRF,hbE⟩
 ·go_upto_region 48 with(fail)
  refine gen_world (HeadR w w3.heap.size (w3.heap.size+1)) HH.out λV0 hV0 =>?_
  clear HH x0 x1 x2 y0 y1 y2 fx0 fx1 fx2 fy0 fy1 fy2 hW5
  obtain⟨g4,hg4⟩:∃g4,g4=w3.heap.size:=⟨_,rfl⟩
  obtain⟨g5,hg5⟩:∃g5,g5=w3.heap.size+1:=⟨_,rfl⟩
  rw[<- hg5,<- hg4]at hV0
  rw[<- hg5,<- hg4]
  clear hg4 hg5 h45
  obtain⟨g6,hR,h4,h5,h6,hbw⟩:=hV0
  have v0:=(h4.cell 0).trans rfl
  have v1:=(h4.cell 1).trans rfl
  have v2:=(h4.cell 2).trans rfl
  have u0:=(h5.cell 0).trans rfl
  have u1:=(h5.cell 1).trans rfl
  have u2:=(h5.cell 2).trans rfl
  have hP:=Bx.new V0 226 [.func (.func 232) #[] #[],.int .i64 1,.int .i64 1,.func (.func 232) #[] #[],.int .i64 1,.int .i64 1]
  have hbP:=heap1 V0 (.cells #[.func (.func 232) #[] #[],.int .i64 1,.int .i64 1,.func (.func 232) #[] #[],.int .i64 1,.int .i64 1] 226)
  have hR:=hR.below hbP hR.lt
  have h4:=h4.below hbP h4.lt
  have h5:=h5.below hbP h5.lt
  have h6:=h6.below hbP h6.lt
  have hbw:=bt hbw hbP
  clear hbP
  go_wp2_with (go_at_call 235;refine(row_any _ _ _ _).mono ?_)
  rintro e V9 ⟨g,rfl,hBg,hgl,hb9⟩
  have hR:=hR.below hb9 hR.lt
  have h4:=h4.below hb9 h4.lt
  have h5:=h5.below hb9 h5.lt
  have h6:=h6.below hb9 h6.lt
  have hP:=hP.below hb9 hP.lt
  have hbw:=bt hbw hb9
  have hpe:partsOf 27=[pOne (expB),pOne (expB)]:=by rfl
  have HRF:=hid (show RowAt _ g (partsOf 27)from by
   rw[hpe]
   have hBg:=far4 hR hBg (by decide) (.func (.func 241) #[] #[]) (.int .i64 0) (.int .i64 0) (.func (.func 266) #[] #[.pointer (some ⟨g,0,none⟩)])
   have hP:=far4 hR hP (by decide) (.func (.func 241) #[] #[]) (.int .i64 0) (.int .i64 0) (.func (.func 266) #[] #[.pointer (some ⟨g,0,none⟩)])
   have h6:=far4 hR h6 (by decide) (.func (.func 241) #[] #[]) (.int .i64 0) (.int .i64 0) (.func (.func 266) #[] #[.pointer (some ⟨g,0,none⟩)])
   refine⟨_,_,_,(hBg.cell 0).trans rfl,parts_of hP.lt (λj hj =>?_),rfl,hBg.lt⟩
   match j,hj with
   |0,_=>exact⟨_,_,(hP.cell 0).trans rfl,(hP.cell 1).trans rfl,(hP.cell 2).trans rfl,(.inr (.inl ⟨rfl,rfl,rfl⟩)),show(1:Nat)<=9223372036854775807 by omega⟩
   |1,_=>exact⟨_,_,(hP.cell 3).trans rfl,(hP.cell 4).trans rfl,(hP.cell 5).trans rfl,(.inr (.inl ⟨rfl,rfl,rfl⟩)),show(1:Nat)<=9223372036854775807 by omega⟩
   |k+2,h=>exact absurd h (by simp only[List.length_cons,List.length_nil];omega))
  have hE:=(((hR.set_ 0 (.func (.func 241) #[] #[])).set_ 1 (.int .i64 (loB 27))).set_ 2 (.int .i64 (hiB 27))).set_ 3 (.func (.func 266) #[] #[.pointer (some ⟨g,0,none⟩)])
  have hbE:=(((hbw.setCell (p:=⟨w.heap.size,0,none⟩) (Nat.le_refl _) (.func (.func 241) #[] #[])).setCell (p:=⟨w.heap.size,1,none⟩) (Nat.le_refl _) (.int .i64 (loB 27))).setCell (p:=⟨w.heap.size,2,none⟩) (Nat.le_refl _) (.int .i64 (hiB 27))).setCell (p:=⟨w.heap.size,3,none⟩) (Nat.le_refl _) (.func (.func 266) #[] #[.pointer (some ⟨g,0,none⟩)])
  have hlo:loB 27=0:=by rfl
  have hhi:hiB 27=0:=by rfl
  rw[hlo,hhi]at hE hbE
  simp only[List.set_cons_zero,List.set_cons_succ]at hE
  have HH:=hid (And.intro hE hbE)
  have r0:=(hR.cell 0).trans rfl
  have fr0:=hR.frozen 0
  have r1:=(hR.cell 1).trans rfl
  have fr1:=hR.frozen 1
  have r2:=(hR.cell 2).trans rfl
  have fr2:=hR.frozen 2
  have r3:=(hR.cell 3).trans rfl
  have fr3:=hR.frozen 3
  clear hE hbE v0 v1 v2 u0 u1 u2 hR h4 h5 hbw hBg hgl h6 hP hb9 hpe hlo hhi
  go_wp2
  obtain⟨hE,hbE⟩:=HH.out
  have z0:=(hE.cell 0).trans rfl
  have z1:=(hE.cell 1).trans rfl
  have z2:=(hE.cell 2).trans rfl
  have z3:=(hE.cell 3).trans rfl
  have HRF:=HRF.out
  generalize (((V9.setCell ⟨w.heap.size,0,none⟩ (.func (.func 241) #[] #[])).setCell ⟨w.heap.size,1,none⟩ (.int .i64 0)).setCell ⟨w.heap.size,2,none⟩ (.int .i64 0)).setCell ⟨w.heap.size,3,none⟩ (.func (.func 266) #[] #[.pointer (some ⟨g,0,none⟩)])=WE at *
  exact bodyPost_ret (v :=.tuple #[.agg #[.func (.func 241) #[] #[],.int .i64 0,.int .i64 0,.func (.func 266) #[] #[.pointer (some ⟨g,0,none⟩)]],.bool true]) (by simp[results,Tryz.f203,go_sem,z0,z1,z2,z3]) rfl ⟨g,rfl,HRF,hbE⟩
theorem shape_22 (w:World):Calls Tryz.prog 203 #[.int .i64 22] w (ShPost 22 w):=shapes_22_24_25_26_27 w 22 (by simp)
theorem shape_24 (w:World):Calls Tryz.prog 203 #[.int .i64 24] w (ShPost 24 w):=shapes_22_24_25_26_27 w 24 (by simp)
theorem shape_25 (w:World):Calls Tryz.prog 203 #[.int .i64 25] w (ShPost 25 w):=shapes_22_24_25_26_27 w 25 (by simp)
theorem shape_26 (w:World):Calls Tryz.prog 203 #[.int .i64 26] w (ShPost 26 w):=shapes_22_24_25_26_27 w 26 (by simp)
theorem shape_27 (w:World):Calls Tryz.prog 203 #[.int .i64 27] w (ShPost 27 w):=shapes_22_24_25_26_27 w 27 (by simp)
end
end Go.Proofs.YtedkgofehbecmaaGreatDoor.Tr
