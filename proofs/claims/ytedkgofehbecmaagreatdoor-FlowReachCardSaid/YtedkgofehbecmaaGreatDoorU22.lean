/- PROVED here: parts N22 of the claim. No condition but those in each theorem's own head. -/
import Derived.Test.YtedkgofehbecmaaGreatDoorU19
import Derived.Test.YtedkgofehbecmaaGreatDoorU20
import Derived.Test.YtedkgofehbecmaaGreatDoorU21
namespace Go.Proofs.YtedkgofehbecmaaGreatDoor.Tr
open Go.Lib (hid)
section
open Go Go.RowKit
theorem own39:Own 233:=⟨_,Tryz.func233,by kernel_rfl,by kernel_rfl⟩
theorem own42:Own 236:=⟨_,Tryz.func236,by kernel_rfl,by kernel_rfl⟩
theorem own37:Own 231:=⟨_,Tryz.func231,by kernel_rfl,by kernel_rfl⟩
theorem own41:Own 235:=⟨_,Tryz.func235,by kernel_rfl,by kernel_rfl⟩
theorem run_load58 {w:World}{b:Nat}{F:Fn}{xs ys:Array Value}{p q:Int}(h:Bx w b 226 [.func F xs ys,.int .i64 p,.int .i64 q]):(Instr.loadAt 226 (.pointer (some ⟨b,0,none⟩))).run Tryz.prog w = .ok (.agg #[.func F xs ys,.int .i64 p,.int .i64 q]) w:=by
 have h0:=h.cell 0
 have h1:=h.cell 1
 have h2:=h.cell 2
 simp only[List.getElem?_cons_zero,List.getElem?_cons_succ]at h0 h1 h2
 simp[go_sem,h0,h1,h2]
section
variable {Q:Exit->Act->World->Prop} {a:Act} {w:World} {o:Oper}
theorem build63_3 {K:Act->World->Prop}{x y z:Operand}{a0 a1 a2 b0 b1 b2 c0 c1 c2:Value}(ho:o.op = .buildSlice 237 3 #[(0,x),(1,y),(2,z)])(hx:a.eval x = .agg #[a0,a1,a2])(hy:a.eval y = .agg #[b0,b1,b2])(hz:a.eval z = .agg #[c0,c1,c2])
  (h:K (a.put o.dst (.slice (some ⟨w.heap.size,0,none⟩) 3 3)) (w.alloc (.cells #[a0,a1,a2,b0,b1,b2,c0,c1,c2] 226))):o.wp Tryz.prog a w K Q:=by
 unfold Oper.wp execOp
 simp only[ho,List.map_toArray,List.map_cons,List.map_nil,hx,hy,hz]
 simp[go_sem]
 exact h
theorem build63_2 {K:Act->World->Prop}{x y:Operand}{a0 a1 a2 b0 b1 b2:Value}(ho:o.op = .buildSlice 237 2 #[(0,x),(1,y)])(hx:a.eval x = .agg #[a0,a1,a2])(hy:a.eval y = .agg #[b0,b1,b2])
  (h:K (a.put o.dst (.slice (some ⟨w.heap.size,0,none⟩) 2 2)) (w.alloc (.cells #[a0,a1,a2,b0,b1,b2] 226))):o.wp Tryz.prog a w K Q:=by
 unfold Oper.wp execOp
 simp only[ho,List.map_toArray,List.map_cons,List.map_nil,hx,hy]
 simp[go_sem]
 exact h
theorem y_b50_3 {S:World->Prop}{x:Operand}{ys:Array Value}(ho:o.op = .build 209 #[(0,Operand.func 208),(2,Operand.const (.int .i64 4)),(3,x)])(hx:a.eval x = .func (.func 266) #[] ys):∀w,S w->(execOp a.eval o).run Tryz.prog w = .ok (.value (.agg #[.func (.func 208) #[] #[],.int .i64 0,.int .i64 4,.func (.func 266) #[] ys])) w:=λw _=>by
 have e:a.eval (.func 208) = .func (.func 208) #[] #[]:=rfl
 have e2:a.eval (.const (.int .i64 4)) = .int .i64 4:=rfl
 unfold execOp;simp only[ho,List.map_toArray,List.map_cons,List.map_nil,hx,e,e2];simp[go_sem]
theorem y_b50_2 {S:World->Prop}{x:Operand}{ys:Array Value}(ho:o.op = .build 209 #[(0,Operand.func 234),(3,x)])(hx:a.eval x = .func (.func 266) #[] ys):∀w,S w->(execOp a.eval o).run Tryz.prog w = .ok (.value (.agg #[.func (.func 234) #[] #[],.int .i64 0,.int .i64 0,.func (.func 266) #[] ys])) w:=λw _=>by
 have e:a.eval (.func 234) = .func (.func 234) #[] #[]:=rfl
 unfold execOp;simp only[ho,List.map_toArray,List.map_cons,List.map_nil,hx,e];simp[go_sem]
theorem store50_wp {K:Act->World->Prop}{x y:Operand}{g:Nat}{F F2:Fn}{xs ys xs2 ys2:Array Value}{p q:Int}{u0 u1 u2 u3:Value}(ho:o.op = .store 209 x y)(hx:a.eval x = .pointer (some ⟨g,0,none⟩))(hy:a.eval y = .agg #[.func F xs ys,.int .i64 p,.int .i64 q,.func F2 xs2 ys2])(hB:Bx w g 209 [u0,u1,u2,u3])
  (h:K (a.put o.dst undef) ((((w.setCell ⟨g,0,none⟩ (.func F xs ys)).setCell ⟨g,1,none⟩ (.int .i64 p)).setCell ⟨g,2,none⟩ (.int .i64 q)).setCell ⟨g,3,none⟩ (.func F2 xs2 ys2))):o.wp Tryz.prog a w K Q:=by
 have c0:=hB.cell 0
 have c1:=hB.cell 1
 have c2:=hB.cell 2
 have c3:=hB.cell 3
 have f0:=hB.frozen 0
 have f1:=hB.frozen 1
 have f2:=hB.frozen 2
 have f3:=hB.frozen 3
 simp only[List.getElem?_cons_zero,List.getElem?_cons_succ]at c0 c1 c2 c3
 have hst:=st_func
 unfold Oper.wp execOp
 simp only[ho,hx,hy]
 simp[go_sem,c0,c1,c2,c3,f0,f1,f2,f3,hst]
 exact h
end
set_option maxRecDepth 100000 in
set_option maxHeartbeats 20000000 in
theorem shapes_3_10 (w:World)(kd:Int)(hkd:kd=3\/kd=10):Calls Tryz.prog 203 #[.int .i64 kd] w (ShPost kd w):=by
 have hst:=st_func
 have hb0:Below w.heap.size w (w.alloc (.cells #[.nilFunc,.int .i64 0,.int .i64 0,.nilFunc] 209)):=heap1 _ _
 have hB0:=Bx.new w 209 [.nilFunc,.int .i64 0,.int .i64 0,.nilFunc]
 go_enter Tryz.func203,Tryz.ntmps203
 go_wp2_with (go_at_call 231;refine(one_any _ _ _ _).mono ?_)
 rintro e w1 ⟨rfl,hb1⟩
 go_wp2_with (go_at_call 233;refine(is_any _ _).mono ?_)
 rintro e w2 ⟨gb,rfl,hBb,hgb,hb2⟩
 go_wp2_with (go_at_call 231;refine(one_any _ _ _ _).mono ?_)
 rintro e w3 ⟨rfl,hb3⟩
 have hB3:=((hB0.below hb1 hB0.lt).below hb2 (hB0.below hb1 hB0.lt).lt).below hb3 ((hB0.below hb1 hB0.lt).below hb2 (hB0.below hb1 hB0.lt).lt).lt
 have hBb3:=hBb.below hb3 hBb.lt
 have hbw3:=bt (bt (bt hb0 hb1) hb2) hb3
 clear hb0 hb1 hb2 hb3 hB0 hBb hgb
 obtain⟨W5,hW5⟩:∃W5,(w3.alloc (.cells #[.nilFunc,.int .i64 0,.int .i64 0] 226)).alloc (.cells #[.nilFunc,.int .i64 0,.int .i64 0] 226)=W5:=⟨_,rfl⟩
 have h45:w3.heap.size≠w3.heap.size+1:=by omega
 have hb5:Below w3.heap.size w3 W5:=by rw[<- hW5];exact(heap1 _ _).alloc (by simp) _
 have hB4:Bx W5 w3.heap.size 226 [.nilFunc,.int .i64 0,.int .i64 0]:=by rw[<- hW5];exact(Bx.new w3 226 _).alloc _
 have hB5:Bx W5 (w3.heap.size+1) 226 [.nilFunc,.int .i64 0,.int .i64 0]:=by
  rw[<- hW5];have:=Bx.new (w3.alloc (.cells #[.nilFunc,.int .i64 0,.int .i64 0] 226)) 226 [.nilFunc,.int .i64 0,.int .i64 0]
  rw[World.size_alloc]at this;exact this
 have hne1:w.heap.size≠w3.heap.size:=λh=>by have:=hB3.lt;omega
 have hne2:w.heap.size≠w3.heap.size+1:=λh=>by have:=hB3.lt;omega
 have HH:=hid (show HeadR w w3.heap.size (w3.heap.size+1) ((((((W5.setCell ⟨w3.heap.size,0,none⟩ (.func (.func 232) #[] #[])).setCell ⟨w3.heap.size,1,none⟩ (.int .i64 1)).setCell ⟨w3.heap.size,2,none⟩ (.int .i64 1)).setCell ⟨w3.heap.size+1,0,none⟩ (.func (.func 265) #[] #[.pointer (some ⟨gb,0,none⟩)])).setCell ⟨w3.heap.size+1,1,none⟩ (.int .i64 1)).setCell ⟨w3.heap.size+1,2,none⟩ (.int .i64 1))from by
  have hq:=hB3.below hb5 hB3.lt
  have hb:=hBb3.below hb5 hBb3.lt
  have n1:gb≠w3.heap.size:=λh=>by have:=hBb3.lt;omega
  have n2:gb≠w3.heap.size+1:=λh=>by have:=hBb3.lt;omega
  have k1:w.heap.size<=w3.heap.size:=hbw3.size
  refine⟨gb,?_,?_,?_,?_,?_⟩
  ·exact(((((hq.far (p:=⟨w3.heap.size,0,none⟩) hne1 _).far (p:=⟨w3.heap.size,1,none⟩) hne1 _).far (p:=⟨w3.heap.size,2,none⟩) hne1 _).far (p:=⟨w3.heap.size+1,0,none⟩) hne2 _).far (p:=⟨w3.heap.size+1,1,none⟩) hne2 _).far (p:=⟨w3.heap.size+1,2,none⟩) hne2 _
  ·exact(((((hB4.set_ 0 _).set_ 1 _).set_ 2 _).far (p:=⟨w3.heap.size+1,0,none⟩) h45 _).far (p:=⟨w3.heap.size+1,1,none⟩) h45 _).far (p:=⟨w3.heap.size+1,2,none⟩) h45 _
  ·exact(((((hB5.far (p:=⟨w3.heap.size,0,none⟩) h45.symm _).far (p:=⟨w3.heap.size,1,none⟩) h45.symm _).far (p:=⟨w3.heap.size,2,none⟩) h45.symm _).set_ 0 _).set_ 1 _).set_ 2 _
  ·exact((((((hb.far (p:=⟨w3.heap.size,0,none⟩) n1 _).far (p:=⟨w3.heap.size,1,none⟩) n1 _).far (p:=⟨w3.heap.size,2,none⟩) n1 _).far (p:=⟨w3.heap.size+1,0,none⟩) n2 _).far (p:=⟨w3.heap.size+1,1,none⟩) n2 _).far (p:=⟨w3.heap.size+1,2,none⟩) n2 _)
  ·exact((((((bt hbw3 hb5).setCell (p:=⟨w3.heap.size,0,none⟩) k1 _).setCell (p:=⟨w3.heap.size,1,none⟩) k1 _).setCell (p:=⟨w3.heap.size,2,none⟩) k1 _).setCell (p:=⟨w3.heap.size+1,0,none⟩) (Nat.le_succ_of_le k1) _).setCell (p:=⟨w3.heap.size+1,1,none⟩) (Nat.le_succ_of_le k1) _).setCell (p:=⟨w3.heap.size+1,2,none⟩) (Nat.le_succ_of_le k1) _)
 have x0:=hB4.cell 0
 have x1:=hB4.cell 1
 have x2:=hB4.cell 2
 have y0:=hB5.cell 0
 have y1:=hB5.cell 1
 have y2:=hB5.cell 2
 have fx0:=hB4.frozen 0
 have fx1:=hB4.frozen 1
 have fx2:=hB4.frozen 2
 have fy0:=hB5.frozen 0
 have fy1:=hB5.frozen 1
 have fy2:=hB5.frozen 2
 simp only[List.getElem?_cons_zero,List.getElem?_cons_succ]at x0 x1 x2 y0 y1 y2
 clear hB3 hBb3 hbw3 hb5 hB4 hB5 hne1 hne2
 rcases hkd with rfl |rfl
 ·go_upto_region 10 with(fail)
  refine gen_world (HeadR w w3.heap.size (w3.heap.size+1)) HH.out λV0 hV0 =>?_
  clear HH x0 x1 x2 y0 y1 y2 fx0 fx1 fx2 fy0 fy1 fy2 hW5
  obtain⟨g4,hg4⟩:∃g4,g4=w3.heap.size:=⟨_,rfl⟩
  obtain⟨g5,hg5⟩:∃g5,g5=w3.heap.size+1:=⟨_,rfl⟩
  rw[<- hg5,<- hg4]at hV0
  rw[<- hg5,<- hg4]
  clear hg4 hg5 h45
  obtain⟨g6,hR,h4,h5,h6,hbw⟩:=hV0
  refine wp_region_held (S:=λw'=>Bx w' g5 226 [.func (.func 265) #[] #[.pointer (some ⟨g6,0,none⟩)],.int .i64 1,.int .i64 1]) (by kernel_rfl) ?_
  have hR:Bx { V0 with drawn:=V0.drawn+1 } w.heap.size 209 [.nilFunc,.int .i64 0,.int .i64 0,.nilFunc]:=hR
  have h4:Bx { V0 with drawn:=V0.drawn+1 } g4 226 [.func (.func 232) #[] #[],.int .i64 1,.int .i64 1]:=h4
  have h5:Bx { V0 with drawn:=V0.drawn+1 } g5 226 [.func (.func 265) #[] #[.pointer (some ⟨g6,0,none⟩)],.int .i64 1,.int .i64 1]:=h5
  have h6:Bx { V0 with drawn:=V0.drawn+1 } g6 3 [.int .i64 6]:=h6
  have hbw:Below w.heap.size w { V0 with drawn:=V0.drawn+1 }:=bdrew hbw
  generalize ({ V0 with drawn:=V0.drawn+1 }:World)=V1 at *
  refine hpu 4 (.agg #[.func (.func 265) #[] #[.pointer (some ⟨g6,0,none⟩)],.int .i64 1,.int .i64 1]) (by kernel_rfl) rfl rfl (λ_ _ _ h=>h) rfl (y_load rfl rfl (λw' h=>run_load58 h)) h5 ?_
  simp only[ap]
  refine h_call 0 ({ dst:=some 27,op:=Op.call { callee:=Callee.value (Operand.func 233),args := #[Operand.const (Value.int IntKind.i64 4)],argTypes := #[3] },type:=78,pos := "shape.go:40",after := #[],guard:=none }:Oper) (args := #[.int .i64 4]) (C:=λv w'=>∃g,v = .func (.func 265) #[] #[.pointer (some ⟨g,0,none⟩)]/\Bx w' g 3 [.int .i64 4]/\Below V1.heap.size V1 w') own39 rfl rfl (by kernel_rfl) rfl rfl ((is_any 4 V1).mono (λe w' ⟨g,he,hB,_,hb⟩=>⟨_,he,g,rfl,hB,hb⟩)) ?_
  rintro v Va1 ⟨ga1,rfl,hF11,hb1⟩
  have hR:=hR.below hb1 hR.lt
  have h4:=h4.below hb1 h4.lt
  have h5:=h5.below hb1 h5.lt
  have h6:=h6.below hb1 h6.lt
  have hbw:=bt hbw hb1
  clear hb1
  refine⟨h5,?_⟩
  simp only[ap]
  refine h_call 1 ({ dst:=some 28,op:=Op.call { callee:=Callee.value (Operand.func 236),args := #[Operand.tmp 27],argTypes := #[78] },type:=226,pos := "shape.go:40",after := #[{ on:=0,ground:=Ground.data },{ on:=0,ground:=Ground.chain }],guard:=none }:Oper) (args := #[.func (.func 265) #[] #[.pointer (some ⟨ga1,0,none⟩)]]) (C:=λv w'=>v = .agg #[.func (.func 265) #[] #[.pointer (some ⟨ga1,0,none⟩)],.int .i64 0,.int .i64 9223372036854775807]/\Below Va1.heap.size Va1 w') own42 rfl rfl (by kernel_rfl) rfl rfl ((many_any _ _ _ Va1).mono (λe w' ⟨he,hb⟩=>⟨_,he,rfl,hb⟩)) ?_
  rintro v Vb1 ⟨rfl,hb1⟩
  have hR:=hR.below hb1 hR.lt
  have h4:=h4.below hb1 h4.lt
  have h5:=h5.below hb1 h5.lt
  have h6:=h6.below hb1 h6.lt
  have hF11:=hF11.below hb1 hF11.lt
  have hbw:=bt hbw hb1
  clear hb1
  refine⟨h5,?_⟩
  simp only[ap]
  refine h_call 2 ({ dst:=some 29,op:=Op.call { callee:=Callee.value (Operand.func 233),args := #[Operand.const (Value.int IntKind.i64 5)],argTypes := #[3] },type:=78,pos := "shape.go:40",after := #[{ on:=1,ground:=Ground.chain }],guard:=none }:Oper) (args := #[.int .i64 5]) (C:=λv w'=>∃g,v = .func (.func 265) #[] #[.pointer (some ⟨g,0,none⟩)]/\Bx w' g 3 [.int .i64 5]/\Below Vb1.heap.size Vb1 w') own39 rfl rfl (by kernel_rfl) rfl rfl ((is_any 5 Vb1).mono (λe w' ⟨g,he,hB,_,hb⟩=>⟨_,he,g,rfl,hB,hb⟩)) ?_
  rintro v Va2 ⟨ga2,rfl,hF12,hb1⟩
  have hR:=hR.below hb1 hR.lt
  have h4:=h4.below hb1 h4.lt
  have h5:=h5.below hb1 h5.lt
  have h6:=h6.below hb1 h6.lt
  have hF11:=hF11.below hb1 hF11.lt
  have hbw:=bt hbw hb1
  clear hb1
  refine⟨h5,?_⟩
  simp only[ap]
  refine h_call 3 ({ dst:=some 30,op:=Op.call { callee:=Callee.value (Operand.func 236),args := #[Operand.tmp 29],argTypes := #[78] },type:=226,pos := "shape.go:40",after := #[{ on:=2,ground:=Ground.data },{ on:=2,ground:=Ground.chain }],guard:=none }:Oper) (args := #[.func (.func 265) #[] #[.pointer (some ⟨ga2,0,none⟩)]]) (C:=λv w'=>v = .agg #[.func (.func 265) #[] #[.pointer (some ⟨ga2,0,none⟩)],.int .i64 0,.int .i64 9223372036854775807]/\Below Va2.heap.size Va2 w') own42 rfl rfl (by kernel_rfl) rfl rfl ((many_any _ _ _ Va2).mono (λe w' ⟨he,hb⟩=>⟨_,he,rfl,hb⟩)) ?_
  rintro v Vb2 ⟨rfl,hb1⟩
  have hR:=hR.below hb1 hR.lt
  have h4:=h4.below hb1 h4.lt
  have h5:=h5.below hb1 h5.lt
  have h6:=h6.below hb1 h6.lt
  have hF11:=hF11.below hb1 hF11.lt
  have hF12:=hF12.below hb1 hF12.lt
  have hbw:=bt hbw hb1
  clear hb1
  refine⟨h5,?_⟩
  simp only[ap]
  have hP:=Bx.new Vb2 226 [.func (.func 265) #[] #[.pointer (some ⟨ga1,0,none⟩)],.int .i64 0,.int .i64 9223372036854775807,.func (.func 265) #[] #[.pointer (some ⟨ga2,0,none⟩)],.int .i64 0,.int .i64 9223372036854775807,.func (.func 265) #[] #[.pointer (some ⟨g6,0,none⟩)],.int .i64 1,.int .i64 1]
  have hbP:=heap1 Vb2 (.cells #[.func (.func 265) #[] #[.pointer (some ⟨ga1,0,none⟩)],.int .i64 0,.int .i64 9223372036854775807,.func (.func 265) #[] #[.pointer (some ⟨ga2,0,none⟩)],.int .i64 0,.int .i64 9223372036854775807,.func (.func 265) #[] #[.pointer (some ⟨g6,0,none⟩)],.int .i64 1,.int .i64 1] 226)
  refine h_one 5 ({ dst:=some 32,op:=Op.buildSlice 237 3 #[(0,Operand.tmp 28),(1,Operand.tmp 30),(2,Operand.tmp 31)],type:=237,pos := "shape.go:40",after := #[{ on:=1,ground:=Ground.data },{ on:=3,ground:=Ground.data },{ on:=4,ground:=Ground.data }],guard:=none }:Oper) rfl (by kernel_rfl) rfl ?_
  refine build63_3 (o:=({ dst:=some 32,op:=Op.buildSlice 237 3 #[(0,Operand.tmp 28),(1,Operand.tmp 30),(2,Operand.tmp 31)],type:=237,pos := "shape.go:40",after := #[{ on:=1,ground:=Ground.data },{ on:=3,ground:=Ground.data },{ on:=4,ground:=Ground.data }],guard:=none }:Oper)) rfl rfl rfl rfl ?_
  have hR:=hR.below hbP hR.lt
  have h4:=h4.below hbP h4.lt
  have h5:=h5.below hbP h5.lt
  have h6:=h6.below hbP h6.lt
  have hF11:=hF11.below hbP hF11.lt
  have hF12:=hF12.below hbP hF12.lt
  have hbw:=bt hbw hbP
  clear hbP
  refine⟨h5,?_⟩
  simp only[ap]
  refine h_call 6 ({ dst:=some 33,op:=Op.call { callee:=Callee.value (Operand.func 235),args := #[Operand.tmp 32],argTypes := #[237] },type:=207,pos := "shape.go:40",after := #[{ on:=5,ground:=Ground.data },{ on:=3,ground:=Ground.chain }],guard:=none }:Oper) (args := #[.slice (some ⟨Vb2.heap.size,0,none⟩) 3 3]) (C:=λv w'=>∃g,v = .func (.func 266) #[] #[.pointer (some ⟨g,0,none⟩)]/\Bx w' g 237 [.slice (some ⟨Vb2.heap.size,0,none⟩) 3 3]/\Below (Vb2.alloc (.cells #[.func (.func 265) #[] #[.pointer (some ⟨ga1,0,none⟩)],.int .i64 0,.int .i64 9223372036854775807,.func (.func 265) #[] #[.pointer (some ⟨ga2,0,none⟩)],.int .i64 0,.int .i64 9223372036854775807,.func (.func 265) #[] #[.pointer (some ⟨g6,0,none⟩)],.int .i64 1,.int .i64 1] 226)).heap.size (Vb2.alloc (.cells #[.func (.func 265) #[] #[.pointer (some ⟨ga1,0,none⟩)],.int .i64 0,.int .i64 9223372036854775807,.func (.func 265) #[] #[.pointer (some ⟨ga2,0,none⟩)],.int .i64 0,.int .i64 9223372036854775807,.func (.func 265) #[] #[.pointer (some ⟨g6,0,none⟩)],.int .i64 1,.int .i64 1] 226)) w') own41 rfl rfl (by kernel_rfl) rfl rfl ((row_any _ _ _ (Vb2.alloc (.cells #[.func (.func 265) #[] #[.pointer (some ⟨ga1,0,none⟩)],.int .i64 0,.int .i64 9223372036854775807,.func (.func 265) #[] #[.pointer (some ⟨ga2,0,none⟩)],.int .i64 0,.int .i64 9223372036854775807,.func (.func 265) #[] #[.pointer (some ⟨g6,0,none⟩)],.int .i64 1,.int .i64 1] 226))).mono (λe w' ⟨g,he,hB,_,hb⟩=>⟨_,he,g,rfl,hB,hb⟩)) ?_
  rintro v V9 ⟨g,rfl,hBg,hb9⟩
  have hR:=hR.below hb9 hR.lt
  have h4:=h4.below hb9 h4.lt
  have h5:=h5.below hb9 h5.lt
  have h6:=h6.below hb9 h6.lt
  have hF11:=hF11.below hb9 hF11.lt
  have hF12:=hF12.below hb9 hF12.lt
  have hP:=hP.below hb9 hP.lt
  have hbw:=bt hbw hb9
  clear hb9
  refine⟨h5,?_⟩
  simp only[ap]
  refine hpu 7 (.agg #[.func (.func 208) #[] #[],.int .i64 0,.int .i64 4,.func (.func 266) #[] #[.pointer (some ⟨g,0,none⟩)]]) (by kernel_rfl) rfl rfl (λ_ _ _ h=>h) rfl (y_b50_3 rfl rfl) h5 ?_
  simp only[ap]
  refine h_one 8 ({ dst:=none,op:=Op.store 209 (Operand.tmp 2) (Operand.tmp 34),type:=0,pos := "shape.go:40",after := #[{ on:=7,ground:=Ground.data },{ on:=6,ground:=Ground.chain },{ on:=0,ground:=Ground.phase },{ on:=1,ground:=Ground.phase },{ on:=2,ground:=Ground.phase },{ on:=3,ground:=Ground.phase },{ on:=4,ground:=Ground.phase },{ on:=5,ground:=Ground.phase },{ on:=6,ground:=Ground.phase },{ on:=7,ground:=Ground.phase }],guard:=none }:Oper) rfl (by kernel_rfl) rfl ?_
  have hpe:partsOf 3=[pMany (isB 4),pMany (isB 5),pOne (isB 6)]:=by rfl
  have HRF:=hid (show RowAt _ g (partsOf 3)from by
   rw[hpe]
   have hBg:=far4 hR hBg (by decide) (.func (.func 208) #[] #[]) (.int .i64 0) (.int .i64 4) (.func (.func 266) #[] #[.pointer (some ⟨g,0,none⟩)])
   have hP:=far4 hR hP (by decide) (.func (.func 208) #[] #[]) (.int .i64 0) (.int .i64 4) (.func (.func 266) #[] #[.pointer (some ⟨g,0,none⟩)])
   have h6:=far4 hR h6 (by decide) (.func (.func 208) #[] #[]) (.int .i64 0) (.int .i64 4) (.func (.func 266) #[] #[.pointer (some ⟨g,0,none⟩)])
   have hF11:=far4 hR hF11 (by decide) (.func (.func 208) #[] #[]) (.int .i64 0) (.int .i64 4) (.func (.func 266) #[] #[.pointer (some ⟨g,0,none⟩)])
   have hF12:=far4 hR hF12 (by decide) (.func (.func 208) #[] #[]) (.int .i64 0) (.int .i64 4) (.func (.func 266) #[] #[.pointer (some ⟨g,0,none⟩)])
   refine⟨_,_,_,(hBg.cell 0).trans rfl,parts_of hP.lt (λj hj =>?_),rfl,hBg.lt⟩
   match j,hj with
   |0,_=>exact⟨_,_,(hP.cell 0).trans rfl,(hP.cell 1).trans rfl,(hP.cell 2).trans rfl,.inl ⟨ga1,4,rfl,rfl,(hF11.cell 0).trans rfl,hF11.lt,rfl⟩,show(9223372036854775807:Nat)<=9223372036854775807 by omega⟩
   |1,_=>exact⟨_,_,(hP.cell 3).trans rfl,(hP.cell 4).trans rfl,(hP.cell 5).trans rfl,.inl ⟨ga2,5,rfl,rfl,(hF12.cell 0).trans rfl,hF12.lt,rfl⟩,show(9223372036854775807:Nat)<=9223372036854775807 by omega⟩
   |2,_=>exact⟨_,_,(hP.cell 6).trans rfl,(hP.cell 7).trans rfl,(hP.cell 8).trans rfl,.inl ⟨g6,6,rfl,rfl,(h6.cell 0).trans rfl,h6.lt,rfl⟩,show(1:Nat)<=9223372036854775807 by omega⟩
   |k+3,h=>exact absurd h (by simp only[List.length_cons,List.length_nil];omega))
  have hE:=(((hR.set_ 0 (.func (.func 208) #[] #[])).set_ 1 (.int .i64 0)).set_ 2 (.int .i64 4)).set_ 3 (.func (.func 266) #[] #[.pointer (some ⟨g,0,none⟩)])
  have hbE:=(((hbw.setCell (p:=⟨w.heap.size,0,none⟩) (Nat.le_refl _) (.func (.func 208) #[] #[])).setCell (p:=⟨w.heap.size,1,none⟩) (Nat.le_refl _) (.int .i64 0)).setCell (p:=⟨w.heap.size,2,none⟩) (Nat.le_refl _) (.int .i64 4)).setCell (p:=⟨w.heap.size,3,none⟩) (Nat.le_refl _) (.func (.func 266) #[] #[.pointer (some ⟨g,0,none⟩)])
  have hSE:=far4 hR h5 (by decide) (.func (.func 208) #[] #[]) (.int .i64 0) (.int .i64 4) (.func (.func 266) #[] #[.pointer (some ⟨g,0,none⟩)])
  refine store50_wp (o:=({ dst:=none,op:=Op.store 209 (Operand.tmp 2) (Operand.tmp 34),type:=0,pos := "shape.go:40",after := #[{ on:=7,ground:=Ground.data },{ on:=6,ground:=Ground.chain },{ on:=0,ground:=Ground.phase },{ on:=1,ground:=Ground.phase },{ on:=2,ground:=Ground.phase },{ on:=3,ground:=Ground.phase },{ on:=4,ground:=Ground.phase },{ on:=5,ground:=Ground.phase },{ on:=6,ground:=Ground.phase },{ on:=7,ground:=Ground.phase }],guard:=none }:Oper)) (F :=.func 208) (F2 :=.func 266) (xs := #[]) (ys := #[]) (xs2 := #[]) (ys2 := #[.pointer (some ⟨g,0,none⟩)]) (p:=0) (q:=4) rfl rfl rfl hR ?_
  have HRF:=HRF.out
  simp only[List.set_cons_zero,List.set_cons_succ]at hE
  generalize (((V9.setCell ⟨w.heap.size,0,none⟩ (.func (.func 208) #[] #[])).setCell ⟨w.heap.size,1,none⟩ (.int .i64 0)).setCell ⟨w.heap.size,2,none⟩ (.int .i64 4)).setCell ⟨w.heap.size,3,none⟩ (.func (.func 266) #[] #[.pointer (some ⟨g,0,none⟩)])=WE at *
  refine⟨hSE,?_⟩
  simp only[Act.put]
  refine hpu 9 (.bool true) (by kernel_rfl) rfl rfl (λ_ _ _ h=>h) rfl (y_assign rfl rfl) hSE ?_
  simp only[ap]
  refine wpAnyH_done (by kernel_rfl) ?_ _
  have z0:=(hE.cell 0).trans rfl
  have z1:=(hE.cell 1).trans rfl
  have z2:=(hE.cell 2).trans rfl
  have z3:=(hE.cell 3).trans rfl
  clear hR h4 h5 h6 hbw hBg hSE hpe hP hst
  go_wp2
  exact bodyPost_ret (v :=.tuple #[.agg #[.func (.func 208) #[] #[],.int .i64 0,.int .i64 4,.func (.func 266) #[] #[.pointer (some ⟨g,0,none⟩)]],.bool true]) (by simp[results,Tryz.f203,go_sem,z0,z1,z2,z3]) rfl ⟨g,rfl,HRF,hbE⟩
 ·go_upto_region 22 with(fail)
  refine gen_world (HeadR w w3.heap.size (w3.heap.size+1)) HH.out λV0 hV0 =>?_
  clear HH x0 x1 x2 y0 y1 y2 fx0 fx1 fx2 fy0 fy1 fy2 hW5
  obtain⟨g4,hg4⟩:∃g4,g4=w3.heap.size:=⟨_,rfl⟩
  obtain⟨g5,hg5⟩:∃g5,g5=w3.heap.size+1:=⟨_,rfl⟩
  rw[<- hg5,<- hg4]at hV0
  rw[<- hg5,<- hg4]
  clear hg4 hg5 h45
  obtain⟨g6,hR,h4,h5,h6,hbw⟩:=hV0
  refine wp_region_held (S:=λw'=>Bx w' g4 226 [.func (.func 232) #[] #[],.int .i64 1,.int .i64 1]) (by kernel_rfl) ?_
  have hR:Bx { V0 with drawn:=V0.drawn+1 } w.heap.size 209 [.nilFunc,.int .i64 0,.int .i64 0,.nilFunc]:=hR
  have h4:Bx { V0 with drawn:=V0.drawn+1 } g4 226 [.func (.func 232) #[] #[],.int .i64 1,.int .i64 1]:=h4
  have h5:Bx { V0 with drawn:=V0.drawn+1 } g5 226 [.func (.func 265) #[] #[.pointer (some ⟨g6,0,none⟩)],.int .i64 1,.int .i64 1]:=h5
  have h6:Bx { V0 with drawn:=V0.drawn+1 } g6 3 [.int .i64 6]:=h6
  have hbw:Below w.heap.size w { V0 with drawn:=V0.drawn+1 }:=bdrew hbw
  generalize ({ V0 with drawn:=V0.drawn+1 }:World)=V1 at *
  refine hpu 2 (.agg #[.func (.func 232) #[] #[],.int .i64 1,.int .i64 1]) (by kernel_rfl) rfl rfl (λ_ _ _ h=>h) rfl (y_load rfl rfl (λw' h=>run_load58 h)) h4 ?_
  simp only[ap]
  refine h_call 0 ({ dst:=some 65,op:=Op.call { callee:=Callee.value (Operand.func 233),args := #[Operand.const (Value.int IntKind.i64 18)],argTypes := #[3] },type:=78,pos := "shape.go:50",after := #[],guard:=none }:Oper) (args := #[.int .i64 18]) (C:=λv w'=>∃g,v = .func (.func 265) #[] #[.pointer (some ⟨g,0,none⟩)]/\Bx w' g 3 [.int .i64 18]/\Below V1.heap.size V1 w') own39 rfl rfl (by kernel_rfl) rfl rfl ((is_any 18 V1).mono (λe w' ⟨g,he,hB,_,hb⟩=>⟨_,he,g,rfl,hB,hb⟩)) ?_
  rintro v Va1 ⟨ga1,rfl,hF11,hb1⟩
  have hR:=hR.below hb1 hR.lt
  have h4:=h4.below hb1 h4.lt
  have h5:=h5.below hb1 h5.lt
  have h6:=h6.below hb1 h6.lt
  have hbw:=bt hbw hb1
  clear hb1
  refine⟨h4,?_⟩
  simp only[ap]
  refine h_call 1 ({ dst:=some 66,op:=Op.call { callee:=Callee.value (Operand.func 231),args := #[Operand.tmp 65],argTypes := #[78] },type:=226,pos := "shape.go:50",after := #[{ on:=0,ground:=Ground.data },{ on:=0,ground:=Ground.chain }],guard:=none }:Oper) (args := #[.func (.func 265) #[] #[.pointer (some ⟨ga1,0,none⟩)]]) (C:=λv w'=>v = .agg #[.func (.func 265) #[] #[.pointer (some ⟨ga1,0,none⟩)],.int .i64 1,.int .i64 1]/\Below Va1.heap.size Va1 w') own37 rfl rfl (by kernel_rfl) rfl rfl ((one_any _ _ _ Va1).mono (λe w' ⟨he,hb⟩=>⟨_,he,rfl,hb⟩)) ?_
  rintro v Vb1 ⟨rfl,hb1⟩
  have hR:=hR.below hb1 hR.lt
  have h4:=h4.below hb1 h4.lt
  have h5:=h5.below hb1 h5.lt
  have h6:=h6.below hb1 h6.lt
  have hF11:=hF11.below hb1 hF11.lt
  have hbw:=bt hbw hb1
  clear hb1
  refine⟨h4,?_⟩
  simp only[ap]
  have hP:=Bx.new Vb1 226 [.func (.func 265) #[] #[.pointer (some ⟨ga1,0,none⟩)],.int .i64 1,.int .i64 1,.func (.func 232) #[] #[],.int .i64 1,.int .i64 1]
  have hbP:=heap1 Vb1 (.cells #[.func (.func 265) #[] #[.pointer (some ⟨ga1,0,none⟩)],.int .i64 1,.int .i64 1,.func (.func 232) #[] #[],.int .i64 1,.int .i64 1] 226)
  refine h_one 3 ({ dst:=some 68,op:=Op.buildSlice 237 2 #[(0,Operand.tmp 66),(1,Operand.tmp 67)],type:=237,pos := "shape.go:50",after := #[{ on:=1,ground:=Ground.data },{ on:=2,ground:=Ground.data }],guard:=none }:Oper) rfl (by kernel_rfl) rfl ?_
  refine build63_2 (o:=({ dst:=some 68,op:=Op.buildSlice 237 2 #[(0,Operand.tmp 66),(1,Operand.tmp 67)],type:=237,pos := "shape.go:50",after := #[{ on:=1,ground:=Ground.data },{ on:=2,ground:=Ground.data }],guard:=none }:Oper)) rfl rfl rfl ?_
  have hR:=hR.below hbP hR.lt
  have h4:=h4.below hbP h4.lt
  have h5:=h5.below hbP h5.lt
  have h6:=h6.below hbP h6.lt
  have hF11:=hF11.below hbP hF11.lt
  have hbw:=bt hbw hbP
  clear hbP
  refine⟨h4,?_⟩
  simp only[ap]
  refine h_call 4 ({ dst:=some 69,op:=Op.call { callee:=Callee.value (Operand.func 235),args := #[Operand.tmp 68],argTypes := #[237] },type:=207,pos := "shape.go:50",after := #[{ on:=3,ground:=Ground.data },{ on:=1,ground:=Ground.chain }],guard:=none }:Oper) (args := #[.slice (some ⟨Vb1.heap.size,0,none⟩) 2 2]) (C:=λv w'=>∃g,v = .func (.func 266) #[] #[.pointer (some ⟨g,0,none⟩)]/\Bx w' g 237 [.slice (some ⟨Vb1.heap.size,0,none⟩) 2 2]/\Below (Vb1.alloc (.cells #[.func (.func 265) #[] #[.pointer (some ⟨ga1,0,none⟩)],.int .i64 1,.int .i64 1,.func (.func 232) #[] #[],.int .i64 1,.int .i64 1] 226)).heap.size (Vb1.alloc (.cells #[.func (.func 265) #[] #[.pointer (some ⟨ga1,0,none⟩)],.int .i64 1,.int .i64 1,.func (.func 232) #[] #[],.int .i64 1,.int .i64 1] 226)) w') own41 rfl rfl (by kernel_rfl) rfl rfl ((row_any _ _ _ (Vb1.alloc (.cells #[.func (.func 265) #[] #[.pointer (some ⟨ga1,0,none⟩)],.int .i64 1,.int .i64 1,.func (.func 232) #[] #[],.int .i64 1,.int .i64 1] 226))).mono (λe w' ⟨g,he,hB,_,hb⟩=>⟨_,he,g,rfl,hB,hb⟩)) ?_
  rintro v V9 ⟨g,rfl,hBg,hb9⟩
  have hR:=hR.below hb9 hR.lt
  have h4:=h4.below hb9 h4.lt
  have h5:=h5.below hb9 h5.lt
  have h6:=h6.below hb9 h6.lt
  have hF11:=hF11.below hb9 hF11.lt
  have hP:=hP.below hb9 hP.lt
  have hbw:=bt hbw hb9
  clear hb9
  refine⟨h4,?_⟩
  simp only[ap]
  refine hpu 5 (.agg #[.func (.func 234) #[] #[],.int .i64 0,.int .i64 0,.func (.func 266) #[] #[.pointer (some ⟨g,0,none⟩)]]) (by kernel_rfl) rfl rfl (λ_ _ _ h=>h) rfl (y_b50_2 rfl rfl) h4 ?_
  simp only[ap]
  refine h_one 6 ({ dst:=none,op:=Op.store 209 (Operand.tmp 2) (Operand.tmp 70),type:=0,pos := "shape.go:50",after := #[{ on:=5,ground:=Ground.data },{ on:=4,ground:=Ground.chain },{ on:=0,ground:=Ground.phase },{ on:=1,ground:=Ground.phase },{ on:=2,ground:=Ground.phase },{ on:=3,ground:=Ground.phase },{ on:=4,ground:=Ground.phase },{ on:=5,ground:=Ground.phase }],guard:=none }:Oper) rfl (by kernel_rfl) rfl ?_
  have hpe:partsOf 10=[pOne (isB 18),pOne (expB)]:=by rfl
  have HRF:=hid (show RowAt _ g (partsOf 10)from by
   rw[hpe]
   have hBg:=far4 hR hBg (by decide) (.func (.func 234) #[] #[]) (.int .i64 0) (.int .i64 0) (.func (.func 266) #[] #[.pointer (some ⟨g,0,none⟩)])
   have hP:=far4 hR hP (by decide) (.func (.func 234) #[] #[]) (.int .i64 0) (.int .i64 0) (.func (.func 266) #[] #[.pointer (some ⟨g,0,none⟩)])
   have h6:=far4 hR h6 (by decide) (.func (.func 234) #[] #[]) (.int .i64 0) (.int .i64 0) (.func (.func 266) #[] #[.pointer (some ⟨g,0,none⟩)])
   have hF11:=far4 hR hF11 (by decide) (.func (.func 234) #[] #[]) (.int .i64 0) (.int .i64 0) (.func (.func 266) #[] #[.pointer (some ⟨g,0,none⟩)])
   refine⟨_,_,_,(hBg.cell 0).trans rfl,parts_of hP.lt (λj hj =>?_),rfl,hBg.lt⟩
   match j,hj with
   |0,_=>exact⟨_,_,(hP.cell 0).trans rfl,(hP.cell 1).trans rfl,(hP.cell 2).trans rfl,.inl ⟨ga1,18,rfl,rfl,(hF11.cell 0).trans rfl,hF11.lt,rfl⟩,show(1:Nat)<=9223372036854775807 by omega⟩
   |1,_=>exact⟨_,_,(hP.cell 3).trans rfl,(hP.cell 4).trans rfl,(hP.cell 5).trans rfl,(.inr (.inl ⟨rfl,rfl,rfl⟩)),show(1:Nat)<=9223372036854775807 by omega⟩
   |k+2,h=>exact absurd h (by simp only[List.length_cons,List.length_nil];omega))
  have hE:=(((hR.set_ 0 (.func (.func 234) #[] #[])).set_ 1 (.int .i64 0)).set_ 2 (.int .i64 0)).set_ 3 (.func (.func 266) #[] #[.pointer (some ⟨g,0,none⟩)])
  have hbE:=(((hbw.setCell (p:=⟨w.heap.size,0,none⟩) (Nat.le_refl _) (.func (.func 234) #[] #[])).setCell (p:=⟨w.heap.size,1,none⟩) (Nat.le_refl _) (.int .i64 0)).setCell (p:=⟨w.heap.size,2,none⟩) (Nat.le_refl _) (.int .i64 0)).setCell (p:=⟨w.heap.size,3,none⟩) (Nat.le_refl _) (.func (.func 266) #[] #[.pointer (some ⟨g,0,none⟩)])
  have hSE:=far4 hR h4 (by decide) (.func (.func 234) #[] #[]) (.int .i64 0) (.int .i64 0) (.func (.func 266) #[] #[.pointer (some ⟨g,0,none⟩)])
  refine store50_wp (o:=({ dst:=none,op:=Op.store 209 (Operand.tmp 2) (Operand.tmp 70),type:=0,pos := "shape.go:50",after := #[{ on:=5,ground:=Ground.data },{ on:=4,ground:=Ground.chain },{ on:=0,ground:=Ground.phase },{ on:=1,ground:=Ground.phase },{ on:=2,ground:=Ground.phase },{ on:=3,ground:=Ground.phase },{ on:=4,ground:=Ground.phase },{ on:=5,ground:=Ground.phase }],guard:=none }:Oper)) (F :=.func 234) (F2 :=.func 266) (xs := #[]) (ys := #[]) (xs2 := #[]) (ys2 := #[.pointer (some ⟨g,0,none⟩)]) (p:=0) (q:=0) rfl rfl rfl hR ?_
  have HRF:=HRF.out
  simp only[List.set_cons_zero,List.set_cons_succ]at hE
  generalize (((V9.setCell ⟨w.heap.size,0,none⟩ (.func (.func 234) #[] #[])).setCell ⟨w.heap.size,1,none⟩ (.int .i64 0)).setCell ⟨w.heap.size,2,none⟩ (.int .i64 0)).setCell ⟨w.heap.size,3,none⟩ (.func (.func 266) #[] #[.pointer (some ⟨g,0,none⟩)])=WE at *
  refine⟨hSE,?_⟩
  simp only[Act.put]
  refine hpu 7 (.bool true) (by kernel_rfl) rfl rfl (λ_ _ _ h=>h) rfl (y_assign rfl rfl) hSE ?_
  simp only[ap]
  refine wpAnyH_done (by kernel_rfl) ?_ _
  have z0:=(hE.cell 0).trans rfl
  have z1:=(hE.cell 1).trans rfl
  have z2:=(hE.cell 2).trans rfl
  have z3:=(hE.cell 3).trans rfl
  clear hR h4 h5 h6 hbw hBg hSE hpe hP hst
  go_wp2
  exact bodyPost_ret (v :=.tuple #[.agg #[.func (.func 234) #[] #[],.int .i64 0,.int .i64 0,.func (.func 266) #[] #[.pointer (some ⟨g,0,none⟩)]],.bool true]) (by simp[results,Tryz.f203,go_sem,z0,z1,z2,z3]) rfl ⟨g,rfl,HRF,hbE⟩
theorem shape_3 (w:World):Calls Tryz.prog 203 #[.int .i64 3] w (ShPost 3 w):=shapes_3_10 w 3 (by simp)
theorem shape_10 (w:World):Calls Tryz.prog 203 #[.int .i64 10] w (ShPost 10 w):=shapes_3_10 w 10 (by simp)
theorem st_nil (W:World)(b off:Nat)(h:(W.cell? ⟨b,off,none⟩).isSome=true)(hf:W.frozen? ⟨b,off,none⟩=false):(store ⟨b,off,none⟩ .nilFunc).run Tryz.prog W = .ok () (W.setCell ⟨b,off,none⟩ .nilFunc):=by
 obtain⟨u,hu⟩:=Option.isSome_iff_exists.1 h
 rw[run_store _ _ _ _ _ rfl,hu];simp[hf]
end
section
open Go Go.RowKit
set_option maxRecDepth 100000 in
set_option maxHeartbeats 1500000 in
theorem shape_no (kd:Int)(w:World)(h:kd<1\/27<kd):Calls Tryz.prog 203 #[.int .i64 kd] w (VPost (.tuple #[.agg #[.nilFunc,.int .i64 0,.int .i64 0,.nilFunc],.bool false]) w):=by
 have hst:=st_func
 have hsn:=st_nil
 have k1:(kd==1)=false:=by simp;omega
 have k2:(kd==2)=false:=by simp;omega
 have k3:(kd==3)=false:=by simp;omega
 have k4:(kd==4)=false:=by simp;omega
 have k5:(kd==5)=false:=by simp;omega
 have k6:(kd==6)=false:=by simp;omega
 have k7:(kd==7)=false:=by simp;omega
 have k8:(kd==8)=false:=by simp;omega
 have k9:(kd==9)=false:=by simp;omega
 have k10:(kd==10)=false:=by simp;omega
 have k11:(kd==11)=false:=by simp;omega
 have k12:(kd==12)=false:=by simp;omega
 have k13:(kd==13)=false:=by simp;omega
 have k14:(kd==14)=false:=by simp;omega
 have k15:(kd==15)=false:=by simp;omega
 have k16:(kd==16)=false:=by simp;omega
 have k17:(kd==17)=false:=by simp;omega
 have k18:(kd==18)=false:=by simp;omega
 have k19:(kd==19)=false:=by simp;omega
 have k20:(kd==20)=false:=by simp;omega
 have k21:(kd==21)=false:=by simp;omega
 have k22:(kd==22)=false:=by simp;omega
 have k23:(kd==23)=false:=by simp;omega
 have k24:(kd==24)=false:=by simp;omega
 have k25:(kd==25)=false:=by simp;omega
 have k26:(kd==26)=false:=by simp;omega
 have k27:(kd==27)=false:=by simp;omega
 clear h
 have hb0:Below w.heap.size w (w.alloc (.cells #[.nilFunc,.int .i64 0,.int .i64 0,.nilFunc] 209)):=heap1 _ _
 have hB0:=Bx.new w 209 [.nilFunc,.int .i64 0,.int .i64 0,.nilFunc]
 go_enter Tryz.func203,Tryz.ntmps203
 go_wp2_with (go_at_call 231;refine(one_any _ _ _ _).mono ?_)
 rintro e w1 ⟨rfl,hb1⟩
 go_wp2_with (go_at_call 233;refine(is_any _ _).mono ?_)
 rintro e w2 ⟨gb,rfl,hBb,hgb,hb2⟩
 go_wp2_with (go_at_call 231;refine(one_any _ _ _ _).mono ?_)
 rintro e w3 ⟨rfl,hb3⟩
 have hB3:=((hB0.below hb1 hB0.lt).below hb2 (hB0.below hb1 hB0.lt).lt).below hb3 ((hB0.below hb1 hB0.lt).below hb2 (hB0.below hb1 hB0.lt).lt).lt
 have hBb3:=hBb.below hb3 hBb.lt
 have hbw3:=bt (bt (bt hb0 hb1) hb2) hb3
 clear hb0 hb1 hb2 hb3 hB0 hBb hgb
 obtain⟨W5,hW5⟩:∃W5,(w3.alloc (.cells #[.nilFunc,.int .i64 0,.int .i64 0] 226)).alloc (.cells #[.nilFunc,.int .i64 0,.int .i64 0] 226)=W5:=⟨_,rfl⟩
 have h45:w3.heap.size≠w3.heap.size+1:=by omega
 have hb5:Below w3.heap.size w3 W5:=by rw[<- hW5];exact(heap1 _ _).alloc (by simp) _
 have hB4:Bx W5 w3.heap.size 226 [.nilFunc,.int .i64 0,.int .i64 0]:=by rw[<- hW5];exact(Bx.new w3 226 _).alloc _
 have hB5:Bx W5 (w3.heap.size+1) 226 [.nilFunc,.int .i64 0,.int .i64 0]:=by
  rw[<- hW5];have:=Bx.new (w3.alloc (.cells #[.nilFunc,.int .i64 0,.int .i64 0] 226)) 226 [.nilFunc,.int .i64 0,.int .i64 0]
  rw[World.size_alloc]at this;exact this
 have hne1:w.heap.size≠w3.heap.size:=λh=>by have:=hB3.lt;omega
 have hne2:w.heap.size≠w3.heap.size+1:=λh=>by have:=hB3.lt;omega
 have HH:=hid (show HeadR w w3.heap.size (w3.heap.size+1) ((((((W5.setCell ⟨w3.heap.size,0,none⟩ (.func (.func 232) #[] #[])).setCell ⟨w3.heap.size,1,none⟩ (.int .i64 1)).setCell ⟨w3.heap.size,2,none⟩ (.int .i64 1)).setCell ⟨w3.heap.size+1,0,none⟩ (.func (.func 265) #[] #[.pointer (some ⟨gb,0,none⟩)])).setCell ⟨w3.heap.size+1,1,none⟩ (.int .i64 1)).setCell ⟨w3.heap.size+1,2,none⟩ (.int .i64 1))from by
  have hq:=hB3.below hb5 hB3.lt
  have hb:=hBb3.below hb5 hBb3.lt
  have n1:gb≠w3.heap.size:=λh=>by have:=hBb3.lt;omega
  have n2:gb≠w3.heap.size+1:=λh=>by have:=hBb3.lt;omega
  have k1:w.heap.size<=w3.heap.size:=hbw3.size
  refine⟨gb,?_,?_,?_,?_,?_⟩
  ·exact(((((hq.far (p:=⟨w3.heap.size,0,none⟩) hne1 _).far (p:=⟨w3.heap.size,1,none⟩) hne1 _).far (p:=⟨w3.heap.size,2,none⟩) hne1 _).far (p:=⟨w3.heap.size+1,0,none⟩) hne2 _).far (p:=⟨w3.heap.size+1,1,none⟩) hne2 _).far (p:=⟨w3.heap.size+1,2,none⟩) hne2 _
  ·exact(((((hB4.set_ 0 _).set_ 1 _).set_ 2 _).far (p:=⟨w3.heap.size+1,0,none⟩) h45 _).far (p:=⟨w3.heap.size+1,1,none⟩) h45 _).far (p:=⟨w3.heap.size+1,2,none⟩) h45 _
  ·exact(((((hB5.far (p:=⟨w3.heap.size,0,none⟩) h45.symm _).far (p:=⟨w3.heap.size,1,none⟩) h45.symm _).far (p:=⟨w3.heap.size,2,none⟩) h45.symm _).set_ 0 _).set_ 1 _).set_ 2 _
  ·exact((((((hb.far (p:=⟨w3.heap.size,0,none⟩) n1 _).far (p:=⟨w3.heap.size,1,none⟩) n1 _).far (p:=⟨w3.heap.size,2,none⟩) n1 _).far (p:=⟨w3.heap.size+1,0,none⟩) n2 _).far (p:=⟨w3.heap.size+1,1,none⟩) n2 _).far (p:=⟨w3.heap.size+1,2,none⟩) n2 _)
  ·exact((((((bt hbw3 hb5).setCell (p:=⟨w3.heap.size,0,none⟩) k1 _).setCell (p:=⟨w3.heap.size,1,none⟩) k1 _).setCell (p:=⟨w3.heap.size,2,none⟩) k1 _).setCell (p:=⟨w3.heap.size+1,0,none⟩) (Nat.le_succ_of_le k1) _).setCell (p:=⟨w3.heap.size+1,1,none⟩) (Nat.le_succ_of_le k1) _).setCell (p:=⟨w3.heap.size+1,2,none⟩) (Nat.le_succ_of_le k1) _)
 have x0:=hB4.cell 0
 have x1:=hB4.cell 1
 have x2:=hB4.cell 2
 have y0:=hB5.cell 0
 have y1:=hB5.cell 1
 have y2:=hB5.cell 2
 have fx0:=hB4.frozen 0
 have fx1:=hB4.frozen 1
 have fx2:=hB4.frozen 2
 have fy0:=hB5.frozen 0
 have fy1:=hB5.frozen 1
 have fy2:=hB5.frozen 2
 simp only[List.getElem?_cons_zero,List.getElem?_cons_succ]at x0 x1 x2 y0 y1 y2
 clear hB3 hBb3 hbw3 hb5 hB4 hB5 hne1 hne2
 go_upto_region 49 with(fail)
 refine gen_world (HeadR w w3.heap.size (w3.heap.size+1)) HH.out λV0 hV0 =>?_
 clear HH x0 x1 x2 y0 y1 y2 fx0 fx1 fx2 fy0 fy1 fy2 hW5
 obtain⟨g4,hg4⟩:∃g4,g4=w3.heap.size:=⟨_,rfl⟩
 obtain⟨g5,hg5⟩:∃g5,g5=w3.heap.size+1:=⟨_,rfl⟩
 rw[<- hg5,<- hg4]at hV0
 rw[<- hg5,<- hg4]
 clear hg4 hg5 h45
 obtain⟨g6,hR,h4,h5,h6,hbw⟩:=hV0
 have r0:=(hR.cell 0).trans rfl
 have r1:=(hR.cell 1).trans rfl
 have r2:=(hR.cell 2).trans rfl
 have r3:=(hR.cell 3).trans rfl
 have fr0:=hR.frozen 0
 have fr1:=hR.frozen 1
 have fr2:=hR.frozen 2
 have fr3:=hR.frozen 3
 have hE:=(((hR.set_ 0 .nilFunc).set_ 1 (.int .i64 0)).set_ 2 (.int .i64 0)).set_ 3 .nilFunc
 have hbE:=(((hbw.setCell (p:=⟨w.heap.size,0,none⟩) (Nat.le_refl _) .nilFunc).setCell (p:=⟨w.heap.size,1,none⟩) (Nat.le_refl _) (.int .i64 0)).setCell (p:=⟨w.heap.size,2,none⟩) (Nat.le_refl _) (.int .i64 0)).setCell (p:=⟨w.heap.size,3,none⟩) (Nat.le_refl _) .nilFunc
 simp only[List.set_cons_zero,List.set_cons_succ]at hE
 have HH:=hid (And.intro hE hbE)
 clear hE hbE hR h4 h5 h6 hbw
 go_wp2
 obtain⟨hE,hbE⟩:=HH.out
 have z0:=(hE.cell 0).trans rfl
 have z1:=(hE.cell 1).trans rfl
 have z2:=(hE.cell 2).trans rfl
 have z3:=(hE.cell 3).trans rfl
 generalize (((V0.setCell ⟨w.heap.size,0,none⟩ .nilFunc).setCell ⟨w.heap.size,1,none⟩ (.int .i64 0)).setCell ⟨w.heap.size,2,none⟩ (.int .i64 0)).setCell ⟨w.heap.size,3,none⟩ .nilFunc=WE at *
 exact bodyPost_ret (v :=.tuple #[.agg #[.nilFunc,.int .i64 0,.int .i64 0,.nilFunc],.bool false]) (by simp[results,Tryz.f203,go_sem,z0,z1,z2,z3]) rfl ⟨rfl,hbE⟩
theorem shape_yes (kd:Int)(w:World)(h1:1<=kd)(h2:kd<=27):Calls Tryz.prog 203 #[.int .i64 kd] w (ShPost kd w):=by
 have h:kd=1\/kd=2\/kd=3\/kd=4\/kd=5\/kd=6\/kd=7\/kd=8\/kd=9\/kd=10\/kd=11\/kd=12\/kd=13\/kd=14\/kd=15\/kd=16\/kd=17\/kd=18\/kd=19\/kd=20\/kd=21\/kd=22\/kd=23\/kd=24\/kd=25\/kd=26\/kd=27:=by omega
 rcases h with rfl |rfl |rfl |rfl |rfl |rfl |rfl |rfl |rfl |rfl |rfl |rfl |rfl |rfl |rfl |rfl |rfl |rfl |rfl |rfl |rfl |rfl |rfl |rfl |rfl |rfl |rfl
 ·exact shape_1 w
 ·exact shape_2 w
 ·exact shape_3 w
 ·exact shape_4 w
 ·exact shape_5 w
 ·exact shape_6 w
 ·exact shape_7 w
 ·exact shape_8 w
 ·exact shape_9 w
 ·exact shape_10 w
 ·exact shape_11 w
 ·exact shape_12 w
 ·exact shape_13 w
 ·exact shape_14 w
 ·exact shape_15 w
 ·exact shape_16 w
 ·exact shape_17 w
 ·exact shape_18 w
 ·exact shape_19 w
 ·exact shape_20 w
 ·exact shape_21 w
 ·exact shape_22 w
 ·exact shape_23 w
 ·exact shape_24 w
 ·exact shape_25 w
 ·exact shape_26 w
 ·exact shape_27 w
end
end Go.Proofs.YtedkgofehbecmaaGreatDoor.Tr
