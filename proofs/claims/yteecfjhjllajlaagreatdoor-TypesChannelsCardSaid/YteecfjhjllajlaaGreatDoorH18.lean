/- PROVED here: parts Qc of the claim. No condition but those in each theorem's own head. -/
import Derived.Test.YteecfjhjllajlaaGreatDoorH17
namespace Go.Proofs.YteecfjhjllajlaaGreatDoor
section
set_option maxHeartbeats 1500000
set_option maxRecDepth 100000
open Go Go.RowKit
open Tr (Bx heap1 bt gen_world ret_int ret_bool cell_same)
theorem named_z {X:Nat→Prop}{w:World}{base g c:Nat}{A:Option Addr}{ts:List Tok}{V:Value}{s:St}{f:Nat}(hI:∀f',f'≤f→Rz ts (run ts f'))(h:Pz X w base g A c ts V s)(hne:namedM ts (run ts f) s ≠ .out):Calls Tryz.prog 269 #[.pointer (some ⟨g,0,none⟩)] w (IPost X base g A c ts V w (namedM ts (run ts f) s)):=by
 have hk:Nk s 0 (namedM ts (run ts f) s):=nk_named ts (run_nk ts f) s
 obtain⟨R,HR⟩:∃R,R=namedM ts (run ts f) s:=⟨_,rfl⟩
 rw[← HR]at hk hne ⊢
 unfold namedM at HR
 dsimp only at HR
 have HK:=Lib.hid (And.intro HR (And.intro hne (And.intro hk (And.intro h.hn hI))))
 have HC:=Lib.hid (name_z h)
 have HI:=Lib.hid hI
 have HNN:=Lib.hid (nk_name ts s)
 generalize tkn ts s=t at *
 unfold tokV at HC
 clear HR hne hk h hI
 go_enter Tryz.func269,Tryz.ntmps269
 go_wp2_with (go_at_call 168;refine HC.out.mono ?_)
 rintro e w1 (⟨p,er,hr,rfl,hF⟩ |⟨s1,hr1,rfl,hz1,hF1⟩)<;>first|replace hr1:=Lib.hid hr1 |replace hr:=Lib.hid hr
 ·go_wp2
  exact⟨rfl,.inl ⟨p,er,Rs.step_no HK.out.1 hr.out,rfl,hF⟩⟩
 have HR1:=Rs.step HK.out.1 hr1.out
 have n1:=(HNN.out _ _ hr1.out).1
 obtain⟨W2,hW2⟩:∃W2,w1.alloc (.cells #[.int .i64 (t.k:Int),.int .i64 t.n,.int .i64 (t.p:Int),.string (bs t.s)] 105)=W2:=⟨_,rfl⟩
 have hb2:Below w1.heap.size w1 W2:=by rw[← hW2];exact heap1 _ _
 have hT:Bx W2 w1.heap.size 105 [.int .i64 (t.k:Int),.int .i64 t.n,.int .i64 (t.p:Int),.string (bs t.s)]:=by rw[← hW2];exact Bx.new w1 105 _
 have hz2:=hz1.below hb2
 have hne0:=hz1.new
 have hF2:Fo w W2 g V V:=hF1.trans (Fo.below hb2)
 have HS:=Lib.hid (sees_z hz2 [91])
 cases hq:sees ts [91] s1 with
 |false=>
  rw[hq]at HS HR1
  rw[if_neg (by decide)]at HR1
  have HX:=Lib.hid (And.intro HR1 (And.intro hz2 (And.intro hF2 (And.intro hT (And.intro hne0 n1)))))
  clear HR1 hz2 hF2 hz1 hF1 hT hb2 hne0 n1
  go_wp2_with (first|(go_at_call 103;refine HS.out.mono ?_;rintro e w3 ⟨rfl,hb3⟩) |(go_at_call 166;refine(expect_z (HX.out.2.1.below hb3) [61] (by decide)).mono ?_))
  rintro e w4 (⟨p,er,hr,rfl,hF⟩ |⟨s4,hr4,rfl,hz4,hF4⟩)<;>first|replace hr4:=Lib.hid hr4 |replace hr:=Lib.hid hr
  ·go_wp2
   exact⟨rfl,.inl (np_after (HX.out.2.2.1.trans (Fo.below hb3)) (Rs.step_no HX.out.1 hr.out) hF)⟩
  obtain⟨HR1,hz2,hF2,hT,hne0,n1⟩:=HX.out
  have hT4:=(hF4.bx (hT.below hb3 hT.lt) hne0.1 hne0.2).1
  have t0:=(hT4.cell 0).trans rfl
  have t1:=(hT4.cell 1).trans rfl
  have t2:=(hT4.cell 2).trans rfl
  have t3:=(hT4.cell 3).trans rfl
  have hsl:s4.nd.length+1≤s4.nx:=by
   have a:=(nk_exp ts _ _ _ _ hr4.out).1
   have b:=HK.out.2.2.2.1
   omega
  have HRS:=Lib.hid (rest_z HI.out hz4 t hsl (Rs.step_in (Rs.step HR1 hr4.out) HK.out.2.1))
  have HE:=Lib.hid (fun w' x6 s6 V6 (q:Pz X w' base g A c ts V6 s6) (e:restM ts (run ts f) t s4 = .ok [x6] s6)=>(ended_z q x6).mono (fun _ _ q2=>((Rs.step (Rs.step HR1 hr4.out) e :):R=endedM ts [x6] s6)▸q2))
  have HN2:=Lib.hid (fun(p er:Nat) (q:restM ts (run ts f) t s4 = .no p er)=>Rs.step_no (Rs.step HR1 hr4.out) q)
  have HF:=Lib.hid ((hF2.trans (Fo.below (V:=V) hb3)).trans hF4)
  clear HR1 hz2 hF2 hT hne0 n1 hT4 hz4 hF4 hsl hr4 hb3
  go_wp2_with (first|(go_at_call 299;refine HRS.out.mono ?_;rintro e w6 (⟨p,er,hr,rfl,hF⟩ |⟨x6,s6,V6,hr6,rfl,hz6,hF6⟩)<;>first|replace hr6:=Lib.hid hr6 |replace hr:=Lib.hid hr) |(go_at_call 273;refine(HE.out _ _ _ _ hz6 hr6.out).mono ?_;rintro e w9 (⟨p,er,hr,rfl,hF⟩ |⟨x9,s9,V9,hr9,rfl,hz9,hF9⟩)<;>first|replace hr9:=Lib.hid hr9 |replace hr:=Lib.hid hr))
  ·exact⟨rfl,.inl (np_after HF.out (HN2.out _ _ hr.out) hF)⟩
  ·exact⟨rfl,.inl (np_after (HF.out.trans hF6) hr.out hF)⟩
  ·go_ret
   exact .inr ⟨x9,s9,V9,hr9.out,rfl,hz9,(HF.out.trans hF6).trans hF9⟩
 |true=>
  rw[hq]at HS HR1
  rw[if_pos rfl]at HR1
  have HX:=Lib.hid (And.intro HR1 (And.intro hz2 (And.intro hF2 (And.intro hT (And.intro hne0 n1)))))
  clear HR1 hz2 hF2 hz1 hF1 hT hb2 hne0 n1
  go_wp2_with (first|(go_at_call 103;refine HS.out.mono ?_;rintro e w3 ⟨rfl,hb3⟩) |(go_at_call 298;refine(index_z (HI.out f (Nat.le_refl _)) (HX.out.2.1.below hb3) (Rs.step_in HX.out.1 HK.out.2.1)).mono ?_;rintro e w4 (⟨p,er,hr,rfl,hF⟩ |⟨x4,s4,V4,hr4,rfl,hz4,hF4⟩)<;>first|replace hr4:=Lib.hid hr4 |replace hr:=Lib.hid hr) |(go_at_call 166;refine(expect_z hz4 [61] (by decide)).mono ?_))
  ·exact⟨rfl,.inl (np_after (HX.out.2.2.1.trans (Fo.below hb3)) (Rs.step_no HX.out.1 hr.out) hF)⟩
  rintro e w5 (⟨p,er,hr,rfl,hF⟩ |⟨s5,hr5,rfl,hz5,hF5⟩)<;>first|replace hr5:=Lib.hid hr5 |replace hr:=Lib.hid hr
  ·go_wp2
   exact⟨rfl,.inl (np_after ((HX.out.2.2.1.trans (Fo.below hb3)).trans hF4) (Rs.step_no (Rs.step HX.out.1 hr4.out) hr.out) hF)⟩
  obtain⟨HR1,hz2,hF2,hT,hne0,n1⟩:=HX.out
  have HR5:=Rs.step (Rs.step HR1 hr4.out) hr5.out
  have hT4:=hF4.bx (hT.below hb3 hT.lt) hne0.1 hne0.2
  have hT5:=hF5.bx hT4.1 hne0.1 hT4.2
  have hS:Bx { w5 with drawn:=w5.drawn+1 } w1.heap.size 105 [.int .i64 (t.k:Int),.int .i64 t.n,.int .i64 (t.p:Int),.string (bs t.s)]:=hT5.1
  have hz5':Pz X { w5 with drawn:=w5.drawn+1 } base g A c ts V4 s5:=hz5.below (bdrew (Below.refl _ _))
  have HF:=Lib.hid ((((hF2.trans (Fo.below (V:=V) hb3)).trans hF4).trans hF5).trans (Fo.below (V:=V4) (bdrew (Below.refl w5.heap.size w5))))
  have HIx:=Lib.hid (fun w' (q:Pz X w' base g A c ts V4 s5)=>expr_z (HI.out f (Nat.le_refl _)) q (Rs.step_in HR5 HK.out.2.1))
  have HNx:=Lib.hid (fun(p er:Nat) (q:exprM (run ts f) s5 = .no p er)=>Rs.step_no HR5 q)
  have HSL:=Lib.hid (fun x7 s7 (q:exprM (run ts f) s5 = .ok [x7] s7)=>show s7.nd.length+1≤s7.nx by
   have a:=(nk_idx ts (run_nk ts f) _ _ _ hr4.out).1
   have b:=(nk_exp ts _ _ _ _ hr5.out).1
   have d:=(nk_expr (run_nk ts f) _ _ _ q).1
   have e:=HK.out.2.2.2.1
   omega)
  have HRx:=Lib.hid (fun x7 s7 x8 s8 (q:exprM (run ts f) s5 = .ok [x7] s7) (q8:addM 8 0 (t.p:Int) t.s [x4,x7] s7 = .ok [x8] s8)=>((Rs.step (Rs.step HR5 q) q8 :):R=endedM ts [x8] s8))
  have HX5:=Lib.hid (And.intro hS (And.intro hz5' (And.intro hne0.1 hT5.2)))
  clear HR1 HR5 hz2 hF2 hT hne0 n1 hT4 hT5 hS hz4 hz5 hz5' hF4 hF5 hr4 hr5 hb3
  go_upto_region 5 with(fail)
  obtain⟨hS,hz5,hne⟩:=HX5.out
  refine wp_region_held (S:=fun w'=>Bx w' w1.heap.size 105 [.int .i64 (t.k:Int),.int .i64 t.n,.int .i64 (t.p:Int),.string (bs t.s)]) (by kernel_rfl) ?_
  refine hpu 0 (.pointer (some ⟨g,0,none⟩)) (by kernel_rfl) rfl rfl (fun _ _ _ h=>h) rfl (y_move rfl rfl) hS ?_
  simp only[ap]
  refine hpu 1 (.pointer (some ⟨g,0,none⟩)) (by kernel_rfl) rfl rfl (fun _ _ _ h=>h) rfl (y_move rfl rfl) hS ?_
  simp only[ap]
  refine hpu 2 (.pointer (some ⟨w1.heap.size,3,none⟩)) (by kernel_rfl) rfl rfl (fun _ _ _ h=>h) rfl (y_field rfl rfl (run_field36_3 _)) hS ?_
  simp only[ap]
  refine hpu 3 (.string (bs t.s)) (by kernel_rfl) rfl rfl (fun _ _ _ h=>h) rfl (y_load rfl rfl (fun w' q=>run_load9 ((q.cell 3).trans rfl))) hS ?_
  simp only[ap]
  refine hpu 4 (.pointer (some ⟨w1.heap.size,2,none⟩)) (by kernel_rfl) rfl rfl (fun _ _ _ h=>h) rfl (y_field rfl rfl (run_field36_2 _)) hS ?_
  simp only[ap]
  refine hpu 5 (.int .i64 (t.p:Int)) (by kernel_rfl) rfl rfl (fun _ _ _ h=>h) rfl (y_load rfl rfl (fun w' q=>run_load3 ((q.cell 2).trans rfl))) hS ?_
  simp only[ap]
  refine hpu 6 (.agg #[.int .i64 8,.int .i64 0,.int .i64 (t.p:Int),.string (bs t.s),.slice none 0 0]) (by kernel_rfl) rfl rfl (fun _ _ _ h=>h) rfl (y_build39 rfl rfl rfl) hS ?_
  simp only[ap]
  refine hpu 7 (.int .i64 x4) (by kernel_rfl) rfl rfl (fun _ _ _ h=>h) rfl (y_move rfl rfl) hS ?_
  simp only[ap]
  refine hpu 8 (.pointer (some ⟨g,0,none⟩)) (by kernel_rfl) rfl rfl (fun _ _ _ h=>h) rfl (y_move rfl rfl) hS ?_
  simp only[ap]
  refine h_callx 9 ({ dst:=some 22,op:=Op.call { callee:=Callee.value (Operand.func 138),args := #[Operand.tmp 21],argTypes := #[59] },type:=3,pos := "grammar.go:136",after := #[{ on:=8,ground:=Ground.data }],guard:=none }:Oper) (args := #[.pointer (some ⟨g,0,none⟩)]) own66 rfl rfl (by kernel_rfl) rfl rfl (HIx.out _ hz5) ?_
  rintro e w7 (⟨p,er,hr,rfl,hF⟩ |⟨x7,s7,V7,hr7,rfl,hz7,hF7⟩)
  ·exact .inl ⟨_,rfl,rfl,.inl (np_after HF.out (HNx.out _ _ hr) hF)⟩
  have hne7:=(hF7.bx hS hne.1 hne.2).2
  have hS7:=(hF7.bx hS hne.1 hne.2).1
  refine .inr ⟨_,rfl,hS7,?_⟩
  simp only[ap]
  refine h_one 10 ({ dst:=some 23,op:=Op.buildSlice 35 2 #[(0,Operand.tmp 20),(1,Operand.tmp 22)],type:=35,pos := "grammar.go:136",after := #[{ on:=7,ground:=Ground.data },{ on:=9,ground:=Ground.data }],guard:=none }:Oper) rfl (by kernel_rfl) rfl (slice2 rfl rfl rfl ⟨hS7.alloc _,?_⟩)
  simp only[ap]
  refine h_callx 11 ({ dst:=some 24,op:=Op.call { callee:=Callee.value (Operand.func 106),args := #[Operand.tmp 14,Operand.tmp 19,Operand.tmp 23],argTypes := #[59,37,35] },type:=3,pos := "grammar.go:136",after := #[{ on:=1,ground:=Ground.data },{ on:=6,ground:=Ground.data },{ on:=10,ground:=Ground.data },{ on:=9,ground:=Ground.chain }],guard:=none }:Oper) (args := #[.pointer (some ⟨g,0,none⟩),.agg #[.int .i64 8,.int .i64 0,.int .i64 (t.p:Int),.string (bs t.s),.slice none 0 0],.slice (some ⟨w7.heap.size,0,none⟩) 2 2]) own44 rfl rfl (by kernel_rfl) rfl rfl (add_y2 hz7 8 0 (t.p:Int) t.s none 0 0 x4 x7 (HSL.out _ _ hr7)) ?_
  rintro e w8 (⟨p,er,hr,rfl,hF⟩ |⟨x8,s8,V8,hr8,rfl,hz8,hF8⟩)
  ·cases hr
  have hne8:=(hF8.bx hS7 hne.1 hne7).2
  have hS8:=(hF8.bx hS7 hne.1 hne7).1
  refine .inr ⟨_,rfl,hS8,?_⟩
  simp only[ap]
  refine h_callx 12 ({ dst:=some 25,op:=Op.call { callee:=Callee.value (Operand.func 273),args := #[Operand.tmp 13,Operand.tmp 24],argTypes := #[59,3] },type:=3,pos := "grammar.go:136",after := #[{ on:=0,ground:=Ground.data },{ on:=11,ground:=Ground.data },{ on:=11,ground:=Ground.chain }],guard:=none }:Oper) (args := #[.pointer (some ⟨g,0,none⟩),.int .i64 x8]) own136 rfl rfl (by kernel_rfl) rfl rfl ((ended_z hz8 x8).mono (fun _ _ q=>(HRx.out _ _ _ _ hr7 hr8)▸q)) ?_
  rintro e w9 (⟨p,er,hr,rfl,hF⟩ |⟨x9,s9,V9,hr9,rfl,hz9,hF9⟩)
  ·exact .inl ⟨_,rfl,rfl,.inl (np_after ((HF.out.trans hF7).trans hF8) hr hF)⟩
  refine .inr ⟨_,rfl,(hF9.bx hS8 hne.1 hne8).1,?_⟩
  have hS9:=(hF9.bx hS8 hne.1 hne8).1
  simp only[ap]
  refine hpu 13 (.int .i64 x9) (by kernel_rfl) rfl rfl (fun _ _ _ h=>h) rfl (y_assign rfl rfl) hS9 ?_
  simp only[ap]
  refine wpAnyH_done (by kernel_rfl) ?_ _
  have HR9:=Lib.hid hr9
  clear hr9 hr8 hr7
  go_wp2
  go_ret
  exact .inr ⟨_,s9,V9,HR9.out,rfl,hz9,((HF.out.trans hF7).trans hF8).trans hF9⟩
end
end Go.Proofs.YteecfjhjllajlaaGreatDoor
