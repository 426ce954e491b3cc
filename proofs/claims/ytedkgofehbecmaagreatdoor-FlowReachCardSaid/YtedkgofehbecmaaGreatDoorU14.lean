/- PROVED here: parts N14 of the claim. No condition but those in each theorem's own head. -/
import Derived.Test.YtedkgofehbecmaaGreatDoorU13
namespace Go.Proofs.YtedkgofehbecmaaGreatDoor
open Go.Lib (hid)
open Go Go.RowKit
open Tr (Bx heap1 bt gen_world ret_int ret_bool cell_same)
theorem Rs.assoc (r:Rs)(f g:List Int->St->Rs):(r.bind f).bind g=r.bind (λv s=>(f v s).bind g):=by cases r<;>rfl
set_option maxRecDepth 100000 in
set_option maxHeartbeats 1500000 in
theorem stmt_0 {X:Nat->Prop}{w:World}{base g c:Nat}{A:Option Addr}{ts:List Tok}{V:Value}{s:St}{f:Nat}(hI:∀f',f'<=f->Rz ts (run ts f'))(h:Pz X w base g A c ts V s)(q0:(tkn ts s).k=1)(hne:stmtM ts (run ts f) s ≠ .out):Calls Tryz.prog 213 #[.pointer (some ⟨g,0,none⟩)] w (IPost X base g A c ts V w (stmtM ts (run ts f) s)):=by
 have hk:Nk s 0 (stmtM ts (run ts f) s):=nk_stmt ts (run_nk ts f) s
 obtain⟨R,HR⟩:∃R,R=stmtM ts (run ts f) s:=⟨_,rfl⟩
 rw[<- HR]at hk hne |-
 replace HR:R=namedM ts (run ts f) s:=HR.trans (by unfold stmtM;simp only;rw[if_pos q0])
 have HK:=hid (And.intro HR (And.intro hne (And.intro hk (And.intro h.hn hI))))
 have hf0:=field36_0 (tkn ts s)
 have hf2:=field36_2 (tkn ts s)
 have hf3:=field36_3 (tkn ts s)
 have HC:=hid (λw' (q:Below w.heap.size w w')=>(token_z (h.below q)).mono (λe w'' r=>(⟨r.1,bt q r.2⟩:e = .returned (tokV (tkn ts s))/\Below w.heap.size w w'')))
 have d1:(((tkn ts s).k:Int)==1)=true:=by rw[beq_iff_eq];omega
 have HX:=hid (λw' (q:Below w.heap.size w w')=>named_z hI (h.below q) (by rw[<- HR];exact hne))
 rw[<- HR]at HX
 generalize tokV (tkn ts s)=tv at *
 generalize bs (tkn ts s).s=ss at *
 generalize ((tkn ts s).k:Int)=kk at *
 generalize ((tkn ts s).p:Int)=pp at *
 clear HR hk hne hI h q0
 go_enter Tryz.func213,Tryz.ntmps213
 go_wp2_with (first|(go_at_call 176;refine(HC.out _ (by first|assumption |exact Below.refl _ _)).mono ?_;rintro e w1 ⟨rfl,hb1⟩) |(go_at_call 249;refine(HX.out _ (by assumption)).mono ?_;rintro e w9 (⟨p,er,hr,rfl,hF⟩ |⟨x9,s9,V9,hr9,rfl,hz9,hF9⟩)<;>first|replace hr9:=hid hr9 |replace hr:=hid hr))
 ·exact⟨rfl,.inl (np_after (Fo.below hb1) (hr.out) hF)⟩
 ·go_ret
  exact .inr ⟨x9,s9,V9,hr9.out,rfl,hz9,(Fo.below hb1).trans hF9⟩
set_option maxRecDepth 100000 in
set_option maxHeartbeats 1500000 in
theorem stmt_1 {X:Nat->Prop}{w:World}{base g c:Nat}{A:Option Addr}{ts:List Tok}{V:Value}{s:St}{f:Nat}(hI:∀f',f'<=f->Rz ts (run ts f'))(h:Pz X w base g A c ts V s)(q0:¬(tkn ts s).k=1)(q1:(tkn ts s).s=wOut)(hne:stmtM ts (run ts f) s ≠ .out):Calls Tryz.prog 213 #[.pointer (some ⟨g,0,none⟩)] w (IPost X base g A c ts V w (stmtM ts (run ts f) s)):=by
 have hk:Nk s 0 (stmtM ts (run ts f) s):=nk_stmt ts (run_nk ts f) s
 obtain⟨R,HR⟩:∃R,R=stmtM ts (run ts f) s:=⟨_,rfl⟩
 rw[<- HR]at hk hne |-
 replace HR:R=outM ts (run ts f) s:=HR.trans (by unfold stmtM;simp only;rw[if_neg q0,if_pos q1])
 have HK:=hid (And.intro HR (And.intro hne (And.intro hk (And.intro h.hn hI))))
 have hf0:=field36_0 (tkn ts s)
 have hf2:=field36_2 (tkn ts s)
 have hf3:=field36_3 (tkn ts s)
 have HC:=hid (λw' (q:Below w.heap.size w w')=>(token_z (h.below q)).mono (λe w'' r=>(⟨r.1,bt q r.2⟩:e = .returned (tokV (tkn ts s))/\Below w.heap.size w w'')))
 have d1:(((tkn ts s).k:Int)==1)=false:=by rw[beq_eq_false_iff_ne];omega
 have e1:((bs (tkn ts s).s).toList==[111,117,116])=true:=by rw[bs_toList,beq_iff_eq];exact q1
 have HX:=hid (λw' (q:Below w.heap.size w w')=>out_z hI (h.below q) (by rw[q1];decide) (by rw[<- HR];exact hne))
 rw[<- HR]at HX
 generalize tokV (tkn ts s)=tv at *
 generalize bs (tkn ts s).s=ss at *
 generalize ((tkn ts s).k:Int)=kk at *
 generalize ((tkn ts s).p:Int)=pp at *
 clear HR hk hne hI h q0 q1
 go_enter Tryz.func213,Tryz.ntmps213
 go_wp2_with (first|(go_at_call 176;refine(HC.out _ (by first|assumption |exact Below.refl _ _)).mono ?_;rintro e w1 ⟨rfl,hb1⟩) |(go_at_call 250;refine(HX.out _ (by assumption)).mono ?_;rintro e w9 (⟨p,er,hr,rfl,hF⟩ |⟨x9,s9,V9,hr9,rfl,hz9,hF9⟩)<;>first|replace hr9:=hid hr9 |replace hr:=hid hr))
 ·exact⟨rfl,.inl (np_after (Fo.below hb1) (hr.out) hF)⟩
 ·go_ret
  exact .inr ⟨x9,s9,V9,hr9.out,rfl,hz9,(Fo.below hb1).trans hF9⟩
set_option maxRecDepth 100000 in
set_option maxHeartbeats 1500000 in
theorem stmt_2 {X:Nat->Prop}{w:World}{base g c:Nat}{A:Option Addr}{ts:List Tok}{V:Value}{s:St}{f:Nat}(hI:∀f',f'<=f->Rz ts (run ts f'))(h:Pz X w base g A c ts V s)(q0:¬(tkn ts s).k=1)(q1:¬(tkn ts s).s=wOut)(q2:(tkn ts s).s=wIf)(hne:stmtM ts (run ts f) s ≠ .out):Calls Tryz.prog 213 #[.pointer (some ⟨g,0,none⟩)] w (IPost X base g A c ts V w (stmtM ts (run ts f) s)):=by
 have hk:Nk s 0 (stmtM ts (run ts f) s):=nk_stmt ts (run_nk ts f) s
 obtain⟨R,HR⟩:∃R,R=stmtM ts (run ts f) s:=⟨_,rfl⟩
 rw[<- HR]at hk hne |-
 replace HR:R=ifM ts (run ts f) s:=HR.trans (by unfold stmtM;simp only;rw[if_neg q0,if_neg q1,if_pos q2])
 have HK:=hid (And.intro HR (And.intro hne (And.intro hk (And.intro h.hn hI))))
 have hf0:=field36_0 (tkn ts s)
 have hf2:=field36_2 (tkn ts s)
 have hf3:=field36_3 (tkn ts s)
 have HC:=hid (λw' (q:Below w.heap.size w w')=>(token_z (h.below q)).mono (λe w'' r=>(⟨r.1,bt q r.2⟩:e = .returned (tokV (tkn ts s))/\Below w.heap.size w w'')))
 have d1:(((tkn ts s).k:Int)==1)=false:=by rw[beq_eq_false_iff_ne];omega
 have e1:((bs (tkn ts s).s).toList==[111,117,116])=false:=by rw[bs_toList,beq_eq_false_iff_ne];exact q1
 have e2:((bs (tkn ts s).s).toList==[105,102])=true:=by rw[bs_toList,beq_iff_eq];exact q2
 have HX:=hid (λw' (q:Below w.heap.size w w')=>choice_z hI (h.below q) (by rw[q2];decide) (by rw[<- HR];exact hne))
 rw[<- HR]at HX
 generalize tokV (tkn ts s)=tv at *
 generalize bs (tkn ts s).s=ss at *
 generalize ((tkn ts s).k:Int)=kk at *
 generalize ((tkn ts s).p:Int)=pp at *
 clear HR hk hne hI h q0 q1 q2
 go_enter Tryz.func213,Tryz.ntmps213
 go_wp2_with (first|(go_at_call 176;refine(HC.out _ (by first|assumption |exact Below.refl _ _)).mono ?_;rintro e w1 ⟨rfl,hb1⟩) |(go_at_call 251;refine(HX.out _ (by assumption)).mono ?_;rintro e w9 (⟨p,er,hr,rfl,hF⟩ |⟨x9,s9,V9,hr9,rfl,hz9,hF9⟩)<;>first|replace hr9:=hid hr9 |replace hr:=hid hr))
 ·exact⟨rfl,.inl (np_after (Fo.below hb1) (hr.out) hF)⟩
 ·go_ret
  exact .inr ⟨x9,s9,V9,hr9.out,rfl,hz9,(Fo.below hb1).trans hF9⟩
set_option maxRecDepth 100000 in
set_option maxHeartbeats 1500000 in
theorem stmt_3 {X:Nat->Prop}{w:World}{base g c:Nat}{A:Option Addr}{ts:List Tok}{V:Value}{s:St}{f:Nat}(hI:∀f',f'<=f->Rz ts (run ts f'))(h:Pz X w base g A c ts V s)(q0:¬(tkn ts s).k=1)(q1:¬(tkn ts s).s=wOut)(q2:¬(tkn ts s).s=wIf)(q3:(tkn ts s).s=wWhile)(hne:stmtM ts (run ts f) s ≠ .out):Calls Tryz.prog 213 #[.pointer (some ⟨g,0,none⟩)] w (IPost X base g A c ts V w (stmtM ts (run ts f) s)):=by
 have hk:Nk s 0 (stmtM ts (run ts f) s):=nk_stmt ts (run_nk ts f) s
 obtain⟨R,HR⟩:∃R,R=stmtM ts (run ts f) s:=⟨_,rfl⟩
 rw[<- HR]at hk hne |-
 replace HR:R=whileM ts (run ts f) s:=HR.trans (by unfold stmtM;simp only;rw[if_neg q0,if_neg q1,if_neg q2,if_pos q3])
 have HK:=hid (And.intro HR (And.intro hne (And.intro hk (And.intro h.hn hI))))
 have hf0:=field36_0 (tkn ts s)
 have hf2:=field36_2 (tkn ts s)
 have hf3:=field36_3 (tkn ts s)
 have HC:=hid (λw' (q:Below w.heap.size w w')=>(token_z (h.below q)).mono (λe w'' r=>(⟨r.1,bt q r.2⟩:e = .returned (tokV (tkn ts s))/\Below w.heap.size w w'')))
 have d1:(((tkn ts s).k:Int)==1)=false:=by rw[beq_eq_false_iff_ne];omega
 have e1:((bs (tkn ts s).s).toList==[111,117,116])=false:=by rw[bs_toList,beq_eq_false_iff_ne];exact q1
 have e2:((bs (tkn ts s).s).toList==[105,102])=false:=by rw[bs_toList,beq_eq_false_iff_ne];exact q2
 have e3:((bs (tkn ts s).s).toList==[119,104,105,108,101])=true:=by rw[bs_toList,beq_iff_eq];exact q3
 have HT:=hid (λw' (q:Below w.heap.size w w')=>take_z (h.below q) (.inr (by rw[q3];decide)))
 unfold whileM at HR
 dsimp only at HR
 have HRW:=hid HR
 have HA:=hid (λw' V' (s':St) (q:Pz X w' base g A c ts V' s') x1 x2 (e:R=addM 12 0 ((tkn ts s).p:Int) [] [x1,x2] s')=>add_s2 q 12 0 ((tkn ts s).p:Int) [] none 0 0 x1 x2 e hk h.hn)
 generalize tokV (tkn ts s)=tv at *
 generalize bs (tkn ts s).s=ss at *
 generalize ((tkn ts s).k:Int)=kk at *
 generalize ((tkn ts s).p:Int)=pp at *
 clear HR hk hne hI h q0 q1 q2 q3
 go_enter Tryz.func213,Tryz.ntmps213
 go_wp2_with (first|(go_at_call 176;refine(HC.out _ (by first|assumption |exact Below.refl _ _)).mono ?_;rintro e w1 ⟨rfl,hb1⟩) |(go_at_call 173;refine(HT.out _ (by assumption)).mono ?_;rintro e w2 ⟨rfl,hz2,hF2⟩) |(go_at_call 252;refine(expr_z (HK.out.2.2.2.2 f (Nat.le_refl _)) hz2 (Rs.step_in (HRW.out) HK.out.2.1)).mono ?_;rintro e w3 (⟨p,er,hr,rfl,hF⟩ |⟨x3,s3,V3,hr3,rfl,hz3,hF3⟩)<;>first|replace hr3:=hid hr3 |replace hr:=hid hr) |(go_at_call 253;refine(block_z HK.out.2.2.2.2 hz3 (Rs.step_in (Rs.step (HRW.out) hr3.out) HK.out.2.1)).mono ?_;rintro e w4 (⟨p,er,hr,rfl,hF⟩ |⟨x4,s4,V4,hr4,rfl,hz4,hF4⟩)<;>first|replace hr4:=hid hr4 |replace hr:=hid hr) |(go_at_call 131;refine(HA.out _ _ _ hz4 x3 x4 (Rs.step (Rs.step (HRW.out) hr3.out) hr4.out :)).mono ?_;rintro e w9 (⟨p,er,hr,rfl,hF⟩ |⟨x9,s9,V9,hr9,rfl,hz9,hF9⟩)<;>first|replace hr9:=hid hr9 |replace hr:=hid hr))
 ·exact⟨rfl,.inl (np_after ((Fo.below hb1).trans (hF2)) (Rs.step_no (HRW.out) hr.out) hF)⟩
 ·exact⟨rfl,.inl (np_after (((Fo.below hb1).trans (hF2)).trans (hF3)) (Rs.step_no (Rs.step (HRW.out) hr3.out) hr.out) hF)⟩
 ·exact⟨rfl,.inl (np_after ((((Fo.below hb1).trans (hF2)).trans (hF3)).trans (hF4)) (hr.out) hF)⟩
 ·go_ret
  exact .inr ⟨x9,s9,V9,hr9.out,rfl,hz9,((((Fo.below hb1).trans (hF2)).trans (hF3)).trans (hF4)).trans hF9⟩
set_option maxRecDepth 100000 in
set_option maxHeartbeats 1500000 in
theorem stmt_4 {X:Nat->Prop}{w:World}{base g c:Nat}{A:Option Addr}{ts:List Tok}{V:Value}{s:St}{f:Nat}(hI:∀f',f'<=f->Rz ts (run ts f'))(h:Pz X w base g A c ts V s)(q0:¬(tkn ts s).k=1)(q1:¬(tkn ts s).s=wOut)(q2:¬(tkn ts s).s=wIf)(q3:¬(tkn ts s).s=wWhile)(q4:(tkn ts s).s=wCall)(hne:stmtM ts (run ts f) s ≠ .out):Calls Tryz.prog 213 #[.pointer (some ⟨g,0,none⟩)] w (IPost X base g A c ts V w (stmtM ts (run ts f) s)):=by
 have hk:Nk s 0 (stmtM ts (run ts f) s):=nk_stmt ts (run_nk ts f) s
 obtain⟨R,HR⟩:∃R,R=stmtM ts (run ts f) s:=⟨_,rfl⟩
 rw[<- HR]at hk hne |-
 replace HR:R=(callM ts (run ts f) [] (tkn ts s).p s).bind λv s=>endedM ts v s:=HR.trans (by unfold stmtM;simp only;rw[if_neg q0,if_neg q1,if_neg q2,if_neg q3,if_pos q4])
 have HK:=hid (And.intro HR (And.intro hne (And.intro hk (And.intro h.hn hI))))
 have hf0:=field36_0 (tkn ts s)
 have hf2:=field36_2 (tkn ts s)
 have hf3:=field36_3 (tkn ts s)
 have HC:=hid (λw' (q:Below w.heap.size w w')=>(token_z (h.below q)).mono (λe w'' r=>(⟨r.1,bt q r.2⟩:e = .returned (tokV (tkn ts s))/\Below w.heap.size w w'')))
 have d1:(((tkn ts s).k:Int)==1)=false:=by rw[beq_eq_false_iff_ne];omega
 have e1:((bs (tkn ts s).s).toList==[111,117,116])=false:=by rw[bs_toList,beq_eq_false_iff_ne];exact q1
 have e2:((bs (tkn ts s).s).toList==[105,102])=false:=by rw[bs_toList,beq_eq_false_iff_ne];exact q2
 have e3:((bs (tkn ts s).s).toList==[119,104,105,108,101])=false:=by rw[bs_toList,beq_eq_false_iff_ne];exact q3
 have e4:((bs (tkn ts s).s).toList==[99,97,108,108])=true:=by rw[bs_toList,beq_iff_eq];exact q4
 have HX:=hid (λw' (q:Below w.heap.size w w')=>call_z hI (h.below q) [] ((tkn ts s).p:Int) (Rs.step_in HR hne))
 generalize tokV (tkn ts s)=tv at *
 generalize bs (tkn ts s).s=ss at *
 generalize ((tkn ts s).k:Int)=kk at *
 generalize ((tkn ts s).p:Int)=pp at *
 clear HR hk hne hI h q0 q1 q2 q3 q4
 go_enter Tryz.func213,Tryz.ntmps213
 go_wp2_with (first|(go_at_call 176;refine(HC.out _ (by first|assumption |exact Below.refl _ _)).mono ?_;rintro e w1 ⟨rfl,hb1⟩) |(go_at_call 255;refine(HX.out _ (by assumption)).mono ?_;rintro e w3 (⟨p,er,hr,rfl,hF⟩ |⟨x3,s3,V3,hr3,rfl,hz3,hF3⟩)<;>first|replace hr3:=hid hr3 |replace hr:=hid hr) |(go_at_call 254;refine((ended_z hz3 x3).mono (λ_ _ q=>((Rs.step (HK.out.1) hr3.out) :)▸q)).mono ?_;rintro e w9 (⟨p,er,hr,rfl,hF⟩ |⟨x9,s9,V9,hr9,rfl,hz9,hF9⟩)<;>first|replace hr9:=hid hr9 |replace hr:=hid hr))
 ·exact⟨rfl,.inl (np_after (Fo.below hb1) (Rs.step_no (HK.out.1) hr.out) hF)⟩
 ·exact⟨rfl,.inl (np_after ((Fo.below hb1).trans (hF3)) (hr.out) hF)⟩
 ·go_ret
  exact .inr ⟨x9,s9,V9,hr9.out,rfl,hz9,((Fo.below hb1).trans (hF3)).trans hF9⟩
set_option maxRecDepth 100000 in
set_option maxHeartbeats 1500000 in
theorem stmt_5 {X:Nat->Prop}{w:World}{base g c:Nat}{A:Option Addr}{ts:List Tok}{V:Value}{s:St}{f:Nat}(hI:∀f',f'<=f->Rz ts (run ts f'))(h:Pz X w base g A c ts V s)(q0:¬(tkn ts s).k=1)(q1:¬(tkn ts s).s=wOut)(q2:¬(tkn ts s).s=wIf)(q3:¬(tkn ts s).s=wWhile)(q4:¬(tkn ts s).s=wCall)(q5:(tkn ts s).s=wReturn)(hne:stmtM ts (run ts f) s ≠ .out):Calls Tryz.prog 213 #[.pointer (some ⟨g,0,none⟩)] w (IPost X base g A c ts V w (stmtM ts (run ts f) s)):=by
 have hk:Nk s 0 (stmtM ts (run ts f) s):=nk_stmt ts (run_nk ts f) s
 obtain⟨R,HR⟩:∃R,R=stmtM ts (run ts f) s:=⟨_,rfl⟩
 rw[<- HR]at hk hne |-
 replace HR:R=(returnM ts (run ts f) s).bind λv s=>endedM ts v s:=HR.trans (by unfold stmtM;simp only;rw[if_neg q0,if_neg q1,if_neg q2,if_neg q3,if_neg q4,if_pos q5])
 have HK:=hid (And.intro HR (And.intro hne (And.intro hk (And.intro h.hn hI))))
 have hf0:=field36_0 (tkn ts s)
 have hf2:=field36_2 (tkn ts s)
 have hf3:=field36_3 (tkn ts s)
 have HC:=hid (λw' (q:Below w.heap.size w w')=>(token_z (h.below q)).mono (λe w'' r=>(⟨r.1,bt q r.2⟩:e = .returned (tokV (tkn ts s))/\Below w.heap.size w w'')))
 have d1:(((tkn ts s).k:Int)==1)=false:=by rw[beq_eq_false_iff_ne];omega
 have e1:((bs (tkn ts s).s).toList==[111,117,116])=false:=by rw[bs_toList,beq_eq_false_iff_ne];exact q1
 have e2:((bs (tkn ts s).s).toList==[105,102])=false:=by rw[bs_toList,beq_eq_false_iff_ne];exact q2
 have e3:((bs (tkn ts s).s).toList==[119,104,105,108,101])=false:=by rw[bs_toList,beq_eq_false_iff_ne];exact q3
 have e4:((bs (tkn ts s).s).toList==[99,97,108,108])=false:=by rw[bs_toList,beq_eq_false_iff_ne];exact q4
 have e5:((bs (tkn ts s).s).toList==[114,101,116,117,114,110])=true:=by rw[bs_toList,beq_iff_eq];exact q5
 have HX:=hid (λw' (q:Below w.heap.size w w')=>answer_z hI (h.below q) (by rw[q5];decide) (Rs.step_in HR hne))
 generalize tokV (tkn ts s)=tv at *
 generalize bs (tkn ts s).s=ss at *
 generalize ((tkn ts s).k:Int)=kk at *
 generalize ((tkn ts s).p:Int)=pp at *
 clear HR hk hne hI h q0 q1 q2 q3 q4 q5
 go_enter Tryz.func213,Tryz.ntmps213
 go_wp2_with (first|(go_at_call 176;refine(HC.out _ (by first|assumption |exact Below.refl _ _)).mono ?_;rintro e w1 ⟨rfl,hb1⟩) |(go_at_call 256;refine(HX.out _ (by assumption)).mono ?_;rintro e w3 (⟨p,er,hr,rfl,hF⟩ |⟨x3,s3,V3,hr3,rfl,hz3,hF3⟩)<;>first|replace hr3:=hid hr3 |replace hr:=hid hr) |(go_at_call 254;refine((ended_z hz3 x3).mono (λ_ _ q=>((Rs.step (HK.out.1) hr3.out) :)▸q)).mono ?_;rintro e w9 (⟨p,er,hr,rfl,hF⟩ |⟨x9,s9,V9,hr9,rfl,hz9,hF9⟩)<;>first|replace hr9:=hid hr9 |replace hr:=hid hr))
 ·exact⟨rfl,.inl (np_after (Fo.below hb1) (Rs.step_no (HK.out.1) hr.out) hF)⟩
 ·exact⟨rfl,.inl (np_after ((Fo.below hb1).trans (hF3)) (hr.out) hF)⟩
 ·go_ret
  exact .inr ⟨x9,s9,V9,hr9.out,rfl,hz9,((Fo.below hb1).trans (hF3)).trans hF9⟩
set_option maxRecDepth 100000 in
set_option maxHeartbeats 1500000 in
theorem stmt_6 {X:Nat->Prop}{w:World}{base g c:Nat}{A:Option Addr}{ts:List Tok}{V:Value}{s:St}{f:Nat}(hI:∀f',f'<=f->Rz ts (run ts f'))(h:Pz X w base g A c ts V s)(q0:¬(tkn ts s).k=1)(q1:¬(tkn ts s).s=wOut)(q2:¬(tkn ts s).s=wIf)(q3:¬(tkn ts s).s=wWhile)(q4:¬(tkn ts s).s=wCall)(q5:¬(tkn ts s).s=wReturn)(q6:(tkn ts s).s=wThrow)(hne:stmtM ts (run ts f) s ≠ .out):Calls Tryz.prog 213 #[.pointer (some ⟨g,0,none⟩)] w (IPost X base g A c ts V w (stmtM ts (run ts f) s)):=by
 have hk:Nk s 0 (stmtM ts (run ts f) s):=nk_stmt ts (run_nk ts f) s
 obtain⟨R,HR⟩:∃R,R=stmtM ts (run ts f) s:=⟨_,rfl⟩
 rw[<- HR]at hk hne |-
 replace HR:R=(exprM (run ts f) (takeS s)).bind λv s2=>(addM 15 0 (tkn ts s).p [] v s2).bind λv s=>endedM ts v s:=HR.trans (by unfold stmtM;simp only;rw[if_neg q0,if_neg q1,if_neg q2,if_neg q3,if_neg q4,if_neg q5,if_pos q6];unfold throwM;simp only;rw[Rs.assoc])
 have HK:=hid (And.intro HR (And.intro hne (And.intro hk (And.intro h.hn hI))))
 have hf0:=field36_0 (tkn ts s)
 have hf2:=field36_2 (tkn ts s)
 have hf3:=field36_3 (tkn ts s)
 have HC:=hid (λw' (q:Below w.heap.size w w')=>(token_z (h.below q)).mono (λe w'' r=>(⟨r.1,bt q r.2⟩:e = .returned (tokV (tkn ts s))/\Below w.heap.size w w'')))
 have d1:(((tkn ts s).k:Int)==1)=false:=by rw[beq_eq_false_iff_ne];omega
 have e1:((bs (tkn ts s).s).toList==[111,117,116])=false:=by rw[bs_toList,beq_eq_false_iff_ne];exact q1
 have e2:((bs (tkn ts s).s).toList==[105,102])=false:=by rw[bs_toList,beq_eq_false_iff_ne];exact q2
 have e3:((bs (tkn ts s).s).toList==[119,104,105,108,101])=false:=by rw[bs_toList,beq_eq_false_iff_ne];exact q3
 have e4:((bs (tkn ts s).s).toList==[99,97,108,108])=false:=by rw[bs_toList,beq_eq_false_iff_ne];exact q4
 have e5:((bs (tkn ts s).s).toList==[114,101,116,117,114,110])=false:=by rw[bs_toList,beq_eq_false_iff_ne];exact q5
 have e6:((bs (tkn ts s).s).toList==[116,104,114,111,119])=true:=by rw[bs_toList,beq_iff_eq];exact q6
 have HT:=hid (λw' (q:Below w.heap.size w w')=>take_z (h.below q) (.inr (by rw[q6];decide)))
 have HA:=hid (λw' V' (s':St) (q:Pz X w' base g A c ts V' s') (hsl:s'.nd.length+1<=s'.nx) x1=>add_y1 q 15 0 ((tkn ts s).p:Int) [] none 0 0 x1 hsl)
 generalize tokV (tkn ts s)=tv at *
 generalize bs (tkn ts s).s=ss at *
 generalize ((tkn ts s).k:Int)=kk at *
 generalize ((tkn ts s).p:Int)=pp at *
 clear HR hk hne hI h q0 q1 q2 q3 q4 q5 q6
 go_enter Tryz.func213,Tryz.ntmps213
 go_wp2_with (first|(go_at_call 176;refine(HC.out _ (by first|assumption |exact Below.refl _ _)).mono ?_;rintro e w1 ⟨rfl,hb1⟩) |(go_at_call 173;refine(HT.out _ (by assumption)).mono ?_;rintro e w2 ⟨rfl,hz2,hF2⟩) |(go_at_call 252;refine(expr_z (HK.out.2.2.2.2 f (Nat.le_refl _)) hz2 (Rs.step_in (HK.out.1) HK.out.2.1)).mono ?_;rintro e w3 (⟨p,er,hr,rfl,hF⟩ |⟨x3,s3,V3,hr3,rfl,hz3,hF3⟩)<;>first|replace hr3:=hid hr3 |replace hr:=hid hr) |(go_at_call 131;refine(HA.out _ _ _ hz3 (by have b:=((nk_expr (run_nk ts f) _ _ _ hr3.out).1).1;have c1:(takeS s).nd=s.nd:=rfl;have c2:(takeS s).nx=s.nx+1:=rfl;have d:=HK.out.2.2.2.1;rw[c1,c2]at b;omega) x3).mono ?_;rintro e w4 (⟨p,er,hr,rfl,hF⟩ |⟨x4,s4,V4,hr4,rfl,hz4,hF4⟩)<;>first|replace hr4:=hid hr4 |replace hr:=hid hr) |(go_at_call 254;refine((ended_z hz4 x4).mono (λ_ _ q=>((Rs.step (Rs.step (HK.out.1) hr3.out) hr4.out) :)▸q)).mono ?_;rintro e w9 (⟨p,er,hr,rfl,hF⟩ |⟨x9,s9,V9,hr9,rfl,hz9,hF9⟩)<;>first|replace hr9:=hid hr9 |replace hr:=hid hr))
 ·exact⟨rfl,.inl (np_after ((Fo.below hb1).trans (hF2)) (Rs.step_no (HK.out.1) hr.out) hF)⟩
 ·exact⟨rfl,.inl (np_after (((Fo.below hb1).trans (hF2)).trans (hF3)) (Rs.step_no (Rs.step (HK.out.1) hr3.out) hr.out) hF)⟩
 ·exact⟨rfl,.inl (np_after ((((Fo.below hb1).trans (hF2)).trans (hF3)).trans (hF4)) (hr.out) hF)⟩
 ·go_ret
  exact .inr ⟨x9,s9,V9,hr9.out,rfl,hz9,((((Fo.below hb1).trans (hF2)).trans (hF3)).trans (hF4)).trans hF9⟩
set_option maxRecDepth 100000 in
set_option maxHeartbeats 1500000 in
theorem stmt_7 {X:Nat->Prop}{w:World}{base g c:Nat}{A:Option Addr}{ts:List Tok}{V:Value}{s:St}{f:Nat}(hI:∀f',f'<=f->Rz ts (run ts f'))(h:Pz X w base g A c ts V s)(q0:¬(tkn ts s).k=1)(q1:¬(tkn ts s).s=wOut)(q2:¬(tkn ts s).s=wIf)(q3:¬(tkn ts s).s=wWhile)(q4:¬(tkn ts s).s=wCall)(q5:¬(tkn ts s).s=wReturn)(q6:¬(tkn ts s).s=wThrow)(q7:(tkn ts s).s=wTry)(hne:stmtM ts (run ts f) s ≠ .out):Calls Tryz.prog 213 #[.pointer (some ⟨g,0,none⟩)] w (IPost X base g A c ts V w (stmtM ts (run ts f) s)):=by
 have hk:Nk s 0 (stmtM ts (run ts f) s):=nk_stmt ts (run_nk ts f) s
 obtain⟨R,HR⟩:∃R,R=stmtM ts (run ts f) s:=⟨_,rfl⟩
 rw[<- HR]at hk hne |-
 replace HR:R=tryM ts (run ts f) s:=HR.trans (by unfold stmtM;simp only;rw[if_neg q0,if_neg q1,if_neg q2,if_neg q3,if_neg q4,if_neg q5,if_neg q6,if_pos q7])
 have HK:=hid (And.intro HR (And.intro hne (And.intro hk (And.intro h.hn hI))))
 have hf0:=field36_0 (tkn ts s)
 have hf2:=field36_2 (tkn ts s)
 have hf3:=field36_3 (tkn ts s)
 have HC:=hid (λw' (q:Below w.heap.size w w')=>(token_z (h.below q)).mono (λe w'' r=>(⟨r.1,bt q r.2⟩:e = .returned (tokV (tkn ts s))/\Below w.heap.size w w'')))
 have d1:(((tkn ts s).k:Int)==1)=false:=by rw[beq_eq_false_iff_ne];omega
 have e1:((bs (tkn ts s).s).toList==[111,117,116])=false:=by rw[bs_toList,beq_eq_false_iff_ne];exact q1
 have e2:((bs (tkn ts s).s).toList==[105,102])=false:=by rw[bs_toList,beq_eq_false_iff_ne];exact q2
 have e3:((bs (tkn ts s).s).toList==[119,104,105,108,101])=false:=by rw[bs_toList,beq_eq_false_iff_ne];exact q3
 have e4:((bs (tkn ts s).s).toList==[99,97,108,108])=false:=by rw[bs_toList,beq_eq_false_iff_ne];exact q4
 have e5:((bs (tkn ts s).s).toList==[114,101,116,117,114,110])=false:=by rw[bs_toList,beq_eq_false_iff_ne];exact q5
 have e6:((bs (tkn ts s).s).toList==[116,104,114,111,119])=false:=by rw[bs_toList,beq_eq_false_iff_ne];exact q6
 have e7:((bs (tkn ts s).s).toList==[116,114,121])=true:=by rw[bs_toList,beq_iff_eq];exact q7
 have HX:=hid (λw' (q:Below w.heap.size w w')=>attempt_z hI (h.below q) (by rw[q7];decide) (by rw[<- HR];exact hne))
 rw[<- HR]at HX
 generalize tokV (tkn ts s)=tv at *
 generalize bs (tkn ts s).s=ss at *
 generalize ((tkn ts s).k:Int)=kk at *
 generalize ((tkn ts s).p:Int)=pp at *
 clear HR hk hne hI h q0 q1 q2 q3 q4 q5 q6 q7
 go_enter Tryz.func213,Tryz.ntmps213
 go_wp2_with (first|(go_at_call 176;refine(HC.out _ (by first|assumption |exact Below.refl _ _)).mono ?_;rintro e w1 ⟨rfl,hb1⟩) |(go_at_call 257;refine(HX.out _ (by assumption)).mono ?_;rintro e w9 (⟨p,er,hr,rfl,hF⟩ |⟨x9,s9,V9,hr9,rfl,hz9,hF9⟩)<;>first|replace hr9:=hid hr9 |replace hr:=hid hr))
 ·exact⟨rfl,.inl (np_after (Fo.below hb1) (hr.out) hF)⟩
 ·go_ret
  exact .inr ⟨x9,s9,V9,hr9.out,rfl,hz9,(Fo.below hb1).trans hF9⟩
set_option maxRecDepth 100000 in
set_option maxHeartbeats 1500000 in
theorem stmt_8 {X:Nat->Prop}{w:World}{base g c:Nat}{A:Option Addr}{ts:List Tok}{V:Value}{s:St}{f:Nat}(hI:∀f',f'<=f->Rz ts (run ts f'))(h:Pz X w base g A c ts V s)(q0:¬(tkn ts s).k=1)(q1:¬(tkn ts s).s=wOut)(q2:¬(tkn ts s).s=wIf)(q3:¬(tkn ts s).s=wWhile)(q4:¬(tkn ts s).s=wCall)(q5:¬(tkn ts s).s=wReturn)(q6:¬(tkn ts s).s=wThrow)(q7:¬(tkn ts s).s=wTry)(hne:stmtM ts (run ts f) s ≠ .out):Calls Tryz.prog 213 #[.pointer (some ⟨g,0,none⟩)] w (IPost X base g A c ts V w (stmtM ts (run ts f) s)):=by
 have hk:Nk s 0 (stmtM ts (run ts f) s):=nk_stmt ts (run_nk ts f) s
 obtain⟨R,HR⟩:∃R,R=stmtM ts (run ts f) s:=⟨_,rfl⟩
 rw[<- HR]at hk hne |-
 replace HR:R = .no (tkn ts s).p 2:=HR.trans (by unfold stmtM;simp only;rw[if_neg q0,if_neg q1,if_neg q2,if_neg q3,if_neg q4,if_neg q5,if_neg q6,if_neg q7])
 have HK:=hid (And.intro HR (And.intro hne (And.intro hk (And.intro h.hn hI))))
 have hf0:=field36_0 (tkn ts s)
 have hf2:=field36_2 (tkn ts s)
 have hf3:=field36_3 (tkn ts s)
 have HC:=hid (λw' (q:Below w.heap.size w w')=>(token_z (h.below q)).mono (λe w'' r=>(⟨r.1,bt q r.2⟩:e = .returned (tokV (tkn ts s))/\Below w.heap.size w w'')))
 have d1:(((tkn ts s).k:Int)==1)=false:=by rw[beq_eq_false_iff_ne];omega
 have e1:((bs (tkn ts s).s).toList==[111,117,116])=false:=by rw[bs_toList,beq_eq_false_iff_ne];exact q1
 have e2:((bs (tkn ts s).s).toList==[105,102])=false:=by rw[bs_toList,beq_eq_false_iff_ne];exact q2
 have e3:((bs (tkn ts s).s).toList==[119,104,105,108,101])=false:=by rw[bs_toList,beq_eq_false_iff_ne];exact q3
 have e4:((bs (tkn ts s).s).toList==[99,97,108,108])=false:=by rw[bs_toList,beq_eq_false_iff_ne];exact q4
 have e5:((bs (tkn ts s).s).toList==[114,101,116,117,114,110])=false:=by rw[bs_toList,beq_eq_false_iff_ne];exact q5
 have e6:((bs (tkn ts s).s).toList==[116,104,114,111,119])=false:=by rw[bs_toList,beq_eq_false_iff_ne];exact q6
 have e7:((bs (tkn ts s).s).toList==[116,114,121])=false:=by rw[bs_toList,beq_eq_false_iff_ne];exact q7
 have HX:=hid (λw' (q:Below w.heap.size w w')=>refuse_z (h.below q) 2)
 generalize (tkn ts s).p=pp at *
 generalize tokV (tkn ts s)=tv at *
 generalize bs (tkn ts s).s=ss at *
 generalize ((tkn ts s).k:Int)=kk at *
 clear HR hk hne hI h q0 q1 q2 q3 q4 q5 q6 q7
 go_enter Tryz.func213,Tryz.ntmps213
 go_wp2_with (first|(go_at_call 176;refine(HC.out _ (by first|assumption |exact Below.refl _ _)).mono ?_;rintro e w1 ⟨rfl,hb1⟩) |(go_at_call 183;refine(HX.out _ (by assumption)).mono ?_;rintro e w2 ⟨rfl,hb2⟩))
 exact⟨rfl,.inl ⟨pp,2,HK.out.1,rfl,((Fo.below hb1).trans (Fo.below (V:=V) hb2)).fr⟩⟩
theorem stmt_z {X:Nat->Prop}{w:World}{base g c:Nat}{A:Option Addr}{ts:List Tok}{V:Value}{s:St}{f:Nat}(hI:∀f',f'<=f->Rz ts (run ts f'))(h:Pz X w base g A c ts V s)(hne:stmtM ts (run ts f) s ≠ .out):Calls Tryz.prog 213 #[.pointer (some ⟨g,0,none⟩)] w (IPost X base g A c ts V w (stmtM ts (run ts f) s)):=by
 by_cases q0:(tkn ts s).k=1
 ·exact stmt_0 hI h q0 hne
 by_cases q1:(tkn ts s).s=wOut
 ·exact stmt_1 hI h q0 q1 hne
 by_cases q2:(tkn ts s).s=wIf
 ·exact stmt_2 hI h q0 q1 q2 hne
 by_cases q3:(tkn ts s).s=wWhile
 ·exact stmt_3 hI h q0 q1 q2 q3 hne
 by_cases q4:(tkn ts s).s=wCall
 ·exact stmt_4 hI h q0 q1 q2 q3 q4 hne
 by_cases q5:(tkn ts s).s=wReturn
 ·exact stmt_5 hI h q0 q1 q2 q3 q4 q5 hne
 by_cases q6:(tkn ts s).s=wThrow
 ·exact stmt_6 hI h q0 q1 q2 q3 q4 q5 q6 hne
 by_cases q7:(tkn ts s).s=wTry
 ·exact stmt_7 hI h q0 q1 q2 q3 q4 q5 q6 q7 hne
 exact stmt_8 hI h q0 q1 q2 q3 q4 q5 q6 q7 hne
end Go.Proofs.YtedkgofehbecmaaGreatDoor
