/- PROVED: Qd. No more condition. -/
import Derived.Test.YteecfjhjllajlaaGreatDoorG12
namespace Go.Proofs.YteecfjhjllajlaaGreatDoor
open Go.Lib (hid)
section
set_option maxHeartbeats 1500000
set_option maxRecDepth 100000
open Go Go.RowKit
open Tr (Bx ag bt ak aB aa av)
theorem Rs.assoc (r:Rs)(f g:List Int->St->Rs):(r.bind f).bind g=r.bind (λv s=>(f v s).bind g):=by cases r<;>rfl
theorem Jd {X:Nat->Prop}{w:World}{base g c:Nat}{A:Option Addr}{ts:List Tok}{V:Value}{s:St}{f:Nat}(hI:∀f',f'<=f->Rz ts (run ts f'))(h:Pz X w base g A c ts V s)(q0:(ai ts s).k=1)(hne:aK ts (run ts f) s ≠ .out):Calls Tryz.prog 241 #[.pointer (some ⟨g,0,none⟩)] w (az X base g A c ts V w (aK ts (run ts f) s)):=by
 have hk:Nk s 0 (aK ts (run ts f) s):=ik ts (bg ts f) s;obtain⟨R,HR⟩:∃R,R=aK ts (run ts f) s:=⟨_,rfl⟩;rw[<- HR]at hk hne |-;replace HR:R=gV ts (run ts f) s:=HR.trans (by unfold aK;simp only;rw[if_pos q0]);have HK:=hid (And.intro HR (And.intro hne (And.intro hk (And.intro h.hn hI))));have hf0:=dw (ai ts s);have hf2:=aU (ai ts s);have hf3:=aM (ai ts s);have HC:=hid (λw' (q:Below w.heap.size w w')=>(aZ (h.below q)).mono (λe w'' r=>(⟨r.1,bt q r.2⟩:e=.returned (aJ (ai ts s))/\Below w.heap.size w w'')));have d1:(((ai ts s).k:Int)==1)=true:=by rw[beq_iff_eq];omega
 have HX:=hid (λw' (q:Below w.heap.size w w')=>FM hI (h.below q) (by rw[<- HR];exact hne));rw[<- HR]at HX;generalize aJ (ai ts s)=tv at *
 generalize bs (ai ts s).s=ss at *
 generalize ((ai ts s).k:Int)=kk at *
 generalize ((ai ts s).p:Int)=pp at *
 clear HR hk hne hI h q0;go_enter Tryz.func241,Tryz.ntmps241
 go_wp2_with (first|(go_at_call 167;refine(HC.out _ (by first|assumption |exact Below.refl _ _)).mono ?_;rintro e w1 ⟨rfl,hb1⟩) |(go_at_call 269;refine(HX.out _ (by assumption)).mono ?_;rintro e w9 (⟨p,er,hr,rfl,hF⟩ |⟨x9,s9,V9,hr9,rfl,hz9,hF9⟩)<;>first|replace hr9:=hid hr9 |replace hr:=hid hr))
 ·exact⟨rfl,.inl (ah (Fo.below hb1) (hr.out) hF)⟩
 ·go_ret
  exact .inr ⟨x9,s9,V9,hr9.out,rfl,hz9,(Fo.below hb1).trans hF9⟩
theorem Je {X:Nat->Prop}{w:World}{base g c:Nat}{A:Option Addr}{ts:List Tok}{V:Value}{s:St}{f:Nat}(hI:∀f',f'<=f->Rz ts (run ts f'))(h:Pz X w base g A c ts V s)(q0:¬(ai ts s).k=1)(q1:(ai ts s).s=sJ)(hne:aK ts (run ts f) s ≠ .out):Calls Tryz.prog 241 #[.pointer (some ⟨g,0,none⟩)] w (az X base g A c ts V w (aK ts (run ts f) s)):=by
 have hk:Nk s 0 (aK ts (run ts f) s):=ik ts (bg ts f) s;obtain⟨R,HR⟩:∃R,R=aK ts (run ts f) s:=⟨_,rfl⟩;rw[<- HR]at hk hne |-;replace HR:R=o9 ts (run ts f) s:=HR.trans (by unfold aK;simp only;rw[if_neg q0,if_pos q1]);have HK:=hid (And.intro HR (And.intro hne (And.intro hk (And.intro h.hn hI))));have hf0:=dw (ai ts s);have hf2:=aU (ai ts s);have hf3:=aM (ai ts s);have HC:=hid (λw' (q:Below w.heap.size w w')=>(aZ (h.below q)).mono (λe w'' r=>(⟨r.1,bt q r.2⟩:e=.returned (aJ (ai ts s))/\Below w.heap.size w w'')));have d1:(((ai ts s).k:Int)==1)=false:=by rw[beq_eq_false_iff_ne];omega
 have e1:((bs (ai ts s).s).toList==[111,117,116])=true:=by rw[aj,beq_iff_eq];exact q1
 have HX:=hid (λw' (q:Below w.heap.size w w')=>KP hI (h.below q) (by rw[q1];decide) (by rw[<- HR];exact hne));rw[<- HR]at HX;generalize aJ (ai ts s)=tv at *
 generalize bs (ai ts s).s=ss at *
 generalize ((ai ts s).k:Int)=kk at *
 generalize ((ai ts s).p:Int)=pp at *
 clear HR hk hne hI h q0 q1;go_enter Tryz.func241,Tryz.ntmps241
 go_wp2_with (first|(go_at_call 167;refine(HC.out _ (by first|assumption |exact Below.refl _ _)).mono ?_;rintro e w1 ⟨rfl,hb1⟩) |(go_at_call 270;refine(HX.out _ (by assumption)).mono ?_;rintro e w9 (⟨p,er,hr,rfl,hF⟩ |⟨x9,s9,V9,hr9,rfl,hz9,hF9⟩)<;>first|replace hr9:=hid hr9 |replace hr:=hid hr))
 ·exact⟨rfl,.inl (ah (Fo.below hb1) (hr.out) hF)⟩
 ·go_ret
  exact .inr ⟨x9,s9,V9,hr9.out,rfl,hz9,(Fo.below hb1).trans hF9⟩
theorem Jf {X:Nat->Prop}{w:World}{base g c:Nat}{A:Option Addr}{ts:List Tok}{V:Value}{s:St}{f:Nat}(hI:∀f',f'<=f->Rz ts (run ts f'))(h:Pz X w base g A c ts V s)(q0:¬(ai ts s).k=1)(q1:¬(ai ts s).s=sJ)(q2:(ai ts s).s=Fa)(hne:aK ts (run ts f) s ≠ .out):Calls Tryz.prog 241 #[.pointer (some ⟨g,0,none⟩)] w (az X base g A c ts V w (aK ts (run ts f) s)):=by
 have hk:Nk s 0 (aK ts (run ts f) s):=ik ts (bg ts f) s;obtain⟨R,HR⟩:∃R,R=aK ts (run ts f) s:=⟨_,rfl⟩;rw[<- HR]at hk hne |-;replace HR:R=Au ts (run ts f) s:=HR.trans (by unfold aK;simp only;rw[if_neg q0,if_neg q1,if_pos q2]);have HK:=hid (And.intro HR (And.intro hne (And.intro hk (And.intro h.hn hI))));have hf0:=dw (ai ts s);have hf2:=aU (ai ts s);have hf3:=aM (ai ts s);have HC:=hid (λw' (q:Below w.heap.size w w')=>(aZ (h.below q)).mono (λe w'' r=>(⟨r.1,bt q r.2⟩:e=.returned (aJ (ai ts s))/\Below w.heap.size w w'')));have d1:(((ai ts s).k:Int)==1)=false:=by rw[beq_eq_false_iff_ne];omega
 have e1:((bs (ai ts s).s).toList==[111,117,116])=false:=by rw[aj,beq_eq_false_iff_ne];exact q1
 have e2:((bs (ai ts s).s).toList==[105,102])=true:=by rw[aj,beq_iff_eq];exact q2
 have HX:=hid (λw' (q:Below w.heap.size w w')=>Dn hI (h.below q) (by rw[q2];decide) (by rw[<- HR];exact hne));rw[<- HR]at HX;generalize aJ (ai ts s)=tv at *
 generalize bs (ai ts s).s=ss at *
 generalize ((ai ts s).k:Int)=kk at *
 generalize ((ai ts s).p:Int)=pp at *
 clear HR hk hne hI h q0 q1 q2;go_enter Tryz.func241,Tryz.ntmps241
 go_wp2_with (first|(go_at_call 167;refine(HC.out _ (by first|assumption |exact Below.refl _ _)).mono ?_;rintro e w1 ⟨rfl,hb1⟩) |(go_at_call 271;refine(HX.out _ (by assumption)).mono ?_;rintro e w9 (⟨p,er,hr,rfl,hF⟩ |⟨x9,s9,V9,hr9,rfl,hz9,hF9⟩)<;>first|replace hr9:=hid hr9 |replace hr:=hid hr))
 ·exact⟨rfl,.inl (ah (Fo.below hb1) (hr.out) hF)⟩
 ·go_ret
  exact .inr ⟨x9,s9,V9,hr9.out,rfl,hz9,(Fo.below hb1).trans hF9⟩
theorem Jg {X:Nat->Prop}{w:World}{base g c:Nat}{A:Option Addr}{ts:List Tok}{V:Value}{s:St}{f:Nat}(hI:∀f',f'<=f->Rz ts (run ts f'))(h:Pz X w base g A c ts V s)(q0:¬(ai ts s).k=1)(q1:¬(ai ts s).s=sJ)(q2:¬(ai ts s).s=Fa)(q3:(ai ts s).s=lm)(hne:aK ts (run ts f) s ≠ .out):Calls Tryz.prog 241 #[.pointer (some ⟨g,0,none⟩)] w (az X base g A c ts V w (aK ts (run ts f) s)):=by
 have hk:Nk s 0 (aK ts (run ts f) s):=ik ts (bg ts f) s;obtain⟨R,HR⟩:∃R,R=aK ts (run ts f) s:=⟨_,rfl⟩;rw[<- HR]at hk hne |-;replace HR:R=kD ts (run ts f) s:=HR.trans (by unfold aK;simp only;rw[if_neg q0,if_neg q1,if_neg q2,if_pos q3]);have HK:=hid (And.intro HR (And.intro hne (And.intro hk (And.intro h.hn hI))));have hf0:=dw (ai ts s);have hf2:=aU (ai ts s);have hf3:=aM (ai ts s);have HC:=hid (λw' (q:Below w.heap.size w w')=>(aZ (h.below q)).mono (λe w'' r=>(⟨r.1,bt q r.2⟩:e=.returned (aJ (ai ts s))/\Below w.heap.size w w'')));have d1:(((ai ts s).k:Int)==1)=false:=by rw[beq_eq_false_iff_ne];omega
 have e1:((bs (ai ts s).s).toList==[111,117,116])=false:=by rw[aj,beq_eq_false_iff_ne];exact q1
 have e2:((bs (ai ts s).s).toList==[105,102])=false:=by rw[aj,beq_eq_false_iff_ne];exact q2
 have e3:((bs (ai ts s).s).toList==[119,104,105,108,101])=true:=by rw[aj,beq_iff_eq];exact q3
 have HT:=hid (λw' (q:Below w.heap.size w w')=>eG (h.below q) (.inr (by rw[q3];decide)));unfold kD at HR;dsimp only at HR;have HRW:=hid HR;have HA:=hid (λw' V' (s':St) (q:Pz X w' base g A c ts V' s') x1 x2 (e:R=bX 12 0 ((ai ts s).p:Int) [] [x1,x2] s')=>CV q 12 0 ((ai ts s).p:Int) [] none 0 0 x1 x2 e hk h.hn);generalize aJ (ai ts s)=tv at *
 generalize bs (ai ts s).s=ss at *
 generalize ((ai ts s).k:Int)=kk at *
 generalize ((ai ts s).p:Int)=pp at *
 clear HR hk hne hI h q0 q1 q2 q3;go_enter Tryz.func241,Tryz.ntmps241
 go_wp2_with (first|(go_at_call 167;refine(HC.out _ (by first|assumption |exact Below.refl _ _)).mono ?_;rintro e w1 ⟨rfl,hb1⟩) |(go_at_call 164;refine(HT.out _ (by assumption)).mono ?_;rintro e w2 ⟨rfl,hz2,hF2⟩) |(go_at_call 138;refine(gZ (HK.out.2.2.2.2 f (Nat.le_refl _)) hz2 (Rs.step_in (HRW.out) HK.out.2.1)).mono ?_;rintro e w3 (⟨p,er,hr,rfl,hF⟩ |⟨x3,s3,V3,hr3,rfl,hz3,hF3⟩)<;>first|replace hr3:=hid hr3 |replace hr:=hid hr) |(go_at_call 272;refine(om HK.out.2.2.2.2 hz3 (Rs.step_in (Rs.step (HRW.out) hr3.out) HK.out.2.1)).mono ?_;rintro e w4 (⟨p,er,hr,rfl,hF⟩ |⟨x4,s4,V4,hr4,rfl,hz4,hF4⟩)<;>first|replace hr4:=hid hr4 |replace hr:=hid hr) |(go_at_call 106;refine(HA.out _ _ _ hz4 x3 x4 (Rs.step (Rs.step (HRW.out) hr3.out) hr4.out :)).mono ?_;rintro e w9 (⟨p,er,hr,rfl,hF⟩ |⟨x9,s9,V9,hr9,rfl,hz9,hF9⟩)<;>first|replace hr9:=hid hr9 |replace hr:=hid hr))
 ·exact⟨rfl,.inl (ah ((Fo.below hb1).trans (hF2)) (Rs.step_no (HRW.out) hr.out) hF)⟩
 ·exact⟨rfl,.inl (ah (((Fo.below hb1).trans (hF2)).trans (hF3)) (Rs.step_no (Rs.step (HRW.out) hr3.out) hr.out) hF)⟩
 ·exact⟨rfl,.inl (ah ((((Fo.below hb1).trans (hF2)).trans (hF3)).trans (hF4)) (hr.out) hF)⟩
 ·go_ret
  exact .inr ⟨x9,s9,V9,hr9.out,rfl,hz9,((((Fo.below hb1).trans (hF2)).trans (hF3)).trans (hF4)).trans hF9⟩
theorem Jh {X:Nat->Prop}{w:World}{base g c:Nat}{A:Option Addr}{ts:List Tok}{V:Value}{s:St}{f:Nat}(hI:∀f',f'<=f->Rz ts (run ts f'))(h:Pz X w base g A c ts V s)(q0:¬(ai ts s).k=1)(q1:¬(ai ts s).s=sJ)(q2:¬(ai ts s).s=Fa)(q3:¬(ai ts s).s=lm)(q4:(ai ts s).s=jb)(hne:aK ts (run ts f) s ≠ .out):Calls Tryz.prog 241 #[.pointer (some ⟨g,0,none⟩)] w (az X base g A c ts V w (aK ts (run ts f) s)):=by
 have hk:Nk s 0 (aK ts (run ts f) s):=ik ts (bg ts f) s;obtain⟨R,HR⟩:∃R,R=aK ts (run ts f) s:=⟨_,rfl⟩;rw[<- HR]at hk hne |-;replace HR:R=(jd ts (run ts f) [] (ai ts s).p s).bind λv s=>dL ts v s:=HR.trans (by unfold aK;simp only;rw[if_neg q0,if_neg q1,if_neg q2,if_neg q3,if_pos q4])
 have HK:=hid (And.intro HR (And.intro hne (And.intro hk (And.intro h.hn hI))));have hf0:=dw (ai ts s);have hf2:=aU (ai ts s);have hf3:=aM (ai ts s);have HC:=hid (λw' (q:Below w.heap.size w w')=>(aZ (h.below q)).mono (λe w'' r=>(⟨r.1,bt q r.2⟩:e=.returned (aJ (ai ts s))/\Below w.heap.size w w'')));have d1:(((ai ts s).k:Int)==1)=false:=by rw[beq_eq_false_iff_ne];omega
 have e1:((bs (ai ts s).s).toList==[111,117,116])=false:=by rw[aj,beq_eq_false_iff_ne];exact q1
 have e2:((bs (ai ts s).s).toList==[105,102])=false:=by rw[aj,beq_eq_false_iff_ne];exact q2
 have e3:((bs (ai ts s).s).toList==[119,104,105,108,101])=false:=by rw[aj,beq_eq_false_iff_ne];exact q3
 have e4:((bs (ai ts s).s).toList==[99,97,108,108])=true:=by rw[aj,beq_iff_eq];exact q4
 have HX:=hid (λw' (q:Below w.heap.size w w')=>Dm hI (h.below q) [] ((ai ts s).p:Int) (Rs.step_in HR hne));generalize aJ (ai ts s)=tv at *
 generalize bs (ai ts s).s=ss at *
 generalize ((ai ts s).k:Int)=kk at *
 generalize ((ai ts s).p:Int)=pp at *
 clear HR hk hne hI h q0 q1 q2 q3 q4;go_enter Tryz.func241,Tryz.ntmps241
 go_wp2_with (first|(go_at_call 167;refine(HC.out _ (by first|assumption |exact Below.refl _ _)).mono ?_;rintro e w1 ⟨rfl,hb1⟩) |(go_at_call 274;refine(HX.out _ (by assumption)).mono ?_;rintro e w3 (⟨p,er,hr,rfl,hF⟩ |⟨x3,s3,V3,hr3,rfl,hz3,hF3⟩)<;>first|replace hr3:=hid hr3 |replace hr:=hid hr) |(go_at_call 273;refine((mg hz3 x3).mono (λ_ _ q=>((Rs.step (HK.out.1) hr3.out) :)▸q)).mono ?_;rintro e w9 (⟨p,er,hr,rfl,hF⟩ |⟨x9,s9,V9,hr9,rfl,hz9,hF9⟩)<;>first|replace hr9:=hid hr9 |replace hr:=hid hr))
 ·exact⟨rfl,.inl (ah (Fo.below hb1) (Rs.step_no (HK.out.1) hr.out) hF)⟩
 ·exact⟨rfl,.inl (ah ((Fo.below hb1).trans (hF3)) (hr.out) hF)⟩
 ·go_ret
  exact .inr ⟨x9,s9,V9,hr9.out,rfl,hz9,((Fo.below hb1).trans (hF3)).trans hF9⟩
theorem Ji {X:Nat->Prop}{w:World}{base g c:Nat}{A:Option Addr}{ts:List Tok}{V:Value}{s:St}{f:Nat}(hI:∀f',f'<=f->Rz ts (run ts f'))(h:Pz X w base g A c ts V s)(q0:¬(ai ts s).k=1)(q1:¬(ai ts s).s=sJ)(q2:¬(ai ts s).s=Fa)(q3:¬(ai ts s).s=lm)(q4:¬(ai ts s).s=jb)(q5:(ai ts s).s=l_)(hne:aK ts (run ts f) s ≠ .out):Calls Tryz.prog 241 #[.pointer (some ⟨g,0,none⟩)] w (az X base g A c ts V w (aK ts (run ts f) s)):=by
 have hk:Nk s 0 (aK ts (run ts f) s):=ik ts (bg ts f) s;obtain⟨R,HR⟩:∃R,R=aK ts (run ts f) s:=⟨_,rfl⟩;rw[<- HR]at hk hne |-;replace HR:R=(fe ts (run ts f) s).bind λv s=>dL ts v s:=HR.trans (by unfold aK;simp only;rw[if_neg q0,if_neg q1,if_neg q2,if_neg q3,if_neg q4,if_pos q5])
 have HK:=hid (And.intro HR (And.intro hne (And.intro hk (And.intro h.hn hI))));have hf0:=dw (ai ts s);have hf2:=aU (ai ts s);have hf3:=aM (ai ts s);have HC:=hid (λw' (q:Below w.heap.size w w')=>(aZ (h.below q)).mono (λe w'' r=>(⟨r.1,bt q r.2⟩:e=.returned (aJ (ai ts s))/\Below w.heap.size w w'')));have d1:(((ai ts s).k:Int)==1)=false:=by rw[beq_eq_false_iff_ne];omega
 have e1:((bs (ai ts s).s).toList==[111,117,116])=false:=by rw[aj,beq_eq_false_iff_ne];exact q1
 have e2:((bs (ai ts s).s).toList==[105,102])=false:=by rw[aj,beq_eq_false_iff_ne];exact q2
 have e3:((bs (ai ts s).s).toList==[119,104,105,108,101])=false:=by rw[aj,beq_eq_false_iff_ne];exact q3
 have e4:((bs (ai ts s).s).toList==[99,97,108,108])=false:=by rw[aj,beq_eq_false_iff_ne];exact q4
 have e5:((bs (ai ts s).s).toList==[114,101,116,117,114,110])=true:=by rw[aj,beq_iff_eq];exact q5
 have HX:=hid (λw' (q:Below w.heap.size w w')=>Dp hI (h.below q) (by rw[q5];decide) (Rs.step_in HR hne));generalize aJ (ai ts s)=tv at *
 generalize bs (ai ts s).s=ss at *
 generalize ((ai ts s).k:Int)=kk at *
 generalize ((ai ts s).p:Int)=pp at *
 clear HR hk hne hI h q0 q1 q2 q3 q4 q5;go_enter Tryz.func241,Tryz.ntmps241
 go_wp2_with (first|(go_at_call 167;refine(HC.out _ (by first|assumption |exact Below.refl _ _)).mono ?_;rintro e w1 ⟨rfl,hb1⟩) |(go_at_call 275;refine(HX.out _ (by assumption)).mono ?_;rintro e w3 (⟨p,er,hr,rfl,hF⟩ |⟨x3,s3,V3,hr3,rfl,hz3,hF3⟩)<;>first|replace hr3:=hid hr3 |replace hr:=hid hr) |(go_at_call 273;refine((mg hz3 x3).mono (λ_ _ q=>((Rs.step (HK.out.1) hr3.out) :)▸q)).mono ?_;rintro e w9 (⟨p,er,hr,rfl,hF⟩ |⟨x9,s9,V9,hr9,rfl,hz9,hF9⟩)<;>first|replace hr9:=hid hr9 |replace hr:=hid hr))
 ·exact⟨rfl,.inl (ah (Fo.below hb1) (Rs.step_no (HK.out.1) hr.out) hF)⟩
 ·exact⟨rfl,.inl (ah ((Fo.below hb1).trans (hF3)) (hr.out) hF)⟩
 ·go_ret
  exact .inr ⟨x9,s9,V9,hr9.out,rfl,hz9,((Fo.below hb1).trans (hF3)).trans hF9⟩
theorem Jj {X:Nat->Prop}{w:World}{base g c:Nat}{A:Option Addr}{ts:List Tok}{V:Value}{s:St}{f:Nat}(hI:∀f',f'<=f->Rz ts (run ts f'))(h:Pz X w base g A c ts V s)(q0:¬(ai ts s).k=1)(q1:¬(ai ts s).s=sJ)(q2:¬(ai ts s).s=Fa)(q3:¬(ai ts s).s=lm)(q4:¬(ai ts s).s=jb)(q5:¬(ai ts s).s=l_)(q6:(ai ts s).s=qP)(hne:aK ts (run ts f) s ≠ .out):Calls Tryz.prog 241 #[.pointer (some ⟨g,0,none⟩)] w (az X base g A c ts V w (aK ts (run ts f) s)):=by
 have hk:Nk s 0 (aK ts (run ts f) s):=ik ts (bg ts f) s;obtain⟨R,HR⟩:∃R,R=aK ts (run ts f) s:=⟨_,rfl⟩;rw[<- HR]at hk hne |-;replace HR:R=(bT (run ts f) (ax s)).bind λv s2=>(bX 15 0 (ai ts s).p [] v s2).bind λv s=>dL ts v s:=HR.trans (by unfold aK;simp only;rw[if_neg q0,if_neg q1,if_neg q2,if_neg q3,if_neg q4,if_neg q5,if_pos q6];unfold lw;simp only;rw[Rs.assoc])
 have HK:=hid (And.intro HR (And.intro hne (And.intro hk (And.intro h.hn hI))));have hf0:=dw (ai ts s);have hf2:=aU (ai ts s);have hf3:=aM (ai ts s);have HC:=hid (λw' (q:Below w.heap.size w w')=>(aZ (h.below q)).mono (λe w'' r=>(⟨r.1,bt q r.2⟩:e=.returned (aJ (ai ts s))/\Below w.heap.size w w'')));have d1:(((ai ts s).k:Int)==1)=false:=by rw[beq_eq_false_iff_ne];omega
 have e1:((bs (ai ts s).s).toList==[111,117,116])=false:=by rw[aj,beq_eq_false_iff_ne];exact q1
 have e2:((bs (ai ts s).s).toList==[105,102])=false:=by rw[aj,beq_eq_false_iff_ne];exact q2
 have e3:((bs (ai ts s).s).toList==[119,104,105,108,101])=false:=by rw[aj,beq_eq_false_iff_ne];exact q3
 have e4:((bs (ai ts s).s).toList==[99,97,108,108])=false:=by rw[aj,beq_eq_false_iff_ne];exact q4
 have e5:((bs (ai ts s).s).toList==[114,101,116,117,114,110])=false:=by rw[aj,beq_eq_false_iff_ne];exact q5
 have e6:((bs (ai ts s).s).toList==[116,104,114,111,119])=true:=by rw[aj,beq_iff_eq];exact q6
 have HT:=hid (λw' (q:Below w.heap.size w w')=>eG (h.below q) (.inr (by rw[q6];decide)));have HA:=hid (λw' V' (s':St) (q:Pz X w' base g A c ts V' s') (hsl:s'.nd.length+1<=s'.nx) x1=>I1 q 15 0 ((ai ts s).p:Int) [] none 0 0 x1 hsl);generalize aJ (ai ts s)=tv at *
 generalize bs (ai ts s).s=ss at *
 generalize ((ai ts s).k:Int)=kk at *
 generalize ((ai ts s).p:Int)=pp at *
 clear HR hk hne hI h q0 q1 q2 q3 q4 q5 q6;go_enter Tryz.func241,Tryz.ntmps241
 go_wp2_with (first|(go_at_call 167;refine(HC.out _ (by first|assumption |exact Below.refl _ _)).mono ?_;rintro e w1 ⟨rfl,hb1⟩) |(go_at_call 164;refine(HT.out _ (by assumption)).mono ?_;rintro e w2 ⟨rfl,hz2,hF2⟩) |(go_at_call 138;refine(gZ (HK.out.2.2.2.2 f (Nat.le_refl _)) hz2 (Rs.step_in (HK.out.1) HK.out.2.1)).mono ?_;rintro e w3 (⟨p,er,hr,rfl,hF⟩ |⟨x3,s3,V3,hr3,rfl,hz3,hF3⟩)<;>first|replace hr3:=hid hr3 |replace hr:=hid hr) |(go_at_call 106;refine(HA.out _ _ _ hz3 (by have b:=((dN (bg ts f) _ _ _ hr3.out).1).1;have c1:(ax s).nd=s.nd:=rfl;have c2:(ax s).nx=s.nx+1:=rfl;have d:=HK.out.2.2.2.1;rw[c1,c2]at b;omega) x3).mono ?_;rintro e w4 (⟨p,er,hr,rfl,hF⟩ |⟨x4,s4,V4,hr4,rfl,hz4,hF4⟩)<;>first|replace hr4:=hid hr4 |replace hr:=hid hr) |(go_at_call 273;refine((mg hz4 x4).mono (λ_ _ q=>((Rs.step (Rs.step (HK.out.1) hr3.out) hr4.out) :)▸q)).mono ?_;rintro e w9 (⟨p,er,hr,rfl,hF⟩ |⟨x9,s9,V9,hr9,rfl,hz9,hF9⟩)<;>first|replace hr9:=hid hr9 |replace hr:=hid hr))
 ·exact⟨rfl,.inl (ah ((Fo.below hb1).trans (hF2)) (Rs.step_no (HK.out.1) hr.out) hF)⟩
 ·exact⟨rfl,.inl (ah (((Fo.below hb1).trans (hF2)).trans (hF3)) (Rs.step_no (Rs.step (HK.out.1) hr3.out) hr.out) hF)⟩
 ·exact⟨rfl,.inl (ah ((((Fo.below hb1).trans (hF2)).trans (hF3)).trans (hF4)) (hr.out) hF)⟩
 ·go_ret
  exact .inr ⟨x9,s9,V9,hr9.out,rfl,hz9,((((Fo.below hb1).trans (hF2)).trans (hF3)).trans (hF4)).trans hF9⟩
theorem Jk {X:Nat->Prop}{w:World}{base g c:Nat}{A:Option Addr}{ts:List Tok}{V:Value}{s:St}{f:Nat}(hI:∀f',f'<=f->Rz ts (run ts f'))(h:Pz X w base g A c ts V s)(q0:¬(ai ts s).k=1)(q1:¬(ai ts s).s=sJ)(q2:¬(ai ts s).s=Fa)(q3:¬(ai ts s).s=lm)(q4:¬(ai ts s).s=jb)(q5:¬(ai ts s).s=l_)(q6:¬(ai ts s).s=qP)(q7:(ai ts s).s=Fb)(hne:aK ts (run ts f) s ≠ .out):Calls Tryz.prog 241 #[.pointer (some ⟨g,0,none⟩)] w (az X base g A c ts V w (aK ts (run ts f) s)):=by
 have hk:Nk s 0 (aK ts (run ts f) s):=ik ts (bg ts f) s;obtain⟨R,HR⟩:∃R,R=aK ts (run ts f) s:=⟨_,rfl⟩;rw[<- HR]at hk hne |-;replace HR:R=o_ ts (run ts f) s:=HR.trans (by unfold aK;simp only;rw[if_neg q0,if_neg q1,if_neg q2,if_neg q3,if_neg q4,if_neg q5,if_neg q6,if_pos q7]);have HK:=hid (And.intro HR (And.intro hne (And.intro hk (And.intro h.hn hI))));have hf0:=dw (ai ts s);have hf2:=aU (ai ts s);have hf3:=aM (ai ts s);have HC:=hid (λw' (q:Below w.heap.size w w')=>(aZ (h.below q)).mono (λe w'' r=>(⟨r.1,bt q r.2⟩:e=.returned (aJ (ai ts s))/\Below w.heap.size w w'')));have d1:(((ai ts s).k:Int)==1)=false:=by rw[beq_eq_false_iff_ne];omega
 have e1:((bs (ai ts s).s).toList==[111,117,116])=false:=by rw[aj,beq_eq_false_iff_ne];exact q1
 have e2:((bs (ai ts s).s).toList==[105,102])=false:=by rw[aj,beq_eq_false_iff_ne];exact q2
 have e3:((bs (ai ts s).s).toList==[119,104,105,108,101])=false:=by rw[aj,beq_eq_false_iff_ne];exact q3
 have e4:((bs (ai ts s).s).toList==[99,97,108,108])=false:=by rw[aj,beq_eq_false_iff_ne];exact q4
 have e5:((bs (ai ts s).s).toList==[114,101,116,117,114,110])=false:=by rw[aj,beq_eq_false_iff_ne];exact q5
 have e6:((bs (ai ts s).s).toList==[116,104,114,111,119])=false:=by rw[aj,beq_eq_false_iff_ne];exact q6
 have e7:((bs (ai ts s).s).toList==[116,114,121])=true:=by rw[aj,beq_iff_eq];exact q7
 have HX:=hid (λw' (q:Below w.heap.size w w')=>AP hI (h.below q) (by rw[q7];decide) (by rw[<- HR];exact hne));rw[<- HR]at HX;generalize aJ (ai ts s)=tv at *
 generalize bs (ai ts s).s=ss at *
 generalize ((ai ts s).k:Int)=kk at *
 generalize ((ai ts s).p:Int)=pp at *
 clear HR hk hne hI h q0 q1 q2 q3 q4 q5 q6 q7;go_enter Tryz.func241,Tryz.ntmps241
 go_wp2_with (first|(go_at_call 167;refine(HC.out _ (by first|assumption |exact Below.refl _ _)).mono ?_;rintro e w1 ⟨rfl,hb1⟩) |(go_at_call 276;refine(HX.out _ (by assumption)).mono ?_;rintro e w9 (⟨p,er,hr,rfl,hF⟩ |⟨x9,s9,V9,hr9,rfl,hz9,hF9⟩)<;>first|replace hr9:=hid hr9 |replace hr:=hid hr))
 ·exact⟨rfl,.inl (ah (Fo.below hb1) (hr.out) hF)⟩
 ·go_ret
  exact .inr ⟨x9,s9,V9,hr9.out,rfl,hz9,(Fo.below hb1).trans hF9⟩
theorem Jl {X:Nat->Prop}{w:World}{base g c:Nat}{A:Option Addr}{ts:List Tok}{V:Value}{s:St}{f:Nat}(hI:∀f',f'<=f->Rz ts (run ts f'))(h:Pz X w base g A c ts V s)(q0:¬(ai ts s).k=1)(q1:¬(ai ts s).s=sJ)(q2:¬(ai ts s).s=Fa)(q3:¬(ai ts s).s=lm)(q4:¬(ai ts s).s=jb)(q5:¬(ai ts s).s=l_)(q6:¬(ai ts s).s=qP)(q7:¬(ai ts s).s=Fb)(hne:aK ts (run ts f) s ≠ .out):Calls Tryz.prog 241 #[.pointer (some ⟨g,0,none⟩)] w (az X base g A c ts V w (aK ts (run ts f) s)):=by
 have hk:Nk s 0 (aK ts (run ts f) s):=ik ts (bg ts f) s;obtain⟨R,HR⟩:∃R,R=aK ts (run ts f) s:=⟨_,rfl⟩;rw[<- HR]at hk hne |-;replace HR:R=.no (ai ts s).p 2:=HR.trans (by unfold aK;simp only;rw[if_neg q0,if_neg q1,if_neg q2,if_neg q3,if_neg q4,if_neg q5,if_neg q6,if_neg q7]);have HK:=hid (And.intro HR (And.intro hne (And.intro hk (And.intro h.hn hI))));have hf0:=dw (ai ts s);have hf2:=aU (ai ts s);have hf3:=aM (ai ts s);have HC:=hid (λw' (q:Below w.heap.size w w')=>(aZ (h.below q)).mono (λe w'' r=>(⟨r.1,bt q r.2⟩:e=.returned (aJ (ai ts s))/\Below w.heap.size w w'')));have d1:(((ai ts s).k:Int)==1)=false:=by rw[beq_eq_false_iff_ne];omega
 have e1:((bs (ai ts s).s).toList==[111,117,116])=false:=by rw[aj,beq_eq_false_iff_ne];exact q1
 have e2:((bs (ai ts s).s).toList==[105,102])=false:=by rw[aj,beq_eq_false_iff_ne];exact q2
 have e3:((bs (ai ts s).s).toList==[119,104,105,108,101])=false:=by rw[aj,beq_eq_false_iff_ne];exact q3
 have e4:((bs (ai ts s).s).toList==[99,97,108,108])=false:=by rw[aj,beq_eq_false_iff_ne];exact q4
 have e5:((bs (ai ts s).s).toList==[114,101,116,117,114,110])=false:=by rw[aj,beq_eq_false_iff_ne];exact q5
 have e6:((bs (ai ts s).s).toList==[116,104,114,111,119])=false:=by rw[aj,beq_eq_false_iff_ne];exact q6
 have e7:((bs (ai ts s).s).toList==[116,114,121])=false:=by rw[aj,beq_eq_false_iff_ne];exact q7
 have HX:=hid (λw' (q:Below w.heap.size w w')=>wB (h.below q) 2);generalize (ai ts s).p=pp at *
 generalize aJ (ai ts s)=tv at *
 generalize bs (ai ts s).s=ss at *
 generalize ((ai ts s).k:Int)=kk at *
 clear HR hk hne hI h q0 q1 q2 q3 q4 q5 q6 q7;go_enter Tryz.func241,Tryz.ntmps241
 go_wp2_with (first|(go_at_call 167;refine(HC.out _ (by first|assumption |exact Below.refl _ _)).mono ?_;rintro e w1 ⟨rfl,hb1⟩) |(go_at_call 174;refine(HX.out _ (by assumption)).mono ?_;rintro e w2 ⟨rfl,hb2⟩));exact⟨rfl,.inl ⟨pp,2,HK.out.1,rfl,((Fo.below hb1).trans (Fo.below (V:=V) hb2)).fr⟩⟩
theorem Jm {X:Nat->Prop}{w:World}{base g c:Nat}{A:Option Addr}{ts:List Tok}{V:Value}{s:St}{f:Nat}(hI:∀f',f'<=f->Rz ts (run ts f'))(h:Pz X w base g A c ts V s)(hne:aK ts (run ts f) s ≠ .out):Calls Tryz.prog 241 #[.pointer (some ⟨g,0,none⟩)] w (az X base g A c ts V w (aK ts (run ts f) s)):=by
 by_cases q0:(ai ts s).k=1
 ·exact Jd hI h q0 hne
 by_cases q1:(ai ts s).s=sJ
 ·exact Je hI h q0 q1 hne
 by_cases q2:(ai ts s).s=Fa
 ·exact Jf hI h q0 q1 q2 hne
 by_cases q3:(ai ts s).s=lm
 ·exact Jg hI h q0 q1 q2 q3 hne
 by_cases q4:(ai ts s).s=jb
 ·exact Jh hI h q0 q1 q2 q3 q4 hne
 by_cases q5:(ai ts s).s=l_
 ·exact Ji hI h q0 q1 q2 q3 q4 q5 hne
 by_cases q6:(ai ts s).s=qP
 ·exact Jj hI h q0 q1 q2 q3 q4 q5 q6 hne
 by_cases q7:(ai ts s).s=Fb
 ·exact Jk hI h q0 q1 q2 q3 q4 q5 q6 q7 hne
 exact Jl hI h q0 q1 q2 q3 q4 q5 q6 q7 hne
end
end Go.Proofs.YteecfjhjllajlaaGreatDoor
