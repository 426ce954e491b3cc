/- PROVED here: parts Ps of the claim. No condition but those in each theorem's own head. -/
import Derived.Test.YteecfjhjllajlaaGreatDoorH10
namespace Go.Proofs.YteecfjhjllajlaaGreatDoor
section
set_option maxHeartbeats 1500000
set_option maxRecDepth 100000
open Go Go.RowKit
open Tr (Bx heap1 bt gen_world ret_int ret_bool cell_same)
theorem una_0 {X:Nat→Prop}{w:World}{base g c:Nat}{A:Option Addr}{ts:List Tok}{V:Value}{s:St}{rec:Job→St→Rs}(hZ:Rz ts rec)(h:Pz X w base g A c ts V s)(q0:(tkn ts s).k=1)(hne:unaM ts rec s ≠ .out):Calls Tryz.prog 253 #[.pointer (some ⟨g,0,none⟩)] w (IPost X base g A c ts V w (unaM ts rec s)):=by
 have hk:Nk s 0 (unaM ts rec s):=nk_una ts hZ.nk s
 obtain⟨R,HR⟩:∃R,R=unaM ts rec s:=⟨_,rfl⟩
 rw[← HR]at hk hne ⊢
 replace HR:R=variM ts rec s:=HR.trans (by unfold unaM;simp only;rw[if_pos q0])
 have HI:=Lib.hid (fun w' (q:Below w.heap.size w w')=>variable_z hZ (h.below q) (by rw[← HR];exact hne))
 rw[← HR]at HI
 have d1:(((tkn ts s).k:Int)==1)=true:=by rw[beq_iff_eq];omega
 have HC:=Lib.hid (token_z h)
 have HZ:=Lib.hid hZ
 have HK:=Lib.hid (And.intro HR (And.intro hne (And.intro hk h.hn)))
 have H0:=Lib.hid h
 generalize tkn ts s=t at *
 unfold tokV at HC
 clear HR hne hk h hZ q0
 go_enter Tryz.func253,Tryz.ntmps253
 go_wp2_with (first|(go_at_call 167;refine HC.out.mono ?_;rintro e w1 ⟨rfl,hb1⟩) |(go_at_call 291;refine(HI.out _ (bt hb1 (heap1 _ _))).mono ?_;rintro e w3 (⟨p,er,hr,rfl,hF⟩ |⟨x,s3,V3,hr,rfl,hz3,hF3⟩)<;>replace hr:=Lib.hid hr))
 ·exact⟨rfl,.inl (np_after (Fo.below (bt hb1 (heap1 _ _))) hr.out hF)⟩
 ·go_ret
  exact .inr ⟨x,s3,V3,hr.out,rfl,hz3,(Fo.below (bt hb1 (heap1 _ _))).trans hF3⟩
theorem una_1 {X:Nat→Prop}{w:World}{base g c:Nat}{A:Option Addr}{ts:List Tok}{V:Value}{s:St}{rec:Job→St→Rs}(hZ:Rz ts rec)(h:Pz X w base g A c ts V s)(q0:¬(tkn ts s).k=1)(q1:(tkn ts s).k=2)(hne:unaM ts rec s ≠ .out):Calls Tryz.prog 253 #[.pointer (some ⟨g,0,none⟩)] w (IPost X base g A c ts V w (unaM ts rec s)):=by
 have hk:Nk s 0 (unaM ts rec s):=nk_una ts hZ.nk s
 obtain⟨R,HR⟩:∃R,R=unaM ts rec s:=⟨_,rfl⟩
 rw[← HR]at hk hne ⊢
 replace HR:R=addM 20 (tkn ts s).n (tkn ts s).p [] [] (takeS s):=HR.trans (by unfold unaM;simp only;rw[if_neg q0,if_pos q1])
 have HT:=Lib.hid (fun w' (q:Below w.heap.size w w')=>take_z (h.below q) (.inl (by rw[q1];decide)))
 have d1:(((tkn ts s).k:Int)==1)=false:=by rw[beq_eq_false_iff_ne];omega
 have d2:(((tkn ts s).k:Int)==2)=true:=by rw[beq_iff_eq];omega
 have HC:=Lib.hid (token_z h)
 have HZ:=Lib.hid hZ
 have HK:=Lib.hid (And.intro HR (And.intro hne (And.intro hk h.hn)))
 have H0:=Lib.hid h
 generalize tkn ts s=t at *
 unfold tokV at HC
 unfold tokV at HT
 clear HR hne hk h hZ q0 q1
 go_enter Tryz.func253,Tryz.ntmps253
 go_wp2_with (first|(go_at_call 167;refine HC.out.mono ?_;rintro e w1 ⟨rfl,hb1⟩) |(go_at_call 164;refine(HT.out _ (bt hb1 (heap1 _ _))).mono ?_))
 rintro e w2 ⟨rfl,hz2,hF2⟩
 have hT:=((H0.out.below hb1).box (l:=[.int .i64 (t.k:Int),.int .i64 t.n,.int .i64 (t.p:Int),.string (bs t.s)]) hF2).1
 have t1:=(hT.cell 1).trans rfl
 have t2:=(hT.cell 2).trans rfl
 have HA:=Lib.hid (add_z hz2 20 t.n (t.p:Int) [] none none 0 0 0 0 [] (kd_nil _ _) ⟨rfl,Nat.le_refl _⟩ HK.out.1 HK.out.2.2.1 HK.out.2.2.2)
 have HF:=Lib.hid ((Fo.below (V:=V) (bt hb1 (heap1 _ _))).trans hF2)
 clear hT hz2 hF2
 go_wp2_with (go_at_call 106;refine(HA.out).mono ?_;rintro e w3 (⟨p,er,hr,rfl,hF⟩ |⟨x,s3,V3,hr,rfl,hz3,hF3⟩)<;>replace hr:=Lib.hid hr)
 ·exact⟨rfl,.inl (np_after HF.out hr.out hF)⟩
 ·go_ret
  exact .inr ⟨x,s3,V3,hr.out,rfl,hz3,HF.out.trans hF3⟩
theorem una_2a {X:Nat→Prop}{w:World}{base g c:Nat}{A:Option Addr}{ts:List Tok}{V:Value}{s:St}{rec:Job→St→Rs}(hZ:Rz ts rec)(h:Pz X w base g A c ts V s)(q0:¬(tkn ts s).k=1)(q1:¬(tkn ts s).k=2)(q2:((tkn ts s).s=[45]∨(tkn ts s).s=[33]))(qq:(tkn ts s).s=[45])(hne:unaM ts rec s ≠ .out):Calls Tryz.prog 253 #[.pointer (some ⟨g,0,none⟩)] w (IPost X base g A c ts V w (unaM ts rec s)):=by
 have hk:Nk s 0 (unaM ts rec s):=nk_una ts hZ.nk s
 obtain⟨R,HR⟩:∃R,R=unaM ts rec s:=⟨_,rfl⟩
 rw[← HR]at hk hne ⊢
 replace HR:R=signM ts rec s:=HR.trans (by unfold unaM;simp only;rw[if_neg q0,if_neg q1,if_pos q2])
 have HI:=Lib.hid (fun w' (q:Below w.heap.size w w')=>signed_z hZ (h.below q) (by rw[qq];decide) (by rw[← HR];exact hne))
 rw[← HR]at HI
 have d1:(((tkn ts s).k:Int)==1)=false:=by rw[beq_eq_false_iff_ne];omega
 have d2:(((tkn ts s).k:Int)==2)=false:=by rw[beq_eq_false_iff_ne];omega
 have e1:((bs (tkn ts s).s).toList==[45])=true:=by rw[bs_toList,beq_iff_eq];exact qq
 have HC:=Lib.hid (token_z h)
 have HZ:=Lib.hid hZ
 have HK:=Lib.hid (And.intro HR (And.intro hne (And.intro hk h.hn)))
 have H0:=Lib.hid h
 generalize tkn ts s=t at *
 unfold tokV at HC
 clear HR hne hk h hZ q0 q1 q2 qq
 go_enter Tryz.func253,Tryz.ntmps253
 go_wp2_with (first|(go_at_call 167;refine HC.out.mono ?_;rintro e w1 ⟨rfl,hb1⟩) |(go_at_call 292;refine(HI.out _ (bt hb1 (heap1 _ _))).mono ?_;rintro e w3 (⟨p,er,hr,rfl,hF⟩ |⟨x,s3,V3,hr,rfl,hz3,hF3⟩)<;>replace hr:=Lib.hid hr))
 ·exact⟨rfl,.inl (np_after (Fo.below (bt hb1 (heap1 _ _))) hr.out hF)⟩
 ·go_ret
  exact .inr ⟨x,s3,V3,hr.out,rfl,hz3,(Fo.below (bt hb1 (heap1 _ _))).trans hF3⟩
theorem una_2b {X:Nat→Prop}{w:World}{base g c:Nat}{A:Option Addr}{ts:List Tok}{V:Value}{s:St}{rec:Job→St→Rs}(hZ:Rz ts rec)(h:Pz X w base g A c ts V s)(q0:¬(tkn ts s).k=1)(q1:¬(tkn ts s).k=2)(q2:((tkn ts s).s=[45]∨(tkn ts s).s=[33]))(qq:(tkn ts s).s=[33])(hne:unaM ts rec s ≠ .out):Calls Tryz.prog 253 #[.pointer (some ⟨g,0,none⟩)] w (IPost X base g A c ts V w (unaM ts rec s)):=by
 have hk:Nk s 0 (unaM ts rec s):=nk_una ts hZ.nk s
 obtain⟨R,HR⟩:∃R,R=unaM ts rec s:=⟨_,rfl⟩
 rw[← HR]at hk hne ⊢
 replace HR:R=signM ts rec s:=HR.trans (by unfold unaM;simp only;rw[if_neg q0,if_neg q1,if_pos q2])
 have HI:=Lib.hid (fun w' (q:Below w.heap.size w w')=>signed_z hZ (h.below q) (by rw[qq];decide) (by rw[← HR];exact hne))
 rw[← HR]at HI
 have d1:(((tkn ts s).k:Int)==1)=false:=by rw[beq_eq_false_iff_ne];omega
 have d2:(((tkn ts s).k:Int)==2)=false:=by rw[beq_eq_false_iff_ne];omega
 have e1:((bs (tkn ts s).s).toList==[45])=false:=by rw[bs_toList,beq_eq_false_iff_ne,qq];decide
 have e2:((bs (tkn ts s).s).toList==[33])=true:=by rw[bs_toList,beq_iff_eq];exact qq
 have HC:=Lib.hid (token_z h)
 have HZ:=Lib.hid hZ
 have HK:=Lib.hid (And.intro HR (And.intro hne (And.intro hk h.hn)))
 have H0:=Lib.hid h
 generalize tkn ts s=t at *
 unfold tokV at HC
 clear HR hne hk h hZ q0 q1 q2 qq
 go_enter Tryz.func253,Tryz.ntmps253
 go_wp2_with (first|(go_at_call 167;refine HC.out.mono ?_;rintro e w1 ⟨rfl,hb1⟩) |(go_at_call 292;refine(HI.out _ (bt hb1 (heap1 _ _))).mono ?_;rintro e w3 (⟨p,er,hr,rfl,hF⟩ |⟨x,s3,V3,hr,rfl,hz3,hF3⟩)<;>replace hr:=Lib.hid hr))
 ·exact⟨rfl,.inl (np_after (Fo.below (bt hb1 (heap1 _ _))) hr.out hF)⟩
 ·go_ret
  exact .inr ⟨x,s3,V3,hr.out,rfl,hz3,(Fo.below (bt hb1 (heap1 _ _))).trans hF3⟩
theorem una_3a {X:Nat→Prop}{w:World}{base g c:Nat}{A:Option Addr}{ts:List Tok}{V:Value}{s:St}{rec:Job→St→Rs}(hZ:Rz ts rec)(h:Pz X w base g A c ts V s)(q0:¬(tkn ts s).k=1)(q1:¬(tkn ts s).k=2)(q2:¬((tkn ts s).s=[45]∨(tkn ts s).s=[33]))(q3:((tkn ts s).s=wTrue∨(tkn ts s).s=wFalse))(qq:(tkn ts s).s=wTrue)(hne:unaM ts rec s ≠ .out):Calls Tryz.prog 253 #[.pointer (some ⟨g,0,none⟩)] w (IPost X base g A c ts V w (unaM ts rec s)):=by
 have hk:Nk s 0 (unaM ts rec s):=nk_una ts hZ.nk s
 obtain⟨R,HR⟩:∃R,R=unaM ts rec s:=⟨_,rfl⟩
 rw[← HR]at hk hne ⊢
 replace HR:R=addM 21 (if (tkn ts s).s=wTrue then 1 else 0) (tkn ts s).p [] [] (takeS s):=HR.trans (by unfold unaM;simp only;rw[if_neg q0,if_neg q1,if_neg q2,if_pos q3])
 have HI:=Lib.hid (fun w' (q:Below w.heap.size w w')=>truth_z (h.below q) (by rw[qq];decide))
 rw[← HR]at HI
 have d1:(((tkn ts s).k:Int)==1)=false:=by rw[beq_eq_false_iff_ne];omega
 have d2:(((tkn ts s).k:Int)==2)=false:=by rw[beq_eq_false_iff_ne];omega
 have e1:((bs (tkn ts s).s).toList==[45])=false:=by rw[bs_toList,beq_eq_false_iff_ne];exact fun e=>q2 (.inl e)
 have e2:((bs (tkn ts s).s).toList==[33])=false:=by rw[bs_toList,beq_eq_false_iff_ne];exact fun e=>q2 (.inr e)
 have e3:((bs (tkn ts s).s).toList==[116,114,117,101])=true:=by rw[bs_toList,beq_iff_eq];exact qq
 have HC:=Lib.hid (token_z h)
 have HZ:=Lib.hid hZ
 have HK:=Lib.hid (And.intro HR (And.intro hne (And.intro hk h.hn)))
 have H0:=Lib.hid h
 generalize tkn ts s=t at *
 unfold tokV at HC
 clear HR hne hk h hZ q0 q1 q2 q3 qq
 go_enter Tryz.func253,Tryz.ntmps253
 go_wp2_with (first|(go_at_call 167;refine HC.out.mono ?_;rintro e w1 ⟨rfl,hb1⟩) |(go_at_call 293;refine(HI.out _ (bt hb1 (heap1 _ _))).mono ?_;rintro e w3 (⟨p,er,hr,rfl,hF⟩ |⟨x,s3,V3,hr,rfl,hz3,hF3⟩)<;>replace hr:=Lib.hid hr))
 ·exact⟨rfl,.inl (np_after (Fo.below (bt hb1 (heap1 _ _))) hr.out hF)⟩
 ·go_ret
  exact .inr ⟨x,s3,V3,hr.out,rfl,hz3,(Fo.below (bt hb1 (heap1 _ _))).trans hF3⟩
theorem una_3b {X:Nat→Prop}{w:World}{base g c:Nat}{A:Option Addr}{ts:List Tok}{V:Value}{s:St}{rec:Job→St→Rs}(hZ:Rz ts rec)(h:Pz X w base g A c ts V s)(q0:¬(tkn ts s).k=1)(q1:¬(tkn ts s).k=2)(q2:¬((tkn ts s).s=[45]∨(tkn ts s).s=[33]))(q3:((tkn ts s).s=wTrue∨(tkn ts s).s=wFalse))(qq:(tkn ts s).s=wFalse)(hne:unaM ts rec s ≠ .out):Calls Tryz.prog 253 #[.pointer (some ⟨g,0,none⟩)] w (IPost X base g A c ts V w (unaM ts rec s)):=by
 have hk:Nk s 0 (unaM ts rec s):=nk_una ts hZ.nk s
 obtain⟨R,HR⟩:∃R,R=unaM ts rec s:=⟨_,rfl⟩
 rw[← HR]at hk hne ⊢
 replace HR:R=addM 21 (if (tkn ts s).s=wTrue then 1 else 0) (tkn ts s).p [] [] (takeS s):=HR.trans (by unfold unaM;simp only;rw[if_neg q0,if_neg q1,if_neg q2,if_pos q3])
 have HI:=Lib.hid (fun w' (q:Below w.heap.size w w')=>truth_z (h.below q) (by rw[qq];decide))
 rw[← HR]at HI
 have d1:(((tkn ts s).k:Int)==1)=false:=by rw[beq_eq_false_iff_ne];omega
 have d2:(((tkn ts s).k:Int)==2)=false:=by rw[beq_eq_false_iff_ne];omega
 have e1:((bs (tkn ts s).s).toList==[45])=false:=by rw[bs_toList,beq_eq_false_iff_ne];exact fun e=>q2 (.inl e)
 have e2:((bs (tkn ts s).s).toList==[33])=false:=by rw[bs_toList,beq_eq_false_iff_ne];exact fun e=>q2 (.inr e)
 have e3:((bs (tkn ts s).s).toList==[116,114,117,101])=false:=by rw[bs_toList,beq_eq_false_iff_ne,qq];decide
 have e4:((bs (tkn ts s).s).toList==[102,97,108,115,101])=true:=by rw[bs_toList,beq_iff_eq];exact qq
 have HC:=Lib.hid (token_z h)
 have HZ:=Lib.hid hZ
 have HK:=Lib.hid (And.intro HR (And.intro hne (And.intro hk h.hn)))
 have H0:=Lib.hid h
 generalize tkn ts s=t at *
 unfold tokV at HC
 clear HR hne hk h hZ q0 q1 q2 q3 qq
 go_enter Tryz.func253,Tryz.ntmps253
 go_wp2_with (first|(go_at_call 167;refine HC.out.mono ?_;rintro e w1 ⟨rfl,hb1⟩) |(go_at_call 293;refine(HI.out _ (bt hb1 (heap1 _ _))).mono ?_;rintro e w3 (⟨p,er,hr,rfl,hF⟩ |⟨x,s3,V3,hr,rfl,hz3,hF3⟩)<;>replace hr:=Lib.hid hr))
 ·exact⟨rfl,.inl (np_after (Fo.below (bt hb1 (heap1 _ _))) hr.out hF)⟩
 ·go_ret
  exact .inr ⟨x,s3,V3,hr.out,rfl,hz3,(Fo.below (bt hb1 (heap1 _ _))).trans hF3⟩
theorem una_4 {X:Nat→Prop}{w:World}{base g c:Nat}{A:Option Addr}{ts:List Tok}{V:Value}{s:St}{rec:Job→St→Rs}(hZ:Rz ts rec)(h:Pz X w base g A c ts V s)(q0:¬(tkn ts s).k=1)(q1:¬(tkn ts s).k=2)(q2:¬((tkn ts s).s=[45]∨(tkn ts s).s=[33]))(q3:¬((tkn ts s).s=wTrue∨(tkn ts s).s=wFalse))(q4:(tkn ts s).s=wLen)(hne:unaM ts rec s ≠ .out):Calls Tryz.prog 253 #[.pointer (some ⟨g,0,none⟩)] w (IPost X base g A c ts V w (unaM ts rec s)):=by
 have hk:Nk s 0 (unaM ts rec s):=nk_una ts hZ.nk s
 obtain⟨R,HR⟩:∃R,R=unaM ts rec s:=⟨_,rfl⟩
 rw[← HR]at hk hne ⊢
 replace HR:R=markM ts 24 s:=HR.trans (by unfold unaM;simp only;rw[if_neg q0,if_neg q1,if_neg q2,if_neg q3,if_pos q4])
 have HI:=Lib.hid (fun w' (q:Below w.heap.size w w')=>mark_z (h.below q) 24 (by rw[q4];decide))
 rw[← HR]at HI
 have d1:(((tkn ts s).k:Int)==1)=false:=by rw[beq_eq_false_iff_ne];omega
 have d2:(((tkn ts s).k:Int)==2)=false:=by rw[beq_eq_false_iff_ne];omega
 have e1:((bs (tkn ts s).s).toList==[45])=false:=by rw[bs_toList,beq_eq_false_iff_ne];exact fun e=>q2 (.inl e)
 have e2:((bs (tkn ts s).s).toList==[33])=false:=by rw[bs_toList,beq_eq_false_iff_ne];exact fun e=>q2 (.inr e)
 have e3:((bs (tkn ts s).s).toList==[116,114,117,101])=false:=by rw[bs_toList,beq_eq_false_iff_ne];exact fun e=>q3 (.inl e)
 have e4:((bs (tkn ts s).s).toList==[102,97,108,115,101])=false:=by rw[bs_toList,beq_eq_false_iff_ne];exact fun e=>q3 (.inr e)
 have e5:((bs (tkn ts s).s).toList==[108,101,110])=true:=by rw[bs_toList,beq_iff_eq];exact q4
 have HC:=Lib.hid (token_z h)
 have HZ:=Lib.hid hZ
 have HK:=Lib.hid (And.intro HR (And.intro hne (And.intro hk h.hn)))
 have H0:=Lib.hid h
 generalize tkn ts s=t at *
 unfold tokV at HC
 clear HR hne hk h hZ q0 q1 q2 q3 q4
 go_enter Tryz.func253,Tryz.ntmps253
 go_wp2_with (first|(go_at_call 167;refine HC.out.mono ?_;rintro e w1 ⟨rfl,hb1⟩) |(go_at_call 294;refine(HI.out _ (bt hb1 (heap1 _ _))).mono ?_;rintro e w3 (⟨p,er,hr,rfl,hF⟩ |⟨x,s3,V3,hr,rfl,hz3,hF3⟩)<;>replace hr:=Lib.hid hr))
 ·exact⟨rfl,.inl (np_after (Fo.below (bt hb1 (heap1 _ _))) hr.out hF)⟩
 ·go_ret
  exact .inr ⟨x,s3,V3,hr.out,rfl,hz3,(Fo.below (bt hb1 (heap1 _ _))).trans hF3⟩
theorem una_5 {X:Nat→Prop}{w:World}{base g c:Nat}{A:Option Addr}{ts:List Tok}{V:Value}{s:St}{rec:Job→St→Rs}(hZ:Rz ts rec)(h:Pz X w base g A c ts V s)(q0:¬(tkn ts s).k=1)(q1:¬(tkn ts s).k=2)(q2:¬((tkn ts s).s=[45]∨(tkn ts s).s=[33]))(q3:¬((tkn ts s).s=wTrue∨(tkn ts s).s=wFalse))(q4:¬(tkn ts s).s=wLen)(q5:(tkn ts s).s=[38])(hne:unaM ts rec s ≠ .out):Calls Tryz.prog 253 #[.pointer (some ⟨g,0,none⟩)] w (IPost X base g A c ts V w (unaM ts rec s)):=by
 have hk:Nk s 0 (unaM ts rec s):=nk_una ts hZ.nk s
 obtain⟨R,HR⟩:∃R,R=unaM ts rec s:=⟨_,rfl⟩
 rw[← HR]at hk hne ⊢
 replace HR:R=markM ts 25 s:=HR.trans (by unfold unaM;simp only;rw[if_neg q0,if_neg q1,if_neg q2,if_neg q3,if_neg q4,if_pos q5])
 have HI:=Lib.hid (fun w' (q:Below w.heap.size w w')=>mark_z (h.below q) 25 (by rw[q5];decide))
 rw[← HR]at HI
 have d1:(((tkn ts s).k:Int)==1)=false:=by rw[beq_eq_false_iff_ne];omega
 have d2:(((tkn ts s).k:Int)==2)=false:=by rw[beq_eq_false_iff_ne];omega
 have e1:((bs (tkn ts s).s).toList==[45])=false:=by rw[bs_toList,beq_eq_false_iff_ne];exact fun e=>q2 (.inl e)
 have e2:((bs (tkn ts s).s).toList==[33])=false:=by rw[bs_toList,beq_eq_false_iff_ne];exact fun e=>q2 (.inr e)
 have e3:((bs (tkn ts s).s).toList==[116,114,117,101])=false:=by rw[bs_toList,beq_eq_false_iff_ne];exact fun e=>q3 (.inl e)
 have e4:((bs (tkn ts s).s).toList==[102,97,108,115,101])=false:=by rw[bs_toList,beq_eq_false_iff_ne];exact fun e=>q3 (.inr e)
 have e5:((bs (tkn ts s).s).toList==[108,101,110])=false:=by rw[bs_toList,beq_eq_false_iff_ne];exact q4
 have e6:((bs (tkn ts s).s).toList==[38])=true:=by rw[bs_toList,beq_iff_eq];exact q5
 have HC:=Lib.hid (token_z h)
 have HZ:=Lib.hid hZ
 have HK:=Lib.hid (And.intro HR (And.intro hne (And.intro hk h.hn)))
 have H0:=Lib.hid h
 generalize tkn ts s=t at *
 unfold tokV at HC
 clear HR hne hk h hZ q0 q1 q2 q3 q4 q5
 go_enter Tryz.func253,Tryz.ntmps253
 go_wp2_with (first|(go_at_call 167;refine HC.out.mono ?_;rintro e w1 ⟨rfl,hb1⟩) |(go_at_call 294;refine(HI.out _ (bt hb1 (heap1 _ _))).mono ?_;rintro e w3 (⟨p,er,hr,rfl,hF⟩ |⟨x,s3,V3,hr,rfl,hz3,hF3⟩)<;>replace hr:=Lib.hid hr))
 ·exact⟨rfl,.inl (np_after (Fo.below (bt hb1 (heap1 _ _))) hr.out hF)⟩
 ·go_ret
  exact .inr ⟨x,s3,V3,hr.out,rfl,hz3,(Fo.below (bt hb1 (heap1 _ _))).trans hF3⟩
theorem una_6 {X:Nat→Prop}{w:World}{base g c:Nat}{A:Option Addr}{ts:List Tok}{V:Value}{s:St}{rec:Job→St→Rs}(hZ:Rz ts rec)(h:Pz X w base g A c ts V s)(q0:¬(tkn ts s).k=1)(q1:¬(tkn ts s).k=2)(q2:¬((tkn ts s).s=[45]∨(tkn ts s).s=[33]))(q3:¬((tkn ts s).s=wTrue∨(tkn ts s).s=wFalse))(q4:¬(tkn ts s).s=wLen)(q5:¬(tkn ts s).s=[38])(q6:(tkn ts s).s=[40])(hne:unaM ts rec s ≠ .out):Calls Tryz.prog 253 #[.pointer (some ⟨g,0,none⟩)] w (IPost X base g A c ts V w (unaM ts rec s)):=by
 have hk:Nk s 0 (unaM ts rec s):=nk_una ts hZ.nk s
 obtain⟨R,HR⟩:∃R,R=unaM ts rec s:=⟨_,rfl⟩
 rw[← HR]at hk hne ⊢
 replace HR:R=(begM ts [40] s).bind fun _ s=>(exprM rec s).bind fun v s=>(finM ts [41] s).bind fun _ s =>.ok v s:=HR.trans (by unfold unaM;simp only;rw[if_neg q0,if_neg q1,if_neg q2,if_neg q3,if_neg q4,if_neg q5,if_pos q6])
 have HB:=Lib.hid (fun w' (q:Below w.heap.size w w')=>begin_z (h.below q) [40] (by decide))
 have d1:(((tkn ts s).k:Int)==1)=false:=by rw[beq_eq_false_iff_ne];omega
 have d2:(((tkn ts s).k:Int)==2)=false:=by rw[beq_eq_false_iff_ne];omega
 have e1:((bs (tkn ts s).s).toList==[45])=false:=by rw[bs_toList,beq_eq_false_iff_ne];exact fun e=>q2 (.inl e)
 have e2:((bs (tkn ts s).s).toList==[33])=false:=by rw[bs_toList,beq_eq_false_iff_ne];exact fun e=>q2 (.inr e)
 have e3:((bs (tkn ts s).s).toList==[116,114,117,101])=false:=by rw[bs_toList,beq_eq_false_iff_ne];exact fun e=>q3 (.inl e)
 have e4:((bs (tkn ts s).s).toList==[102,97,108,115,101])=false:=by rw[bs_toList,beq_eq_false_iff_ne];exact fun e=>q3 (.inr e)
 have e5:((bs (tkn ts s).s).toList==[108,101,110])=false:=by rw[bs_toList,beq_eq_false_iff_ne];exact q4
 have e6:((bs (tkn ts s).s).toList==[38])=false:=by rw[bs_toList,beq_eq_false_iff_ne];exact q5
 have e7:((bs (tkn ts s).s).toList==[40])=true:=by rw[bs_toList,beq_iff_eq];exact q6
 have HC:=Lib.hid (token_z h)
 have HZ:=Lib.hid hZ
 have HK:=Lib.hid (And.intro HR (And.intro hne (And.intro hk h.hn)))
 have H0:=Lib.hid h
 generalize tkn ts s=t at *
 unfold tokV at HC
 clear HR hne hk h hZ q0 q1 q2 q3 q4 q5 q6
 go_enter Tryz.func253,Tryz.ntmps253
 go_wp2_with (first|(go_at_call 167;refine HC.out.mono ?_;rintro e w1 ⟨rfl,hb1⟩) |(go_at_call 172;refine(HB.out _ (bt hb1 (heap1 _ _))).mono ?_;rintro e w2 (⟨p,er,hr,rfl,hF⟩ |⟨s1,hr1,rfl,hz1,hF1⟩)<;>first|replace hr1:=Lib.hid hr1 |replace hr:=Lib.hid hr) |(go_at_call 138;refine(expr_z HZ.out hz1 (Rs.step_in (Rs.step HK.out.1 hr1.out) HK.out.2.1)).mono ?_;rintro e w3 (⟨p,er,hr,rfl,hF⟩ |⟨x,s2,V2,hr2,rfl,hz2,hF2⟩)<;>first|replace hr2:=Lib.hid hr2 |replace hr:=Lib.hid hr) |(go_at_call 239;refine(finish_z hz2 [41] (by decide) (by have a:=beg_op H0.out.ok (by decide) H0.out.px.nx hr1.out;have b:=expr_op HZ.out a.2.1 hr2.out;omega)).mono ?_;rintro e w4 (⟨p,er,hr,rfl,hF⟩ |⟨s3,hr3,rfl,hz3,hF3⟩)<;>first|replace hr3:=Lib.hid hr3 |replace hr:=Lib.hid hr))
 ·exact⟨rfl,.inl (np_after (Fo.below (bt hb1 (heap1 _ _))) (Rs.step_no HK.out.1 hr.out) hF)⟩
 ·exact⟨rfl,.inl (np_after ((Fo.below (bt hb1 (heap1 _ _))).trans hF1) (Rs.step_no (Rs.step HK.out.1 hr1.out) hr.out) hF)⟩
 ·exact⟨rfl,.inl (np_after (((Fo.below (bt hb1 (heap1 _ _))).trans hF1).trans hF2) (Rs.step_no (Rs.step (Rs.step HK.out.1 hr1.out) hr2.out) hr.out) hF)⟩
 ·go_ret
  exact .inr ⟨x,s3,V2,(Rs.step (Rs.step (Rs.step HK.out.1 hr1.out) hr2.out) hr3.out :),rfl,hz3,(((Fo.below (bt hb1 (heap1 _ _))).trans hF1).trans hF2).trans hF3⟩
theorem una_7 {X:Nat→Prop}{w:World}{base g c:Nat}{A:Option Addr}{ts:List Tok}{V:Value}{s:St}{rec:Job→St→Rs}(hZ:Rz ts rec)(h:Pz X w base g A c ts V s)(q0:¬(tkn ts s).k=1)(q1:¬(tkn ts s).k=2)(q2:¬((tkn ts s).s=[45]∨(tkn ts s).s=[33]))(q3:¬((tkn ts s).s=wTrue∨(tkn ts s).s=wFalse))(q4:¬(tkn ts s).s=wLen)(q5:¬(tkn ts s).s=[38])(q6:¬(tkn ts s).s=[40])(hne:unaM ts rec s ≠ .out):Calls Tryz.prog 253 #[.pointer (some ⟨g,0,none⟩)] w (IPost X base g A c ts V w (unaM ts rec s)):=by
 have hk:Nk s 0 (unaM ts rec s):=nk_una ts hZ.nk s
 obtain⟨R,HR⟩:∃R,R=unaM ts rec s:=⟨_,rfl⟩
 rw[← HR]at hk hne ⊢
 replace HR:R = .no (tkn ts s).p 2:=HR.trans (by unfold unaM;simp only;rw[if_neg q0,if_neg q1,if_neg q2,if_neg q3,if_neg q4,if_neg q5,if_neg q6])
 have HB:=Lib.hid (fun w' (q:Below w.heap.size w w')=>refuse_z (h.below q) 2)
 have d1:(((tkn ts s).k:Int)==1)=false:=by rw[beq_eq_false_iff_ne];omega
 have d2:(((tkn ts s).k:Int)==2)=false:=by rw[beq_eq_false_iff_ne];omega
 have e1:((bs (tkn ts s).s).toList==[45])=false:=by rw[bs_toList,beq_eq_false_iff_ne];exact fun e=>q2 (.inl e)
 have e2:((bs (tkn ts s).s).toList==[33])=false:=by rw[bs_toList,beq_eq_false_iff_ne];exact fun e=>q2 (.inr e)
 have e3:((bs (tkn ts s).s).toList==[116,114,117,101])=false:=by rw[bs_toList,beq_eq_false_iff_ne];exact fun e=>q3 (.inl e)
 have e4:((bs (tkn ts s).s).toList==[102,97,108,115,101])=false:=by rw[bs_toList,beq_eq_false_iff_ne];exact fun e=>q3 (.inr e)
 have e5:((bs (tkn ts s).s).toList==[108,101,110])=false:=by rw[bs_toList,beq_eq_false_iff_ne];exact q4
 have e6:((bs (tkn ts s).s).toList==[38])=false:=by rw[bs_toList,beq_eq_false_iff_ne];exact q5
 have e7:((bs (tkn ts s).s).toList==[40])=false:=by rw[bs_toList,beq_eq_false_iff_ne];exact q6
 have HC:=Lib.hid (token_z h)
 have HZ:=Lib.hid hZ
 have HK:=Lib.hid (And.intro HR (And.intro hne (And.intro hk h.hn)))
 have H0:=Lib.hid h
 generalize tkn ts s=t at *
 unfold tokV at HC
 clear HR hne hk h hZ q0 q1 q2 q3 q4 q5 q6
 go_enter Tryz.func253,Tryz.ntmps253
 go_wp2_with (first|(go_at_call 167;refine HC.out.mono ?_;rintro e w1 ⟨rfl,hb1⟩) |(go_at_call 174;refine(HB.out _ (bt hb1 (heap1 _ _))).mono ?_;rintro e w2 ⟨rfl,hb2⟩))
 exact⟨rfl,.inl ⟨t.p,2,HK.out.1,rfl,((Fo.below (bt hb1 (heap1 _ _))).trans (Fo.below (V:=V) hb2)).fr⟩⟩
theorem una_z {X:Nat→Prop}{w:World}{base g c:Nat}{A:Option Addr}{ts:List Tok}{V:Value}{s:St}{rec:Job→St→Rs}(hZ:Rz ts rec)(h:Pz X w base g A c ts V s)(hne:unaM ts rec s ≠ .out):Calls Tryz.prog 253 #[.pointer (some ⟨g,0,none⟩)] w (IPost X base g A c ts V w (unaM ts rec s)):=by
 by_cases q0:(tkn ts s).k=1
 ·exact una_0 hZ h q0 hne
 by_cases q1:(tkn ts s).k=2
 ·exact una_1 hZ h q0 q1 hne
 by_cases q2:((tkn ts s).s=[45]∨(tkn ts s).s=[33])
 ·rcases q2 with qq |qq
  ·exact una_2a hZ h q0 q1 (.inl qq) qq hne
  ·exact una_2b hZ h q0 q1 (.inr qq) qq hne
 by_cases q3:((tkn ts s).s=wTrue∨(tkn ts s).s=wFalse)
 ·rcases q3 with qq |qq
  ·exact una_3a hZ h q0 q1 q2 (.inl qq) qq hne
  ·exact una_3b hZ h q0 q1 q2 (.inr qq) qq hne
 by_cases q4:(tkn ts s).s=wLen
 ·exact una_4 hZ h q0 q1 q2 q3 q4 hne
 by_cases q5:(tkn ts s).s=[38]
 ·exact una_5 hZ h q0 q1 q2 q3 q4 q5 hne
 by_cases q6:(tkn ts s).s=[40]
 ·exact una_6 hZ h q0 q1 q2 q3 q4 q5 q6 hne
 exact una_7 hZ h q0 q1 q2 q3 q4 q5 q6 hne
end
end Go.Proofs.YteecfjhjllajlaaGreatDoor
