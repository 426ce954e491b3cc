/- PROVED here: parts N10 of the claim. No condition but those in each theorem's own head. -/
import Derived.Test.YtedkgofehbecmaaGreatDoorU09
import Derived.Deep.LoopGhost
import Derived.Deep.Light
import Derived.Laws.AppendOwnNone
import Derived.Test.YtedkgofehbecmaaGreatDoorU02
import Derived.Test.YtedkgofehbecmaaGreatDoorU03
import Derived.Test.YtedkgofehbecmaaGreatDoorU04
import Derived.Lib.Hide
import Derived.Tactics
import Derived.Tactics2
import Derived.WalkKit
import Derived.IntWalk
import Derived.KernelRfl
import Derived.Below
import Derived.Deep.Draws
import Derived.Deep.QuietTactic
import Derived.BigQuiet
import Derived.StillTailTactics
import Derived.Deep.DeepCutAuto
import Derived.Laws.OwnMore
import Derived.Laws.Rows
import Derived.OrdersHeld
import Derived.Deep.RegionWith
import Derived.Maps.AppendAt
import Derived.Laws.MakeOwn
import Derived.RangeFuncNested
import Derived.RangeFuncLeaves
import Derived.RangeFuncBound
import Derived.RangeFuncCalls
import Derived.RangeFuncBox
import Derived.Shelf.Abstract
import Derived.Shelf.RegionOpen
import Derived.OwnWalkIn
import Derived.TacticsInMore
import Derived.LoopNIn
import Derived.LoopIn
namespace Go.Proofs.YtedkgofehbecmaaGreatDoor
open Go.Lib (hid)
open Go Go.RowKit
open Tr (Bx heap1 bt gen_world ret_int ret_bool cell_same)
set_option maxRecDepth 100000 in
set_option maxHeartbeats 1500000 in
theorem una_0 {X:Nat->Prop}{w:World}{base g c:Nat}{A:Option Addr}{ts:List Tok}{V:Value}{s:St}{rec:Job->St->Rs}(hZ:Rz ts rec)(h:Pz X w base g A c ts V s)(q0:(tkn ts s).k=1)(hne:unaM ts rec s ≠ .out):Calls Tryz.prog 278 #[.pointer (some ⟨g,0,none⟩)] w (IPost X base g A c ts V w (unaM ts rec s)):=by
 have hk:Nk s 0 (unaM ts rec s):=nk_una ts hZ.nk s
 obtain⟨R,HR⟩:∃R,R=unaM ts rec s:=⟨_,rfl⟩
 rw[<- HR]at hk hne |-
 replace HR:R=variM ts rec s:=HR.trans (by unfold unaM;simp only;rw[if_pos q0])
 have HI:=hid (λw' (q:Below w.heap.size w w')=>variable_z hZ (h.below q) (by rw[<- HR];exact hne))
 rw[<- HR]at HI
 have d1:(((tkn ts s).k:Int)==1)=true:=by rw[beq_iff_eq];omega
 have HC:=hid (token_z h)
 have HZ:=hid hZ
 have HK:=hid (And.intro HR (And.intro hne (And.intro hk h.hn)))
 have H0:=hid h
 generalize tkn ts s=t at *
 unfold tokV at HC
 clear HR hne hk h hZ q0
 go_enter Tryz.func278,Tryz.ntmps278
 go_wp2_with (first|(go_at_call 176;refine HC.out.mono ?_;rintro e w1 ⟨rfl,hb1⟩) |(go_at_call 285;refine(HI.out _ (bt hb1 (heap1 _ _))).mono ?_;rintro e w3 (⟨p,er,hr,rfl,hF⟩ |⟨x,s3,V3,hr,rfl,hz3,hF3⟩)<;>replace hr:=hid hr))
 ·exact⟨rfl,.inl (np_after (Fo.below (bt hb1 (heap1 _ _))) hr.out hF)⟩
 ·go_ret
  exact .inr ⟨x,s3,V3,hr.out,rfl,hz3,(Fo.below (bt hb1 (heap1 _ _))).trans hF3⟩
set_option maxRecDepth 100000 in
set_option maxHeartbeats 1500000 in
theorem una_1 {X:Nat->Prop}{w:World}{base g c:Nat}{A:Option Addr}{ts:List Tok}{V:Value}{s:St}{rec:Job->St->Rs}(hZ:Rz ts rec)(h:Pz X w base g A c ts V s)(q0:¬(tkn ts s).k=1)(q1:(tkn ts s).k=2)(hne:unaM ts rec s ≠ .out):Calls Tryz.prog 278 #[.pointer (some ⟨g,0,none⟩)] w (IPost X base g A c ts V w (unaM ts rec s)):=by
 have hk:Nk s 0 (unaM ts rec s):=nk_una ts hZ.nk s
 obtain⟨R,HR⟩:∃R,R=unaM ts rec s:=⟨_,rfl⟩
 rw[<- HR]at hk hne |-
 replace HR:R=addM 20 (tkn ts s).n (tkn ts s).p [] [] (takeS s):=HR.trans (by unfold unaM;simp only;rw[if_neg q0,if_pos q1])
 have HT:=hid (λw' (q:Below w.heap.size w w')=>take_z (h.below q) (.inl (by rw[q1];decide)))
 have d1:(((tkn ts s).k:Int)==1)=false:=by rw[beq_eq_false_iff_ne];omega
 have d2:(((tkn ts s).k:Int)==2)=true:=by rw[beq_iff_eq];omega
 have HC:=hid (token_z h)
 have HZ:=hid hZ
 have HK:=hid (And.intro HR (And.intro hne (And.intro hk h.hn)))
 have H0:=hid h
 generalize tkn ts s=t at *
 unfold tokV at HC
 unfold tokV at HT
 clear HR hne hk h hZ q0 q1
 go_enter Tryz.func278,Tryz.ntmps278
 go_wp2_with (first|(go_at_call 176;refine HC.out.mono ?_;rintro e w1 ⟨rfl,hb1⟩) |(go_at_call 173;refine(HT.out _ (bt hb1 (heap1 _ _))).mono ?_))
 rintro e w2 ⟨rfl,hz2,hF2⟩
 have hT:=((H0.out.below hb1).box (l:=[.int .i64 (t.k:Int),.int .i64 t.n,.int .i64 (t.p:Int),.string (bs t.s)]) hF2).1
 have t1:=(hT.cell 1).trans rfl
 have t2:=(hT.cell 2).trans rfl
 have HA:=hid (add_z hz2 20 t.n (t.p:Int) [] none none 0 0 0 0 [] (kd_nil _ _) ⟨rfl,Nat.le_refl _⟩ HK.out.1 HK.out.2.2.1 HK.out.2.2.2)
 have HF:=hid ((Fo.below (V:=V) (bt hb1 (heap1 _ _))).trans hF2)
 clear hT hz2 hF2
 go_wp2_with (go_at_call 131;refine(HA.out).mono ?_;rintro e w3 (⟨p,er,hr,rfl,hF⟩ |⟨x,s3,V3,hr,rfl,hz3,hF3⟩)<;>replace hr:=hid hr)
 ·exact⟨rfl,.inl (np_after HF.out hr.out hF)⟩
 ·go_ret
  exact .inr ⟨x,s3,V3,hr.out,rfl,hz3,HF.out.trans hF3⟩
set_option maxRecDepth 100000 in
set_option maxHeartbeats 1500000 in
theorem una_2a {X:Nat->Prop}{w:World}{base g c:Nat}{A:Option Addr}{ts:List Tok}{V:Value}{s:St}{rec:Job->St->Rs}(hZ:Rz ts rec)(h:Pz X w base g A c ts V s)(q0:¬(tkn ts s).k=1)(q1:¬(tkn ts s).k=2)(q2:((tkn ts s).s=[45]\/(tkn ts s).s=[33]))(qq:(tkn ts s).s=[45])(hne:unaM ts rec s ≠ .out):Calls Tryz.prog 278 #[.pointer (some ⟨g,0,none⟩)] w (IPost X base g A c ts V w (unaM ts rec s)):=by
 have hk:Nk s 0 (unaM ts rec s):=nk_una ts hZ.nk s
 obtain⟨R,HR⟩:∃R,R=unaM ts rec s:=⟨_,rfl⟩
 rw[<- HR]at hk hne |-
 replace HR:R=signM ts rec s:=HR.trans (by unfold unaM;simp only;rw[if_neg q0,if_neg q1,if_pos q2])
 have HI:=hid (λw' (q:Below w.heap.size w w')=>signed_z hZ (h.below q) (by rw[qq];decide) (by rw[<- HR];exact hne))
 rw[<- HR]at HI
 have d1:(((tkn ts s).k:Int)==1)=false:=by rw[beq_eq_false_iff_ne];omega
 have d2:(((tkn ts s).k:Int)==2)=false:=by rw[beq_eq_false_iff_ne];omega
 have e1:((bs (tkn ts s).s).toList==[45])=true:=by rw[bs_toList,beq_iff_eq];exact qq
 have HC:=hid (token_z h)
 have HZ:=hid hZ
 have HK:=hid (And.intro HR (And.intro hne (And.intro hk h.hn)))
 have H0:=hid h
 generalize tkn ts s=t at *
 unfold tokV at HC
 clear HR hne hk h hZ q0 q1 q2 qq
 go_enter Tryz.func278,Tryz.ntmps278
 go_wp2_with (first|(go_at_call 176;refine HC.out.mono ?_;rintro e w1 ⟨rfl,hb1⟩) |(go_at_call 286;refine(HI.out _ (bt hb1 (heap1 _ _))).mono ?_;rintro e w3 (⟨p,er,hr,rfl,hF⟩ |⟨x,s3,V3,hr,rfl,hz3,hF3⟩)<;>replace hr:=hid hr))
 ·exact⟨rfl,.inl (np_after (Fo.below (bt hb1 (heap1 _ _))) hr.out hF)⟩
 ·go_ret
  exact .inr ⟨x,s3,V3,hr.out,rfl,hz3,(Fo.below (bt hb1 (heap1 _ _))).trans hF3⟩
set_option maxRecDepth 100000 in
set_option maxHeartbeats 1500000 in
theorem una_2b {X:Nat->Prop}{w:World}{base g c:Nat}{A:Option Addr}{ts:List Tok}{V:Value}{s:St}{rec:Job->St->Rs}(hZ:Rz ts rec)(h:Pz X w base g A c ts V s)(q0:¬(tkn ts s).k=1)(q1:¬(tkn ts s).k=2)(q2:((tkn ts s).s=[45]\/(tkn ts s).s=[33]))(qq:(tkn ts s).s=[33])(hne:unaM ts rec s ≠ .out):Calls Tryz.prog 278 #[.pointer (some ⟨g,0,none⟩)] w (IPost X base g A c ts V w (unaM ts rec s)):=by
 have hk:Nk s 0 (unaM ts rec s):=nk_una ts hZ.nk s
 obtain⟨R,HR⟩:∃R,R=unaM ts rec s:=⟨_,rfl⟩
 rw[<- HR]at hk hne |-
 replace HR:R=signM ts rec s:=HR.trans (by unfold unaM;simp only;rw[if_neg q0,if_neg q1,if_pos q2])
 have HI:=hid (λw' (q:Below w.heap.size w w')=>signed_z hZ (h.below q) (by rw[qq];decide) (by rw[<- HR];exact hne))
 rw[<- HR]at HI
 have d1:(((tkn ts s).k:Int)==1)=false:=by rw[beq_eq_false_iff_ne];omega
 have d2:(((tkn ts s).k:Int)==2)=false:=by rw[beq_eq_false_iff_ne];omega
 have e1:((bs (tkn ts s).s).toList==[45])=false:=by rw[bs_toList,beq_eq_false_iff_ne,qq];decide
 have e2:((bs (tkn ts s).s).toList==[33])=true:=by rw[bs_toList,beq_iff_eq];exact qq
 have HC:=hid (token_z h)
 have HZ:=hid hZ
 have HK:=hid (And.intro HR (And.intro hne (And.intro hk h.hn)))
 have H0:=hid h
 generalize tkn ts s=t at *
 unfold tokV at HC
 clear HR hne hk h hZ q0 q1 q2 qq
 go_enter Tryz.func278,Tryz.ntmps278
 go_wp2_with (first|(go_at_call 176;refine HC.out.mono ?_;rintro e w1 ⟨rfl,hb1⟩) |(go_at_call 286;refine(HI.out _ (bt hb1 (heap1 _ _))).mono ?_;rintro e w3 (⟨p,er,hr,rfl,hF⟩ |⟨x,s3,V3,hr,rfl,hz3,hF3⟩)<;>replace hr:=hid hr))
 ·exact⟨rfl,.inl (np_after (Fo.below (bt hb1 (heap1 _ _))) hr.out hF)⟩
 ·go_ret
  exact .inr ⟨x,s3,V3,hr.out,rfl,hz3,(Fo.below (bt hb1 (heap1 _ _))).trans hF3⟩
set_option maxRecDepth 100000 in
set_option maxHeartbeats 1500000 in
theorem una_3a {X:Nat->Prop}{w:World}{base g c:Nat}{A:Option Addr}{ts:List Tok}{V:Value}{s:St}{rec:Job->St->Rs}(hZ:Rz ts rec)(h:Pz X w base g A c ts V s)(q0:¬(tkn ts s).k=1)(q1:¬(tkn ts s).k=2)(q2:¬((tkn ts s).s=[45]\/(tkn ts s).s=[33]))(q3:((tkn ts s).s=wTrue\/(tkn ts s).s=wFalse))(qq:(tkn ts s).s=wTrue)(hne:unaM ts rec s ≠ .out):Calls Tryz.prog 278 #[.pointer (some ⟨g,0,none⟩)] w (IPost X base g A c ts V w (unaM ts rec s)):=by
 have hk:Nk s 0 (unaM ts rec s):=nk_una ts hZ.nk s
 obtain⟨R,HR⟩:∃R,R=unaM ts rec s:=⟨_,rfl⟩
 rw[<- HR]at hk hne |-
 replace HR:R=addM 21 (if (tkn ts s).s=wTrue then 1 else 0) (tkn ts s).p [] [] (takeS s):=HR.trans (by unfold unaM;simp only;rw[if_neg q0,if_neg q1,if_neg q2,if_pos q3])
 have HI:=hid (λw' (q:Below w.heap.size w w')=>truth_z (h.below q) (by rw[qq];decide))
 rw[<- HR]at HI
 have d1:(((tkn ts s).k:Int)==1)=false:=by rw[beq_eq_false_iff_ne];omega
 have d2:(((tkn ts s).k:Int)==2)=false:=by rw[beq_eq_false_iff_ne];omega
 have e1:((bs (tkn ts s).s).toList==[45])=false:=by rw[bs_toList,beq_eq_false_iff_ne];exact λe=>q2 (.inl e)
 have e2:((bs (tkn ts s).s).toList==[33])=false:=by rw[bs_toList,beq_eq_false_iff_ne];exact λe=>q2 (.inr e)
 have e3:((bs (tkn ts s).s).toList==[116,114,117,101])=true:=by rw[bs_toList,beq_iff_eq];exact qq
 have HC:=hid (token_z h)
 have HZ:=hid hZ
 have HK:=hid (And.intro HR (And.intro hne (And.intro hk h.hn)))
 have H0:=hid h
 generalize tkn ts s=t at *
 unfold tokV at HC
 clear HR hne hk h hZ q0 q1 q2 q3 qq
 go_enter Tryz.func278,Tryz.ntmps278
 go_wp2_with (first|(go_at_call 176;refine HC.out.mono ?_;rintro e w1 ⟨rfl,hb1⟩) |(go_at_call 287;refine(HI.out _ (bt hb1 (heap1 _ _))).mono ?_;rintro e w3 (⟨p,er,hr,rfl,hF⟩ |⟨x,s3,V3,hr,rfl,hz3,hF3⟩)<;>replace hr:=hid hr))
 ·exact⟨rfl,.inl (np_after (Fo.below (bt hb1 (heap1 _ _))) hr.out hF)⟩
 ·go_ret
  exact .inr ⟨x,s3,V3,hr.out,rfl,hz3,(Fo.below (bt hb1 (heap1 _ _))).trans hF3⟩
set_option maxRecDepth 100000 in
set_option maxHeartbeats 1500000 in
theorem una_3b {X:Nat->Prop}{w:World}{base g c:Nat}{A:Option Addr}{ts:List Tok}{V:Value}{s:St}{rec:Job->St->Rs}(hZ:Rz ts rec)(h:Pz X w base g A c ts V s)(q0:¬(tkn ts s).k=1)(q1:¬(tkn ts s).k=2)(q2:¬((tkn ts s).s=[45]\/(tkn ts s).s=[33]))(q3:((tkn ts s).s=wTrue\/(tkn ts s).s=wFalse))(qq:(tkn ts s).s=wFalse)(hne:unaM ts rec s ≠ .out):Calls Tryz.prog 278 #[.pointer (some ⟨g,0,none⟩)] w (IPost X base g A c ts V w (unaM ts rec s)):=by
 have hk:Nk s 0 (unaM ts rec s):=nk_una ts hZ.nk s
 obtain⟨R,HR⟩:∃R,R=unaM ts rec s:=⟨_,rfl⟩
 rw[<- HR]at hk hne |-
 replace HR:R=addM 21 (if (tkn ts s).s=wTrue then 1 else 0) (tkn ts s).p [] [] (takeS s):=HR.trans (by unfold unaM;simp only;rw[if_neg q0,if_neg q1,if_neg q2,if_pos q3])
 have HI:=hid (λw' (q:Below w.heap.size w w')=>truth_z (h.below q) (by rw[qq];decide))
 rw[<- HR]at HI
 have d1:(((tkn ts s).k:Int)==1)=false:=by rw[beq_eq_false_iff_ne];omega
 have d2:(((tkn ts s).k:Int)==2)=false:=by rw[beq_eq_false_iff_ne];omega
 have e1:((bs (tkn ts s).s).toList==[45])=false:=by rw[bs_toList,beq_eq_false_iff_ne];exact λe=>q2 (.inl e)
 have e2:((bs (tkn ts s).s).toList==[33])=false:=by rw[bs_toList,beq_eq_false_iff_ne];exact λe=>q2 (.inr e)
 have e3:((bs (tkn ts s).s).toList==[116,114,117,101])=false:=by rw[bs_toList,beq_eq_false_iff_ne,qq];decide
 have e4:((bs (tkn ts s).s).toList==[102,97,108,115,101])=true:=by rw[bs_toList,beq_iff_eq];exact qq
 have HC:=hid (token_z h)
 have HZ:=hid hZ
 have HK:=hid (And.intro HR (And.intro hne (And.intro hk h.hn)))
 have H0:=hid h
 generalize tkn ts s=t at *
 unfold tokV at HC
 clear HR hne hk h hZ q0 q1 q2 q3 qq
 go_enter Tryz.func278,Tryz.ntmps278
 go_wp2_with (first|(go_at_call 176;refine HC.out.mono ?_;rintro e w1 ⟨rfl,hb1⟩) |(go_at_call 287;refine(HI.out _ (bt hb1 (heap1 _ _))).mono ?_;rintro e w3 (⟨p,er,hr,rfl,hF⟩ |⟨x,s3,V3,hr,rfl,hz3,hF3⟩)<;>replace hr:=hid hr))
 ·exact⟨rfl,.inl (np_after (Fo.below (bt hb1 (heap1 _ _))) hr.out hF)⟩
 ·go_ret
  exact .inr ⟨x,s3,V3,hr.out,rfl,hz3,(Fo.below (bt hb1 (heap1 _ _))).trans hF3⟩
set_option maxRecDepth 100000 in
set_option maxHeartbeats 1500000 in
theorem una_4 {X:Nat->Prop}{w:World}{base g c:Nat}{A:Option Addr}{ts:List Tok}{V:Value}{s:St}{rec:Job->St->Rs}(hZ:Rz ts rec)(h:Pz X w base g A c ts V s)(q0:¬(tkn ts s).k=1)(q1:¬(tkn ts s).k=2)(q2:¬((tkn ts s).s=[45]\/(tkn ts s).s=[33]))(q3:¬((tkn ts s).s=wTrue\/(tkn ts s).s=wFalse))(q4:(tkn ts s).s=wLen)(hne:unaM ts rec s ≠ .out):Calls Tryz.prog 278 #[.pointer (some ⟨g,0,none⟩)] w (IPost X base g A c ts V w (unaM ts rec s)):=by
 have hk:Nk s 0 (unaM ts rec s):=nk_una ts hZ.nk s
 obtain⟨R,HR⟩:∃R,R=unaM ts rec s:=⟨_,rfl⟩
 rw[<- HR]at hk hne |-
 replace HR:R=markM ts 24 s:=HR.trans (by unfold unaM;simp only;rw[if_neg q0,if_neg q1,if_neg q2,if_neg q3,if_pos q4])
 have HI:=hid (λw' (q:Below w.heap.size w w')=>mark_z (h.below q) 24 (by rw[q4];decide))
 rw[<- HR]at HI
 have d1:(((tkn ts s).k:Int)==1)=false:=by rw[beq_eq_false_iff_ne];omega
 have d2:(((tkn ts s).k:Int)==2)=false:=by rw[beq_eq_false_iff_ne];omega
 have e1:((bs (tkn ts s).s).toList==[45])=false:=by rw[bs_toList,beq_eq_false_iff_ne];exact λe=>q2 (.inl e)
 have e2:((bs (tkn ts s).s).toList==[33])=false:=by rw[bs_toList,beq_eq_false_iff_ne];exact λe=>q2 (.inr e)
 have e3:((bs (tkn ts s).s).toList==[116,114,117,101])=false:=by rw[bs_toList,beq_eq_false_iff_ne];exact λe=>q3 (.inl e)
 have e4:((bs (tkn ts s).s).toList==[102,97,108,115,101])=false:=by rw[bs_toList,beq_eq_false_iff_ne];exact λe=>q3 (.inr e)
 have e5:((bs (tkn ts s).s).toList==[108,101,110])=true:=by rw[bs_toList,beq_iff_eq];exact q4
 have HC:=hid (token_z h)
 have HZ:=hid hZ
 have HK:=hid (And.intro HR (And.intro hne (And.intro hk h.hn)))
 have H0:=hid h
 generalize tkn ts s=t at *
 unfold tokV at HC
 clear HR hne hk h hZ q0 q1 q2 q3 q4
 go_enter Tryz.func278,Tryz.ntmps278
 go_wp2_with (first|(go_at_call 176;refine HC.out.mono ?_;rintro e w1 ⟨rfl,hb1⟩) |(go_at_call 288;refine(HI.out _ (bt hb1 (heap1 _ _))).mono ?_;rintro e w3 (⟨p,er,hr,rfl,hF⟩ |⟨x,s3,V3,hr,rfl,hz3,hF3⟩)<;>replace hr:=hid hr))
 ·exact⟨rfl,.inl (np_after (Fo.below (bt hb1 (heap1 _ _))) hr.out hF)⟩
 ·go_ret
  exact .inr ⟨x,s3,V3,hr.out,rfl,hz3,(Fo.below (bt hb1 (heap1 _ _))).trans hF3⟩
set_option maxRecDepth 100000 in
set_option maxHeartbeats 1500000 in
theorem una_5 {X:Nat->Prop}{w:World}{base g c:Nat}{A:Option Addr}{ts:List Tok}{V:Value}{s:St}{rec:Job->St->Rs}(hZ:Rz ts rec)(h:Pz X w base g A c ts V s)(q0:¬(tkn ts s).k=1)(q1:¬(tkn ts s).k=2)(q2:¬((tkn ts s).s=[45]\/(tkn ts s).s=[33]))(q3:¬((tkn ts s).s=wTrue\/(tkn ts s).s=wFalse))(q4:¬(tkn ts s).s=wLen)(q5:(tkn ts s).s=[38])(hne:unaM ts rec s ≠ .out):Calls Tryz.prog 278 #[.pointer (some ⟨g,0,none⟩)] w (IPost X base g A c ts V w (unaM ts rec s)):=by
 have hk:Nk s 0 (unaM ts rec s):=nk_una ts hZ.nk s
 obtain⟨R,HR⟩:∃R,R=unaM ts rec s:=⟨_,rfl⟩
 rw[<- HR]at hk hne |-
 replace HR:R=markM ts 25 s:=HR.trans (by unfold unaM;simp only;rw[if_neg q0,if_neg q1,if_neg q2,if_neg q3,if_neg q4,if_pos q5])
 have HI:=hid (λw' (q:Below w.heap.size w w')=>mark_z (h.below q) 25 (by rw[q5];decide))
 rw[<- HR]at HI
 have d1:(((tkn ts s).k:Int)==1)=false:=by rw[beq_eq_false_iff_ne];omega
 have d2:(((tkn ts s).k:Int)==2)=false:=by rw[beq_eq_false_iff_ne];omega
 have e1:((bs (tkn ts s).s).toList==[45])=false:=by rw[bs_toList,beq_eq_false_iff_ne];exact λe=>q2 (.inl e)
 have e2:((bs (tkn ts s).s).toList==[33])=false:=by rw[bs_toList,beq_eq_false_iff_ne];exact λe=>q2 (.inr e)
 have e3:((bs (tkn ts s).s).toList==[116,114,117,101])=false:=by rw[bs_toList,beq_eq_false_iff_ne];exact λe=>q3 (.inl e)
 have e4:((bs (tkn ts s).s).toList==[102,97,108,115,101])=false:=by rw[bs_toList,beq_eq_false_iff_ne];exact λe=>q3 (.inr e)
 have e5:((bs (tkn ts s).s).toList==[108,101,110])=false:=by rw[bs_toList,beq_eq_false_iff_ne];exact q4
 have e6:((bs (tkn ts s).s).toList==[38])=true:=by rw[bs_toList,beq_iff_eq];exact q5
 have HC:=hid (token_z h)
 have HZ:=hid hZ
 have HK:=hid (And.intro HR (And.intro hne (And.intro hk h.hn)))
 have H0:=hid h
 generalize tkn ts s=t at *
 unfold tokV at HC
 clear HR hne hk h hZ q0 q1 q2 q3 q4 q5
 go_enter Tryz.func278,Tryz.ntmps278
 go_wp2_with (first|(go_at_call 176;refine HC.out.mono ?_;rintro e w1 ⟨rfl,hb1⟩) |(go_at_call 288;refine(HI.out _ (bt hb1 (heap1 _ _))).mono ?_;rintro e w3 (⟨p,er,hr,rfl,hF⟩ |⟨x,s3,V3,hr,rfl,hz3,hF3⟩)<;>replace hr:=hid hr))
 ·exact⟨rfl,.inl (np_after (Fo.below (bt hb1 (heap1 _ _))) hr.out hF)⟩
 ·go_ret
  exact .inr ⟨x,s3,V3,hr.out,rfl,hz3,(Fo.below (bt hb1 (heap1 _ _))).trans hF3⟩
set_option maxRecDepth 100000 in
set_option maxHeartbeats 1500000 in
theorem una_6 {X:Nat->Prop}{w:World}{base g c:Nat}{A:Option Addr}{ts:List Tok}{V:Value}{s:St}{rec:Job->St->Rs}(hZ:Rz ts rec)(h:Pz X w base g A c ts V s)(q0:¬(tkn ts s).k=1)(q1:¬(tkn ts s).k=2)(q2:¬((tkn ts s).s=[45]\/(tkn ts s).s=[33]))(q3:¬((tkn ts s).s=wTrue\/(tkn ts s).s=wFalse))(q4:¬(tkn ts s).s=wLen)(q5:¬(tkn ts s).s=[38])(q6:(tkn ts s).s=[40])(hne:unaM ts rec s ≠ .out):Calls Tryz.prog 278 #[.pointer (some ⟨g,0,none⟩)] w (IPost X base g A c ts V w (unaM ts rec s)):=by
 have hk:Nk s 0 (unaM ts rec s):=nk_una ts hZ.nk s
 obtain⟨R,HR⟩:∃R,R=unaM ts rec s:=⟨_,rfl⟩
 rw[<- HR]at hk hne |-
 replace HR:R=(begM ts [40] s).bind λ_ s=>(exprM rec s).bind λv s=>(finM ts [41] s).bind λ_ s =>.ok v s:=HR.trans (by unfold unaM;simp only;rw[if_neg q0,if_neg q1,if_neg q2,if_neg q3,if_neg q4,if_neg q5,if_pos q6])
 have HB:=hid (λw' (q:Below w.heap.size w w')=>begin_z (h.below q) [40] (by decide))
 have d1:(((tkn ts s).k:Int)==1)=false:=by rw[beq_eq_false_iff_ne];omega
 have d2:(((tkn ts s).k:Int)==2)=false:=by rw[beq_eq_false_iff_ne];omega
 have e1:((bs (tkn ts s).s).toList==[45])=false:=by rw[bs_toList,beq_eq_false_iff_ne];exact λe=>q2 (.inl e)
 have e2:((bs (tkn ts s).s).toList==[33])=false:=by rw[bs_toList,beq_eq_false_iff_ne];exact λe=>q2 (.inr e)
 have e3:((bs (tkn ts s).s).toList==[116,114,117,101])=false:=by rw[bs_toList,beq_eq_false_iff_ne];exact λe=>q3 (.inl e)
 have e4:((bs (tkn ts s).s).toList==[102,97,108,115,101])=false:=by rw[bs_toList,beq_eq_false_iff_ne];exact λe=>q3 (.inr e)
 have e5:((bs (tkn ts s).s).toList==[108,101,110])=false:=by rw[bs_toList,beq_eq_false_iff_ne];exact q4
 have e6:((bs (tkn ts s).s).toList==[38])=false:=by rw[bs_toList,beq_eq_false_iff_ne];exact q5
 have e7:((bs (tkn ts s).s).toList==[40])=true:=by rw[bs_toList,beq_iff_eq];exact q6
 have HC:=hid (token_z h)
 have HZ:=hid hZ
 have HK:=hid (And.intro HR (And.intro hne (And.intro hk h.hn)))
 have H0:=hid h
 generalize tkn ts s=t at *
 unfold tokV at HC
 clear HR hne hk h hZ q0 q1 q2 q3 q4 q5 q6
 go_enter Tryz.func278,Tryz.ntmps278
 go_wp2_with (first|(go_at_call 176;refine HC.out.mono ?_;rintro e w1 ⟨rfl,hb1⟩) |(go_at_call 181;refine(HB.out _ (bt hb1 (heap1 _ _))).mono ?_;rintro e w2 (⟨p,er,hr,rfl,hF⟩ |⟨s1,hr1,rfl,hz1,hF1⟩)<;>first|replace hr1:=hid hr1 |replace hr:=hid hr) |(go_at_call 252;refine(expr_z HZ.out hz1 (Rs.step_in (Rs.step HK.out.1 hr1.out) HK.out.2.1)).mono ?_;rintro e w3 (⟨p,er,hr,rfl,hF⟩ |⟨x,s2,V2,hr2,rfl,hz2,hF2⟩)<;>first|replace hr2:=hid hr2 |replace hr:=hid hr) |(go_at_call 211;refine(finish_z hz2 [41] (by decide) (by have a:=beg_op H0.out.ok (by decide) H0.out.px.nx hr1.out;have b:=expr_op HZ.out a.2.1 hr2.out;omega)).mono ?_;rintro e w4 (⟨p,er,hr,rfl,hF⟩ |⟨s3,hr3,rfl,hz3,hF3⟩)<;>first|replace hr3:=hid hr3 |replace hr:=hid hr))
 ·exact⟨rfl,.inl (np_after (Fo.below (bt hb1 (heap1 _ _))) (Rs.step_no HK.out.1 hr.out) hF)⟩
 ·exact⟨rfl,.inl (np_after ((Fo.below (bt hb1 (heap1 _ _))).trans hF1) (Rs.step_no (Rs.step HK.out.1 hr1.out) hr.out) hF)⟩
 ·exact⟨rfl,.inl (np_after (((Fo.below (bt hb1 (heap1 _ _))).trans hF1).trans hF2) (Rs.step_no (Rs.step (Rs.step HK.out.1 hr1.out) hr2.out) hr.out) hF)⟩
 ·go_ret
  exact .inr ⟨x,s3,V2,(Rs.step (Rs.step (Rs.step HK.out.1 hr1.out) hr2.out) hr3.out :),rfl,hz3,(((Fo.below (bt hb1 (heap1 _ _))).trans hF1).trans hF2).trans hF3⟩
set_option maxRecDepth 100000 in
set_option maxHeartbeats 1500000 in
theorem una_7 {X:Nat->Prop}{w:World}{base g c:Nat}{A:Option Addr}{ts:List Tok}{V:Value}{s:St}{rec:Job->St->Rs}(hZ:Rz ts rec)(h:Pz X w base g A c ts V s)(q0:¬(tkn ts s).k=1)(q1:¬(tkn ts s).k=2)(q2:¬((tkn ts s).s=[45]\/(tkn ts s).s=[33]))(q3:¬((tkn ts s).s=wTrue\/(tkn ts s).s=wFalse))(q4:¬(tkn ts s).s=wLen)(q5:¬(tkn ts s).s=[38])(q6:¬(tkn ts s).s=[40])(hne:unaM ts rec s ≠ .out):Calls Tryz.prog 278 #[.pointer (some ⟨g,0,none⟩)] w (IPost X base g A c ts V w (unaM ts rec s)):=by
 have hk:Nk s 0 (unaM ts rec s):=nk_una ts hZ.nk s
 obtain⟨R,HR⟩:∃R,R=unaM ts rec s:=⟨_,rfl⟩
 rw[<- HR]at hk hne |-
 replace HR:R = .no (tkn ts s).p 2:=HR.trans (by unfold unaM;simp only;rw[if_neg q0,if_neg q1,if_neg q2,if_neg q3,if_neg q4,if_neg q5,if_neg q6])
 have HB:=hid (λw' (q:Below w.heap.size w w')=>refuse_z (h.below q) 2)
 have d1:(((tkn ts s).k:Int)==1)=false:=by rw[beq_eq_false_iff_ne];omega
 have d2:(((tkn ts s).k:Int)==2)=false:=by rw[beq_eq_false_iff_ne];omega
 have e1:((bs (tkn ts s).s).toList==[45])=false:=by rw[bs_toList,beq_eq_false_iff_ne];exact λe=>q2 (.inl e)
 have e2:((bs (tkn ts s).s).toList==[33])=false:=by rw[bs_toList,beq_eq_false_iff_ne];exact λe=>q2 (.inr e)
 have e3:((bs (tkn ts s).s).toList==[116,114,117,101])=false:=by rw[bs_toList,beq_eq_false_iff_ne];exact λe=>q3 (.inl e)
 have e4:((bs (tkn ts s).s).toList==[102,97,108,115,101])=false:=by rw[bs_toList,beq_eq_false_iff_ne];exact λe=>q3 (.inr e)
 have e5:((bs (tkn ts s).s).toList==[108,101,110])=false:=by rw[bs_toList,beq_eq_false_iff_ne];exact q4
 have e6:((bs (tkn ts s).s).toList==[38])=false:=by rw[bs_toList,beq_eq_false_iff_ne];exact q5
 have e7:((bs (tkn ts s).s).toList==[40])=false:=by rw[bs_toList,beq_eq_false_iff_ne];exact q6
 have HC:=hid (token_z h)
 have HZ:=hid hZ
 have HK:=hid (And.intro HR (And.intro hne (And.intro hk h.hn)))
 have H0:=hid h
 generalize tkn ts s=t at *
 unfold tokV at HC
 clear HR hne hk h hZ q0 q1 q2 q3 q4 q5 q6
 go_enter Tryz.func278,Tryz.ntmps278
 go_wp2_with (first|(go_at_call 176;refine HC.out.mono ?_;rintro e w1 ⟨rfl,hb1⟩) |(go_at_call 183;refine(HB.out _ (bt hb1 (heap1 _ _))).mono ?_;rintro e w2 ⟨rfl,hb2⟩))
 exact⟨rfl,.inl ⟨t.p,2,HK.out.1,rfl,((Fo.below (bt hb1 (heap1 _ _))).trans (Fo.below (V:=V) hb2)).fr⟩⟩
theorem una_z {X:Nat->Prop}{w:World}{base g c:Nat}{A:Option Addr}{ts:List Tok}{V:Value}{s:St}{rec:Job->St->Rs}(hZ:Rz ts rec)(h:Pz X w base g A c ts V s)(hne:unaM ts rec s ≠ .out):Calls Tryz.prog 278 #[.pointer (some ⟨g,0,none⟩)] w (IPost X base g A c ts V w (unaM ts rec s)):=by
 by_cases q0:(tkn ts s).k=1
 ·exact una_0 hZ h q0 hne
 by_cases q1:(tkn ts s).k=2
 ·exact una_1 hZ h q0 q1 hne
 by_cases q2:((tkn ts s).s=[45]\/(tkn ts s).s=[33])
 ·rcases q2 with qq |qq
  ·exact una_2a hZ h q0 q1 (.inl qq) qq hne
  ·exact una_2b hZ h q0 q1 (.inr qq) qq hne
 by_cases q3:((tkn ts s).s=wTrue\/(tkn ts s).s=wFalse)
 ·rcases q3 with qq |qq
  ·exact una_3a hZ h q0 q1 q2 (.inl qq) qq hne
  ·exact una_3b hZ h q0 q1 q2 (.inr qq) qq hne
 by_cases q4:(tkn ts s).s=wLen
 ·exact una_4 hZ h q0 q1 q2 q3 q4 hne
 by_cases q5:(tkn ts s).s=[38]
 ·exact una_5 hZ h q0 q1 q2 q3 q4 q5 hne
 by_cases q6:(tkn ts s).s=[40]
 ·exact una_6 hZ h q0 q1 q2 q3 q4 q5 q6 hne
 exact una_7 hZ h q0 q1 q2 q3 q4 q5 q6 hne
end Go.Proofs.YtedkgofehbecmaaGreatDoor
namespace Go.Proofs.YtedkgofehbecmaaGreatDoor
open Go.Lib (hid)
open Go Go.RowKit
open Tr (Bx heap1 bt gen_world ret_int ret_bool cell_same)
theorem add_y {X:Nat->Prop}{w:World}{base g c:Nat}{A:Option Addr}{ts:List Tok}{V:Value}{s:St}(h:Pz X w base g A c ts V s)(kd nn pl:Int)(tx:List UInt8)(K0 KK:Option Addr)(n0 c0 kn kc:Nat)(ks:List Int)(hK:Kd w X KK ks)(hkn:kn=ks.length/\kn<=kc)(hsl:s.nd.length+1<=s.nx) :
  Calls Tryz.prog 131 #[.pointer (some ⟨g,0,none⟩),.agg #[.int .i64 kd,.int .i64 nn,.int .i64 pl,.string (bs tx),.slice K0 n0 c0],.slice KK kn kc] w (IPost X base g A c ts V w (addM kd nn pl tx ks s)):=by
 have hx:=h.px.nx
 have hl:=h.px.len
 refine(add_any h.px h.nd kd nn pl tx K0 KK n0 c0 kn kc ks hK hkn h.hb h.gb h.hA (by omega)).mono ?_
 rintro e w' ⟨V',rfl,hX,hN,hF,hO⟩
 exact .inr ⟨_,_,V',rfl,rfl,⟨hX,hN,Nat.le_trans h.hb hF.size,h.gb,h.hA,by simp only[List.length_append,List.length_cons,List.length_nil];exact hsl,h.h40,h.ok,λb hb=>Nat.lt_of_lt_of_le (h.hX b hb) hF.size⟩,⟨hF,hO⟩⟩
theorem add_y1 {X:Nat->Prop}{w:World}{base g c:Nat}{A:Option Addr}{ts:List Tok}{V:Value}{s:St}(h:Pz X w base g A c ts V s)(kd nn pl:Int)(tx:List UInt8)(K0:Option Addr)(n0 c0:Nat)(x1:Int)(hsl:s.nd.length+1<=s.nx) :
  Calls Tryz.prog 131 #[.pointer (some ⟨g,0,none⟩),.agg #[.int .i64 kd,.int .i64 nn,.int .i64 pl,.string (bs tx),.slice K0 n0 c0],.slice (some ⟨w.heap.size,0,none⟩) 1 1] (w.alloc (.cells #[.int .i64 x1] 3)) (IPost X base g A c ts V w (addM kd nn pl tx [x1] s)):=
 (add_y (h.below (heap1 w (.cells #[.int .i64 x1] 3))) kd nn pl tx K0 (some ⟨w.heap.size,0,none⟩) n0 c0 1 1 [x1] (kd_new h.hX [x1]) ⟨rfl,Nat.le_refl _⟩ hsl).mono λ_ _ q=>q.after (Fo.below (heap1 _ _))
theorem add_y2 {X:Nat->Prop}{w:World}{base g c:Nat}{A:Option Addr}{ts:List Tok}{V:Value}{s:St}(h:Pz X w base g A c ts V s)(kd nn pl:Int)(tx:List UInt8)(K0:Option Addr)(n0 c0:Nat)(x1 x2:Int)(hsl:s.nd.length+1<=s.nx) :
  Calls Tryz.prog 131 #[.pointer (some ⟨g,0,none⟩),.agg #[.int .i64 kd,.int .i64 nn,.int .i64 pl,.string (bs tx),.slice K0 n0 c0],.slice (some ⟨w.heap.size,0,none⟩) 2 2] (w.alloc (.cells #[.int .i64 x1,.int .i64 x2] 3)) (IPost X base g A c ts V w (addM kd nn pl tx [x1,x2] s)):=
 (add_y (h.below (heap1 w (.cells #[.int .i64 x1,.int .i64 x2] 3))) kd nn pl tx K0 (some ⟨w.heap.size,0,none⟩) n0 c0 2 2 [x1,x2] (kd_new h.hX [x1,x2]) ⟨rfl,Nat.le_refl _⟩ hsl).mono λ_ _ q=>q.after (Fo.below (heap1 _ _))
set_option maxRecDepth 100000 in
set_option maxHeartbeats 1500000 in
theorem bin_top {X:Nat->Prop}{w:World}{base g c:Nat}{A:Option Addr}{ts:List Tok}{V:Value}{s:St}{f:Nat}(hI:Rz ts (run ts f))(h:Pz X w base g A c ts V s)(hne:binM (run ts f) 6 s ≠ .out):Calls Tryz.prog 272 #[.pointer (some ⟨g,0,none⟩),.int .i64 6] w (IPost X base g A c ts V w (binM (run ts f) 6 s)):=by
 have e:binM (run ts f) 6 s=run ts f .una s:=by unfold binM;rfl
 rw[e]at hne |-
 have HI:=hid ((hI.z X w base g A c V s h).1 hne)
 generalize run ts f .una s=R at *
 clear h hI hne e
 go_enter Tryz.func272,Tryz.ntmps272
 go_wp2_with (go_at_call 278;refine(HI.out).mono ?_;rintro e w3 (⟨p,er,hr,rfl,hF⟩ |⟨x,s3,V3,hr,rfl,hz3,hF3⟩)<;>replace hr:=hid hr)
 ·exact⟨rfl,.inl ⟨p,er,hr.out,rfl,hF⟩⟩
 ·go_ret
  exact .inr ⟨x,s3,V3,hr.out,rfl,hz3,hF3⟩
set_option maxRecDepth 100000 in
set_option maxHeartbeats 1500000 in
theorem bin_low {X:Nat->Prop}{w:World}{base g c:Nat}{A:Option Addr}{ts:List Tok}{V:Value}{s:St}{f:Nat}(hI:∀f',f'<=f->Rz ts (run ts f'))(h:Pz X w base g A c ts V s)(r:Nat)(h1:1<=r)(h5:r<=5)(hne:binM (run ts f) r s ≠ .out):Calls Tryz.prog 272 #[.pointer (some ⟨g,0,none⟩),.int .i64 (r:Int)] w (IPost X base g A c ts V w (binM (run ts f) r s)):=by
 obtain⟨R,HR⟩:∃R,R=binM (run ts f) r s:=⟨_,rfl⟩
 rw[<- HR]at hne |-
 unfold binM at HR
 rw[if_neg (by omega)]at HR
 have d5:¬((5:Int)<(r:Int)):=by omega
 have HB:=hid (((hI f (Nat.le_refl _)).z X w base g A c V s h).2.1 (r+1) (by omega) (by omega) (Rs.step_in HR hne))
 have ec:((r+1:Nat):Int)=(r:Int)+1:=by omega
 rw[ec]at HB
 have HK:=hid (And.intro HR (And.intro hne (And.intro hI (And.intro h.px.nx (And.intro h.ok (And.intro h1 h5))))))
 clear HR hne hI h h1 ec
 go_enter Tryz.func272,Tryz.ntmps272
 go_wp2_with (go_at_call 272;refine HB.out.mono ?_)
 rintro e w1 (⟨p,er,hr,rfl,hF⟩ |⟨x,s1,V1,hr1,rfl,hz1,hF1⟩)<;>first|replace hr1:=hid hr1 |replace hr:=hid hr
 ·go_wp2
  exact⟨rfl,.inl ⟨p,er,Rs.step_no HK.out.1 hr.out,rfl,hF⟩⟩
 have HL:=hid (And.intro (Rs.step HK.out.1 hr1.out) (And.intro hz1 hF1))
 clear hz1 hF1 hr1
 go_wp2
 go_loopg [5] f (λgk a5 wr=>∃(l:Int) (sl:St) (Vl:Value),a5 = .int .i64 l/\R=run ts gk (.loop r [l]) sl/\gk<=f/\Pz X wr base g A c ts Vl sl/\Fo w wr g V Vl)
 case atStart=>exact⟨x,s1,V1,rfl,HL.out.1,Nat.le_refl _,HL.out.2.1,HL.out.2.2⟩
 case round=>
  clear HL
  obtain⟨l,sl,Vl,rfl,hR,hg,hz,hF⟩:=hrel
  cases gk with
  |zero=>exact absurd hR HK.out.2.1
  |succ k=>
   replace hR:R=loopM ts (run ts k) r [l] sl:=hR
   unfold loopM at hR
   dsimp only at hR
   have hf:=field36_3 (tkn ts sl)
   have HC:=hid (token_z hz)
   have HO:=hid (λw'=>rowOf_any (w:=w') (tkn ts sl).s)
   have HG:=hid (And.intro hg (And.intro hz hF))
   by_cases q:rowOf (tkn ts sl).s=r
   ·rw[if_pos q]at hR
    have dq:((rowOf (tkn ts sl).s:Int)==(r:Int))=true:=by rw[q];simp
    have HT:=hid (λw' (p:Below wr.heap.size wr w')=>take_z (hz.below p) (.inr (rowOf_ne (by have:=HK.out.2.2.2.2.2.1;omega))))
    have HP:=hid (λw' (p:Pz X w' base g A c ts Vl (takeS sl))=>((HK.out.2.2.1 k (by omega)).z X w' base g A c Vl (takeS sl) p).2.1 (r+1) (by omega) (by omega) (Rs.step_in hR HK.out.2.1))
    have ec:((r+1:Nat):Int)=(r:Int)+1:=by omega
    rw[ec]at HP
    clear q ec hg hz hF
    generalize hv:tokV (tkn ts sl)=v at hf HC
    generalize tkn ts sl=t at *
    unfold tokV at HT hv
    have HR:=hid hR
    clear hR hv
    generalize (rowOf t.s:Int)=ro at *
    go_wp2_with (first|(go_at_call 176;refine HC.out.mono ?_;rintro e w2 ⟨rfl,hb2⟩) |(go_at_call 279;refine(HO.out _).mono ?_;rintro e w3 ⟨rfl,hb3⟩) |(go_at_call 173;refine(HT.out _ (bt hb2 hb3)).mono ?_;rintro e w4 ⟨rfl,hz4,hF4⟩) |(go_at_call 272;refine(HP.out _ (hz4.below (heap1 _ _))).mono ?_))
    rintro e w5 (⟨p,er,hr,rfl,hF⟩ |⟨x2,s2,V2,hr2,rfl,hz5,hF5⟩)<;>first|replace hr2:=hid hr2 |replace hr:=hid hr
    ·go_wp2
     exact⟨rfl,.inl (np_after (((HG.out.2.2.trans (Fo.below (bt hb2 hb3))).trans hF4).trans (Fo.below (heap1 _ _))) (Rs.step_no HR.out hr.out) hF)⟩
    have hT:=(hz4.box (l:=[.int .i64 (t.k:Int),.int .i64 t.n,.int .i64 (t.p:Int),.string (bs t.s)]) hF5).1
    have t2:=(hT.cell 2).trans rfl
    have t3:=(hT.cell 3).trans rfl
    have hsl:s2.nd.length+1<=s2.nx:=by
     have a:=((run_nk ts k _).2.1 (r+1) _ _ hr2.out).1.1
     have b:=HG.out.2.1.hn
     have c1:(takeS sl).nd=sl.nd:=rfl
     have c2:(takeS sl).nx=sl.nx+1:=rfl
     rw[c1,c2]at a
     omega
    have HA:=hid (add_y2 hz5 27 0 (t.p:Int) t.s none 0 0 l x2 hsl)
    have HF:=hid ((((HG.out.2.2.trans (Fo.below (bt hb2 hb3))).trans hF4).trans (Fo.below (heap1 _ _))).trans hF5)
    have HR2:=hid (Rs.step HR.out hr2.out)
    clear hT hz5 hF5 hsl hr2
    go_wp2_with (go_at_call 131;refine HA.out.mono ?_;rintro e w6 (⟨p,er,hr,rfl,hF⟩ |⟨x3,s3,V3,hr3,rfl,hz6,hF6⟩)<;>first|replace hr3:=hid hr3 |replace hr:=hid hr)
    ·cases hr.out
    ·go_roundg k
     case measure=>go_light;omega
     case rel=>
      go_light
      exact⟨x3,s3,V3,rfl,Rs.step HR2.out hr3.out,by have:=HG.out.1;omega,hz6,HF.out.trans hF6⟩
   ·rw[if_neg q]at hR
    have dq:((rowOf (tkn ts sl).s:Int)==(r:Int))=false:=by rw[beq_eq_false_iff_ne];omega
    clear q hg hz hF
    generalize tokV (tkn ts sl)=v at hf HC
    generalize tkn ts sl=t at *
    have HR:=hid hR
    clear hR
    generalize (rowOf t.s:Int)=ro at *
    go_wp2_with (first|(go_at_call 176;refine HC.out.mono ?_;rintro e w2 ⟨rfl,hb2⟩) |(go_at_call 279;refine(HO.out _).mono ?_;rintro e w3 ⟨rfl,hb3⟩))
    go_ret
    exact .inr ⟨l,sl,Vl,HR.out,rfl,HG.out.2.1.below (bt hb2 hb3),HG.out.2.2.trans (Fo.below (bt hb2 hb3))⟩
theorem bin_z {X:Nat->Prop}{w:World}{base g c:Nat}{A:Option Addr}{ts:List Tok}{V:Value}{s:St}{f:Nat}(hI:∀f',f'<=f->Rz ts (run ts f'))(h:Pz X w base g A c ts V s)(r:Nat)(h1:1<=r)(h6:r<=6)(hne:binM (run ts f) r s ≠ .out):Calls Tryz.prog 272 #[.pointer (some ⟨g,0,none⟩),.int .i64 (r:Int)] w (IPost X base g A c ts V w (binM (run ts f) r s)):=by
 by_cases q:r=6
 ·subst q;exact bin_top (hI f (Nat.le_refl _)) h hne
 ·exact bin_low hI h r h1 (by omega) hne
end Go.Proofs.YtedkgofehbecmaaGreatDoor
namespace Go.Proofs.YtedkgofehbecmaaGreatDoor
open Go.Lib (hid)
open Go Go.RowKit
open Tr (Bx heap1 bt gen_world ret_int ret_bool cell_same)
section
variable {X:Nat->Prop} {w0 w w':World} {base g c:Nat} {A:Option Addr} {ts:List Tok} {V0 V V':Value} {s s':St} {v:Value} {l:List Int}
theorem Kd.weak {X':Nat->Prop}{K:Option Addr}{ks:List Int}(h:Kd w X K ks)(k:∀b,X' b->X b):Kd w X' K ks:=λh0=>by
 obtain⟨b,cs,e,hb,hc,hx⟩:=h h0
 exact⟨b,cs,e,hb,hc,λq=>hx (k b q)⟩
theorem Nodes.weak {X':Nat->Prop}{nd:List Nd}(h:Nodes w X base V nd)(k:∀b,X' b->X b):Nodes w X' base V nd:=by
 obtain⟨xs,h1,h2⟩:=h
 refine⟨xs,h1,λj hj =>?_⟩
 obtain⟨K,c,e,hk⟩:=h2 j hj
 exact⟨K,c,e,hk.1.weak k,hk.2⟩
theorem Nodes.more {Y:Nat->Prop}{nd:List Nd}(h:Nodes w X base V nd)(hY:∀b,Y b->w.heap.size<=b):Nodes w (λb=>X b\/Y b) base V nd:=by
 obtain⟨xs,h1,h2⟩:=h
 refine⟨xs,h1,λj hj =>?_⟩
 obtain⟨K,c,e,hk,hkc⟩:=h2 j hj
 refine⟨K,c,e,λh0 =>?_,hkc⟩
 obtain⟨b,cs,e,hb,hc,hx⟩:=hk h0
 refine⟨b,cs,e,hb,hc,λq=>q.elim hx (λy =>?_)⟩
 have:=hY b y
 have:=(Array.getElem?_eq_some_iff.1 hb).1
 omega
theorem Pz.weak {X':Nat->Prop}(h:Pz X w base g A c ts V s)(k:∀b,X' b->X b):Pz X' w base g A c ts V s:=⟨h.px,h.nd.weak k,h.hb,h.gb,h.hA,h.hn,h.h40,h.ok,λb q=>h.hX b (k b q)⟩
structure Rw (X:Nat->Prop) (w0:World) (V0:Value) (w:World) (base g:Nat) (A:Option Addr) (c:Nat) (ts:List Tok) (V:Value) (s:St) (v:Value) (l:List Int):Prop where
 z:Pz (λb=>X b\/v.ownBlock=some b) w base g A c ts V s
 own:w.ownsRow w0.heap.size 3 1 v l.length (l.map (Value.int .i64))
 fo:Fo w0 w g V0 V
 hX0:∀b,X b->b<w0.heap.size
 hb0:base<=w0.heap.size
theorem Rw.pz (h:Rw X w0 V0 w base g A c ts V s v l):Pz X w base g A c ts V s:=h.z.weak (λ_ q =>.inl q)
theorem Rw.nil (h:Pz X w base g A c ts V s):Rw X w V w base g A c ts V s (.slice none 0 0) []:=
 ⟨h.weak (λ_ q=>q.elim id (λe=>absurd e (by simp[Value.ownBlock]))),World.ownsRow_nil w w.heap.size 3 1,Fo.refl _ _ _,h.hX,h.hb⟩
theorem Rw.apart (h:Rw X w0 V0 w base g A c ts V s v l){b:Nat}(hb:v.ownBlock=some b):¬PE g V b:=λe=>by
 rcases h.own.2 with⟨e1,_⟩ |⟨b',cap,cur,e1,_,e3,_⟩
 ·rw[e1]at hb;exact absurd hb (by simp[Value.ownBlock])
 rw[e1]at hb
 obtain rfl:b'=b:=by simpa [Value.ownBlock]using hb
 rcases e with e |e
 ·subst e
  have:=e3.symm.trans h.z.px.box
  simp at this
 ·obtain⟨xs,ho,_⟩:=h.z.nd
  rcases ho.2 with⟨q1,_⟩ |⟨b2,cap2,cur2,q1,_,q3,_⟩
  ·rw[q1]at e;exact absurd e (by simp[Value.ownBlock])
  ·rw[q1]at e
   obtain rfl:b2=b':=by simpa [Value.ownBlock]using e
   have:=e3.symm.trans q3
   simp at this
theorem own_kept {E:Nat->Prop}{b0:Nat}{xs:List Value}{n:Nat}(h:w.ownsRow b0 3 1 v n xs)(k:Fr E w w')(hE:∀b,v.ownBlock=some b->¬E b):w'.ownsRow b0 3 1 v n xs:=by
 refine⟨h.1,h.2.imp id ?_⟩
 rintro⟨b,cap,cur,h1,h2,h3,h4⟩
 exact⟨b,cap,cur,h1,h2,(k.block b (Array.getElem?_eq_some_iff.1 h3).1 (hE b (by rw[h1];rfl))).trans h3,h4⟩
theorem Rw.step (h:Rw X w0 V0 w base g A c ts V s v l)(z':Pz (λb=>X b\/v.ownBlock=some b) w' base g A c ts V' s')(f:Fo w w' g V V'):Rw X w0 V0 w' base g A c ts V' s' v l:=
 ⟨z',own_kept h.own f.fr (λ_ hb=>h.apart hb),h.fo.trans f,h.hX0,h.hb0⟩
theorem Rw.below (h:Rw X w0 V0 w base g A c ts V s v l)(hb:Below w.heap.size w w'):Rw X w0 V0 w' base g A c ts V s v l:=h.step (h.z.below hb) (Fo.below hb)
theorem Rw.kd (h:Rw X w0 V0 w base g A c ts V s v l):∃K cc,v = .slice K l.length cc/\Kd w X K l:=by
 rcases h.own.2 with⟨e1,e2⟩ |⟨b,cap,cur,e1,e2,e3,_,_,_,e4⟩
 ·exact⟨none,0,by rw[e1,e2],λh0=>by omega⟩
 ·refine⟨_,_,e1,λ_=>⟨b,cur,rfl,e3,λj hj =>?_,λq=>by have:=h.hX0 b q;omega⟩⟩
  have e5:(cur.toList.take (l.length*1))[j]?=some (.int .i64 l[j]):=by rw[e4];simp[hj]
  rw[List.getElem?_take]at e5
  split at e5
  ·simpa using e5
  ·cases e5
theorem info3:(Tryz.prog.info? 3).map (λi=>(i.zero,i.size,i.bytes))=some (some (.int .i64 0),1,8):=by kernel_rfl
theorem Rw.grown {v':Value}{ms:List Int}(h:Rw X w0 V0 w base g A c ts V s v l)(ho:w'.ownsRow w0.heap.size 3 1 v' (l++ms).length ((l++ms).map (Value.int .i64)))(hg:w.grownBy w' v.ownBlock)(hf:∀k,v'.ownBlock=some k->v.ownBlock=some k\/w.heap.size<=k):Rw X w0 V0 w' base g A c ts V s v' (l++ms):=by
 have hfr:Fr (λb=>v.ownBlock=some b) w w':=⟨hg.os,hg.tape,hg.output,hg.size,λb hb hE=>hg.block b hb (λe=>hE e.symm)⟩
 have hap:∀b,v.ownBlock=some b->¬PE g V b:=λb hb=>h.apart hb
 have hlow:∀b,v.ownBlock=some b->w0.heap.size<=b:=λb hb=>(h.own.lt b hb).1
 have hz:=h.z
 have hbx:Bx w' g 151 [.slice A ts.length c,.int .i64 (s.nx:Int),V,.int .i64 (s.op:Int),.int .i64 (s.mo:Int)]:=Bx.fr hz.px.box hfr (λe=>hap g e (.inl rfl))
 have htk:Toks w' A ts:=hz.px.toks.fr hfr (λa ha e=>by have:=hz.hA a ha;have:=hlow _ e;have:=h.hb0;omega)
 obtain⟨xs,hn1,hn2⟩:=hz.nd.more (Y:=λb=>v'.ownBlock=some b/\w.heap.size<=b) (λb q=>q.2)
 have hnd:Nodes w' (λb=>X b\/v'.ownBlock=some b) base V s.nd:=by
  refine⟨xs,?_,λj hj =>?_⟩
  ·refine⟨hn1.1,hn1.2.imp id ?_⟩
   rintro⟨b,cap,cur,h1,h2,h3,h4⟩
   exact⟨b,cap,cur,h1,h2,(hfr.block b (Array.getElem?_eq_some_iff.1 h3).1 (λe=>hap b e (.inr (by rw[h1];rfl)))).trans h3,h4⟩
  ·obtain⟨K,c,e,hk,hkc⟩:=hn2 j hj
   refine⟨K,c,e,λh0 =>?_,hkc⟩
   obtain⟨b,cs,e,hb,hc,hx⟩:=hk h0
   refine⟨b,cs,e,(hfr.block b (Array.getElem?_eq_some_iff.1 hb).1 (λq=>hx (.inl (.inr q)))).trans hb,hc,λq=>hx (q.elim (λq =>.inl (.inl q)) (λq =>?_))⟩
   exact(hf b q).elim (λr =>.inl (.inr r)) (λr =>.inr ⟨q,r⟩)
 refine⟨⟨⟨hbx,htk,hz.px.len,hz.px.nx,hz.px.op,hz.px.mo,hz.px.ne⟩,hnd,Nat.le_trans hz.hb hg.size,hz.gb,hz.hA,hz.hn,hz.h40,hz.ok,λb q=>q.elim (λq=>Nat.lt_of_lt_of_le (hz.hX b (.inl q)) hg.size) (λq=>(ho.lt b q).2)⟩,ho,?_,h.hX0,h.hb0⟩
 refine⟨⟨hg.os.trans h.fo.fr.os,hg.tape.trans h.fo.fr.tape,hg.output.trans h.fo.fr.output,Nat.le_trans h.fo.fr.size hg.size,λb hb hE =>?_⟩,h.fo.own⟩
 exact(hfr.block b (Nat.lt_of_lt_of_le hb h.fo.fr.size) (λe=>by have:=hlow b e;omega)).trans (h.fo.fr.block b hb hE)
theorem rw_append {ops:Array Oper}{rest:List Oper}{o:Oper}{a:Act}{Q:Exit->Act->World->Prop}(hgd:o.guard=none)(p x:Operand)
  (ho:o.op = .call { callee :=.builtin .append,args := #[p,x],argTypes := #[28,28] }) (h:Rw X w0 V0 w base g A c ts V s v l) (hs:a.eval p=v)
  (ad:Addr) (m cc:Nat) (ms:List Int) (hx:a.eval x = .slice (some ad) m cc) (hm:m=ms.length) (hsrc:∀j u,(ms.map (Value.int .i64))[j]?=some u->w.cell? (ad.add j)=some u) (hlen:l.length+ms.length<=1000000)
  (hk:∀v' w',Rw X w0 V0 w' base g A c ts V s v' (l++ms)->wpList Tryz.prog ops Q rest (a.put o.dst v') w'):wpList Tryz.prog ops Q (o :: rest) a w:=by
 obtain⟨i0,hi,hz0,hz1,hz2⟩:=info_parts info3
 refine wpList_plain hgd λK hK =>?_
 refine wp_append_own2 w p x 28 ho w0.heap.size 3 i0 (.int .i64 0) 1 8 Tryz.underlying28 hi hz0 hz1 hz2 rfl (by decide) v l.length (l.map (Value.int .i64)) hs h.own ad m cc (ms.map (Value.int .i64)) hx (by rw[List.length_map,hm];omega) hsrc ?_ (by unfold maxLen;omega) (by omega) h.fo.fr.size ?_
 ·intro u hu
  obtain⟨z,_,rfl⟩:=List.mem_map.1 hu
  rfl
 ·intro v' w' h2 h3 h4
  refine hK _ _ (hk v' w' (h.grown ?_ h3 h4))
  rw[List.length_append,<- hm,List.map_append]
  exact h2
theorem rw_append1 {ops:Array Oper}{rest:List Oper}{o:Oper}{a:Act}{Q:Exit->Act->World->Prop}(hgd:o.guard=none)(p x:Operand)
  (ho:o.op = .call { callee :=.builtin .append,args := #[p,x],argTypes := #[28,28] }) (n:Int) (h:Rw X w0 V0 w base g A c ts V s v l) (hs:a.eval p=v)
  (hx:a.eval x = .slice (some ⟨w.heap.size,0,none⟩) 1 1) (hlen:l.length<=900000)
  (hk:∀v' w',Rw X w0 V0 w' base g A c ts V s v' (l++[n])->wpList Tryz.prog ops Q rest (a.put o.dst v') w'):wpList Tryz.prog ops Q (o :: rest) a (w.alloc (.cells #[.int .i64 n] 3)):=
 rw_append hgd p x ho (h.below (heap1 w (.cells #[.int .i64 n] 3))) hs ⟨w.heap.size,0,none⟩ 1 1 [n] hx rfl (blk_cells w [.int .i64 n] 3) (by simp;omega) hk
def LPost (X:Nat->Prop)(base g:Nat)(A:Option Addr)(c:Nat)(ts:List Tok)(V:Value)(w:World)(R:Rs)(e:Ending)(w':World):Prop:=
 NP g V w R e w'\/∃l s' V' v,R = .ok l s'/\e = .returned v/\Rw X w V w' base g A c ts V' s' v l/\l.length<=s'.nx
end
end Go.Proofs.YtedkgofehbecmaaGreatDoor
namespace Go.Proofs.YtedkgofehbecmaaGreatDoor.Tr
open Go.Lib (hid)
open Go
open Go Go.RowKit
open Go Go.RowKit Go.Shelf
attribute [local go_sem] Oper.semAt_some
attribute [local go_sem] Oper.semAt_some
theorem own_slice {base n:Nat}{v:Value}{ls:List Value}{w:World}(h:w.ownsRow base 50 5 v n ls):∃A c,v = .slice A n c:=by
 rcases h.2 with⟨rfl,e⟩ |⟨g,cap,cur,rfl,_⟩
 ·exact⟨_,_,by rw[e]⟩
 ·exact⟨_,_,rfl⟩
theorem own_below {base n:Nat}{v:Value}{ls:List Value}{w w':World}(h:w.ownsRow base 50 5 v n ls)(hb:Below w.heap.size w w'):w'.ownsRow base 50 5 v n ls:=
 ⟨h.1,h.2.imp id λ⟨g,cap,cur,h1,h2,h3,h4⟩=>⟨g,cap,cur,h1,h2,(hb.block g (Array.getElem?_eq_some_iff.1 h3).1).trans h3,h4⟩⟩
end Go.Proofs.YtedkgofehbecmaaGreatDoor.Tr
namespace Go.Proofs.YtedkgofehbecmaaGreatDoor
open Go.Lib (hid)
section
open Go Go.RowKit
open Tr (nth stmB expB allB kidB ndB shB txB numB dpt Snd sndB rgB)
theorem snd_ahead {l:List Tr.Nd}{r:Int}(h:Snd l r):Ahead l:=by
 obtain⟨b,_,_,_,hS,_⟩:=h
 exact ahead_of hS λq hq=>hS.le q hq
end
end Go.Proofs.YtedkgofehbecmaaGreatDoor
namespace Go.Proofs.YtedkgofehbecmaaGreatDoor
open Go.Lib (hid)
open Go Go.RowKit
open Tr (Bx heap1 bt Nds Ints)
theorem own_ints {base:Nat}{v:Value}{l:List Int}{w:World}(h:w.ownsRow base 3 1 v l.length (l.map (Value.int .i64))):∃A c,v = .slice A l.length c/\Ints w A l:=by
 rcases h.2 with⟨e,e2⟩ |⟨g,cap,cur,rfl,h2,h3,h4⟩
 ·exact⟨none,0,by rw[e,e2],λh0=>by omega⟩
 ·refine⟨_,_,rfl,λ_=>⟨g,0,rfl,(Array.getElem?_eq_some_iff.1 h3).1,λj hj =>?_⟩⟩
  have:=h.cellAt j (by omega)
  rw[Nat.zero_add,this,List.getElem?_map,List.getElem?_eq_getElem hj]
  rfl
theorem own_block {base n:Nat}{v:Value}{xs:List Value}{w:World}(h:w.ownsRow base 3 1 v n xs):∀g,v.ownBlock=some g->base<=g/\g<w.heap.size/\∃cs,w.heap[g]?=some (.cells cs 3 (0,0)):=λg hg=>by
 rcases h.2 with⟨e,_⟩ |⟨g',cap,cur,rfl,h2,h3,h4⟩
 ·rw[e]at hg;simp[Value.ownBlock]at hg
 ·simp only[Value.ownBlock,Option.some.injEq]at hg
  subst hg
  exact⟨h2,(Array.getElem?_eq_some_iff.1 h3).1,_,h3⟩
end Go.Proofs.YtedkgofehbecmaaGreatDoor
