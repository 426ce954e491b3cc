/- PROVED here: parts N11 of the claim. No condition but those in each theorem's own head. -/
import Derived.Test.YtedkgofehbecmaaGreatDoorU10
namespace Go.Proofs.YtedkgofehbecmaaGreatDoor
open Go.Lib (hid)
open Go Go.RowKit
open Tr (Bx heap1 bt gen_world ret_int ret_bool cell_same)
set_option maxRecDepth 100000 in
set_option maxHeartbeats 1500000 in
theorem vars_z {X:Nat->Prop}{w:World}{base g c:Nat}{A:Option Addr}{ts:List Tok}{V:Value}{s:St}{f:Nat}(h:Pz X w base g A c ts V s)(kd:Nat)(hne:run ts f (.vars kd []) s ≠ .out):Calls Tryz.prog 127 #[.pointer (some ⟨g,0,none⟩),.int .i64 (kd:Int)] w (LPost X base g A c ts V w (run ts f (.vars kd []) s)):=by
 obtain⟨R,HR⟩:∃R,R=run ts f (.vars kd []) s:=⟨_,rfl⟩
 rw[<- HR]at hne |-
 have H0:=hid (And.intro HR (And.intro hne (Rw.nil h)))
 clear HR hne h
 go_enter Tryz.func127,Tryz.ntmps127
 go_wp2
 go_loopg [5] f (λgk a5 wr=>∃(l:List Int) (sl:St) (Vl v5:Value),v5=a5/\R=run ts gk (.vars kd l) sl/\Rw X w V wr base g A c ts Vl sl v5 l/\l.length<=sl.nx)
 case atStart=>exact⟨[],s,V,_,rfl,H0.out.1,H0.out.2.2,Nat.zero_le _⟩
 case round=>
  obtain⟨l,sl,Vl,v5,rfl,hR,hw,hl⟩:=hrel
  cases gk with
  |zero=>exact absurd hR H0.out.2.1
  |succ k=>
   replace hR:R=varsM ts (run ts k) kd l sl:=hR
   unfold varsM at hR
   have hf:=field36_2 (tkn ts sl)
   have HS:=hid (sees_z hw.z wVar)
   have HG:=hid (And.intro hw hl)
   cases q:sees ts wVar sl with
   |true=>
    rw[q]at HS
    rw[if_pos q]at hR
    have HT:=hid (λw' (p:Below wr.heap.size wr w')=>take_z (hw.z.below p) (.inr (by have e:(tkn ts sl).s=wVar:=(by simpa [sees]using q);rw[e];decide)))
    have HP:=hid (λw' (p:Pz (λb=>X b\/v5.ownBlock=some b) w' base g A c ts Vl (takeS sl))=>typed_z p kd ((tkn ts sl).p:Int))
    have HR:=hid hR
    generalize tokV (tkn ts sl)=tv at *
    generalize ((tkn ts sl).p:Int)=p0 at *
    clear q hR hw hl
    go_wp2_with (first|(go_at_call 128;refine HS.out.mono ?_;rintro e w2 ⟨rfl,hb2⟩) |(go_at_call 173;refine(HT.out _ hb2).mono ?_;rintro e w3 ⟨rfl,hz3,hF3⟩) |(go_at_call 174;refine(HP.out _ hz3).mono ?_;rintro e w4 (⟨p,er,hr,rfl,hF⟩ |⟨x4,s4,V4,hr4,rfl,hz4,hF4⟩)<;>first|replace hr4:=hid hr4 |replace hr:=hid hr) |(at_builtin;refine rw_append1 rfl _ _ rfl x4 (((HG.out.1.below hb2).step hz3 hF3).step hz4 hF4) rfl rfl (by have:=HG.out.2;have:=HG.out.1.z.len;omega) ?_;intro v6 w6 hw6) |(go_at_call 175;refine(expect_z hw6.z [59] (by decide)).mono ?_;rintro e w7 (⟨p,er,hr,rfl,hF⟩ |⟨s7,hr7,rfl,hz7,hF7⟩)<;>first|replace hr7:=hid hr7 |replace hr:=hid hr))
    ·exact⟨rfl,.inl (np_after (((HG.out.1.below hb2).step hz3 hF3).fo) (Rs.step_no HR.out hr.out) hF)⟩
    ·exact⟨rfl,.inl (np_after hw6.fo (Rs.step_no (Rs.step HR.out hr4.out) hr.out) hF)⟩
    ·go_roundg k
     case measure=>go_light;omega
     case rel=>
      go_light
      refine⟨l++[x4],s7,V4,_,rfl,Rs.step (Rs.step HR.out hr4.out) hr7.out,hw6.step hz7 hF7,?_⟩
      have a:=(nk_typed ts _ kd _ _ _ hr4.out).1.2
      have b:=(nk_exp ts _ _ _ _ hr7.out).1.2
      have c1:(takeS sl).nx=sl.nx+1:=rfl
      have:=HG.out.2
      simp only[List.length_append,List.length_cons,List.length_nil]
      omega
   |false=>
    rw[q]at HS
    rw[if_neg (by rw[q];decide)]at hR
    have HR:=hid hR
    clear q hR hw hl
    go_wp2_with (go_at_call 128;refine HS.out.mono ?_;rintro e w2 ⟨rfl,hb2⟩)
    go_ret
    exact .inr ⟨l,sl,Vl,v5,HR.out,rfl,HG.out.1.below hb2,HG.out.2⟩
theorem Rw.kle {X:Nat->Prop}{w0 w:World}{base g c n cc:Nat}{A K:Option Addr}{ts:List Tok}{V0 V:Value}{s:St}{l:List Int}(h:Rw X w0 V0 w base g A c ts V s (.slice K n cc) l):n<=cc:=by
 rcases h.own.2 with⟨e1,_⟩ |⟨g',cap,cur,e1,_,_,h4,_⟩
 ·injection e1 with _ e2 e3
  omega
 ·injection e1 with _ e2 e3
  omega
theorem Rw.kds {X:Nat->Prop}{w0 w:World}{base g c n cc:Nat}{A K:Option Addr}{ts:List Tok}{V0 V:Value}{s:St}{l:List Int}(h:Rw X w0 V0 w base g A c ts V s (.slice K n cc) l):Kd w X K l/\n=l.length:=by
 obtain⟨K',cc',e,hk⟩:=h.kd
 injection e with e1 e2 e3
 subst e1
 exact⟨hk,e2⟩
set_option maxRecDepth 100000 in
set_option maxHeartbeats 1500000 in
theorem stmts_z {X:Nat->Prop}{w:World}{base g c:Nat}{A:Option Addr}{ts:List Tok}{V:Value}{s:St}{f:Nat}(hI:∀f',f'<f->Rz ts (run ts f'))(h:Pz X w base g A c ts V s)(pl:Int)(ho:1<=s.op)(hne:run ts f (.stmts pl []) s ≠ .out):Calls Tryz.prog 182 #[.pointer (some ⟨g,0,none⟩),.int .i64 pl] w (IPost X base g A c ts V w (run ts f (.stmts pl []) s)):=by
 obtain⟨R,HR⟩:∃R,R=run ts f (.stmts pl []) s:=⟨_,rfl⟩
 rw[<- HR]at hne |-
 have H0:=hid (And.intro HR (And.intro hne (And.intro (Rw.nil h) (And.intro ho hI))))
 clear HR hne h ho hI
 go_enter Tryz.func182,Tryz.ntmps182
 go_wp2
 go_loopg [5] f (λgk a5 wr=>∃(l:List Int) (sl:St) (Vl v5:Value),v5=a5/\R=run ts gk (.stmts pl l) sl/\Rw X w V wr base g A c ts Vl sl v5 l/\l.length<=sl.nx/\sl.op=s.op/\gk<=f)
 case atStart=>exact⟨[],s,V,_,rfl,H0.out.1,H0.out.2.2.1,Nat.zero_le _,rfl,Nat.le_refl _⟩
 case round=>
  obtain⟨l,sl,Vl,v5,rfl,hR,hw,hl,hop,hgk⟩:=hrel
  cases gk with
  |zero=>exact absurd hR H0.out.2.1
  |succ k=>
   replace hR:R=stmtsM ts (run ts k) pl l sl:=hR
   unfold stmtsM at hR
   obtain⟨K5,c5,rfl,_⟩:=hw.kd
   have HS:=hid (sees_z hw.z [125])
   have HG:=hid (And.intro hw (And.intro hl (And.intro hop hgk)))
   cases q:sees ts [125] sl with
   |false=>
    rw[q]at HS
    rw[if_neg (by rw[q];decide)]at hR
    have HP:=hid (λw' (p:Pz (λb=>X b\/(Value.slice K5 l.length c5).ownBlock=some b) w' base g A c ts Vl sl)=>((H0.out.2.2.2.2 k (by omega)).z _ w' base g A c Vl sl p).2.2.1 (Rs.step_in hR H0.out.2.1))
    have HR:=hid hR
    clear q hR hw hl hop hgk
    go_wp2_with (first|(go_at_call 128;refine HS.out.mono ?_;rintro e w2 ⟨rfl,hb2⟩) |(go_at_call 213;refine(HP.out _ (HG.out.1.below hb2).z).mono ?_;rintro e w4 (⟨p,er,hr,rfl,hF⟩ |⟨x4,s4,V4,hr4,rfl,hz4,hF4⟩)<;>first|replace hr4:=hid hr4 |replace hr:=hid hr) |(at_builtin;refine rw_append1 rfl _ _ rfl x4 ((HG.out.1.below hb2).step hz4 hF4) rfl rfl (by have:=HG.out.2;have:=HG.out.1.z.len;omega) ?_;intro v6 w6 hw6))
    ·exact⟨rfl,.inl (np_after ((HG.out.1.below hb2).fo) (Rs.step_no HR.out hr.out) hF)⟩
    ·go_roundg k
     case measure=>go_light;omega
     case rel=>
      go_light
      have a:=okr_ok ((H0.out.2.2.2.2 k (by have:=HG.out.2.2.2;omega)).ok sl HG.out.1.z.len.1 |>.2.2.2.2.1 (.inl trivial)) hr4.out
      have b:=HG.out.2
      refine⟨l++[x4],s4,V4,_,rfl,Rs.step HR.out hr4.out,hw6,?_,by omega,by omega⟩
      simp only[List.length_append,List.length_cons,List.length_nil]
      omega
   |true=>
    rw[q]at HS
    rw[if_pos q]at hR
    have HR:=hid hR
    clear q hR hw hl hop hgk
    go_wp2_with (first|(go_at_call 128;refine HS.out.mono ?_;rintro e w2 ⟨rfl,hb2⟩) |(go_at_call 211;refine(finish_z (HG.out.1.below hb2).z [125] (by decide) (by have:=HG.out.2.2.1;have:=H0.out.2.2.2.1;omega)).mono ?_))
    rintro e w4 (⟨p,er,hr,rfl,hF⟩ |⟨s8,hr8,rfl,hz8,hF8⟩)<;>first|replace hr8:=hid hr8 |replace hr:=hid hr
    ·go_wp2
     exact⟨rfl,.inl (np_after (HG.out.1.below hb2).fo (Rs.step_no HR.out hr.out) hF)⟩
    have hw8:=(HG.out.1.below hb2).step hz8 hF8
    have hsl:s8.nd.length+1<=s8.nx:=by
     have a:=(nk_fin ts _ _ _ _ hr8.out).1.1
     have b:=HG.out.1.z.hn
     omega
    have HA:=hid (add_y hw8.pz 6 0 pl [] none K5 0 0 l.length c5 l hw8.kds.1 ⟨rfl,hw8.kle⟩ hsl)
    have HR8:=hid (Rs.step HR.out hr8.out)
    have HF:=hid hw8.fo
    clear hz8 hF8 hw8 hsl hr8
    go_wp2_with (go_at_call 131;refine(HA.out).mono ?_;rintro e w9 (⟨p,er,hr,rfl,hF⟩ |⟨x9,s9,V9,hr,rfl,hz9,hF9⟩)<;>replace hr:=hid hr)
    ·cases hr.out
    ·go_ret
     exact .inr ⟨x9,s9,V9,HR8.out.trans hr.out,rfl,hz9,HF.out.trans hF9⟩
set_option maxRecDepth 100000 in
set_option maxHeartbeats 1500000 in
theorem list_z {X:Nat->Prop}{w:World}{base g c:Nat}{A:Option Addr}{ts:List Tok}{V:Value}{s:St}{f:Nat}(hI:∀f',f'<=f->Rz ts (run ts f'))(h:Pz X w base g A c ts V s)(hne:listM ts (run ts f) s ≠ .out):Calls Tryz.prog 178 #[.pointer (some ⟨g,0,none⟩),.func (.func 252) #[.pointer (some ⟨g,0,none⟩)] #[]] w (LPost X base g A c ts V w (listM ts (run ts f) s)):=by
 obtain⟨R,HR⟩:∃R,R=listM ts (run ts f) s:=⟨_,rfl⟩
 rw[<- HR]at hne |-
 unfold listM at HR
 have HB:=hid (begin_z h [40] (by decide))
 have H0:=hid (And.intro HR (And.intro hne (And.intro h hI)))
 clear HR hne h hI
 go_enter Tryz.func178,Tryz.ntmps178
 go_wp2_with (go_at_call 181;refine HB.out.mono ?_)
 rintro e w1 (⟨p,er,hr,rfl,hF⟩ |⟨s1,hr1,rfl,hz1,hF1⟩)<;>first|replace hr1:=hid hr1 |replace hr:=hid hr
 ·go_wp2
  exact⟨rfl,.inl ⟨p,er,Rs.step_no H0.out.1 hr.out,rfl,hF⟩⟩
 have hop1:=beg_op H0.out.2.2.1.ok (by decide) H0.out.2.2.1.px.nx hr1.out
 have hR1:=Rs.step H0.out.1 hr1.out
 have hw1:Rw X w V w1 base g A c ts V s1 (.slice none 0 0) []:=(Rw.nil H0.out.2.2.1).step (hz1.weak (λ_ q=>q.elim id (λe=>absurd e (by simp[Value.ownBlock])))) hF1
 have HS:=hid (sees_z hw1.z [41])
 generalize tokV (tkn ts s)=tv at *
 clear hr1 hz1 hF1 HB
 cases q:sees ts [41] s1 with
 |true=>
  rw[q]at HS
  rw[if_pos q]at hR1
  have HW:=hid (And.intro hR1 (And.intro hw1 hop1))
  clear hR1 hw1 hop1 q
  go_wp2_with (go_at_call 128;refine HS.out.mono ?_;rintro e w2 ⟨rfl,hb2⟩)
  go_loopg [5] f (λgk a5 wr=>∃(l:List Int) (sl:St) (Vl v5:Value),v5=a5/\R=run ts gk (.exprs l) sl/\Rw X w V wr base g A c ts Vl sl v5 l/\l.length<=sl.nx/\sl.op=s.op+1/\gk<=f)
  case atStart=>exact⟨[],s1,V,_,rfl,HW.out.1,HW.out.2.1.below hb2,Nat.zero_le _,HW.out.2.2.2.2,Nat.le_refl _⟩
  case round=>
   obtain⟨l,sl,Vl,v5,rfl,hR,hw,hl,hop,hgk⟩:=hrel
   cases gk with
   |zero=>exact absurd hR H0.out.2.1
   |succ k=>
    replace hR:R=exprsM ts (run ts k) l sl:=hR
    unfold exprsM at hR
    have HS:=hid (sees_z hw.z [44])
    have HG:=hid (And.intro hw (And.intro hl (And.intro hop hgk)))
    cases q:sees ts [44] sl with
    |true=>
     rw[q]at HS
     rw[if_pos q]at hR
     have HT:=hid (λw' (p:Below wr.heap.size wr w')=>take_z (hw.z.below p) (.inr (by have e:(tkn ts sl).s=[44]:=(by simpa [sees]using q);rw[e];decide)))
     have HP:=hid (λw' (p:Pz (λb=>X b\/v5.ownBlock=some b) w' base g A c ts Vl (takeS sl))=>expr_z (H0.out.2.2.2 k (by omega)) p (Rs.step_in hR H0.out.2.1))
     have HR:=hid hR
     generalize tokV (tkn ts sl)=tv at *
     clear q hR hw hl hop hgk
     go_wp2_with (first|(go_at_call 128;refine HS.out.mono ?_;rintro e w2 ⟨rfl,hb2⟩) |(go_at_call 173;refine(HT.out _ hb2).mono ?_;rintro e w3 ⟨rfl,hz3,hF3⟩) |(go_at_call 252;refine(HP.out _ hz3).mono ?_;rintro e w4 (⟨p,er,hr,rfl,hF⟩ |⟨x4,s4,V4,hr4,rfl,hz4,hF4⟩)<;>first|replace hr4:=hid hr4 |replace hr:=hid hr) |(at_builtin;refine rw_append1 rfl _ _ rfl x4 (((HG.out.1.below hb2).step hz3 hF3).step hz4 hF4) rfl rfl (by have:=HG.out.2;have:=HG.out.1.z.len;omega) ?_;intro v6 w6 hw6))
     ·exact⟨rfl,.inl (np_after (((HG.out.1.below hb2).step hz3 hF3).fo) (Rs.step_no HR.out hr.out) hF)⟩
     ·go_roundg k
      case measure=>go_light;omega
      case rel=>
       go_light
       have a:=expr_op (H0.out.2.2.2 k (by have:=HG.out.2.2.2;omega)) hz3.len.1 hr4.out
       have b:=HG.out.2
       have c1:(takeS sl).nx=sl.nx+1:=rfl
       have c2:(takeS sl).op=sl.op:=rfl
       refine⟨l++[x4],s4,V4,_,rfl,Rs.step HR.out hr4.out,hw6,?_,by omega,by omega⟩
       simp only[List.length_append,List.length_cons,List.length_nil]
       omega
    |false=>
     rw[q]at HS
     rw[if_neg (by rw[q];decide)]at hR
     have HR:=hid hR
     clear q hR hw hl hop hgk
     go_wp2_with (first|(go_at_call 128;refine HS.out.mono ?_;rintro e w2 ⟨rfl,hb2⟩) |(go_at_call 211;refine(finish_z (HG.out.1.below hb2).z [41] (by decide) (by have:=HG.out.2.2.1;omega)).mono ?_;rintro e w8 (⟨p,er,hr,rfl,hF⟩ |⟨s8,hr8,rfl,hz8,hF8⟩)<;>first|replace hr8:=hid hr8 |replace hr:=hid hr))
     ·exact⟨rfl,.inl (np_after (HG.out.1.below hb2).fo (Rs.step_no HR.out hr.out) hF)⟩
     ·go_ret
      refine .inr ⟨l,s8,Vl,v5,(Rs.step HR.out hr8.out :),rfl,(HG.out.1.below hb2).step hz8 hF8,?_⟩
      have a:=(nk_fin ts _ _ _ _ hr8.out).1.2
      have b:=HG.out.2.1
      omega
 |false=>
  rw[q]at HS
  rw[if_neg (by rw[q];decide)]at hR1
  have HP:=hid (λw' (p:Pz (λb=>X b\/(Value.slice none 0 0).ownBlock=some b) w' base g A c ts V s1)=>expr_z (H0.out.2.2.2 f (by omega)) p (Rs.step_in hR1 H0.out.2.1))
  have HW:=hid (And.intro hR1 (And.intro hw1 hop1))
  clear hR1 hw1 hop1 q
  go_wp2_with (first|(go_at_call 128;refine HS.out.mono ?_;rintro e w2 ⟨rfl,hb2⟩) |(go_at_call 252;refine(HP.out _ (HW.out.2.1.below hb2).z).mono ?_;rintro e w3 (⟨p,er,hr,rfl,hF⟩ |⟨x3,s3,V3,hr3,rfl,hz3,hF3⟩)<;>first|replace hr3:=hid hr3 |replace hr:=hid hr) |(at_builtin;refine rw_append1 rfl _ _ rfl x3 ((HW.out.2.1.below hb2).step hz3 hF3) rfl rfl (by simp) ?_;intro v3 w6 hw6))
  ·exact⟨rfl,.inl (np_after (HW.out.2.1.below hb2).fo (Rs.step_no HW.out.1 hr.out) hF)⟩
  have HW6:=hid hw6
  clear hw6 hz3 hF3
  go_loopg [5] f (λgk a5 wr=>∃(l:List Int) (sl:St) (Vl v5:Value),v5=a5/\R=run ts gk (.exprs l) sl/\Rw X w V wr base g A c ts Vl sl v5 l/\l.length<=sl.nx/\sl.op=s.op+1/\gk<=f)
  case atStart=>
   have a:=expr_op (H0.out.2.2.2 f (Nat.le_refl _)) HW.out.2.2.2.1 hr3.out
   have b:=HW.out.2.2
   exact⟨[x3],s3,V3,_,rfl,Rs.step HW.out.1 hr3.out,HW6.out,by simp only[List.length_cons,List.length_nil];omega,by omega,Nat.le_refl _⟩
  case round=>
   obtain⟨l,sl,Vl,v5,rfl,hR,hw,hl,hop,hgk⟩:=hrel
   cases gk with
   |zero=>exact absurd hR H0.out.2.1
   |succ k=>
    replace hR:R=exprsM ts (run ts k) l sl:=hR
    unfold exprsM at hR
    have HS:=hid (sees_z hw.z [44])
    have HG:=hid (And.intro hw (And.intro hl (And.intro hop hgk)))
    cases q:sees ts [44] sl with
    |true=>
     rw[q]at HS
     rw[if_pos q]at hR
     have HT:=hid (λw' (p:Below wr.heap.size wr w')=>take_z (hw.z.below p) (.inr (by have e:(tkn ts sl).s=[44]:=(by simpa [sees]using q);rw[e];decide)))
     have HP:=hid (λw' (p:Pz (λb=>X b\/v5.ownBlock=some b) w' base g A c ts Vl (takeS sl))=>expr_z (H0.out.2.2.2 k (by omega)) p (Rs.step_in hR H0.out.2.1))
     have HR:=hid hR
     generalize tokV (tkn ts sl)=tv at *
     clear q hR hw hl hop hgk
     go_wp2_with (first|(go_at_call 128;refine HS.out.mono ?_;rintro e w2 ⟨rfl,hb2⟩) |(go_at_call 173;refine(HT.out _ hb2).mono ?_;rintro e w3 ⟨rfl,hz3,hF3⟩) |(go_at_call 252;refine(HP.out _ hz3).mono ?_;rintro e w4 (⟨p,er,hr,rfl,hF⟩ |⟨x4,s4,V4,hr4,rfl,hz4,hF4⟩)<;>first|replace hr4:=hid hr4 |replace hr:=hid hr) |(at_builtin;refine rw_append1 rfl _ _ rfl x4 (((HG.out.1.below hb2).step hz3 hF3).step hz4 hF4) rfl rfl (by have:=HG.out.2;have:=HG.out.1.z.len;omega) ?_;intro v6 w6 hw6))
     ·exact⟨rfl,.inl (np_after (((HG.out.1.below hb2).step hz3 hF3).fo) (Rs.step_no HR.out hr.out) hF)⟩
     ·go_roundg k
      case measure=>go_light;omega
      case rel=>
       go_light
       have a:=expr_op (H0.out.2.2.2 k (by have:=HG.out.2.2.2;omega)) hz3.len.1 hr4.out
       have b:=HG.out.2
       have c1:(takeS sl).nx=sl.nx+1:=rfl
       have c2:(takeS sl).op=sl.op:=rfl
       refine⟨l++[x4],s4,V4,_,rfl,Rs.step HR.out hr4.out,hw6,?_,by omega,by omega⟩
       simp only[List.length_append,List.length_cons,List.length_nil]
       omega
    |false=>
     rw[q]at HS
     rw[if_neg (by rw[q];decide)]at hR
     have HR:=hid hR
     clear q hR hw hl hop hgk
     go_wp2_with (first|(go_at_call 128;refine HS.out.mono ?_;rintro e w2 ⟨rfl,hb2⟩) |(go_at_call 211;refine(finish_z (HG.out.1.below hb2).z [41] (by decide) (by have:=HG.out.2.2.1;omega)).mono ?_;rintro e w8 (⟨p,er,hr,rfl,hF⟩ |⟨s8,hr8,rfl,hz8,hF8⟩)<;>first|replace hr8:=hid hr8 |replace hr:=hid hr))
     ·exact⟨rfl,.inl (np_after (HG.out.1.below hb2).fo (Rs.step_no HR.out hr.out) hF)⟩
     ·go_ret
      refine .inr ⟨l,s8,Vl,v5,(Rs.step HR.out hr8.out :),rfl,(HG.out.1.below hb2).step hz8 hF8,?_⟩
      have a:=(nk_fin ts _ _ _ _ hr8.out).1.2
      have b:=HG.out.2.1
      omega
set_option maxRecDepth 100000 in
set_option maxHeartbeats 1500000 in
theorem plist_z {X:Nat->Prop}{w:World}{base g c:Nat}{A:Option Addr}{ts:List Tok}{V:Value}{s:St}{f:Nat}(h:Pz X w base g A c ts V s)(hne:plistM ts (run ts f) s ≠ .out):Calls Tryz.prog 178 #[.pointer (some ⟨g,0,none⟩),.func (.func 179) #[.pointer (some ⟨g,0,none⟩)] #[]] w (LPost X base g A c ts V w (plistM ts (run ts f) s)):=by
 obtain⟨R,HR⟩:∃R,R=plistM ts (run ts f) s:=⟨_,rfl⟩
 rw[<- HR]at hne |-
 unfold plistM at HR
 have HB:=hid (begin_z h [40] (by decide))
 have H0:=hid (And.intro HR (And.intro hne (And.intro h trivial)))
 clear HR hne h
 go_enter Tryz.func178,Tryz.ntmps178
 go_wp2_with (go_at_call 181;refine HB.out.mono ?_)
 rintro e w1 (⟨p,er,hr,rfl,hF⟩ |⟨s1,hr1,rfl,hz1,hF1⟩)<;>first|replace hr1:=hid hr1 |replace hr:=hid hr
 ·go_wp2
  exact⟨rfl,.inl ⟨p,er,Rs.step_no H0.out.1 hr.out,rfl,hF⟩⟩
 have hop1:=beg_op H0.out.2.2.1.ok (by decide) H0.out.2.2.1.px.nx hr1.out
 have hR1:=Rs.step H0.out.1 hr1.out
 have hw1:Rw X w V w1 base g A c ts V s1 (.slice none 0 0) []:=(Rw.nil H0.out.2.2.1).step (hz1.weak (λ_ q=>q.elim id (λe=>absurd e (by simp[Value.ownBlock])))) hF1
 have HS:=hid (sees_z hw1.z [41])
 generalize tokV (tkn ts s)=tv at *
 clear hr1 hz1 hF1 HB
 cases q:sees ts [41] s1 with
 |true=>
  rw[q]at HS
  rw[if_pos q]at hR1
  have HW:=hid (And.intro hR1 (And.intro hw1 hop1))
  clear hR1 hw1 hop1 q
  go_wp2_with (go_at_call 128;refine HS.out.mono ?_;rintro e w2 ⟨rfl,hb2⟩)
  go_loopg [5] f (λgk a5 wr=>∃(l:List Int) (sl:St) (Vl v5:Value),v5=a5/\R=run ts gk (.params l) sl/\Rw X w V wr base g A c ts Vl sl v5 l/\l.length<=sl.nx/\sl.op=s.op+1/\gk<=f)
  case atStart=>exact⟨[],s1,V,_,rfl,HW.out.1,HW.out.2.1.below hb2,Nat.zero_le _,HW.out.2.2.2.2,Nat.le_refl _⟩
  case round=>
   obtain⟨l,sl,Vl,v5,rfl,hR,hw,hl,hop,hgk⟩:=hrel
   cases gk with
   |zero=>exact absurd hR H0.out.2.1
   |succ k=>
    replace hR:R=paramsM ts (run ts k) l sl:=hR
    unfold paramsM at hR
    have HS:=hid (sees_z hw.z [44])
    have HG:=hid (And.intro hw (And.intro hl (And.intro hop hgk)))
    cases q:sees ts [44] sl with
    |true=>
     rw[q]at HS
     rw[if_pos q]at hR
     have HT:=hid (λw' (p:Below wr.heap.size wr w')=>take_z (hw.z.below p) (.inr (by have e:(tkn ts sl).s=[44]:=(by simpa [sees]using q);rw[e];decide)))
     have HP:=hid (λw' (p:Pz (λb=>X b\/v5.ownBlock=some b) w' base g A c ts Vl (takeS sl))=>param_z p)
     have HR:=hid hR
     generalize tokV (tkn ts sl)=tv at *
     clear q hR hw hl hop hgk
     go_wp2_with (first|(go_at_call 128;refine HS.out.mono ?_;rintro e w2 ⟨rfl,hb2⟩) |(go_at_call 173;refine(HT.out _ hb2).mono ?_;rintro e w3 ⟨rfl,hz3,hF3⟩) |(go_at_call 179;refine(HP.out _ hz3).mono ?_;rintro e w4 (⟨p,er,hr,rfl,hF⟩ |⟨x4,s4,V4,hr4,rfl,hz4,hF4⟩)<;>first|replace hr4:=hid hr4 |replace hr:=hid hr) |(at_builtin;refine rw_append1 rfl _ _ rfl x4 (((HG.out.1.below hb2).step hz3 hF3).step hz4 hF4) rfl rfl (by have:=HG.out.2;have:=HG.out.1.z.len;omega) ?_;intro v6 w6 hw6))
     ·exact⟨rfl,.inl (np_after (((HG.out.1.below hb2).step hz3 hF3).fo) (Rs.step_no HR.out hr.out) hF)⟩
     ·go_roundg k
      case measure=>go_light;omega
      case rel=>
       go_light
       have a:=okr_ok (ok_typed (o:=True) hz3.len.1 H0.out.2.2.1.ok 4 _) hr4.out
       have b:=HG.out.2
       have c1:(takeS sl).nx=sl.nx+1:=rfl
       have c2:(takeS sl).op=sl.op:=rfl
       refine⟨l++[x4],s4,V4,_,rfl,Rs.step HR.out hr4.out,hw6,?_,by omega,by omega⟩
       simp only[List.length_append,List.length_cons,List.length_nil]
       omega
    |false=>
     rw[q]at HS
     rw[if_neg (by rw[q];decide)]at hR
     have HR:=hid hR
     clear q hR hw hl hop hgk
     go_wp2_with (first|(go_at_call 128;refine HS.out.mono ?_;rintro e w2 ⟨rfl,hb2⟩) |(go_at_call 211;refine(finish_z (HG.out.1.below hb2).z [41] (by decide) (by have:=HG.out.2.2.1;omega)).mono ?_;rintro e w8 (⟨p,er,hr,rfl,hF⟩ |⟨s8,hr8,rfl,hz8,hF8⟩)<;>first|replace hr8:=hid hr8 |replace hr:=hid hr))
     ·exact⟨rfl,.inl (np_after (HG.out.1.below hb2).fo (Rs.step_no HR.out hr.out) hF)⟩
     ·go_ret
      refine .inr ⟨l,s8,Vl,v5,(Rs.step HR.out hr8.out :),rfl,(HG.out.1.below hb2).step hz8 hF8,?_⟩
      have a:=(nk_fin ts _ _ _ _ hr8.out).1.2
      have b:=HG.out.2.1
      omega
 |false=>
  rw[q]at HS
  rw[if_neg (by rw[q];decide)]at hR1
  have HP:=hid (λw' (p:Pz (λb=>X b\/(Value.slice none 0 0).ownBlock=some b) w' base g A c ts V s1)=>param_z p)
  have HW:=hid (And.intro hR1 (And.intro hw1 hop1))
  clear hR1 hw1 hop1 q
  go_wp2_with (first|(go_at_call 128;refine HS.out.mono ?_;rintro e w2 ⟨rfl,hb2⟩) |(go_at_call 179;refine(HP.out _ (HW.out.2.1.below hb2).z).mono ?_;rintro e w3 (⟨p,er,hr,rfl,hF⟩ |⟨x3,s3,V3,hr3,rfl,hz3,hF3⟩)<;>first|replace hr3:=hid hr3 |replace hr:=hid hr) |(at_builtin;refine rw_append1 rfl _ _ rfl x3 ((HW.out.2.1.below hb2).step hz3 hF3) rfl rfl (by simp) ?_;intro v3 w6 hw6))
  ·exact⟨rfl,.inl (np_after (HW.out.2.1.below hb2).fo (Rs.step_no HW.out.1 hr.out) hF)⟩
  have HW6:=hid hw6
  clear hw6 hz3 hF3
  go_loopg [5] f (λgk a5 wr=>∃(l:List Int) (sl:St) (Vl v5:Value),v5=a5/\R=run ts gk (.params l) sl/\Rw X w V wr base g A c ts Vl sl v5 l/\l.length<=sl.nx/\sl.op=s.op+1/\gk<=f)
  case atStart=>
   have a:=okr_ok (ok_typed (o:=True) HW.out.2.2.2.1 H0.out.2.2.1.ok 4 _) hr3.out
   have b:=HW.out.2.2
   exact⟨[x3],s3,V3,_,rfl,Rs.step HW.out.1 hr3.out,HW6.out,by simp only[List.length_cons,List.length_nil];omega,by omega,Nat.le_refl _⟩
  case round=>
   obtain⟨l,sl,Vl,v5,rfl,hR,hw,hl,hop,hgk⟩:=hrel
   cases gk with
   |zero=>exact absurd hR H0.out.2.1
   |succ k=>
    replace hR:R=paramsM ts (run ts k) l sl:=hR
    unfold paramsM at hR
    have HS:=hid (sees_z hw.z [44])
    have HG:=hid (And.intro hw (And.intro hl (And.intro hop hgk)))
    cases q:sees ts [44] sl with
    |true=>
     rw[q]at HS
     rw[if_pos q]at hR
     have HT:=hid (λw' (p:Below wr.heap.size wr w')=>take_z (hw.z.below p) (.inr (by have e:(tkn ts sl).s=[44]:=(by simpa [sees]using q);rw[e];decide)))
     have HP:=hid (λw' (p:Pz (λb=>X b\/v5.ownBlock=some b) w' base g A c ts Vl (takeS sl))=>param_z p)
     have HR:=hid hR
     generalize tokV (tkn ts sl)=tv at *
     clear q hR hw hl hop hgk
     go_wp2_with (first|(go_at_call 128;refine HS.out.mono ?_;rintro e w2 ⟨rfl,hb2⟩) |(go_at_call 173;refine(HT.out _ hb2).mono ?_;rintro e w3 ⟨rfl,hz3,hF3⟩) |(go_at_call 179;refine(HP.out _ hz3).mono ?_;rintro e w4 (⟨p,er,hr,rfl,hF⟩ |⟨x4,s4,V4,hr4,rfl,hz4,hF4⟩)<;>first|replace hr4:=hid hr4 |replace hr:=hid hr) |(at_builtin;refine rw_append1 rfl _ _ rfl x4 (((HG.out.1.below hb2).step hz3 hF3).step hz4 hF4) rfl rfl (by have:=HG.out.2;have:=HG.out.1.z.len;omega) ?_;intro v6 w6 hw6))
     ·exact⟨rfl,.inl (np_after (((HG.out.1.below hb2).step hz3 hF3).fo) (Rs.step_no HR.out hr.out) hF)⟩
     ·go_roundg k
      case measure=>go_light;omega
      case rel=>
       go_light
       have a:=okr_ok (ok_typed (o:=True) hz3.len.1 H0.out.2.2.1.ok 4 _) hr4.out
       have b:=HG.out.2
       have c1:(takeS sl).nx=sl.nx+1:=rfl
       have c2:(takeS sl).op=sl.op:=rfl
       refine⟨l++[x4],s4,V4,_,rfl,Rs.step HR.out hr4.out,hw6,?_,by omega,by omega⟩
       simp only[List.length_append,List.length_cons,List.length_nil]
       omega
    |false=>
     rw[q]at HS
     rw[if_neg (by rw[q];decide)]at hR
     have HR:=hid hR
     clear q hR hw hl hop hgk
     go_wp2_with (first|(go_at_call 128;refine HS.out.mono ?_;rintro e w2 ⟨rfl,hb2⟩) |(go_at_call 211;refine(finish_z (HG.out.1.below hb2).z [41] (by decide) (by have:=HG.out.2.2.1;omega)).mono ?_;rintro e w8 (⟨p,er,hr,rfl,hF⟩ |⟨s8,hr8,rfl,hz8,hF8⟩)<;>first|replace hr8:=hid hr8 |replace hr:=hid hr))
     ·exact⟨rfl,.inl (np_after (HG.out.1.below hb2).fo (Rs.step_no HR.out hr.out) hF)⟩
     ·go_ret
      refine .inr ⟨l,s8,Vl,v5,(Rs.step HR.out hr8.out :),rfl,(HG.out.1.below hb2).step hz8 hF8,?_⟩
      have a:=(nk_fin ts _ _ _ _ hr8.out).1.2
      have b:=HG.out.2.1
      omega
end Go.Proofs.YtedkgofehbecmaaGreatDoor
