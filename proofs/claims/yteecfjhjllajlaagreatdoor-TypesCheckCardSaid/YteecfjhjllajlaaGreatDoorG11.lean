/- PROVED: Pv Pw Qa. No more condition. -/
import Derived.Test.YteecfjhjllajlaaGreatDoorG09
set_option maxHeartbeats 1500000
set_option maxRecDepth 100000
namespace Go.Proofs.YteecfjhjllajlaaGreatDoor
open Go.Lib (hid)
open Go Go.RowKit
section
open Tr (Bx ag bt ak aB aa av)
theorem yD {X:Nat->Prop}{w:World}{base g c:Nat}{A:Option Addr}{ts:List Tok}{V:Value}{s:St}{f:Nat}(h:Pz X w base g A c ts V s)(kd:Nat)(hne:run ts f (.vars kd []) s ≠ .out):Calls Tryz.prog 102 #[.pointer (some ⟨g,0,none⟩),.int .i64 (kd:Int)] w (CZ X base g A c ts V w (run ts f (.vars kd []) s)):=by
 obtain⟨R,HR⟩:∃R,R=run ts f (.vars kd []) s:=⟨_,rfl⟩;rw[<- HR]at hne |-;have H0:=hid (And.intro HR (And.intro hne (Rw.nil h)));clear HR hne h;go_enter Tryz.func102,Tryz.ntmps102
 go_wp2
 go_loopg [5] f (λgk a5 wr=>∃(l:List Int) (sl:St) (Vl v5:Value),v5=a5/\R=run ts gk (.vars kd l) sl/\Rw X w V wr base g A c ts Vl sl v5 l/\l.length<=sl.nx)
 case atStart=>exact⟨[],s,V,_,rfl,H0.out.1,H0.out.2.2,Nat.zero_le _⟩
 case round=>
  obtain⟨l,sl,Vl,v5,rfl,hR,hw,hl⟩:=hrel;cases gk with
  |zero=>exact absurd hR H0.out.2.1
  |succ k=>
   replace hR:R=nS ts (run ts k) kd l sl:=hR;unfold nS at hR;have hf:=aU (ai ts sl);have HS:=hid (fV hw.z BQ);have HG:=hid (And.intro hw hl);cases q:sees ts BQ sl with
   |true=>
    rw[q]at HS;rw[if_pos q]at hR;have HT:=hid (λw' (p:Below wr.heap.size wr w')=>eG (hw.z.below p) (.inr (by have e:(ai ts sl).s=BQ:=(by simpa [sees]using q);rw[e];decide)));have HP:=hid (λw' (p:Pz (λb=>X b\/v5.ownBlock=some b) w' base g A c ts Vl (ax sl))=>zz p kd ((ai ts sl).p:Int));have HR:=hid hR;generalize aJ (ai ts sl)=tv at *
    generalize ((ai ts sl).p:Int)=p0 at *
    clear q hR hw hl;go_wp2_with (first|(go_at_call 103;refine HS.out.mono ?_;rintro e w2 ⟨rfl,hb2⟩) |(go_at_call 164;refine(HT.out _ hb2).mono ?_;rintro e w3 ⟨rfl,hz3,hF3⟩) |(go_at_call 165;refine(HP.out _ hz3).mono ?_;rintro e w4 (⟨p,er,hr,rfl,hF⟩ |⟨x4,s4,V4,hr4,rfl,hz4,hF4⟩)<;>first|replace hr4:=hid hr4 |replace hr:=hid hr) |(at_builtin;refine d9 rfl _ _ rfl x4 (((HG.out.1.below hb2).step hz3 hF3).step hz4 hF4) rfl rfl (by have:=HG.out.2;have:=HG.out.1.z.len;omega) ?_;intro v6 w6 hw6) |(go_at_call 166;refine(jg hw6.z [59] (by decide)).mono ?_;rintro e w7 (⟨p,er,hr,rfl,hF⟩ |⟨s7,hr7,rfl,hz7,hF7⟩)<;>first|replace hr7:=hid hr7 |replace hr:=hid hr))
    ·exact⟨rfl,.inl (ah (((HG.out.1.below hb2).step hz3 hF3).fo) (Rs.step_no HR.out hr.out) hF)⟩
    ·exact⟨rfl,.inl (ah hw6.fo (Rs.step_no (Rs.step HR.out hr4.out) hr.out) hF)⟩
    ·go_roundg k
     case measure=>go_light;omega
     case rel=>
      go_light
      refine⟨l++[x4],s7,V4,_,rfl,Rs.step (Rs.step HR.out hr4.out) hr7.out,hw6.step hz7 hF7,?_⟩;have a:=(nX ts _ kd _ _ _ hr4.out).1.2;have b:=(iG ts _ _ _ _ hr7.out).1.2;have c1:(ax sl).nx=sl.nx+1:=rfl;have:=HG.out.2;simp only[List.length_append,List.length_cons,List.length_nil];omega
   |false=>
    rw[q]at HS;rw[if_neg (by rw[q];decide)]at hR;have HR:=hid hR;clear q hR hw hl;go_wp2_with (go_at_call 103;refine HS.out.mono ?_;rintro e w2 ⟨rfl,hb2⟩)
    go_ret
    exact .inr ⟨l,sl,Vl,v5,HR.out,rfl,HG.out.1.below hb2,HG.out.2⟩
theorem Rw.kle {X:Nat->Prop}{w0 w:World}{base g c n cc:Nat}{A K:Option Addr}{ts:List Tok}{V0 V:Value}{s:St}{l:List Int}(h:Rw X w0 V0 w base g A c ts V s (.slice K n cc) l):n<=cc:=by
 rcases h.own.2 with⟨e1,_⟩ |⟨g',cap,cur,e1,_,_,h4,_⟩
 ·injection e1 with _ e2 e3
  omega
 ·injection e1 with _ e2 e3
  omega
theorem Rw.kds {X:Nat->Prop}{w0 w:World}{base g c n cc:Nat}{A K:Option Addr}{ts:List Tok}{V0 V:Value}{s:St}{l:List Int}(h:Rw X w0 V0 w base g A c ts V s (.slice K n cc) l):Kd w X K l/\n=l.length:=by
 obtain⟨K',cc',e,hk⟩:=h.kd;injection e with e1 e2 e3
 subst e1;exact⟨hk,e2⟩
theorem FK {X:Nat->Prop}{w:World}{base g c:Nat}{A:Option Addr}{ts:List Tok}{V:Value}{s:St}{f:Nat}(hI:∀f',f'<f->Rz ts (run ts f'))(h:Pz X w base g A c ts V s)(pl:Int)(ho:1<=s.op)(hne:run ts f (.stmts pl []) s ≠ .out):Calls Tryz.prog 173 #[.pointer (some ⟨g,0,none⟩),.int .i64 pl] w (az X base g A c ts V w (run ts f (.stmts pl []) s)):=by
 obtain⟨R,HR⟩:∃R,R=run ts f (.stmts pl []) s:=⟨_,rfl⟩;rw[<- HR]at hne |-;have H0:=hid (And.intro HR (And.intro hne (And.intro (Rw.nil h) (And.intro ho hI))));clear HR hne h ho hI;go_enter Tryz.func173,Tryz.ntmps173
 go_wp2
 go_loopg [5] f (λgk a5 wr=>∃(l:List Int) (sl:St) (Vl v5:Value),v5=a5/\R=run ts gk (.stmts pl l) sl/\Rw X w V wr base g A c ts Vl sl v5 l/\l.length<=sl.nx/\sl.op=s.op/\gk<=f)
 case atStart=>exact⟨[],s,V,_,rfl,H0.out.1,H0.out.2.2.1,Nat.zero_le _,rfl,Nat.le_refl _⟩
 case round=>
  obtain⟨l,sl,Vl,v5,rfl,hR,hw,hl,hop,hgk⟩:=hrel;cases gk with
  |zero=>exact absurd hR H0.out.2.1
  |succ k=>
   replace hR:R=kC ts (run ts k) pl l sl:=hR;unfold kC at hR;obtain⟨K5,c5,rfl,_⟩:=hw.kd;have HS:=hid (fV hw.z [125]);have HG:=hid (And.intro hw (And.intro hl (And.intro hop hgk)));cases q:sees ts [125] sl with
   |false=>
    rw[q]at HS;rw[if_neg (by rw[q];decide)]at hR;have HP:=hid (λw' (p:Pz (λb=>X b\/(Value.slice K5 l.length c5).ownBlock=some b) w' base g A c ts Vl sl)=>((H0.out.2.2.2.2 k (by omega)).z _ w' base g A c Vl sl p).2.2.1 (Rs.step_in hR H0.out.2.1));have HR:=hid hR;clear q hR hw hl hop hgk;go_wp2_with (first|(go_at_call 103;refine HS.out.mono ?_;rintro e w2 ⟨rfl,hb2⟩) |(go_at_call 241;refine(HP.out _ (HG.out.1.below hb2).z).mono ?_;rintro e w4 (⟨p,er,hr,rfl,hF⟩ |⟨x4,s4,V4,hr4,rfl,hz4,hF4⟩)<;>first|replace hr4:=hid hr4 |replace hr:=hid hr) |(at_builtin;refine d9 rfl _ _ rfl x4 ((HG.out.1.below hb2).step hz4 hF4) rfl rfl (by have:=HG.out.2;have:=HG.out.1.z.len;omega) ?_;intro v6 w6 hw6))
    ·exact⟨rfl,.inl (ah ((HG.out.1.below hb2).fo) (Rs.step_no HR.out hr.out) hF)⟩
    ·go_roundg k
     case measure=>go_light;omega
     case rel=>
      go_light
      have a:=jM ((H0.out.2.2.2.2 k (by have:=HG.out.2.2.2;omega)).ok sl HG.out.1.z.len.1 |>.2.2.2.2.1 (.inl trivial)) hr4.out;have b:=HG.out.2;refine⟨l++[x4],s4,V4,_,rfl,Rs.step HR.out hr4.out,hw6,?_,by omega,by omega⟩;simp only[List.length_append,List.length_cons,List.length_nil];omega
   |true=>
    rw[q]at HS;rw[if_pos q]at hR;have HR:=hid hR;clear q hR hw hl hop hgk;go_wp2_with (first|(go_at_call 103;refine HS.out.mono ?_;rintro e w2 ⟨rfl,hb2⟩) |(go_at_call 239;refine(jh (HG.out.1.below hb2).z [125] (by decide) (by have:=HG.out.2.2.1;have:=H0.out.2.2.2.1;omega)).mono ?_));rintro e w4 (⟨p,er,hr,rfl,hF⟩ |⟨s8,hr8,rfl,hz8,hF8⟩)<;>first|replace hr8:=hid hr8 |replace hr:=hid hr
    ·go_wp2;exact⟨rfl,.inl (ah (HG.out.1.below hb2).fo (Rs.step_no HR.out hr.out) hF)⟩
    have hw8:=(HG.out.1.below hb2).step hz8 hF8;have hsl:s8.nd.length+1<=s8.nx:=by
     have a:=(jL ts _ _ _ _ hr8.out).1.1;have b:=HG.out.1.z.hn;omega
    have HA:=hid (zD hw8.pz 6 0 pl [] none K5 0 0 l.length c5 l hw8.kds.1 ⟨rfl,hw8.kle⟩ hsl);have HR8:=hid (Rs.step HR.out hr8.out);have HF:=hid hw8.fo;clear hz8 hF8 hw8 hsl hr8;go_wp2_with (go_at_call 106;refine(HA.out).mono ?_;rintro e w9 (⟨p,er,hr,rfl,hF⟩ |⟨x9,s9,V9,hr,rfl,hz9,hF9⟩)<;>replace hr:=hid hr)
    ·cases hr.out
    ·go_ret
     exact .inr ⟨x9,s9,V9,HR8.out.trans hr.out,rfl,hz9,HF.out.trans hF9⟩
theorem I8 {X:Nat->Prop}{w:World}{base g c:Nat}{A:Option Addr}{ts:List Tok}{V:Value}{s:St}{f:Nat}(hI:∀f',f'<=f->Rz ts (run ts f'))(h:Pz X w base g A c ts V s)(hne:lu ts (run ts f) s ≠ .out):Calls Tryz.prog 169 #[.pointer (some ⟨g,0,none⟩),.func (.func 138) #[.pointer (some ⟨g,0,none⟩)] #[]] w (CZ X base g A c ts V w (lu ts (run ts f) s)):=by
 obtain⟨R,HR⟩:∃R,R=lu ts (run ts f) s:=⟨_,rfl⟩;rw[<- HR]at hne |-;unfold lu at HR;have HB:=hid (jE h [40] (by decide));have H0:=hid (And.intro HR (And.intro hne (And.intro h hI)));clear HR hne h hI;go_enter Tryz.func169,Tryz.ntmps169
 go_wp2_with (go_at_call 172;refine HB.out.mono ?_);rintro e w1 (⟨p,er,hr,rfl,hF⟩ |⟨s1,hr1,rfl,hz1,hF1⟩)<;>first|replace hr1:=hid hr1 |replace hr:=hid hr
 ·go_wp2;exact⟨rfl,.inl ⟨p,er,Rs.step_no H0.out.1 hr.out,rfl,hF⟩⟩
 have hop1:=lH H0.out.2.2.1.ok (by decide) H0.out.2.2.1.px.nx hr1.out;have hR1:=Rs.step H0.out.1 hr1.out;have hw1:Rw X w V w1 base g A c ts V s1 (.slice none 0 0) []:=(Rw.nil H0.out.2.2.1).step (hz1.weak (λ_ q=>q.elim id (λe=>absurd e (by simp[Value.ownBlock])))) hF1;have HS:=hid (fV hw1.z [41]);generalize aJ (ai ts s)=tv at *
 clear hr1 hz1 hF1 HB;cases q:sees ts [41] s1 with
 |true=>
  rw[q]at HS;rw[if_pos q]at hR1;have HW:=hid (And.intro hR1 (And.intro hw1 hop1));clear hR1 hw1 hop1 q;go_wp2_with (go_at_call 103;refine HS.out.mono ?_;rintro e w2 ⟨rfl,hb2⟩)
  go_loopg [5] f (λgk a5 wr=>∃(l:List Int) (sl:St) (Vl v5:Value),v5=a5/\R=run ts gk (.exprs l) sl/\Rw X w V wr base g A c ts Vl sl v5 l/\l.length<=sl.nx/\sl.op=s.op+1/\gk<=f)
  case atStart=>exact⟨[],s1,V,_,rfl,HW.out.1,HW.out.2.1.below hb2,Nat.zero_le _,HW.out.2.2.2.2,Nat.le_refl _⟩
  case round=>
   obtain⟨l,sl,Vl,v5,rfl,hR,hw,hl,hop,hgk⟩:=hrel;cases gk with
   |zero=>exact absurd hR H0.out.2.1
   |succ k=>
    replace hR:R=jc ts (run ts k) l sl:=hR;unfold jc at hR;have HS:=hid (fV hw.z [44]);have HG:=hid (And.intro hw (And.intro hl (And.intro hop hgk)));cases q:sees ts [44] sl with
    |true=>
     rw[q]at HS;rw[if_pos q]at hR;have HT:=hid (λw' (p:Below wr.heap.size wr w')=>eG (hw.z.below p) (.inr (by have e:(ai ts sl).s=[44]:=(by simpa [sees]using q);rw[e];decide)));have HP:=hid (λw' (p:Pz (λb=>X b\/v5.ownBlock=some b) w' base g A c ts Vl (ax sl))=>gZ (H0.out.2.2.2 k (by omega)) p (Rs.step_in hR H0.out.2.1));have HR:=hid hR;generalize aJ (ai ts sl)=tv at *
     clear q hR hw hl hop hgk;go_wp2_with (first|(go_at_call 103;refine HS.out.mono ?_;rintro e w2 ⟨rfl,hb2⟩) |(go_at_call 164;refine(HT.out _ hb2).mono ?_;rintro e w3 ⟨rfl,hz3,hF3⟩) |(go_at_call 138;refine(HP.out _ hz3).mono ?_;rintro e w4 (⟨p,er,hr,rfl,hF⟩ |⟨x4,s4,V4,hr4,rfl,hz4,hF4⟩)<;>first|replace hr4:=hid hr4 |replace hr:=hid hr) |(at_builtin;refine d9 rfl _ _ rfl x4 (((HG.out.1.below hb2).step hz3 hF3).step hz4 hF4) rfl rfl (by have:=HG.out.2;have:=HG.out.1.z.len;omega) ?_;intro v6 w6 hw6))
     ·exact⟨rfl,.inl (ah (((HG.out.1.below hb2).step hz3 hF3).fo) (Rs.step_no HR.out hr.out) hF)⟩
     ·go_roundg k
      case measure=>go_light;omega
      case rel=>
       go_light
       have a:=nZ (H0.out.2.2.2 k (by have:=HG.out.2.2.2;omega)) hz3.len.1 hr4.out;have b:=HG.out.2;have c1:(ax sl).nx=sl.nx+1:=rfl;have c2:(ax sl).op=sl.op:=rfl;refine⟨l++[x4],s4,V4,_,rfl,Rs.step HR.out hr4.out,hw6,?_,by omega,by omega⟩;simp only[List.length_append,List.length_cons,List.length_nil];omega
    |false=>
     rw[q]at HS;rw[if_neg (by rw[q];decide)]at hR;have HR:=hid hR;clear q hR hw hl hop hgk;go_wp2_with (first|(go_at_call 103;refine HS.out.mono ?_;rintro e w2 ⟨rfl,hb2⟩) |(go_at_call 239;refine(jh (HG.out.1.below hb2).z [41] (by decide) (by have:=HG.out.2.2.1;omega)).mono ?_;rintro e w8 (⟨p,er,hr,rfl,hF⟩ |⟨s8,hr8,rfl,hz8,hF8⟩)<;>first|replace hr8:=hid hr8 |replace hr:=hid hr))
     ·exact⟨rfl,.inl (ah (HG.out.1.below hb2).fo (Rs.step_no HR.out hr.out) hF)⟩
     ·go_ret
      refine .inr ⟨l,s8,Vl,v5,(Rs.step HR.out hr8.out :),rfl,(HG.out.1.below hb2).step hz8 hF8,?_⟩;have a:=(jL ts _ _ _ _ hr8.out).1.2;have b:=HG.out.2.1;omega
 |false=>
  rw[q]at HS;rw[if_neg (by rw[q];decide)]at hR1;have HP:=hid (λw' (p:Pz (λb=>X b\/(Value.slice none 0 0).ownBlock=some b) w' base g A c ts V s1)=>gZ (H0.out.2.2.2 f (by omega)) p (Rs.step_in hR1 H0.out.2.1));have HW:=hid (And.intro hR1 (And.intro hw1 hop1));clear hR1 hw1 hop1 q;go_wp2_with (first|(go_at_call 103;refine HS.out.mono ?_;rintro e w2 ⟨rfl,hb2⟩) |(go_at_call 138;refine(HP.out _ (HW.out.2.1.below hb2).z).mono ?_;rintro e w3 (⟨p,er,hr,rfl,hF⟩ |⟨x3,s3,V3,hr3,rfl,hz3,hF3⟩)<;>first|replace hr3:=hid hr3 |replace hr:=hid hr) |(at_builtin;refine d9 rfl _ _ rfl x3 ((HW.out.2.1.below hb2).step hz3 hF3) rfl rfl (by simp) ?_;intro v3 w6 hw6))
  ·exact⟨rfl,.inl (ah (HW.out.2.1.below hb2).fo (Rs.step_no HW.out.1 hr.out) hF)⟩
  have HW6:=hid hw6;clear hw6 hz3 hF3
  go_loopg [5] f (λgk a5 wr=>∃(l:List Int) (sl:St) (Vl v5:Value),v5=a5/\R=run ts gk (.exprs l) sl/\Rw X w V wr base g A c ts Vl sl v5 l/\l.length<=sl.nx/\sl.op=s.op+1/\gk<=f)
  case atStart=>
   have a:=nZ (H0.out.2.2.2 f (Nat.le_refl _)) HW.out.2.2.2.1 hr3.out;have b:=HW.out.2.2;exact⟨[x3],s3,V3,_,rfl,Rs.step HW.out.1 hr3.out,HW6.out,by simp only[List.length_cons,List.length_nil];omega,by omega,Nat.le_refl _⟩
  case round=>
   obtain⟨l,sl,Vl,v5,rfl,hR,hw,hl,hop,hgk⟩:=hrel;cases gk with
   |zero=>exact absurd hR H0.out.2.1
   |succ k=>
    replace hR:R=jc ts (run ts k) l sl:=hR;unfold jc at hR;have HS:=hid (fV hw.z [44]);have HG:=hid (And.intro hw (And.intro hl (And.intro hop hgk)));cases q:sees ts [44] sl with
    |true=>
     rw[q]at HS;rw[if_pos q]at hR;have HT:=hid (λw' (p:Below wr.heap.size wr w')=>eG (hw.z.below p) (.inr (by have e:(ai ts sl).s=[44]:=(by simpa [sees]using q);rw[e];decide)));have HP:=hid (λw' (p:Pz (λb=>X b\/v5.ownBlock=some b) w' base g A c ts Vl (ax sl))=>gZ (H0.out.2.2.2 k (by omega)) p (Rs.step_in hR H0.out.2.1));have HR:=hid hR;generalize aJ (ai ts sl)=tv at *
     clear q hR hw hl hop hgk;go_wp2_with (first|(go_at_call 103;refine HS.out.mono ?_;rintro e w2 ⟨rfl,hb2⟩) |(go_at_call 164;refine(HT.out _ hb2).mono ?_;rintro e w3 ⟨rfl,hz3,hF3⟩) |(go_at_call 138;refine(HP.out _ hz3).mono ?_;rintro e w4 (⟨p,er,hr,rfl,hF⟩ |⟨x4,s4,V4,hr4,rfl,hz4,hF4⟩)<;>first|replace hr4:=hid hr4 |replace hr:=hid hr) |(at_builtin;refine d9 rfl _ _ rfl x4 (((HG.out.1.below hb2).step hz3 hF3).step hz4 hF4) rfl rfl (by have:=HG.out.2;have:=HG.out.1.z.len;omega) ?_;intro v6 w6 hw6))
     ·exact⟨rfl,.inl (ah (((HG.out.1.below hb2).step hz3 hF3).fo) (Rs.step_no HR.out hr.out) hF)⟩
     ·go_roundg k
      case measure=>go_light;omega
      case rel=>
       go_light
       have a:=nZ (H0.out.2.2.2 k (by have:=HG.out.2.2.2;omega)) hz3.len.1 hr4.out;have b:=HG.out.2;have c1:(ax sl).nx=sl.nx+1:=rfl;have c2:(ax sl).op=sl.op:=rfl;refine⟨l++[x4],s4,V4,_,rfl,Rs.step HR.out hr4.out,hw6,?_,by omega,by omega⟩;simp only[List.length_append,List.length_cons,List.length_nil];omega
    |false=>
     rw[q]at HS;rw[if_neg (by rw[q];decide)]at hR;have HR:=hid hR;clear q hR hw hl hop hgk;go_wp2_with (first|(go_at_call 103;refine HS.out.mono ?_;rintro e w2 ⟨rfl,hb2⟩) |(go_at_call 239;refine(jh (HG.out.1.below hb2).z [41] (by decide) (by have:=HG.out.2.2.1;omega)).mono ?_;rintro e w8 (⟨p,er,hr,rfl,hF⟩ |⟨s8,hr8,rfl,hz8,hF8⟩)<;>first|replace hr8:=hid hr8 |replace hr:=hid hr))
     ·exact⟨rfl,.inl (ah (HG.out.1.below hb2).fo (Rs.step_no HR.out hr.out) hF)⟩
     ·go_ret
      refine .inr ⟨l,s8,Vl,v5,(Rs.step HR.out hr8.out :),rfl,(HG.out.1.below hb2).step hz8 hF8,?_⟩;have a:=(jL ts _ _ _ _ hr8.out).1.2;have b:=HG.out.2.1;omega
theorem FL {X:Nat->Prop}{w:World}{base g c:Nat}{A:Option Addr}{ts:List Tok}{V:Value}{s:St}{f:Nat}(h:Pz X w base g A c ts V s)(hne:je ts (run ts f) s ≠ .out):Calls Tryz.prog 169 #[.pointer (some ⟨g,0,none⟩),.func (.func 170) #[.pointer (some ⟨g,0,none⟩)] #[]] w (CZ X base g A c ts V w (je ts (run ts f) s)):=by
 obtain⟨R,HR⟩:∃R,R=je ts (run ts f) s:=⟨_,rfl⟩;rw[<- HR]at hne |-;unfold je at HR;have HB:=hid (jE h [40] (by decide));have H0:=hid (And.intro HR (And.intro hne (And.intro h trivial)));clear HR hne h;go_enter Tryz.func169,Tryz.ntmps169
 go_wp2_with (go_at_call 172;refine HB.out.mono ?_);rintro e w1 (⟨p,er,hr,rfl,hF⟩ |⟨s1,hr1,rfl,hz1,hF1⟩)<;>first|replace hr1:=hid hr1 |replace hr:=hid hr
 ·go_wp2;exact⟨rfl,.inl ⟨p,er,Rs.step_no H0.out.1 hr.out,rfl,hF⟩⟩
 have hop1:=lH H0.out.2.2.1.ok (by decide) H0.out.2.2.1.px.nx hr1.out;have hR1:=Rs.step H0.out.1 hr1.out;have hw1:Rw X w V w1 base g A c ts V s1 (.slice none 0 0) []:=(Rw.nil H0.out.2.2.1).step (hz1.weak (λ_ q=>q.elim id (λe=>absurd e (by simp[Value.ownBlock])))) hF1;have HS:=hid (fV hw1.z [41]);generalize aJ (ai ts s)=tv at *
 clear hr1 hz1 hF1 HB;cases q:sees ts [41] s1 with
 |true=>
  rw[q]at HS;rw[if_pos q]at hR1;have HW:=hid (And.intro hR1 (And.intro hw1 hop1));clear hR1 hw1 hop1 q;go_wp2_with (go_at_call 103;refine HS.out.mono ?_;rintro e w2 ⟨rfl,hb2⟩)
  go_loopg [5] f (λgk a5 wr=>∃(l:List Int) (sl:St) (Vl v5:Value),v5=a5/\R=run ts gk (.params l) sl/\Rw X w V wr base g A c ts Vl sl v5 l/\l.length<=sl.nx/\sl.op=s.op+1/\gk<=f)
  case atStart=>exact⟨[],s1,V,_,rfl,HW.out.1,HW.out.2.1.below hb2,Nat.zero_le _,HW.out.2.2.2.2,Nat.le_refl _⟩
  case round=>
   obtain⟨l,sl,Vl,v5,rfl,hR,hw,hl,hop,hgk⟩:=hrel;cases gk with
   |zero=>exact absurd hR H0.out.2.1
   |succ k=>
    replace hR:R=gG ts (run ts k) l sl:=hR;unfold gG at hR;have HS:=hid (fV hw.z [44]);have HG:=hid (And.intro hw (And.intro hl (And.intro hop hgk)));cases q:sees ts [44] sl with
    |true=>
     rw[q]at HS;rw[if_pos q]at hR;have HT:=hid (λw' (p:Below wr.heap.size wr w')=>eG (hw.z.below p) (.inr (by have e:(ai ts sl).s=[44]:=(by simpa [sees]using q);rw[e];decide)));have HP:=hid (λw' (p:Pz (λb=>X b\/v5.ownBlock=some b) w' base g A c ts Vl (ax sl))=>uS p);have HR:=hid hR;generalize aJ (ai ts sl)=tv at *
     clear q hR hw hl hop hgk;go_wp2_with (first|(go_at_call 103;refine HS.out.mono ?_;rintro e w2 ⟨rfl,hb2⟩) |(go_at_call 164;refine(HT.out _ hb2).mono ?_;rintro e w3 ⟨rfl,hz3,hF3⟩) |(go_at_call 170;refine(HP.out _ hz3).mono ?_;rintro e w4 (⟨p,er,hr,rfl,hF⟩ |⟨x4,s4,V4,hr4,rfl,hz4,hF4⟩)<;>first|replace hr4:=hid hr4 |replace hr:=hid hr) |(at_builtin;refine d9 rfl _ _ rfl x4 (((HG.out.1.below hb2).step hz3 hF3).step hz4 hF4) rfl rfl (by have:=HG.out.2;have:=HG.out.1.z.len;omega) ?_;intro v6 w6 hw6))
     ·exact⟨rfl,.inl (ah (((HG.out.1.below hb2).step hz3 hF3).fo) (Rs.step_no HR.out hr.out) hF)⟩
     ·go_roundg k
      case measure=>go_light;omega
      case rel=>
       go_light
       have a:=jM (jT (o:=True) hz3.len.1 H0.out.2.2.1.ok 4 _) hr4.out;have b:=HG.out.2;have c1:(ax sl).nx=sl.nx+1:=rfl;have c2:(ax sl).op=sl.op:=rfl;refine⟨l++[x4],s4,V4,_,rfl,Rs.step HR.out hr4.out,hw6,?_,by omega,by omega⟩;simp only[List.length_append,List.length_cons,List.length_nil];omega
    |false=>
     rw[q]at HS;rw[if_neg (by rw[q];decide)]at hR;have HR:=hid hR;clear q hR hw hl hop hgk;go_wp2_with (first|(go_at_call 103;refine HS.out.mono ?_;rintro e w2 ⟨rfl,hb2⟩) |(go_at_call 239;refine(jh (HG.out.1.below hb2).z [41] (by decide) (by have:=HG.out.2.2.1;omega)).mono ?_;rintro e w8 (⟨p,er,hr,rfl,hF⟩ |⟨s8,hr8,rfl,hz8,hF8⟩)<;>first|replace hr8:=hid hr8 |replace hr:=hid hr))
     ·exact⟨rfl,.inl (ah (HG.out.1.below hb2).fo (Rs.step_no HR.out hr.out) hF)⟩
     ·go_ret
      refine .inr ⟨l,s8,Vl,v5,(Rs.step HR.out hr8.out :),rfl,(HG.out.1.below hb2).step hz8 hF8,?_⟩;have a:=(jL ts _ _ _ _ hr8.out).1.2;have b:=HG.out.2.1;omega
 |false=>
  rw[q]at HS;rw[if_neg (by rw[q];decide)]at hR1;have HP:=hid (λw' (p:Pz (λb=>X b\/(Value.slice none 0 0).ownBlock=some b) w' base g A c ts V s1)=>uS p);have HW:=hid (And.intro hR1 (And.intro hw1 hop1));clear hR1 hw1 hop1 q;go_wp2_with (first|(go_at_call 103;refine HS.out.mono ?_;rintro e w2 ⟨rfl,hb2⟩) |(go_at_call 170;refine(HP.out _ (HW.out.2.1.below hb2).z).mono ?_;rintro e w3 (⟨p,er,hr,rfl,hF⟩ |⟨x3,s3,V3,hr3,rfl,hz3,hF3⟩)<;>first|replace hr3:=hid hr3 |replace hr:=hid hr) |(at_builtin;refine d9 rfl _ _ rfl x3 ((HW.out.2.1.below hb2).step hz3 hF3) rfl rfl (by simp) ?_;intro v3 w6 hw6))
  ·exact⟨rfl,.inl (ah (HW.out.2.1.below hb2).fo (Rs.step_no HW.out.1 hr.out) hF)⟩
  have HW6:=hid hw6;clear hw6 hz3 hF3
  go_loopg [5] f (λgk a5 wr=>∃(l:List Int) (sl:St) (Vl v5:Value),v5=a5/\R=run ts gk (.params l) sl/\Rw X w V wr base g A c ts Vl sl v5 l/\l.length<=sl.nx/\sl.op=s.op+1/\gk<=f)
  case atStart=>
   have a:=jM (jT (o:=True) HW.out.2.2.2.1 H0.out.2.2.1.ok 4 _) hr3.out;have b:=HW.out.2.2;exact⟨[x3],s3,V3,_,rfl,Rs.step HW.out.1 hr3.out,HW6.out,by simp only[List.length_cons,List.length_nil];omega,by omega,Nat.le_refl _⟩
  case round=>
   obtain⟨l,sl,Vl,v5,rfl,hR,hw,hl,hop,hgk⟩:=hrel;cases gk with
   |zero=>exact absurd hR H0.out.2.1
   |succ k=>
    replace hR:R=gG ts (run ts k) l sl:=hR;unfold gG at hR;have HS:=hid (fV hw.z [44]);have HG:=hid (And.intro hw (And.intro hl (And.intro hop hgk)));cases q:sees ts [44] sl with
    |true=>
     rw[q]at HS;rw[if_pos q]at hR;have HT:=hid (λw' (p:Below wr.heap.size wr w')=>eG (hw.z.below p) (.inr (by have e:(ai ts sl).s=[44]:=(by simpa [sees]using q);rw[e];decide)));have HP:=hid (λw' (p:Pz (λb=>X b\/v5.ownBlock=some b) w' base g A c ts Vl (ax sl))=>uS p);have HR:=hid hR;generalize aJ (ai ts sl)=tv at *
     clear q hR hw hl hop hgk;go_wp2_with (first|(go_at_call 103;refine HS.out.mono ?_;rintro e w2 ⟨rfl,hb2⟩) |(go_at_call 164;refine(HT.out _ hb2).mono ?_;rintro e w3 ⟨rfl,hz3,hF3⟩) |(go_at_call 170;refine(HP.out _ hz3).mono ?_;rintro e w4 (⟨p,er,hr,rfl,hF⟩ |⟨x4,s4,V4,hr4,rfl,hz4,hF4⟩)<;>first|replace hr4:=hid hr4 |replace hr:=hid hr) |(at_builtin;refine d9 rfl _ _ rfl x4 (((HG.out.1.below hb2).step hz3 hF3).step hz4 hF4) rfl rfl (by have:=HG.out.2;have:=HG.out.1.z.len;omega) ?_;intro v6 w6 hw6))
     ·exact⟨rfl,.inl (ah (((HG.out.1.below hb2).step hz3 hF3).fo) (Rs.step_no HR.out hr.out) hF)⟩
     ·go_roundg k
      case measure=>go_light;omega
      case rel=>
       go_light
       have a:=jM (jT (o:=True) hz3.len.1 H0.out.2.2.1.ok 4 _) hr4.out;have b:=HG.out.2;have c1:(ax sl).nx=sl.nx+1:=rfl;have c2:(ax sl).op=sl.op:=rfl;refine⟨l++[x4],s4,V4,_,rfl,Rs.step HR.out hr4.out,hw6,?_,by omega,by omega⟩;simp only[List.length_append,List.length_cons,List.length_nil];omega
    |false=>
     rw[q]at HS;rw[if_neg (by rw[q];decide)]at hR;have HR:=hid hR;clear q hR hw hl hop hgk;go_wp2_with (first|(go_at_call 103;refine HS.out.mono ?_;rintro e w2 ⟨rfl,hb2⟩) |(go_at_call 239;refine(jh (HG.out.1.below hb2).z [41] (by decide) (by have:=HG.out.2.2.1;omega)).mono ?_;rintro e w8 (⟨p,er,hr,rfl,hF⟩ |⟨s8,hr8,rfl,hz8,hF8⟩)<;>first|replace hr8:=hid hr8 |replace hr:=hid hr))
     ·exact⟨rfl,.inl (ah (HG.out.1.below hb2).fo (Rs.step_no HR.out hr.out) hF)⟩
     ·go_ret
      refine .inr ⟨l,s8,Vl,v5,(Rs.step HR.out hr8.out :),rfl,(HG.out.1.below hb2).step hz8 hF8,?_⟩;have a:=(jL ts _ _ _ _ hr8.out).1.2;have b:=HG.out.2.1;omega
end
section
open Tr (Bx ag bt ak aB aa av)
theorem Rw.one {X:Nat->Prop}{w0 w:World}{base g c:Nat}{A:Option Addr}{ts:List Tok}{V0 V:Value}{s:St}(h:Pz X w base g A c ts V s)(f:Fo w0 w g V0 V)(hX0:∀b,X b->b<w0.heap.size)(hb0:base<=w0.heap.size)(n:Int):Rw X w0 V0 (w.alloc (.cells #[.int .i64 n] 3)) base g A c ts V s (.slice (some ⟨w.heap.size,0,none⟩) 1 1) [n]:=by
 have hb:=ag w (.cells #[.int .i64 n] 3);have hz:=h.below hb;obtain⟨xs,h1,h2⟩:=h.nd.more (Y:=λb=>w.heap.size=b) (λb q=>by omega);have hn:fF (w.alloc (.cells #[.int .i64 n] 3)) (λb=>X b\/(Value.slice (some ⟨w.heap.size,0,none⟩) 1 1).ownBlock=some b) base V s.nd:=
  (fF.fr (g:=g) ⟨xs,h1,h2⟩ (Fr.of hb) h.px.box h.gb).weak (λb q=>q.imp id (λe=>by simpa [Value.ownBlock]using e))
 refine⟨⟨hz.px,hn,hz.hb,hz.gb,hz.hA,hz.hn,hz.h40,hz.ok,λb q=>q.elim (λq=>hz.hX b q) (λe =>?_)⟩,⟨rfl,.inr ⟨w.heap.size,1,_,rfl,f.fr.size,World.alloc_heap_new _ _,Nat.le_refl _,by decide,rfl,rfl⟩⟩,f.trans (Fo.below hb),hX0,hb0⟩;have e:w.heap.size=b:=by simpa [Value.ownBlock]using e
 rw[World.size_alloc];omega
theorem yE {X X2:Nat->Prop}{w0 w2 w:World}{base g c:Nat}{A:Option Addr}{ts:List Tok}{V0 V2 V:Value}{s:St}{v v2:Value}{l l2:List Int}{ops:Array Oper}{rest:List Oper}{o:Oper}{a:Act}{Q:Exit->Act->World->Prop}(hgd:o.guard=none)(p x:Operand)
  (ho:o.op=.call {callee :=.builtin .append,args := #[p,x],argTypes := #[35,35]}) (h:Rw X w0 V0 w base g A c ts V s v l) (h2:Rw X2 w2 V2 w base g A c ts V s v2 l2) (hs:a.eval p=v) (hx:a.eval x=v2) (hlen:l.length+l2.length<=1000000)
  (hk:∀v' w',Rw X w0 V0 w' base g A c ts V s v' (l++l2)->wpList Tryz.prog ops Q rest (a.put o.dst v') w'):wpList Tryz.prog ops Q (o :: rest) a w:=by
 have hc:=λ(b:Nat) (q:v2.ownBlock=some b)=>h2.own.cells (g:=b) q
 rcases h2.own.2 with⟨e1,e2⟩ |⟨b,cap,cur,e1,_⟩
 ·obtain⟨i0,hi,_,hz1,_⟩:=info_parts info3;obtain rfl:l2=[]:=List.eq_nil_of_length_eq_zero e2;refine wpList_append_own_none hgd p x 35 ho w0.heap.size 3 i0 1 Tryz.underlying35 hi v l.length (l.map (Value.int .i64)) hs h.own (by rw[hx,e1]) ?_;have:=hk v w (by rw[List.append_nil];exact h);exact this
 ·exact tQ hgd p x ho h hs ⟨b,0,none⟩ l2.length cap l2 (by rw[hx,e1]) rfl (hc b (by rw[e1];rfl)) hlen hk
theorem mg {X:Nat->Prop}{w:World}{base g c:Nat}{A:Option Addr}{ts:List Tok}{V:Value}{s:St}(h:Pz X w base g A c ts V s)(x:Int):Calls Tryz.prog 273 #[.pointer (some ⟨g,0,none⟩),.int .i64 x] w (az X base g A c ts V w (dL ts [x] s)):=by
 obtain⟨R,HR⟩:∃R,R=dL ts [x] s:=⟨_,rfl⟩;rw[<- HR];unfold dL at HR;have HB:=hid (jg h [59] (by decide));have HK:=hid (And.intro HR trivial);generalize aJ (ai ts s)=tv at *
 clear HR h;go_enter Tryz.func273,Tryz.ntmps273
 go_wp2_with (go_at_call 166;refine(HB.out).mono ?_;rintro e w1 (⟨p,er,hr,rfl,hF⟩ |⟨s1,hr1,rfl,hz1,hF1⟩)<;>first|replace hr1:=hid hr1 |replace hr:=hid hr)
 ·exact⟨rfl,.inl ⟨p,er,Rs.step_no (HK.out.1) hr.out,rfl,hF⟩⟩
 ·go_ret
  exact .inr ⟨x,s1,V,(Rs.step HK.out.1 hr1.out :),rfl,hz1,hF1⟩
theorem om {X:Nat->Prop}{w:World}{base g c:Nat}{A:Option Addr}{ts:List Tok}{V:Value}{s:St}{f:Nat}(hI:∀f',f'<=f->Rz ts (run ts f'))(h:Pz X w base g A c ts V s)(hne:fU ts (run ts f) s ≠ .out):Calls Tryz.prog 272 #[.pointer (some ⟨g,0,none⟩)] w (az X base g A c ts V w (fU ts (run ts f) s)):=by
 obtain⟨R,HR⟩:∃R,R=fU ts (run ts f) s:=⟨_,rfl⟩;rw[<- HR]at hne |-;unfold fU at HR;dsimp only at HR;have hf:=aU (ai ts s);have HB:=hid (jE h [123] (by decide));have HS:=hid (λw' s1 (q:Pz X w' base g A c ts V s1) (hr:ja ts [123] s=.ok [] s1)=>by
  have a:=lH h.ok (by decide) h.px.nx hr;have b:=((hI f (Nat.le_refl _)).z X w' base g A c V s1 q).2.2.2 ((ai ts s).p:Int) (by omega) (by rw[<- Rs.step HR hr];exact hne);rw[<- Rs.step HR hr]at b;exact b)
 have HK:=hid (And.intro HR trivial);generalize ((ai ts s).p:Int)=p0 at *
 generalize aJ (ai ts s)=tv at *
 clear HR h hne hI;go_enter Tryz.func272,Tryz.ntmps272
 go_wp2_with (first|(go_at_call 172;refine(HB.out).mono ?_;rintro e w1 (⟨p,er,hr,rfl,hF⟩ |⟨s1,hr1,rfl,hz1,hF1⟩)<;>first|replace hr1:=hid hr1 |replace hr:=hid hr) |(go_at_call 173;refine(HS.out _ _ hz1 hr1.out).mono ?_;rintro e w9 (⟨p,er,hr,rfl,hF⟩ |⟨x9,s9,V9,hr9,rfl,hz9,hF9⟩)<;>first|replace hr9:=hid hr9 |replace hr:=hid hr))
 ·exact⟨rfl,.inl ⟨p,er,Rs.step_no (HK.out.1) hr.out,rfl,hF⟩⟩
 ·exact⟨rfl,.inl (ah (hF1) (hr.out) hF)⟩
 ·go_ret
  exact .inr ⟨x9,s9,V9,hr9.out,rfl,hz9,(hF1).trans hF9⟩
theorem Dm {X:Nat->Prop}{w:World}{base g c:Nat}{A:Option Addr}{ts:List Tok}{V:Value}{s:St}{f:Nat}(hI:∀f',f'<=f->Rz ts (run ts f'))(h:Pz X w base g A c ts V s)(tx:List UInt8)(pl:Int)(hne:jd ts (run ts f) tx pl s ≠ .out):Calls Tryz.prog 274 #[.pointer (some ⟨g,0,none⟩),.string (bs tx),.int .i64 pl] w (az X base g A c ts V w (jd ts (run ts f) tx pl s)):=by
 have hk:Nk s 0 (jd ts (run ts f) tx pl s):=(uR ts (bg ts f) s tx pl).weak (by omega);obtain⟨R,HR⟩:∃R,R=jd ts (run ts f) tx pl s:=⟨_,rfl⟩;rw[<- HR]at hk hne |-;unfold jd at HR;have HK:=hid (And.intro HR (And.intro hne (And.intro hk (And.intro h.hn hI))));have HB:=hid (jg h jb (by decide));have H0:=hid h;generalize aJ (ai ts s)=tv at *
 have hmf:∀(fn:Fn) (first cap:Array Value) (w:World),(Instr.makeFunc fn first cap).run Tryz.prog w=.ok (.func fn first cap) w:=λ_ _ _ _=>rfl
 clear HR hk hne hI h;go_enter Tryz.func274,Tryz.ntmps274
 go_wp2_with (first|(go_at_call 166;refine(HB.out).mono ?_;rintro e w1 (⟨p,er,hr,rfl,hF⟩ |⟨s1,hr1,rfl,hz1,hF1⟩)<;>first|replace hr1:=hid hr1 |replace hr:=hid hr) |(go_at_call 300;refine(yz hz1 19).mono ?_;rintro e w2 (⟨p,er,hr,rfl,hF⟩ |⟨x2,s2,V2,hr2,rfl,hz2,hF2⟩)<;>first|replace hr2:=hid hr2 |replace hr:=hid hr) |(go_at_call 169;refine(I8 HK.out.2.2.2.2 (Rw.one hz2 (hF1.trans hF2) H0.out.hX H0.out.hb x2).z (Rs.step_in (Rs.step (Rs.step (HK.out.1) hr1.out) hr2.out) HK.out.2.1)).mono ?_;rintro e w3 (⟨p,er,hr,rfl,hF⟩ |⟨l3,s3,V3,v3,hr3,rfl,hw3,hl3⟩)<;>first|replace hr3:=hid hr3 |replace hr:=hid hr) |(at_builtin;refine yE rfl _ _ rfl ((Rw.one hz2 (hF1.trans hF2) H0.out.hX H0.out.hb x2).step hw3.pz hw3.fo) hw3 rfl rfl (by have:=hw3.z.len;simp only[List.length_cons,List.length_nil];omega) ?_;intro v4 w4 hw4;obtain⟨K4,c4,rfl,_⟩:=hw4.kd) |(go_at_call 106;refine(jY hw4.pz 13 0 pl tx none K4 0 0 _ c4 _ hw4.kds.1 ⟨rfl,hw4.kle⟩ (Rs.step (Rs.step (Rs.step (HK.out.1) hr1.out) hr2.out) hr3.out :) HK.out.2.2.1 HK.out.2.2.2.1).mono ?_;rintro e w9 (⟨p,er,hr,rfl,hF⟩ |⟨x9,s9,V9,hr9,rfl,hz9,hF9⟩)<;>first|replace hr9:=hid hr9 |replace hr:=hid hr))
 ·exact⟨rfl,.inl ⟨p,er,Rs.step_no (HK.out.1) hr.out,rfl,hF⟩⟩
 ·exact⟨rfl,.inl (ah (hF1) (Rs.step_no (Rs.step (HK.out.1) hr1.out) hr.out) hF)⟩
 ·exact⟨rfl,.inl (ah (((hF1).trans (hF2)).trans (Fo.below (ag _ _))) (Rs.step_no (Rs.step (Rs.step (HK.out.1) hr1.out) hr2.out) hr.out) hF)⟩
 ·exact⟨rfl,.inl (ah (hw4.fo) (hr.out) hF)⟩
 ·go_ret
  exact .inr ⟨x9,s9,V9,hr9.out,rfl,hz9,(hw4.fo).trans hF9⟩
theorem KP {X:Nat->Prop}{w:World}{base g c:Nat}{A:Option Addr}{ts:List Tok}{V:Value}{s:St}{f:Nat}(hI:∀f',f'<=f->Rz ts (run ts f'))(h:Pz X w base g A c ts V s)(hs:(ai ts s).s≠[])(hne:o9 ts (run ts f) s ≠ .out):Calls Tryz.prog 270 #[.pointer (some ⟨g,0,none⟩)] w (az X base g A c ts V w (o9 ts (run ts f) s)):=by
 have hk:Nk s 0 (o9 ts (run ts f) s):=zx ts (bg ts f) s;obtain⟨R,HR⟩:∃R,R=o9 ts (run ts f) s:=⟨_,rfl⟩;rw[<- HR]at hk hne |-;unfold o9 at HR;dsimp only at HR;have HK:=hid (And.intro HR (And.intro hne (And.intro hk (And.intro h.hn hI))));have HT:=hid (eG h (.inr hs));have hf:=aU (ai ts s);have HA:=hid (λw' V' (s':St) (q:Pz X w' base g A c ts V' s') (hsl:s'.nd.length+1<=s'.nx) x1 x2=>yB q 10 0 ((ai ts s).p:Int) [] none 0 0 x1 x2 hsl);generalize ((ai ts s).p:Int)=p0 at *
 generalize aJ (ai ts s)=tv at *
 clear HR hk hne hI h hs;go_enter Tryz.func270,Tryz.ntmps270
 go_wp2_with (first|(go_at_call 164;refine(HT.out).mono ?_;rintro e w1 ⟨rfl,hz1,hF1⟩) |(go_at_call 300;refine(yz hz1 18).mono ?_;rintro e w2 (⟨p,er,hr,rfl,hF⟩ |⟨x2,s2,V2,hr2,rfl,hz2,hF2⟩)<;>first|replace hr2:=hid hr2 |replace hr:=hid hr) |(go_at_call 138;refine(gZ (HK.out.2.2.2.2 f (Nat.le_refl _)) hz2 (Rs.step_in (Rs.step (HK.out.1) hr2.out) HK.out.2.1)).mono ?_;rintro e w3 (⟨p,er,hr,rfl,hF⟩ |⟨x3,s3,V3,hr3,rfl,hz3,hF3⟩)<;>first|replace hr3:=hid hr3 |replace hr:=hid hr) |(go_at_call 106;refine(HA.out _ _ _ hz3 (by have a:=((nW ts _ _ _ _ hr2.out).1).1;have b:=((dN (bg ts f) _ _ _ hr3.out).1).1;have c1:(ax s).nd=s.nd:=rfl;have c2:(ax s).nx=s.nx+1:=rfl;have d:=HK.out.2.2.2.1;rw[c1,c2]at a;omega) x2 x3).mono ?_;rintro e w4 (⟨p,er,hr,rfl,hF⟩ |⟨x4,s4,V4,hr4,rfl,hz4,hF4⟩)<;>first|replace hr4:=hid hr4 |replace hr:=hid hr) |(go_at_call 273;refine((mg hz4 x4).mono (λ_ _ q=>(Rs.step (Rs.step (Rs.step (HK.out.1) hr2.out) hr3.out) hr4.out :)▸q)).mono ?_;rintro e w9 (⟨p,er,hr,rfl,hF⟩ |⟨x9,s9,V9,hr9,rfl,hz9,hF9⟩)<;>first|replace hr9:=hid hr9 |replace hr:=hid hr))
 ·exact⟨rfl,.inl (ah (hF1) (Rs.step_no (HK.out.1) hr.out) hF)⟩
 ·exact⟨rfl,.inl (ah ((hF1).trans (hF2)) (Rs.step_no (Rs.step (HK.out.1) hr2.out) hr.out) hF)⟩
 ·exact⟨rfl,.inl (ah (((hF1).trans (hF2)).trans (hF3)) (Rs.step_no (Rs.step (Rs.step (HK.out.1) hr2.out) hr3.out) hr.out) hF)⟩
 ·exact⟨rfl,.inl (ah ((((hF1).trans (hF2)).trans (hF3)).trans (hF4)) (hr.out) hF)⟩
 ·go_ret
  exact .inr ⟨x9,s9,V9,hr9.out,rfl,hz9,((((hF1).trans (hF2)).trans (hF3)).trans (hF4)).trans hF9⟩
end
section
open Tr (Bx ag bt ak aB aa av)
theorem Dn {X:Nat->Prop}{w:World}{base g c:Nat}{A:Option Addr}{ts:List Tok}{V:Value}{s:St}{f:Nat}(hI:∀f',f'<=f->Rz ts (run ts f'))(h:Pz X w base g A c ts V s)(hs:(ai ts s).s≠[])(hne:Au ts (run ts f) s ≠ .out):Calls Tryz.prog 271 #[.pointer (some ⟨g,0,none⟩)] w (az X base g A c ts V w (Au ts (run ts f) s)):=by
 have hk:Nk s 0 (Au ts (run ts f) s):=Hl ts (bg ts f) s;obtain⟨R,HR⟩:∃R,R=Au ts (run ts f) s:=⟨_,rfl⟩;rw[<- HR]at hk hne |-;unfold Au at HR;dsimp only at HR;have HK:=hid (And.intro HR (And.intro hne (And.intro hk (And.intro h.hn hI))));have HT:=hid (eG h (.inr hs));have hf:=aU (ai ts s);have HA:=hid (λw' V' (s':St) (q:Pz X w' base g A c ts V' s') (hsl:s'.nd.length+1<=s'.nx)=>zD q 6 0 ((ai ts s).p:Int) [] none none 0 0 0 0 [] (lG _ _) ⟨rfl,Nat.le_refl _⟩ hsl);have HA3:=hid (λw' V' (s':St) (q:Pz X w' base g A c ts V' s') x1 x2 x3 (e:R=bX 11 0 ((ai ts s).p:Int) [] [x1,x2,x3] s')=>IL q 11 0 ((ai ts s).p:Int) [] none 0 0 x1 x2 x3 e hk h.hn);generalize ((ai ts s).p:Int)=p0 at *
 generalize aJ (ai ts s)=tv at *
 clear HR hk hne hI h hs;go_enter Tryz.func271,Tryz.ntmps271
 go_wp2_with (first|(go_at_call 164;refine(HT.out).mono ?_;rintro e w1 ⟨rfl,hz1,hF1⟩) |(go_at_call 138;refine(gZ (HK.out.2.2.2.2 f (Nat.le_refl _)) hz1 (Rs.step_in (HK.out.1) HK.out.2.1)).mono ?_;rintro e w2 (⟨p,er,hr,rfl,hF⟩ |⟨x2,s2,V2,hr2,rfl,hz2,hF2⟩)<;>first|replace hr2:=hid hr2 |replace hr:=hid hr) |(go_at_call 272;refine(om HK.out.2.2.2.2 hz2 (Rs.step_in (Rs.step (HK.out.1) hr2.out) HK.out.2.1)).mono ?_;rintro e w3 (⟨p,er,hr,rfl,hF⟩ |⟨x3,s3,V3,hr3,rfl,hz3,hF3⟩)<;>first|replace hr3:=hid hr3 |replace hr:=hid hr))
 ·exact⟨rfl,.inl (ah (hF1) (Rs.step_no (HK.out.1) hr.out) hF)⟩
 ·exact⟨rfl,.inl (ah ((hF1).trans (hF2)) (Rs.step_no (Rs.step (HK.out.1) hr2.out) hr.out) hF)⟩
 have HS:=hid (fV hz3 v_);have hR3:=Rs.step (Rs.step (HK.out.1) hr2.out) hr3.out;have HF3:=hid (((hF1).trans (hF2)).trans (hF3));have n3:=(jX ts (bg ts f) _ _ _ hr3.out).1;have n2:=(dN (bg ts f) _ _ _ hr2.out).1;cases q:sees ts v_ s3 with
 |true=>
  rw[q]at HS;rw[if_pos q]at hR3;have HT4:=hid (λw' (p:Below w3.heap.size w3 w')=>eG (hz3.below p) (.inr (by have e:(ai ts s3).s=v_:=(by simpa [sees]using q);rw[e];decide)));have HR:=hid hR3;generalize aJ (ai ts s3)=tv3 at *
  clear hR3 q n3 n2;go_wp2_with (first|(go_at_call 103;refine(HS.out).mono ?_;rintro e w4 ⟨rfl,hb4⟩) |(go_at_call 164;refine(HT4.out _ hb4).mono ?_;rintro e w5 ⟨rfl,hz5,hF5⟩) |(go_at_call 272;refine(om HK.out.2.2.2.2 hz5 (Rs.step_in (HR.out) HK.out.2.1)).mono ?_;rintro e w6 (⟨p,er,hr,rfl,hF⟩ |⟨x6,s6,V6,hr6,rfl,hz6,hF6⟩)<;>first|replace hr6:=hid hr6 |replace hr:=hid hr) |(go_at_call 106;refine(HA3.out _ _ _ hz6 x2 x3 x6 (Rs.step (HR.out) hr6.out :)).mono ?_;rintro e w9 (⟨p,er,hr,rfl,hF⟩ |⟨x9,s9,V9,hr9,rfl,hz9,hF9⟩)<;>first|replace hr9:=hid hr9 |replace hr:=hid hr))
  ·exact⟨rfl,.inl (ah (((HF3.out).trans (Fo.below hb4)).trans (hF5)) (Rs.step_no (HR.out) hr.out) hF)⟩
  ·exact⟨rfl,.inl (ah ((((HF3.out).trans (Fo.below hb4)).trans (hF5)).trans (hF6)) (hr.out) hF)⟩
  ·go_ret
   exact .inr ⟨x9,s9,V9,hr9.out,rfl,hz9,((((HF3.out).trans (Fo.below hb4)).trans (hF5)).trans (hF6)).trans hF9⟩
 |false=>
  rw[q]at HS;rw[if_neg (by rw[q];decide)]at hR3;have HR:=hid hR3;have HN:=hid (show s3.nd.length+1<=s3.nx by
   have c1:(ax s).nd=s.nd:=rfl;have c2:(ax s).nx=s.nx+1:=rfl;have d:=HK.out.2.2.2.1;rw[c1,c2]at n2;omega)
  clear hR3 q n3 n2;go_wp2_with (first|(go_at_call 103;refine(HS.out).mono ?_;rintro e w4 ⟨rfl,hb4⟩) |(go_at_call 106;refine(HA.out _ _ _ (hz3.below hb4) HN.out).mono ?_));rintro e w5 (⟨p,er,hr,rfl,hF⟩ |⟨x5,s5,V5,hr5,rfl,hz5,hF5⟩)<;>first|replace hr5:=hid hr5 |replace hr:=hid hr
  ·cases hr.out
  go_wp2_with (go_at_call 106;refine(HA3.out _ _ _ hz5 x2 x3 x5 (Rs.step (HR.out) hr5.out :)).mono ?_;rintro e w9 (⟨p,er,hr,rfl,hF⟩ |⟨x9,s9,V9,hr9,rfl,hz9,hF9⟩)<;>first|replace hr9:=hid hr9 |replace hr:=hid hr)
  ·exact⟨rfl,.inl (ah (((HF3.out).trans (Fo.below hb4)).trans (hF5)) (hr.out) hF)⟩
  ·go_ret
   exact .inr ⟨x9,s9,V9,hr9.out,rfl,hz9,(((HF3.out).trans (Fo.below hb4)).trans (hF5)).trans hF9⟩
theorem AP {X:Nat->Prop}{w:World}{base g c:Nat}{A:Option Addr}{ts:List Tok}{V:Value}{s:St}{f:Nat}(hI:∀f',f'<=f->Rz ts (run ts f'))(h:Pz X w base g A c ts V s)(hs:(ai ts s).s≠[])(hne:o_ ts (run ts f) s ≠ .out):Calls Tryz.prog 276 #[.pointer (some ⟨g,0,none⟩)] w (az X base g A c ts V w (o_ ts (run ts f) s)):=by
 have hk:Nk s 0 (o_ ts (run ts f) s):=CR ts (bg ts f) s;obtain⟨R,HR⟩:∃R,R=o_ ts (run ts f) s:=⟨_,rfl⟩;rw[<- HR]at hk hne |-;unfold o_ at HR;dsimp only at HR;have HK:=hid (And.intro HR (And.intro hne (And.intro hk (And.intro h.hn hI))));have HT:=hid (eG h (.inr hs));have hf:=aU (ai ts s);have hfa:=aM;have HA:=hid (λw' V' (s':St) u (q:Pz X w' base g A c ts V' s') x1 x2 (e:R=bX 16 0 ((ai ts s).p:Int) u [x1,x2] s')=>CV q 16 0 ((ai ts s).p:Int) u none 0 0 x1 x2 e hk h.hn);generalize ((ai ts s).p:Int)=p0 at *
 generalize aJ (ai ts s)=tv at *
 clear HR hk hne hI h hs;go_enter Tryz.func276,Tryz.ntmps276
 go_wp2_with (first|(go_at_call 164;refine(HT.out).mono ?_;rintro e w1 ⟨rfl,hz1,hF1⟩) |(go_at_call 272;refine(om HK.out.2.2.2.2 hz1 (Rs.step_in (HK.out.1) HK.out.2.1)).mono ?_;rintro e w2 (⟨p,er,hr,rfl,hF⟩ |⟨x2,s2,V2,hr2,rfl,hz2,hF2⟩)<;>first|replace hr2:=hid hr2 |replace hr:=hid hr) |(go_at_call 166;refine(jg hz2 yj (by decide)).mono ?_;rintro e w3 (⟨p,er,hr,rfl,hF⟩ |⟨s3,hr3,rfl,hz3,hF3⟩)<;>first|replace hr3:=hid hr3 |replace hr:=hid hr) |(go_at_call 168;refine(ni hz3).mono ?_;rintro e w4 (⟨p,er,hr,rfl,hF⟩ |⟨s4,hr4,rfl,hz4,hF4⟩)<;>first|replace hr4:=hid hr4 |replace hr:=hid hr) |(go_at_call 272;refine(om HK.out.2.2.2.2 hz4 (Rs.step_in (Rs.step (Rs.step (Rs.step (HK.out.1) hr2.out) hr3.out) hr4.out) HK.out.2.1)).mono ?_;rintro e w5 (⟨p,er,hr,rfl,hF⟩ |⟨x5,s5,V5,hr5,rfl,hz5,hF5⟩)<;>first|replace hr5:=hid hr5 |replace hr:=hid hr) |(go_at_call 106;refine(HA.out _ _ _ _ hz5 x2 x5 (Rs.step (Rs.step (Rs.step (Rs.step (HK.out.1) hr2.out) hr3.out) hr4.out) hr5.out :)).mono ?_;rintro e w9 (⟨p,er,hr,rfl,hF⟩ |⟨x9,s9,V9,hr9,rfl,hz9,hF9⟩)<;>first|replace hr9:=hid hr9 |replace hr:=hid hr))
 ·exact⟨rfl,.inl (ah (hF1) (Rs.step_no (HK.out.1) hr.out) hF)⟩
 ·exact⟨rfl,.inl (ah ((hF1).trans (hF2)) (Rs.step_no (Rs.step (HK.out.1) hr2.out) hr.out) hF)⟩
 ·exact⟨rfl,.inl (ah (((hF1).trans (hF2)).trans (hF3)) (Rs.step_no (Rs.step (Rs.step (HK.out.1) hr2.out) hr3.out) hr.out) hF)⟩
 ·exact⟨rfl,.inl (ah ((((hF1).trans (hF2)).trans (hF3)).trans (hF4)) (Rs.step_no (Rs.step (Rs.step (Rs.step (HK.out.1) hr2.out) hr3.out) hr4.out) hr.out) hF)⟩
 ·exact⟨rfl,.inl (ah (((((hF1).trans (hF2)).trans (hF3)).trans (hF4)).trans (hF5)) (hr.out) hF)⟩
 ·go_ret
  exact .inr ⟨x9,s9,V9,hr9.out,rfl,hz9,(((((hF1).trans (hF2)).trans (hF3)).trans (hF4)).trans (hF5)).trans hF9⟩
theorem Dp {X:Nat->Prop}{w:World}{base g c:Nat}{A:Option Addr}{ts:List Tok}{V:Value}{s:St}{f:Nat}(hI:∀f',f'<=f->Rz ts (run ts f'))(h:Pz X w base g A c ts V s)(hs:(ai ts s).s≠[])(hne:fe ts (run ts f) s ≠ .out):Calls Tryz.prog 275 #[.pointer (some ⟨g,0,none⟩)] w (az X base g A c ts V w (fe ts (run ts f) s)):=by
 have hk:Nk s 0 (fe ts (run ts f) s):=tN ts (bg ts f) s;obtain⟨R,HR⟩:∃R,R=fe ts (run ts f) s:=⟨_,rfl⟩;rw[<- HR]at hk hne |-;unfold fe at HR;dsimp only at HR;have HK:=hid (And.intro HR (And.intro hne (And.intro hk (And.intro h.hn hI))));have HT:=hid (eG h (.inr hs));have hf:=aU (ai ts s);have HA0:=hid (λw' V' (q:Pz X w' base g A c ts V' (ax s)) (e:R=bX 14 0 ((ai ts s).p:Int) [] [] (ax s))=>jY q 14 0 ((ai ts s).p:Int) [] none none 0 0 0 0 [] (lG _ _) ⟨rfl,Nat.le_refl _⟩ e hk h.hn);have HA1:=hid (λw' V' (s':St) (q:Pz X w' base g A c ts V' s') x1 (e:R=bX 14 0 ((ai ts s).p:Int) [] [x1] s')=>pE q 14 0 ((ai ts s).p:Int) [] none 0 0 x1 e hk h.hn);generalize ((ai ts s).p:Int)=p0 at *
 generalize aJ (ai ts s)=tv at *
 have HI:=hid hI;clear hk hne hI h hs;cases q:sees ts [59] (ax s) with
 |true=>
  rw[if_pos q]at HR;have HRR:=hid HR;have HQ:=hid q;clear HR q;go_enter Tryz.func275,Tryz.ntmps275
  go_wp2_with (first|(go_at_call 164;refine HT.out.mono ?_;rintro e w1 ⟨rfl,hz1,hF1⟩) |(go_at_call 103;refine(fV (hz1.below (ag _ _)) [59]).mono ?_));rintro e w2 ⟨rfl,hb2⟩;rw[HQ.out];have hS:=(Bx.new w1 37 [.int .i64 14,.int .i64 0,.int .i64 p0,.string ⟨#[]⟩,.slice none 0 0]).below hb2 (Bx.new w1 37 _).lt;have z0:=(hS.cell 0).trans rfl;have z1:=(hS.cell 1).trans rfl;have z2:=(hS.cell 2).trans rfl;have z3:=(hS.cell 3).trans rfl;have z4:=(hS.cell 4).trans rfl;have HX:=hid (And.intro (hz1.below (bt (ag _ _) hb2)) (hF1.trans (Fo.below (V:=V) (bt (ag _ _) hb2))));clear hz1 hF1 hb2 hS;go_wp2_with (go_at_call 106;refine(HA0.out _ _ HX.out.1 HRR.out).mono ?_;rintro e w9 (⟨p,er,hr,rfl,hF⟩ |⟨x9,s9,V9,hr9,rfl,hz9,hF9⟩)<;>first|replace hr9:=hid hr9 |replace hr:=hid hr)
  ·exact⟨rfl,.inl (ah HX.out.2 hr.out hF)⟩
  ·go_ret
   exact .inr ⟨x9,s9,V9,hr9.out,rfl,hz9,HX.out.2.trans hF9⟩
 |false=>
  rw[if_neg (by rw[q];decide)]at HR;have HRR:=hid HR;have HQ:=hid q;clear HR q;go_enter Tryz.func275,Tryz.ntmps275
  go_wp2_with (first|(go_at_call 164;refine HT.out.mono ?_;rintro e w1 ⟨rfl,hz1,hF1⟩) |(go_at_call 103;refine(fV (hz1.below (ag _ _)) [59]).mono ?_));rintro e w2 ⟨rfl,hb2⟩;rw[HQ.out];have hS:Bx {w2 with drawn:=w2.drawn+1} w1.heap.size 37 [.int .i64 14,.int .i64 0,.int .i64 p0,.string ⟨#[]⟩,.slice none 0 0]:=(Bx.new w1 37 [.int .i64 14,.int .i64 0,.int .i64 p0,.string ⟨#[]⟩,.slice none 0 0]).below (cO hb2) (Bx.new w1 37 _).lt;have hz3:Pz X {w2 with drawn:=w2.drawn+1} base g A c ts V (ax s):=hz1.below (cO (bt (ag _ _) hb2));have HF:=hid (hF1.trans (Fo.below (V:=V) (cO (bt (ag w1 (.cells #[.int .i64 14,.int .i64 0,.int .i64 p0,.string ⟨#[]⟩,.slice none 0 0] 37)) hb2))));have HIx:=hid (λw' (q:Pz X w' base g A c ts V (ax s))=>gZ (HI.out f (Nat.le_refl _)) q (Rs.step_in HRR.out HK.out.2.1));have HNx:=hid (λ(p er:Nat) (q:bT (run ts f) (ax s)=.no p er)=>Rs.step_no HRR.out q);have HAx:=hid (λw' V' x (s2:St) (q:Pz X w' base g A c ts V' s2) (q2:bT (run ts f) (ax s)=.ok [x] s2)=>HA1.out w' V' s2 q x (Rs.step HRR.out q2 :));have HX3:=hid (And.intro hS (And.intro hz3 hz1.new));clear hS hz3 hz1 hF1 hb2
  go_upto_region 4 with(fail)
  obtain⟨hS,hz3,hne⟩:=HX3.out;refine wp_region_held (S:=λw'=>Bx w' w1.heap.size 37 [.int .i64 14,.int .i64 0,.int .i64 p0,.string ⟨#[]⟩,.slice none 0 0]) (by kernel_rfl) ?_;refine bf 0 (.pointer (some ⟨g,0,none⟩)) (by kernel_rfl) rfl rfl (λ_ _ _ h=>h) rfl (aP rfl rfl) hS ?_;simp only[ap];refine bf 1 (.agg #[.int .i64 14,.int .i64 0,.int .i64 p0,.string ⟨#[]⟩,.slice none 0 0]) (by kernel_rfl) rfl rfl (λ_ _ _ h=>h) rfl (aO rfl rfl (λw' q=>gY q)) hS ?_;simp only[ap];refine bf 2 (.pointer (some ⟨g,0,none⟩)) (by kernel_rfl) rfl rfl (λ_ _ _ h=>h) rfl (aP rfl rfl) hS ?_;simp only[ap];refine bv 3 ({dst:=some 16,op:=Op.call {callee:=Callee.value (Operand.func 138),args := #[Operand.tmp 15],argTypes := #[59]},type:=3,pos := "grammar.go:190",after := #[{on:=2,ground:=Ground.data}],guard:=none}:Oper) (args := #[.pointer (some ⟨g,0,none⟩)]) zC rfl rfl (by kernel_rfl) rfl rfl (HIx.out _ hz3) ?_;rintro e w7 (⟨p,er,hr,rfl,hF⟩ |⟨x7,s7,V7,hr7,rfl,hz7,hF7⟩)
  ·exact .inl ⟨_,rfl,rfl,.inl (ah HF.out (HNx.out _ _ hr) hF)⟩
  have hne7:=(hF7.bx hS hne.1 hne.2).2;have hS7:=(hF7.bx hS hne.1 hne.2).1;refine .inr ⟨_,rfl,hS7,?_⟩;simp only[ap];refine bR 4 ({dst:=some 17,op:=Op.buildSlice 35 1 #[(0,Operand.tmp 16)],type:=35,pos := "grammar.go:190",after := #[{on:=3,ground:=Ground.data}],guard:=none}:Oper) rfl (by kernel_rfl) rfl (jN rfl rfl ⟨hS7.alloc _,?_⟩);simp only[ap];refine bv 5 ({dst:=some 18,op:=Op.call {callee:=Callee.value (Operand.func 106),args := #[Operand.tmp 13,Operand.tmp 14,Operand.tmp 17],argTypes := #[59,37,35]},type:=3,pos := "grammar.go:190",after := #[{on:=0,ground:=Ground.data},{on:=1,ground:=Ground.data},{on:=4,ground:=Ground.data},{on:=3,ground:=Ground.chain}],guard:=none}:Oper) (args := #[.pointer (some ⟨g,0,none⟩),.agg #[.int .i64 14,.int .i64 0,.int .i64 p0,.string ⟨#[]⟩,.slice none 0 0],.slice (some ⟨w7.heap.size,0,none⟩) 1 1]) mJ rfl rfl (by kernel_rfl) rfl rfl (HAx.out _ _ _ _ hz7 hr7) ?_;rintro e w9 (⟨p,er,hr,rfl,hF⟩ |⟨x9,s9,V9,hr9,rfl,hz9,hF9⟩)
  ·exact .inl ⟨_,rfl,rfl,.inl (ah (HF.out.trans hF7) hr hF)⟩
  have hS9:=(hF9.bx hS7 hne.1 hne7).1;refine .inr ⟨_,rfl,hS9,?_⟩;simp only[ap];refine bf 6 (.int .i64 x9) (by kernel_rfl) rfl rfl (λ_ _ _ h=>h) rfl (cZ rfl rfl) hS9 ?_;simp only[ap];refine wpAnyH_done (by kernel_rfl) ?_ _;have HR9:=hid hr9;clear hr9 hr7;go_wp2
  go_ret
  exact .inr ⟨_,s9,V9,HR9.out,rfl,hz9,(HF.out.trans hF7).trans hF9⟩
end
end Go.Proofs.YteecfjhjllajlaaGreatDoor
