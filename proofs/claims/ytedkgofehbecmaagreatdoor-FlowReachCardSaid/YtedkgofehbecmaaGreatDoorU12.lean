/- PROVED here: parts N12 of the claim. No condition but those in each theorem's own head. -/
import Derived.Test.YtedkgofehbecmaaGreatDoorU11
namespace Go.Proofs.YtedkgofehbecmaaGreatDoor
open Go.Lib (hid)
open Go Go.RowKit
open Tr (Bx heap1 bt gen_world ret_int ret_bool cell_same)
theorem Rw.one {X:Nat->Prop}{w0 w:World}{base g c:Nat}{A:Option Addr}{ts:List Tok}{V0 V:Value}{s:St}(h:Pz X w base g A c ts V s)(f:Fo w0 w g V0 V)(hX0:∀b,X b->b<w0.heap.size)(hb0:base<=w0.heap.size)(n:Int):Rw X w0 V0 (w.alloc (.cells #[.int .i64 n] 3)) base g A c ts V s (.slice (some ⟨w.heap.size,0,none⟩) 1 1) [n]:=by
 have hb:=heap1 w (.cells #[.int .i64 n] 3)
 have hz:=h.below hb
 obtain⟨xs,h1,h2⟩:=h.nd.more (Y:=λb=>w.heap.size=b) (λb q=>by omega)
 have hn:Nodes (w.alloc (.cells #[.int .i64 n] 3)) (λb=>X b\/(Value.slice (some ⟨w.heap.size,0,none⟩) 1 1).ownBlock=some b) base V s.nd:=
  (Nodes.fr (g:=g) ⟨xs,h1,h2⟩ (Fr.of hb) h.px.box h.gb).weak (λb q=>q.imp id (λe=>by simpa [Value.ownBlock]using e))
 refine⟨⟨hz.px,hn,hz.hb,hz.gb,hz.hA,hz.hn,hz.h40,hz.ok,λb q=>q.elim (λq=>hz.hX b q) (λe =>?_)⟩,⟨rfl,.inr ⟨w.heap.size,1,_,rfl,f.fr.size,World.alloc_heap_new _ _,Nat.le_refl _,by decide,rfl,rfl⟩⟩,f.trans (Fo.below hb),hX0,hb0⟩
 have e:w.heap.size=b:=by simpa [Value.ownBlock]using e
 rw[World.size_alloc];omega
theorem rw_appends {X X2:Nat->Prop}{w0 w2 w:World}{base g c:Nat}{A:Option Addr}{ts:List Tok}{V0 V2 V:Value}{s:St}{v v2:Value}{l l2:List Int}{ops:Array Oper}{rest:List Oper}{o:Oper}{a:Act}{Q:Exit->Act->World->Prop}(hgd:o.guard=none)(p x:Operand)
  (ho:o.op = .call { callee :=.builtin .append,args := #[p,x],argTypes := #[28,28] }) (h:Rw X w0 V0 w base g A c ts V s v l) (h2:Rw X2 w2 V2 w base g A c ts V s v2 l2) (hs:a.eval p=v) (hx:a.eval x=v2) (hlen:l.length+l2.length<=1000000)
  (hk:∀v' w',Rw X w0 V0 w' base g A c ts V s v' (l++l2)->wpList Tryz.prog ops Q rest (a.put o.dst v') w'):wpList Tryz.prog ops Q (o :: rest) a w:=by
 have hc:=λ(b:Nat) (q:v2.ownBlock=some b)=>h2.own.cells (g:=b) q
 rcases h2.own.2 with⟨e1,e2⟩ |⟨b,cap,cur,e1,_⟩
 ·obtain⟨i0,hi,_,hz1,_⟩:=info_parts info3
  obtain rfl:l2=[]:=List.eq_nil_of_length_eq_zero e2
  refine wpList_append_own_none hgd p x 28 ho w0.heap.size 3 i0 1 Tryz.underlying28 hi v l.length (l.map (Value.int .i64)) hs h.own (by rw[hx,e1]) ?_
  have:=hk v w (by rw[List.append_nil];exact h)
  exact this
 ·exact rw_append hgd p x ho h hs ⟨b,0,none⟩ l2.length cap l2 (by rw[hx,e1]) rfl (hc b (by rw[e1];rfl)) hlen hk
set_option maxRecDepth 100000 in
set_option maxHeartbeats 1500000 in
theorem ended_z {X:Nat->Prop}{w:World}{base g c:Nat}{A:Option Addr}{ts:List Tok}{V:Value}{s:St}(h:Pz X w base g A c ts V s)(x:Int):Calls Tryz.prog 254 #[.pointer (some ⟨g,0,none⟩),.int .i64 x] w (IPost X base g A c ts V w (endedM ts [x] s)):=by
 obtain⟨R,HR⟩:∃R,R=endedM ts [x] s:=⟨_,rfl⟩
 rw[<- HR]
 unfold endedM at HR
 have HB:=hid (expect_z h [59] (by decide))
 have HK:=hid (And.intro HR trivial)
 generalize tokV (tkn ts s)=tv at *
 clear HR h
 go_enter Tryz.func254,Tryz.ntmps254
 go_wp2_with (go_at_call 175;refine(HB.out).mono ?_;rintro e w1 (⟨p,er,hr,rfl,hF⟩ |⟨s1,hr1,rfl,hz1,hF1⟩)<;>first|replace hr1:=hid hr1 |replace hr:=hid hr)
 ·exact⟨rfl,.inl ⟨p,er,Rs.step_no (HK.out.1) hr.out,rfl,hF⟩⟩
 ·go_ret
  exact .inr ⟨x,s1,V,(Rs.step HK.out.1 hr1.out :),rfl,hz1,hF1⟩
set_option maxRecDepth 100000 in
set_option maxHeartbeats 1500000 in
theorem block_z {X:Nat->Prop}{w:World}{base g c:Nat}{A:Option Addr}{ts:List Tok}{V:Value}{s:St}{f:Nat}(hI:∀f',f'<=f->Rz ts (run ts f'))(h:Pz X w base g A c ts V s)(hne:blockM ts (run ts f) s ≠ .out):Calls Tryz.prog 253 #[.pointer (some ⟨g,0,none⟩)] w (IPost X base g A c ts V w (blockM ts (run ts f) s)):=by
 obtain⟨R,HR⟩:∃R,R=blockM ts (run ts f) s:=⟨_,rfl⟩
 rw[<- HR]at hne |-
 unfold blockM at HR
 dsimp only at HR
 have hf:=field36_2 (tkn ts s)
 have HB:=hid (begin_z h [123] (by decide))
 have HS:=hid (λw' s1 (q:Pz X w' base g A c ts V s1) (hr:begM ts [123] s = .ok [] s1)=>by
  have a:=beg_op h.ok (by decide) h.px.nx hr
  have b:=((hI f (Nat.le_refl _)).z X w' base g A c V s1 q).2.2.2 ((tkn ts s).p:Int) (by omega) (by rw[<- Rs.step HR hr];exact hne)
  rw[<- Rs.step HR hr]at b
  exact b)
 have HK:=hid (And.intro HR trivial)
 generalize ((tkn ts s).p:Int)=p0 at *
 generalize tokV (tkn ts s)=tv at *
 clear HR h hne hI
 go_enter Tryz.func253,Tryz.ntmps253
 go_wp2_with (first|(go_at_call 181;refine(HB.out).mono ?_;rintro e w1 (⟨p,er,hr,rfl,hF⟩ |⟨s1,hr1,rfl,hz1,hF1⟩)<;>first|replace hr1:=hid hr1 |replace hr:=hid hr) |(go_at_call 182;refine(HS.out _ _ hz1 hr1.out).mono ?_;rintro e w9 (⟨p,er,hr,rfl,hF⟩ |⟨x9,s9,V9,hr9,rfl,hz9,hF9⟩)<;>first|replace hr9:=hid hr9 |replace hr:=hid hr))
 ·exact⟨rfl,.inl ⟨p,er,Rs.step_no (HK.out.1) hr.out,rfl,hF⟩⟩
 ·exact⟨rfl,.inl (np_after (hF1) (hr.out) hF)⟩
 ·go_ret
  exact .inr ⟨x9,s9,V9,hr9.out,rfl,hz9,(hF1).trans hF9⟩
set_option maxRecDepth 100000 in
set_option maxHeartbeats 1500000 in
theorem call_z {X:Nat->Prop}{w:World}{base g c:Nat}{A:Option Addr}{ts:List Tok}{V:Value}{s:St}{f:Nat}(hI:∀f',f'<=f->Rz ts (run ts f'))(h:Pz X w base g A c ts V s)(tx:List UInt8)(pl:Int)(hne:callM ts (run ts f) tx pl s ≠ .out):Calls Tryz.prog 255 #[.pointer (some ⟨g,0,none⟩),.string (bs tx),.int .i64 pl] w (IPost X base g A c ts V w (callM ts (run ts f) tx pl s)):=by
 have hk:Nk s 0 (callM ts (run ts f) tx pl s):=(nk_call ts (run_nk ts f) s tx pl).weak (by omega)
 obtain⟨R,HR⟩:∃R,R=callM ts (run ts f) tx pl s:=⟨_,rfl⟩
 rw[<- HR]at hk hne |-
 unfold callM at HR
 have HK:=hid (And.intro HR (And.intro hne (And.intro hk (And.intro h.hn hI))))
 have HB:=hid (expect_z h wCall (by decide))
 have H0:=hid h
 generalize tokV (tkn ts s)=tv at *
 have hmf:∀(fn:Fn) (first cap:Array Value) (w:World),(Instr.makeFunc fn first cap).run Tryz.prog w = .ok (.func fn first cap) w:=λ_ _ _ _=>rfl
 clear HR hk hne hI h
 go_enter Tryz.func255,Tryz.ntmps255
 go_wp2_with (first|(go_at_call 175;refine(HB.out).mono ?_;rintro e w1 (⟨p,er,hr,rfl,hF⟩ |⟨s1,hr1,rfl,hz1,hF1⟩)<;>first|replace hr1:=hid hr1 |replace hr:=hid hr) |(go_at_call 271;refine(leaf_z hz1 19).mono ?_;rintro e w2 (⟨p,er,hr,rfl,hF⟩ |⟨x2,s2,V2,hr2,rfl,hz2,hF2⟩)<;>first|replace hr2:=hid hr2 |replace hr:=hid hr) |(go_at_call 178;refine(list_z HK.out.2.2.2.2 (Rw.one hz2 (hF1.trans hF2) H0.out.hX H0.out.hb x2).z (Rs.step_in (Rs.step (Rs.step (HK.out.1) hr1.out) hr2.out) HK.out.2.1)).mono ?_;rintro e w3 (⟨p,er,hr,rfl,hF⟩ |⟨l3,s3,V3,v3,hr3,rfl,hw3,hl3⟩)<;>first|replace hr3:=hid hr3 |replace hr:=hid hr) |(at_builtin;refine rw_appends rfl _ _ rfl ((Rw.one hz2 (hF1.trans hF2) H0.out.hX H0.out.hb x2).step hw3.pz hw3.fo) hw3 rfl rfl (by have:=hw3.z.len;simp only[List.length_cons,List.length_nil];omega) ?_;intro v4 w4 hw4;obtain⟨K4,c4,rfl,_⟩:=hw4.kd) |(go_at_call 131;refine(add_z hw4.pz 13 0 pl tx none K4 0 0 _ c4 _ hw4.kds.1 ⟨rfl,hw4.kle⟩ (Rs.step (Rs.step (Rs.step (HK.out.1) hr1.out) hr2.out) hr3.out :) HK.out.2.2.1 HK.out.2.2.2.1).mono ?_;rintro e w9 (⟨p,er,hr,rfl,hF⟩ |⟨x9,s9,V9,hr9,rfl,hz9,hF9⟩)<;>first|replace hr9:=hid hr9 |replace hr:=hid hr))
 ·exact⟨rfl,.inl ⟨p,er,Rs.step_no (HK.out.1) hr.out,rfl,hF⟩⟩
 ·exact⟨rfl,.inl (np_after (hF1) (Rs.step_no (Rs.step (HK.out.1) hr1.out) hr.out) hF)⟩
 ·exact⟨rfl,.inl (np_after (((hF1).trans (hF2)).trans (Fo.below (heap1 _ _))) (Rs.step_no (Rs.step (Rs.step (HK.out.1) hr1.out) hr2.out) hr.out) hF)⟩
 ·exact⟨rfl,.inl (np_after (hw4.fo) (hr.out) hF)⟩
 ·go_ret
  exact .inr ⟨x9,s9,V9,hr9.out,rfl,hz9,(hw4.fo).trans hF9⟩
set_option maxRecDepth 100000 in
set_option maxHeartbeats 1500000 in
theorem out_z {X:Nat->Prop}{w:World}{base g c:Nat}{A:Option Addr}{ts:List Tok}{V:Value}{s:St}{f:Nat}(hI:∀f',f'<=f->Rz ts (run ts f'))(h:Pz X w base g A c ts V s)(hs:(tkn ts s).s≠[])(hne:outM ts (run ts f) s ≠ .out):Calls Tryz.prog 250 #[.pointer (some ⟨g,0,none⟩)] w (IPost X base g A c ts V w (outM ts (run ts f) s)):=by
 have hk:Nk s 0 (outM ts (run ts f) s):=nk_outM ts (run_nk ts f) s
 obtain⟨R,HR⟩:∃R,R=outM ts (run ts f) s:=⟨_,rfl⟩
 rw[<- HR]at hk hne |-
 unfold outM at HR
 dsimp only at HR
 have HK:=hid (And.intro HR (And.intro hne (And.intro hk (And.intro h.hn hI))))
 have HT:=hid (take_z h (.inr hs))
 have hf:=field36_2 (tkn ts s)
 have HA:=hid (λw' V' (s':St) (q:Pz X w' base g A c ts V' s') (hsl:s'.nd.length+1<=s'.nx) x1 x2=>add_y2 q 10 0 ((tkn ts s).p:Int) [] none 0 0 x1 x2 hsl)
 generalize ((tkn ts s).p:Int)=p0 at *
 generalize tokV (tkn ts s)=tv at *
 clear HR hk hne hI h hs
 go_enter Tryz.func250,Tryz.ntmps250
 go_wp2_with (first|(go_at_call 173;refine(HT.out).mono ?_;rintro e w1 ⟨rfl,hz1,hF1⟩) |(go_at_call 271;refine(leaf_z hz1 18).mono ?_;rintro e w2 (⟨p,er,hr,rfl,hF⟩ |⟨x2,s2,V2,hr2,rfl,hz2,hF2⟩)<;>first|replace hr2:=hid hr2 |replace hr:=hid hr) |(go_at_call 252;refine(expr_z (HK.out.2.2.2.2 f (Nat.le_refl _)) hz2 (Rs.step_in (Rs.step (HK.out.1) hr2.out) HK.out.2.1)).mono ?_;rintro e w3 (⟨p,er,hr,rfl,hF⟩ |⟨x3,s3,V3,hr3,rfl,hz3,hF3⟩)<;>first|replace hr3:=hid hr3 |replace hr:=hid hr) |(go_at_call 131;refine(HA.out _ _ _ hz3 (by have a:=((nk_leaf ts _ _ _ _ hr2.out).1).1;have b:=((nk_expr (run_nk ts f) _ _ _ hr3.out).1).1;have c1:(takeS s).nd=s.nd:=rfl;have c2:(takeS s).nx=s.nx+1:=rfl;have d:=HK.out.2.2.2.1;rw[c1,c2]at a;omega) x2 x3).mono ?_;rintro e w4 (⟨p,er,hr,rfl,hF⟩ |⟨x4,s4,V4,hr4,rfl,hz4,hF4⟩)<;>first|replace hr4:=hid hr4 |replace hr:=hid hr) |(go_at_call 254;refine((ended_z hz4 x4).mono (λ_ _ q=>(Rs.step (Rs.step (Rs.step (HK.out.1) hr2.out) hr3.out) hr4.out :)▸q)).mono ?_;rintro e w9 (⟨p,er,hr,rfl,hF⟩ |⟨x9,s9,V9,hr9,rfl,hz9,hF9⟩)<;>first|replace hr9:=hid hr9 |replace hr:=hid hr))
 ·exact⟨rfl,.inl (np_after (hF1) (Rs.step_no (HK.out.1) hr.out) hF)⟩
 ·exact⟨rfl,.inl (np_after ((hF1).trans (hF2)) (Rs.step_no (Rs.step (HK.out.1) hr2.out) hr.out) hF)⟩
 ·exact⟨rfl,.inl (np_after (((hF1).trans (hF2)).trans (hF3)) (Rs.step_no (Rs.step (Rs.step (HK.out.1) hr2.out) hr3.out) hr.out) hF)⟩
 ·exact⟨rfl,.inl (np_after ((((hF1).trans (hF2)).trans (hF3)).trans (hF4)) (hr.out) hF)⟩
 ·go_ret
  exact .inr ⟨x9,s9,V9,hr9.out,rfl,hz9,((((hF1).trans (hF2)).trans (hF3)).trans (hF4)).trans hF9⟩
end Go.Proofs.YtedkgofehbecmaaGreatDoor
namespace Go.Proofs.YtedkgofehbecmaaGreatDoor
open Go.Lib (hid)
open Go Go.RowKit
open Tr (Bx heap1 bt gen_world ret_int ret_bool cell_same)
set_option maxRecDepth 100000 in
set_option maxHeartbeats 1500000 in
theorem choice_z {X:Nat->Prop}{w:World}{base g c:Nat}{A:Option Addr}{ts:List Tok}{V:Value}{s:St}{f:Nat}(hI:∀f',f'<=f->Rz ts (run ts f'))(h:Pz X w base g A c ts V s)(hs:(tkn ts s).s≠[])(hne:ifM ts (run ts f) s ≠ .out):Calls Tryz.prog 251 #[.pointer (some ⟨g,0,none⟩)] w (IPost X base g A c ts V w (ifM ts (run ts f) s)):=by
  have hk:Nk s 0 (ifM ts (run ts f) s):=nk_if ts (run_nk ts f) s
  obtain⟨R,HR⟩:∃R,R=ifM ts (run ts f) s:=⟨_,rfl⟩
  rw[<- HR]at hk hne |-
  unfold ifM at HR
  dsimp only at HR
  have HK:=hid (And.intro HR (And.intro hne (And.intro hk (And.intro h.hn hI))))
  have HT:=hid (take_z h (.inr hs))
  have hf:=field36_2 (tkn ts s)
  have HA:=hid (λw' V' (s':St) (q:Pz X w' base g A c ts V' s') (hsl:s'.nd.length+1<=s'.nx)=>add_y q 6 0 ((tkn ts s).p:Int) [] none none 0 0 0 0 [] (kd_nil _ _) ⟨rfl,Nat.le_refl _⟩ hsl)
  have HA3:=hid (λw' V' (s':St) (q:Pz X w' base g A c ts V' s') x1 x2 x3 (e:R=addM 11 0 ((tkn ts s).p:Int) [] [x1,x2,x3] s')=>add_s3 q 11 0 ((tkn ts s).p:Int) [] none 0 0 x1 x2 x3 e hk h.hn)
  generalize ((tkn ts s).p:Int)=p0 at *
  generalize tokV (tkn ts s)=tv at *
  clear HR hk hne hI h hs
  go_enter Tryz.func251,Tryz.ntmps251
  go_wp2_with (first|(go_at_call 173;refine(HT.out).mono ?_;rintro e w1 ⟨rfl,hz1,hF1⟩) |(go_at_call 252;refine(expr_z (HK.out.2.2.2.2 f (Nat.le_refl _)) hz1 (Rs.step_in (HK.out.1) HK.out.2.1)).mono ?_;rintro e w2 (⟨p,er,hr,rfl,hF⟩ |⟨x2,s2,V2,hr2,rfl,hz2,hF2⟩)<;>first|replace hr2:=hid hr2 |replace hr:=hid hr) |(go_at_call 253;refine(block_z HK.out.2.2.2.2 hz2 (Rs.step_in (Rs.step (HK.out.1) hr2.out) HK.out.2.1)).mono ?_;rintro e w3 (⟨p,er,hr,rfl,hF⟩ |⟨x3,s3,V3,hr3,rfl,hz3,hF3⟩)<;>first|replace hr3:=hid hr3 |replace hr:=hid hr))
  · exact⟨rfl,.inl (np_after (hF1) (Rs.step_no (HK.out.1) hr.out) hF)⟩
  · exact⟨rfl,.inl (np_after ((hF1).trans (hF2)) (Rs.step_no (Rs.step (HK.out.1) hr2.out) hr.out) hF)⟩
  have HS:=hid (sees_z hz3 wElse)
  have hR3:=Rs.step (Rs.step (HK.out.1) hr2.out) hr3.out
  have HF3:=hid (((hF1).trans (hF2)).trans (hF3))
  have n3:=(nk_block ts (run_nk ts f) _ _ _ hr3.out).1
  have n2:=(nk_expr (run_nk ts f) _ _ _ hr2.out).1
  cases q:sees ts wElse s3 with
  |true=>
    rw[q]at HS
    rw[if_pos q]at hR3
    have HT4:=hid (λw' (p:Below w3.heap.size w3 w')=>take_z (hz3.below p) (.inr (by have e:(tkn ts s3).s=wElse:=(by simpa [sees]using q);rw[e];decide)))
    have HR:=hid hR3
    generalize tokV (tkn ts s3)=tv3 at *
    clear hR3 q n3 n2
    go_wp2_with (first|(go_at_call 128;refine(HS.out).mono ?_;rintro e w4 ⟨rfl,hb4⟩) |(go_at_call 173;refine(HT4.out _ hb4).mono ?_;rintro e w5 ⟨rfl,hz5,hF5⟩) |(go_at_call 253;refine(block_z HK.out.2.2.2.2 hz5 (Rs.step_in (HR.out) HK.out.2.1)).mono ?_;rintro e w6 (⟨p,er,hr,rfl,hF⟩ |⟨x6,s6,V6,hr6,rfl,hz6,hF6⟩)<;>first|replace hr6:=hid hr6 |replace hr:=hid hr) |(go_at_call 131;refine(HA3.out _ _ _ hz6 x2 x3 x6 (Rs.step (HR.out) hr6.out :)).mono ?_;rintro e w9 (⟨p,er,hr,rfl,hF⟩ |⟨x9,s9,V9,hr9,rfl,hz9,hF9⟩)<;>first|replace hr9:=hid hr9 |replace hr:=hid hr))
    · exact⟨rfl,.inl (np_after (((HF3.out).trans (Fo.below hb4)).trans (hF5)) (Rs.step_no (HR.out) hr.out) hF)⟩
    · exact⟨rfl,.inl (np_after ((((HF3.out).trans (Fo.below hb4)).trans (hF5)).trans (hF6)) (hr.out) hF)⟩
    · go_ret
      exact .inr ⟨x9,s9,V9,hr9.out,rfl,hz9,((((HF3.out).trans (Fo.below hb4)).trans (hF5)).trans (hF6)).trans hF9⟩
  |false=>
    rw[q]at HS
    rw[if_neg (by rw[q];decide)]at hR3
    have HR:=hid hR3
    have HN:=hid (show s3.nd.length+1<=s3.nx by
      have c1:(takeS s).nd=s.nd:=rfl
      have c2:(takeS s).nx=s.nx+1:=rfl
      have d:=HK.out.2.2.2.1
      rw[c1,c2]at n2
      omega)
    clear hR3 q n3 n2
    go_wp2_with (first|(go_at_call 128;refine(HS.out).mono ?_;rintro e w4 ⟨rfl,hb4⟩) |(go_at_call 131;refine(HA.out _ _ _ (hz3.below hb4) HN.out).mono ?_))
    rintro e w5 (⟨p,er,hr,rfl,hF⟩ |⟨x5,s5,V5,hr5,rfl,hz5,hF5⟩)<;>first|replace hr5:=hid hr5 |replace hr:=hid hr
    · cases hr.out
    go_wp2_with (go_at_call 131;refine(HA3.out _ _ _ hz5 x2 x3 x5 (Rs.step (HR.out) hr5.out :)).mono ?_;rintro e w9 (⟨p,er,hr,rfl,hF⟩ |⟨x9,s9,V9,hr9,rfl,hz9,hF9⟩)<;>first|replace hr9:=hid hr9 |replace hr:=hid hr)
    · exact⟨rfl,.inl (np_after (((HF3.out).trans (Fo.below hb4)).trans (hF5)) (hr.out) hF)⟩
    · go_ret
      exact .inr ⟨x9,s9,V9,hr9.out,rfl,hz9,(((HF3.out).trans (Fo.below hb4)).trans (hF5)).trans hF9⟩
set_option maxRecDepth 100000 in
set_option maxHeartbeats 1500000 in
theorem attempt_z {X:Nat->Prop}{w:World}{base g c:Nat}{A:Option Addr}{ts:List Tok}{V:Value}{s:St}{f:Nat}(hI:∀f',f'<=f->Rz ts (run ts f'))(h:Pz X w base g A c ts V s)(hs:(tkn ts s).s≠[])(hne:tryM ts (run ts f) s ≠ .out):Calls Tryz.prog 257 #[.pointer (some ⟨g,0,none⟩)] w (IPost X base g A c ts V w (tryM ts (run ts f) s)):=by
  have hk:Nk s 0 (tryM ts (run ts f) s):=nk_try ts (run_nk ts f) s
  obtain⟨R,HR⟩:∃R,R=tryM ts (run ts f) s:=⟨_,rfl⟩
  rw[<- HR]at hk hne |-
  unfold tryM at HR
  dsimp only at HR
  have HK:=hid (And.intro HR (And.intro hne (And.intro hk (And.intro h.hn hI))))
  have HT:=hid (take_z h (.inr hs))
  have hf:=field36_2 (tkn ts s)
  have hfa:=field36_3
  have HA:=hid (λw' V' (s':St) u (q:Pz X w' base g A c ts V' s') x1 x2 (e:R=addM 16 0 ((tkn ts s).p:Int) u [x1,x2] s')=>add_s2 q 16 0 ((tkn ts s).p:Int) u none 0 0 x1 x2 e hk h.hn)
  generalize ((tkn ts s).p:Int)=p0 at *
  generalize tokV (tkn ts s)=tv at *
  clear HR hk hne hI h hs
  go_enter Tryz.func257,Tryz.ntmps257
  go_wp2_with (first|(go_at_call 173;refine(HT.out).mono ?_;rintro e w1 ⟨rfl,hz1,hF1⟩) |(go_at_call 253;refine(block_z HK.out.2.2.2.2 hz1 (Rs.step_in (HK.out.1) HK.out.2.1)).mono ?_;rintro e w2 (⟨p,er,hr,rfl,hF⟩ |⟨x2,s2,V2,hr2,rfl,hz2,hF2⟩)<;>first|replace hr2:=hid hr2 |replace hr:=hid hr) |(go_at_call 175;refine(expect_z hz2 wCatch (by decide)).mono ?_;rintro e w3 (⟨p,er,hr,rfl,hF⟩ |⟨s3,hr3,rfl,hz3,hF3⟩)<;>first|replace hr3:=hid hr3 |replace hr:=hid hr) |(go_at_call 177;refine(name_z hz3).mono ?_;rintro e w4 (⟨p,er,hr,rfl,hF⟩ |⟨s4,hr4,rfl,hz4,hF4⟩)<;>first|replace hr4:=hid hr4 |replace hr:=hid hr) |(go_at_call 253;refine(block_z HK.out.2.2.2.2 hz4 (Rs.step_in (Rs.step (Rs.step (Rs.step (HK.out.1) hr2.out) hr3.out) hr4.out) HK.out.2.1)).mono ?_;rintro e w5 (⟨p,er,hr,rfl,hF⟩ |⟨x5,s5,V5,hr5,rfl,hz5,hF5⟩)<;>first|replace hr5:=hid hr5 |replace hr:=hid hr) |(go_at_call 131;refine(HA.out _ _ _ _ hz5 x2 x5 (Rs.step (Rs.step (Rs.step (Rs.step (HK.out.1) hr2.out) hr3.out) hr4.out) hr5.out :)).mono ?_;rintro e w9 (⟨p,er,hr,rfl,hF⟩ |⟨x9,s9,V9,hr9,rfl,hz9,hF9⟩)<;>first|replace hr9:=hid hr9 |replace hr:=hid hr))
  · exact⟨rfl,.inl (np_after (hF1) (Rs.step_no (HK.out.1) hr.out) hF)⟩
  · exact⟨rfl,.inl (np_after ((hF1).trans (hF2)) (Rs.step_no (Rs.step (HK.out.1) hr2.out) hr.out) hF)⟩
  · exact⟨rfl,.inl (np_after (((hF1).trans (hF2)).trans (hF3)) (Rs.step_no (Rs.step (Rs.step (HK.out.1) hr2.out) hr3.out) hr.out) hF)⟩
  · exact⟨rfl,.inl (np_after ((((hF1).trans (hF2)).trans (hF3)).trans (hF4)) (Rs.step_no (Rs.step (Rs.step (Rs.step (HK.out.1) hr2.out) hr3.out) hr4.out) hr.out) hF)⟩
  · exact⟨rfl,.inl (np_after (((((hF1).trans (hF2)).trans (hF3)).trans (hF4)).trans (hF5)) (hr.out) hF)⟩
  · go_ret
    exact .inr ⟨x9,s9,V9,hr9.out,rfl,hz9,(((((hF1).trans (hF2)).trans (hF3)).trans (hF4)).trans (hF5)).trans hF9⟩
set_option maxRecDepth 100000 in
set_option maxHeartbeats 1500000 in
theorem answer_z {X:Nat->Prop}{w:World}{base g c:Nat}{A:Option Addr}{ts:List Tok}{V:Value}{s:St}{f:Nat}(hI:∀f',f'<=f->Rz ts (run ts f'))(h:Pz X w base g A c ts V s)(hs:(tkn ts s).s≠[])(hne:returnM ts (run ts f) s ≠ .out):Calls Tryz.prog 256 #[.pointer (some ⟨g,0,none⟩)] w (IPost X base g A c ts V w (returnM ts (run ts f) s)):=by
  have hk:Nk s 0 (returnM ts (run ts f) s):=nk_return ts (run_nk ts f) s
  obtain⟨R,HR⟩:∃R,R=returnM ts (run ts f) s:=⟨_,rfl⟩
  rw[<- HR]at hk hne |-
  unfold returnM at HR
  dsimp only at HR
  have HK:=hid (And.intro HR (And.intro hne (And.intro hk (And.intro h.hn hI))))
  have HT:=hid (take_z h (.inr hs))
  have hf:=field36_2 (tkn ts s)
  have HA0:=hid (λw' V' (q:Pz X w' base g A c ts V' (takeS s)) (e:R=addM 14 0 ((tkn ts s).p:Int) [] [] (takeS s))=>add_z q 14 0 ((tkn ts s).p:Int) [] none none 0 0 0 0 [] (kd_nil _ _) ⟨rfl,Nat.le_refl _⟩ e hk h.hn)
  have HA1:=hid (λw' V' (s':St) (q:Pz X w' base g A c ts V' s') x1 (e:R=addM 14 0 ((tkn ts s).p:Int) [] [x1] s')=>add_s1 q 14 0 ((tkn ts s).p:Int) [] none 0 0 x1 e hk h.hn)
  generalize ((tkn ts s).p:Int)=p0 at *
  generalize tokV (tkn ts s)=tv at *
  have HI:=hid hI
  clear hk hne hI h hs
  cases q:sees ts [59] (takeS s) with
  |true=>
    rw[if_pos q]at HR
    have HRR:=hid HR
    have HQ:=hid q
    clear HR q
    go_enter Tryz.func256,Tryz.ntmps256
    go_wp2_with (first|(go_at_call 173;refine HT.out.mono ?_;rintro e w1 ⟨rfl,hz1,hF1⟩) |(go_at_call 128;refine(sees_z (hz1.below (heap1 _ _)) [59]).mono ?_))
    rintro e w2 ⟨rfl,hb2⟩
    rw[HQ.out]
    have hS:=(Bx.new w1 50 [.int .i64 14,.int .i64 0,.int .i64 p0,.string ⟨#[]⟩,.slice none 0 0]).below hb2 (Bx.new w1 50 _).lt
    have z0:=(hS.cell 0).trans rfl
    have z1:=(hS.cell 1).trans rfl
    have z2:=(hS.cell 2).trans rfl
    have z3:=(hS.cell 3).trans rfl
    have z4:=(hS.cell 4).trans rfl
    have HX:=hid (And.intro (hz1.below (bt (heap1 _ _) hb2)) (hF1.trans (Fo.below (V:=V) (bt (heap1 _ _) hb2))))
    clear hz1 hF1 hb2 hS
    go_wp2_with (go_at_call 131;refine(HA0.out _ _ HX.out.1 HRR.out).mono ?_;rintro e w9 (⟨p,er,hr,rfl,hF⟩ |⟨x9,s9,V9,hr9,rfl,hz9,hF9⟩)<;>first|replace hr9:=hid hr9 |replace hr:=hid hr)
    · exact⟨rfl,.inl (np_after HX.out.2 hr.out hF)⟩
    · go_ret
      exact .inr ⟨x9,s9,V9,hr9.out,rfl,hz9,HX.out.2.trans hF9⟩
  |false=>
    rw[if_neg (by rw[q];decide)]at HR
    have HRR:=hid HR
    have HQ:=hid q
    clear HR q
    go_enter Tryz.func256,Tryz.ntmps256
    go_wp2_with (first|(go_at_call 173;refine HT.out.mono ?_;rintro e w1 ⟨rfl,hz1,hF1⟩) |(go_at_call 128;refine(sees_z (hz1.below (heap1 _ _)) [59]).mono ?_))
    rintro e w2 ⟨rfl,hb2⟩
    rw[HQ.out]
    have hS:Bx { w2 with drawn:=w2.drawn+1 } w1.heap.size 50 [.int .i64 14,.int .i64 0,.int .i64 p0,.string ⟨#[]⟩,.slice none 0 0]:=(Bx.new w1 50 [.int .i64 14,.int .i64 0,.int .i64 p0,.string ⟨#[]⟩,.slice none 0 0]).below (bdrew hb2) (Bx.new w1 50 _).lt
    have hz3:Pz X { w2 with drawn:=w2.drawn+1 } base g A c ts V (takeS s):=hz1.below (bdrew (bt (heap1 _ _) hb2))
    have HF:=hid (hF1.trans (Fo.below (V:=V) (bdrew (bt (heap1 w1 (.cells #[.int .i64 14,.int .i64 0,.int .i64 p0,.string ⟨#[]⟩,.slice none 0 0] 50)) hb2))))
    have HIx:=hid (λw' (q:Pz X w' base g A c ts V (takeS s))=>expr_z (HI.out f (Nat.le_refl _)) q (Rs.step_in HRR.out HK.out.2.1))
    have HNx:=hid (λ(p er:Nat) (q:exprM (run ts f) (takeS s) = .no p er)=>Rs.step_no HRR.out q)
    have HAx:=hid (λw' V' x (s2:St) (q:Pz X w' base g A c ts V' s2) (q2:exprM (run ts f) (takeS s) = .ok [x] s2)=>HA1.out w' V' s2 q x (Rs.step HRR.out q2 :))
    have HX3:=hid (And.intro hS (And.intro hz3 hz1.new))
    clear hS hz3 hz1 hF1 hb2
    go_upto_region 4 with(fail)
    obtain⟨hS,hz3,hne⟩:=HX3.out
    refine wp_region_held (S:=λw'=>Bx w' w1.heap.size 50 [.int .i64 14,.int .i64 0,.int .i64 p0,.string ⟨#[]⟩,.slice none 0 0]) (by kernel_rfl) ?_
    refine hpu 0 (.pointer (some ⟨g,0,none⟩)) (by kernel_rfl) rfl rfl (λ_ _ _ h=>h) rfl (y_move rfl rfl) hS ?_
    simp only[ap]
    refine hpu 1 (.agg #[.int .i64 14,.int .i64 0,.int .i64 p0,.string ⟨#[]⟩,.slice none 0 0]) (by kernel_rfl) rfl rfl (λ_ _ _ h=>h) rfl (y_load rfl rfl (λw' q=>run_load39 q)) hS ?_
    simp only[ap]
    refine hpu 2 (.pointer (some ⟨g,0,none⟩)) (by kernel_rfl) rfl rfl (λ_ _ _ h=>h) rfl (y_move rfl rfl) hS ?_
    simp only[ap]
    refine h_callx 3 ({ dst:=some 16,op:=Op.call { callee:=Callee.value (Operand.func 252),args := #[Operand.tmp 15],argTypes := #[114] },type:=3,pos := "grammar.go:190",after := #[{ on:=2,ground:=Ground.data }],guard:=none }:Oper) (args := #[.pointer (some ⟨g,0,none⟩)]) own66 rfl rfl (by kernel_rfl) rfl rfl (HIx.out _ hz3) ?_
    rintro e w7 (⟨p,er,hr,rfl,hF⟩ |⟨x7,s7,V7,hr7,rfl,hz7,hF7⟩)
    · exact .inl ⟨_,rfl,rfl,.inl (np_after HF.out (HNx.out _ _ hr) hF)⟩
    have hne7:=(hF7.bx hS hne.1 hne.2).2
    have hS7:=(hF7.bx hS hne.1 hne.2).1
    refine .inr ⟨_,rfl,hS7,?_⟩
    simp only[ap]
    refine h_one 4 ({ dst:=some 17,op:=Op.buildSlice 28 1 #[(0,Operand.tmp 16)],type:=28,pos := "grammar.go:190",after := #[{ on:=3,ground:=Ground.data }],guard:=none }:Oper) rfl (by kernel_rfl) rfl (slice1 rfl rfl ⟨hS7.alloc _,?_⟩)
    simp only[ap]
    refine h_callx 5 ({ dst:=some 18,op:=Op.call { callee:=Callee.value (Operand.func 131),args := #[Operand.tmp 13,Operand.tmp 14,Operand.tmp 17],argTypes := #[114,50,28] },type:=3,pos := "grammar.go:190",after := #[{ on:=0,ground:=Ground.data },{ on:=1,ground:=Ground.data },{ on:=4,ground:=Ground.data },{ on:=3,ground:=Ground.chain }],guard:=none }:Oper) (args := #[.pointer (some ⟨g,0,none⟩),.agg #[.int .i64 14,.int .i64 0,.int .i64 p0,.string ⟨#[]⟩,.slice none 0 0],.slice (some ⟨w7.heap.size,0,none⟩) 1 1]) own44 rfl rfl (by kernel_rfl) rfl rfl (HAx.out _ _ _ _ hz7 hr7) ?_
    rintro e w9 (⟨p,er,hr,rfl,hF⟩ |⟨x9,s9,V9,hr9,rfl,hz9,hF9⟩)
    · exact .inl ⟨_,rfl,rfl,.inl (np_after (HF.out.trans hF7) hr hF)⟩
    have hS9:=(hF9.bx hS7 hne.1 hne7).1
    refine .inr ⟨_,rfl,hS9,?_⟩
    simp only[ap]
    refine hpu 6 (.int .i64 x9) (by kernel_rfl) rfl rfl (λ_ _ _ h=>h) rfl (y_assign rfl rfl) hS9 ?_
    simp only[ap]
    refine wpAnyH_done (by kernel_rfl) ?_ _
    have HR9:=hid hr9
    clear hr9 hr7
    go_wp2
    go_ret
    exact .inr ⟨_,s9,V9,HR9.out,rfl,hz9,(HF.out.trans hF7).trans hF9⟩
end Go.Proofs.YtedkgofehbecmaaGreatDoor
