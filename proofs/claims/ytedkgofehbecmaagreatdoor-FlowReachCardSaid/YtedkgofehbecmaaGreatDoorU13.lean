/- PROVED here: parts N13 of the claim. No condition but those in each theorem's own head. -/
import Derived.Test.YtedkgofehbecmaaGreatDoorU12
namespace Go.Proofs.YtedkgofehbecmaaGreatDoor
open Go.Lib (hid)
open Go Go.RowKit
open Tr (Bx heap1 bt gen_world ret_int ret_bool cell_same)
theorem Pz.far {X:Nat->Prop}{w:World}{base g c:Nat}{A:Option Addr}{ts:List Tok}{V:Value}{s:St}{b:Nat}{t:TypeId}{l:List Value}(h:Pz X w base g A c ts V s)(hB:Bx w b t l)(ht:t≠3)(hg:b≠g)(hV:V.ownBlock≠some b)(hbb:base<=b)(i:Nat)(v:Value):Pz X (w.setCell ⟨b,i,none⟩ v) base g A c ts V s:=by
 have hfr:Fr (λk=>k=b) w (w.setCell ⟨b,i,none⟩ v):=Fr.set (E:=λk=>k=b) (Fr.refl _ _) rfl _
 have hp:=h.px
 refine⟨⟨hp.box.far (p:=⟨b,i,none⟩) (Ne.symm hg) v,hp.toks.fr hfr (λa ha e=>by have:=h.hA a ha;omega),hp.len,hp.nx,hp.op,hp.mo,hp.ne⟩,?_,Nat.le_trans h.hb hfr.size,h.gb,h.hA,h.hn,h.h40,h.ok,λk q=>Nat.lt_of_lt_of_le (h.hX k q) hfr.size⟩
 obtain⟨xs,h1,h2⟩:=h.nd
 refine⟨xs,⟨h1.1,h1.2.imp id ?_⟩,λj hj =>?_⟩
 ·rintro⟨k,cap,cur,q1,q2,q3,q4⟩
  exact⟨k,cap,cur,q1,q2,(hfr.block k (Array.getElem?_eq_some_iff.1 q3).1 (λe=>hV (by rw[q1,<- e];rfl))).trans q3,q4⟩
 ·obtain⟨K,c,e,hk,hkc⟩:=h2 j hj
  refine⟨K,c,e,hk.fr hfr (λk cs hb e =>?_),hkc⟩
  subst e
  have:=hb.symm.trans hB
  simp at this
  exact ht this.2.symm
theorem Fo.new {w0 w:World}{g b:Nat}{V0 V:Value}(h:Fo w0 w g V0 V)(hb:w0.heap.size<=b)(i:Nat)(v:Value):Fo w0 (w.setCell ⟨b,i,none⟩ v) g V0 V:=⟨h.fr.new hb v,h.own⟩
theorem new2 (w:World)(a:Obj)(t:TypeId)(l:List Value):Bx ((w.alloc a).alloc (.cells l.toArray t)) (w.heap.size+1) t l:=by
 have:=Bx.new (w.alloc a) t l
 rw[World.size_alloc]at this
 exact this
theorem Pz.new2 {X:Nat->Prop}{w:World}{base g c:Nat}{A:Option Addr}{ts:List Tok}{V:Value}{s:St}(h:Pz X w base g A c ts V s):w.heap.size+1≠g/\V.ownBlock≠some (w.heap.size+1):=by
 have:=(h.below (heap1 w (.cells #[] 3))).new
 rw[World.size_alloc]at this
 exact this
set_option maxRecDepth 100000 in
set_option maxHeartbeats 1500000 in
theorem rest_0 {X:Nat->Prop}{w:World}{base g c:Nat}{A:Option Addr}{ts:List Tok}{V:Value}{s:St}{f:Nat}(hI:∀f',f'<=f->Rz ts (run ts f'))(h:Pz X w base g A c ts V s)(t:Tok)(hsl:s.nd.length+1<=s.nx)(q0:(tkn ts s).s=wIn)(hne:restM ts (run ts f) t s ≠ .out):Calls Tryz.prog 270 #[.pointer (some ⟨g,0,none⟩),.agg #[.int .i64 (t.k:Int),.int .i64 t.n,.int .i64 (t.p:Int),.string (bs t.s)]] w (IPost X base g A c ts V w (restM ts (run ts f) t s)):=by
 have hk:Nk { s with nx:=s.nx-1 } 0 (restM ts (run ts f) t s):=λv s' e=>by
  have a:=nk_rest ts (run_nk ts f) s t v s' e
  have a1:=a.1.1
  have a2:=a.1.2
  exact⟨⟨by show(s'.nd.length:Int)+(s.nx-1:Nat)+0<=s.nd.length+s'.nx;omega,by show s.nx-1<=s'.nx;omega⟩,a.2⟩
 have hn:({ s with nx:=s.nx-1 }:St).nd.length<=({ s with nx:=s.nx-1 }:St).nx:=by show s.nd.length<=s.nx-1;omega
 obtain⟨R,HR⟩:∃R,R=restM ts (run ts f) t s:=⟨_,rfl⟩
 rw[<- HR]at hk hne |-
 replace HR:R=(leafM ts 18 (takeS s)).bind λv s=>addM 9 0 t.p t.s v s:=HR.trans (by unfold restM;simp only;rw[if_pos q0])
 have HK:=hid (And.intro HR (And.intro hne (And.intro hk (And.intro hn hI))))
 have hf:=field36_3 (tkn ts s)
 have e0:((bs (tkn ts s).s).toList==[105,110])=true:=by rw[bs_toList,beq_iff_eq];exact q0
 have HT:=hid (λw' (q:Below w.heap.size w w')=>take_z (h.below q) (.inr (by rw[q0];decide)))
 have HC:=hid (λw' (q:Below w.heap.size w w')=>token_z (h.below q))
 have H0:=hid h
 generalize tokV (tkn ts s)=tv at *
 generalize bs (tkn ts s).s=ss at *
 clear HR hk hn hne hI h hsl q0
 go_enter Tryz.func270,Tryz.ntmps270
 go_wp2_with (first|(go_at_call 176;refine(HC.out _ (below2 _ _ _)).mono ?_;rintro e w1 ⟨rfl,hb1⟩) |(go_at_call 173;refine(HT.out _ (bt (below2 _ _ _) hb1)).mono ?_))
 rintro e w2 ⟨rfl,hz2,hF2⟩
 have hne2:=H0.out.new2
 have hS0:=((new2 w (.cells #[.int .i64 (t.k:Int),.int .i64 t.n,.int .i64 (t.p:Int),.string (bs t.s)] 186) 50 [.int .i64 7,.int .i64 0,.int .i64 (t.p:Int),.string (bs t.s),.slice none 0 0]).below hb1 (by rw[World.size_alloc,World.size_alloc];omega))
 have hS2:=(hF2.bx hS0 hne2.1 hne2.2).1
 have f0:=hS2.frozen 0
 have z0:=(hS2.cell 0).trans rfl
 have hS3:=hS2.set_ 0 (.int .i64 9)
 simp only[List.set_cons_zero]at hS3
 have hz3:=hz2.far hS2 (by decide) hne2.1 hne2.2 (by have:=H0.out.hb;omega) 0 (.int .i64 9)
 have hF3:=((Fo.below (V:=V) (bt (below2 w (.cells #[.int .i64 (t.k:Int),.int .i64 t.n,.int .i64 (t.p:Int),.string (bs t.s)] 186) (.cells #[.int .i64 7,.int .i64 0,.int .i64 (t.p:Int),.string (bs t.s),.slice none 0 0] 50)) hb1)).trans hF2).new (b:=w.heap.size+1) (by omega) 0 (.int .i64 9)
 obtain⟨W3,hW3⟩:∃W3,w2.setCell ⟨w.heap.size+1,0,none⟩ (.int .i64 9)=W3:=⟨_,rfl⟩
 rw[hW3]at hS3 hz3 hF3
 have HF:=hid (hF3.trans (Fo.below (V:=V) (bdrew (Below.refl W3.heap.size W3))))
 have hS:Bx { W3 with drawn:=W3.drawn+1 } (w.heap.size+1) 50 [.int .i64 9,.int .i64 0,.int .i64 (t.p:Int),.string (bs t.s),.slice none 0 0]:=hS3
 have hz3:Pz X { W3 with drawn:=W3.drawn+1 } base g A c ts V (takeS s):=hz3.below (bdrew (Below.refl _ _))
 have HX3:=hid (And.intro hS (And.intro hz3 hne2))
 clear hS0 hS2 hS3 hS hz2 hz3 hF2 hF3 hne2 hb1
 go_upto_region 6 with(fail)
 obtain⟨hS,hz3,hne⟩:=HX3.out
 have HIx:=hid (λw' (q:Pz X w' base g A c ts V (takeS s))=>leaf_z q 18)
 have HNx:=hid (λ(p er:Nat) (q:leafM ts 18 (takeS s) = .no p er)=>Rs.step_no HK.out.1 q)
 have HAx:=hid (λw' V' x (s2:St) (q:Pz X w' base g A c ts V' s2) (q2:leafM ts 18 (takeS s) = .ok [x] s2)=>add_s1 q 9 0 (t.p:Int) t.s none 0 0 x (Rs.step HK.out.1 q2 :) HK.out.2.2.1 HK.out.2.2.2.1)
 refine wp_region_held (S:=λw'=>Bx w' (w.heap.size+1) 50 [.int .i64 9,.int .i64 0,.int .i64 (t.p:Int),.string (bs t.s),.slice none 0 0]) (by kernel_rfl) ?_
 refine hpu 0 (.pointer (some ⟨g,0,none⟩)) (by kernel_rfl) rfl rfl (λ_ _ _ h=>h) rfl (y_move rfl rfl) hS ?_
 simp only[ap]
 refine hpu 1 (.agg #[.int .i64 9,.int .i64 0,.int .i64 (t.p:Int),.string (bs t.s),.slice none 0 0]) (by kernel_rfl) rfl rfl (λ_ _ _ h=>h) rfl (y_load rfl rfl (λw' q=>run_load39 q)) hS ?_
 simp only[ap]
 refine hpu 2 (.pointer (some ⟨g,0,none⟩)) (by kernel_rfl) rfl rfl (λ_ _ _ h=>h) rfl (y_move rfl rfl) hS ?_
 simp only[ap]
 refine h_callx 3 ({ dst:=some 22,op:=Op.call { callee:=Callee.value (Operand.func 271),args := #[Operand.tmp 21,Operand.const (Value.int IntKind.i64 18)],argTypes := #[114,3] },type:=3,pos := "grammar.go:149",after := #[{ on:=2,ground:=Ground.data }],guard:=none }:Oper) (args := #[.pointer (some ⟨g,0,none⟩),.int .i64 18]) own156 rfl rfl (by kernel_rfl) rfl rfl (HIx.out _ hz3) ?_
 rintro e w7 (⟨p,er,hr,rfl,hF⟩ |⟨x7,s7,V7,hr7,rfl,hz7,hF7⟩)
 ·exact .inl ⟨_,rfl,rfl,.inl (np_after HF.out (HNx.out _ _ hr) hF)⟩
 have hne7:=(hF7.bx hS hne.1 hne.2).2
 have hS7:=(hF7.bx hS hne.1 hne.2).1
 refine .inr ⟨_,rfl,hS7,?_⟩
 simp only[ap]
 refine h_one 4 ({ dst:=some 23,op:=Op.buildSlice 28 1 #[(0,Operand.tmp 22)],type:=28,pos := "grammar.go:149",after := #[{ on:=3,ground:=Ground.data }],guard:=none }:Oper) rfl (by kernel_rfl) rfl (slice1 rfl rfl ⟨hS7.alloc _,?_⟩)
 simp only[ap]
 refine h_callx 5 ({ dst:=some 24,op:=Op.call { callee:=Callee.value (Operand.func 131),args := #[Operand.tmp 19,Operand.tmp 20,Operand.tmp 23],argTypes := #[114,50,28] },type:=3,pos := "grammar.go:149",after := #[{ on:=0,ground:=Ground.data },{ on:=1,ground:=Ground.data },{ on:=4,ground:=Ground.data },{ on:=3,ground:=Ground.chain }],guard:=none }:Oper) (args := #[.pointer (some ⟨g,0,none⟩),.agg #[.int .i64 9,.int .i64 0,.int .i64 (t.p:Int),.string (bs t.s),.slice none 0 0],.slice (some ⟨w7.heap.size,0,none⟩) 1 1]) own44 rfl rfl (by kernel_rfl) rfl rfl (HAx.out _ _ _ _ hz7 hr7) ?_
 rintro e w9 (⟨p,er,hr,rfl,hF⟩ |⟨x9,s9,V9,hr9,rfl,hz9,hF9⟩)
 ·exact .inl ⟨_,rfl,rfl,.inl (np_after (HF.out.trans hF7) hr hF)⟩
 have hS9:=(hF9.bx hS7 hne.1 hne7).1
 refine .inr ⟨_,rfl,hS9,?_⟩
 simp only[ap]
 refine hpu 6 (.int .i64 x9) (by kernel_rfl) rfl rfl (λ_ _ _ h=>h) rfl (y_assign rfl rfl) hS9 ?_
 simp only[ap]
 refine wpAnyH_done (by kernel_rfl) ?_ _
 have HR9:=hid hr9
 clear hr9 hr7
 go_wp2
 go_ret
 exact .inr ⟨_,s9,V9,HR9.out,rfl,hz9,(HF.out.trans hF7).trans hF9⟩
set_option maxRecDepth 100000 in
set_option maxHeartbeats 1500000 in
theorem rest_1 {X:Nat->Prop}{w:World}{base g c:Nat}{A:Option Addr}{ts:List Tok}{V:Value}{s:St}{f:Nat}(hI:∀f',f'<=f->Rz ts (run ts f'))(h:Pz X w base g A c ts V s)(t:Tok)(hsl:s.nd.length+1<=s.nx)(q0:¬(tkn ts s).s=wIn)(q1:(tkn ts s).s=wCall)(hne:restM ts (run ts f) t s ≠ .out):Calls Tryz.prog 270 #[.pointer (some ⟨g,0,none⟩),.agg #[.int .i64 (t.k:Int),.int .i64 t.n,.int .i64 (t.p:Int),.string (bs t.s)]] w (IPost X base g A c ts V w (restM ts (run ts f) t s)):=by
 have hk:Nk { s with nx:=s.nx-1 } 0 (restM ts (run ts f) t s):=λv s' e=>by
  have a:=nk_rest ts (run_nk ts f) s t v s' e
  have a1:=a.1.1
  have a2:=a.1.2
  exact⟨⟨by show(s'.nd.length:Int)+(s.nx-1:Nat)+0<=s.nd.length+s'.nx;omega,by show s.nx-1<=s'.nx;omega⟩,a.2⟩
 have hn:({ s with nx:=s.nx-1 }:St).nd.length<=({ s with nx:=s.nx-1 }:St).nx:=by show s.nd.length<=s.nx-1;omega
 obtain⟨R,HR⟩:∃R,R=restM ts (run ts f) t s:=⟨_,rfl⟩
 rw[<- HR]at hk hne |-
 replace HR:R=callM ts (run ts f) t.s t.p s:=HR.trans (by unfold restM;simp only;rw[if_neg q0,if_pos q1])
 have HK:=hid (And.intro HR (And.intro hne (And.intro hk (And.intro hn hI))))
 have hf:=field36_3 (tkn ts s)
 have e0:((bs (tkn ts s).s).toList==[105,110])=false:=by rw[bs_toList,beq_eq_false_iff_ne];exact q0
 have e1:((bs (tkn ts s).s).toList==[99,97,108,108])=true:=by rw[bs_toList,beq_iff_eq];exact q1
 have HC:=hid (λw' (q:Below w.heap.size w w')=>token_z (h.below q))
 have H0:=hid h
 generalize tokV (tkn ts s)=tv at *
 generalize bs (tkn ts s).s=ss at *
 clear HR hk hn hne hI h hsl q0 q1
 go_enter Tryz.func270,Tryz.ntmps270
 go_wp2_with (go_at_call 176;refine(HC.out _ (below2 _ _ _)).mono ?_)
 rintro e w1 ⟨rfl,hb1⟩
 have hT:=(Tr.Bx.alloc (Bx.new w 186 [.int .i64 (t.k:Int),.int .i64 t.n,.int .i64 (t.p:Int),.string (bs t.s)]) (.cells #[.int .i64 7,.int .i64 0,.int .i64 (t.p:Int),.string (bs t.s),.slice none 0 0] 50)).below hb1 (by rw[World.size_alloc,World.size_alloc];omega)
 have t2:=(hT.cell 2).trans rfl
 have t3:=(hT.cell 3).trans rfl
 have HB1:=hid hb1
 clear hT hb1
 go_wp2_with (first|(fail) |(go_at_call 255;refine(call_z HK.out.2.2.2.2 (H0.out.below (bt (below2 _ _ _) HB1.out)) t.s (t.p:Int) (by rw[<- HK.out.1];exact HK.out.2.1)).mono ?_;rw[<- HK.out.1];rintro e w9 (⟨p,er,hr,rfl,hF⟩ |⟨x9,s9,V9,hr9,rfl,hz9,hF9⟩)<;>first|replace hr9:=hid hr9 |replace hr:=hid hr))
 ·exact⟨rfl,.inl (np_after (Fo.below (bt (below2 _ _ _) HB1.out)) hr.out hF)⟩
 ·go_ret
  exact .inr ⟨x9,s9,V9,hr9.out,rfl,hz9,(Fo.below (bt (below2 _ _ _) HB1.out)).trans hF9⟩
set_option maxRecDepth 100000 in
set_option maxHeartbeats 1500000 in
theorem rest_2 {X:Nat->Prop}{w:World}{base g c:Nat}{A:Option Addr}{ts:List Tok}{V:Value}{s:St}{f:Nat}(hI:∀f',f'<=f->Rz ts (run ts f'))(h:Pz X w base g A c ts V s)(t:Tok)(hsl:s.nd.length+1<=s.nx)(q0:¬(tkn ts s).s=wIn)(q1:¬(tkn ts s).s=wCall)(q2:(tkn ts s).s=wNew)(hne:restM ts (run ts f) t s ≠ .out):Calls Tryz.prog 270 #[.pointer (some ⟨g,0,none⟩),.agg #[.int .i64 (t.k:Int),.int .i64 t.n,.int .i64 (t.p:Int),.string (bs t.s)]] w (IPost X base g A c ts V w (restM ts (run ts f) t s)):=by
 have hk:Nk { s with nx:=s.nx-1 } 0 (restM ts (run ts f) t s):=λv s' e=>by
  have a:=nk_rest ts (run_nk ts f) s t v s' e
  have a1:=a.1.1
  have a2:=a.1.2
  exact⟨⟨by show(s'.nd.length:Int)+(s.nx-1:Nat)+0<=s.nd.length+s'.nx;omega,by show s.nx-1<=s'.nx;omega⟩,a.2⟩
 have hn:({ s with nx:=s.nx-1 }:St).nd.length<=({ s with nx:=s.nx-1 }:St).nx:=by show s.nd.length<=s.nx-1;omega
 obtain⟨R,HR⟩:∃R,R=restM ts (run ts f) t s:=⟨_,rfl⟩
 rw[<- HR]at hk hne |-
 replace HR:R=(exprM (run ts f) (takeS s)).bind λv s=>addM 17 0 t.p t.s v s:=HR.trans (by unfold restM;simp only;rw[if_neg q0,if_neg q1,if_pos q2])
 have HK:=hid (And.intro HR (And.intro hne (And.intro hk (And.intro hn hI))))
 have hf:=field36_3 (tkn ts s)
 have e0:((bs (tkn ts s).s).toList==[105,110])=false:=by rw[bs_toList,beq_eq_false_iff_ne];exact q0
 have e1:((bs (tkn ts s).s).toList==[99,97,108,108])=false:=by rw[bs_toList,beq_eq_false_iff_ne];exact q1
 have e2:((bs (tkn ts s).s).toList==[110,101,119])=true:=by rw[bs_toList,beq_iff_eq];exact q2
 have HT:=hid (λw' (q:Below w.heap.size w w')=>take_z (h.below q) (.inr (by rw[q2];decide)))
 have HC:=hid (λw' (q:Below w.heap.size w w')=>token_z (h.below q))
 have H0:=hid h
 generalize tokV (tkn ts s)=tv at *
 generalize bs (tkn ts s).s=ss at *
 clear HR hk hn hne hI h hsl q0 q1 q2
 go_enter Tryz.func270,Tryz.ntmps270
 go_wp2_with (first|(go_at_call 176;refine(HC.out _ (below2 _ _ _)).mono ?_;rintro e w1 ⟨rfl,hb1⟩) |(go_at_call 173;refine(HT.out _ (bt (below2 _ _ _) hb1)).mono ?_))
 rintro e w2 ⟨rfl,hz2,hF2⟩
 have hne2:=H0.out.new2
 have hS0:=((new2 w (.cells #[.int .i64 (t.k:Int),.int .i64 t.n,.int .i64 (t.p:Int),.string (bs t.s)] 186) 50 [.int .i64 7,.int .i64 0,.int .i64 (t.p:Int),.string (bs t.s),.slice none 0 0]).below hb1 (by rw[World.size_alloc,World.size_alloc];omega))
 have hS2:=(hF2.bx hS0 hne2.1 hne2.2).1
 have f0:=hS2.frozen 0
 have z0:=(hS2.cell 0).trans rfl
 have hS3:=hS2.set_ 0 (.int .i64 17)
 simp only[List.set_cons_zero]at hS3
 have hz3:=hz2.far hS2 (by decide) hne2.1 hne2.2 (by have:=H0.out.hb;omega) 0 (.int .i64 17)
 have hF3:=((Fo.below (V:=V) (bt (below2 w (.cells #[.int .i64 (t.k:Int),.int .i64 t.n,.int .i64 (t.p:Int),.string (bs t.s)] 186) (.cells #[.int .i64 7,.int .i64 0,.int .i64 (t.p:Int),.string (bs t.s),.slice none 0 0] 50)) hb1)).trans hF2).new (b:=w.heap.size+1) (by omega) 0 (.int .i64 17)
 obtain⟨W3,hW3⟩:∃W3,w2.setCell ⟨w.heap.size+1,0,none⟩ (.int .i64 17)=W3:=⟨_,rfl⟩
 rw[hW3]at hS3 hz3 hF3
 have HF:=hid (hF3.trans (Fo.below (V:=V) (bdrew (Below.refl W3.heap.size W3))))
 have hS:Bx { W3 with drawn:=W3.drawn+1 } (w.heap.size+1) 50 [.int .i64 17,.int .i64 0,.int .i64 (t.p:Int),.string (bs t.s),.slice none 0 0]:=hS3
 have hz3:Pz X { W3 with drawn:=W3.drawn+1 } base g A c ts V (takeS s):=hz3.below (bdrew (Below.refl _ _))
 have HX3:=hid (And.intro hS (And.intro hz3 hne2))
 clear hS0 hS2 hS3 hS hz2 hz3 hF2 hF3 hne2 hb1
 go_upto_region 12 with(fail)
 obtain⟨hS,hz3,hne⟩:=HX3.out
 have HIx:=hid (λw' (q:Pz X w' base g A c ts V (takeS s))=>expr_z (HK.out.2.2.2.2 f (Nat.le_refl _)) q (Rs.step_in HK.out.1 HK.out.2.1))
 have HNx:=hid (λ(p er:Nat) (q:exprM (run ts f) (takeS s) = .no p er)=>Rs.step_no HK.out.1 q)
 have HAx:=hid (λw' V' x (s2:St) (q:Pz X w' base g A c ts V' s2) (q2:exprM (run ts f) (takeS s) = .ok [x] s2)=>add_s1 q 17 0 (t.p:Int) t.s none 0 0 x (Rs.step HK.out.1 q2 :) HK.out.2.2.1 HK.out.2.2.2.1)
 refine wp_region_held (S:=λw'=>Bx w' (w.heap.size+1) 50 [.int .i64 17,.int .i64 0,.int .i64 (t.p:Int),.string (bs t.s),.slice none 0 0]) (by kernel_rfl) ?_
 refine hpu 0 (.pointer (some ⟨g,0,none⟩)) (by kernel_rfl) rfl rfl (λ_ _ _ h=>h) rfl (y_move rfl rfl) hS ?_
 simp only[ap]
 refine hpu 1 (.agg #[.int .i64 17,.int .i64 0,.int .i64 (t.p:Int),.string (bs t.s),.slice none 0 0]) (by kernel_rfl) rfl rfl (λ_ _ _ h=>h) rfl (y_load rfl rfl (λw' q=>run_load39 q)) hS ?_
 simp only[ap]
 refine hpu 2 (.pointer (some ⟨g,0,none⟩)) (by kernel_rfl) rfl rfl (λ_ _ _ h=>h) rfl (y_move rfl rfl) hS ?_
 simp only[ap]
 refine h_callx 3 ({ dst:=some 41,op:=Op.call { callee:=Callee.value (Operand.func 252),args := #[Operand.tmp 40],argTypes := #[114] },type:=3,pos := "grammar.go:156",after := #[{ on:=2,ground:=Ground.data }],guard:=none }:Oper) (args := #[.pointer (some ⟨g,0,none⟩)]) own66 rfl rfl (by kernel_rfl) rfl rfl (HIx.out _ hz3) ?_
 rintro e w7 (⟨p,er,hr,rfl,hF⟩ |⟨x7,s7,V7,hr7,rfl,hz7,hF7⟩)
 ·exact .inl ⟨_,rfl,rfl,.inl (np_after HF.out (HNx.out _ _ hr) hF)⟩
 have hne7:=(hF7.bx hS hne.1 hne.2).2
 have hS7:=(hF7.bx hS hne.1 hne.2).1
 refine .inr ⟨_,rfl,hS7,?_⟩
 simp only[ap]
 refine h_one 4 ({ dst:=some 42,op:=Op.buildSlice 28 1 #[(0,Operand.tmp 41)],type:=28,pos := "grammar.go:156",after := #[{ on:=3,ground:=Ground.data }],guard:=none }:Oper) rfl (by kernel_rfl) rfl (slice1 rfl rfl ⟨hS7.alloc _,?_⟩)
 simp only[ap]
 refine h_callx 5 ({ dst:=some 43,op:=Op.call { callee:=Callee.value (Operand.func 131),args := #[Operand.tmp 38,Operand.tmp 39,Operand.tmp 42],argTypes := #[114,50,28] },type:=3,pos := "grammar.go:156",after := #[{ on:=0,ground:=Ground.data },{ on:=1,ground:=Ground.data },{ on:=4,ground:=Ground.data },{ on:=3,ground:=Ground.chain }],guard:=none }:Oper) (args := #[.pointer (some ⟨g,0,none⟩),.agg #[.int .i64 17,.int .i64 0,.int .i64 (t.p:Int),.string (bs t.s),.slice none 0 0],.slice (some ⟨w7.heap.size,0,none⟩) 1 1]) own44 rfl rfl (by kernel_rfl) rfl rfl (HAx.out _ _ _ _ hz7 hr7) ?_
 rintro e w9 (⟨p,er,hr,rfl,hF⟩ |⟨x9,s9,V9,hr9,rfl,hz9,hF9⟩)
 ·exact .inl ⟨_,rfl,rfl,.inl (np_after (HF.out.trans hF7) hr hF)⟩
 have hS9:=(hF9.bx hS7 hne.1 hne7).1
 refine .inr ⟨_,rfl,hS9,?_⟩
 simp only[ap]
 refine hpu 6 (.int .i64 x9) (by kernel_rfl) rfl rfl (λ_ _ _ h=>h) rfl (y_assign rfl rfl) hS9 ?_
 simp only[ap]
 refine wpAnyH_done (by kernel_rfl) ?_ _
 have HR9:=hid hr9
 clear hr9 hr7
 go_wp2
 go_ret
 exact .inr ⟨_,s9,V9,HR9.out,rfl,hz9,(HF.out.trans hF7).trans hF9⟩
set_option maxRecDepth 100000 in
set_option maxHeartbeats 1500000 in
theorem rest_3 {X:Nat->Prop}{w:World}{base g c:Nat}{A:Option Addr}{ts:List Tok}{V:Value}{s:St}{f:Nat}(hI:∀f',f'<=f->Rz ts (run ts f'))(h:Pz X w base g A c ts V s)(t:Tok)(hsl:s.nd.length+1<=s.nx)(q0:¬(tkn ts s).s=wIn)(q1:¬(tkn ts s).s=wCall)(q2:¬(tkn ts s).s=wNew)(hne:restM ts (run ts f) t s ≠ .out):Calls Tryz.prog 270 #[.pointer (some ⟨g,0,none⟩),.agg #[.int .i64 (t.k:Int),.int .i64 t.n,.int .i64 (t.p:Int),.string (bs t.s)]] w (IPost X base g A c ts V w (restM ts (run ts f) t s)):=by
 have hk:Nk { s with nx:=s.nx-1 } 0 (restM ts (run ts f) t s):=λv s' e=>by
  have a:=nk_rest ts (run_nk ts f) s t v s' e
  have a1:=a.1.1
  have a2:=a.1.2
  exact⟨⟨by show(s'.nd.length:Int)+(s.nx-1:Nat)+0<=s.nd.length+s'.nx;omega,by show s.nx-1<=s'.nx;omega⟩,a.2⟩
 have hn:({ s with nx:=s.nx-1 }:St).nd.length<=({ s with nx:=s.nx-1 }:St).nx:=by show s.nd.length<=s.nx-1;omega
 obtain⟨R,HR⟩:∃R,R=restM ts (run ts f) t s:=⟨_,rfl⟩
 rw[<- HR]at hk hne |-
 replace HR:R=(exprM (run ts f) s).bind λv s=>addM 7 0 t.p t.s v s:=HR.trans (by unfold restM;simp only;rw[if_neg q0,if_neg q1,if_neg q2])
 have HK:=hid (And.intro HR (And.intro hne (And.intro hk (And.intro hn hI))))
 have hf:=field36_3 (tkn ts s)
 have e0:((bs (tkn ts s).s).toList==[105,110])=false:=by rw[bs_toList,beq_eq_false_iff_ne];exact q0
 have e1:((bs (tkn ts s).s).toList==[99,97,108,108])=false:=by rw[bs_toList,beq_eq_false_iff_ne];exact q1
 have e2:((bs (tkn ts s).s).toList==[110,101,119])=false:=by rw[bs_toList,beq_eq_false_iff_ne];exact q2
 have HC:=hid (λw' (q:Below w.heap.size w w')=>token_z (h.below q))
 have H0:=hid h
 generalize tokV (tkn ts s)=tv at *
 generalize bs (tkn ts s).s=ss at *
 clear HR hk hn hne hI h hsl q0 q1 q2
 go_enter Tryz.func270,Tryz.ntmps270
 go_wp2_with (go_at_call 176;refine(HC.out _ (below2 _ _ _)).mono ?_)
 rintro e w1 ⟨rfl,hb1⟩
 have hne2:=H0.out.new2
 have hS:Bx { w1 with drawn:=w1.drawn+1 } (w.heap.size+1) 50 [.int .i64 7,.int .i64 0,.int .i64 (t.p:Int),.string (bs t.s),.slice none 0 0]:=((new2 w (.cells #[.int .i64 (t.k:Int),.int .i64 t.n,.int .i64 (t.p:Int),.string (bs t.s)] 186) 50 [.int .i64 7,.int .i64 0,.int .i64 (t.p:Int),.string (bs t.s),.slice none 0 0]).below (bdrew hb1) (by rw[World.size_alloc,World.size_alloc];omega))
 have hz3:Pz X { w1 with drawn:=w1.drawn+1 } base g A c ts V s:=H0.out.below (bdrew (bt (below2 _ _ _) hb1))
 have HF:=hid (Fo.below (g:=g) (V:=V) (bdrew (bt (below2 w (.cells #[.int .i64 (t.k:Int),.int .i64 t.n,.int .i64 (t.p:Int),.string (bs t.s)] 186) (.cells #[.int .i64 7,.int .i64 0,.int .i64 (t.p:Int),.string (bs t.s),.slice none 0 0] 50)) hb1)))
 have HX3:=hid (And.intro hS (And.intro hz3 hne2))
 clear hS hz3 hne2 hb1
 go_upto_region 12 with(fail)
 obtain⟨hS,hz3,hne⟩:=HX3.out
 have HIx:=hid (λw' (q:Pz X w' base g A c ts V s)=>expr_z (HK.out.2.2.2.2 f (Nat.le_refl _)) q (Rs.step_in HK.out.1 HK.out.2.1))
 have HNx:=hid (λ(p er:Nat) (q:exprM (run ts f) s = .no p er)=>Rs.step_no HK.out.1 q)
 have HAx:=hid (λw' V' x (s2:St) (q:Pz X w' base g A c ts V' s2) (q2:exprM (run ts f) s = .ok [x] s2)=>add_s1 q 7 0 (t.p:Int) t.s none 0 0 x (Rs.step HK.out.1 q2 :) HK.out.2.2.1 HK.out.2.2.2.1)
 refine wp_region_held (S:=λw'=>Bx w' (w.heap.size+1) 50 [.int .i64 7,.int .i64 0,.int .i64 (t.p:Int),.string (bs t.s),.slice none 0 0]) (by kernel_rfl) ?_
 refine hpu 0 (.pointer (some ⟨g,0,none⟩)) (by kernel_rfl) rfl rfl (λ_ _ _ h=>h) rfl (y_move rfl rfl) hS ?_
 simp only[ap]
 refine hpu 1 (.agg #[.int .i64 7,.int .i64 0,.int .i64 (t.p:Int),.string (bs t.s),.slice none 0 0]) (by kernel_rfl) rfl rfl (λ_ _ _ h=>h) rfl (y_load rfl rfl (λw' q=>run_load39 q)) hS ?_
 simp only[ap]
 refine hpu 2 (.pointer (some ⟨g,0,none⟩)) (by kernel_rfl) rfl rfl (λ_ _ _ h=>h) rfl (y_move rfl rfl) hS ?_
 simp only[ap]
 refine h_callx 3 ({ dst:=some 41,op:=Op.call { callee:=Callee.value (Operand.func 252),args := #[Operand.tmp 40],argTypes := #[114] },type:=3,pos := "grammar.go:156",after := #[{ on:=2,ground:=Ground.data }],guard:=none }:Oper) (args := #[.pointer (some ⟨g,0,none⟩)]) own66 rfl rfl (by kernel_rfl) rfl rfl (HIx.out _ hz3) ?_
 rintro e w7 (⟨p,er,hr,rfl,hF⟩ |⟨x7,s7,V7,hr7,rfl,hz7,hF7⟩)
 ·exact .inl ⟨_,rfl,rfl,.inl (np_after HF.out (HNx.out _ _ hr) hF)⟩
 have hne7:=(hF7.bx hS hne.1 hne.2).2
 have hS7:=(hF7.bx hS hne.1 hne.2).1
 refine .inr ⟨_,rfl,hS7,?_⟩
 simp only[ap]
 refine h_one 4 ({ dst:=some 42,op:=Op.buildSlice 28 1 #[(0,Operand.tmp 41)],type:=28,pos := "grammar.go:156",after := #[{ on:=3,ground:=Ground.data }],guard:=none }:Oper) rfl (by kernel_rfl) rfl (slice1 rfl rfl ⟨hS7.alloc _,?_⟩)
 simp only[ap]
 refine h_callx 5 ({ dst:=some 43,op:=Op.call { callee:=Callee.value (Operand.func 131),args := #[Operand.tmp 38,Operand.tmp 39,Operand.tmp 42],argTypes := #[114,50,28] },type:=3,pos := "grammar.go:156",after := #[{ on:=0,ground:=Ground.data },{ on:=1,ground:=Ground.data },{ on:=4,ground:=Ground.data },{ on:=3,ground:=Ground.chain }],guard:=none }:Oper) (args := #[.pointer (some ⟨g,0,none⟩),.agg #[.int .i64 7,.int .i64 0,.int .i64 (t.p:Int),.string (bs t.s),.slice none 0 0],.slice (some ⟨w7.heap.size,0,none⟩) 1 1]) own44 rfl rfl (by kernel_rfl) rfl rfl (HAx.out _ _ _ _ hz7 hr7) ?_
 rintro e w9 (⟨p,er,hr,rfl,hF⟩ |⟨x9,s9,V9,hr9,rfl,hz9,hF9⟩)
 ·exact .inl ⟨_,rfl,rfl,.inl (np_after (HF.out.trans hF7) hr hF)⟩
 have hS9:=(hF9.bx hS7 hne.1 hne7).1
 refine .inr ⟨_,rfl,hS9,?_⟩
 simp only[ap]
 refine hpu 6 (.int .i64 x9) (by kernel_rfl) rfl rfl (λ_ _ _ h=>h) rfl (y_assign rfl rfl) hS9 ?_
 simp only[ap]
 refine wpAnyH_done (by kernel_rfl) ?_ _
 have HR9:=hid hr9
 clear hr9 hr7
 go_wp2
 go_ret
 exact .inr ⟨_,s9,V9,HR9.out,rfl,hz9,(HF.out.trans hF7).trans hF9⟩
theorem rest_z {X:Nat->Prop}{w:World}{base g c:Nat}{A:Option Addr}{ts:List Tok}{V:Value}{s:St}{f:Nat}(hI:∀f',f'<=f->Rz ts (run ts f'))(h:Pz X w base g A c ts V s)(t:Tok)(hsl:s.nd.length+1<=s.nx)(hne:restM ts (run ts f) t s ≠ .out):Calls Tryz.prog 270 #[.pointer (some ⟨g,0,none⟩),.agg #[.int .i64 (t.k:Int),.int .i64 t.n,.int .i64 (t.p:Int),.string (bs t.s)]] w (IPost X base g A c ts V w (restM ts (run ts f) t s)):=by
 by_cases q0:(tkn ts s).s=wIn
 ·exact rest_0 hI h t hsl q0 hne
 by_cases q1:(tkn ts s).s=wCall
 ·exact rest_1 hI h t hsl q0 q1 hne
 by_cases q2:(tkn ts s).s=wNew
 ·exact rest_2 hI h t hsl q0 q1 q2 hne
 exact rest_3 hI h t hsl q0 q1 q2 hne
end Go.Proofs.YtedkgofehbecmaaGreatDoor
namespace Go.Proofs.YtedkgofehbecmaaGreatDoor
open Go.Lib (hid)
open Go Go.RowKit
open Tr (Bx heap1 bt gen_world ret_int ret_bool cell_same)
set_option maxRecDepth 100000 in
set_option maxHeartbeats 1500000 in
theorem named_z {X:Nat->Prop}{w:World}{base g c:Nat}{A:Option Addr}{ts:List Tok}{V:Value}{s:St}{f:Nat}(hI:∀f',f'<=f->Rz ts (run ts f'))(h:Pz X w base g A c ts V s)(hne:namedM ts (run ts f) s ≠ .out):Calls Tryz.prog 249 #[.pointer (some ⟨g,0,none⟩)] w (IPost X base g A c ts V w (namedM ts (run ts f) s)):=by
 have hk:Nk s 0 (namedM ts (run ts f) s):=nk_named ts (run_nk ts f) s
 obtain⟨R,HR⟩:∃R,R=namedM ts (run ts f) s:=⟨_,rfl⟩
 rw[<- HR]at hk hne |-
 unfold namedM at HR
 dsimp only at HR
 have HK:=hid (And.intro HR (And.intro hne (And.intro hk (And.intro h.hn hI))))
 have HC:=hid (name_z h)
 have HI:=hid hI
 have HNN:=hid (nk_name ts s)
 generalize tkn ts s=t at *
 unfold tokV at HC
 clear HR hne hk h hI
 go_enter Tryz.func249,Tryz.ntmps249
 go_wp2_with (go_at_call 177;refine HC.out.mono ?_)
 rintro e w1 (⟨p,er,hr,rfl,hF⟩ |⟨s1,hr1,rfl,hz1,hF1⟩)<;>first|replace hr1:=hid hr1 |replace hr:=hid hr
 ·go_wp2
  exact⟨rfl,.inl ⟨p,er,Rs.step_no HK.out.1 hr.out,rfl,hF⟩⟩
 have HR1:=Rs.step HK.out.1 hr1.out
 have n1:=(HNN.out _ _ hr1.out).1
 obtain⟨W2,hW2⟩:∃W2,w1.alloc (.cells #[.int .i64 (t.k:Int),.int .i64 t.n,.int .i64 (t.p:Int),.string (bs t.s)] 186)=W2:=⟨_,rfl⟩
 have hb2:Below w1.heap.size w1 W2:=by rw[<- hW2];exact heap1 _ _
 have hT:Bx W2 w1.heap.size 186 [.int .i64 (t.k:Int),.int .i64 t.n,.int .i64 (t.p:Int),.string (bs t.s)]:=by rw[<- hW2];exact Bx.new w1 186 _
 have hz2:=hz1.below hb2
 have hne0:=hz1.new
 have hF2:Fo w W2 g V V:=hF1.trans (Fo.below hb2)
 have HS:=hid (sees_z hz2 [91])
 cases hq:sees ts [91] s1 with
 |false=>
  rw[hq]at HS HR1
  rw[if_neg (by decide)]at HR1
  have HX:=hid (And.intro HR1 (And.intro hz2 (And.intro hF2 (And.intro hT (And.intro hne0 n1)))))
  clear HR1 hz2 hF2 hz1 hF1 hT hb2 hne0 n1
  go_wp2_with (first|(go_at_call 128;refine HS.out.mono ?_;rintro e w3 ⟨rfl,hb3⟩) |(go_at_call 175;refine(expect_z (HX.out.2.1.below hb3) [61] (by decide)).mono ?_))
  rintro e w4 (⟨p,er,hr,rfl,hF⟩ |⟨s4,hr4,rfl,hz4,hF4⟩)<;>first|replace hr4:=hid hr4 |replace hr:=hid hr
  ·go_wp2
   exact⟨rfl,.inl (np_after (HX.out.2.2.1.trans (Fo.below hb3)) (Rs.step_no HX.out.1 hr.out) hF)⟩
  obtain⟨HR1,hz2,hF2,hT,hne0,n1⟩:=HX.out
  have hT4:=(hF4.bx (hT.below hb3 hT.lt) hne0.1 hne0.2).1
  have t0:=(hT4.cell 0).trans rfl
  have t1:=(hT4.cell 1).trans rfl
  have t2:=(hT4.cell 2).trans rfl
  have t3:=(hT4.cell 3).trans rfl
  have hsl:s4.nd.length+1<=s4.nx:=by
   have a:=(nk_exp ts _ _ _ _ hr4.out).1
   have b:=HK.out.2.2.2.1
   omega
  have HRS:=hid (rest_z HI.out hz4 t hsl (Rs.step_in (Rs.step HR1 hr4.out) HK.out.2.1))
  have HE:=hid (λw' x6 s6 V6 (q:Pz X w' base g A c ts V6 s6) (e:restM ts (run ts f) t s4 = .ok [x6] s6)=>(ended_z q x6).mono (λ_ _ q2=>((Rs.step (Rs.step HR1 hr4.out) e :):R=endedM ts [x6] s6)▸q2))
  have HN2:=hid (λ(p er:Nat) (q:restM ts (run ts f) t s4 = .no p er)=>Rs.step_no (Rs.step HR1 hr4.out) q)
  have HF:=hid ((hF2.trans (Fo.below (V:=V) hb3)).trans hF4)
  clear HR1 hz2 hF2 hT hne0 n1 hT4 hz4 hF4 hsl hr4 hb3
  go_wp2_with (first|(go_at_call 270;refine HRS.out.mono ?_;rintro e w6 (⟨p,er,hr,rfl,hF⟩ |⟨x6,s6,V6,hr6,rfl,hz6,hF6⟩)<;>first|replace hr6:=hid hr6 |replace hr:=hid hr) |(go_at_call 254;refine(HE.out _ _ _ _ hz6 hr6.out).mono ?_;rintro e w9 (⟨p,er,hr,rfl,hF⟩ |⟨x9,s9,V9,hr9,rfl,hz9,hF9⟩)<;>first|replace hr9:=hid hr9 |replace hr:=hid hr))
  ·exact⟨rfl,.inl (np_after HF.out (HN2.out _ _ hr.out) hF)⟩
  ·exact⟨rfl,.inl (np_after (HF.out.trans hF6) hr.out hF)⟩
  ·go_ret
   exact .inr ⟨x9,s9,V9,hr9.out,rfl,hz9,(HF.out.trans hF6).trans hF9⟩
 |true=>
  rw[hq]at HS HR1
  rw[if_pos rfl]at HR1
  have HX:=hid (And.intro HR1 (And.intro hz2 (And.intro hF2 (And.intro hT (And.intro hne0 n1)))))
  clear HR1 hz2 hF2 hz1 hF1 hT hb2 hne0 n1
  go_wp2_with (first|(go_at_call 128;refine HS.out.mono ?_;rintro e w3 ⟨rfl,hb3⟩) |(go_at_call 269;refine(index_z (HI.out f (Nat.le_refl _)) (HX.out.2.1.below hb3) (Rs.step_in HX.out.1 HK.out.2.1)).mono ?_;rintro e w4 (⟨p,er,hr,rfl,hF⟩ |⟨x4,s4,V4,hr4,rfl,hz4,hF4⟩)<;>first|replace hr4:=hid hr4 |replace hr:=hid hr) |(go_at_call 175;refine(expect_z hz4 [61] (by decide)).mono ?_))
  ·exact⟨rfl,.inl (np_after (HX.out.2.2.1.trans (Fo.below hb3)) (Rs.step_no HX.out.1 hr.out) hF)⟩
  rintro e w5 (⟨p,er,hr,rfl,hF⟩ |⟨s5,hr5,rfl,hz5,hF5⟩)<;>first|replace hr5:=hid hr5 |replace hr:=hid hr
  ·go_wp2
   exact⟨rfl,.inl (np_after ((HX.out.2.2.1.trans (Fo.below hb3)).trans hF4) (Rs.step_no (Rs.step HX.out.1 hr4.out) hr.out) hF)⟩
  obtain⟨HR1,hz2,hF2,hT,hne0,n1⟩:=HX.out
  have HR5:=Rs.step (Rs.step HR1 hr4.out) hr5.out
  have hT4:=hF4.bx (hT.below hb3 hT.lt) hne0.1 hne0.2
  have hT5:=hF5.bx hT4.1 hne0.1 hT4.2
  have hS:Bx { w5 with drawn:=w5.drawn+1 } w1.heap.size 186 [.int .i64 (t.k:Int),.int .i64 t.n,.int .i64 (t.p:Int),.string (bs t.s)]:=hT5.1
  have hz5':Pz X { w5 with drawn:=w5.drawn+1 } base g A c ts V4 s5:=hz5.below (bdrew (Below.refl _ _))
  have HF:=hid ((((hF2.trans (Fo.below (V:=V) hb3)).trans hF4).trans hF5).trans (Fo.below (V:=V4) (bdrew (Below.refl w5.heap.size w5))))
  have HIx:=hid (λw' (q:Pz X w' base g A c ts V4 s5)=>expr_z (HI.out f (Nat.le_refl _)) q (Rs.step_in HR5 HK.out.2.1))
  have HNx:=hid (λ(p er:Nat) (q:exprM (run ts f) s5 = .no p er)=>Rs.step_no HR5 q)
  have HSL:=hid (λx7 s7 (q:exprM (run ts f) s5 = .ok [x7] s7)=>show s7.nd.length+1<=s7.nx by
   have a:=(nk_idx ts (run_nk ts f) _ _ _ hr4.out).1
   have b:=(nk_exp ts _ _ _ _ hr5.out).1
   have d:=(nk_expr (run_nk ts f) _ _ _ q).1
   have e:=HK.out.2.2.2.1
   omega)
  have HRx:=hid (λx7 s7 x8 s8 (q:exprM (run ts f) s5 = .ok [x7] s7) (q8:addM 8 0 (t.p:Int) t.s [x4,x7] s7 = .ok [x8] s8)=>((Rs.step (Rs.step HR5 q) q8 :):R=endedM ts [x8] s8))
  have HX5:=hid (And.intro hS (And.intro hz5' (And.intro hne0.1 hT5.2)))
  clear HR1 HR5 hz2 hF2 hT hne0 n1 hT4 hT5 hS hz4 hz5 hz5' hF4 hF5 hr4 hr5 hb3
  go_upto_region 5 with(fail)
  obtain⟨hS,hz5,hne⟩:=HX5.out
  refine wp_region_held (S:=λw'=>Bx w' w1.heap.size 186 [.int .i64 (t.k:Int),.int .i64 t.n,.int .i64 (t.p:Int),.string (bs t.s)]) (by kernel_rfl) ?_
  refine hpu 0 (.pointer (some ⟨g,0,none⟩)) (by kernel_rfl) rfl rfl (λ_ _ _ h=>h) rfl (y_move rfl rfl) hS ?_
  simp only[ap]
  refine hpu 1 (.pointer (some ⟨g,0,none⟩)) (by kernel_rfl) rfl rfl (λ_ _ _ h=>h) rfl (y_move rfl rfl) hS ?_
  simp only[ap]
  refine hpu 2 (.pointer (some ⟨w1.heap.size,3,none⟩)) (by kernel_rfl) rfl rfl (λ_ _ _ h=>h) rfl (y_field rfl rfl (run_field36_3 _)) hS ?_
  simp only[ap]
  refine hpu 3 (.string (bs t.s)) (by kernel_rfl) rfl rfl (λ_ _ _ h=>h) rfl (y_load rfl rfl (λw' q=>run_load9 ((q.cell 3).trans rfl))) hS ?_
  simp only[ap]
  refine hpu 4 (.pointer (some ⟨w1.heap.size,2,none⟩)) (by kernel_rfl) rfl rfl (λ_ _ _ h=>h) rfl (y_field rfl rfl (run_field36_2 _)) hS ?_
  simp only[ap]
  refine hpu 5 (.int .i64 (t.p:Int)) (by kernel_rfl) rfl rfl (λ_ _ _ h=>h) rfl (y_load rfl rfl (λw' q=>run_load3 ((q.cell 2).trans rfl))) hS ?_
  simp only[ap]
  refine hpu 6 (.agg #[.int .i64 8,.int .i64 0,.int .i64 (t.p:Int),.string (bs t.s),.slice none 0 0]) (by kernel_rfl) rfl rfl (λ_ _ _ h=>h) rfl (y_build39 rfl rfl rfl) hS ?_
  simp only[ap]
  refine hpu 7 (.int .i64 x4) (by kernel_rfl) rfl rfl (λ_ _ _ h=>h) rfl (y_move rfl rfl) hS ?_
  simp only[ap]
  refine hpu 8 (.pointer (some ⟨g,0,none⟩)) (by kernel_rfl) rfl rfl (λ_ _ _ h=>h) rfl (y_move rfl rfl) hS ?_
  simp only[ap]
  refine h_callx 9 ({ dst:=some 22,op:=Op.call { callee:=Callee.value (Operand.func 252),args := #[Operand.tmp 21],argTypes := #[114] },type:=3,pos := "grammar.go:136",after := #[{ on:=8,ground:=Ground.data }],guard:=none }:Oper) (args := #[.pointer (some ⟨g,0,none⟩)]) own66 rfl rfl (by kernel_rfl) rfl rfl (HIx.out _ hz5) ?_
  rintro e w7 (⟨p,er,hr,rfl,hF⟩ |⟨x7,s7,V7,hr7,rfl,hz7,hF7⟩)
  ·exact .inl ⟨_,rfl,rfl,.inl (np_after HF.out (HNx.out _ _ hr) hF)⟩
  have hne7:=(hF7.bx hS hne.1 hne.2).2
  have hS7:=(hF7.bx hS hne.1 hne.2).1
  refine .inr ⟨_,rfl,hS7,?_⟩
  simp only[ap]
  refine h_one 10 ({ dst:=some 23,op:=Op.buildSlice 28 2 #[(0,Operand.tmp 20),(1,Operand.tmp 22)],type:=28,pos := "grammar.go:136",after := #[{ on:=7,ground:=Ground.data },{ on:=9,ground:=Ground.data }],guard:=none }:Oper) rfl (by kernel_rfl) rfl (slice2 rfl rfl rfl ⟨hS7.alloc _,?_⟩)
  simp only[ap]
  refine h_callx 11 ({ dst:=some 24,op:=Op.call { callee:=Callee.value (Operand.func 131),args := #[Operand.tmp 14,Operand.tmp 19,Operand.tmp 23],argTypes := #[114,50,28] },type:=3,pos := "grammar.go:136",after := #[{ on:=1,ground:=Ground.data },{ on:=6,ground:=Ground.data },{ on:=10,ground:=Ground.data },{ on:=9,ground:=Ground.chain }],guard:=none }:Oper) (args := #[.pointer (some ⟨g,0,none⟩),.agg #[.int .i64 8,.int .i64 0,.int .i64 (t.p:Int),.string (bs t.s),.slice none 0 0],.slice (some ⟨w7.heap.size,0,none⟩) 2 2]) own44 rfl rfl (by kernel_rfl) rfl rfl (add_y2 hz7 8 0 (t.p:Int) t.s none 0 0 x4 x7 (HSL.out _ _ hr7)) ?_
  rintro e w8 (⟨p,er,hr,rfl,hF⟩ |⟨x8,s8,V8,hr8,rfl,hz8,hF8⟩)
  ·cases hr
  have hne8:=(hF8.bx hS7 hne.1 hne7).2
  have hS8:=(hF8.bx hS7 hne.1 hne7).1
  refine .inr ⟨_,rfl,hS8,?_⟩
  simp only[ap]
  refine h_callx 12 ({ dst:=some 25,op:=Op.call { callee:=Callee.value (Operand.func 254),args := #[Operand.tmp 13,Operand.tmp 24],argTypes := #[114,3] },type:=3,pos := "grammar.go:136",after := #[{ on:=0,ground:=Ground.data },{ on:=11,ground:=Ground.data },{ on:=11,ground:=Ground.chain }],guard:=none }:Oper) (args := #[.pointer (some ⟨g,0,none⟩),.int .i64 x8]) own136 rfl rfl (by kernel_rfl) rfl rfl ((ended_z hz8 x8).mono (λ_ _ q=>(HRx.out _ _ _ _ hr7 hr8)▸q)) ?_
  rintro e w9 (⟨p,er,hr,rfl,hF⟩ |⟨x9,s9,V9,hr9,rfl,hz9,hF9⟩)
  ·exact .inl ⟨_,rfl,rfl,.inl (np_after ((HF.out.trans hF7).trans hF8) hr hF)⟩
  refine .inr ⟨_,rfl,(hF9.bx hS8 hne.1 hne8).1,?_⟩
  have hS9:=(hF9.bx hS8 hne.1 hne8).1
  simp only[ap]
  refine hpu 13 (.int .i64 x9) (by kernel_rfl) rfl rfl (λ_ _ _ h=>h) rfl (y_assign rfl rfl) hS9 ?_
  simp only[ap]
  refine wpAnyH_done (by kernel_rfl) ?_ _
  have HR9:=hid hr9
  clear hr9 hr8 hr7
  go_wp2
  go_ret
  exact .inr ⟨_,s9,V9,HR9.out,rfl,hz9,((HF.out.trans hF7).trans hF8).trans hF9⟩
end Go.Proofs.YtedkgofehbecmaaGreatDoor
