/- PROVED here: parts N15 of the claim. No condition but those in each theorem's own head. -/
import Derived.Test.YtedkgofehbecmaaGreatDoorU14
import Derived.Recover
import Derived.Tactics2
import Derived.Laws.Pointers
namespace Go.Proofs.YtedkgofehbecmaaGreatDoor
open Go.Lib (hid)
open Go Go.RowKit
open Tr (Bx heap1 bt gen_world ret_int ret_bool cell_same)
theorem run_z {ts:List Tok}(ht:TsOk ts)(f:Nat):Rz ts (run ts f):=by
 induction f using Nat.strongRecOn with
 |_ f ih=>
  refine⟨run_nk ts f,λs h =>?_,λX w base g A c V s h =>?_⟩
  ·have k:=run_ok ht True f s h
   exact⟨λ_=>k.1 (.inl trivial),λr h1 h6 _=>k.2.1 r h1 h6 (.inl trivial),λr l h1 h5 _=>k.2.2.1 r l h1 h5 (.inl trivial),λa _=>k.2.2.2.1 a (.inl trivial),λ_=>k.2.2.2.2.1 (.inl trivial),λp a _=>k.2.2.2.2.2.1 p a (.inl trivial),λk' a _=>k.2.2.2.2.2.2.1 k' a (.inl trivial),λa _=>k.2.2.2.2.2.2.2.1 a (.inl trivial),λa _=>k.2.2.2.2.2.2.2.2 a (.inl trivial)⟩
  ·cases f with
   |zero=>exact⟨λq=>absurd rfl q,λ_ _ _ q=>absurd rfl q,λq=>absurd rfl q,λ_ _ q=>absurd rfl q⟩
   |succ f=>
    have hI:∀f',f'<=f->Rz ts (run ts f'):=λf' hf=>ih f' (by omega)
    exact⟨λq=>una_z (hI f (Nat.le_refl _)) h q,λr h1 h6 q=>bin_z hI h r h1 h6 q,λq=>stmt_z hI h q,λpl ho q=>stmts_z (λf' hf=>ih f' hf) h pl ho q⟩
section
variable {X X2:Nat->Prop} {w0 w2 w:World} {base g c:Nat} {A:Option Addr} {ts:List Tok} {V0 V2 V:Value} {s:St} {v v2:Value} {l l2:List Int}
theorem rw_append_wp {o:Oper}{a:Act}{K:Act->World->Prop}{Q:Exit->Act->World->Prop}(p x:Operand)
  (ho:o.op = .call { callee :=.builtin .append,args := #[p,x],argTypes := #[28,28] }) (n:Int) (h:Rw X w0 V0 w base g A c ts V s v l) (hs:a.eval p=v)
  (hx:a.eval x = .slice (some ⟨w.heap.size,0,none⟩) 1 1) (hlen:l.length<=900000)
  (hk:∀v' w',Rw X w0 V0 w' base g A c ts V s v' (l++[n])->(∀b t q,t≠3->Bx w b t q->Bx w' b t q)->K (a.put o.dst v') w'):o.wp Tryz.prog a (w.alloc (.cells #[.int .i64 n] 3)) K Q:=by
 obtain⟨i0,hi,hz0,hz1,hz2⟩:=info_parts info3
 have h':=h.below (heap1 w (.cells #[.int .i64 n] 3))
 refine wp_append_own2 (w.alloc (.cells #[.int .i64 n] 3)) p x 28 ho w0.heap.size 3 i0 (.int .i64 0) 1 8 Tryz.underlying28 hi hz0 hz1 hz2 rfl (by decide) v l.length (l.map (Value.int .i64)) hs h'.own ⟨w.heap.size,0,none⟩ 1 1 [.int .i64 n] hx rfl (blk_cells w [.int .i64 n] 3) ?_ (by unfold maxLen;omega) (by omega) h'.fo.fr.size ?_
 ·intro u hu
  obtain rfl:u = .int .i64 n:=by simpa using hu
  rfl
 ·intro v' w' h2 h3 h4
  refine hk v' w' (h'.grown (ms:=[n]) ?_ h3 h4) λb t q ht hB =>?_
  ·rw[List.length_append,List.map_append]
   exact h2
  ·have hB':=Tr.Bx.alloc hB (.cells #[.int .i64 n] 3)
   exact(h3.block b hB'.lt (λe=>by
    rcases h'.own.2 with⟨e1,_⟩ |⟨b',cap,cur,e1,_,e3,_⟩
    ·rw[e1]at e;exact absurd e (by simp[Value.ownBlock])
    ·rw[e1]at e
     obtain rfl:b=b':=by simpa [Value.ownBlock]using e
     have:=e3.symm.trans hB'
     simp at this
     exact ht this.2.symm)).trans hB'
theorem rw_appends2 {ops:Array Oper}{rest:List Oper}{o:Oper}{a:Act}{Q:Exit->Act->World->Prop}(hgd:o.guard=none)(p x:Operand)
  (ho:o.op = .call { callee :=.builtin .append,args := #[p,x],argTypes := #[28,28] }) (h:Rw X w0 V0 w base g A c ts V s v l) (h2:Rw X2 w2 V2 w base g A c ts V s v2 l2) (hs:a.eval p=v) (hx:a.eval x=v2) (hlen:l.length+l2.length<=1000000)
  (hk:∀v' w',Rw X w0 V0 w' base g A c ts V s v' (l++l2)->(∀b t q,t≠3->Bx w b t q->Bx w' b t q)->wpList Tryz.prog ops Q rest (a.put o.dst v') w'):wpList Tryz.prog ops Q (o :: rest) a w:=by
 have hc:=λ(b:Nat) (q:v2.ownBlock=some b)=>h2.own.cells (g:=b) q
 rcases h2.own.2 with⟨e1,e2⟩ |⟨b,cap,cur,e1,_⟩
 ·obtain⟨i0,hi,_,hz1,_⟩:=info_parts info3
  obtain rfl:l2=[]:=List.eq_nil_of_length_eq_zero e2
  refine wpList_append_own_none hgd p x 28 ho w0.heap.size 3 i0 1 Tryz.underlying28 hi v l.length (l.map (Value.int .i64)) hs h.own (by rw[hx,e1]) ?_
  exact hk v w (by rw[List.append_nil];exact h) (λ_ _ _ _ q=>q)
 ·obtain⟨i0,hi,hz0,hz1,hz2⟩:=info_parts info3
  refine wpList_plain hgd λK hK =>?_
  refine wp_append_own2 w p x 28 ho w0.heap.size 3 i0 (.int .i64 0) 1 8 Tryz.underlying28 hi hz0 hz1 hz2 rfl (by decide) v l.length (l.map (Value.int .i64)) hs h.own ⟨b,0,none⟩ l2.length cap (l2.map (Value.int .i64)) (by rw[hx,e1]) (by rw[List.length_map];omega) (hc b (by rw[e1];rfl)) ?_ (by unfold maxLen;omega) (by omega) h.fo.fr.size ?_
  ·intro u hu
   obtain⟨z,_,rfl⟩:=List.mem_map.1 hu
   rfl
  ·intro v' w' h3 h4 h5
   refine hK _ _ (hk v' w' (h.grown ?_ h4 h5) λb t q ht hB =>?_)
   ·rw[List.length_append,List.map_append]
    exact h3
   ·exact(h4.block b hB.lt (λe=>by
     rcases h.own.2 with⟨e1,_⟩ |⟨b',cap,cur,e1,_,e3,_⟩
     ·rw[e1]at e;exact absurd e (by simp[Value.ownBlock])
     ·rw[e1]at e
      obtain rfl:b=b':=by simpa [Value.ownBlock]using e
      have:=e3.symm.trans hB
      simp at this
      exact ht this.2.symm)).trans hB
end
theorem Rw.far {X:Nat->Prop}{w0 w:World}{base g c:Nat}{A:Option Addr}{ts:List Tok}{V0 V:Value}{s:St}{v:Value}{l:List Int}{b:Nat}{t:TypeId}{q:List Value}(h:Rw X w0 V0 w base g A c ts V s v l)(hB:Bx w b t q)(ht:t≠3)(hg:b≠g)(hV:V.ownBlock≠some b)(hbb:w0.heap.size<=b)(i:Nat)(u:Value):Rw X w0 V0 (w.setCell ⟨b,i,none⟩ u) base g A c ts V s v l:=by
 have hfr:Fr (λk=>k=b) w (w.setCell ⟨b,i,none⟩ u):=Fr.set (E:=λk=>k=b) (Fr.refl _ _) rfl _
 refine⟨h.z.far hB ht hg hV (Nat.le_trans h.hb0 hbb) i u,own_kept h.own hfr (λk hk e =>?_),h.fo.new hbb i u,h.hX0,h.hb0⟩
 subst e
 rcases h.own.2 with⟨e1,_⟩ |⟨b',cap,cur,e1,_,e3,_⟩
 ·rw[e1]at hk;exact absurd hk (by simp[Value.ownBlock])
 ·rw[e1]at hk
  obtain rfl:b'=k:=by simpa [Value.ownBlock]using hk
  have:=e3.symm.trans hB
  simp at this
  exact ht this.2.symm
end Go.Proofs.YtedkgofehbecmaaGreatDoor
namespace Go.Proofs.YtedkgofehbecmaaGreatDoor
open Go.Lib (hid)
open Go Go.RowKit
open Tr (Bx heap1 bt gen_world ret_int ret_bool cell_same)
theorem Rw.rebase {X:Nat->Prop}{w00 w0 w:World}{base g c:Nat}{A:Option Addr}{ts:List Tok}{V00 V0 V:Value}{s:St}{v:Value}{l:List Int}(h:Rw X w0 V0 w base g A c ts V s v l)(f:Fo w00 w0 g V00 V0)(hX:∀b,X b->b<w00.heap.size)(hb:base<=w00.heap.size):Rw X w00 V00 w base g A c ts V s v l:=
 ⟨h.z,⟨h.own.1,h.own.2.imp id (λ⟨b,cap,cur,e1,e2,e3⟩=>⟨b,cap,cur,e1,Nat.le_trans f.fr.size e2,e3⟩)⟩,f.trans h.fo,hX,hb⟩
set_option maxRecDepth 100000 in
set_option maxHeartbeats 1500000 in
theorem proc_z {X:Nat->Prop}{w:World}{base g c:Nat}{A:Option Addr}{ts:List Tok}{V:Value}{s:St}{f:Nat}(h:Pz X w base g A c ts V s)(hne:procM ts (run ts f) s ≠ .out):Calls Tryz.prog 129 #[.pointer (some ⟨g,0,none⟩)] w (IPost X base g A c ts V w (procM ts (run ts f) s)):=by
 have hZ:=run_z h.ok f
 have hk:Nk s 0 (procM ts (run ts f) s):=nk_proc ts (run_nk ts f) s
 obtain⟨R,HR⟩:∃R,R=procM ts (run ts f) s:=⟨_,rfl⟩
 rw[<- HR]at hk hne |-
 unfold procM at HR
 dsimp only at HR
 have HK:=hid (And.intro HR (And.intro hne (And.intro hk (And.intro h.hn hZ))))
 have HB:=hid (expect_z h wProc (by decide))
 have hf2:=field36_2
 have hf3:=field36_3
 have hmf:∀(fn:Fn) (first cap:Array Value) (w:World),(Instr.makeFunc fn first cap).run Tryz.prog w = .ok (.func fn first cap) w:=λ_ _ _ _=>rfl
 clear HR hk hne h hZ
 go_enter Tryz.func129,Tryz.ntmps129
 go_wp2_with (first|(go_at_call 175;refine HB.out.mono ?_;rintro e w1 (⟨p,er,hr,rfl,hF⟩ |⟨s1,hr1,rfl,hz1,hF1⟩)<;>first|replace hr1:=hid hr1 |replace hr:=hid hr) |(go_at_call 177;refine(name_z hz1).mono ?_;rintro e w2 (⟨p,er,hr,rfl,hF⟩ |⟨s2,hr2,rfl,hz2,hF2⟩)<;>first|replace hr2:=hid hr2 |replace hr:=hid hr) |(go_at_call 178;refine(plist_z (f:=f) (hz2.below (heap1 _ _)) (Rs.step_in (Rs.step (Rs.step HK.out.1 hr1.out) hr2.out) HK.out.2.1)).mono ?_))
 ·exact⟨rfl,.inl ⟨p,er,Rs.step_no HK.out.1 hr.out,rfl,hF⟩⟩
 ·exact⟨rfl,.inl (np_after hF1 (Rs.step_no (Rs.step HK.out.1 hr1.out) hr.out) hF)⟩
 rintro e w3 (⟨p,er,hr,rfl,hF⟩ |⟨l3,s3,V3,v3,hr3,rfl,hw3,hl3⟩)<;>first|replace hr3:=hid hr3 |replace hr:=hid hr
 ·go_wp2
  exact⟨rfl,.inl (np_after ((hF1.trans hF2).trans (Fo.below (heap1 _ _))) (Rs.step_no (Rs.step (Rs.step HK.out.1 hr1.out) hr2.out) hr.out) hF)⟩
 have hS3:=hz2.box (l:=[.int .i64 3,.int .i64 0,.int .i64 ((tkn ts s).p:Int),.string (bs (tkn ts s1).s),.slice none 0 0]) hw3.fo
 have HR3:=Rs.step (Rs.step (Rs.step HK.out.1 hr1.out) hr2.out) hr3.out
 have hg2:=hz2.new.1
 replace hw3:=hw3.rebase (Fo.below (heap1 _ _)) hz2.hX hz2.hb
 have HF0:=hid (hF1.trans hF2)
 have hbb:base<=w2.heap.size:=hz2.hb
 have hlw:w2.heap.size<w3.heap.size:=hS3.1.lt
 clear hr1 hr2 hr3 hz1 hz2 hF1 hF2 HB
 have HS:=hid (sees_z hw3.z [123])
 cases q:sees ts [123] s3 with
 |true=>
  rw[q]at HS
  rw[if_pos q]at HR3
  have HRt:=Rs.step HR3 rfl
  have HL3:=hid (show l3.length<=100000 by have:=hw3.z.len;omega)
  have HX3:=hid (And.intro hw3 (And.intro hS3 HRt))
  clear q HR3 HRt hw3 hS3 hl3
  go_wp2_with (go_at_call 128;refine HS.out.mono ?_)
  rintro e w4 ⟨rfl,hb4⟩
  obtain⟨hw3,hS3,HRt⟩:=HX3.out
  have hwt:=hw3.below hb4
  have hSt:=hS3.1.below hb4 hS3.1.lt
  have hVt:=hS3.2
  clear hw3 hS3 HX3 HS
  have HBt:=hid (begin_z hwt.z [123] (by decide))
  have HXt:=hid (And.intro hwt (And.intro hSt (And.intro hVt HRt)))
  clear hwt hSt hVt HRt
  go_wp2_with (first|(go_at_call 181;refine HBt.out.mono ?_;rintro e w6 (⟨p,er,hr,rfl,hF⟩ |⟨s6,hr6,rfl,hz6,hF6⟩)<;>first|replace hr6:=hid hr6 |replace hr:=hid hr) |(go_at_call 127;refine(vars_z (f:=f) hz6 5 (Rs.step_in (Rs.step HXt.out.2.2.2 hr6.out) HK.out.2.1)).mono ?_))
  ·exact⟨rfl,.inl (np_after (HF0.out.trans HXt.out.1.fo) (Rs.step_no HXt.out.2.2.2 hr.out) hF)⟩
  rintro e w7 (⟨p,er,hr,rfl,hF⟩ |⟨l7,s7,V7,v7,hr7,rfl,hw7,hl7⟩)<;>first|replace hr7:=hid hr7 |replace hr:=hid hr
  ·go_wp2
   exact⟨rfl,.inl (np_after (HF0.out.trans (HXt.out.1.step hz6 hF6).fo) (Rs.step_no (Rs.step HXt.out.2.2.2 hr6.out) hr.out) hF)⟩
  obtain⟨hwt,hSt,hVt,HRt⟩:=HXt.out
  have hkids:=(hwt.step hz6 hF6).step hw7.pz hw7.fo
  have hS6:=hF6.bx hSt hg2 hVt
  have hS7:=hw7.fo.bx hS6.1 hg2 hS6.2
  have HR7:=hid (Rs.step (Rs.step HRt hr6.out) hr7.out)
  have HO:=hid (show 1<=s7.op by
   have a:=beg_op hwt.z.ok (by decide) hwt.z.px.nx hr6.out
   have b:=okr_ok ((HK.out.2.2.2.2.ok s6 a.2.1).2.2.2.2.2.2.1 5 [] (.inl trivial)) hr7.out
   omega)
  have HLN:=hid (show l3.length+l7.length<=200000 by
   have a:=hw7.z.len
   have b:=hwt.z.len
   have c1:=HL3.out
   omega)
  have HX7:=hid (And.intro hkids (And.intro hw7 hS7))
  clear hwt hSt hVt HRt hkids hS6 hS7 hz6 hF6 hw7 hr6 hr7
  go_upto_region 8 with(at_builtin;refine rw_appends2 rfl _ _ rfl HX7.out.1 HX7.out.2.1 rfl rfl (by have a:=HLN.out;omega) ?_;intro v8 w8 hw8 hB8)
  have hS:Bx { w8 with drawn:=w8.drawn+1 } w2.heap.size 50 [.int .i64 3,.int .i64 0,.int .i64 ((tkn ts s).p:Int),.string (bs (tkn ts s1).s),.slice none 0 0]:=hB8 _ _ _ (by decide) HX7.out.2.2.1
  have hw8:Rw X _ V { w8 with drawn:=w8.drawn+1 } base g A c ts V7 s7 v8 (l3++l7):=hw8.below (bdrew (Below.refl _ _))
  have hV8:=HX7.out.2.2.2
  clear hB8
  refine wp_region_held (S:=λw'=>Bx w' w2.heap.size 50 [.int .i64 3,.int .i64 0,.int .i64 ((tkn ts s).p:Int),.string (bs (tkn ts s1).s),.slice none 0 0]) (by kernel_rfl) ?_
  refine hpu 0 (.pointer (some ⟨g,0,none⟩)) (by kernel_rfl) rfl rfl (λ_ _ _ h=>h) rfl (y_move rfl rfl) hS ?_
  simp only[ap]
  refine hpu 1 (.agg #[.int .i64 3,.int .i64 0,.int .i64 ((tkn ts s).p:Int),.string (bs (tkn ts s1).s),.slice none 0 0]) (by kernel_rfl) rfl rfl (λ_ _ _ h=>h) rfl (y_load rfl rfl (λw' q=>run_load39 q)) hS ?_
  simp only[ap]
  refine hpu 2 (v8) (by kernel_rfl) rfl rfl (λ_ _ _ h=>h) rfl (y_move rfl rfl) hS ?_
  simp only[ap]
  refine hpu 3 (.pointer (some ⟨g,0,none⟩)) (by kernel_rfl) rfl rfl (λ_ _ _ h=>h) rfl (y_move rfl rfl) hS ?_
  simp only[ap]
  refine hpu 4 (.int .i64 ((tkn ts s3).p:Int)) (by kernel_rfl) rfl rfl (λ_ _ _ h=>h) rfl (y_move rfl rfl) hS ?_
  simp only[ap]
  refine h_callx 5 ({ dst:=some 37,op:=Op.call { callee:=Callee.value (Operand.func 182),args := #[Operand.tmp 35,Operand.tmp 36],argTypes := #[114,3] },type:=3,pos := "grammar.go:68",after := #[{ on:=3,ground:=Ground.data },{ on:=4,ground:=Ground.data }],guard:=none }:Oper) (args := #[.pointer (some ⟨g,0,none⟩),.int .i64 ((tkn ts s3).p:Int)]) own78 rfl rfl (by kernel_rfl) rfl rfl ((HK.out.2.2.2.2.z _ _ base g A c V7 s7 hw8.z).2.2.2 _ HO.out (Rs.step_in HR7.out HK.out.2.1)) ?_
  rintro e w9 (⟨p,er,hr,rfl,hF⟩ |⟨x9,s9,V9,hr9,rfl,hz9,hF9⟩)
  ·exact .inl ⟨_,rfl,rfl,.inl (np_after (HF0.out.trans hw8.fo) (Rs.step_no HR7.out hr) hF)⟩
  have hS9:=hF9.bx hS hg2 hV8
  have hw9:=hw8.step hz9 hF9
  refine .inr ⟨_,rfl,hS9.1,?_⟩
  simp only[ap]
  refine h_one 6 ({ dst:=some 38,op:=Op.buildSlice 28 1 #[(0,Operand.tmp 37)],type:=28,pos := "grammar.go:68",after := #[{ on:=5,ground:=Ground.data }],guard:=none }:Oper) rfl (by kernel_rfl) rfl (slice1 rfl rfl ⟨hS9.1.alloc _,?_⟩)
  simp only[ap]
  refine h_one 7 ({ dst:=some 39,op:=Op.call { callee:=Callee.builtin Builtin.append,args := #[Operand.tmp 34,Operand.tmp 38],argTypes := #[28,28] },type:=28,pos := "grammar.go:68",after := #[{ on:=2,ground:=Ground.data },{ on:=6,ground:=Ground.data },{ on:=5,ground:=Ground.chain }],guard:=none }:Oper) rfl (by kernel_rfl) rfl (rw_append_wp _ _ rfl x9 hw9 rfl rfl (by have a:=HLN.out;rw[List.length_append];omega) (λv10 w10 hw10 hB10=>⟨hB10 _ _ _ (by decide) hS9.1,?_⟩))
  have hS10:=hB10 _ _ _ (by decide) hS9.1
  obtain⟨K10,c10,rfl,_⟩:=hw10.kd
  simp only[ap]
  refine h_callx 8 ({ dst:=some 40,op:=Op.call { callee:=Callee.value (Operand.func 131),args := #[Operand.tmp 32,Operand.tmp 33,Operand.tmp 39],argTypes := #[114,50,28] },type:=3,pos := "grammar.go:68",after := #[{ on:=0,ground:=Ground.data },{ on:=1,ground:=Ground.data },{ on:=7,ground:=Ground.data },{ on:=7,ground:=Ground.chain }],guard:=none }:Oper) (args := #[.pointer (some ⟨g,0,none⟩),.agg #[.int .i64 3,.int .i64 0,.int .i64 ((tkn ts s).p:Int),.string (bs (tkn ts s1).s),.slice none 0 0],.slice K10 (l3++l7++[x9]).length c10]) own44 rfl rfl (by kernel_rfl) rfl rfl (add_z hw10.pz 3 0 ((tkn ts s).p:Int) (tkn ts s1).s none K10 0 0 _ c10 _ hw10.kds.1 ⟨rfl,hw10.kle⟩ (Rs.step HR7.out hr9 :) HK.out.2.2.1 HK.out.2.2.2.1) ?_
  rintro e w11 (⟨p,er,hr,rfl,hF⟩ |⟨x11,s11,V11,hr11,rfl,hz11,hF11⟩)
  ·exact .inl ⟨_,rfl,rfl,.inl (np_after (HF0.out.trans hw10.fo) hr hF)⟩
  refine .inr ⟨_,rfl,(hF11.bx hS10 hg2 hS9.2).1,?_⟩
  have hS11:=(hF11.bx hS10 hg2 hS9.2).1
  simp only[ap]
  refine hpu 9 (.int .i64 x11) (by kernel_rfl) rfl rfl (λ_ _ _ h=>h) rfl (y_assign rfl rfl) hS11 ?_
  simp only[ap]
  refine wpAnyH_done (by kernel_rfl) ?_ _
  have HR12:=hid hr11
  have HF12:=hid ((HF0.out.trans hw10.fo).trans hF11)
  clear hr11 hr9 hS hS9 hS10 hS11 hw8 hw9 hw10 hz9 hF9 hF11 hB10
  go_wp2
  go_ret
  exact .inr ⟨_,s11,V11,HR12.out,rfl,hz11,HF12.out⟩
 |false=>
  rw[q]at HS
  rw[if_neg (by rw[q];decide)]at HR3
  have HL3:=hid (show l3.length<=100000 by have:=hw3.z.len;omega)
  have HX3:=hid (And.intro hw3 (And.intro hS3 HR3))
  clear q HR3 hw3 hS3 hl3
  go_wp2_with (first|(go_at_call 128;refine HS.out.mono ?_;rintro e w4 ⟨rfl,hb4⟩) |(go_at_call 180;refine(typeWord_z (HX3.out.1.below hb4).z).mono ?_))
  rintro e w5 (⟨p,er,hr,rfl,hF⟩ |⟨nv,s5,V5,hr5,rfl,hz5,hF5⟩)<;>first|replace hr5:=hid hr5 |replace hr:=hid hr
  ·go_wp2
   exact⟨rfl,.inl (np_after (HF0.out.trans (HX3.out.1.below hb4).fo) (Rs.step_no HX3.out.2.2 hr.out) hF)⟩
  obtain⟨hw3,hS3,HR3⟩:=HX3.out
  have HRt:=Rs.step HR3 hr5.out
  have hw5:=(hw3.below hb4).step hz5 hF5
  have hS5:=hF5.bx (hS3.1.below hb4 hS3.1.lt) hg2 hS3.2
  have f1:=hS5.1.frozen 1
  have z1:=(hS5.1.cell 1).trans rfl
  have hSt:=hS5.1.set_ 1 (.int .i64 nv)
  simp only[List.set_cons_zero,List.set_cons_succ]at hSt
  obtain⟨W6,hW6⟩:∃W6,w5.setCell ⟨w2.heap.size,1,none⟩ (.int .i64 nv)=W6:=⟨_,rfl⟩
  rw[hW6]at hSt
  have hVt:=hS5.2
  have hFt:=(HF0.out.trans hw5.fo)
  have hwt:=hw5.far hS5.1 (by decide) hg2 hS5.2 (Nat.le_refl _) 1 (.int .i64 nv)
  rw[hW6]at hwt
  clear hw3 hS3 HR3 hw5 hS5 HX3 HS hz5 hF5 hFt
  have HBt:=hid (begin_z hwt.z [123] (by decide))
  have HXt:=hid (And.intro hwt (And.intro hSt (And.intro hVt HRt)))
  clear hwt hSt hVt HRt
  go_wp2_with (first|(go_at_call 181;refine HBt.out.mono ?_;rintro e w6 (⟨p,er,hr,rfl,hF⟩ |⟨s6,hr6,rfl,hz6,hF6⟩)<;>first|replace hr6:=hid hr6 |replace hr:=hid hr) |(go_at_call 127;refine(vars_z (f:=f) hz6 5 (Rs.step_in (Rs.step HXt.out.2.2.2 hr6.out) HK.out.2.1)).mono ?_))
  ·exact⟨rfl,.inl (np_after (HF0.out.trans HXt.out.1.fo) (Rs.step_no HXt.out.2.2.2 hr.out) hF)⟩
  rintro e w7 (⟨p,er,hr,rfl,hF⟩ |⟨l7,s7,V7,v7,hr7,rfl,hw7,hl7⟩)<;>first|replace hr7:=hid hr7 |replace hr:=hid hr
  ·go_wp2
   exact⟨rfl,.inl (np_after (HF0.out.trans (HXt.out.1.step hz6 hF6).fo) (Rs.step_no (Rs.step HXt.out.2.2.2 hr6.out) hr.out) hF)⟩
  obtain⟨hwt,hSt,hVt,HRt⟩:=HXt.out
  have hkids:=(hwt.step hz6 hF6).step hw7.pz hw7.fo
  have hS6:=hF6.bx hSt hg2 hVt
  have hS7:=hw7.fo.bx hS6.1 hg2 hS6.2
  have HR7:=hid (Rs.step (Rs.step HRt hr6.out) hr7.out)
  have HO:=hid (show 1<=s7.op by
   have a:=beg_op hwt.z.ok (by decide) hwt.z.px.nx hr6.out
   have b:=okr_ok ((HK.out.2.2.2.2.ok s6 a.2.1).2.2.2.2.2.2.1 5 [] (.inl trivial)) hr7.out
   omega)
  have HLN:=hid (show l3.length+l7.length<=200000 by
   have a:=hw7.z.len
   have b:=hwt.z.len
   have c1:=HL3.out
   omega)
  have HX7:=hid (And.intro hkids (And.intro hw7 hS7))
  clear hwt hSt hVt HRt hkids hS6 hS7 hz6 hF6 hw7 hr6 hr7
  go_upto_region 8 with(at_builtin;refine rw_appends2 rfl _ _ rfl HX7.out.1 HX7.out.2.1 rfl rfl (by have a:=HLN.out;omega) ?_;intro v8 w8 hw8 hB8)
  have hS:Bx { w8 with drawn:=w8.drawn+1 } w2.heap.size 50 [.int .i64 3,.int .i64 nv,.int .i64 ((tkn ts s).p:Int),.string (bs (tkn ts s1).s),.slice none 0 0]:=hB8 _ _ _ (by decide) HX7.out.2.2.1
  have hw8:Rw X _ V { w8 with drawn:=w8.drawn+1 } base g A c ts V7 s7 v8 (l3++l7):=hw8.below (bdrew (Below.refl _ _))
  have hV8:=HX7.out.2.2.2
  clear hB8
  refine wp_region_held (S:=λw'=>Bx w' w2.heap.size 50 [.int .i64 3,.int .i64 nv,.int .i64 ((tkn ts s).p:Int),.string (bs (tkn ts s1).s),.slice none 0 0]) (by kernel_rfl) ?_
  refine hpu 0 (.pointer (some ⟨g,0,none⟩)) (by kernel_rfl) rfl rfl (λ_ _ _ h=>h) rfl (y_move rfl rfl) hS ?_
  simp only[ap]
  refine hpu 1 (.agg #[.int .i64 3,.int .i64 nv,.int .i64 ((tkn ts s).p:Int),.string (bs (tkn ts s1).s),.slice none 0 0]) (by kernel_rfl) rfl rfl (λ_ _ _ h=>h) rfl (y_load rfl rfl (λw' q=>run_load39 q)) hS ?_
  simp only[ap]
  refine hpu 2 (v8) (by kernel_rfl) rfl rfl (λ_ _ _ h=>h) rfl (y_move rfl rfl) hS ?_
  simp only[ap]
  refine hpu 3 (.pointer (some ⟨g,0,none⟩)) (by kernel_rfl) rfl rfl (λ_ _ _ h=>h) rfl (y_move rfl rfl) hS ?_
  simp only[ap]
  refine hpu 4 (.int .i64 ((tkn ts s5).p:Int)) (by kernel_rfl) rfl rfl (λ_ _ _ h=>h) rfl (y_move rfl rfl) hS ?_
  simp only[ap]
  refine h_callx 5 ({ dst:=some 37,op:=Op.call { callee:=Callee.value (Operand.func 182),args := #[Operand.tmp 35,Operand.tmp 36],argTypes := #[114,3] },type:=3,pos := "grammar.go:68",after := #[{ on:=3,ground:=Ground.data },{ on:=4,ground:=Ground.data }],guard:=none }:Oper) (args := #[.pointer (some ⟨g,0,none⟩),.int .i64 ((tkn ts s5).p:Int)]) own78 rfl rfl (by kernel_rfl) rfl rfl ((HK.out.2.2.2.2.z _ _ base g A c V7 s7 hw8.z).2.2.2 _ HO.out (Rs.step_in HR7.out HK.out.2.1)) ?_
  rintro e w9 (⟨p,er,hr,rfl,hF⟩ |⟨x9,s9,V9,hr9,rfl,hz9,hF9⟩)
  ·exact .inl ⟨_,rfl,rfl,.inl (np_after (HF0.out.trans hw8.fo) (Rs.step_no HR7.out hr) hF)⟩
  have hS9:=hF9.bx hS hg2 hV8
  have hw9:=hw8.step hz9 hF9
  refine .inr ⟨_,rfl,hS9.1,?_⟩
  simp only[ap]
  refine h_one 6 ({ dst:=some 38,op:=Op.buildSlice 28 1 #[(0,Operand.tmp 37)],type:=28,pos := "grammar.go:68",after := #[{ on:=5,ground:=Ground.data }],guard:=none }:Oper) rfl (by kernel_rfl) rfl (slice1 rfl rfl ⟨hS9.1.alloc _,?_⟩)
  simp only[ap]
  refine h_one 7 ({ dst:=some 39,op:=Op.call { callee:=Callee.builtin Builtin.append,args := #[Operand.tmp 34,Operand.tmp 38],argTypes := #[28,28] },type:=28,pos := "grammar.go:68",after := #[{ on:=2,ground:=Ground.data },{ on:=6,ground:=Ground.data },{ on:=5,ground:=Ground.chain }],guard:=none }:Oper) rfl (by kernel_rfl) rfl (rw_append_wp _ _ rfl x9 hw9 rfl rfl (by have a:=HLN.out;rw[List.length_append];omega) (λv10 w10 hw10 hB10=>⟨hB10 _ _ _ (by decide) hS9.1,?_⟩))
  have hS10:=hB10 _ _ _ (by decide) hS9.1
  obtain⟨K10,c10,rfl,_⟩:=hw10.kd
  simp only[ap]
  refine h_callx 8 ({ dst:=some 40,op:=Op.call { callee:=Callee.value (Operand.func 131),args := #[Operand.tmp 32,Operand.tmp 33,Operand.tmp 39],argTypes := #[114,50,28] },type:=3,pos := "grammar.go:68",after := #[{ on:=0,ground:=Ground.data },{ on:=1,ground:=Ground.data },{ on:=7,ground:=Ground.data },{ on:=7,ground:=Ground.chain }],guard:=none }:Oper) (args := #[.pointer (some ⟨g,0,none⟩),.agg #[.int .i64 3,.int .i64 nv,.int .i64 ((tkn ts s).p:Int),.string (bs (tkn ts s1).s),.slice none 0 0],.slice K10 (l3++l7++[x9]).length c10]) own44 rfl rfl (by kernel_rfl) rfl rfl (add_z hw10.pz 3 nv ((tkn ts s).p:Int) (tkn ts s1).s none K10 0 0 _ c10 _ hw10.kds.1 ⟨rfl,hw10.kle⟩ (Rs.step HR7.out hr9 :) HK.out.2.2.1 HK.out.2.2.2.1) ?_
  rintro e w11 (⟨p,er,hr,rfl,hF⟩ |⟨x11,s11,V11,hr11,rfl,hz11,hF11⟩)
  ·exact .inl ⟨_,rfl,rfl,.inl (np_after (HF0.out.trans hw10.fo) hr hF)⟩
  refine .inr ⟨_,rfl,(hF11.bx hS10 hg2 hS9.2).1,?_⟩
  have hS11:=(hF11.bx hS10 hg2 hS9.2).1
  simp only[ap]
  refine hpu 9 (.int .i64 x11) (by kernel_rfl) rfl rfl (λ_ _ _ h=>h) rfl (y_assign rfl rfl) hS11 ?_
  simp only[ap]
  refine wpAnyH_done (by kernel_rfl) ?_ _
  have HR12:=hid hr11
  have HF12:=hid ((HF0.out.trans hw10.fo).trans hF11)
  clear hr11 hr9 hS hS9 hS10 hS11 hw8 hw9 hw10 hz9 hF9 hF11 hB10
  go_wp2
  go_ret
  exact .inr ⟨_,s11,V11,HR12.out,rfl,hz11,HF12.out⟩
end Go.Proofs.YtedkgofehbecmaaGreatDoor
namespace Go.Proofs.YtedkgofehbecmaaGreatDoor
open Go.Lib (hid)
open Go Go.RowKit
open Tr (Bx heap1 bt gen_world ret_int ret_bool cell_same)
def UPost (X:Nat->Prop)(base g:Nat)(A:Option Addr)(c:Nat)(ts:List Tok)(V:Value)(w:World)(R:Rs)(e:Ending)(w':World):Prop:=
 NP g V w R e w'\/∃l s' V',R = .ok l s'/\e = .returned (.tuple #[])/\Px w' g A c ts V' s'/\Nodes w' X base V' s'.nd/\Fo w w' g V V'
set_option maxRecDepth 100000 in
set_option maxHeartbeats 1500000 in
theorem program_z {X:Nat->Prop}{w:World}{base g c:Nat}{A:Option Addr}{ts:List Tok}{V:Value}{s:St}{f:Nat}(h:Pz X w base g A c ts V s)(hne:programM ts (run ts f) s ≠ .out):Calls Tryz.prog 85 #[.pointer (some ⟨g,0,none⟩)] w (UPost X base g A c ts V w (programM ts (run ts f) s)):=by
 obtain⟨R,HR⟩:∃R,R=programM ts (run ts f) s:=⟨_,rfl⟩
 rw[<- HR]at hne |-
 unfold programM at HR
 have HV:=hid (vars_z (f:=f) h 2 (Rs.step_in HR hne))
 have HK:=hid (And.intro HR hne)
 clear HR hne h
 go_enter Tryz.func85,Tryz.ntmps85
 go_wp2_with (go_at_call 127;refine HV.out.mono ?_)
 rintro e w1 (⟨p,er,hr,rfl,hF⟩ |⟨l1,s1,V1,v1,hr1,rfl,hw1,hl1⟩)<;>first|replace hr1:=hid hr1 |replace hr:=hid hr
 ·go_wp2
  exact⟨rfl,.inl ⟨p,er,Rs.step_no HK.out.1 hr.out,rfl,hF⟩⟩
 have HX1:=hid (And.intro (Rs.step HK.out.1 hr1.out) (And.intro hw1 hl1))
 clear hw1 hl1 hr1 HV
 go_wp2
 go_loopg [2] f (λgk a2 wr=>∃(l:List Int) (sl:St) (Vl v2:Value),v2=a2/\R=((run ts gk (.procs l) sl).bind λps s=>(endM ts s).bind λ_ s=>addM 1 0 0 [] ps s)/\Rw X w V wr base g A c ts Vl sl v2 l/\l.length<=sl.nx)
 case atStart=>exact⟨l1,s1,V1,_,rfl,HX1.out.1,HX1.out.2.1,HX1.out.2.2⟩
 case round=>
  clear HX1
  obtain⟨l,sl,Vl,v2,rfl,hR,hw,hl⟩:=hrel
  cases gk with
  |zero=>exact absurd hR HK.out.2
  |succ k=>
   replace hR:R=(procsM ts (run ts k) l sl).bind λps s=>(endM ts s).bind λ_ s=>addM 1 0 0 [] ps s:=hR
   unfold procsM at hR
   obtain⟨K2,c2,rfl,_⟩:=hw.kd
   have HS:=hid (sees_z hw.z wProc)
   have HG:=hid (And.intro hw hl)
   cases q:sees ts wProc sl with
   |true=>
    rw[q]at HS
    rw[if_pos q,Rs.assoc]at hR
    have HR:=hid hR
    clear q hR hw hl
    go_wp2_with (first|(go_at_call 128;refine HS.out.mono ?_;rintro e w2 ⟨rfl,hb2⟩) |(go_at_call 129;refine(proc_z (f:=k) (HG.out.1.below hb2).z (Rs.step_in HR.out HK.out.2)).mono ?_;rintro e w4 (⟨p,er,hr,rfl,hF⟩ |⟨x4,s4,V4,hr4,rfl,hz4,hF4⟩)<;>first|replace hr4:=hid hr4 |replace hr:=hid hr) |(at_builtin;refine rw_append1 rfl _ _ rfl x4 ((HG.out.1.below hb2).step hz4 hF4) rfl rfl (by have:=HG.out.2;have:=HG.out.1.z.len;omega) ?_;intro v6 w6 hw6))
    ·exact⟨rfl,.inl (np_after ((HG.out.1.below hb2).fo) (Rs.step_no HR.out hr.out) hF)⟩
    ·go_roundg k
     case measure=>go_light;omega
     case rel=>
      go_light
      refine⟨l++[x4],s4,V4,_,rfl,Rs.step HR.out hr4.out,hw6,?_⟩
      have a:=okr_ok (ok_proc (o:=True) (B:=0) HG.out.1.z.ok (run_z HG.out.1.z.ok k).ok HG.out.1.z.px.nx (.inl trivial)) hr4.out
      have:=HG.out.2
      simp only[List.length_append,List.length_cons,List.length_nil]
      omega
   |false=>
    rw[q]at HS
    rw[if_neg (by rw[q];decide)]at hR
    have HR:=hid (Rs.step hR rfl)
    clear q hR hw hl
    go_wp2_with (first|(go_at_call 128;refine HS.out.mono ?_;rintro e w2 ⟨rfl,hb2⟩) |(go_at_call 130;refine(end_z (HG.out.1.below hb2).z).mono ?_))
    rintro e w4 (⟨p,er,hr,rfl,hF⟩ |⟨s8,hr8,rfl,hz8,hF8⟩)<;>first|replace hr8:=hid hr8 |replace hr:=hid hr
    ·go_wp2
     exact⟨rfl,.inl (np_after (HG.out.1.below hb2).fo (Rs.step_no HR.out hr.out) hF)⟩
    have hw8:=(HG.out.1.below hb2).step hz8 hF8
    have hz:=hw8.pz
    have HA:=hid (add_any hz.px hz.nd 1 0 0 [] none K2 0 0 l.length c2 l hw8.kds.1 ⟨rfl,hw8.kle⟩ hz.hb hz.gb hz.hA (by have:=hz.hn;have:=hz.len;omega))
    have HR8:=hid (Rs.step HR.out hr8.out)
    have HF:=hid hw8.fo
    clear hz8 hF8 hw8 hr8 hz
    go_wp2_with (go_at_call 131;refine HA.out.mono ?_;rintro e w9 ⟨V9,rfl,hX9,hN9,hF9,hO9⟩)
    go_end0
    exact .inr ⟨_,_,V9,HR8.out,rfl,hX9,hN9,HF.out.trans ⟨hF9,hO9⟩⟩
end Go.Proofs.YtedkgofehbecmaaGreatDoor
namespace Go.Proofs.YtedkgofehbecmaaGreatDoor
open Go.Lib (hid)
open Go Go.RowKit
open Tr (Bx heap1 bt gen_world ret_int ret_bool cell_same)
theorem pn_far {X:Nat->Prop}{w:World}{base g c:Nat}{A:Option Addr}{ts:List Tok}{V:Value}{s:St}{b:Nat}{t:TypeId}{l:List Value}(hp:Px w g A c ts V s)(hn:Nodes w X base V s.nd)(hA:∀a,A=some a->a.block<base)(hB:Bx w b t l)(ht:t≠3)(hg:b≠g)(hV:V.ownBlock≠some b)(hbb:base<=b)(i:Nat)(v:Value):Px (w.setCell ⟨b,i,none⟩ v) g A c ts V s/\Nodes (w.setCell ⟨b,i,none⟩ v) X base V s.nd:=by
 have hfr:Fr (λk=>k=b) w (w.setCell ⟨b,i,none⟩ v):=Fr.set (E:=λk=>k=b) (Fr.refl _ _) rfl _
 refine⟨⟨hp.box.far (p:=⟨b,i,none⟩) (Ne.symm hg) v,hp.toks.fr hfr (λa ha e=>by have:=hA a ha;omega),hp.len,hp.nx,hp.op,hp.mo,hp.ne⟩,?_⟩
 obtain⟨xs,h1,h2⟩:=hn
 refine⟨xs,⟨h1.1,h1.2.imp id ?_⟩,λj hj =>?_⟩
 ·rintro⟨k,cap,cur,q1,q2,q3,q4⟩
  exact⟨k,cap,cur,q1,q2,(hfr.block k (Array.getElem?_eq_some_iff.1 q3).1 (λe=>hV (by rw[q1,<- e];rfl))).trans q3,q4⟩
 ·obtain⟨K,c,e,hk,hkc⟩:=h2 j hj
  refine⟨K,c,e,hk.fr hfr (λk cs hb e =>?_),hkc⟩
  subst e
  have:=hb.symm.trans hB
  simp at this
  exact ht this.2.symm
theorem run_assert49 (p er:Int)(w:World):(Instr.typeAssert (.iface 109 (.agg #[.int .i64 p,.int .i64 er])) 20 109 false).run Tryz.prog w = .ok (.agg #[.int .i64 p,.int .i64 er]) w:=by kernel_rfl
set_option maxRecDepth 100000 in
theorem catch_no (b:Nat)(p:Nat)(er:Int)(older:List PanicEntry)(w:World)(hB:Bx w b 109 [.int .i64 0,.int .i64 0]) :
  CallsD Tryz.prog 172 #[.pointer (some ⟨b,0,none⟩)] (.panicking ({ v:=refV p er,recovered:=false } :: older)) w λe u' w'=>
   e = .returned (.tuple #[])/\u' = .panicking ({ v:=refV p er,recovered:=true } :: older)/\w'=(w.setCell ⟨b,0,none⟩ (.int .i64 (p:Int))).setCell ⟨b,1,none⟩ (.int .i64 er):=by
 have c0:=(hB.cell 0).trans rfl
 have c1:=(hB.cell 1).trans rfl
 have f0:=hB.frozen 0
 have f1:=hB.frozen 1
 refine callsD_of_wpS Tryz.func172 rfl λc₀ cs hu =>?_
 apply wpS_seq
 apply wpS_region
 simp[wpOpsS,go_sem,recoverD,hu,Tryz.ntmps172,Exit.thenS,refV]
 apply wpS_seq
 apply wpS_region
 simp[wpOpsS,go_sem,Exit.thenS]
 refine wpS_cond (t:=true) (by simp[Act.eval,Array.replicate]) ?_
 simp only[if_true]
 apply wpS_region
 simp[wpOpsS,go_sem,run_assert49,c0,c1,f0,f1,bodyPostS,results,Tryz.results172]
set_option maxRecDepth 100000 in
theorem catch_idle (b:Nat)(w:World) :
  CallsD Tryz.prog 172 #[.pointer (some ⟨b,0,none⟩)] .returning w λe u' w'=>e = .returned (.tuple #[])/\u' = .returning/\w'=w:=by
 refine callsD_of_wpS Tryz.func172 rfl λc₀ cs hu =>?_
 apply wpS_seq
 apply wpS_region
 simp[wpOpsS,go_sem,recoverD,hu,Tryz.ntmps172,Exit.thenS]
 apply wpS_seq
 apply wpS_region
 simp[wpOpsS,go_sem,Exit.thenS]
 refine wpS_cond (t:=false) (by simp[Act.eval,Array.replicate]) ?_
 simp only[Bool.false_eq_true,if_false]
 refine wpS_of_wp (wp_skip ?_)
 cases c₀
 simp_all [bodyPostS,results,Tryz.results172]
def FPost (X:Nat->Prop)(base g:Nat)(A:Option Addr)(c:Nat)(ts:List Tok)(V:Value)(w:World)(R:Rs)(e:Ending)(w':World):Prop:=
 (∃p er,R = .no p er/\e = .returned (.agg #[.int .i64 (p:Int),.int .i64 (er:Int)])/\Fr (PE g V) w w')\/∃l s' V',R = .ok l s'/\e = .returned (.agg #[.int .i64 0,.int .i64 0])/\Px w' g A c ts V' s'/\Nodes w' X base V' s'.nd/\Fo w w' g V V'
set_option maxRecDepth 100000 in
set_option maxHeartbeats 1500000 in
theorem follow22 {X:Nat->Prop}{w:World}{base g c:Nat}{A:Option Addr}{ts:List Tok}{V:Value}{s:St}{f:Nat}(h:Pz X w base g A c ts V s)(hne:programM ts (run ts f) s ≠ .out):Calls Tryz.prog 125 #[.pointer (some ⟨g,0,none⟩),.func (.func 85) #[] #[]] w (FPost X base g A c ts V w (programM ts (run ts f) s)):=by
 have hmf:∀(fn:Fn) (first cap:Array Value) (w:World),(Instr.makeFunc fn first cap).run Tryz.prog w = .ok (.func fn first cap) w:=λ_ _ _ _=>rfl
 have HU:=hid (program_z (f:=f) (h.below (heap1 w (.cells #[.int .i64 0,.int .i64 0] 109))) hne)
 have HB:=hid (λw1 V1 (k:Fo (w.alloc (.cells #[.int .i64 0,.int .i64 0] 109)) w1 g V V1)=>h.box (l:=[.int .i64 0,.int .i64 0]) k)
 have HN:=hid (And.intro h.new.1 (And.intro h.hb h.hA))
 generalize programM ts (run ts f) s=R at *
 clear h hne
 go_enter_defers Tryz.func125,Tryz.ntmps125
 go_wp2_with (go_at_call 85;refine HU.out.mono ?_)
 rintro e w1 (⟨p,er,hr,rfl,hF⟩ |⟨l,s1,V1,hr,rfl,hx1,hn1,hF1⟩)<;>replace hr:=hid hr
 ·go_wp2
  have hB:=(HB.out w1 V ⟨hF,λ_ q =>.inl q⟩).1
  refine leaves_cons (f:=172) (args := #[.pointer (some ⟨w.heap.size,0,none⟩)]) (by simp) (by simp[go_sem]) ?_
  refine(catch_no w.heap.size p (er:Int) [] w1 hB).mono ?_
  rintro e u' w'' ⟨rfl,rfl,rfl⟩
  have hE:=(hB.set_ 0 (.int .i64 (p:Int))).set_ 1 (.int .i64 (er:Int))
  simp only[List.set_cons_zero,List.set_cons_succ]at hE
  have z0:=(hE.cell 0).trans rfl
  have z1:=(hE.cell 1).trans rfl
  have hFF:Fo w ((w1.setCell ⟨w.heap.size,0,none⟩ (.int .i64 (p:Int))).setCell ⟨w.heap.size,1,none⟩ (.int .i64 (er:Int))) g V V:=(((Fo.below (heap1 w _)).trans ⟨hF,λ_ q =>.inl q⟩).new (Nat.le_refl _) 0 _).new (Nat.le_refl _) 1 _
  generalize (w1.setCell ⟨w.heap.size,0,none⟩ (.int .i64 (p:Int))).setCell ⟨w.heap.size,1,none⟩ (.int .i64 (er:Int))=W9 at *
  simp[Leaves,settle,results,Tryz.results125,go_sem,z0,z1]
  exact .inl ⟨p,er,hr.out,rfl,hFF.fr⟩
 ·have hB:=HB.out w1 V1 hF1
  have c0:=(hB.1.cell 0).trans rfl
  have c1:=(hB.1.cell 1).trans rfl
  have f0:=hB.1.frozen 0
  have f1:=hB.1.frozen 1
  have hfar:=pn_far hx1 hn1 HN.out.2.2 hB.1 (by decide) HN.out.1 hB.2 HN.out.2.1 0 (.int .i64 0)
  have hB2:=hB.1.set_ 0 (.int .i64 0)
  simp only[List.set_cons_zero]at hB2
  have hfar2:=pn_far hfar.1 hfar.2 HN.out.2.2 hB2 (by decide) HN.out.1 hB.2 HN.out.2.1 1 (.int .i64 0)
  have hB3:=hB2.set_ 1 (.int .i64 0)
  simp only[List.set_cons_zero,List.set_cons_succ]at hB3
  have hFF:=(((Fo.below (V:=V) (heap1 w (.cells #[.int .i64 0,.int .i64 0] 109))).trans hF1).new (Nat.le_refl _) 0 (.int .i64 0)).new (Nat.le_refl _) 1 (.int .i64 0)
  obtain⟨W9,hW9⟩:∃W9,(w1.setCell ⟨w.heap.size,0,none⟩ (.int .i64 0)).setCell ⟨w.heap.size,1,none⟩ (.int .i64 0)=W9:=⟨_,rfl⟩
  rw[hW9]at hfar2 hB3 hFF
  have z0:=(hB3.cell 0).trans rfl
  have z1:=(hB3.cell 1).trans rfl
  have HX:=hid (And.intro hfar2 hFF)
  clear hx1 hn1 hF1 hfar hfar2 hB hB2 hB3 hFF
  go_wp2
  refine leaves_cons (f:=172) (args := #[.pointer (some ⟨w.heap.size,0,none⟩)]) (by simp) (by simp[go_sem]) ?_
  refine(catch_idle w.heap.size _).mono ?_
  rintro e u' w'' ⟨rfl,rfl,rfl⟩
  simp[Leaves,settle,results,Tryz.results125,go_sem,z0,z1]
  exact .inr ⟨l,s1,V1,hr.out,rfl,HX.out.1.1,HX.out.1.2,HX.out.2⟩
end Go.Proofs.YtedkgofehbecmaaGreatDoor
