/- PROVED here: parts Yx of the claim. No condition but those in each theorem's own head. -/
import Derived.Test.YteecfjhjllajlaaGreatDoorM43
namespace Go.Proofs.YteecfjhjllajlaaGreatDoor
section
set_option maxHeartbeats 16000000
set_option maxRecDepth 100000
open Go Go.RowKit
open Tr (Bx heap1 bt Nds VPost Snd dpt ovL ovA)
theorem cat_run (a b:List UInt8)(h:a.length+b.length≤9000000)(w:World):(binOp .add 9 (.string (bsX a)) (.string (bsX b))).run Tryz.prog w = .ok (.string (bsX (a++b))) w:=by
 have h1:¬((bsX a).size+(bsX b).size>9223372036854775807):=by rw[bsX_size,bsX_size];omega
 rw[← bsX_app]
 simp[go_sem,run_string_add_if,h1]
theorem eqs_run (a:List UInt8)(w:World):(binOp .eql 9 (.string (bsX a)) (.string (bsX a))).run Tryz.prog w = .ok (.bool true) w:=by simp[go_sem]
theorem run_field25_0 (b:Nat)(w:World):(Instr.fieldAt 25 (.pointer (some ⟨b,0,none⟩)) 0).run Tryz.prog w = .ok (.pointer (some ⟨b,0,none⟩)) w:=by kernel_rfl
theorem own23x:Own 23:=⟨_,Tryz.func23,by kernel_rfl,by kernel_rfl⟩
theorem own33x:Own 33:=⟨_,Tryz.func33,by kernel_rfl,by kernel_rfl⟩
theorem y_pickF {S:World→Prop}{a:Act}{o:Oper}{c x y:Operand}{v:Value}(ho:o.op = .pick c x y)(hc:a.eval c = .bool false)(hy:a.eval y=v):∀w,S w→(execOp a.eval o).run Tryz.prog w = .ok (.value v) w:=fun w _=>by unfold execOp;simp[ho,hc,hy,asBool]
theorem y_pickT {S:World→Prop}{a:Act}{o:Oper}{c x y:Operand}{v:Value}(ho:o.op = .pick c x y)(hc:a.eval c = .bool true)(hx:a.eval x=v):∀w,S w→(execOp a.eval o).run Tryz.prog w = .ok (.value v) w:=fun w _=>by unfold execOp;simp[ho,hc,hx,asBool]
theorem gtrN_yes {m:Nat}(h:4000<m)(w:World):(binOp .gtr 3 (.int .i64 (m:Int)) (.int .i64 4000)).run Tryz.prog w = .ok (.bool true) w:=by
 have h1:(4000:Int)<(m:Int):=by omega
 simp[go_sem,h1]
theorem gtrN_no {m:Nat}(h:¬4000<m)(w:World):(binOp .gtr 3 (.int .i64 (m:Int)) (.int .i64 4000)).run Tryz.prog w = .ok (.bool false) w:=by
 have h1:(m:Int)≤4000:=by omega
 simp[go_sem,h1]
theorem sg_row (z:Int):∃x:List UInt8,sgVals[(z % 13).toNat]?=some (.string (bsX x))∧Tr.sgB x=true:=by
 have hq:(z % 13).toNat<13:=by omega
 generalize (z % 13).toNat=q at *
 have hq':q=0∨q=1∨q=2∨q=3∨q=4∨q=5∨q=6∨q=7∨q=8∨q=9∨q=10∨q=11∨q=12:=by omega
 rcases hq' with rfl |rfl |rfl |rfl |rfl |rfl |rfl |rfl |rfl |rfl |rfl |rfl |rfl
 ·exact⟨[43],rfl,by decide⟩
 ·exact⟨[45],rfl,by decide⟩
 ·exact⟨[42],rfl,by decide⟩
 ·exact⟨[47],rfl,by decide⟩
 ·exact⟨[37],rfl,by decide⟩
 ·exact⟨[61,61],rfl,by decide⟩
 ·exact⟨[33,61],rfl,by decide⟩
 ·exact⟨[60],rfl,by decide⟩
 ·exact⟨[60,61],rfl,by decide⟩
 ·exact⟨[62],rfl,by decide⟩
 ·exact⟨[62,61],rfl,by decide⟩
 ·exact⟨[38,38],rfl,by decide⟩
 ·exact⟨[124,124],rfl,by decide⟩
structure OvR (x:List UInt8) (la lb:List Tr.Nd) (ra rb:Int) (lc:List Tr.Nd) (rc:Int):Prop where
 eq:lc=ovL 27 0 0 (bsX x) [(la,ra),(lb,rb)]
 len:lc.length=la.length+lb.length+1
 root:rc=((la.length+lb.length:Nat):Int)
 kids:∀y ∈ lc,y.ks.length≤2
 text:∀y ∈ lc,y.tx.size≤281474976710656
 num:∀y ∈ lc,y.n≤9223372036854775807
theorem ovR_of {x:List UInt8}(hx:Tr.sgB x=true){nda ndb:List Nd}(ha:ExR nda)(hb:ExR ndb){ra rb:Int}(hra:ra=(nda.length:Int)-1)(hrb:rb=(ndb.length:Int)-1) :
  OvR x (nda.map cvN) (ndb.map cvN) ra rb (ovL 27 0 0 (bsX x) [(nda.map cvN,ra),(ndb.map cvN,rb)]) ((ovA [(nda.map cvN,ra),(ndb.map cvN,rb)]).length:Int):=by
 have hsa:Snd (nda.map cvN) ra:=by rw[hra];exact ha.ok.snd
 have hsb:Snd (ndb.map cvN) rb:=by rw[hrb];exact hb.ok.snd
 obtain⟨e1,e2⟩:=ov_two 27 0 0 (bsX x) hsa hsb
 have hall:∀ {P:Tr.Nd→Prop},(∀d y,P y→P (Tr.mvN d y))→(∀y ∈ nda.map cvN,P y)→(∀y ∈ ndb.map cvN,P y)→P ⟨27,0,0,bsX x,[ra,((nda.map cvN).length:Int)+rb]⟩→∀y ∈ ovL 27 0 0 (bsX x) [(nda.map cvN,ra),(ndb.map cvN,rb)],P y:=fun {P} h1 h2 h3 h4 y hy=>by
  rw[e1]at hy
  rcases List.mem_append.1 hy with hy |hy
  ·rcases List.mem_append.1 hy with hy |hy
   ·obtain⟨z,hz,rfl⟩:=List.mem_map.1 hy;exact h1 _ _ (h2 z hz)
   ·obtain⟨z,hz,rfl⟩:=List.mem_map.1 hy;exact h1 _ _ (h3 z hz)
  ·rw[List.mem_singleton.1 hy];exact h4
 refine⟨rfl,by rw[e1];simp;omega,by rw[e2],hall (P:=fun y=>y.ks.length≤2) (fun d y h=>by show(y.ks.map _).length≤2;rw[List.length_map];exact h) ha.kids hb.kids (by simp),hall (P:=fun y=>y.tx.size≤281474976710656) (fun d y h=>h) (fun y hy=>by have:=ha.text y hy;omega) (fun y hy=>by have:=hb.text y hy;omega) (by show(bsX x).size≤_;rw[bsX_size];have:=sgB_len hx;omega),hall (P:=fun y=>y.n≤9223372036854775807) (fun d y h=>h) ha.num hb.num (by show(0:Int)≤_;omega)⟩
theorem oprT_eq {nd:List Nd}(h:ExR nd){r:Int}(hr:r=(nd.length:Int)-1):oprT (nd.map cvN) r=opT (nd.map cvN) (exT (nd.map cvN) (nd.map cvN).length) r:=by
 subst hr
 have e:exprT (nd.map cvN) ((nd.length:Int)-1)=exT (nd.map cvN) (nd.map cvN).length ((nd.length:Int)-1):=by
  unfold exprT;rw[h.ok.exB];rfl
 unfold oprT opT
 rw[e]
theorem over_text {x:List UInt8}(hx:Tr.sgB x=true){nda ndb:List Nd}(ha:ExR nda)(hb:ExR ndb){ra rb:Int}(hra:ra=(nda.length:Int)-1)(hrb:rb=(ndb.length:Int)-1)(hda:dpt (nda.map cvN) ra≤38)(hdb:dpt (ndb.map cvN) rb≤38){lc:List Tr.Nd}{rc:Int}(hO:OvR x (nda.map cvN) (ndb.map cvN) ra rb lc rc)(hl:lc.length≤4000) :
  ExOk lc rc∧exprT lc rc=oprT (nda.map cvN) ra++[32]++x++[32]++oprT (ndb.map cvN) rb:=by
 have h1:=over_ex (x:=bsX x) (la:=nda.map cvN) (lb:=ndb.map cvN) (ra:=ra) (rb:=rb) (by rw[hra];exact ha.ok) (by rw[hrb];exact hb.ok) hda hdb (by rw[hO.len]at hl;exact hl) (by rw[bsX_data];exact hx) (exn_of (snd_ahead ha.ok.snd) ha.ok.sh ha.num) (exn_of (snd_ahead hb.ok.snd) hb.ok.sh hb.num)
 rw[← hO.eq,← hO.root,bsX_data]at h1
 refine⟨h1.1,?_⟩
 unfold exprT
 rw[h1.1.exB]
 show exT lc lc.length rc=_
 rw[hO.len,h1.2,oprT_eq ha hra,oprT_eq hb hrb]
theorem bt2 {a b c:World}(h:Below a.heap.size a b)(k:Below b.heap.size b c):Below a.heap.size a c:=bt h k
theorem pe_deep (s t:ByteArray)(sign:Int)(w:World)(hE:Tk.Errs w)(hT:Tb w)(hs:s.size≤600)(ht:t.size≤600){nda ndb:List Nd}{ka kb:Nat}(ha:ansOf exprR s.data.toList = .good nda ka)(hb:ansOf exprR t.data.toList = .good ndb kb)(hd:38<dpt (nda.map cvN) ((nda.length:Int)-1)∨38<dpt (ndb.map cvN) ((ndb.length:Int)-1)) :
  Calls Tryz.prog 8 #[.string s,.string t,.int .i64 sign] w (VPost (.bool true) w):=by
 have HS:=Lib.hid (shown6_any w hE hT)
 have hz:¬(600:Int)<(s.size:Int):=by omega
 have hz2:¬(600:Int)<(t.size:Int):=by omega
 have hxa:=expr_good ha
 have hxb:=expr_good hb
 have PA:=Lib.hid (show∀w',Below w.heap.size w w'→Calls Tryz.prog 29 #[.string s] w' (GPost nda w')from fun w' q=>(expr_any s w' (hE.below q) (by omega)).mono fun _ _ r=>tree_good r ha)
 have PB:=Lib.hid (show∀w',Below w.heap.size w w'→Calls Tryz.prog 29 #[.string t] w' (GPost ndb w')from fun w' q=>(expr_any t w' (hE.below q) (by omega)).mono fun _ _ r=>tree_good r hb)
 unfold GPost at PA PB
 obtain⟨na,hna⟩:∃na,na=nda.length:=⟨_,rfl⟩
 obtain⟨nb,hnb⟩:∃nb,nb=ndb.length:=⟨_,rfl⟩
 have hpa:=hxa.pos
 have hpb:=hxb.pos
 obtain⟨ra,hra⟩:∃ra:Int,ra=(nda.length:Int)-1:=⟨_,rfl⟩
 obtain⟨rb,hrb⟩:∃rb:Int,rb=(ndb.length:Int)-1:=⟨_,rfl⟩
 rw[← hra,← hna]at PA
 rw[← hrb,← hnb]at PB
 have HT:=Lib.hid hT
 have HXA:=Lib.hid hxa
 have HXB:=Lib.hid hxb
 obtain⟨da,hda⟩:∃da,da=dpt (nda.map cvN) ra:=⟨_,rfl⟩
 obtain⟨db,hdb⟩:∃db,db=dpt (ndb.map cvN) rb:=⟨_,rfl⟩
 rw[← hra,← hda,← hrb,← hdb]at hd
 have HD:=Lib.hid hd
 have HDA0:=Lib.hid hda
 have HDB0:=Lib.hid hdb
 have HNA:=Lib.hid hna
 have HNB:=Lib.hid hnb
 clear hd hda hdb hna hnb
 clear hE hT hs ht ha hb hxa hxb hpa hpb hra hrb
 go_enter Tryz.func8,Tryz.ntmps8
 go_wp2_with (go_at_call 19;refine HS.out.mono ?_)
 rintro e w1 ⟨rfl,hb1⟩
 have HA:=Lib.hid (PA.out w1 hb1)
 have HB1:=Lib.hid hb1
 clear hb1 PA
 go_wp2_with (go_at_call 29;refine HA.out.mono ?_)
 rintro e w2 ⟨A,c,rfl,hb2,hN⟩
 have HX2:=Lib.hid (Bx.new w2 25 [.slice A na c,.int .i64 ra])
 have HN2:=Lib.hid (hN.nds.below (heap1 w2 (.cells #[.slice A na c,.int .i64 ra] 25)))
 have HB2:=Lib.hid (bt (bt HB1.out hb2) (heap1 w2 (.cells #[.slice A na c,.int .i64 ra] 25)))
 have HC:=Lib.hid (PB.out _ HB2.out)
 clear hb2 PB HA hN
 go_wp2_with (go_at_call 29;refine HC.out.mono ?_)
 rintro e w3 ⟨B,d,rfl,hb3,hN⟩
 have HX3:=Lib.hid (Bx.new w3 25 [.slice B nb d,.int .i64 rb])
 have HN3:=Lib.hid (hN.nds.below (heap1 w3 (.cells #[.slice B nb d,.int .i64 rb] 25)))
 have HB23:=Lib.hid (bt hb3 (heap1 w3 (.cells #[.slice B nb d,.int .i64 rb] 25)))
 have HX23:=Lib.hid (HX2.out.below HB23.out HX2.out.lt)
 have HN23:=Lib.hid (HN2.out.below HB23.out)
 have HB3:=Lib.hid (bt HB2.out HB23.out)
 clear hb3 HC hN
 have a0:=(HX23.out.cell 0).trans rfl
 have a1:=(HX23.out.cell 1).trans rfl
 have HDA:=Lib.hid ((show Nds (w3.alloc (.cells #[.slice B nb d,.int .i64 rb] 25)) A (nda.map cvN)→Calls Tryz.prog 31 #[.agg #[.slice A na c,.int .i64 ra]] (w3.alloc (.cells #[.slice B nb d,.int .i64 rb] 25)) (Tr.IPost (da:Int) (w3.alloc (.cells #[.slice B nb d,.int .i64 rb] 25)))from fun hN=>by rw[HDA0.out];exact Tr.depth_any A c na (nda.map cvN) ra _ hN (by rw[List.length_map];exact HNA.out) (fun x h=>by have:=HXA.out.kids x h;omega)) HN23.out)
 have hs3:=HB23.out.size
 have hx2:=HX2.out.lt
 by_cases hda8:38<da
 ·have hdz:(38:Int)<(da:Int):=by omega
  go_wp2_with (go_at_call 31;refine HDA.out.mono ?_)
  rintro e w4 ⟨rfl,hb4⟩
  have HB4:=Lib.hid (bt HB3.out hb4)
  clear hb4 a0 a1
  go_wp2
  go_ret
  exact⟨rfl,HB4.out⟩
 ·have hdz:¬(38:Int)<(da:Int):=by omega
  have hdz2:(38:Int)<(db:Int):=by have:=HD.out;omega
  go_wp2_with (go_at_call 31;refine HDA.out.mono ?_)
  rintro e w4 ⟨rfl,hb4⟩
  have HB4:=Lib.hid (bt HB3.out hb4)
  have hx34:=HX3.out.below hb4 HX3.out.lt
  have HDB:=Lib.hid (show Calls Tryz.prog 31 #[.agg #[.slice B nb d,.int .i64 rb]] w4 (Tr.IPost (db:Int) w4)from by rw[HDB0.out];exact Tr.depth_any B d nb (ndb.map cvN) rb _ (HN3.out.below hb4) (by rw[List.length_map];exact HNB.out) (fun x h=>by have:=HXB.out.kids x h;omega))
  clear a0 a1
  have b0:=(hx34.cell 0).trans rfl
  have b1:=(hx34.cell 1).trans rfl
  clear hb4 hx34
  go_wp2_with (go_at_call 31;refine HDB.out.mono ?_)
  rintro e w5 ⟨rfl,hb5⟩
  have HB5:=Lib.hid (bt HB4.out hb5)
  clear hb5 b0 b1
  go_wp2
  go_ret
  exact⟨rfl,HB5.out⟩
theorem pe_good (s t:ByteArray)(sign:Int)(w:World)(hE:Tk.Errs w)(hT:Tb w)(hs:s.size≤600)(ht:t.size≤600)(hg1 : -9223372036854775808≤sign)(hg2:sign≤9223372036854775807){nda ndb:List Nd}{ka kb:Nat}(ha:ansOf exprR s.data.toList = .good nda ka)(hb:ansOf exprR t.data.toList = .good ndb kb)(hd1:dpt (nda.map cvN) ((nda.length:Int)-1)≤38)(hd2:dpt (ndb.map cvN) ((ndb.length:Int)-1)≤38) :
  Calls Tryz.prog 8 #[.string s,.string t,.int .i64 sign] w (VPost (.bool true) w):=by
 have HS:=Lib.hid (shown6_any w hE hT)
 have hz:¬(600:Int)<(s.size:Int):=by omega
 have hz2:¬(600:Int)<(t.size:Int):=by omega
 have hxa:=expr_good ha
 have hxb:=expr_good hb
 have PA:=Lib.hid (show∀w',Below w.heap.size w w'→Calls Tryz.prog 29 #[.string s] w' (GPost nda w')from fun w' q=>(expr_any s w' (hE.below q) (by omega)).mono fun _ _ r=>tree_good r ha)
 have PB:=Lib.hid (show∀w',Below w.heap.size w w'→Calls Tryz.prog 29 #[.string t] w' (GPost ndb w')from fun w' q=>(expr_any t w' (hE.below q) (by omega)).mono fun _ _ r=>tree_good r hb)
 unfold GPost at PA PB
 obtain⟨na,hna⟩:∃na,na=nda.length:=⟨_,rfl⟩
 obtain⟨nb,hnb⟩:∃nb,nb=ndb.length:=⟨_,rfl⟩
 have hpa:=hxa.pos
 have hpb:=hxb.pos
 obtain⟨ra,hra⟩:∃ra:Int,ra=(nda.length:Int)-1:=⟨_,rfl⟩
 obtain⟨rb,hrb⟩:∃rb:Int,rb=(ndb.length:Int)-1:=⟨_,rfl⟩
 rw[← hra,← hna]at PA
 rw[← hrb,← hnb]at PB
 have HT:=Lib.hid hT
 have HXA:=Lib.hid hxa
 have HXB:=Lib.hid hxb
 obtain⟨da,hda⟩:∃da,da=dpt (nda.map cvN) ra:=⟨_,rfl⟩
 obtain⟨db,hdb⟩:∃db,db=dpt (ndb.map cvN) rb:=⟨_,rfl⟩
 rw[← hra,← hda]at hd1
 rw[← hrb,← hdb]at hd2
 have hdz:¬(38:Int)<(da:Int):=by omega
 have hdz2:¬(38:Int)<(db:Int):=by omega
 have HDA0:=Lib.hid hda
 have HDB0:=Lib.hid hdb
 have HNA:=Lib.hid hna
 have HNB:=Lib.hid hnb
 clear hda hdb hna hnb
 have HRA:=Lib.hid hra
 have HRB:=Lib.hid hrb
 clear hE hT hs ht ha hb hxa hxb hpa hpb hra hrb
 go_enter Tryz.func8,Tryz.ntmps8
 go_wp2_with (go_at_call 19;refine HS.out.mono ?_)
 rintro e w1 ⟨rfl,hb1⟩
 have HA:=Lib.hid (PA.out w1 hb1)
 have HB1:=Lib.hid hb1
 clear hb1 PA
 go_wp2_with (go_at_call 29;refine HA.out.mono ?_)
 rintro e w2 ⟨A,c,rfl,hb2,hN⟩
 have HX2:=Lib.hid (Bx.new w2 25 [.slice A na c,.int .i64 ra])
 have HN2:=Lib.hid (hN.nds.below (heap1 w2 (.cells #[.slice A na c,.int .i64 ra] 25)))
 have HB2:=Lib.hid (bt (bt HB1.out hb2) (heap1 w2 (.cells #[.slice A na c,.int .i64 ra] 25)))
 have HC:=Lib.hid (PB.out _ HB2.out)
 clear hb2 PB HA hN
 go_wp2_with (go_at_call 29;refine HC.out.mono ?_)
 rintro e w3 ⟨B,d,rfl,hb3,hN⟩
 have HX3:=Lib.hid (Bx.new w3 25 [.slice B nb d,.int .i64 rb])
 have HN3:=Lib.hid (hN.nds.below (heap1 w3 (.cells #[.slice B nb d,.int .i64 rb] 25)))
 have HB23:=Lib.hid (bt hb3 (heap1 w3 (.cells #[.slice B nb d,.int .i64 rb] 25)))
 have HX23:=Lib.hid (HX2.out.below HB23.out HX2.out.lt)
 have HN23:=Lib.hid (HN2.out.below HB23.out)
 have HB3:=Lib.hid (bt HB2.out HB23.out)
 clear hb3 HC hN
 have a0:=(HX23.out.cell 0).trans rfl
 have a1:=(HX23.out.cell 1).trans rfl
 have HDA:=Lib.hid ((show Nds (w3.alloc (.cells #[.slice B nb d,.int .i64 rb] 25)) A (nda.map cvN)→Calls Tryz.prog 31 #[.agg #[.slice A na c,.int .i64 ra]] (w3.alloc (.cells #[.slice B nb d,.int .i64 rb] 25)) (Tr.IPost (da:Int) (w3.alloc (.cells #[.slice B nb d,.int .i64 rb] 25)))from fun hN=>by rw[HDA0.out];exact Tr.depth_any A c na (nda.map cvN) ra _ hN (by rw[List.length_map];exact HNA.out) (fun x h=>by have:=HXA.out.kids x h;omega)) HN23.out)
 have hs3:=HB23.out.size
 have hx2:=HX2.out.lt
 go_wp2_with (go_at_call 31;refine HDA.out.mono ?_)
 rintro e w4 ⟨rfl,hb4⟩
 have HB4:=Lib.hid (bt HB3.out hb4)
 have HX34:=Lib.hid (HX3.out.below hb4 HX3.out.lt)
 have HX24:=Lib.hid (HX23.out.below hb4 HX23.out.lt)
 have HN34:=Lib.hid (HN3.out.below hb4)
 have HN24:=Lib.hid (HN23.out.below hb4)
 have HDB:=Lib.hid (show Calls Tryz.prog 31 #[.agg #[.slice B nb d,.int .i64 rb]] w4 (Tr.IPost (db:Int) w4)from by rw[HDB0.out];exact Tr.depth_any B d nb (ndb.map cvN) rb _ HN34.out (by rw[List.length_map];exact HNB.out) (fun x h=>by have:=HXB.out.kids x h;omega))
 clear a0 a1
 have b0:=(HX34.out.cell 0).trans rfl
 have b1:=(HX34.out.cell 1).trans rfl
 clear hb4 HN3 HN23 HN2 HX2 HX23 HX3
 go_wp2_with (go_at_call 31;refine HDB.out.mono ?_)
 rintro e w5 ⟨rfl,hb5⟩
 have HB5:=Lib.hid (bt HB4.out hb5)
 have HX35:=Lib.hid (HX34.out.below hb5 HX34.out.lt)
 have HX25:=Lib.hid (HX24.out.below hb5 HX24.out.lt)
 have HN35:=Lib.hid (HN34.out.below hb5)
 have HN25:=Lib.hid (HN24.out.below hb5)
 clear hb5 b0 b1 HX34 HX24 HN34 HN24
 have a0:=(HX25.out.cell 0).trans rfl
 have a1:=(HX25.out.cell 1).trans rfl
 have b0:=(HX35.out.cell 0).trans rfl
 have b1:=(HX35.out.cell 1).trans rfl
 by_cases hneg:sign<0
 ·go_upto_region 11 with(fail)
  obtain⟨sg,hsg0⟩:∃sg:Int,sg = -(sign+1):=⟨_,rfl⟩
  have hsgn:0≤sg:=by omega
  have hsgn2:sg≤9223372036854775807:=by omega
  rw[← hsg0]
  clear hsg0
  obtain⟨x,hrow,hsg⟩:=sg_row (sg)
  have hrow:([.string ⟨#[43]⟩,.string ⟨#[45]⟩,.string ⟨#[42]⟩,.string ⟨#[47]⟩,.string ⟨#[37]⟩,.string ⟨#[61,61]⟩,.string ⟨#[33,61]⟩,.string ⟨#[60]⟩,.string ⟨#[60,61]⟩,.string ⟨#[62]⟩,.string ⟨#[62,61]⟩,.string ⟨#[38,38]⟩,.string ⟨#[124,124]⟩]:List Value)[((sg) % 13).toNat]?=some (.string (bsX x)):=hrow
  have HOK:=Lib.hid (ovR_of hsg HXA.out HXB.out HRA.out HRB.out)
  have HSG:=Lib.hid hsg
  have hxl:=sgB_len hsg
  obtain⟨lc,hlc⟩:∃lc,lc=ovL 27 0 0 (bsX x) [(nda.map cvN,ra),(ndb.map cvN,rb)]:=⟨_,rfl⟩
  obtain⟨rc,hrc⟩:∃rc:Int,rc=((ovA [(nda.map cvN,ra),(ndb.map cvN,rb)]).length:Int):=⟨_,rfl⟩
  obtain⟨nc,hnc⟩:∃nc,nc=lc.length:=⟨_,rfl⟩
  rw[← hlc,← hrc]at HOK
  have HOV:=Lib.hid (show Calls Tryz.prog 32 #[.agg #[.int .i64 27,.int .i64 0,.int .i64 0,.string (bsX x),.slice none 0 0],.slice (some ⟨w5.heap.size+1,0,none⟩) 2 2] ((w5.alloc (.cells #[.string ⟨#[43]⟩,.string ⟨#[45]⟩,.string ⟨#[42]⟩,.string ⟨#[47]⟩,.string ⟨#[37]⟩,.string ⟨#[61,61]⟩,.string ⟨#[33,61]⟩,.string ⟨#[60]⟩,.string ⟨#[60,61]⟩,.string ⟨#[62]⟩,.string ⟨#[62,61]⟩,.string ⟨#[38,38]⟩,.string ⟨#[124,124]⟩] 9)).alloc (.cells #[.slice A na c,.int .i64 ra,.slice B nb d,.int .i64 rb] 25)) (fun e w'=>∃C cc,e = .returned (.agg #[.slice C nc cc,.int .i64 rc])∧Nds w' C lc∧Below ((w5.alloc (.cells #[.string ⟨#[43]⟩,.string ⟨#[45]⟩,.string ⟨#[42]⟩,.string ⟨#[47]⟩,.string ⟨#[37]⟩,.string ⟨#[61,61]⟩,.string ⟨#[33,61]⟩,.string ⟨#[60]⟩,.string ⟨#[60,61]⟩,.string ⟨#[62]⟩,.string ⟨#[62,61]⟩,.string ⟨#[38,38]⟩,.string ⟨#[124,124]⟩] 9)).alloc (.cells #[.slice A na c,.int .i64 ra,.slice B nb d,.int .i64 rb] 25)).heap.size ((w5.alloc (.cells #[.string ⟨#[43]⟩,.string ⟨#[45]⟩,.string ⟨#[42]⟩,.string ⟨#[47]⟩,.string ⟨#[37]⟩,.string ⟨#[61,61]⟩,.string ⟨#[33,61]⟩,.string ⟨#[60]⟩,.string ⟨#[60,61]⟩,.string ⟨#[62]⟩,.string ⟨#[62,61]⟩,.string ⟨#[38,38]⟩,.string ⟨#[124,124]⟩] 9)).alloc (.cells #[.slice A na c,.int .i64 ra,.slice B nb d,.int .i64 rb] 25)) w')from by
   have hsa:Snd (nda.map cvN) ra:=by rw[HRA.out];exact HXA.out.ok.snd
   have hsb:Snd (ndb.map cvN) rb:=by rw[HRB.out];exact HXB.out.ok.snd
   have b2:=Bx.new (w5.alloc (.cells #[.string ⟨#[43]⟩,.string ⟨#[45]⟩,.string ⟨#[42]⟩,.string ⟨#[47]⟩,.string ⟨#[37]⟩,.string ⟨#[61,61]⟩,.string ⟨#[33,61]⟩,.string ⟨#[60]⟩,.string ⟨#[60,61]⟩,.string ⟨#[62]⟩,.string ⟨#[62,61]⟩,.string ⟨#[38,38]⟩,.string ⟨#[124,124]⟩] 9)) 25 [.slice A na c,.int .i64 ra,.slice B nb d,.int .i64 rb]
   rw[World.size_alloc]at b2
   have hbw:=(heap1 w5 (.cells #[.string ⟨#[43]⟩,.string ⟨#[45]⟩,.string ⟨#[42]⟩,.string ⟨#[47]⟩,.string ⟨#[37]⟩,.string ⟨#[61,61]⟩,.string ⟨#[33,61]⟩,.string ⟨#[60]⟩,.string ⟨#[60,61]⟩,.string ⟨#[62]⟩,.string ⟨#[62,61]⟩,.string ⟨#[38,38]⟩,.string ⟨#[124,124]⟩] 9)).alloc (by rw[World.size_alloc];omega) (.cells #[.slice A na c,.int .i64 ra,.slice B nb d,.int .i64 rb] 25)
   have hfa:=HXA.out.few
   have hfb:=HXB.out.few
   have e2:=(ov_two 27 0 0 (bsX x) hsa hsb).2
   rw[List.length_map,List.length_map]at e2
   refine(Tr.over_any 27 0 0 (bsX x) none 0 0 (some ⟨w5.heap.size+1,0,none⟩) 2 2 [(nda.map cvN,ra),(ndb.map cvN,rb)] _ (fun _=>⟨w5.heap.size+1,0,rfl,by rw[World.size_alloc,World.size_alloc];omega,fun j hj =>?_⟩) rfl (by omega) (fun tt htt =>?_) (by rw[e2];omega) (fun i =>?_)).mono ?_
   ·have hj':j=0∨j=1:=by simp at hj;omega
    rcases hj' with rfl |rfl
    ·exact⟨A,c,by show _=some (Value.slice A (nda.map cvN).length c);rw[List.length_map,← HNA.out];exact(b2.cell 0).trans rfl,(b2.cell 1).trans rfl,HN25.out.below hbw⟩
    ·exact⟨B,d,by show _=some (Value.slice B (ndb.map cvN).length d);rw[List.length_map,← HNB.out];exact(b2.cell 2).trans rfl,(b2.cell 3).trans rfl,HN35.out.below hbw⟩
   ·rcases List.mem_cons.1 htt with rfl |htt
    ·exact⟨by show(nda.map cvN).length≤4000;rw[List.length_map];exact hfa,fun y hy=>by have:=HXA.out.kids y hy;omega⟩
    ·rw[List.mem_singleton.1 htt];exact⟨by show(ndb.map cvN).length≤4000;rw[List.length_map];exact hfb,fun y hy=>by have:=HXB.out.kids y hy;omega⟩
   ·rcases i with _ |_ |i
    ·exact Nat.zero_le _
    ·show(ovA [(nda.map cvN,ra)]).length≤_
     simp[ovA];omega
    ·rw[show List.take (i+1+1) [(nda.map cvN,ra),(ndb.map cvN,rb)]=[(nda.map cvN,ra),(ndb.map cvN,rb)]by simp,e2];omega
   ·rintro e w' ⟨C,cc,he,hN,_,hb'⟩
    rw[← hlc,← hnc,← hrc]at he
    rw[← hlc]at hN
    exact⟨C,cc,he,hN,hb'⟩)
  have HNC:=Lib.hid hnc
  have ta0:=(show∀o,(w5.alloc o).cell? ⟨w2.heap.size,0,none⟩=some (.slice A na c)from fun o=>((HX25.out.alloc o).cell 0).trans rfl)
  have ta1:=(show∀o,(w5.alloc o).cell? ⟨w2.heap.size,1,none⟩=some (.int .i64 ra)from fun o=>((HX25.out.alloc o).cell 1).trans rfl)
  have tb0:=(show∀o,(w5.alloc o).cell? ⟨w3.heap.size,0,none⟩=some (.slice B nb d)from fun o=>((HX35.out.alloc o).cell 0).trans rfl)
  have tb1:=(show∀o,(w5.alloc o).cell? ⟨w3.heap.size,1,none⟩=some (.int .i64 rb)from fun o=>((HX35.out.alloc o).cell 1).trans rfl)
  clear hlc hrc hnc hsg
  go_wp2_with (go_at_call 32;refine HOV.out.mono ?_)
  rintro e w7 ⟨C,cc,rfl,hN7,hb7⟩
  have hbs:=bt ((heap1 w5 (.cells #[.string ⟨#[43]⟩,.string ⟨#[45]⟩,.string ⟨#[42]⟩,.string ⟨#[47]⟩,.string ⟨#[37]⟩,.string ⟨#[61,61]⟩,.string ⟨#[33,61]⟩,.string ⟨#[60]⟩,.string ⟨#[60,61]⟩,.string ⟨#[62]⟩,.string ⟨#[62,61]⟩,.string ⟨#[38,38]⟩,.string ⟨#[124,124]⟩] 9)).alloc (by rw[World.size_alloc];omega) (.cells #[.slice A na c,.int .i64 ra,.slice B nb d,.int .i64 rb] 25)) hb7
  obtain⟨W8,hW8⟩:∃W8,w7.alloc (.cells #[.slice C nc cc,.int .i64 rc] 25)=W8:=⟨_,rfl⟩
  have hbv:Below w5.heap.size w5 W8:=by rw[← hW8];exact bt hbs (heap1 _ _)
  have HXC:=Lib.hid (show Bx W8 w7.heap.size 25 [.slice C nc cc,.int .i64 rc]by rw[← hW8];exact Bx.new w7 25 _)
  have HNC8:=Lib.hid (show Nds W8 C lc by rw[← hW8];exact hN7.below (heap1 _ _))
  have HXA8:=Lib.hid (HX25.out.below hbv HX25.out.lt)
  have HXB8:=Lib.hid (HX35.out.below hbv HX35.out.lt)
  have HNA8:=Lib.hid (HN25.out.below hbv)
  have HNB8:=Lib.hid (HN35.out.below hbv)
  have HB8:=Lib.hid (bt HB5.out hbv)
  clear hb7 hN7 hbs hbv a0 a1 b0 b1 ta0 ta1 tb0 tb1 hrow HX25 HX35 HN25 HN35
  go_upto_region 13 with(fail)
  try rw[hW8]
  obtain⟨W5,hW5⟩:∃W5:World,{ W8 with drawn:=W8.drawn+1 }=W5:=⟨_,rfl⟩
  have hS:Below W8.heap.size W8 W5:=by rw[← hW5];exact Below.drew (Below.refl _ _)
  refine wp_region_held (S:=fun q:World=>Below W8.heap.size W8 q) (by kernel_rfl) ?_
  rw[hW5]
  clear hW5 hW8
  by_cases hbig:4000<nc
  ·clear HOV HNC8 HNA8 HNB8
   refine hpu 0 (.pointer (some ⟨w7.heap.size,0,none⟩)) (by kernel_rfl) rfl rfl (fun _ _ _ h=>h) rfl (y_field rfl rfl (run_field25_0 _)) hS ?_
   simp only[ap]
   refine hpu 1 (.slice C nc cc) (by kernel_rfl) rfl rfl (fun _ _ _ h=>h) rfl (y_load rfl rfl (fun w' q=>run_load23o (((HXC.out.below q HXC.out.lt).cell 0).trans rfl))) hS ?_
   simp only[ap]
   refine hpu 2 (.int .i64 (nc:Int)) (by kernel_rfl) rfl rfl (fun _ _ _ h=>h) rfl (y_len23 rfl rfl) hS ?_
   simp only[ap]
   refine hpu 3 (.bool true) (by kernel_rfl) rfl rfl (fun _ _ _ h=>h) rfl (y_bin rfl rfl rfl (fun w=>by simp[go_sem]) (fun w=>gtrN_yes hbig w)) hS ?_
   simp only[ap]
   refine hpu 4 (.bool true) (by kernel_rfl) rfl rfl (fun _ _ _ h=>h) rfl (y_move rfl rfl) hS ?_
   simp only[ap]
   refine h_skip 5 ({ dst:=some 83,op:=Op.load 25 (Operand.tmp 16),type:=25,pos := "more.go:27",after := #[{ on:=4,ground:=Ground.guard }],guard:=some (4,false) }:Oper) (by kernel_rfl) rfl (by kernel_rfl) (by kernel_rfl) (fun _ _ _ h=>h) (by kernel_rfl) hS ?_
   simp only[ap]
   refine h_skip 7 ({ dst:=some 85,op:=Op.load 25 (Operand.tmp 8),type:=25,pos := "more.go:27",after := #[{ on:=4,ground:=Ground.guard }],guard:=some (4,false) }:Oper) (by kernel_rfl) rfl (by kernel_rfl) (by kernel_rfl) (fun _ _ _ h=>h) (by kernel_rfl) hS ?_
   simp only[ap]
   refine h_skip 10 ({ dst:=some 88,op:=Op.move (Operand.tmp 15),type:=9,pos := "more.go:27",after := #[{ on:=4,ground:=Ground.guard }],guard:=some (4,false) }:Oper) (by kernel_rfl) rfl (by kernel_rfl) (by kernel_rfl) (fun _ _ _ h=>h) (by kernel_rfl) hS ?_
   simp only[ap]
   refine h_skip 13 ({ dst:=some 91,op:=Op.load 25 (Operand.tmp 11),type:=25,pos := "more.go:27",after := #[{ on:=4,ground:=Ground.guard }],guard:=some (4,false) }:Oper) (by kernel_rfl) rfl (by kernel_rfl) (by kernel_rfl) (fun _ _ _ h=>h) (by kernel_rfl) hS ?_
   simp only[ap]
   refine h_skip1 6 ({ dst:=some 84,op:=Op.call { callee:=Callee.value (Operand.func 23),args := #[Operand.tmp 83],argTypes := #[25] },type:=9,pos := "more.go:27",after := #[{ on:=5,ground:=Ground.data },{ on:=4,ground:=Ground.chain },{ on:=4,ground:=Ground.guard }],guard:=some (4,false) }:Oper) rfl (by kernel_rfl) (by kernel_rfl) hS ?_
   simp only[ap]
   refine h_skip1 8 ({ dst:=some 86,op:=Op.call { callee:=Callee.value (Operand.func 33),args := #[Operand.tmp 85],argTypes := #[25] },type:=9,pos := "more.go:27",after := #[{ on:=7,ground:=Ground.data },{ on:=6,ground:=Ground.chain },{ on:=4,ground:=Ground.guard }],guard:=some (4,false) }:Oper) rfl (by kernel_rfl) (by kernel_rfl) hS ?_
   simp only[ap]
   refine h_skip 9 ({ dst:=some 87,op:=Op.binOp BinOp.add 9 (Operand.tmp 86) (Operand.const (Value.string { data := #[32] })) 9,type:=9,pos := "more.go:27",after := #[{ on:=8,ground:=Ground.data },{ on:=4,ground:=Ground.guard }],guard:=some (4,false) }:Oper) (by kernel_rfl) rfl (by kernel_rfl) (by kernel_rfl) (fun _ _ _ h=>h) (by kernel_rfl) hS ?_
   simp only[ap]
   refine h_skip 11 ({ dst:=some 89,op:=Op.binOp BinOp.add 9 (Operand.tmp 87) (Operand.tmp 88) 9,type:=9,pos := "more.go:27",after := #[{ on:=9,ground:=Ground.data },{ on:=10,ground:=Ground.data },{ on:=4,ground:=Ground.guard }],guard:=some (4,false) }:Oper) (by kernel_rfl) rfl (by kernel_rfl) (by kernel_rfl) (fun _ _ _ h=>h) (by kernel_rfl) hS ?_
   simp only[ap]
   refine h_skip 12 ({ dst:=some 90,op:=Op.binOp BinOp.add 9 (Operand.tmp 89) (Operand.const (Value.string { data := #[32] })) 9,type:=9,pos := "more.go:27",after := #[{ on:=11,ground:=Ground.data },{ on:=4,ground:=Ground.guard }],guard:=some (4,false) }:Oper) (by kernel_rfl) rfl (by kernel_rfl) (by kernel_rfl) (fun _ _ _ h=>h) (by kernel_rfl) hS ?_
   simp only[ap]
   refine h_skip1 14 ({ dst:=some 92,op:=Op.call { callee:=Callee.value (Operand.func 33),args := #[Operand.tmp 91],argTypes := #[25] },type:=9,pos := "more.go:27",after := #[{ on:=13,ground:=Ground.data },{ on:=8,ground:=Ground.chain },{ on:=4,ground:=Ground.guard }],guard:=some (4,false) }:Oper) rfl (by kernel_rfl) (by kernel_rfl) hS ?_
   simp only[ap]
   refine h_skip 15 ({ dst:=some 93,op:=Op.binOp BinOp.add 9 (Operand.tmp 90) (Operand.tmp 92) 9,type:=9,pos := "more.go:27",after := #[{ on:=12,ground:=Ground.data },{ on:=14,ground:=Ground.data },{ on:=4,ground:=Ground.guard }],guard:=some (4,false) }:Oper) (by kernel_rfl) rfl (by kernel_rfl) (by kernel_rfl) (fun _ _ _ h=>h) (by kernel_rfl) hS ?_
   simp only[ap]
   refine h_skip 16 ({ dst:=some 94,op:=Op.binOp BinOp.eql 9 (Operand.tmp 84) (Operand.tmp 93) 9,type:=4,pos := "more.go:27",after := #[{ on:=6,ground:=Ground.data },{ on:=15,ground:=Ground.data },{ on:=4,ground:=Ground.guard }],guard:=some (4,false) }:Oper) (by kernel_rfl) rfl (by kernel_rfl) (by kernel_rfl) (fun _ _ _ h=>h) (by kernel_rfl) hS ?_
   simp only[ap]
   refine hpu 17 (.bool true) (by kernel_rfl) rfl rfl (fun _ _ _ h=>h) rfl (y_pickT rfl rfl rfl) hS ?_
   simp only[ap]
   refine hpu 18 (.bool true) (by kernel_rfl) rfl rfl (fun _ _ _ h=>h) rfl (y_assign rfl rfl) hS ?_
   simp only[ap]
   refine wpAnyH_done (by kernel_rfl) ?_ _
   have HBE:=Lib.hid (bt HB8.out hS)
   go_wp2
   go_ret
   exact⟨rfl,HBE.out⟩
  ·have hl:lc.length≤4000:=by rw[← HNC.out];omega
   have hov:=over_text HSG.out HXA.out HXB.out HRA.out HRB.out (by rw[← HDA0.out];exact hd1) (by rw[← HDB0.out];exact hd2) HOK.out hl
   have HOT:=Lib.hid hov.2
   have hoa:(oprT (nda.map cvN) ra).length≤256002:=by
    have:=exprT_len (l:=nda.map cvN) ra HXA.out.num
    unfold oprT;split
    ·simp only[List.length_append,List.length_cons,List.length_nil];omega
    ·omega
   have hob:(oprT (ndb.map cvN) rb).length≤256002:=by
    have:=exprT_len (l:=ndb.map cvN) rb HXB.out.num
    unfold oprT;split
    ·simp only[List.length_append,List.length_cons,List.length_nil];omega
    ·omega
   have HCC:=Lib.hid (show∀w',Below W8.heap.size W8 w'→Calls Tryz.prog 23 #[.agg #[.slice C nc cc,.int .i64 rc]] w' (VPost (.string (bsX (oprT (nda.map cvN) ra++[32]++x++[32]++oprT (ndb.map cvN) rb))) w')from fun w' q=>by
    have hin:TIn w' C nc lc:=by
     refine⟨HNC8.out.below q,HNC.out,fun y hy=>by have:=HOK.out.kids y hy;omega,HOK.out.text,HOK.out.num,fun p bA off K m c hp _ _ hk _ =>?_,HT.out.below (bt HB8.out q)⟩
     have:=hov.1.exp lc[p] (List.getElem_mem hp)
     rw[ndA_eq hp]at hk
     rw[hk]at this
     cases this
    rw[← HOT.out]
    exact printExpr_any C nc cc lc rc w' hin (fun y hy=>by have:=HOK.out.kids y hy;omega))
   have HCA:=Lib.hid (show∀w',Below W8.heap.size W8 w'→Calls Tryz.prog 33 #[.agg #[.slice A na c,.int .i64 ra]] w' (VPost (.string (bsX (oprT (nda.map cvN) ra))) w')from fun w' q=>by
    have hin:=tin_expr (HNA8.out.below q) HXA.out (HT.out.below (bt HB8.out q))
    rw[← HNA.out]at hin
    have hpos:=HXA.out.pos
    have e:ra=((na-1:Nat):Int):=by rw[HRA.out,HNA.out];omega
    rw[e]
    exact operand_any A na c (nda.map cvN) (na-1) w' hin (fun y hy=>by have:=HXA.out.kids y hy;omega) (by rw[HNA.out];omega))
   have HCB:=Lib.hid (show∀w',Below W8.heap.size W8 w'→Calls Tryz.prog 33 #[.agg #[.slice B nb d,.int .i64 rb]] w' (VPost (.string (bsX (oprT (ndb.map cvN) rb))) w')from fun w' q=>by
    have hin:=tin_expr (HNB8.out.below q) HXB.out (HT.out.below (bt HB8.out q))
    rw[← HNB.out]at hin
    have hpos:=HXB.out.pos
    have e:rb=((nb-1:Nat):Int):=by rw[HRB.out,HNB.out];omega
    rw[e]
    exact operand_any B nb d (ndb.map cvN) (nb-1) w' hin (fun y hy=>by have:=HXB.out.kids y hy;omega) (by rw[HNB.out];omega))
   clear hov HOT
   generalize oprT (nda.map cvN) ra=oa at *
   generalize oprT (ndb.map cvN) rb=ob at *
   refine hpu 0 (.pointer (some ⟨w7.heap.size,0,none⟩)) (by kernel_rfl) rfl rfl (fun _ _ _ h=>h) rfl (y_field rfl rfl (run_field25_0 _)) hS ?_
   simp only[ap]
   refine hpu 1 (.slice C nc cc) (by kernel_rfl) rfl rfl (fun _ _ _ h=>h) rfl (y_load rfl rfl (fun w' q=>run_load23o (((HXC.out.below q HXC.out.lt).cell 0).trans rfl))) hS ?_
   simp only[ap]
   refine hpu 2 (.int .i64 (nc:Int)) (by kernel_rfl) rfl rfl (fun _ _ _ h=>h) rfl (y_len23 rfl rfl) hS ?_
   simp only[ap]
   refine hpu 3 (.bool false) (by kernel_rfl) rfl rfl (fun _ _ _ h=>h) rfl (y_bin rfl rfl rfl (fun w=>by simp[go_sem]) (fun w=>gtrN_no hbig w)) hS ?_
   simp only[ap]
   refine hpu 4 (.bool false) (by kernel_rfl) rfl rfl (fun _ _ _ h=>h) rfl (y_move rfl rfl) hS ?_
   simp only[ap]
   refine hpu 5 (.agg #[.slice C nc cc,.int .i64 rc]) (by kernel_rfl) rfl rfl (fun _ _ _ h=>h) rfl (y_load rfl rfl (fun w' q=>run_load25 (((HXC.out.below q HXC.out.lt).cell 0).trans rfl) (((HXC.out.below q HXC.out.lt).cell 1).trans rfl))) hS ?_
   simp only[ap]
   refine hpu 7 (.agg #[.slice A na c,.int .i64 ra]) (by kernel_rfl) rfl rfl (fun _ _ _ h=>h) rfl (y_load rfl rfl (fun w' q=>run_load25 (((HXA8.out.below q HXA8.out.lt).cell 0).trans rfl) (((HXA8.out.below q HXA8.out.lt).cell 1).trans rfl))) hS ?_
   simp only[ap]
   refine hpu 10 (.string (bsX x)) (by kernel_rfl) rfl rfl (fun _ _ _ h=>h) rfl (y_move rfl rfl) hS ?_
   simp only[ap]
   refine hpu 13 (.agg #[.slice B nb d,.int .i64 rb]) (by kernel_rfl) rfl rfl (fun _ _ _ h=>h) rfl (y_load rfl rfl (fun w' q=>run_load25 (((HXB8.out.below q HXB8.out.lt).cell 0).trans rfl) (((HXB8.out.below q HXB8.out.lt).cell 1).trans rfl))) hS ?_
   simp only[ap]
   refine h_callx 6 ({ dst:=some 84,op:=Op.call { callee:=Callee.value (Operand.func 23),args := #[Operand.tmp 83],argTypes := #[25] },type:=9,pos := "more.go:27",after := #[{ on:=5,ground:=Ground.data },{ on:=4,ground:=Ground.chain },{ on:=4,ground:=Ground.guard }],guard:=some (4,false) }:Oper) (args := #[.agg #[.slice C nc cc,.int .i64 rc]]) own23x rfl rfl (by kernel_rfl) rfl rfl (HCC.out _ hS) ?_
   rintro e W9 ⟨rfl,hb9⟩
   have hS9:=bt2 hS hb9
   refine .inr ⟨_,rfl,hS9,?_⟩
   simp only[ap]
   refine h_callx 8 ({ dst:=some 86,op:=Op.call { callee:=Callee.value (Operand.func 33),args := #[Operand.tmp 85],argTypes := #[25] },type:=9,pos := "more.go:27",after := #[{ on:=7,ground:=Ground.data },{ on:=6,ground:=Ground.chain },{ on:=4,ground:=Ground.guard }],guard:=some (4,false) }:Oper) (args := #[.agg #[.slice A na c,.int .i64 ra]]) own33x rfl rfl (by kernel_rfl) rfl rfl (HCA.out _ hS9) ?_
   rintro e W10 ⟨rfl,hb10⟩
   have hS10:=bt2 hS9 hb10
   refine .inr ⟨_,rfl,hS10,?_⟩
   simp only[ap]
   refine hpu 9 (.string (bsX (oa++[32]))) (by kernel_rfl) rfl rfl (fun _ _ _ h=>h) rfl (y_bin rfl rfl rfl (fun w=>by simp[go_sem]) (cat_run _ [32] (by simp only[List.length_cons,List.length_nil];omega))) hS10 ?_
   simp only[ap]
   refine hpu 11 (.string (bsX (oa++[32]++x))) (by kernel_rfl) rfl rfl (fun _ _ _ h=>h) rfl (y_bin rfl rfl rfl (fun w=>by simp[go_sem]) (cat_run _ _ (by simp only[List.length_append,List.length_cons,List.length_nil];omega))) hS10 ?_
   simp only[ap]
   refine hpu 12 (.string (bsX (oa++[32]++x++[32]))) (by kernel_rfl) rfl rfl (fun _ _ _ h=>h) rfl (y_bin rfl rfl rfl (fun w=>by simp[go_sem]) (cat_run _ [32] (by simp only[List.length_append,List.length_cons,List.length_nil];omega))) hS10 ?_
   simp only[ap]
   refine h_callx 14 ({ dst:=some 92,op:=Op.call { callee:=Callee.value (Operand.func 33),args := #[Operand.tmp 91],argTypes := #[25] },type:=9,pos := "more.go:27",after := #[{ on:=13,ground:=Ground.data },{ on:=8,ground:=Ground.chain },{ on:=4,ground:=Ground.guard }],guard:=some (4,false) }:Oper) (args := #[.agg #[.slice B nb d,.int .i64 rb]]) own33x rfl rfl (by kernel_rfl) rfl rfl (HCB.out _ hS10) ?_
   rintro e W11 ⟨rfl,hb11⟩
   have hS:=bt2 hS10 hb11
   refine .inr ⟨_,rfl,hS,?_⟩
   simp only[ap]
   refine hpu 15 (.string (bsX (oa++[32]++x++[32]++ob))) (by kernel_rfl) rfl rfl (fun _ _ _ h=>h) rfl (y_bin rfl rfl rfl (fun w=>by simp[go_sem]) (cat_run _ _ (by simp only[List.length_append,List.length_cons,List.length_nil];omega))) hS ?_
   simp only[ap]
   refine hpu 16 (.bool true) (by kernel_rfl) rfl rfl (fun _ _ _ h=>h) rfl (y_bin rfl rfl rfl (fun w=>by simp[go_sem]) (eqs_run _)) hS ?_
   simp only[ap]
   refine hpu 17 (.bool true) (by kernel_rfl) rfl rfl (fun _ _ _ h=>h) rfl (y_pickF rfl rfl rfl) hS ?_
   simp only[ap]
   refine hpu 18 (.bool true) (by kernel_rfl) rfl rfl (fun _ _ _ h=>h) rfl (y_assign rfl rfl) hS ?_
   simp only[ap]
   refine wpAnyH_done (by kernel_rfl) ?_ _
   have HBE:=Lib.hid (bt HB8.out hS)
   go_wp2
   go_ret
   exact⟨rfl,HBE.out⟩
 ·have hsgn:0≤sign:=by omega
  obtain⟨x,hrow,hsg⟩:=sg_row (sign)
  have hrow:([.string ⟨#[43]⟩,.string ⟨#[45]⟩,.string ⟨#[42]⟩,.string ⟨#[47]⟩,.string ⟨#[37]⟩,.string ⟨#[61,61]⟩,.string ⟨#[33,61]⟩,.string ⟨#[60]⟩,.string ⟨#[60,61]⟩,.string ⟨#[62]⟩,.string ⟨#[62,61]⟩,.string ⟨#[38,38]⟩,.string ⟨#[124,124]⟩]:List Value)[((sign) % 13).toNat]?=some (.string (bsX x)):=hrow
  have HOK:=Lib.hid (ovR_of hsg HXA.out HXB.out HRA.out HRB.out)
  have HSG:=Lib.hid hsg
  have hxl:=sgB_len hsg
  obtain⟨lc,hlc⟩:∃lc,lc=ovL 27 0 0 (bsX x) [(nda.map cvN,ra),(ndb.map cvN,rb)]:=⟨_,rfl⟩
  obtain⟨rc,hrc⟩:∃rc:Int,rc=((ovA [(nda.map cvN,ra),(ndb.map cvN,rb)]).length:Int):=⟨_,rfl⟩
  obtain⟨nc,hnc⟩:∃nc,nc=lc.length:=⟨_,rfl⟩
  rw[← hlc,← hrc]at HOK
  have HOV:=Lib.hid (show Calls Tryz.prog 32 #[.agg #[.int .i64 27,.int .i64 0,.int .i64 0,.string (bsX x),.slice none 0 0],.slice (some ⟨w5.heap.size+1,0,none⟩) 2 2] ((w5.alloc (.cells #[.string ⟨#[43]⟩,.string ⟨#[45]⟩,.string ⟨#[42]⟩,.string ⟨#[47]⟩,.string ⟨#[37]⟩,.string ⟨#[61,61]⟩,.string ⟨#[33,61]⟩,.string ⟨#[60]⟩,.string ⟨#[60,61]⟩,.string ⟨#[62]⟩,.string ⟨#[62,61]⟩,.string ⟨#[38,38]⟩,.string ⟨#[124,124]⟩] 9)).alloc (.cells #[.slice A na c,.int .i64 ra,.slice B nb d,.int .i64 rb] 25)) (fun e w'=>∃C cc,e = .returned (.agg #[.slice C nc cc,.int .i64 rc])∧Nds w' C lc∧Below ((w5.alloc (.cells #[.string ⟨#[43]⟩,.string ⟨#[45]⟩,.string ⟨#[42]⟩,.string ⟨#[47]⟩,.string ⟨#[37]⟩,.string ⟨#[61,61]⟩,.string ⟨#[33,61]⟩,.string ⟨#[60]⟩,.string ⟨#[60,61]⟩,.string ⟨#[62]⟩,.string ⟨#[62,61]⟩,.string ⟨#[38,38]⟩,.string ⟨#[124,124]⟩] 9)).alloc (.cells #[.slice A na c,.int .i64 ra,.slice B nb d,.int .i64 rb] 25)).heap.size ((w5.alloc (.cells #[.string ⟨#[43]⟩,.string ⟨#[45]⟩,.string ⟨#[42]⟩,.string ⟨#[47]⟩,.string ⟨#[37]⟩,.string ⟨#[61,61]⟩,.string ⟨#[33,61]⟩,.string ⟨#[60]⟩,.string ⟨#[60,61]⟩,.string ⟨#[62]⟩,.string ⟨#[62,61]⟩,.string ⟨#[38,38]⟩,.string ⟨#[124,124]⟩] 9)).alloc (.cells #[.slice A na c,.int .i64 ra,.slice B nb d,.int .i64 rb] 25)) w')from by
   have hsa:Snd (nda.map cvN) ra:=by rw[HRA.out];exact HXA.out.ok.snd
   have hsb:Snd (ndb.map cvN) rb:=by rw[HRB.out];exact HXB.out.ok.snd
   have b2:=Bx.new (w5.alloc (.cells #[.string ⟨#[43]⟩,.string ⟨#[45]⟩,.string ⟨#[42]⟩,.string ⟨#[47]⟩,.string ⟨#[37]⟩,.string ⟨#[61,61]⟩,.string ⟨#[33,61]⟩,.string ⟨#[60]⟩,.string ⟨#[60,61]⟩,.string ⟨#[62]⟩,.string ⟨#[62,61]⟩,.string ⟨#[38,38]⟩,.string ⟨#[124,124]⟩] 9)) 25 [.slice A na c,.int .i64 ra,.slice B nb d,.int .i64 rb]
   rw[World.size_alloc]at b2
   have hbw:=(heap1 w5 (.cells #[.string ⟨#[43]⟩,.string ⟨#[45]⟩,.string ⟨#[42]⟩,.string ⟨#[47]⟩,.string ⟨#[37]⟩,.string ⟨#[61,61]⟩,.string ⟨#[33,61]⟩,.string ⟨#[60]⟩,.string ⟨#[60,61]⟩,.string ⟨#[62]⟩,.string ⟨#[62,61]⟩,.string ⟨#[38,38]⟩,.string ⟨#[124,124]⟩] 9)).alloc (by rw[World.size_alloc];omega) (.cells #[.slice A na c,.int .i64 ra,.slice B nb d,.int .i64 rb] 25)
   have hfa:=HXA.out.few
   have hfb:=HXB.out.few
   have e2:=(ov_two 27 0 0 (bsX x) hsa hsb).2
   rw[List.length_map,List.length_map]at e2
   refine(Tr.over_any 27 0 0 (bsX x) none 0 0 (some ⟨w5.heap.size+1,0,none⟩) 2 2 [(nda.map cvN,ra),(ndb.map cvN,rb)] _ (fun _=>⟨w5.heap.size+1,0,rfl,by rw[World.size_alloc,World.size_alloc];omega,fun j hj =>?_⟩) rfl (by omega) (fun tt htt =>?_) (by rw[e2];omega) (fun i =>?_)).mono ?_
   ·have hj':j=0∨j=1:=by simp at hj;omega
    rcases hj' with rfl |rfl
    ·exact⟨A,c,by show _=some (Value.slice A (nda.map cvN).length c);rw[List.length_map,← HNA.out];exact(b2.cell 0).trans rfl,(b2.cell 1).trans rfl,HN25.out.below hbw⟩
    ·exact⟨B,d,by show _=some (Value.slice B (ndb.map cvN).length d);rw[List.length_map,← HNB.out];exact(b2.cell 2).trans rfl,(b2.cell 3).trans rfl,HN35.out.below hbw⟩
   ·rcases List.mem_cons.1 htt with rfl |htt
    ·exact⟨by show(nda.map cvN).length≤4000;rw[List.length_map];exact hfa,fun y hy=>by have:=HXA.out.kids y hy;omega⟩
    ·rw[List.mem_singleton.1 htt];exact⟨by show(ndb.map cvN).length≤4000;rw[List.length_map];exact hfb,fun y hy=>by have:=HXB.out.kids y hy;omega⟩
   ·rcases i with _ |_ |i
    ·exact Nat.zero_le _
    ·show(ovA [(nda.map cvN,ra)]).length≤_
     simp[ovA];omega
    ·rw[show List.take (i+1+1) [(nda.map cvN,ra),(ndb.map cvN,rb)]=[(nda.map cvN,ra),(ndb.map cvN,rb)]by simp,e2];omega
   ·rintro e w' ⟨C,cc,he,hN,_,hb'⟩
    rw[← hlc,← hnc,← hrc]at he
    rw[← hlc]at hN
    exact⟨C,cc,he,hN,hb'⟩)
  have HNC:=Lib.hid hnc
  have ta0:=(show∀o,(w5.alloc o).cell? ⟨w2.heap.size,0,none⟩=some (.slice A na c)from fun o=>((HX25.out.alloc o).cell 0).trans rfl)
  have ta1:=(show∀o,(w5.alloc o).cell? ⟨w2.heap.size,1,none⟩=some (.int .i64 ra)from fun o=>((HX25.out.alloc o).cell 1).trans rfl)
  have tb0:=(show∀o,(w5.alloc o).cell? ⟨w3.heap.size,0,none⟩=some (.slice B nb d)from fun o=>((HX35.out.alloc o).cell 0).trans rfl)
  have tb1:=(show∀o,(w5.alloc o).cell? ⟨w3.heap.size,1,none⟩=some (.int .i64 rb)from fun o=>((HX35.out.alloc o).cell 1).trans rfl)
  clear hlc hrc hnc hsg
  go_wp2_with (go_at_call 32;refine HOV.out.mono ?_)
  rintro e w7 ⟨C,cc,rfl,hN7,hb7⟩
  have hbs:=bt ((heap1 w5 (.cells #[.string ⟨#[43]⟩,.string ⟨#[45]⟩,.string ⟨#[42]⟩,.string ⟨#[47]⟩,.string ⟨#[37]⟩,.string ⟨#[61,61]⟩,.string ⟨#[33,61]⟩,.string ⟨#[60]⟩,.string ⟨#[60,61]⟩,.string ⟨#[62]⟩,.string ⟨#[62,61]⟩,.string ⟨#[38,38]⟩,.string ⟨#[124,124]⟩] 9)).alloc (by rw[World.size_alloc];omega) (.cells #[.slice A na c,.int .i64 ra,.slice B nb d,.int .i64 rb] 25)) hb7
  obtain⟨W8,hW8⟩:∃W8,w7.alloc (.cells #[.slice C nc cc,.int .i64 rc] 25)=W8:=⟨_,rfl⟩
  have hbv:Below w5.heap.size w5 W8:=by rw[← hW8];exact bt hbs (heap1 _ _)
  have HXC:=Lib.hid (show Bx W8 w7.heap.size 25 [.slice C nc cc,.int .i64 rc]by rw[← hW8];exact Bx.new w7 25 _)
  have HNC8:=Lib.hid (show Nds W8 C lc by rw[← hW8];exact hN7.below (heap1 _ _))
  have HXA8:=Lib.hid (HX25.out.below hbv HX25.out.lt)
  have HXB8:=Lib.hid (HX35.out.below hbv HX35.out.lt)
  have HNA8:=Lib.hid (HN25.out.below hbv)
  have HNB8:=Lib.hid (HN35.out.below hbv)
  have HB8:=Lib.hid (bt HB5.out hbv)
  clear hb7 hN7 hbs hbv a0 a1 b0 b1 ta0 ta1 tb0 tb1 hrow HX25 HX35 HN25 HN35
  go_upto_region 13 with(fail)
  try rw[hW8]
  obtain⟨W5,hW5⟩:∃W5:World,{ W8 with drawn:=W8.drawn+1 }=W5:=⟨_,rfl⟩
  have hS:Below W8.heap.size W8 W5:=by rw[← hW5];exact Below.drew (Below.refl _ _)
  refine wp_region_held (S:=fun q:World=>Below W8.heap.size W8 q) (by kernel_rfl) ?_
  rw[hW5]
  clear hW5 hW8
  by_cases hbig:4000<nc
  ·clear HOV HNC8 HNA8 HNB8
   refine hpu 0 (.pointer (some ⟨w7.heap.size,0,none⟩)) (by kernel_rfl) rfl rfl (fun _ _ _ h=>h) rfl (y_field rfl rfl (run_field25_0 _)) hS ?_
   simp only[ap]
   refine hpu 1 (.slice C nc cc) (by kernel_rfl) rfl rfl (fun _ _ _ h=>h) rfl (y_load rfl rfl (fun w' q=>run_load23o (((HXC.out.below q HXC.out.lt).cell 0).trans rfl))) hS ?_
   simp only[ap]
   refine hpu 2 (.int .i64 (nc:Int)) (by kernel_rfl) rfl rfl (fun _ _ _ h=>h) rfl (y_len23 rfl rfl) hS ?_
   simp only[ap]
   refine hpu 3 (.bool true) (by kernel_rfl) rfl rfl (fun _ _ _ h=>h) rfl (y_bin rfl rfl rfl (fun w=>by simp[go_sem]) (fun w=>gtrN_yes hbig w)) hS ?_
   simp only[ap]
   refine hpu 4 (.bool true) (by kernel_rfl) rfl rfl (fun _ _ _ h=>h) rfl (y_move rfl rfl) hS ?_
   simp only[ap]
   refine h_skip 5 ({ dst:=some 83,op:=Op.load 25 (Operand.tmp 16),type:=25,pos := "more.go:27",after := #[{ on:=4,ground:=Ground.guard }],guard:=some (4,false) }:Oper) (by kernel_rfl) rfl (by kernel_rfl) (by kernel_rfl) (fun _ _ _ h=>h) (by kernel_rfl) hS ?_
   simp only[ap]
   refine h_skip 7 ({ dst:=some 85,op:=Op.load 25 (Operand.tmp 8),type:=25,pos := "more.go:27",after := #[{ on:=4,ground:=Ground.guard }],guard:=some (4,false) }:Oper) (by kernel_rfl) rfl (by kernel_rfl) (by kernel_rfl) (fun _ _ _ h=>h) (by kernel_rfl) hS ?_
   simp only[ap]
   refine h_skip 10 ({ dst:=some 88,op:=Op.move (Operand.tmp 15),type:=9,pos := "more.go:27",after := #[{ on:=4,ground:=Ground.guard }],guard:=some (4,false) }:Oper) (by kernel_rfl) rfl (by kernel_rfl) (by kernel_rfl) (fun _ _ _ h=>h) (by kernel_rfl) hS ?_
   simp only[ap]
   refine h_skip 13 ({ dst:=some 91,op:=Op.load 25 (Operand.tmp 11),type:=25,pos := "more.go:27",after := #[{ on:=4,ground:=Ground.guard }],guard:=some (4,false) }:Oper) (by kernel_rfl) rfl (by kernel_rfl) (by kernel_rfl) (fun _ _ _ h=>h) (by kernel_rfl) hS ?_
   simp only[ap]
   refine h_skip1 6 ({ dst:=some 84,op:=Op.call { callee:=Callee.value (Operand.func 23),args := #[Operand.tmp 83],argTypes := #[25] },type:=9,pos := "more.go:27",after := #[{ on:=5,ground:=Ground.data },{ on:=4,ground:=Ground.chain },{ on:=4,ground:=Ground.guard }],guard:=some (4,false) }:Oper) rfl (by kernel_rfl) (by kernel_rfl) hS ?_
   simp only[ap]
   refine h_skip1 8 ({ dst:=some 86,op:=Op.call { callee:=Callee.value (Operand.func 33),args := #[Operand.tmp 85],argTypes := #[25] },type:=9,pos := "more.go:27",after := #[{ on:=7,ground:=Ground.data },{ on:=6,ground:=Ground.chain },{ on:=4,ground:=Ground.guard }],guard:=some (4,false) }:Oper) rfl (by kernel_rfl) (by kernel_rfl) hS ?_
   simp only[ap]
   refine h_skip 9 ({ dst:=some 87,op:=Op.binOp BinOp.add 9 (Operand.tmp 86) (Operand.const (Value.string { data := #[32] })) 9,type:=9,pos := "more.go:27",after := #[{ on:=8,ground:=Ground.data },{ on:=4,ground:=Ground.guard }],guard:=some (4,false) }:Oper) (by kernel_rfl) rfl (by kernel_rfl) (by kernel_rfl) (fun _ _ _ h=>h) (by kernel_rfl) hS ?_
   simp only[ap]
   refine h_skip 11 ({ dst:=some 89,op:=Op.binOp BinOp.add 9 (Operand.tmp 87) (Operand.tmp 88) 9,type:=9,pos := "more.go:27",after := #[{ on:=9,ground:=Ground.data },{ on:=10,ground:=Ground.data },{ on:=4,ground:=Ground.guard }],guard:=some (4,false) }:Oper) (by kernel_rfl) rfl (by kernel_rfl) (by kernel_rfl) (fun _ _ _ h=>h) (by kernel_rfl) hS ?_
   simp only[ap]
   refine h_skip 12 ({ dst:=some 90,op:=Op.binOp BinOp.add 9 (Operand.tmp 89) (Operand.const (Value.string { data := #[32] })) 9,type:=9,pos := "more.go:27",after := #[{ on:=11,ground:=Ground.data },{ on:=4,ground:=Ground.guard }],guard:=some (4,false) }:Oper) (by kernel_rfl) rfl (by kernel_rfl) (by kernel_rfl) (fun _ _ _ h=>h) (by kernel_rfl) hS ?_
   simp only[ap]
   refine h_skip1 14 ({ dst:=some 92,op:=Op.call { callee:=Callee.value (Operand.func 33),args := #[Operand.tmp 91],argTypes := #[25] },type:=9,pos := "more.go:27",after := #[{ on:=13,ground:=Ground.data },{ on:=8,ground:=Ground.chain },{ on:=4,ground:=Ground.guard }],guard:=some (4,false) }:Oper) rfl (by kernel_rfl) (by kernel_rfl) hS ?_
   simp only[ap]
   refine h_skip 15 ({ dst:=some 93,op:=Op.binOp BinOp.add 9 (Operand.tmp 90) (Operand.tmp 92) 9,type:=9,pos := "more.go:27",after := #[{ on:=12,ground:=Ground.data },{ on:=14,ground:=Ground.data },{ on:=4,ground:=Ground.guard }],guard:=some (4,false) }:Oper) (by kernel_rfl) rfl (by kernel_rfl) (by kernel_rfl) (fun _ _ _ h=>h) (by kernel_rfl) hS ?_
   simp only[ap]
   refine h_skip 16 ({ dst:=some 94,op:=Op.binOp BinOp.eql 9 (Operand.tmp 84) (Operand.tmp 93) 9,type:=4,pos := "more.go:27",after := #[{ on:=6,ground:=Ground.data },{ on:=15,ground:=Ground.data },{ on:=4,ground:=Ground.guard }],guard:=some (4,false) }:Oper) (by kernel_rfl) rfl (by kernel_rfl) (by kernel_rfl) (fun _ _ _ h=>h) (by kernel_rfl) hS ?_
   simp only[ap]
   refine hpu 17 (.bool true) (by kernel_rfl) rfl rfl (fun _ _ _ h=>h) rfl (y_pickT rfl rfl rfl) hS ?_
   simp only[ap]
   refine hpu 18 (.bool true) (by kernel_rfl) rfl rfl (fun _ _ _ h=>h) rfl (y_assign rfl rfl) hS ?_
   simp only[ap]
   refine wpAnyH_done (by kernel_rfl) ?_ _
   have HBE:=Lib.hid (bt HB8.out hS)
   go_wp2
   go_ret
   exact⟨rfl,HBE.out⟩
  ·have hl:lc.length≤4000:=by rw[← HNC.out];omega
   have hov:=over_text HSG.out HXA.out HXB.out HRA.out HRB.out (by rw[← HDA0.out];exact hd1) (by rw[← HDB0.out];exact hd2) HOK.out hl
   have HOT:=Lib.hid hov.2
   have hoa:(oprT (nda.map cvN) ra).length≤256002:=by
    have:=exprT_len (l:=nda.map cvN) ra HXA.out.num
    unfold oprT;split
    ·simp only[List.length_append,List.length_cons,List.length_nil];omega
    ·omega
   have hob:(oprT (ndb.map cvN) rb).length≤256002:=by
    have:=exprT_len (l:=ndb.map cvN) rb HXB.out.num
    unfold oprT;split
    ·simp only[List.length_append,List.length_cons,List.length_nil];omega
    ·omega
   have HCC:=Lib.hid (show∀w',Below W8.heap.size W8 w'→Calls Tryz.prog 23 #[.agg #[.slice C nc cc,.int .i64 rc]] w' (VPost (.string (bsX (oprT (nda.map cvN) ra++[32]++x++[32]++oprT (ndb.map cvN) rb))) w')from fun w' q=>by
    have hin:TIn w' C nc lc:=by
     refine⟨HNC8.out.below q,HNC.out,fun y hy=>by have:=HOK.out.kids y hy;omega,HOK.out.text,HOK.out.num,fun p bA off K m c hp _ _ hk _ =>?_,HT.out.below (bt HB8.out q)⟩
     have:=hov.1.exp lc[p] (List.getElem_mem hp)
     rw[ndA_eq hp]at hk
     rw[hk]at this
     cases this
    rw[← HOT.out]
    exact printExpr_any C nc cc lc rc w' hin (fun y hy=>by have:=HOK.out.kids y hy;omega))
   have HCA:=Lib.hid (show∀w',Below W8.heap.size W8 w'→Calls Tryz.prog 33 #[.agg #[.slice A na c,.int .i64 ra]] w' (VPost (.string (bsX (oprT (nda.map cvN) ra))) w')from fun w' q=>by
    have hin:=tin_expr (HNA8.out.below q) HXA.out (HT.out.below (bt HB8.out q))
    rw[← HNA.out]at hin
    have hpos:=HXA.out.pos
    have e:ra=((na-1:Nat):Int):=by rw[HRA.out,HNA.out];omega
    rw[e]
    exact operand_any A na c (nda.map cvN) (na-1) w' hin (fun y hy=>by have:=HXA.out.kids y hy;omega) (by rw[HNA.out];omega))
   have HCB:=Lib.hid (show∀w',Below W8.heap.size W8 w'→Calls Tryz.prog 33 #[.agg #[.slice B nb d,.int .i64 rb]] w' (VPost (.string (bsX (oprT (ndb.map cvN) rb))) w')from fun w' q=>by
    have hin:=tin_expr (HNB8.out.below q) HXB.out (HT.out.below (bt HB8.out q))
    rw[← HNB.out]at hin
    have hpos:=HXB.out.pos
    have e:rb=((nb-1:Nat):Int):=by rw[HRB.out,HNB.out];omega
    rw[e]
    exact operand_any B nb d (ndb.map cvN) (nb-1) w' hin (fun y hy=>by have:=HXB.out.kids y hy;omega) (by rw[HNB.out];omega))
   clear hov HOT
   generalize oprT (nda.map cvN) ra=oa at *
   generalize oprT (ndb.map cvN) rb=ob at *
   refine hpu 0 (.pointer (some ⟨w7.heap.size,0,none⟩)) (by kernel_rfl) rfl rfl (fun _ _ _ h=>h) rfl (y_field rfl rfl (run_field25_0 _)) hS ?_
   simp only[ap]
   refine hpu 1 (.slice C nc cc) (by kernel_rfl) rfl rfl (fun _ _ _ h=>h) rfl (y_load rfl rfl (fun w' q=>run_load23o (((HXC.out.below q HXC.out.lt).cell 0).trans rfl))) hS ?_
   simp only[ap]
   refine hpu 2 (.int .i64 (nc:Int)) (by kernel_rfl) rfl rfl (fun _ _ _ h=>h) rfl (y_len23 rfl rfl) hS ?_
   simp only[ap]
   refine hpu 3 (.bool false) (by kernel_rfl) rfl rfl (fun _ _ _ h=>h) rfl (y_bin rfl rfl rfl (fun w=>by simp[go_sem]) (fun w=>gtrN_no hbig w)) hS ?_
   simp only[ap]
   refine hpu 4 (.bool false) (by kernel_rfl) rfl rfl (fun _ _ _ h=>h) rfl (y_move rfl rfl) hS ?_
   simp only[ap]
   refine hpu 5 (.agg #[.slice C nc cc,.int .i64 rc]) (by kernel_rfl) rfl rfl (fun _ _ _ h=>h) rfl (y_load rfl rfl (fun w' q=>run_load25 (((HXC.out.below q HXC.out.lt).cell 0).trans rfl) (((HXC.out.below q HXC.out.lt).cell 1).trans rfl))) hS ?_
   simp only[ap]
   refine hpu 7 (.agg #[.slice A na c,.int .i64 ra]) (by kernel_rfl) rfl rfl (fun _ _ _ h=>h) rfl (y_load rfl rfl (fun w' q=>run_load25 (((HXA8.out.below q HXA8.out.lt).cell 0).trans rfl) (((HXA8.out.below q HXA8.out.lt).cell 1).trans rfl))) hS ?_
   simp only[ap]
   refine hpu 10 (.string (bsX x)) (by kernel_rfl) rfl rfl (fun _ _ _ h=>h) rfl (y_move rfl rfl) hS ?_
   simp only[ap]
   refine hpu 13 (.agg #[.slice B nb d,.int .i64 rb]) (by kernel_rfl) rfl rfl (fun _ _ _ h=>h) rfl (y_load rfl rfl (fun w' q=>run_load25 (((HXB8.out.below q HXB8.out.lt).cell 0).trans rfl) (((HXB8.out.below q HXB8.out.lt).cell 1).trans rfl))) hS ?_
   simp only[ap]
   refine h_callx 6 ({ dst:=some 84,op:=Op.call { callee:=Callee.value (Operand.func 23),args := #[Operand.tmp 83],argTypes := #[25] },type:=9,pos := "more.go:27",after := #[{ on:=5,ground:=Ground.data },{ on:=4,ground:=Ground.chain },{ on:=4,ground:=Ground.guard }],guard:=some (4,false) }:Oper) (args := #[.agg #[.slice C nc cc,.int .i64 rc]]) own23x rfl rfl (by kernel_rfl) rfl rfl (HCC.out _ hS) ?_
   rintro e W9 ⟨rfl,hb9⟩
   have hS9:=bt2 hS hb9
   refine .inr ⟨_,rfl,hS9,?_⟩
   simp only[ap]
   refine h_callx 8 ({ dst:=some 86,op:=Op.call { callee:=Callee.value (Operand.func 33),args := #[Operand.tmp 85],argTypes := #[25] },type:=9,pos := "more.go:27",after := #[{ on:=7,ground:=Ground.data },{ on:=6,ground:=Ground.chain },{ on:=4,ground:=Ground.guard }],guard:=some (4,false) }:Oper) (args := #[.agg #[.slice A na c,.int .i64 ra]]) own33x rfl rfl (by kernel_rfl) rfl rfl (HCA.out _ hS9) ?_
   rintro e W10 ⟨rfl,hb10⟩
   have hS10:=bt2 hS9 hb10
   refine .inr ⟨_,rfl,hS10,?_⟩
   simp only[ap]
   refine hpu 9 (.string (bsX (oa++[32]))) (by kernel_rfl) rfl rfl (fun _ _ _ h=>h) rfl (y_bin rfl rfl rfl (fun w=>by simp[go_sem]) (cat_run _ [32] (by simp only[List.length_cons,List.length_nil];omega))) hS10 ?_
   simp only[ap]
   refine hpu 11 (.string (bsX (oa++[32]++x))) (by kernel_rfl) rfl rfl (fun _ _ _ h=>h) rfl (y_bin rfl rfl rfl (fun w=>by simp[go_sem]) (cat_run _ _ (by simp only[List.length_append,List.length_cons,List.length_nil];omega))) hS10 ?_
   simp only[ap]
   refine hpu 12 (.string (bsX (oa++[32]++x++[32]))) (by kernel_rfl) rfl rfl (fun _ _ _ h=>h) rfl (y_bin rfl rfl rfl (fun w=>by simp[go_sem]) (cat_run _ [32] (by simp only[List.length_append,List.length_cons,List.length_nil];omega))) hS10 ?_
   simp only[ap]
   refine h_callx 14 ({ dst:=some 92,op:=Op.call { callee:=Callee.value (Operand.func 33),args := #[Operand.tmp 91],argTypes := #[25] },type:=9,pos := "more.go:27",after := #[{ on:=13,ground:=Ground.data },{ on:=8,ground:=Ground.chain },{ on:=4,ground:=Ground.guard }],guard:=some (4,false) }:Oper) (args := #[.agg #[.slice B nb d,.int .i64 rb]]) own33x rfl rfl (by kernel_rfl) rfl rfl (HCB.out _ hS10) ?_
   rintro e W11 ⟨rfl,hb11⟩
   have hS:=bt2 hS10 hb11
   refine .inr ⟨_,rfl,hS,?_⟩
   simp only[ap]
   refine hpu 15 (.string (bsX (oa++[32]++x++[32]++ob))) (by kernel_rfl) rfl rfl (fun _ _ _ h=>h) rfl (y_bin rfl rfl rfl (fun w=>by simp[go_sem]) (cat_run _ _ (by simp only[List.length_append,List.length_cons,List.length_nil];omega))) hS ?_
   simp only[ap]
   refine hpu 16 (.bool true) (by kernel_rfl) rfl rfl (fun _ _ _ h=>h) rfl (y_bin rfl rfl rfl (fun w=>by simp[go_sem]) (eqs_run _)) hS ?_
   simp only[ap]
   refine hpu 17 (.bool true) (by kernel_rfl) rfl rfl (fun _ _ _ h=>h) rfl (y_pickF rfl rfl rfl) hS ?_
   simp only[ap]
   refine hpu 18 (.bool true) (by kernel_rfl) rfl rfl (fun _ _ _ h=>h) rfl (y_assign rfl rfl) hS ?_
   simp only[ap]
   refine wpAnyH_done (by kernel_rfl) ?_ _
   have HBE:=Lib.hid (bt HB8.out hS)
   go_wp2
   go_ret
   exact⟨rfl,HBE.out⟩
end
end Go.Proofs.YteecfjhjllajlaaGreatDoor
